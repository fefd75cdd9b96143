import PyProof.Rows.All
import Wide.All
import OpenK.AllK
import Wide.FinOn
import Lean
import PyProof.EqAt
import PyProof.EqKinds
import PyProof.TupleCall
import PyProof.ListRange
import PyProof.ZipIter
import PyProof.Rows.ZipGen
import OpenK.KRaise
import OpenK.KOwn
import PyProof.ExcClass3
import PyProof.ExcBaseAll.ValueError
import PyProof.FString
import PyProof.FString4
import PyProof.StrLawsRepr
import PyProof.NsDelKeeps
import PyProof.Rows.Catch
import PyProof.ExcArgsOwn
import PyProof.ExcAttrAll.ValueError
import OpenK.KDescr
import KE.KIsAll
import KE.KLam
import PyProof.EnumMake
import PyProof.Rows.EnumRows
import PyProof.Rows.SeqMore2
import PyProof.AttrMissHeap
import KE.KDictOf
import KE.KRevIter
import KE.KDictLaws
import PyProof.ConsumeWalk
import PyProof.CallStr
import KE.KIntText
import PyProof.SetScanFacts
import PyProof.Rows.SetFrom
import PyProof.CollectWalk
import PyProof.FactsAll.set
import PyProof.SetRoads
import PyProof.CollectStr
import PyProof.Rows.SortShell
import PyProof.Rows.SortWalk
import PyProof.ReprRoads
import PyProof.AutoListH
import PyProof.AutoSeq1
import PyProof.P3Eq
import KE.KDictList
import PyProof.Draws
import PyProof.Rows.SortStr
import PyProof.StrLawsChain
import PyProof.StrBlockI
import PyProof.StrBlock2
import KE.RegKIsAll
import PySem.Challenge.RW_regrowth_k31_next_kinds
set_option Elab.async false
set_option linter.all false
set_option maxRecDepth 100000
namespace L2
open PySem PySem.Spec PyProof.Rows
abbrev bC:=Sum Int Str
def fm:bC->Value->Bool
 | .inl k,v=>Value.isInt k v
 | .inr x,v=>Value.isStrOf x v
def BJ (w:World):bC->Int
 | .inl k=>hashInt k
 | .inr x=>hashStr w x
theorem aL:∀{k:bC} {v:Value},fm k v=true->(∃i t,k=Sum.inl i/\v=Value.int i t)\/(∃x t,k=Sum.inr x/\v=Value.str x t)
 | .inl i,v,h=>by
  obtain⟨t,e⟩:=Value.isInt_shape (k:=i) (v:=v) h
  exact .inl ⟨i,t,rfl,e⟩
 | .inr x,v,h=>by
  obtain⟨t,e⟩:=Value.isStrOf_shape (x:=x) (v:=v) h
  exact .inr ⟨x,t,rfl,e⟩
theorem jL (i:Int)(t:Tok):fm (.inl i) (.int i t)=true:=by simp[fm,Value.isInt]
theorem dY (x:Str)(t:Tok):fm (.inr x) (.str x t)=true:=by simp[fm,Value.isStrOf]
theorem xI (a b:Int):decide ((Sum.inl a:bC)=Sum.inl b)=(a == b):=by
 by_cases e:a=b
 ·subst e;simp
 ·have h:¬ (Sum.inl a:bC)=Sum.inl b:=fun q=>e (Sum.inl.inj q)
  rw[decide_eq_false h]
  exact (beq_eq_false_iff_ne.mpr e).symm
theorem xf (a b:Str):decide ((Sum.inr a:bC)=Sum.inr b)=decide (a=b):=by
 by_cases e:a=b
 ·subst e;simp
 ·have h:¬ (Sum.inr a:bC)=Sum.inr b:=fun q=>e (Sum.inr.inj q)
  rw[decide_eq_false h,decide_eq_false e]
theorem wY (a:Int)(b:Str):decide ((Sum.inl a:bC)=Sum.inr b)=false:=decide_eq_false (fun q=>nomatch q)
theorem xc (a:Str)(b:Int):decide ((Sum.inr a:bC)=Sum.inl b)=false:=decide_eq_false (fun q=>nomatch q)
def ay (prog:Program)(w:World):PySem.KeyKind prog w bC where
 is:=fm
 hash:=BJ w
 inj:=fun v a b ha hb=>by
  rcases aL ha with⟨i,t,rfl,rfl⟩ | ⟨x,t,rfl,rfl⟩
  ·rcases aL hb with⟨j,u,rfl,e⟩ | ⟨y,u,rfl,e⟩
   ·injection e with e1 _;rw[e1]
   ·exact nomatch e
  ·rcases aL hb with⟨j,u,rfl,e⟩ | ⟨y,u,rfl,e⟩
   ·exact nomatch e
   ·injection e with e1 _;rw[e1]
 byValue:=fun k v h=>by
  rcases aL h with⟨i,t,rfl,rfl⟩ | ⟨x,t,rfl,rfl⟩<;>rfl
 pyHash:=fun hv h=>by
  rcases aL hv with⟨i,t,rfl,rfl⟩ | ⟨x,t,rfl,rfl⟩
  ·exact wpAny_pyHash_int h
  ·exact wpAny_pyHash_str h
 eqBool:=fun hu hv h=>by
  rcases aL hu with⟨i,t,rfl,rfl⟩ | ⟨x,t,rfl,rfl⟩
  ·rcases aL hv with⟨j,u,rfl,rfl⟩ | ⟨y,u,rfl,rfl⟩
   ·rw[xI]at h;exact wpAny_eqBool_int h
   ·rw[wY]at h;exact SeqAt.EqAt.int_str i t y u _ _ _ _ h
  ·rcases aL hv with⟨j,u,rfl,rfl⟩ | ⟨y,u,rfl,rfl⟩
   ·rw[xc]at h;exact SeqAt.EqAt.str_int x t j u _ _ _ _ h
   ·rw[xf]at h;exact wpAny_eqBool_str h
 «strs»:=fun k x t v h=>by
  rcases aL h with⟨i,u,rfl,e⟩ | ⟨y,u,rfl,e⟩
  ·exact nomatch e
  ·injection e with e1 _
   subst e1
   cases v<;>rfl
theorem lE (prog:Program)(w:World)(i:Int)(t:Tok):(ay prog w).is (.inl i) (.int i t)=true:=jL i t
theorem gx (prog:Program)(w:World)(x:Str)(t:Tok):(ay prog w).is (.inr x) (.str x t)=true:=dY x t
end L2
namespace L2
open PySem PySem.Spec PyProof.Rows
inductive V where
 | non | bl (b:Bool) | int (i:Int) | str (x:Str) | byt (b:Array UInt8) | flt (b:UInt64) | ref (a:Addr) | ty (n:String)
 deriving DecidableEq
def RelV:V->Value->Prop
 | .non,u=>u=Value.none
 | .bl b,u=>u=Value.bool b
 | .int i,u=>∃t,u=Value.int i t
 | .str x,u=>∃t,u=Value.str x t
 | .byt b,u=>∃t,u=Value.bytes b t
 | .flt b,u=>∃t,u=Value.float b t
 | .ref a,u=>u=Value.ref a
 | .ty n,u=>u=Value.type n
abbrev Vals:List V->List Value->Prop:=Paired RelV
theorem Vals.length {xs:List V}{us:List Value}(r:Vals xs us):xs.length=us.length:=Paired.length r
theorem Vals.get:∀{xs:List V} {us:List Value} {i:Nat} {x:V},Vals xs us->xs[i]?=some x->∃u,us[i]?=some u/\RelV x u
 | _,_,_,_,.nil,e=>by simp at e
 | _,_,0,_,.cons r _,e=>by simp at e;subst e;exact⟨_,rfl,r⟩
 | _,_,i+1,x,.cons _ t,e=>by
  obtain⟨u,h1,h2⟩:=Vals.get (i:=i) (x:=x) t (by simpa using e)
  exact⟨u,by simpa using h1,h2⟩
theorem Vals.set {x:V}{u:Value}(r:RelV x u):∀{xs:List V} {us:List Value} (i:Nat),Vals xs us->Vals (xs.set i x) (us.set i u)
 | _,_,_,.nil=>.nil
 | _,_,0,.cons _ t=>.cons r t
 | _,_,i+1,.cons q t=>.cons q (Vals.set r i t)
theorem Vals.append:∀{xs ys:List V} {us ws:List Value},Vals xs us->Vals ys ws->Vals (xs++ys) (us++ws)
 | _,_,_,_,.nil,s=>s
 | _,_,_,_,.cons r t,s=>.cons r (Vals.append t s)
theorem Vals.take:∀{xs:List V} {us:List Value} (n:Nat),Vals xs us->Vals (xs.take n) (us.take n)
 | _,_,0,_=>.nil
 | _,_,_+1,.nil=>.nil
 | _,_,n+1,.cons r t=>.cons r (Vals.take n t)
theorem Vals.drop:∀{xs:List V} {us:List Value} (n:Nat),Vals xs us->Vals (xs.drop n) (us.drop n)
 | _,_,0,r=>r
 | _,_,_+1,.nil=>.nil
 | _,_,n+1,.cons _ t=>Vals.drop n t
def RelO:Option V->Option Value->Prop
 | some v,some u=>RelV v u
 | none,none=>True
 | _,_=>False
def KV {κ:Type}:List (κ×V)->List (κ×Value)->Prop:=Paired fun (p:κ×V) (q:κ×Value)=>p.1=q.1/\RelV p.2 q.2
def kV:bC->V
 | .inl i=>.int i
 | .inr x=>.str x
inductive HO where
 /-- a list -/
 | lst (xs:List V)
 /-- a tuple (never changes) -/
 | tup (xs:List V)
 /-- a dict whose keys are ints and texts;one whose keys are tuples of ints and texts (the empty one is both) -/
 | dK (kvs:List (bC×V)) | dT (kvs:List (List bC×V))
 /-- a set of ints: its members,its size -/
 | set (S:Int->Bool) (n:Nat)
 /-- an instance of the class at C,its dict at dx,its attributes -/
 | ins (C dx:Addr) (fs:List (Str×V))
 /-- the dict of the instance at x -/
 | own (x:Addr)
 /-- the dict of an exception -/
 | xd (fs:List (Str×V))
 /-- a bound method,f of x -/
 | met (f x:Addr)
 /-- a range object lo,lo+1,.. below hi -/
 | rng (lo hi:Int)
 /-- a thing that is known to the object (the script;a dict while a loop walks it): read,never written while it is so -/
 | frz (o:Obj) (u:HO)
 /-- a code object's table -/
 | tbl (ps:Array Value)
 /-- any other thing,by what is true of its one object (a def of one's own: SetO a S n:=HO.ext fun h=>..) -/
 | ext (φ:Heap->Prop)
abbrev Hp:=Addr->Option HO
def al (H:Hp)(a:Addr)(o:HO):Hp:=fun b=>if b=a then some o else H b
theorem ae {H:Hp}{a:Addr}{o:HO}:al H a o a=some o:=by unfold al;rw[if_pos rfl]
theorem am {H:Hp}{a b:Addr}{o:HO}(h:b≠a):al H a o b=H b:=by unfold al;rw[if_neg h]
theorem og {H:Hp}{a:Addr}{o u:HO}:al (al H a o) a u=al H a u:=by
 funext b;unfold al;split<;>rfl
theorem zS {H:Hp}{a b:Addr}{o u:HO}(h:H a=some o)(h':H b=some u)(d:o≠u):a≠b:=by
 intro e;subst e;rw[h]at h';exact d (Option.some.inj h')
theorem aY {H:Hp}{a b:Addr}{o:HO}(h:H a=some o)(h':H b=none):a≠b:=by
 intro e;subst e;rw[h]at h';cases h'
section
variable (P:Program)(w:World)
def ObjOk (H:Hp)(h:Heap)(a:Addr):HO->Prop
 | .lst xs=>xs.length≤sizeLine/\∃(its:List Value) (n:Nat),Vals xs its/\h.get? a=some { cls:=.type "list",data:=.seq its.toArray n }
 | .tup xs=>xs.length≤sizeLine/\∃its:List Value,Vals xs its/\IsTup h a its.toArray
 | .dK kvs=>kvs.length≤sizeLine/\(a == sysModules)=false/\∃vs,KV kvs vs/\h.DictOf (ay P w) a vs
 | .dT kvs=>kvs.length≤sizeLine/\(a == sysModules)=false/\∃xs:List (List bC×Addr×Value),
   Paired (fun (p:List bC×V) (q:List bC×Addr×Value)=>p.1=q.1/\H q.2.1=some (.tup (p.1.map kV))/\RelV p.2 q.2.2) kvs xs /\
   ∃o es ep,h.get? a=some o/\o.ExactDict/\o.data=.dict es ep/\es.toList=xs.map (entryOfKey (tupleKind (ay P w)))/\(xs.map (·.1)).Nodup
 | .set S n=>h.SetOf (intKind P w) a S n
 | .ins C dx fs=>H dx=some (.own a)/\fs.length≤1000/\dx≠a/\h.get? a=some (PySem.W.instObj C dx) /\
   ∃mA,h.Ns1 dx mA/\(∀f,RelO (fs.lookup f) (mA f))/\PySem.Within mA (fs.map (·.1))
 | .own _=>∃o,h.get? a=some o
 | .xd fs=>∃mA,h.Ns1 a mA/\∀f,RelO (fs.lookup f) (mA f)
 | .rng lo hi=>∃t u v,h.get? a=some { cls:=.type "range",data:=.fields #[.int lo t,.int hi u,.int 1 v] }
 | .frz o u=>h.get? a=some o/\ObjOk H h a u
 | .tbl ps=>h.get? a=some { cls:=.none,data:=.fields ps }
 | .met f x=>h.get? a=some (PySem.W.methodObj (.ref f) (.ref x))
 | .ext φ=>φ h/\(∃o,h.get? a=some o)/\∀h1 h2:Heap,φ h1->(∀o,h1.get? a=some o->h2.get? a=some o)->φ h2
def HOk (H:Hp)(h:Heap):Prop:=∀a o,H a=some o->ObjOk P w H h a o
end
section
variable {P:Program}{w:World}{H H':Hp}{h h':Heap}{a:Addr}{o:HO}
theorem ObjOk.lt (x:ObjOk P w H h a o):a<h.objs.size:=by
 cases o with
 | lst xs=>obtain⟨_,_,_,_,e⟩:=x;exact Heap.lt_size e
 | tup xs=>obtain⟨_,_,_,p⟩:=x;exact p.lt
 | dK kvs=>obtain⟨_,_,_,_,o,_,_,e,_⟩:=x;exact Heap.lt_size e
 | dT kvs=>obtain⟨_,_,_,_,o,_,_,e,_⟩:=x;exact Heap.lt_size e
 | set S n=>obtain⟨o,_,_,_,e,_⟩:=x;exact Heap.lt_size e
 | ins C dx fs=>obtain⟨_,_,_,e,_⟩:=x;exact Heap.lt_size e
 | own y=>obtain⟨_,e⟩:=x;exact Heap.lt_size e
 | xd fs=>obtain⟨_,⟨_,_,_,e,_⟩,_⟩:=x;exact Heap.lt_size e
 | rng lo hi=>obtain⟨_,_,_,e⟩:=x;exact Heap.lt_size e
 | frz ob u=>obtain⟨e,_⟩:=x;exact Heap.lt_size e
 | tbl ps=>exact Heap.lt_size (show h.get? a=some _ from x)
 | met f y=>exact Heap.lt_size (show h.get? a=some _ from x)
 | ext φ=>obtain⟨_,⟨_,e⟩,_⟩:=x;exact Heap.lt_size e
theorem Paired.mapP {α β:Type}{F G:α->β->Prop}:∀{l₁:List α} {l₂:List β},Paired F l₁ l₂->(∀a b,F a b->G a b)->Paired G l₁ l₂
 | _,_,.nil,_=>.nil
 | _,_,.cons r t,f=>.cons (f _ _ r) (Paired.mapP t f)
theorem ObjOk.stay (x:ObjOk P w H h a o)(k:∀b u,(b=a\/H b=some (.own a))->h.get? b=some u->h'.get? b=some u)
  (ho:∀b,H b=some (.own a)->H' b=some (.own a)) (ht:∀b xs,H b=some (.tup xs)->H' b=some (.tup xs)):ObjOk P w H' h' a o:=by
 induction o with
 | lst xs=>obtain⟨z,its,n,r,e⟩:=x;exact⟨z,its,n,r,k _ _ (.inl rfl) e⟩
 | tup xs=>obtain⟨z,its,r,ob,e,c⟩:=x;exact⟨z,its,r,ob,k _ _ (.inl rfl) e,c⟩
 | dK kvs=>obtain⟨z,y,vs,r,ob,es,ep,e,c⟩:=x;exact⟨z,y,vs,r,ob,es,ep,k _ _ (.inl rfl) e,c⟩
 | dT kvs =>
  obtain⟨z,y,xs,r,ob,es,ep,e,c⟩:=x
  exact⟨z,y,xs,Paired.mapP r fun p q z=>⟨z.1,ht _ _ z.2.1,z.2.2⟩,ob,es,ep,k _ _ (.inl rfl) e,c⟩
 | set S n=>obtain⟨ob,es,ep,t,e,c⟩:=x;exact⟨ob,es,ep,t,k _ _ (.inl rfl) e,c⟩
 | ins C dx fs =>
  obtain⟨d,z,ne,e,mA,⟨od,es,ep,e2,c⟩,r⟩:=x
  exact⟨ho _ d,z,ne,k _ _ (.inl rfl) e,mA,⟨od,es,ep,k _ _ (.inr d) e2,c⟩,r⟩
 | own y=>obtain⟨ob,e⟩:=x;exact⟨ob,k _ _ (.inl rfl) e⟩
 | xd fs=>obtain⟨mA,⟨od,es,ep,e,c⟩,r⟩:=x;exact⟨mA,⟨od,es,ep,k _ _ (.inl rfl) e,c⟩,r⟩
 | rng lo hi=>obtain⟨t,u,v,e⟩:=x;exact⟨t,u,v,k _ _ (.inl rfl) e⟩
 | frz ob u ih=>obtain⟨e,q⟩:=x;exact⟨k _ _ (.inl rfl) e,ih q⟩
 | tbl ps =>
  have e:h.get? a=some { cls:=.none,data:=.fields ps }:=x
  show h'.get? a=some { cls:=.none,data:=.fields ps }
  exact k a _ (.inl rfl) e
 | met f y =>
  have e:h.get? a=some (PySem.W.methodObj (.ref f) (.ref y)):=x
  show h'.get? a=some (PySem.W.methodObj (.ref f) (.ref y))
  exact k a _ (.inl rfl) e
 | ext φ=>obtain⟨p,⟨o,e⟩,st⟩:=x;exact⟨st _ _ p fun o q=>k _ _ (.inl rfl) q,⟨o,k _ _ (.inl rfl) e⟩,st⟩
theorem HOk.lt (x:HOk P w H h)(e:H a=some o):a<h.objs.size:=(x a o e).lt
theorem HOk.fresh (x:HOk P w H h)(e:h.objs.size≤a):H a=none:=by
 cases q:H a with
 | none=>rfl
 | some u=>exact absurd (Nat.lt_of_lt_of_le (x.lt q) e) (Nat.lt_irrefl _)
theorem HOk.kept (x:HOk P w H h)(k:∀b u,h.get? b=some u->h'.get? b=some u):HOk P w H h':=fun a o e =>
 (x a o e).stay (fun b u _ q=>k b u q) (fun _ q=>q) fun _ _ q=>q
theorem HOk.laid (x:HOk P w H h)(k:∀b u,h.get? b=some u->h'.get? b=some u)(hp:h.objs.size≤a)(new:ObjOk P w (al H a o) h' a o):HOk P w (al H a o) h':=fun b u e=>by
 have hn:=x.fresh hp
 by_cases hb:b=a
 ·subst hb;rw[ae]at e;cases e;exact new
 ·rw[am hb]at e
  exact (x b u e).stay (fun c v _ q=>k c v q) (fun c q=>by rw[am (aY q hn)];exact q) fun c xs q=>by rw[am (aY q hn)];exact q
end
def Rd (H:Hp)(a:Addr)(u:HO):Prop:=H a=some u\/∃o,H a=some (.frz o u)
theorem Rd.ok {P:Program}{w:World}{H:Hp}{h:Heap}{a:Addr}{u:HO}(r:Rd H a u)(x:HOk P w H h):ObjOk P w H h a u:=by
 rcases r with r | ⟨o,r⟩
 ·exact x a u r
 ·obtain⟨_,q⟩:=x a _ r
  exact q
def Bc:Option HO->Prop
 | some (.lst _)=>True
 | some (.dK _)=>True
 | some (.dT _)=>True
 | some (.set _ _)=>True
 | some (.ins _ _ _)=>True
 | some (.ext _)=>True
 | _=>False
section
variable {P:Program}{w:World}{H:Hp}{h h':Heap}{x e:Addr}{o':HO}
theorem HOk.write (ok:HOk P w H h)(mu:Bc (H x))(he:e=x\/H e=some (.own x))(k:∀b u,b≠e->h.get? b=some u->h'.get? b=some u)(heo:∃u,h'.get? e=some u)
  (new:ObjOk P w (al H x o') h' x o'):HOk P w (al H x o') h':=fun b u q=>by
 have nown:∀c y,H c=some (.own y)->c≠x:=fun c y r z=>by subst z;rw[r]at mu;exact mu
 have ntup:∀c xs,H c=some (.tup xs)->c≠x:=fun c xs r z=>by subst z;rw[r]at mu;exact mu
 by_cases hb:b=x
 ·subst hb;rw[ae]at q;cases q;exact new
 ·rw[am hb]at q
  by_cases hbe:b=e
  ·have q':H b=some (.own x):=by
    rcases he with z | z
    ·exact absurd (hbe.trans z) hb
    ·rw[hbe];exact z
   rw[q]at q';cases q'
   obtain⟨v,hv⟩:=heo
   exact⟨v,by rw[hbe];exact hv⟩
  ·refine (ok b u q).stay (fun c v hc r=>k c v ?_ r) (fun c r=>by rw[am (nown c b r)];exact r) fun c xs r=>by rw[am (ntup c xs r)];exact r
   rcases hc with rfl | hc
   ·exact hbe
   ·rintro rfl
    rcases he with z | z
    ·exact nown c b hc z
    ·rw[hc]at z;cases z;exact hb rfl
end
structure Un (fs ex:List Addr)(H H':Hp)(h h':Heap):Prop where
 keep:∀b o,h.get? b=some o->H b=none->b∉fs->b∉ex->h'.get? b=some o
 slot:∀b o,h.get? b=some o->H b=none->b∈fs->b∉ex->∃sl,h'.get? b=some { o with slots:=sl }
 free:∀b o,h.get? b=some o->H b=none->b∉ex->H' b=none
 there:∀b o,h.get? b=some o->b∉ex->∃o',h'.get? b=some o'
 tups:∀b xs,H b=some (.tup xs)->H' b=some (.tup xs)
 frzs:∀b o u,H b=some (.frz o u)->H' b=some (.frz o u)
 tbls:∀b ps,H b=some (.tbl ps)->∃more,H' b=some (.tbl (ps++more))
section
variable {fs fs' ex ex':List Addr}{H H1 H2:Hp}{h h1 h2 h':Heap}{a x e:Addr}{o:HO}
theorem Un.any (u:Un fs ex H H1 h h1){b:Addr}{ob:Obj}(q:h.get? b=some ob)(n:H b=none)(hx:b∉ex):∃sl,h1.get? b=some { ob with slots:=sl }:=by
 by_cases hb:b∈fs
 ·exact u.slot b ob q n hb hx
 ·exact⟨ob.slots,u.keep b ob q n hb hx⟩
theorem Un.kept (k:∀b u,h.get? b=some u->h'.get? b=some u):Un fs ex H H h h' :=
 ⟨fun b ob q _ _ _=>k b ob q,fun b ob q _ _ _=>⟨ob.slots,k b ob q⟩,fun _ _ _ n _=>n,fun b ob q _=>⟨ob,k b ob q⟩,fun _ _ q=>q,fun _ _ _ q=>q,fun _ ps q=>⟨#[],by rw[q];simp⟩⟩
theorem Un.refl:Un fs ex H H h h:=Un.kept fun _ _ q=>q
theorem Un.laid (k:∀b u,h.get? b=some u->h'.get? b=some u)(hp:h.objs.size≤a)(hn:H a=none):Un fs ex H (al H a o) h h' where
 keep:=fun b u q _ _ _=>k b u q
 slot:=fun b u q _ _ _=>⟨u.slots,k b u q⟩
 free:=fun b u q n _=>by rw[am (Nat.ne_of_lt (Nat.lt_of_lt_of_le (Heap.lt_size q) hp))];exact n
 there:=fun b u q _=>⟨u,k b u q⟩
 tups:=fun b xs q=>by rw[am (aY q hn)];exact q
 frzs:=fun b u xs q=>by rw[am (aY q hn)];exact q
 tbls:=fun b ps q=>⟨#[],by rw[am (aY q hn),q];simp⟩
theorem Un.write (mu:Bc (H x))(he:e=x\/H e=some (.own x))(k:∀b u,b≠e->h.get? b=some u->h'.get? b=some u)(heo:∃u,h'.get? e=some u):Un fs ex H (al H x o) h h':=by
 have hx:∀b,H b=none->b≠x:=fun b n z=>by subst z;rw[n]at mu;exact mu
 have hb:∀b,H b=none->b≠e:=fun b n z=>by
  subst z
  rcases he with r | r
  ·exact hx b n r
  ·rw[n]at r;cases r
 have hm:∀b u,H b=some u->¬ Bc (some u)->b≠x:=fun b u q nm z=>by subst z;rw[q]at mu;exact nm mu
 refine⟨fun b u q n _ _=>k b u (hb b n) q,fun b u q n _ _=>⟨u.slots,k b u (hb b n) q⟩,fun b u q n _=>by rw[am (hx b n)];exact n,fun b u q _=>?_,
  fun b xs q=>by rw[am (hm b _ q fun z=>z)];exact q,fun b u xs q=>by rw[am (hm b _ q fun z=>z)];exact q,fun b ps q=>⟨#[],by rw[am (hm b _ q fun z=>z),q];simp⟩⟩
 by_cases hbe:b=e
 ·subst hbe;exact heo
 ·exact⟨u,k b u hbe q⟩
end
def Bs (h:Heap)(H:Hp):List Addr:=(List.range h.objs.size).filter fun a=>(H a).isSome
def jS (h:Heap)(H:Hp):Heap:=PySem.W.hideAll h (Bs h H)
theorem pQ (h:Heap)(H:Hp):(jS h H).objs.size=h.objs.size:=PySem.W.hideAll_size _ _
theorem su {h:Heap}{H:Hp}{b:Addr}{o:Obj}(e:h.get? b=some o)(n:H b=none):(jS h H).get? b=some o :=
 PySem.W.hideAll_get _ e fun hm=>by
  have q:(H b).isSome=true:=(List.mem_filter.mp hm).2
  rw[n]at q;simp at q
theorem uk {h:Heap}{H:Hp}{b:Addr}{o:Obj}(e:(jS h H).get? b=some o):h.get? b=some o/\H b=none:=by
 have e':h.get? b=some o:=PySem.W.of_hideAll (Bs h H) e
 refine⟨e',?_⟩
 cases q:H b with
 | none=>rfl
 | some x =>
  have hm:b∈Bs h H:=List.mem_filter.mpr ⟨List.mem_range.mpr (Heap.lt_size e'),by simp[q]⟩
  have z:(jS h H).get? b=none:=PySem.W.hideAll_none (Bs h H) hm
  rw[z]at e;cases e
def vG (g h:Heap)(L:Addr):List (Addr×Obj):=(List.range h.objs.size).filterMap fun a=>if a=L\/(g.get? a).isSome=true then none else (h.get? a).map fun o=>(a,o)
def bI (g h:Heap)(L d:Addr):List (Addr×Obj):=(vG g h L).filter fun p=>decide (p.1≠d)
end L2
namespace L2
open PySem PySem.Spec PyProof.Rows
structure Mod (K:PySem.W.Frag)(mg:Str->Option Value)(base:Heap):Prop where
 kin:K.In base
 glob:base.Ns mainGlobals mg
 blt:∃mb,base.Ns builtinsNs mb/\∀x:Str,x≠"__name__"->mb x=bootBuiltins x
 nolimit:base.NoLimit
structure Cx where
 prog:Program
 w:World
 K:PySem.W.Frag
 mg:Str->Option Value
 base:Heap
 A:Around
 N:List Str
 s₀:Shared
 H₀:Hp
 env:Env
 outer:List Env
 stack:List Env
 ex:List Addr
 fn:Str->Bool
 calm:Bool
 pn:List (Addr×Obj)
 xe:Value->Shared->Prop
def dn (l:List Env):List Addr:=l.filterMap (·.frame)
abbrev Cx.fs (X:Cx):List Addr:=dn X.outer
def zI (sc:Scope)(x:Str):Prop:=sc.names.lookup x=some .local\/sc.names.lookup x=some .cell\/sc.names.lookup x=some .free
def zJ (sc:Scope)(x:Str):Prop:=sc.names.lookup x=some .local\/sc.names.lookup x=some .cell
def BU (env:Env)(h:Heap)(m:Str->Option Value)(x:Str)(u:Value):Prop :=
 (env.kindOf x=some .local/\m x=some u)\/((env.kindOf x=some .cell\/env.kindOf x=some .free)/\∃c,env.cells.lookup x=some c/\h.IsCell c (some u))
structure Cx.Ok (X:Cx):Prop where
 mod:Mod X.K X.mg X.base
 kind:X.env.scope.kind=.function
 glob:X.env.globals=mainGlobals
 blt:X.env.builtins=builtinsNs
 above:X.s₀.heap.objs.size≤X.env.locals
 inj:∀x y c,X.env.cells.lookup x=some c->X.env.cells.lookup y=some c->x=y
 has:∀x,(X.env.kindOf x=some .cell\/X.env.kindOf x=some .free)->∃c,X.env.cells.lookup x=some c
 cab:∀x c,X.fn x=true->X.env.cells.lookup x=some c->X.s₀.heap.objs.size≤c
 hd:X.calm=true->X.A.handled=none
 frames:X.A.frames=some X.stack
 stk:X.stack=X.outer\/(X.stack=X.env::X.outer/\X.env.frame=some X.env.locals)
 exf:∀b∈X.ex,b≠X.env.locals/\∀x c,X.env.cells.lookup x=some c->c≠b
 bs:∀b o,X.base.get? b=some o->X.s₀.heap.get? b=some o/\X.H₀ b=none
 bsz:X.base.objs.size≤X.s₀.heap.objs.size
 noex:∀b o,X.base.get? b=some o->b∉X.ex
 exfs:∀b∈X.ex,b∉X.fs
 funs:X.s₀.heap.FunFrames X.base X.outer
 frf:∀b∈X.fs,X.H₀ b=none
structure Inv (X:Cx)(pins:List (Addr×Obj))(σ:List (Option V))(H:Hp)(s:Shared):Prop where
 ok:X.Ok
 os:s.os=X.s₀.os
 bare:AllBare s.gens
 base:Un X.fs X.ex X.H₀ H X.s₀.heap s.heap
 loc:∃m,s.heap.Ns X.env.locals m/\∀(i:Nat) (x:Str) (v:V),X.N[i]?=some x->σ[i]?=some (some v)->zI X.env.scope x->∃u,RelV v u/\BU X.env s.heap m x u
 cell:∀x c,X.env.cells.lookup x=some c->∃v,s.heap.IsCell c v
 free:H X.env.locals=none
 freeC:∀x c,X.env.cells.lookup x=some c->H c=none
 pin:∀p∈X.pn++pins,s.heap.get? p.1=some p.2/\H p.1=none/\p.1≠X.env.locals/\p.1∉X.fs/\∀v,p.2.data≠.cell v
 hok:HOk X.prog X.w H s.heap
 len:σ.length=X.N.length
section
variable {X:Cx}{pins:List (Addr×Obj)}{σ:List (Option V)}{H H':Hp}{s:Shared}{h':Heap}
theorem Cx.Ok.nofr (ok:X.Ok){b:Addr}{o:Obj}(e:X.base.get? b=some o):b∉X.fs:=fun hb=>by
 have:=(ok.funs.mem hb).1
 rw[e]at this;cases this
theorem Inv.bs (I:Inv X pins σ H s):∀b o,X.base.get? b=some o->s.heap.get? b=some o/\H b=none:=fun b o e =>
 ⟨I.base.keep b o (I.ok.bs b o e).1 (I.ok.bs b o e).2 (I.ok.nofr e) (I.ok.noex b o e),I.base.free b o (I.ok.bs b o e).1 (I.ok.bs b o e).2 (I.ok.noex b o e)⟩
theorem Inv.bk (I:Inv X pins σ H s):∀b o,X.base.get? b=some o->s.heap.get? b=some o:=fun b o e=>(I.bs b o e).1
theorem Inv.mod (I:Inv X pins σ H s):Mod X.K X.mg X.base:=I.ok.mod
theorem Inv.kIn (I:Inv X pins σ H s):X.K.In s.heap:=I.ok.mod.kin.keeps I.bk
theorem Inv.nolimit (I:Inv X pins σ H s):s.heap.NoLimit:=I.ok.mod.nolimit.keeps I.bk
theorem Inv.fr (I:Inv X pins σ H s):∃m,Fr X.base X.env.locals s.heap m :=
 let ⟨m,hn,_⟩:=I.loc
 ⟨m,hn,I.bk,Nat.le_trans I.ok.bsz I.ok.above⟩
theorem Inv.lt (I:Inv X pins σ H s):X.env.locals<s.heap.objs.size:=let ⟨_,hn,_⟩:=I.loc;hn.lt
theorem Inv.sz (I:Inv X pins σ H s):X.s₀.heap.objs.size≤s.heap.objs.size:=Nat.le_trans I.ok.above (Nat.le_of_lt I.lt)
theorem Inv.nofs (I:Inv X pins σ H s){a:Addr}(h:s.heap.objs.size≤a):a∉X.fs:=fun hb=>by
 obtain⟨_,o,ho,_⟩:=I.ok.funs.mem hb
 exact absurd (Nat.lt_of_lt_of_le (Heap.lt_size ho) (Nat.le_trans I.sz h)) (Nat.lt_irrefl _)
theorem Inv.cne (I:Inv X pins σ H s):∀x c,X.env.cells.lookup x=some c->c≠X.env.locals:=fun x c e z=>by
 obtain⟨v,o,ho,hd⟩:=I.cell x c e
 obtain⟨m,⟨o',es,ep,ho',hd',_⟩,_⟩:=I.loc
 rw[z,ho']at ho;cases ho;rw[hd']at hd;cases hd
theorem Inv.funs (I:Inv X pins σ H s):s.heap.FunFrames X.base X.outer:=by
 have all:∀(l:List Env),(∀b∈dn l,b∈X.fs)->X.s₀.heap.FunFrames X.base l->s.heap.FunFrames X.base l:=by
  intro l
  induction l with
  | nil=>intro _ _;trivial
  | cons env r ih =>
   intro hs hl
   obtain⟨hk,⟨L,o,hf,hn,ho,hd⟩,hr⟩:=hl
   have hL:L∈X.fs:=hs L (by unfold dn;rw[List.filterMap_cons,hf];exact List.mem_cons_self)
   obtain⟨sl,e⟩:=I.base.slot L o ho (I.ok.frf L hL) hL fun z=>I.ok.exfs L z hL
   exact⟨hk,⟨L,_,hf,hn,e,hd⟩,ih (fun b hb=>hs b (by unfold dn;rw[List.filterMap_cons,hf];exact List.mem_cons_of_mem _ hb)) hr⟩
 exact all X.outer (fun _ hb=>hb) I.ok.funs
theorem Inv.stack (I:Inv X pins σ H s):s.heap.FunFrames X.base X.stack:=by
 rcases I.ok.stk with e | ⟨e,hf⟩
 ·rw[e];exact I.funs
 ·rw[e]
  obtain⟨m,hn,_⟩:=I.loc
  refine .cons (by rw[I.ok.kind];decide) hf hn ?_ I.funs
  exact Heap.get?_none_of_le (Nat.le_trans I.ok.bsz I.ok.above)
theorem Inv.stkSub (I:Inv X pins σ H s):∀b∈dn X.stack,b∈X.env.locals::X.fs:=fun b hb=>by
 rcases I.ok.stk with e | ⟨e,hf⟩
 ·rw[e]at hb;exact List.mem_cons_of_mem _ hb
 ·rw[e]at hb
  unfold dn at hb
  rw[List.filterMap_cons,hf]at hb
  exact hb
theorem Inv.stkFree (I:Inv X pins σ H s):∀b∈dn X.stack,H b=none:=fun b hb=>by
 rcases List.mem_cons.mp (I.stkSub b hb) with e | hb
 ·rw[e];exact I.free
 ·obtain⟨_,o,ho,_⟩:=I.ok.funs.mem hb
  exact I.base.free b o ho (I.ok.frf b hb) fun z=>I.ok.exfs b z hb
theorem Inv.step {g':Array GenState}{t':Nat}{d':Drawn}{ch:List Addr}(I:Inv X pins σ H s)
  (hch:∀b∈ch,(b∈X.ex\/X.s₀.heap.objs.size≤b)/\b≠X.env.locals/\(∀x c,X.env.cells.lookup x=some c->c≠b)/\∀p∈X.pn++pins,p.1≠b)
  (keep:∀b o,b≠X.env.locals->b∉X.fs->b∉ch->s.heap.get? b=some o->H b=none->h'.get? b=some o)
  (slot:∀b o,b≠X.env.locals->b∈X.fs->b∉ch->s.heap.get? b=some o->H b=none->∃sl,h'.get? b=some { o with slots:=sl }) (free:∀b o,b∉ch->s.heap.get? b=some o->H b=none->H' b=none)
  (there:∀b o,b∉ch->s.heap.get? b=some o->∃o',h'.get? b=some o')
  (tups:∀b xs,H b=some (.tup xs)->H' b=some (.tup xs)) (frzs:∀b o u,H b=some (.frz o u)->H' b=some (.frz o u)) (tbls:∀b ps,H b=some (.tbl ps)->∃more,H' b=some (.tbl (ps++more)))
  (ns:∀m,s.heap.Ns X.env.locals m->h'.Ns X.env.locals m) (hok:HOk X.prog X.w H' h') (hg:AllBare g') :
  Inv X pins σ H' { s with heap:=h',gens:=g',drawn:=d',toks:=t' }:=by
 have neL:∀b o,X.s₀.heap.get? b=some o->b≠X.env.locals:=fun b o e=>Nat.ne_of_lt (Nat.lt_of_lt_of_le (Heap.lt_size e) I.ok.above)
 have neC:∀b o,X.s₀.heap.get? b=some o->b∉X.ex->b∉ch:=fun b o e hx hb=>by
  rcases (hch b hb).1 with z | z
  ·exact hx z
  ·exact absurd (Nat.lt_of_lt_of_le (Heap.lt_size e) z) (Nat.lt_irrefl _)
 have cellK:∀x c,X.env.cells.lookup x=some c->∀v,s.heap.IsCell c v->h'.IsCell c v:=fun x c e v ⟨o,ho,hd⟩=>by
  have nch:c∉ch:=fun z=>(hch c z).2.2.1 x c e rfl
  by_cases hc:c∈X.fs
  ·obtain⟨sl,q⟩:=slot c o (I.cne x c e) hc nch ho (I.freeC x c e)
   exact⟨_,q,hd⟩
  ·exact⟨o,keep c o (I.cne x c e) hc nch ho (I.freeC x c e),hd⟩
 refine⟨I.ok,I.os,hg,⟨fun b o e n hb hx=>?_,fun b o e n hb hx=>?_,fun b o e n hx=>?_,fun b o e hx=>?_,fun b xs e=>tups b xs (I.base.tups b xs e),fun b o xs e=>frzs b o xs (I.base.frzs b o xs e),fun b ps e=>?_⟩,?_,fun x c e=>?_,?_,fun x c e=>?_,fun p hp=>?_,hok,I.len⟩
 ·exact keep b o (neL b o e) hb (neC b o e hx) (I.base.keep b o e n hb hx) (I.base.free b o e n hx)
 ·obtain⟨sl,e1⟩:=I.base.slot b o e n hb hx
  obtain⟨sl',e2⟩:=slot b _ (neL b o e) hb (neC b o e hx) e1 (I.base.free b o e n hx)
  exact⟨sl',e2⟩
 ·obtain⟨o',e1⟩:=I.base.there b o e hx
  exact free b o' (neC b o e hx) e1 (I.base.free b o e n hx)
 ·obtain⟨o',e1⟩:=I.base.there b o e hx
  exact there b o' (neC b o e hx) e1
 ·obtain⟨m1,e1⟩:=I.base.tbls b ps e
  obtain⟨m2,e2⟩:=tbls b _ e1
  exact⟨m1++m2,by rw[e2,Array.append_assoc]⟩
 ·obtain⟨m,hn,hl⟩:=I.loc
  refine⟨m,ns m hn,fun i x v e1 e2 e3=>?_⟩
  obtain⟨u,r,l⟩:=hl i x v e1 e2 e3
  refine⟨u,r,?_⟩
  rcases l with l | ⟨k,c,e,z⟩
  ·exact .inl l
  ·exact .inr ⟨k,c,e,cellK x c e _ z⟩
 ·obtain⟨v,z⟩:=I.cell x c e
  exact⟨v,cellK x c e v z⟩
 ·obtain⟨m,⟨o,_,_,ho,_⟩,_⟩:=I.loc
  exact free _ o (fun z=>(hch _ z).2.1 rfl) ho I.free
 ·obtain⟨v,o,ho,hd⟩:=I.cell x c e
  exact free c o (fun z=>(hch c z).2.2.1 x c e rfl) ho (I.freeC x c e)
 ·obtain⟨e,n,ne,nf,d⟩:=I.pin p hp
  have nch:p.1∉ch:=fun z=>(hch p.1 z).2.2.2 p hp rfl
  exact⟨keep p.1 p.2 ne nf nch e n,free p.1 p.2 nch e n,ne,nf,d⟩
theorem Inv.un {t':Nat}(I:Inv X pins σ H s)(u:Un X.fs [] H H' s.heap h')(hok:HOk X.prog X.w H' h'):Inv X pins σ H' { s with heap:=h',toks:=t' }:=by
 obtain⟨m,⟨o,es,ep,ho,r⟩,_⟩:=id I.loc
 obtain⟨sl,hL⟩:=u.any ho I.free (by simp)
 exact I.step (g':=s.gens) (d':=s.drawn) (ch:=[]) (fun _ z=>nomatch z) (fun b o _ hb _ e n=>u.keep b o e n hb (by simp)) (fun b o _ hb _ e n=>u.slot b o e n hb (by simp)) (fun b o _ e n=>u.free b o e n (by simp)) (fun b o _ e=>u.there b o e (by simp)) u.tups u.frzs u.tbls (fun m' hm=>by
  obtain⟨o',es',ep',ho',r'⟩:=hm
  rw[ho]at ho';cases ho'
  exact⟨_,es',ep',hL,r'⟩) hok I.bare
theorem Inv.call {g':Array GenState}{t':Nat}{d':Drawn}{ch:List Addr}(I:Inv X pins σ H s)(u:Un (dn X.stack) ch H H' s.heap h')(hok:HOk X.prog X.w H' h')(hg:AllBare g')
  (hch:∀b∈ch,(b∈X.ex\/X.s₀.heap.objs.size≤b)/\b≠X.env.locals/\(∀x c,X.env.cells.lookup x=some c->c≠b)/\∀p∈X.pn++pins,p.1≠b) :
  Inv X pins σ H' { s with heap:=h',gens:=g',drawn:=d',toks:=t' }:=by
 obtain⟨m,⟨o,es,ep,ho,r⟩,_⟩:=id I.loc
 obtain⟨sl,hL⟩:=u.any ho I.free fun z=>(hch _ z).2.1 rfl
 exact I.step (ch:=ch) hch (fun b o hL hb hc e n=>u.keep b o e n (fun z=>(List.mem_cons.mp (I.stkSub b z)).elim hL hb) hc) (fun b o _ _ hc e n=>u.any e n hc) (fun b o hc e n=>u.free b o e n hc) (fun b o hc e=>u.there b o e hc) u.tups u.frzs u.tbls (fun m' hm=>by
  obtain⟨o',es',ep',ho',r'⟩:=hm
  rw[ho]at ho';cases ho'
  exact⟨_,es',ep',hL,r'⟩) hok hg
theorem Inv.turned {t':Nat}{it:Addr}(I:Inv X pins σ H s)(k:∀b o,b≠it->s.heap.get? b=some o->h'.get? b=some o)(hn:H it=none)(hL:it≠X.env.locals)
  (h1:it∈X.ex\/X.s₀.heap.objs.size≤it) (h2:∀x c,X.env.cells.lookup x=some c->c≠it) (h3:∀p∈X.pn++pins,p.1≠it):Inv X pins σ H { s with heap:=h',toks:=t' }:=by
 have nit:∀b u,H b=some u->b≠it:=fun b u e z=>by rw[z,hn]at e;cases e
 refine I.step (g':=s.gens) (d':=s.drawn) (ch:=[it]) (fun b hb=>?_) (fun b o _ _ hc e _=>k b o (fun z=>hc (by simp[z])) e) (fun b o _ _ hc e _=>⟨o.slots,k b o (fun z=>hc (by simp[z])) e⟩) (fun _ _ _ _ n=>n)
  (fun b o hc e=>⟨o,k b o (fun z=>hc (by simp[z])) e⟩) (fun _ _ e=>e) (fun _ _ _ e=>e) (fun b ps e=>⟨#[],by rw[e];simp⟩) (fun m hm=>?_) (fun b u e=>?_) I.bare
 ·have e:b=it:=by simpa using hb
  subst e
  exact⟨h1,hL,h2,h3⟩
 ·obtain⟨o,es,ep,ho,r⟩:=hm
  exact⟨o,es,ep,k _ o (Ne.symm hL) ho,r⟩
 ·refine (I.hok b u e).stay (fun c v hc q=>k c v ?_ q) (fun _ q=>q) fun _ _ q=>q
  rcases hc with z | z
  ·rw[z];exact nit b u e
  ·exact nit c _ z
theorem Inv.tok (I:Inv X pins σ H s)(t:Nat):Inv X pins σ H { s with toks:=t }:=I.un (h':=s.heap) (t':=t) Un.refl I.hok
theorem Inv.kept {t':Nat}(I:Inv X pins σ H s)(k:∀b u,s.heap.get? b=some u->h'.get? b=some u):Inv X pins σ H { s with heap:=h',toks:=t' }:=I.un (Un.kept k) (I.hok.kept k)
theorem Inv.laid {a:Addr}{o:HO}{t':Nat}(I:Inv X pins σ H s)(k:∀b u,s.heap.get? b=some u->h'.get? b=some u)(hp:s.heap.objs.size≤a)(new:ObjOk X.prog X.w (al H a o) h' a o) :
  Inv X pins σ (al H a o) { s with heap:=h',toks:=t' }:=I.un (Un.laid k hp (I.hok.fresh hp)) (I.hok.laid k hp new)
theorem Inv.write {x e:Addr}{o:HO}{t':Nat}(I:Inv X pins σ H s)(mu:Bc (H x))(he:e=x\/H e=some (.own x))(k:∀b u,b≠e->s.heap.get? b=some u->h'.get? b=some u)(heo:∃u,h'.get? e=some u)
  (new:ObjOk X.prog X.w (al H x o) h' x o):Inv X pins σ (al H x o) { s with heap:=h',toks:=t' }:=I.un (Un.write mu he k heo) (I.hok.write mu he k heo new)
theorem Inv.pins_of {pins':List (Addr×Obj)}(I:Inv X pins σ H s)(h:∀p∈pins',s.heap.get? p.1=some p.2/\H p.1=none/\p.1≠X.env.locals/\p.1∉X.fs/\∀v,p.2.data≠.cell v):Inv X pins' σ H s :=
 ⟨I.ok,I.os,I.bare,I.base,I.loc,I.cell,I.free,I.freeC,fun p hp=>(List.mem_append.mp hp).elim (fun z=>I.pin p (List.mem_append_left _ z)) (h p),I.hok,I.len⟩
theorem lW {N:List Str}(hN:N.Nodup){i j:Nat}{x:Str}(a:N[i]?=some x)(b:N[j]?=some x):i=j:=by
 obtain⟨h1,e1⟩:=List.getElem?_eq_some_iff.mp a
 obtain⟨h2,e2⟩:=List.getElem?_eq_some_iff.mp b
 exact (List.getElem_inj hN).mp (e1.trans e2.symm)
theorem f9 {M:Model}{A:Around}{E:Value->Shared->Prop}{i:Nat}{x:Str}{v:V}{u:Value}{Q:Unit->Shared->Prop}(I:Inv X pins σ H s)(hN:X.N.Nodup)(hi:X.N[i]?=some x)(hx:zJ X.env.scope x)(r:RelV v u)
  (h:∀s',Inv X pins (σ.set i (some v)) H s'->(∃a,Heap.SameBut a s.heap s'.heap/\(a=X.env.locals\/X.env.cells.lookup x=some a))->Q () s') (hf:X.fn x=true\/X.env.scope.names.lookup x=some .local:=by first | exact .inl rfl | exact .inr rfl | assumption):wpAny M A (storeName X.env x u) Q E s:=by
 obtain⟨m,hn,hl⟩:=id I.loc
 have hcls:(X.env.scope.kind == .class||(X.env.scope.kind == .module&&X.env.locals != X.env.globals))=false:=by rw[I.ok.kind];rfl
 have hiσ:i<σ.length:=by rw[I.len];exact (List.getElem?_eq_some_iff.mp hi).1
 have cne:=I.cne
 have tracked:∀{a:Addr} {h':Heap},(∃o,s.heap.get? a=some o/\H a=none)->Heap.SameBut a s.heap h'->HOk X.prog X.w H h':=fun {a h'} ha hs b ob e=>by
  obtain⟨_,_,hfree⟩:=ha
  refine (I.hok b ob e).stay (fun c w' hc q=>(hs.2 c ?_).trans q) (fun _ q=>q) fun _ _ q=>q
  rintro rfl
  rcases hc with rfl | hc
  ·rw[hfree]at e;cases e
  ·rw[hfree]at hc;cases hc
 rcases hx with hk | hk
 ·refine wpAny_storeName_local hk hn (fun h' hn' hs=>?_) hcls
  obtain⟨oL,_,_,hoL,_⟩:=id hn
  refine h _ ⟨I.ok,I.os,I.bare,⟨fun b o e n hb hx=>?_,fun b o e n hb hx=>?_,I.base.free,fun b o e hx=>?_,I.base.tups,I.base.frzs,I.base.tbls⟩,⟨_,hn',fun j y v' e1 e2 e3=>?_⟩,fun y c e=>?_,I.free,I.freeC,fun p hp=>?_,tracked ⟨oL,hoL,I.free⟩ hs,by simpa using I.len⟩ ⟨_,hs,.inl rfl⟩
  ·exact (hs.2 b (Nat.ne_of_lt (Nat.lt_of_lt_of_le (Heap.lt_size e) I.ok.above))).trans (I.base.keep b o e n hb hx)
  ·obtain⟨sl,e1⟩:=I.base.slot b o e n hb hx
   exact⟨sl,(hs.2 b (Nat.ne_of_lt (Nat.lt_of_lt_of_le (Heap.lt_size e) I.ok.above))).trans e1⟩
  ·obtain⟨o',e1⟩:=I.base.there b o e hx
   exact⟨o',(hs.2 b (Nat.ne_of_lt (Nat.lt_of_lt_of_le (Heap.lt_size e) I.ok.above))).trans e1⟩
  ·by_cases hj:j=i
   ·subst hj
    rw[hi]at e1;cases e1
    rw[List.getElem?_set_self hiσ]at e2
    cases e2
    exact⟨u,r,.inl ⟨hk,by simp⟩⟩
   ·rw[List.getElem?_set_ne (Ne.symm hj)]at e2
    obtain⟨u',r',q⟩:=hl j y v' e1 e2 e3
    refine⟨u',r',?_⟩
    rcases q with⟨k,e⟩ | ⟨k,c,e,z⟩
    ·refine .inl ⟨k,?_⟩
     have:y≠x:=fun e=>hj (lW hN e1 (e▸hi))
     simp[this,e]
    ·exact .inr ⟨k,c,e,z.sameBut hs (cne y c e)⟩
  ·obtain⟨w',z⟩:=I.cell y c e
   exact⟨w',z.sameBut hs (cne y c e)⟩
  ·obtain⟨e,n,ne,nf,d⟩:=I.pin p hp
   exact⟨(hs.2 p.1 ne).trans e,n,ne,nf,d⟩
 ·have hfn:X.fn x=true:=by
   rcases hf with z | z
   ·exact z
   ·rw[z]at hk;cases hk
  obtain⟨c,hc⟩:=I.ok.has x (.inl hk)
  obtain⟨w',z⟩:=I.cell x c hc
  refine wpAny_storeName_cell I.ok.kind hk hc z (fun h' hc' hs=>?_)
  obtain⟨oc,hoc,hocd⟩:=id z
  refine h { s with heap:=h' } ⟨I.ok,I.os,I.bare,⟨fun b o e n hb hx=>?_,fun b o e n hb hx=>?_,I.base.free,fun b o e hx=>?_,I.base.tups,I.base.frzs,I.base.tbls⟩,⟨m,hn.sameBut hs (Ne.symm (cne x c hc)),fun j y v' e1 e2 e3=>?_⟩,fun y c' e=>?_,I.free,I.freeC,fun p hp=>?_,tracked ⟨oc,hoc,I.freeC x c hc⟩ hs,by simpa using I.len⟩ ⟨c,hs,.inr hc⟩
  ·exact (hs.2 b (Nat.ne_of_lt (Nat.lt_of_lt_of_le (Heap.lt_size e) (I.ok.cab x c hfn hc)))).trans (I.base.keep b o e n hb hx)
  ·obtain⟨sl,e1⟩:=I.base.slot b o e n hb hx
   exact⟨sl,(hs.2 b (Nat.ne_of_lt (Nat.lt_of_lt_of_le (Heap.lt_size e) (I.ok.cab x c hfn hc)))).trans e1⟩
  ·obtain⟨o',e1⟩:=I.base.there b o e hx
   exact⟨o',(hs.2 b (Nat.ne_of_lt (Nat.lt_of_lt_of_le (Heap.lt_size e) (I.ok.cab x c hfn hc)))).trans e1⟩
  ·by_cases hj:j=i
   ·subst hj
    rw[hi]at e1;cases e1
    rw[List.getElem?_set_self hiσ]at e2
    cases e2
    exact⟨u,r,.inr ⟨.inl hk,c,hc,hc'⟩⟩
   ·rw[List.getElem?_set_ne (Ne.symm hj)]at e2
    obtain⟨u',r',q⟩:=hl j y v' e1 e2 e3
    refine⟨u',r',?_⟩
    rcases q with q | ⟨k,c',e,z'⟩
    ·exact .inl q
    ·refine .inr ⟨k,c',e,z'.sameBut hs ?_⟩
     rintro rfl
     exact hj (lW hN e1 (I.ok.inj _ _ _ e hc▸hi))
  ·by_cases hcc:c'=c
   ·subst hcc;exact⟨_,hc'⟩
   ·obtain⟨w2,z2⟩:=I.cell y c' e
    exact⟨w2,z2.sameBut hs hcc⟩
  ·obtain⟨e,n,ne,nf,d⟩:=I.pin p hp
   refine⟨(hs.2 p.1 ?_).trans e,n,ne,nf,d⟩
   intro q
   rw[q,hoc]at e
   have q':oc=p.2:=Option.some.inj e
   exact d w' (by rw[<-q'];exact hocd)
theorem lz {M:Model}{A:Around}{E:Value->Shared->Prop}{i:Nat}{x:Str}{v:V}{u:Value}{Q:Unit->Shared->Prop}(I:Inv X pins σ H s)(hN:X.N.Nodup)(hi:X.N[i]?=some x)(hx:zJ X.env.scope x)(r:RelV v u)
  (h:∀s',Inv X pins (σ.set i (some v)) H s'->Q () s') (hf:X.fn x=true\/X.env.scope.names.lookup x=some .local:=by first | exact .inl rfl | exact .inr rfl | assumption):wpAny M A (storeName X.env x u) Q E s :=
 f9 I hN hi hx r (fun s' I' _=>h s' I') hf
theorem Inv.call' {s':Shared}{ch:List Addr}(I:Inv X pins σ H s)(ho:s'.os=s.os)(u:Un (dn X.stack) ch H H' s.heap s'.heap)(hok:HOk X.prog X.w H' s'.heap)(hg:AllBare s'.gens)
  (hch:∀b∈ch,(b∈X.ex\/X.s₀.heap.objs.size≤b)/\b≠X.env.locals/\(∀x c,X.env.cells.lookup x=some c->c≠b)/\∀p∈X.pn++pins,p.1≠b):Inv X pins σ H' s':=by
 obtain⟨h',g',d',t',o'⟩:=s'
 have e:o'=s.os:=ho
 subst e
 exact I.call (g':=g') (t':=t') (d':=d') u hok hg hch
end
abbrev XK:=Value->Option Addr->Hp->Prop
abbrev St:=List (Option V)
abbrev VK:=V->Hp->Prop
abbrev TE:=St->Hp->VK->Prop
abbrev TT:=St->Hp->(Bool->Hp->Prop)->Prop
abbrev TA:=St->Hp->(List V->Hp->Prop)->Prop
structure im where
 nx:St->Hp->Prop
 rt:VK
 bk:St->Hp->Prop:=fun _ _=>False
 ct:St->Hp->Prop:=fun _ _=>False
abbrev TS:=im->St->Hp->Prop
def EP (X:Cx)(pins:List (Addr×Obj))(σ:St)(Q:VK)(u:Value)(s':Shared):Prop:=∃v H',Inv X pins σ H' s'/\RelV v u/\Q v H'
def TP (X:Cx)(pins:List (Addr×Obj))(σ:St)(Q:Bool->Hp->Prop)(b:Bool)(s':Shared):Prop:=∃H',Inv X pins σ H' s'/\Q b H'
def AP (X:Cx)(pins:List (Addr×Obj))(σ:St)(Q:List V->Hp->Prop)(us:List Value)(s':Shared):Prop:=∃vs H',Inv X pins σ H' s'/\Vals vs us/\Q vs H'
def SP (X:Cx)(pins:List (Addr×Obj))(D:im)(f:Flow)(s':Shared):Prop :=
 match f with
 | .next=>∃σ' H',Inv X pins σ' H' s'/\D.nx σ' H'
 | .brk=>∃σ' H',Inv X pins σ' H' s'/\D.bk σ' H'
 | .cont=>∃σ' H',Inv X pins σ' H' s'/\D.ct σ' H'
 | .ret u=>∃v σ' H',Inv X pins σ' H' s'/\RelV v u/\D.rt v H'
def PE (X:Cx)(e:Expr)(t:TE):Prop :=
 ∀(pins:List (Addr×Obj)) (s:Shared) (σ:St) (H:Hp) (Q:VK),Inv X pins σ H s->t σ H Q->wpAny (model X.prog X.w) X.A (eval e X.env) (EP X pins σ Q) X.xe s
def PT (X:Cx)(e:Expr)(t:TT):Prop :=
 ∀(pins:List (Addr×Obj)) (s:Shared) (σ:St) (H:Hp) (Q:Bool->Hp->Prop),Inv X pins σ H s->t σ H Q->wpAny (model X.prog X.w) X.A (isTrue e X.env (eval e X.env)) (TP X pins σ Q) X.xe s
def PW (X:Cx)(e:Expr)(t:TT):Prop :=
 ∀(whole:Sem Value) (pins:List (Addr×Obj)) (s:Shared) (σ:St) (H:Hp) (Q:Bool->Hp->Prop),Inv X pins σ H s->t σ H Q->wpAny (model X.prog X.w) X.A (isTrue e X.env whole) (TP X pins σ Q) X.xe s
theorem PW.pt {X:Cx}{e:Expr}{t:TT}(h:PW X e t):PT X e t:=h _
def PA (X:Cx)(es:List Expr)(t:TA):Prop :=
 ∀(pos:Pos) (pins:List (Addr×Obj)) (s:Shared) (σ:St) (H:Hp) (Q:List V->Hp->Prop),Inv X pins σ H s->t σ H Q->wpAny (model X.prog X.w) X.A (spliced (backTo pos (starEach es X.env))) (AP X pins σ Q) X.xe s
def PS (X:Cx)(st:Stmt)(t:TS):Prop :=
 ∀(pins:List (Addr×Obj)) (s:Shared) (σ:St) (H:Hp) (D:im),Inv X pins σ H s->t D σ H->wpAny (model X.prog X.w) X.A (exec st X.env) (SP X pins D) X.xe s
def PSs (X:Cx)(st:List Stmt)(t:TS):Prop :=
 ∀(pins:List (Addr×Obj)) (s:Shared) (σ:St) (H:Hp) (D:im),Inv X pins σ H s->t D σ H->wpAny (model X.prog X.w) X.A (execs st X.env) (SP X pins D) X.xe s
theorem bh {α:Type}{t:Sem α}{Q Q':α->Shared->Prop}{M:Model}{A:Around}{E:Value->Shared->Prop}{s:Shared}(h:wpAny M A t Q E s)(hQ:∀a s,Q a s->Q' a s):wpAny M A t Q' E s:=wpAny_mono h hQ fun _ _ x=>x
end L2
namespace L2
open PySem PySem.Spec PyProof.Rows
section
variable {X:Cx}
def za (i:Nat):TE:=fun σ H Q=>∃v,σ[i]?=some (some v)/\Q v H
def tC (v:V):TE:=fun _ H Q=>Q v H
theorem qx {i:Nat}{x:Str}{pos:Pos}(hN:X.N[i]?=some x)(hv:zI X.env.scope x)(hd:(x == ("__debug__":Str))=false:=by decide)(hcd:(x == ("__classdict__":Str))=false:=by decide):PE X (.Name x pos) (za i):=by
 intro pins s σ H Q I h
 obtain⟨v,e,h⟩:=h
 obtain⟨m,hn,hl⟩:=I.loc
 obtain⟨u,r,l⟩:=hl i x v hN e hv
 have fin:EP X pins σ Q u s:=⟨v,H,I,r,h⟩
 rcases l with⟨hk,hm⟩ | ⟨hk,c,hc,hcell⟩
 ·exact wpAny_Name (wpAny_loadName_local I.ok.kind hk hn hm fin) hd
 ·rcases hk with hk | hk
  ·exact wpAny_Name (wpAny_loadName_cell I.ok.kind hk hc hcell fin) hd
  ·exact wpAny_Name (wpAny_loadName_free I.ok.kind hk hc hcell fin hcd) hd
theorem yV {i j pos}:PE X (.Constant (.int i) j pos) (tC (.int i)):=fun _ _ _ H _ I h=>wpAny_Constant_int ⟨.int i,H,I.tok _,⟨_,rfl⟩,h⟩
theorem Ad {b j pos}:PE X (.Constant (.bool b) j pos) (tC (.bl b)):=fun _ _ _ H _ I h=>Constant_bool ⟨.bl b,H,I,rfl,h⟩
theorem xw {j pos}:PE X (.Constant .none j pos) (tC .non):=fun _ _ _ H _ I h=>Constant_none ⟨.non,H,I,rfl,h⟩
theorem wX {x j pos}:PE X (.Constant (.str x) j pos) (tC (.str x)):=fun _ _ _ H _ I h=>Calls.Constant_str ⟨.str x,H,I.tok _,⟨_,rfl⟩,h⟩
def Gl (X:Cx)(x:Str):Prop:=X.env.kindOf x=some .globalImplicit
theorem j3 {E:Value->Shared->Prop}{pins:List (Addr×Obj)}{s:Shared}{σ:St}{H:Hp}{x:Str}{u:Value}{pos:Pos}{Q:Value->Shared->Prop}(I:Inv X pins σ H s)(hg:Gl X x)(hm:X.mg x=some u)(h:Q u s)
  (hd:(x == ("__debug__":Str))=false:=by decide):wpAny (model X.prog X.w) X.A (eval (.Name x pos) X.env) Q E s :=
 Calls.Name_function_global I.ok.kind hg (Calls.loadGlobal_global (by rw[I.ok.glob];exact I.mod.glob.keeps I.bk) hm h) hd
theorem ff {E:Value->Shared->Prop}{pins:List (Addr×Obj)}{s:Shared}{σ:St}{H:Hp}{x:Str}{u:Value}{pos:Pos}{Q:Value->Shared->Prop}(I:Inv X pins σ H s)(hg:Gl X x)(hm:X.mg x=none)(hv:bootBuiltins x=some u)(h:Q u s)
  (hn:x≠"__name__":=by decide) (hd:(x == ("__debug__":Str))=false:=by decide):wpAny (model X.prog X.w) X.A (eval (.Name x pos) X.env) Q E s:=by
 obtain⟨mb,h1,h2⟩:=I.mod.blt
 exact Calls.Name_function_global I.ok.kind hg (Calls.loadGlobal_builtin (by rw[I.ok.glob];exact I.mod.glob.keeps I.bk) hm (by rw[I.ok.blt];exact h1.keeps I.bk) ((h2 x hn).trans hv) h) hd
theorem uH {x:Str}{v:V}{u:Value}{pos:Pos}(hg:Gl X x)(hm:X.mg x=some u)(r:RelV v u)(hd:(x == ("__debug__":Str))=false:=by decide):PE X (.Name x pos) (tC v) :=
 fun _ _ _ H _ I h=>j3 I hg hm ⟨v,H,I,r,h⟩ hd
theorem uq {x:Str}{v:V}{u:Value}{pos:Pos}(hg:Gl X x)(hm:X.mg x=none)(hv:bootBuiltins x=some u)(r:RelV v u)(hn:x≠"__name__":=by decide)(hd:(x == ("__debug__":Str))=false:=by decide):PE X (.Name x pos) (tC v) :=
 fun _ _ _ H _ I h=>ff I hg hm hv ⟨v,H,I,r,h⟩ hn hd
variable {a b:Expr}{ta tb:TE}{pos:Pos}
def tB (t:TE):TT:=fun σ H Q=>t σ H fun x H1=>∃c,x=.bl c/\Q c H1
theorem yy {e:Expr}{t:TE}(h:PE X e t)(he:∀whole,isTrue e X.env whole=(do let v<-whole;standAt e.pos;holding [v] (truthy v)):=by intro _;rfl):PT X e (tB t):=by
 intro pins s σ H Q I hw
 refine isTrue_plain (bh (h pins s σ H _ I hw) fun v s1 ⟨x,H1,I1,r1,q1⟩=>?_) (he _)
 obtain⟨d,rfl,q⟩:=q1
 cases r1
 exact wpAny_truthy_bool ⟨H1,I1,q⟩
variable {tA tB':TT}{bI:List Expr}
def Al (t u:TT):TT:=fun σ H Q=>t σ H fun c H1=>if c=true then u σ H1 Q else Q false H1
def Cf (t u:TT):TT:=fun σ H Q=>t σ H fun c H1=>if c=true then Q true H1 else u σ H1 Q
def zQ (t:TT):TT:=fun σ H Q=>t σ H fun c H1=>Q (!c) H1
theorem uB (ha:PT X a tA):PW X (.BoolOp .And [a] pos) tA:=by
 intro wh pins s σ H Q I h
 refine isTrue_and (bh (ha pins s σ H Q I h) fun c s1 e=>?_)
 cases c with
 | true=>exact isTrue_and_nil e
 | false=>exact e
theorem xD (ha:PT X a tA):PW X (.BoolOp .Or [a] pos) tA:=by
 intro wh pins s σ H Q I h
 refine isTrue_or (bh (ha pins s σ H Q I h) fun c s1 e=>?_)
 cases c with
 | false=>exact isTrue_or_nil e
 | true=>exact e
theorem yT (ha:PT X a tA)(hb:PW X (.BoolOp .And (b::bI) pos) tB'):PW X (.BoolOp .And (a::b::bI) pos) (Al tA tB'):=by
 intro wh pins s σ H Q I h
 refine isTrue_and (bh (ha pins s σ H _ I h) fun c s1 ⟨H1,I1,q1⟩=>?_)
 cases c with
 | true=>exact hb wh pins s1 σ H1 Q I1 q1
 | false=>exact⟨H1,I1,q1⟩
theorem AR (ha:PT X a tA)(hb:PW X (.BoolOp .Or (b::bI) pos) tB'):PW X (.BoolOp .Or (a::b::bI) pos) (Cf tA tB'):=by
 intro wh pins s σ H Q I h
 refine isTrue_or (bh (ha pins s σ H _ I h) fun c s1 ⟨H1,I1,q1⟩=>?_)
 cases c with
 | true=>exact⟨H1,I1,q1⟩
 | false=>exact hb wh pins s1 σ H1 Q I1 q1
theorem x6 (ha:PT X a tA):PT X (.UnaryOp .Not a pos) (zQ tA):=by
 intro pins s σ H Q I h
 exact isTrue_not (ha pins s σ H (fun c H1=>Q (!c) H1) I h)
def xW (ta tb:TE):TE:=fun σ H Q=>ta σ H fun x H1=>∃c,x=.bl c/\if c=true then Q (.bl true) H1 else tb σ H1 Q
theorem xp {op}{t:TE}(h:PE X a t):PE X (.BoolOp op [a] pos) t:=fun pins s σ H Q I hw=>BoolOp_one (h pins s σ H Q I hw)
theorem AO (ha:PE X a ta)(hb:PE X (.BoolOp .Or (b::bI) pos) tb):PE X (.BoolOp .Or (a::b::bI) pos) (xW ta tb):=by
 intro pins s σ H Q I h
 refine BoolOp_or (bh (ha pins s σ H _ I h) fun v s1 ⟨x,H1,I1,r1,q1⟩=>?_)
 obtain⟨c,rfl,q1⟩:=q1
 cases r1
 refine wpAny_truthy_bool ?_
 cases c with
 | false=>exact hb pins s1 σ H1 Q I1 q1
 | true=>exact⟨.bl true,H1,I1,rfl,q1⟩
def B9 (t:TT)(ta tb:TE):TE:=fun σ H Q=>t σ H fun c H1=>if c=true then ta σ H1 Q else tb σ H1 Q
theorem sg {c:Expr}(hc:PT X c tA)(ha:PE X a ta)(hb:PE X b tb):PE X (.IfExp c a b pos) (B9 tA ta tb):=by
 intro pins s σ H Q I h
 refine wpAny_IfExp (bh (hc pins s σ H _ I h) fun d s1 ⟨H1,I1,q1⟩=>?_)
 cases d with
 | true=>exact ha pins s1 σ H1 Q I1 q1
 | false=>exact hb pins s1 σ H1 Q I1 q1
end
end L2
namespace L2
open PySem PySem.Spec PyProof.Rows
def SqL (K:PySem.W.Frag)(H:Hp)(a:Addr)(xs:List V):Prop :=
 Rd H a (.lst xs) \/
  ∃(o:Obj) (its:Array Value) (n:Nat),K.lookup a=some o/\o.cls=.type "list"/\o.dict=none/\o.data=.seq its n/\its.size≤sizeLine/\Vals xs its.toList
def SqT (K:PySem.W.Frag)(H:Hp)(a:Addr)(xs:List V):Prop :=
 Rd H a (.tup xs) \/
  ∃(o:Obj) (its:Array Value) (n:Nat),K.lookup a=some o/\o.cls=.type "tuple"/\o.data=.seq its n/\its.size≤sizeLine/\Vals xs its.toList
def B8:Value->Option V
 | .none=>some .non
 | .bool b=>some (.bl b)
 | .int i _=>some (.int i)
 | .str x _=>some (.str x)
 | .bytes b _=>some (.byt b)
 | .float b _=>some (.flt b)
 | .ref a=>some (.ref a)
 | .type n=>some (.ty n)
 | _=>none
theorem RelV.abs {x:V}{u:Value}(r:RelV x u):B8 u=some x:=by
 cases x with
 | non=>cases r;rfl
 | bl _=>cases r;rfl
 | int _=>obtain⟨t,rfl⟩:=r;rfl
 | str _=>obtain⟨t,rfl⟩:=r;rfl
 | byt _=>obtain⟨t,rfl⟩:=r;rfl
 | flt _=>obtain⟨t,rfl⟩:=r;rfl
 | ref _=>cases r;rfl
 | ty _=>cases r;rfl
theorem RelV.inj {x y:V}{u:Value}(r:RelV x u)(q:RelV y u):x=y:=Option.some.inj (r.abs.symm.trans q.abs)
theorem Vals.inj:∀{xs ys:List V} {us:List Value},Vals xs us->Vals ys us->xs=ys
 | _,_,_,.nil,.nil=>rfl
 | _,_,_,.cons r t,.cons r' t'=>by rw[r.inj r',Vals.inj t t']
section
variable {X:Cx}{pins:List (Addr×Obj)}{σ:St}{H:Hp}{s:Shared}{a:Addr}{xs ys:List V}
theorem SqL.of {K:PySem.W.Frag}(h:H a=some (.lst xs)):SqL K H a xs:=.inl (.inl h)
theorem SqT.of {K:PySem.W.Frag}(h:H a=some (.tup xs)):SqT K H a xs:=.inl (.inl h)
theorem Inv.list (I:Inv X pins σ H s)(h:SqL X.K H a xs):∃its:List Value,Vals xs its/\PlainL s.heap a its.toArray/\xs.length≤sizeLine:=by
 rcases h with h | ⟨o,its,n,hk,hc,hd,hs,hz,r⟩
 ·obtain⟨z,its,n,r,e⟩:=h.ok I.hok
  exact⟨its,r,⟨_,n,e,rfl,rfl,rfl⟩,z⟩
 ·refine⟨its.toList,r,⟨o,n,I.kIn a o hk,hc,hd,by simpa using hs⟩,?_⟩
  have e:=r.length
  simp only[Array.length_toList]at e
  omega
theorem Inv.tuple (I:Inv X pins σ H s)(h:SqT X.K H a xs):∃its:List Value,Vals xs its/\IsTup s.heap a its.toArray/\xs.length≤sizeLine:=by
 rcases h with h | ⟨o,its,n,hk,hc,hs,hz,r⟩
 ·obtain⟨z,its,r,p⟩:=h.ok I.hok
  exact⟨its,r,p,z⟩
 ·refine⟨its.toList,r,⟨o,I.kIn a o hk,hc,n,by simpa using hs⟩,?_⟩
  have e:=r.length
  simp only[Array.length_toList]at e
  omega
theorem Inv.list_inj (I:Inv X pins σ H s)(h:SqL X.K H a xs)(h':SqL X.K H a ys):xs=ys:=by
 obtain⟨its,r,⟨o,n,e,_,_,d⟩,_⟩:=I.list h
 obtain⟨its',r',⟨o',n',e',_,_,d'⟩,_⟩:=I.list h'
 rw[e]at e';cases e'
 rw[d]at d'
 injection d' with d1 _
 have:its=its':=by simpa using congrArg Array.toList d1
 subst this
 exact r.inj r'
theorem Inv.tuple_inj (I:Inv X pins σ H s)(h:SqT X.K H a xs)(h':SqT X.K H a ys):xs=ys:=by
 obtain⟨its,r,⟨o,e,_,n,d⟩,_⟩:=I.tuple h
 obtain⟨its',r',⟨o',e',_,n',d'⟩,_⟩:=I.tuple h'
 rw[e]at e';cases e'
 rw[d]at d'
 injection d' with d1 _
 have:its=its':=by simpa using congrArg Array.toList d1
 subst this
 exact r.inj r'
end
abbrev Cx.wish (X:Cx)(E:Value->Shared->Prop):Cx:={ X with xe:=E }
abbrev Cx.nox (X:Cx):Cx:=X.wish fun _ _=>False
theorem Cx.Ok.wish {X:Cx}(ok:X.Ok)(E:Value->Shared->Prop):(X.wish E).Ok :=
 ⟨ok.mod,ok.kind,ok.glob,ok.blt,ok.above,ok.inj,ok.has,ok.cab,ok.hd,ok.frames,ok.stk,ok.exf,ok.bs,ok.bsz,ok.noex,ok.exfs,ok.funs,ok.frf⟩
theorem Cx.Ok.unwish {X:Cx}{E:Value->Shared->Prop}(ok:(X.wish E).Ok):X.Ok :=
 ⟨ok.mod,ok.kind,ok.glob,ok.blt,ok.above,ok.inj,ok.has,ok.cab,ok.hd,ok.frames,ok.stk,ok.exf,ok.bs,ok.bsz,ok.noex,ok.exfs,ok.funs,ok.frf⟩
section
variable {X:Cx}{pins:List (Addr×Obj)}{σ:St}{H:Hp}{s:Shared}{E:Value->Shared->Prop}
theorem Inv.wish (I:Inv X pins σ H s)(E:Value->Shared->Prop):Inv (X.wish E) pins σ H s:=⟨I.ok.wish E,I.os,I.bare,I.base,I.loc,I.cell,I.free,I.freeC,I.pin,I.hok,I.len⟩
theorem Inv.unwish (I:Inv (X.wish E) pins σ H s):Inv X pins σ H s:=⟨I.ok.unwish,I.os,I.bare,I.base,I.loc,I.cell,I.free,I.freeC,I.pin,I.hok,I.len⟩
theorem SP.unwish {D:im}{f:Flow}{s':Shared}(h:SP (X.wish E) pins D f s'):SP X pins D f s':=by
 cases f with
 | next=>obtain⟨σ',H',I,q⟩:=h;exact⟨σ',H',I.unwish,q⟩
 | brk=>obtain⟨σ',H',I,q⟩:=h;exact⟨σ',H',I.unwish,q⟩
 | cont=>obtain⟨σ',H',I,q⟩:=h;exact⟨σ',H',I.unwish,q⟩
 | ret u=>obtain⟨v,σ',H',I,r,q⟩:=h;exact⟨v,σ',H',I.unwish,r,q⟩
theorem PSs.nox {st:List Stmt}{t:TS}(h:PSs X.nox st t):PSs X st t:=fun pins s σ H D I hw =>
 wpAny_mono (h pins s σ H D (I.wish _) hw) (fun _ _ q=>q.unwish) fun _ _ z=>False.elim z
end
section
variable {X:Cx}{st:Stmt}{bI:List Stmt}{t u:TS}{e:Expr}{te:TE}{pos:Pos}
def ww:TS:=fun D σ H=>D.nx σ H
def y4 (t u:TS):TS:=fun D σ H=>t { D with nx:=u D } σ H
theorem vh:PSs X [] ww:=fun _ _ σ H _ I h=>wpAny_execs_nil ⟨σ,H,I,h⟩
theorem sZ (h1:PS X st t)(h2:PSs X bI u):PSs X (st::bI) (y4 t u):=by
 intro pins s σ H D I h
 refine wpAny_execs_cons (bh (h1 pins s σ H { D with nx:=u D } I h) fun f s1 q=>?_)
 cases f with
 | next =>
  obtain⟨σ',H',I',q⟩:=q
  exact h2 pins s1 σ' H' D I' q
 | ret v=>exact q
 | brk=>exact q
 | cont=>exact q
theorem ua (h1:PS X st t):PSs X [st] t:=by
 intro pins s σ H D I h
 refine wpAny_execs_cons (bh (h1 pins s σ H D I h) fun f s1 q=>?_)
 cases f with
 | next=>exact wpAny_execs_nil q
 | ret v=>exact q
 | brk=>exact q
 | cont=>exact q
theorem Inv.quiet {pins:List (Addr×Obj)}{σ:St}{H:Hp}{s:Shared}(I:Inv X pins σ H s):interactive X.env=false:=by simp[interactive,I.ok.kind]
def wl (te:TE):TS:=fun D σ H=>te σ H fun _ H1=>D.nx σ H1
theorem ve (he:PE X e te)(hs:swapsWith e none pos.line X.env=pure false:=by rfl):PS X (.Expr e pos) (wl te):=by
 intro pins s σ H D I h
 exact wpAny_Expr_any (bh (he pins s σ H _ I h) fun v s1 ⟨x,H1,I1,r1,q1⟩=>⟨σ,H1,I1,q1⟩) I.quiet hs
def Bm (te:TE):TS:=fun D σ H=>te σ H D.rt
theorem yd (he:PE X e te):PS X (.Return (some e) pos) (Bm te):=by
 intro pins s σ H D I h
 exact wpAny_Return_some (bh (he pins s σ H _ I h) fun v s1 ⟨x,H1,I1,r1,q1⟩=>⟨x,σ,H1,I1,r1,q1⟩)
def Ai (c:TT)(t u:TS):TS:=fun D σ H=>c σ H fun b H1=>if b=true then t D σ H1 else u D σ H1
theorem AQ {c:Expr}{a b:List Stmt}{tc:TT}(hc:PT X c tc)(ha:PSs X a t)(hb:PSs X b u):PS X (.If c a b pos) (Ai tc t u):=by
 intro pins s σ H D I h
 refine wpAny_If (bh (hc pins s σ H _ I h) fun d s1 ⟨H1,I1,q1⟩=>?_)
 cases d with
 | true=>exact ha pins s1 σ H1 D I1 q1
 | false=>exact hb pins s1 σ H1 D I1 q1
end
abbrev TG:=V->St->Hp->(St->Hp->Prop)->Prop
abbrev sf:=List V->St->Hp->(St->Hp->Prop)->Prop
def PG (X:Cx)(target:Expr)(t:TG):Prop :=
 ∀(pins:List (Addr×Obj)) (s:Shared) (σ:St) (H:Hp) (v:V) (u:Value) (Q:St->Hp->Prop),Inv X pins σ H s->RelV v u->t v σ H Q ->
  wpAny (model X.prog X.w) X.A (assign target X.env u) (fun _ s'=>∃σ' H',Inv X pins σ' H' s'/\Q σ' H') X.xe s
def zA (X:Cx)(ts:List Expr)(t:sf):Prop :=
 ∀(pins:List (Addr×Obj)) (s:Shared) (σ:St) (H:Hp) (vs:List V) (us:List Value) (Q:St->Hp->Prop),Inv X pins σ H s->Vals vs us->t vs σ H Q ->
  wpAny (model X.prog X.w) X.A (assignInOrder ((assignEach ts X.env).map (·.2)) us) (fun _ s'=>∃σ' H',Inv X pins σ' H' s'/\Q σ' H') X.xe s
section
variable {X:Cx}{pos:Pos}
def oD (i:Nat):TG:=fun v σ H Q=>Q (σ.set i (some v)) H
theorem uz {i:Nat}{x:Str}(hN:X.N.Nodup)(hi:X.N[i]?=some x)(hx:zJ X.env.scope x)(hf:X.fn x=true\/X.env.scope.names.lookup x=some .local:=by first | exact .inl rfl | exact .inr rfl | assumption):PG X (.Name x pos) (oD i):=by
 intro pins s σ H v u Q I r h
 exact wpAny_assign_Name (lz I hN hi hx r (fun s' I'=>⟨_,H,I',h⟩) hf)
def Bl:sf:=fun vs σ H Q=>vs=[]/\Q σ H
def wG (t:TG)(u:sf):sf:=fun vs σ H Q=>∃v r,vs=v::r/\t v σ H fun σ' H'=>u r σ' H' Q
theorem uW:zA X [] Bl:=by
 intro pins s σ H vs us Q I r h
 obtain⟨e,h⟩:=h
 subst e
 cases r
 exact assignInOrder_nil ⟨σ,H,I,h⟩
theorem sN {e:Expr}{es:List Expr}{t:TG}{u:sf}(h1:PG X e t)(h2:zA X es u)
  (hs:(assignEach (e::es) X.env).map (·.2)=assign e X.env::(assignEach es X.env).map (·.2):=by rfl):zA X (e::es) (wG t u):=by
 intro pins s σ H vs us Q I r h
 obtain⟨v,vr,e1,h⟩:=h
 subst e1
 cases r with
 | cons r rr =>
  rw[hs]
  refine assignInOrder_cons (bh (h1 pins s σ H _ _ _ I r h) fun _ s1 ⟨σ1,H1,I1,q1⟩=>?_)
  exact h2 pins s1 σ1 H1 _ _ Q I1 rr q1
def yf (K:PySem.W.Frag)(n:Nat)(t:sf):TG:=fun v σ H Q=>∃a xs,v=.ref a/\SqT K H a xs/\xs.length=n/\t xs σ H Q
theorem yQ {es:List Expr}{k:Nat}{t:sf}{n:Nat}(hc:X.calm=true)(h:zA X es t)
  (hn:(assignEach es X.env).length=n:=by rfl) (hst:(assignEach es X.env).findIdx? (·.1)=none:=by rfl):PG X (.Tuple es k pos) (yf X.K n t):=by
 intro pins s σ H v u Q I r hw
 obtain⟨a,xs,e1,hq,hl,hw⟩:=hw
 subst e1
 cases r
 obtain⟨its,rv,ht,hz⟩:=I.tuple hq
 refine assign_Tuple_tuple (I.ok.hd hc) ht (by simp[hn,<-hl,rv.length]) hst fun h' hx=>?_
 have I1:Inv X pins σ H { s with heap:=h' }:=I.kept (t':=s.toks) fun b o e=>hx b o (Nat.ne_of_lt (Heap.lt_size e)) e
 exact h pins _ σ H xs _ Q I1 (by simpa using rv) hw
def A3 (te:TE)(g:TG):TS:=fun D σ H=>te σ H fun x H1=>g x σ H1 D.nx
theorem xB {i:Nat}{x:Str}{e:Expr}{te:TE}{pos':Pos}(hN:X.N.Nodup)(hi:X.N[i]?=some x)(hx:zJ X.env.scope x)(he:PE X e te)(hs:swapsWith e (some (.Name x pos')) pos.line X.env=pure false:=by rfl)(hf:X.fn x=true\/X.env.scope.names.lookup x=some .local:=by first | exact .inl rfl | exact .inr rfl | assumption) :
  PS X (.Assign [.Name x pos'] e pos) (A3 te (oD i)):=by
 intro pins s σ H D I h
 refine wpAny_Assign_Name (bh (he pins s σ H _ I h) fun v s1 ⟨y,H1,I1,r1,q1⟩=>?_) hs
 exact lz I1 hN hi hx r1 (fun s2 I2=>⟨_,H1,I2,q1⟩) hf
end
section
variable {X:Cx}{pos:Pos}
def qS (c:TT)(tb:TS):TS:=fun D σ H=>∃W:Nat->St->Hp->Prop,(∃m,W m σ H)/\∀m σ H,W m σ H ->
 c σ H fun b H1=>if b=true then ∃N:St->Hp->Prop,(∀σ' H',N σ' H'->∃m',m'<m/\W m' σ' H')/\tb { D with nx:=N,ct:=N,bk:=D.nx } σ H1 else D.nx σ H1
theorem qL {c:Expr}{body:List Stmt}{tc:TT}{tb:TS}(hp:PassesOwn (model X.prog X.w) X.A X.env X.xe)(hc:PT X c tc)(hb:PSs X body tb):PS X (.While c body [] pos) (qS tc tb):=by
 intro pins s σ H D I h
 obtain⟨W,⟨m0,w0⟩,turn⟩:=h
 refine wpAny_While (codeAny_whileLoop (fun n s'=>∃σ' H',Inv X pins σ' H' s'/\W n σ' H') ?_ m0 ⟨σ,H,I,w0⟩)
 rintro n s1 ⟨σ1,H1,I1,w1⟩
 refine wpAny_passesOwn hp (bh (hc pins s1 σ1 H1 _ I1 (turn n σ1 H1 w1)) fun b s2 ⟨H2,I2,q2⟩=>?_)
 cases b with
 | true =>
  obtain⟨N,hN,q2⟩:=q2
  rw[if_pos rfl]
  refine wpAny_passesOwn hp (bh (hb pins s2 σ1 H2 _ I2 q2) fun f s3 q3=>?_)
  cases f with
  | next =>
   obtain⟨σ3,H3,I3,n3⟩:=q3
   obtain⟨m',hm,w3⟩:=hN σ3 H3 n3
   exact⟨m',hm,σ3,H3,I3,w3⟩
  | cont =>
   obtain⟨σ3,H3,I3,n3⟩:=q3
   obtain⟨m',hm,w3⟩:=hN σ3 H3 n3
   exact⟨m',hm,σ3,H3,I3,w3⟩
  | brk=>exact q3
  | ret v=>exact q3
 | false =>
  rw[if_neg Bool.false_ne_true]
  exact wpAny_execs_nil ⟨σ1,H2,I2,q2⟩
end
structure It where
 go:Nat->Hp->Prop
 yld:Nat->Hp->V->Hp->Prop
 stop:Nat->Hp->Prop
def dr (X:Cx)(pins:List (Addr×Obj))(H:Hp)(b:Addr):Prop :=
 H b=none/\b≠X.env.locals/\b∉X.fs/\(b∈X.ex\/X.s₀.heap.objs.size≤b)/\(∀x c,X.env.cells.lookup x=some c->c≠b)/\∀p∈X.pn++pins,p.1≠b
theorem Inv.fpOk {X:Cx}{pins:List (Addr×Obj)}{σ:St}{H H':Hp}{s:Shared}{b:Addr}(I:Inv X pins σ H s)(hb:s.heap.objs.size≤b)(hn:H' b=none):dr X pins H' b:=by
 refine⟨hn,Nat.ne_of_gt (Nat.lt_of_lt_of_le I.lt hb),I.nofs hb,.inr (Nat.le_trans I.sz hb),fun x c e z=>?_,fun p hp z=>?_⟩
 ·obtain⟨v,q⟩:=I.cell x c e
  exact absurd (Nat.lt_of_lt_of_le q.lt (by rw[z];exact hb)) (Nat.lt_irrefl _)
 ·exact absurd (Nat.lt_of_lt_of_le (Heap.lt_size (I.pin p hp).1) (by rw[z];exact hb)) (Nat.lt_irrefl _)
structure ie (P:Program)(w:World)(K:PySem.W.Frag)(tg:Expr)(J:It)(fp:List Addr)(it:Addr)(tn:Nat->Heap->Prop):Prop where
 mem:it∈fp
 obj:∀i h,tn i h->∀b∈fp,∃o,h.get? b=some o/\∀v,o.data≠.cell v
 keep:∀i h h',tn i h->(∀b∈fp,∀o,h.get? b=some o->h'.get? b=some o)->tn i h'
 item:∀(X:Cx),X.prog=P->X.w=w->X.K=K->X.calm=true->∀(i:Nat) (pins:List (Addr×Obj)) (s:Shared) (σ:St) (H:Hp) (E:Value->Shared->Prop),Inv X pins σ H s->(∀b∈fp,dr X pins H b)->tn i s.heap->J.go i H ->
  wpAny (model P w) X.A (pyNext (.ref it)) (fun r s1=>∃u,r=some u /\
   wpAny (model P w) X.A (letOwnedTupleGo tg (.ref it) u) (fun _ s2=>∃x H',Inv X pins σ H' s2/\RelV x u/\J.yld i H x H'/\tn (i+1) s2.heap/\∀b∈fp,H' b=none) E s1) E s
 done:∀(X:Cx),X.prog=P->X.w=w->X.K=K->X.calm=true->∀(i:Nat) (pins:List (Addr×Obj)) (s:Shared) (σ:St) (H:Hp) (E:Value->Shared->Prop),Inv X pins σ H s->(∀b∈fp,dr X pins H b)->tn i s.heap->J.stop i H ->
  wpAny (model P w) X.A (pyNext (.ref it)) (fun r s1=>r=none/\Inv X pins σ H s1) E s
 self:∀(A:Around) (i:Nat) (s:Shared) (Q:Value->Shared->Prop) (E:Value->Shared->Prop),tn i s.heap->Q (.ref it) s->wpAny (model P w) A (pyIter (.ref it)) Q E s
abbrev TI:=St->Hp->(It->Hp->Prop)->Prop
def Ce (X:Cx)(pins:List (Addr×Obj))(σ:St)(tg:Expr)(R:It->Hp->Prop)(itv:Value)(s2:Shared):Prop :=
 ∃(it:Addr) (fp:List Addr) (tn:Nat->Heap->Prop) (J:It) (H':Hp),itv=.ref it/\Inv X pins σ H' s2/\ie X.prog X.w X.K tg J fp it tn/\tn 0 s2.heap/\(∀b∈fp,dr X pins H' b)/\R J H'
def PI (X:Cx)(tg iter:Expr)(wi:TI):Prop :=
 ∀(pins:List (Addr×Obj)) (s:Shared) (σ:St) (H:Hp) (R:It->Hp->Prop),Inv X pins σ H s->wi σ H R ->
  wpAny (model X.prog X.w) X.A (eval iter X.env) (fun v s1=>wpAny (model X.prog X.w) X.A (pyIter v) (Ce X pins σ tg R) X.xe s1) X.xe s
theorem kO {M:Model}{A:Around}{E:Value->Shared->Prop}{s:Shared}{tg:Expr}{it:Addr}{u:Value}{o:Obj}{n:String}{vs:Array Value}{Q:Unit->Shared->Prop}(ho:s.heap.get? it=some o)(hc:o.cls=.type n)(hd:o.data=.fields vs)
  (hn:["enumerate","zip","dict_itemiterator","dict_reverseitemiterator","odict_iterator","itertools.zip_longest","itertools.pairwise"].contains n=false) (hQ:Q () s):wpAny M A (letOwnedTupleGo tg (.ref it) u) Q E s:=by
 unfold letOwnedTupleGo
 cases tg<;>first
  | exact wpAny_pure hQ
  | (cases u<;>first
    | exact wpAny_pure hQ
    | (refine wpAny_bind (wpAny_load ho ?_)
       rw[hc,hd]
       show wpAny M A (if (["enumerate","zip","dict_itemiterator","dict_reverseitemiterator","odict_iterator","itertools.zip_longest","itertools.pairwise"].contains n&&vs[0]? == some (rawInt _))=true then _ else _) Q E s
       rw[if_neg (by intro h;rw[hn,Bool.false_and]at h;cases h)]
       exact wpAny_pure hQ))
def zC (K:PySem.W.Frag)(a:Addr):It :=
 ⟨fun i H=>∃xs x,SqL K H a xs/\xs[i]?=some x,fun i H x H'=>H'=H/\∀xs,SqL K H a xs->xs[i]?=some x,fun i H=>∃xs,SqL K H a xs/\xs.length≤i⟩
def Bv (K:PySem.W.Frag)(a:Addr):It :=
 ⟨fun i H=>∃xs x,SqT K H a xs/\xs[i]?=some x,fun i H x H'=>H'=H/\∀xs,SqT K H a xs->xs[i]?=some x,fun i H=>∃xs,SqT K H a xs/\xs.length≤i⟩
def wv (lo:Int)(n:Nat):It:=⟨fun i _=>i<n,fun i H x H'=>H'=H/\x=.int (lo+i),fun i _=>n≤i⟩
theorem pZ {P:Program}{w:World}{K:PySem.W.Frag}{tg:Expr}(a it:Addr):ie P w K tg (zC K a) [it] it (fun i h=>h.IsListIter it a i) where
 mem:=by simp
 obj:=fun i h st b hb=>by
  have e:b=it:=by simpa using hb
  subst e
  obtain⟨o,e,c,d⟩:=st
  exact⟨o,e,fun v z=>by rw[d]at z;cases z⟩
 keep:=fun i h h' st k=>st.at fun o e=>k it (by simp) o e
 item:=by
  intro X hP hw hK hc i pins s σ H E I hf st hg
  subst hP hw hK
  obtain⟨xs,x,hq,hx⟩:=hg
  obtain⟨its,rv,p,hz⟩:=I.list hq
  obtain⟨u,hu,ru⟩:=rv.get hx
  obtain⟨f0,f1,f2,f3,f4,f5⟩:=hf it (by simp)
  refine wpAny_pyNext_list_item st p.isList (x:=u) (by simpa using hu) fun h' st' sb=>?_
  have I1:Inv X pins σ H { s with heap:=h' }:=I.turned (t':=s.toks) (fun b o hb e=>(sb.2 b hb).trans e) f0 f1 f3 f4 f5
  obtain⟨o,e,c,d⟩:=id st'
  exact⟨u,rfl,kO (s:={ s with heap:=h' }) e c d (by decide) ⟨x,H,I1,ru,⟨rfl,fun ys hy=>by rw[I.list_inj hy hq];exact hx⟩,st',fun b hb=>(hf b hb).1⟩⟩
 done:=by
  intro X hP hw hK hc i pins s σ H E I hf st hg
  subst hP hw hK
  obtain⟨xs,hq,hx⟩:=hg
  obtain⟨its,rv,p,hz⟩:=I.list hq
  obtain⟨f0,f1,f2,f3,f4,f5⟩:=hf it (by simp)
  have hl:=rv.length
  exact wpAny_pyNext_list_end (I.ok.hd hc) st p.isList (by simp;omega) fun h' eb=>⟨rfl,I.turned (t':=s.toks) (fun b o hb e=>eb b o hb e) f0 f1 f3 f4 f5⟩
 self:=fun _ _ _ _ _ st h=>wpAny_pyIter_listiter st h
theorem mK {P:Program}{w:World}{K:PySem.W.Frag}{tg:Expr}(a it:Addr):ie P w K tg (Bv K a) [it] it (fun i h=>h.IsTupleIter it a i) where
 mem:=by simp
 obj:=fun i h st b hb=>by
  have e:b=it:=by simpa using hb
  subst e
  obtain⟨o,e,c,d⟩:=st
  exact⟨o,e,fun v z=>by rw[d]at z;cases z⟩
 keep:=fun i h h' st k=>st.at fun o e=>k it (by simp) o e
 item:=by
  intro X hP hw hK hc i pins s σ H E I hf st hg
  subst hP hw hK
  obtain⟨xs,x,hq,hx⟩:=hg
  obtain⟨its,rv,p,hz⟩:=I.tuple hq
  obtain⟨u,hu,ru⟩:=rv.get hx
  obtain⟨f0,f1,f2,f3,f4,f5⟩:=hf it (by simp)
  refine wpAny_pyNext_tuple_item st (show s.heap.IsTuple a its.toArray from p) (x:=u) (by simpa using hu) fun h' st' sb=>?_
  have I1:Inv X pins σ H { s with heap:=h' }:=I.turned (t':=s.toks) (fun b o hb e=>(sb.2 b hb).trans e) f0 f1 f3 f4 f5
  obtain⟨o,e,c,d⟩:=id st'
  exact⟨u,rfl,kO (s:={ s with heap:=h' }) e c d (by decide) ⟨x,H,I1,ru,⟨rfl,fun ys hy=>by rw[I.tuple_inj hy hq];exact hx⟩,st',fun b hb=>(hf b hb).1⟩⟩
 done:=by
  intro X hP hw hK hc i pins s σ H E I hf st hg
  subst hP hw hK
  obtain⟨xs,hq,hx⟩:=hg
  obtain⟨its,rv,p,hz⟩:=I.tuple hq
  obtain⟨f0,f1,f2,f3,f4,f5⟩:=hf it (by simp)
  have hl:=rv.length
  exact wpAny_pyNext_tuple_end (I.ok.hd hc) st (show s.heap.IsTuple a its.toArray from p) (by simp;omega) fun h' eb=>⟨rfl,I.turned (t':=s.toks) (fun b o hb e=>eb b o hb e) f0 f1 f3 f4 f5⟩
 self:=fun _ _ _ _ _ st h=>wpAny_pyIter_tupleiter st h
theorem mZ {P:Program}{w:World}{K:PySem.W.Frag}{tg:Expr}(it:Addr)(lo:Int)(n:Nat):ie P w K tg (wv lo n) [it] it (fun i h=>IsRangeIter h it (lo+(i:Nat)*1) ((n:Int)-(i:Nat)) 1) where
 mem:=by simp
 obj:=fun i h st b hb=>by
  have e:b=it:=by simpa using hb
  subst e
  exact⟨_,st,fun v z=>by
   have z':Data.fields _=Data.cell v:=z
   cases z'⟩
 keep:=fun i h h' st k=>k it (by simp) _ st
 item:=by
  intro X hP hw hK hc i pins s σ H E I hf st hg
  subst hP hw hK
  obtain⟨f0,f1,f2,f3,f4,f5⟩:=hf it (by simp)
  have W:=Walks.range (prog:=X.prog) (w:=X.w) (I.ok.hd hc) it lo 1 n
  refine W.item i s _ _ hg st fun v h' tk hv st' kk=>?_
  obtain⟨t,rfl⟩:=hv
  have I1:Inv X pins σ H { s with heap:=h',toks:=tk }:=I.turned (fun b o hb e=>kk b o (by simpa using hb) e) f0 f1 f3 f4 f5
  refine⟨_,rfl,kO (s:={ s with heap:=h',toks:=tk }) (n:="range_iterator") st' rfl rfl (by decide) ⟨.int (lo+i),H,I1,⟨t,?_⟩,⟨rfl,rfl⟩,st',fun b hb=>(hf b hb).1⟩⟩
  rw[Int.mul_one]
 done:=by
  intro X hP hw hK hc i pins s σ H E I hf st hg
  subst hP hw hK
  obtain⟨f0,f1,f2,f3,f4,f5⟩:=hf it (by simp)
  exact wpAny_pyNext_range_end (I.ok.hd hc) st (by have:n≤i:=hg;omega) fun h' eb=>⟨rfl,I.turned (t':=s.toks) (fun b o hb e=>eb b o hb e) f0 f1 f3 f4 f5⟩
 self:=fun _ _ _ _ _ st h=>wpAny_pyIter_rangeiter st h
end L2
namespace L2
open PySem PySem.Spec PyProof.Rows
section
variable {X:Cx}{tg:Expr}
theorem sQ {pins:List (Addr×Obj)}{σ:St}{H:Hp}{s:Shared}{R:It->Hp->Prop}{E:Value->Shared->Prop}{lo hi:Int}{t u v:Tok}{tk:Nat}(I:Inv X pins σ H s)(h1:-(2 ^ 62)≤lo)(h2:lo<2 ^ 62)(h3:-(2 ^ 62)≤hi)(h4:hi<2 ^ 62)
  (q:R (wv lo (hi-lo).toNat) H):wpAny (model X.prog X.w) X.A (pyIter (.ref s.heap.objs.size)) (Ce X pins σ tg R) E { s with heap:=s.heap.push { cls:=.type "range",data:=.fields #[.int lo t,.int hi u,.int 1 v] },toks:=tk }:=by
 refine wpAny_pyIter_range (IsRange.new ..) (small_one h1 h2 h3 h4) ?_
 have I1:Inv X pins σ H { s with heap:=s.heap.push { cls:=.type "range",data:=.fields #[.int lo t,.int hi u,.int 1 v] },toks:=tk }:=I.kept fun b o e=>Heap.get?_push_of_some _ e
 refine⟨(s.heap.push { cls:=.type "range",data:=.fields #[.int lo t,.int hi u,.int 1 v] }).objs.size,[(s.heap.push { cls:=.type "range",data:=.fields #[.int lo t,.int hi u,.int 1 v] }).objs.size],_,_,H,rfl,
  I1.kept (t':=tk) fun b o e=>Heap.get?_push_of_some _ e,mZ _ lo (hi-lo).toNat,?_,fun b hb=>?_,q⟩
 ·have e1:lo+((0:Nat):Int)*1=lo:=by simp
  have e2:(((hi-lo).toNat:Nat):Int)-((0:Nat):Int)=Builtin.Range.rangeSize lo hi 1:=by rw[rangeSize_one];split<;>omega
  show IsRangeIter _ _ (lo+((0:Nat):Int)*1) ((((hi-lo).toNat:Nat):Int)-((0:Nat):Int)) 1
  rw[e1,e2]
  exact Heap.get?_push_size _ rfl
 ·have e:b=(s.heap.push { cls:=.type "range",data:=.fields #[.int lo t,.int hi u,.int 1 v] }).objs.size:=by simpa using hb
  subst e
  exact I1.fpOk (Nat.le_refl _) (I1.hok.fresh (Nat.le_refl _))
def tE (ta:TA):TI:=fun σ H R=>ta σ H fun vs H1=>∃j:Int,vs=[.int j]/\-(2 ^ 62)≤j/\j<2 ^ 62/\R (wv 0 j.toNat) H1
theorem pR {a:Expr}{ta:TA}{p pos:Pos}(hg:Gl X "range")(hm:X.mg "range"=none)(ha:PA X [a] ta)(hs:starEach [a] X.env=[(false,eval a X.env)]:=by rfl):PI X tg (.Call (.Name "range" p) [a] [] pos) (tE ta):=by
 intro pins s σ H R I h
 refine Call_ (ff I hg hm boot_range (PyProof.Rows.callWith_type1 (bh (ha pos pins s σ H _ I h) fun us s1 ⟨vs,H1,I1,r1,q1⟩=>?_) hs rfl))
 obtain⟨j,e,q1,q2,q⟩:=q1
 subst e
 cases r1 with
 | cons r rr =>
  cases rr
  obtain⟨t,rfl⟩:=r
  exact call_range_1 (sQ I1 (by omega) (by omega) q1 q2 (by simpa using q))
def Am (wi:TI)(g:TG)(tb:TS):TS:=fun D σ H=>wi σ H fun J H1=>∃W:Nat->Nat->St->Hp->Prop,(∃m,W 0 m σ H1)/\∀i m σ H,W i m σ H ->
 (J.stop i H/\D.nx σ H)\/(J.go i H/\∃N:St->Hp->Prop,(∀σ' H',N σ' H'->∃m',m'<m/\W (i+1) m' σ' H')/\∀x H',J.yld i H x H'->g x σ H' fun σ2 H2=>tb { D with nx:=N,ct:=N,bk:=D.nx } σ2 H2)
def fQ (fp:List Addr)(h:Heap):List (Addr×Obj):=fp.filterMap fun b=>(h.get? b).map fun o=>(b,o)
theorem bQ {fp:List Addr}{h:Heap}{b:Addr}{o:Obj}(hb:b∈fp)(e:h.get? b=some o):(b,o)∈fQ fp h:=List.mem_filterMap.mpr ⟨b,hb,by rw[e];rfl⟩
theorem pN {fp:List Addr}{h:Heap}{p:Addr×Obj}(hp:p∈fQ fp h):p.1∈fp/\h.get? p.1=some p.2:=by
 obtain⟨b,hb,e⟩:=List.mem_filterMap.mp hp
 cases q:h.get? b with
 | none=>rw[q]at e;cases e
 | some o =>
  rw[q]at e
  have e':(b,o)=p:=Option.some.inj e
  subst e'
  exact⟨hb,q⟩
theorem Inv.pinned {pins:List (Addr×Obj)}{σ:St}{H:Hp}{s:Shared}{fp:List Addr}(I:Inv X pins σ H s)(hf:∀b∈fp,dr X pins H b)(ho:∀b∈fp,∃o,s.heap.get? b=some o/\∀v,o.data≠.cell v):Inv X (pins++fQ fp s.heap) σ H s :=
 I.pins_of fun p hp=>(List.mem_append.mp hp).elim (fun z=>I.pin p (List.mem_append_right _ z)) fun z=>by
  obtain⟨hb,e⟩:=pN z
  obtain⟨f0,f1,f2,_⟩:=hf p.1 hb
  obtain⟨o,e',d⟩:=ho p.1 hb
  rw[e]at e';cases e'
  exact⟨e,f0,f1,f2,d⟩
theorem Inv.unpinned {pins pl:List (Addr×Obj)}{σ:St}{H:Hp}{s:Shared}(I:Inv X (pins++pl) σ H s):Inv X pins σ H s:=I.pins_of fun p hp=>I.pin p (List.mem_append_right _ (List.mem_append_left _ hp))
theorem yG {iter:Expr}{body:List Stmt}{wi:TI}{g:TG}{tb:TS}{pos:Pos}(hp:PassesOwn (model X.prog X.w) X.A X.env X.xe)(hc:X.calm=true)(hi:PI X tg iter wi)(hg:PG X tg g)(hb:PSs X body tb)
  (hs:∀x,foldedSetIterable iter X.env x=pure x:=by intro _;rfl):PS X (.For tg iter body [] pos) (Am wi g tb):=by
 intro pins s σ H D I h
 refine wpAny_For (bh (hi pins s σ H _ I h) fun v s1 h1=>bh h1 fun itv s2 h2=>?_) hs
 obtain⟨it,fp,tn,J,H2,e,I2,T,st2,f2,W,⟨m0,w0⟩,turn⟩:=h2
 subst e
 have stat:∀{H':Hp},(∀b∈fp,H' b=none)->∀b∈fp,dr X pins H' b:=fun hn b hb=>⟨hn b hb,(f2 b hb).2⟩
 refine codeAny_forLoop_any (fun n s'=>∃i σ' H',Inv X pins σ' H' s'/\tn i s'.heap/\(∀b∈fp,H' b=none)/\W i n σ' H') ?_ m0 ⟨0,σ,H2,I2,st2,fun b hb=>(f2 b hb).1,w0⟩
 rintro n s3 ⟨i,σ3,H3,I3,st3,fr3,w3⟩
 rcases turn i n σ3 H3 w3 with⟨stop,qn⟩ | ⟨go,N,hN,step⟩
 ·refine wpAny_passesOwn hp (bh (T.done X rfl rfl rfl hc i pins s3 σ3 H3 X.xe I3 (stat fr3) st3 stop) fun r s4 ⟨hr,I4⟩=>?_)
  subst hr
  exact wpAny_execs_nil ⟨σ3,H3,I4,qn⟩
 ·refine wpAny_passesOwn hp (bh (T.item X rfl rfl rfl hc i pins s3 σ3 H3 X.xe I3 (stat fr3) st3 go) fun r s4 ⟨u,hr,h4⟩=>?_)
  subst hr
  refine wpAny_passesOwn hp (bh h4 fun _ s5 ⟨x,H5,I5,r5,y5,st5,fr5⟩=>?_)
  have I5':=I5.pinned (stat fr5) (T.obj _ _ st5)
  refine wpAny_passesOwn hp (bh (hg _ s5 σ3 H5 x u _ I5' r5 (step x H5 y5)) fun _ s6 ⟨σ6,H6,I6,q6⟩=>?_)
  refine wpAny_passesOwn hp (bh (hb _ s6 σ6 H6 _ I6 q6) fun f s7 q7=>?_)
  have again:∀{σ7:St} {H7:Hp},Inv X (pins++fQ fp s5.heap) σ7 H7 s7->N σ7 H7->∃m,m<n/\∃i σ' H',Inv X pins σ' H' s7/\tn i s7.heap/\(∀b∈fp,H' b=none)/\W i m σ' H':=fun {σ7 H7} I7 n7=>by
   obtain⟨m',hm,w7⟩:=hN σ7 H7 n7
   refine⟨m',hm,i+1,σ7,H7,I7.unpinned,T.keep _ _ _ st5 fun b hb o e=>(I7.pin (b,o) (List.mem_append_right _ (List.mem_append_right _ (bQ hb e)))).1,fun b hb=>?_,w7⟩
   obtain⟨o,e,d⟩:=T.obj _ _ st5 b hb
   exact (I7.pin (b,o) (List.mem_append_right _ (List.mem_append_right _ (bQ hb e)))).2.1
  cases f with
  | next=>obtain⟨σ7,H7,I7,n7⟩:=q7;exact again I7 n7
  | cont=>obtain⟨σ7,H7,I7,n7⟩:=q7;exact again I7 n7
  | brk=>obtain⟨σ7,H7,I7,q7⟩:=q7;exact⟨σ7,H7,I7.unpinned,q7⟩
  | ret v=>obtain⟨x7,σ7,H7,I7,r7,q7⟩:=q7;exact⟨x7,σ7,H7,I7.unpinned,r7,q7⟩
end
theorem aV {K:PySem.W.Frag}{a:Addr}{xs:List V}{g:TG}{tb:TS}{D:im}{σ:St}{H:Hp}(Pv:Nat->St->Hp->Prop)(h0:Pv 0 σ H)(hl:∀i σ H,i≤xs.length->Pv i σ H->SqL K H a xs)
  (hs:∀i x σ H,xs[i]?=some x->Pv i σ H->g x σ H fun σ2 H2=>tb { D with nx:=Pv (i+1),ct:=Pv (i+1),bk:=D.nx } σ2 H2) (hd:∀σ H,Pv xs.length σ H->D.nx σ H) :
  ∃W:Nat->Nat->St->Hp->Prop,(∃m,W 0 m σ H)/\∀i m σ H,W i m σ H ->
   ((zC K a).stop i H/\D.nx σ H)\/((zC K a).go i H/\∃N:St->Hp->Prop,(∀σ' H',N σ' H'->∃m',m'<m/\W (i+1) m' σ' H')/\∀x H',(zC K a).yld i H x H'->g x σ H' fun σ2 H2=>tb { D with nx:=N,ct:=N,bk:=D.nx } σ2 H2):=by
 refine⟨fun i m σ H=>m=xs.length-i/\i≤xs.length/\Pv i σ H,⟨xs.length,by simp,Nat.zero_le _,h0⟩,?_⟩
 rintro i m σ H ⟨rfl,hi,p⟩
 have q:=hl i σ H hi p
 by_cases hlt:i<xs.length
 ·refine .inr ⟨⟨xs,xs[i],q,by simp[hlt]⟩,Pv (i+1),fun σ' H' p'=>⟨xs.length-(i+1),by omega,rfl,hlt,p'⟩,fun x H' y=>?_⟩
  obtain⟨e,y⟩:=y
  subst e
  exact hs i x σ _ (y xs q) p
 ·have e:i=xs.length:=by omega
  subst e
  exact .inl ⟨⟨xs,q,Nat.le_refl _⟩,hd σ H p⟩
theorem cF {lo:Int}{n:Nat}{g:TG}{tb:TS}{D:im}{σ:St}{H:Hp}(Pv:Nat->St->Hp->Prop)(h0:Pv 0 σ H)
  (hs:∀i σ H,i<n->Pv i σ H->g (.int (lo+i)) σ H fun σ2 H2=>tb { D with nx:=Pv (i+1),ct:=Pv (i+1),bk:=D.nx } σ2 H2) (hd:∀σ H,Pv n σ H->D.nx σ H) :
  ∃W:Nat->Nat->St->Hp->Prop,(∃m,W 0 m σ H)/\∀i m σ H,W i m σ H ->
   ((wv lo n).stop i H/\D.nx σ H)\/((wv lo n).go i H/\∃N:St->Hp->Prop,(∀σ' H',N σ' H'->∃m',m'<m/\W (i+1) m' σ' H')/\∀x H',(wv lo n).yld i H x H'->g x σ H' fun σ2 H2=>tb { D with nx:=N,ct:=N,bk:=D.nx } σ2 H2):=by
 refine⟨fun i m σ H=>m=n-i/\i≤n/\Pv i σ H,⟨n,by simp,Nat.zero_le _,h0⟩,?_⟩
 rintro i m σ H ⟨rfl,hi,p⟩
 by_cases hlt:i<n
 ·refine .inr ⟨hlt,Pv (i+1),fun σ' H' p'=>⟨n-(i+1),by omega,rfl,hlt,p'⟩,fun x H' y=>?_⟩
  obtain⟨e,y⟩:=y
  subst e y
  exact hs i σ _ hlt p
 ·have e:i=n:=by omega
  subst e
  exact .inl ⟨Nat.le_refl _,hd σ H p⟩
end L2
namespace L2
open PySem PySem.Spec PyProof.Rows
abbrev R2:=V->V->Hp->VK->Prop
def bq (X:Cx)(f:Value->Value->Sem Value)(r:R2):Prop :=
 ∀(pins:List (Addr×Obj)) (s:Shared) (σ:St) (H:Hp) (x y:V) (v u:Value) (Q:VK),Inv X pins σ H s->RelV x v->RelV y u->r x y H Q ->
  wpAny (model X.prog X.w) X.A (f v u) (EP X pins σ Q) X.xe s
def ba (X:Cx)(f:Value)(r:List V->Hp->VK->Prop):Prop :=
 ∀(pins:List (Addr×Obj)) (s:Shared) (σ:St) (H:Hp) (xs:List V) (us:List Value) (Q:VK),Inv X pins σ H s->Vals xs us->r xs H Q ->
  wpAny (model X.prog X.w) X.A (call f us) (EP X pins σ Q) X.xe s
def B0 (X:Cx)(r:V->Hp->(Bool->Hp->Prop)->Prop):Prop :=
 ∀(pins:List (Addr×Obj)) (s:Shared) (σ:St) (H:Hp) (x:V) (v:Value) (Q:Bool->Hp->Prop),Inv X pins σ H s->RelV x v->r x H Q ->
  wpAny (model X.prog X.w) X.A (truthy v) (TP X pins σ Q) X.xe s
def vV (r:R2)(ta tb:TE):TE:=fun σ H Q=>ta σ H fun x H1=>tb σ H1 fun y H2=>r x y H2 Q
def rI (C:Int->Int->Prop)(g:Int->Int->V):R2:=fun x y H Q=>∃i j,x=.int i/\y=.int j/\C i j/\Q (g i j) H
def yD (g:Int->Int->V):R2:=fun x y H Q=>∃i j,x=.int i/\y=.int j/\Q (g i j) H
section
variable {X:Cx}{a b c:Expr}{ta tb tc:TE}{pos:Pos}
theorem ya (ha:PE X a ta)(hb:PE X b tb){pins:List (Addr×Obj)}{s:Shared}{σ:St}{H:Hp}{R:V->V->Hp->Prop}(I:Inv X pins σ H s)
  (h:ta σ H fun x H1=>tb σ H1 fun y H2=>R x y H2) {Q:Value->Shared->Prop} {f:Value->Value->Sem Value}
  (hf:∀v u s2 x y H2,Inv X pins σ H2 s2->RelV x v->RelV y u->R x y H2->wpAny (model X.prog X.w) X.A (f v u) Q X.xe s2) :
  wpAny (model X.prog X.w) X.A (eval a X.env) (fun v s₁=>wpAny (model X.prog X.w) X.A (eval b X.env) (fun u s₂=>wpAny (model X.prog X.w) X.A (f v u) Q X.xe s₂) X.xe s₁) X.xe s:=by
 refine bh (ha pins s σ H _ I h) fun v s1 ⟨x,H1,I1,r1,q1⟩=>?_
 refine bh (hb pins s1 σ H1 _ I1 q1) fun u s2 ⟨y,H2,I2,r2,q2⟩=>?_
 exact hf v u s2 x y H2 I2 r1 r2 q2
theorem Ab {op:Operator}{r:R2}(ho:bq X (binaryOp op) r)(ha:PE X a ta)(hb:PE X b tb):PE X (.BinOp a op b pos) (vV r ta tb):=by
 intro pins s σ H Q I h
 exact wpAny_BinOp (ya ha hb I h fun v u s2 x y H2 I2 rx ry q=>ho pins s2 σ H2 x y v u Q I2 rx ry q)
theorem BA {f:Value->Value->Sem Value}{C:Int->Int->Prop}{g:Int->Int->Int}
  (rule:∀(i j:Int) (t u:Tok) (s:Shared) (Q:Value->Shared->Prop) (E:Value->Shared->Prop),C i j->Q (.int (g i j) s.toks) { s with toks:=s.toks+1 }->wpAny (model X.prog X.w) X.A (f (.int i t) (.int j u)) Q E s) :
  bq X f (rI C fun i j=>.int (g i j)):=by
 intro pins s σ H x y v u Q I rx ry h
 obtain⟨i,j,rfl,rfl,hc,q⟩:=h
 obtain⟨t,rfl⟩:=rx
 obtain⟨t',rfl⟩:=ry
 exact rule i j t t' s _ _ hc ⟨.int (g i j),H,I.tok _,⟨_,rfl⟩,q⟩
theorem A8 {f:Value->Value->Sem Value}{g:Int->Int->Int}
  (rule:∀(i j:Int) (t u:Tok) (s:Shared) (Q:Value->Shared->Prop) (E:Value->Shared->Prop),Q (.int (g i j) s.toks) { s with toks:=s.toks+1 }->wpAny (model X.prog X.w) X.A (f (.int i t) (.int j u)) Q E s) :
  bq X f (yD fun i j=>.int (g i j)):=by
 intro pins s σ H x y v u Q I rx ry h
 obtain⟨i,j,rfl,rfl,q⟩:=h
 obtain⟨t,rfl⟩:=rx
 obtain⟨t',rfl⟩:=ry
 exact rule i j t t' s _ _ ⟨.int (g i j),H,I.tok _,⟨_,rfl⟩,q⟩
theorem xn {f:Value->Value->Sem Value}{g:Int->Int->Bool}
  (rule:∀(i j:Int) (t u:Tok) (s:Shared) (Q:Value->Shared->Prop) (E:Value->Shared->Prop),Q (.bool (g i j)) s->wpAny (model X.prog X.w) X.A (f (.int i t) (.int j u)) Q E s) :
  bq X f (yD fun i j=>.bl (g i j)):=by
 intro pins s σ H x y v u Q I rx ry h
 obtain⟨i,j,rfl,rfl,q⟩:=h
 obtain⟨t,rfl⟩:=rx
 obtain⟨t',rfl⟩:=ry
 exact rule i j t t' s _ _ ⟨.bl (g i j),H,I,rfl,q⟩
def zV (i j:Int):Prop:=0<j/\j<1073741824
def CMul (i j:Int):Prop:=(-(2 ^ 64)<i/\i<2 ^ 64)\/(-(2 ^ 64)<j/\j<2 ^ 64)
theorem CMul.ok {i j:Int}(h:CMul i j):IntMulOk i j:=by
 rcases h with⟨h1,h2⟩ | ⟨h1,h2⟩
 ·exact .of_left (intBits_le_64 h1 h2)
 ·exact .of_right (intBits_le_64 h1 h2)
theorem xi:bq X (binaryOp .Add) (yD fun i j=>.int (i+j)):=A8 fun _ _ _ _ _ _ _ q=>add_int q
theorem xJ:bq X (binaryOp .Sub) (yD fun i j=>.int (i-j)):=A8 fun _ _ _ _ _ _ _ q=>sub_int q
theorem yn:bq X (binaryOp .Mult) (rI CMul fun i j=>.int (i*j)):=BA fun _ _ _ _ _ _ _ hc q=>mul_int q hc.ok
theorem u3:bq X (binaryOp .FloorDiv) (rI zV fun i j=>.int (i / j)):=BA fun i j _ _ _ _ _ hc q=>by
 have h1:(0:Int)<j:=hc.1
 have h2:j<1073741824:=hc.2
 exact floordiv_int (by omega) (by rw[Int.fdiv_eq_ediv_of_nonneg i (by omega)];exact q) (.inl (PyProof.noPylong_small (by omega)))
theorem xV:bq X (binaryOp .Mod) (rI (fun _ j=>0<j) fun i j=>.int (i % j)):=BA fun i j _ _ _ _ _ hc q=>by
 have h1:(0:Int)<j:=hc
 exact mod_int' (by omega) (by rw[Int.fmod_eq_emod_of_nonneg i (by omega)];exact q)
end
def zR:V->V->Bool
 | .non,.non=>true | .non,.int _=>true | .int _,.non=>true | .non,.bl _=>true | .bl _,.non=>true | .non,.str _=>true | .str _,.non=>true
 | .int _,.int _=>true | .bl _,.bl _=>true | .str _,.str _=>true | .byt _,.byt _=>true
 | .int _,.str _=>true | .str _,.int _=>true | .bl _,.str _=>true | .str _,.bl _=>true
 | _,_=>false
def Cq:R2:=fun x y H Q=>zR x y=true/\Q (.bl (decide (x=y))) H
def Cp:R2:=fun x y H Q=>zR x y=true/\Q (.bl (!decide (x=y))) H
theorem oK {i j:Int}:decide (V.int i=V.int j)=(i == j):=by
 rw[Bool.eq_iff_iff]
 simp
theorem qZ {i j:Bool}:decide (V.bl i=V.bl j)=(i == j):=by
 rw[Bool.eq_iff_iff]
 simp
theorem nn {i j:Str}:decide (V.str i=V.str j)=(i == j):=by
 rw[Bool.eq_iff_iff]
 simp
theorem nV {i j:Array UInt8}:decide (V.byt i=V.byt j)=(i.toList == j.toList):=by
 rw[Bool.eq_iff_iff]
 cases i
 cases j
 simp
section
variable {X:Cx}{a b c:Expr}{ta tb tc:TE}{pos:Pos}
theorem aJ {pins:List (Addr×Obj)}{σ:St}{H:Hp}{s:Shared}{Q:VK}{k k':Bool}(I:Inv X pins σ H s)(q:Q (.bl k) H)(e:k=k'):EP X pins σ Q (.bool k') s:=by
 subst e
 exact⟨.bl k,H,I,rfl,q⟩
theorem qw:bq X (compareOp .Eq) Cq:=by
 intro pins s σ H x y v u Q I rx ry h
 obtain⟨hs,q⟩:=h
 cases x with
 | non =>
  cases rx
  cases y with
  | non=>cases ry;exact PySem.EqNone.eq_none_none (aJ I q (by simp))
  | bl j=>cases ry;exact PySem.EqNone.eq_none_bool (aJ I q (by simp))
  | int j=>obtain⟨t',rfl⟩:=ry;exact PySem.EqNone.eq_none_int (aJ I q (by simp))
  | str j=>obtain⟨t',rfl⟩:=ry;exact PySem.EqNone.eq_none_str (aJ I q (by simp))
  | _=>exact absurd (show false=true from hs) Bool.false_ne_true
 | bl i =>
  cases rx
  cases y with
  | non=>cases ry;exact PySem.EqNone.eq_bool_none (aJ I q (by simp))
  | bl j=>cases ry;exact eq_bool (aJ I q qZ)
  | str j=>obtain⟨t',rfl⟩:=ry;exact PySem.EqMixed.eq_bool_str (aJ I q (by simp))
  | _=>exact absurd (show false=true from hs) Bool.false_ne_true
 | int i =>
  obtain⟨t,rfl⟩:=rx
  cases y with
  | non=>cases ry;exact PySem.EqNone.eq_int_none (aJ I q (by simp))
  | int j=>obtain⟨t',rfl⟩:=ry;exact eq_int (aJ I q oK)
  | str j=>obtain⟨t',rfl⟩:=ry;exact PySem.EqMixed.eq_int_str (aJ I q (by simp))
  | _=>exact absurd (show false=true from hs) Bool.false_ne_true
 | str i =>
  obtain⟨t,rfl⟩:=rx
  cases y with
  | non=>cases ry;exact PySem.EqNone.eq_str_none (aJ I q (by simp))
  | bl j=>cases ry;exact PySem.EqMixed.eq_str_bool (aJ I q (by simp))
  | int j=>obtain⟨t',rfl⟩:=ry;exact PySem.EqMixed.eq_str_int (aJ I q (by simp))
  | str j=>obtain⟨t',rfl⟩:=ry;exact eq_str (aJ I q nn)
  | _=>exact absurd (show false=true from hs) Bool.false_ne_true
 | byt i =>
  obtain⟨t,rfl⟩:=rx
  cases y with
  | byt j=>obtain⟨t',rfl⟩:=ry;exact PySem.W.eq_bytes (aJ I q nV)
  | _=>exact absurd (show false=true from hs) Bool.false_ne_true
 | _=>cases y<;>exact absurd (show false=true from hs) Bool.false_ne_true
theorem rX:bq X (compareOp .NotEq) Cp:=by
 intro pins s σ H x y v u Q I rx ry h
 obtain⟨hs,q⟩:=h
 cases x with
 | non =>
  cases rx
  cases y with
  | non=>cases ry;exact PySem.EqNone.ne_none_none (aJ I q (by simp))
  | bl j=>cases ry;exact PySem.EqNone.ne_none_bool (aJ I q (by simp))
  | int j=>obtain⟨t',rfl⟩:=ry;exact PySem.EqNone.ne_none_int (aJ I q (by simp))
  | str j=>obtain⟨t',rfl⟩:=ry;exact PySem.EqNone.ne_none_str (aJ I q (by simp))
  | _=>exact absurd (show false=true from hs) Bool.false_ne_true
 | bl i =>
  cases rx
  cases y with
  | non=>cases ry;exact PySem.EqNone.ne_bool_none (aJ I q (by simp))
  | bl j=>cases ry;exact ne_bool (aJ I q (congrArg not qZ))
  | str j=>obtain⟨t',rfl⟩:=ry;exact PySem.EqMixed.ne_bool_str (aJ I q (by simp))
  | _=>exact absurd (show false=true from hs) Bool.false_ne_true
 | int i =>
  obtain⟨t,rfl⟩:=rx
  cases y with
  | non=>cases ry;exact PySem.EqNone.ne_int_none (aJ I q (by simp))
  | int j=>obtain⟨t',rfl⟩:=ry;exact ne_int (aJ I q (congrArg not oK))
  | str j=>obtain⟨t',rfl⟩:=ry;exact PySem.EqMixed.ne_int_str (aJ I q (by simp))
  | _=>exact absurd (show false=true from hs) Bool.false_ne_true
 | str i =>
  obtain⟨t,rfl⟩:=rx
  cases y with
  | non=>cases ry;exact PySem.EqNone.ne_str_none (aJ I q (by simp))
  | bl j=>cases ry;exact PySem.EqMixed.ne_str_bool (aJ I q (by simp))
  | int j=>obtain⟨t',rfl⟩:=ry;exact PySem.EqMixed.ne_str_int (aJ I q (by simp))
  | str j=>obtain⟨t',rfl⟩:=ry;exact ne_str (aJ I q (congrArg not nn))
  | _=>exact absurd (show false=true from hs) Bool.false_ne_true
 | byt i =>
  obtain⟨t,rfl⟩:=rx
  cases y with
  | byt j=>obtain⟨t',rfl⟩:=ry;exact PySem.W.ne_bytes (aJ I q (congrArg not nV))
  | _=>exact absurd (show false=true from hs) Bool.false_ne_true
 | _=>cases y<;>exact absurd (show false=true from hs) Bool.false_ne_true
theorem A1:bq X (compareOp .Lt) (yD fun i j=>.bl (decide (i<j))):=xn fun _ _ _ _ _ _ _ q=>lt_int q
theorem A7:bq X (compareOp .LtE) (yD fun i j=>.bl (decide (i≤j))):=xn fun _ _ _ _ _ _ _ q=>le_int q
theorem Aa:bq X (compareOp .Gt) (yD fun i j=>.bl (decide (j<i))):=xn fun _ _ _ _ _ _ _ q=>gt_int q
theorem pA:bq X (compareOp .Lt) (fun x y H Q=>∃i j,x=.str i/\y=.str j/\Q (.bl (decide (i.cps.toList<j.cps.toList))) H):=by
 intro pins s σ H x y v u Q I rx ry h
 obtain⟨i,j,rfl,rfl,q⟩:=h
 obtain⟨t,rfl⟩:=rx
 obtain⟨t',rfl⟩:=ry
 exact lt_str (aJ I q rfl)
theorem oQ:bq X (compareOp .In) (fun x y H Q=>∃i j,x=.str i/\y=.str j/\Q (.bl (!(Builtin.Str.occurrences j i 0 j.length 1).isEmpty)) H):=by
 intro pins s σ H x y v u Q I rx ry h
 obtain⟨i,j,rfl,rfl,q⟩:=h
 obtain⟨t,rfl⟩:=rx
 obtain⟨t',rfl⟩:=ry
 exact in_str (aJ I q rfl)
theorem xM:bq X (compareOp .Is) (fun x y H Q=>y=.non/\Q (.bl (decide (x=.non))) H):=by
 intro pins s σ H x y v u Q I rx ry h
 obtain⟨rfl,q⟩:=h
 cases ry
 refine is_none_gen (aJ I q ?_)
 cases x<;>first
  | (cases rx;rfl)
  | (obtain⟨t,rfl⟩:=rx;rfl)
theorem vy:bq X (compareOp .IsNot) (fun x y H Q=>y=.non/\Q (.bl (!decide (x=.non))) H):=by
 intro pins s σ H x y v u Q I rx ry h
 obtain⟨rfl,q⟩:=h
 cases ry
 refine isnot_none_gen (aJ I q ?_)
 cases x<;>first
  | (cases rx;rfl)
  | (obtain⟨t,rfl⟩:=rx;rfl)
theorem ko:bq X (compareOp .NotIn) (fun x y H Q=>∃i j,x=.str i/\y=.str j/\Q (.bl (!(!(Builtin.Str.occurrences j i 0 j.length 1).isEmpty))) H):=by
 intro pins s σ H x y v u Q I rx ry h
 obtain⟨i,j,rfl,rfl,q⟩:=h
 obtain⟨t,rfl⟩:=rx
 obtain⟨t',rfl⟩:=ry
 exact notIn_str (aJ I q rfl)
theorem mV (b:Expr){op:CmpOp}(h:op≠.In:=by decide)(h2:op≠.NotIn:=by decide):behindInMarks op b=false:=by
 have e1:(op == CmpOp.In)=false:=by cases op<;>first | rfl | exact absurd rfl h
 have e2:(op == CmpOp.NotIn)=false:=by cases op<;>first | rfl | exact absurd rfl h2
 cases b<;>simp[behindInMarks,e1,e2]
theorem uG {op:CmpOp}{r:R2}(ho:bq X (compareOp op) r)(ha:PE X a ta)(hb:PE X b tb)(hm:behindInMarks op b=false):PE X (.Compare a [op] [b] pos) (vV r ta tb):=by
 intro pins s σ H Q I h
 exact wpAny_Compare1 (ya ha hb I h fun v u s2 x y H2 I2 rx ry q=>ho pins s2 σ H2 x y v u Q I2 rx ry q) hm
def nE (t:TE):TT:=fun σ H Q=>t σ H fun x H'=>∃k,x=.bl k/\Q k H'
theorem uC {op:CmpOp}{r:R2}(ho:bq X (compareOp op) r)(ha:PE X a ta)(hb:PE X b tb)(hm:behindInMarks op b=false):PT X (.Compare a [op] [b] pos) (nE (vV r ta tb)):=by
 intro pins s σ H Q I h
 refine wpAny_isTrue_Compare1 (bh (ha pins s σ H _ I h) fun v s1 ⟨x,H1,I1,r1,q1⟩=>bh (hb pins s1 σ H1 _ I1 q1) fun u s2 ⟨y,H2,I2,r2,q2⟩ =>
  bh (ho pins s2 σ H2 x y v u _ I2 r1 r2 q2) fun c s3 ⟨z,H3,I3,r3,k,e,q3⟩=>?_) hm
 subst e
 cases r3
 exact wpAny_truthy_bool ⟨H3,I3,q3⟩
def kl (r r':R2)(ta tb tc:TE):TE:=fun σ H Q=>ta σ H fun x H1=>tb σ H1 fun y H2=>r x y H2 fun z H3=>∃k,z=.bl k /\
 (if k=true then tc σ H3 fun w' H4=>r' y w' H4 Q else Q (.bl false) H3)
theorem ti {op op':CmpOp}{r r':R2}(ho:bq X (compareOp op) r)(ho':bq X (compareOp op') r')(ha:PE X a ta)(hb:PE X b tb)(hc:PE X c tc)
  (hm:lastMarks [op,op'] [b,c]=false:=by with_unfolding_all rfl):PT X (.Compare a [op,op'] [b,c] pos) (nE (kl r r' ta tb tc)):=by
 intro pins s σ H Q I h
 refine isTrue_chain (bh (ha pins s σ H _ I h) fun v s1 ⟨x,H1,I1,r1,q1⟩=>test_link (bh (hb pins s1 σ H1 _ I1 q1) fun u s2 ⟨y,H2,I2,r2,q2⟩ =>
  bh (ho pins s2 σ H2 x y v u _ I2 r1 r2 q2) fun d s3 ⟨z,H3,I3,r3,k,e,q3⟩=>?_)) hm
 subst e
 cases r3
 refine wpAny_truthy_bool ?_
 cases k with
 | false =>
  obtain⟨k',e',q'⟩:=q3
  cases e'
  exact ite_ff ⟨H3,I3,q'⟩
 | true =>
  refine ite_tt (test_last (bh (hc pins s3 σ H3 _ I3 q3) fun w' s4 ⟨z',H4,I4,r4,q4⟩=>bh (ho' pins s4 σ H4 y z' u w' _ I4 r2 r4 q4) fun d' s5 ⟨z2,H5,I5,r5,k2,e2,q5⟩=>?_))
  subst e2
  cases r5
  exact wpAny_truthy_bool ⟨H5,I5,q5⟩
def zq (K:PySem.W.Frag)(x:V)(H:Hp)(k:Bool):Prop :=
 match x with
 | .non=>k=false
 | .bl b=>k=b
 | .int i=>k=(i != 0)
 | .str y=>y.length≤sizeLine/\k=((y.length:Int) != 0)
 | .byt y=>y.size≤sizeLine/\k=((y.size:Int) != 0)
 | .ref p=>(∃xs,SqL K H p xs/\k=!xs.isEmpty)\/(∃xs,SqT K H p xs/\k=!xs.isEmpty)\/∃kvs,H p=some (.dK kvs)/\k=!kvs.isEmpty
 | _=>False
theorem m7 {κ:Type}{kvs:List (κ×V)}{vs:List (κ×Value)}(r:KV kvs vs):(!vs.isEmpty)=!kvs.isEmpty:=by
 cases r<;>rfl
theorem ip {xs:List V}{its:List Value}(r:Vals xs its):(!its.toArray.isEmpty)=!xs.isEmpty:=by
 cases r<;>simp
theorem gg:(sizeLine:Nat)<2 ^ 63:=by rw[sizeLine_eq];decide
theorem xK:B0 X (fun x H Q=>∃k,zq X.K x H k/\Q k H):=by
 intro pins s σ H x v Q I rx h
 obtain⟨k,e,q⟩:=h
 have hl:=gg
 have hs:sizeLine=16777216:=sizeLine_eq
 cases x with
 | non =>
  cases rx
  have e':k=false:=e
  subst e'
  exact truthy_none ⟨H,I,q⟩
 | bl b =>
  cases rx
  have e':k=b:=e
  subst e'
  exact wpAny_truthy_bool ⟨H,I,q⟩
 | int i =>
  obtain⟨t,rfl⟩:=rx
  have e':k=(i != 0):=e
  subst e'
  exact PySem.P.truthy_int ⟨H,I,q⟩
 | str y =>
  obtain⟨t,rfl⟩:=rx
  obtain⟨hy,e'⟩:y.length≤sizeLine/\k=((y.length:Int) != 0):=e
  subst e'
  exact PySem.P.truthy_str (by omega) ⟨H,I.tok _,q⟩
 | byt y =>
  obtain⟨t,rfl⟩:=rx
  obtain⟨hy,e'⟩:y.size≤sizeLine/\k=((y.size:Int) != 0):=e
  subst e'
  exact PySem.W.truthy_bytes (by omega) ⟨H,I.tok _,q⟩
 | ref p =>
  cases rx
  have e':(∃xs,SqL X.K H p xs/\k=!xs.isEmpty)\/(∃xs,SqT X.K H p xs/\k=!xs.isEmpty)\/∃kvs,H p=some (.dK kvs)/\k=!kvs.isEmpty:=e
  rcases e' with⟨xs,hx,e'⟩ | ⟨xs,hx,e'⟩ | ⟨kvs,hx,e'⟩
  ·subst e'
   obtain⟨its,r,pl,hz⟩:=I.list hx
   have hlen:=r.length
   exact wpAny_truthy_list pl.isList (by simp only[List.size_toArray];omega) ⟨H,I.tok _,by rw[ip r];exact q⟩
  ·subst e'
   obtain⟨its,r,pl,hz⟩:=I.tuple hx
   have hlen:=r.length
   exact truthy_tuple pl (by simp only[List.size_toArray];omega) ⟨H,I.tok _,by rw[ip r];exact q⟩
  ·subst e'
   obtain⟨hz,hS,vs,r,m⟩:kvs.length≤sizeLine/\(p == sysModules)=false/\∃vs,KV kvs vs/\s.heap.DictOf (ay X.prog X.w) p vs:=I.hok p _ hx
   have hlen:kvs.length=vs.length:=Paired.length r
   exact wpAny_truthy_dict hS m (by omega) ⟨H,I.tok _,by rw[m7 r];exact q⟩
 | _=>exact (show False from e).elim
theorem rE (ha:PE X a ta)(he:∀whole,isTrue a X.env whole=(do let v<-whole;standAt a.pos;holding [v] (truthy v))) :
  PT X a (fun σ H Q=>ta σ H fun x H'=>∃k,zq X.K x H' k/\Q k H'):=by
 intro pins s σ H Q I h
 exact isTrue_plain (bh (ha pins s σ H _ I h) fun v s1 ⟨x,H1,I1,r1,q1⟩=>xK pins s1 σ H1 x v Q I1 r1 q1) (he _)
theorem nk:bq X (binaryOp .Add) (fun x y H Q=>∃i j,x=.str i/\y=.str j/\i.length+j.length≤sizeLine/\Q (.str (i++j)) H):=by
 intro pins s σ H x y v u Q I rx ry h
 obtain⟨i,j,rfl,rfl,hz,q⟩:=h
 obtain⟨t,rfl⟩:=rx
 obtain⟨t',rfl⟩:=ry
 exact add_str (fun t' tk=>⟨.str (i++j),H,I.tok _,⟨_,rfl⟩,q⟩) hz
theorem bF {x:V}{us:List Value}(r:Vals [x] us):∃u,us=[u]/\RelV x u:=by
 cases r with
 | cons r1 r2=>cases r2;exact⟨_,rfl,r1⟩
theorem oq {x y:V}{us:List Value}(r:Vals [x,y] us):∃u w',us=[u,w']/\RelV x u/\RelV y w':=by
 cases r with
 | cons r1 r2 =>
  cases r2 with
  | cons r3 r4=>cases r4;exact⟨_,_,rfl,r1,r3⟩
theorem ji:ba X (.type "int") (fun xs H Q=>(∃i,xs=[.int i]/\Q (.int i) H)\/∃k,xs=[.bl k]/\Q (.int (if k then 1 else 0)) H):=by
 intro pins s σ H xs us Q I r h
 rcases h with⟨i,rfl,q⟩ | ⟨k,rfl,q⟩
 ·obtain⟨u,rfl,t,rfl⟩:=bF r
  exact call_int_int ⟨.int i,H,I,⟨_,rfl⟩,q⟩
 ·obtain⟨u,rfl,r1⟩:=bF r
  cases r1
  exact call_int_bool ⟨.int (if k then 1 else 0),H,I.tok _,⟨_,rfl⟩,q⟩
end
end L2
namespace L2
open PySem PySem.Spec PyProof.Rows
structure ObjM (h:Heap)(x dx C:Addr)(mA:Str->Option Value):Prop where
 obj:h.get? x=some (PySem.W.instObj C dx)
 ns:h.Ns1 dx mA
 ne:dx≠x
theorem pO {h:Heap}{dx:Addr}{mA:Str->Option Value}(n:h.Ns1 dx mA):∃od,h.get? dx=some od/\∀name,PySem.W.lookIn name od=some (mA name):=by
 obtain⟨o,es,ep,ho,hd,hk,_,hm⟩:=n
 refine⟨o,ho,fun name=>?_⟩
 have e:=hm name
 unfold nsFind findBy at e
 rw[<-Array.find?_toList]at e
 unfold PySem.W.lookIn
 rw[hd]
 dsimp only
 split
 ·rename_i y q
  rw[q]at e
  exact congrArg some e
 ·rename_i q
  rw[q]at e
  have a:es.toList.any (·.refKey)=false:=by
   rw[List.any_eq_false]
   intro y hy
   obtain⟨z,t,hkey⟩:=hk y (Array.mem_toList_iff.mp hy)
   simp[DictEntry.refKey,hkey]
  have a':¬ es.toList.any (·.refKey)=true:=by rw[a];exact Bool.false_ne_true
  rw[if_neg a']
  exact congrArg some e
theorem ObjM.look {h:Heap}{x dx C:Addr}{mA:Str->Option Value}(I:ObjM h x dx C mA):∃od,PySem.W.InstAt h x (PySem.W.instObj C dx) C (some od)/\∀name,PySem.W.lookIn name od=some (mA name) :=
 let ⟨od,ho,hl⟩:=pO I.ns
 ⟨od,⟨I.obj,rfl,rfl,ho⟩,hl⟩
section
variable {prog:Program}{w:World}{A:Around}{E:Value->Shared->Prop}{s:Shared}{K:PySem.W.Frag}{x dx C f:Addr}{mA:Str->Option Value}{name:Str}{v:Value}
end
theorem RelO.some_of {v:V}{o:Option Value}(r:RelO (some v) o):∃u,o=some u/\RelV v u:=by
 cases o with
 | none=>exact (show False from r).elim
 | some u=>exact⟨u,rfl,r⟩
section
variable {P:Program}{w:World}{H H':Hp}{h h':Heap}{a C dx:Addr}{fs fs':List (Str×V)}
theorem tO (hok:HOk P w H h)(e:H a=some (.ins C dx fs)):∃mA,ObjM h a dx C mA/\(∀f,RelO (fs.lookup f) (mA f))/\PySem.Within mA (fs.map (·.1))/\fs.length≤1000/\H dx=some (.own a):=by
 obtain⟨d,z,ne,ob,mA,n,r,q⟩:=(show ObjOk P w H h a (.ins C dx fs) from hok a _ e)
 exact⟨mA,⟨ob,n,ne⟩,r,q,z,d⟩
end
structure Cls (K:PySem.W.Frag)(C:Addr):Prop where
 pg:PySem.W.plainGet K C Str.empty=true
 hd:PySem.W.hasDictIn K C=true
 po:PySem.W.plainOver K C=true
 sa:PySem.W.findIn K (.ref C) "__setattr__"=some (some (.builtin "object.__setattr__"))
theorem Cls.get {K:PySem.W.Frag}{C:Addr}(c:Cls K C)(f:Str):PySem.W.plainGet K C f=true:=c.pg
structure Ct (K:PySem.W.Frag)(C:Addr)(f:Str)(v:V)(u:Value):Prop where
 at_:PySem.W.findIn K (.ref C) f=some (some u)
 rel:RelV v u
 get:PySem.W.specialIn K u "__get__"=some none
 cp:PySem.W.copiedNames.contains f=false
structure Cs (K:PySem.W.Frag)(C:Addr)(m:Str)(f:Addr):Prop where
 at_:PySem.W.findIn K (.ref C) m=some (some (.ref f))
 fn:PySem.W.isFn K (.ref f)=true
 kp:PySem.W.keepIn K (.ref f)=true
section
variable {X:Cx}{pins:List (Addr×Obj)}{σ:St}{H:Hp}{s:Shared}{a C dx:Addr}{fs:List (Str×V)}{f:Str}{v:V}{A:Around}{E:Value->Shared->Prop}
theorem Inv.made (I:Inv X pins σ H s):Inv X pins σ (al (al H s.heap.objs.size (.own (s.heap.objs.size+1))) (s.heap.objs.size+1) (.ins C s.heap.objs.size []))
  { s with heap:=(s.heap.push PySem.W.emptyDict).push (PySem.W.instObj C s.heap.objs.size) }:=by
 have e1:(s.heap.push PySem.W.emptyDict).get? s.heap.objs.size=some PySem.W.emptyDict:=Heap.get?_push_size s.heap rfl
 have e2:((s.heap.push PySem.W.emptyDict).push (PySem.W.instObj C s.heap.objs.size)).get? (s.heap.objs.size+1)=some (PySem.W.instObj C s.heap.objs.size):=by
  have:=Heap.get?_push_size (s.heap.push PySem.W.emptyDict) (o:=PySem.W.instObj C s.heap.objs.size) rfl
  rwa [Heap.size_push]at this
 have e3:(s.heap.push PySem.W.emptyDict).Ns s.heap.objs.size (fun _=>none):=⟨PySem.W.emptyDict,#[],_,e1,rfl,(fun e he=>absurd he (by simp)),fun _=>rfl⟩
 have I1:=I.laid (a:=s.heap.objs.size) (o:=.own (s.heap.objs.size+1)) (h':=s.heap.push PySem.W.emptyDict) (t':=s.toks) (fun b u q=>Heap.get?_push_of_some _ q) (Nat.le_refl _) ⟨_,e1⟩
 refine I1.laid (a:=s.heap.objs.size+1) (o:=.ins C s.heap.objs.size []) (t':=s.toks) (fun b u q=>Heap.get?_push_of_some _ q) (Nat.le_of_eq (Heap.size_push _ _)) ?_
 have ne:s.heap.objs.size≠s.heap.objs.size+1:=Nat.ne_of_lt (Nat.lt_succ_self _)
 refine⟨by rw[am ne,ae],Nat.zero_le _,ne,e2,fun _=>none,(Heap.Ns1.of_empty e3).at fun o q=>Heap.get?_push_of_some _ q,fun _=>True.intro,fun y hy=>absurd rfl hy⟩
end
section
variable {X:Cx}{o e value:Expr}{f:Str}{pos pos' tpos:Pos}{ta tv:TE}
end
section
variable {X:Cx}{pins:List (Addr×Obj)}{σ:St}{H:Hp}{s:Shared}{A:Around}{E:Value->Shared->Prop}{Q:Value->Shared->Prop}{c:Value}{b:Bool}
inductive gM (K:PySem.W.Frag)(H:Hp):V->Value->Prop where
 | non:gM K H .non (.type "NoneType")
 | bl (x:Bool):gM K H (.bl x) (.type "bool")
 | int (i:Int):gM K H (.int i) (.type "int")
 | str (x:Str):gM K H (.str x) (.type "str")
 | flt (x:UInt64):gM K H (.flt x) (.type "float")
 | lst {a:Addr} {xs:List V} (e:H a=some (.lst xs)):gM K H (.ref a) (.type "list")
 | frz {a:Addr} {o:Obj} {xs:List V} (e:H a=some (.frz o (.lst xs))):gM K H (.ref a) (.type "list")
 | tup {a:Addr} {xs:List V} (e:H a=some (.tup xs)):gM K H (.ref a) (.type "tuple")
 | dK {a:Addr} {kvs:List (bC×V)} (e:H a=some (.dK kvs)):gM K H (.ref a) (.type "dict")
 | dT {a:Addr} {kvs:List (List bC×V)} (e:H a=some (.dT kvs)):gM K H (.ref a) (.type "dict")
 | ins {a C dx:Addr} {fs:List (Str×V)} (e:H a=some (.ins C dx fs)) (cl:Cls K C) (ha:PySem.W.findIn K (.ref C) "__class__"=some (some (.builtin "object.__class__")))
   (hn:PySem.W.specialIn K (.builtin "object.__class__") "__get__"=some (some (.builtin "getset_descriptor.__get__"))) (htk:PySem.W.takesIn K (.builtin "object.__class__")=some true)
   (hm:PySem.W.mroIn K C (.type "object")=some true):gM K H (.ref a) (.ref C)
theorem dZ {x:V}{u t:Value}(I:Inv X pins σ H s)(rx:RelV x u)(ty:gM X.K H x t)(e:PySem.W.kitOne X.K t c=some b)(h:∀tk,Q (.bool b) { s with toks:=tk }) :
  wpAny (model X.prog X.w) A (call (.builtin "isinstance") [u,c]) Q E s:=by
 cases ty with
 | non=>cases (show u=Value.none from rx);exact PySem.W.kia_one PySem.W.kitx_none I.kIn True.intro e (fun z=>nomatch z) h
 | bl y=>cases (show u=Value.bool y from rx);exact PySem.W.kia_one PySem.W.kitx_bool I.kIn True.intro e (fun z=>nomatch z) h
 | int i=>obtain⟨t,q⟩:=(show ∃t,u=Value.int i t from rx);cases q;exact PySem.W.kia_one PySem.W.kitx_int I.kIn True.intro e (fun z=>nomatch z) h
 | str y=>obtain⟨t,q⟩:=(show ∃t,u=Value.str y t from rx);cases q;exact PySem.W.kia_one PySem.W.kitx_str I.kIn True.intro e (fun z=>nomatch z) h
 | flt y=>obtain⟨t,q⟩:=(show ∃t,u=Value.float y t from rx);cases q;exact PySem.W.kia_one PySem.W.kitx_float I.kIn True.intro e (fun z=>nomatch z) h
 | @lst a xs ea =>
  cases (show u=Value.ref a from rx)
  obtain⟨_,_,n,_,h1⟩:=(show ObjOk X.prog X.w H s.heap a (.lst xs) from I.hok a _ ea)
  exact PySem.W.kia_one PySem.W.kitx_list I.kIn ⟨_,h1,rfl⟩ e (fun z=>nomatch z) h
 | @frz a ob xs ea =>
  cases (show u=Value.ref a from rx)
  obtain⟨_,_,_,n,_,h1⟩:=(show ObjOk X.prog X.w H s.heap a (.frz ob (.lst xs)) from I.hok a _ ea)
  exact PySem.W.kia_one PySem.W.kitx_list I.kIn ⟨_,h1,rfl⟩ e (fun z=>nomatch z) h
 | @tup a xs ea =>
  cases (show u=Value.ref a from rx)
  obtain⟨_,_,_,p⟩:=(show ObjOk X.prog X.w H s.heap a (.tup xs) from I.hok a _ ea)
  obtain⟨o,h1,h2,_⟩:=p
  exact PySem.W.kia_one PySem.W.kitx_tuple I.kIn ⟨o,h1,h2⟩ e (fun z=>nomatch z) h
 | @dK a kvs ea =>
  cases (show u=Value.ref a from rx)
  obtain⟨_,_,vs,_,p⟩:=(show ObjOk X.prog X.w H s.heap a (.dK kvs) from I.hok a _ ea)
  obtain⟨o,es,ep,h1,h2,_⟩:=p
  exact PySem.W.kia_one PySem.W.kitx_dict I.kIn ⟨o,h1,h2.1⟩ e (fun z=>nomatch z) h
 | @dT a kvs ea =>
  cases (show u=Value.ref a from rx)
  obtain⟨_,_,xs,_,o,es,ep,h1,h2,_⟩:=(show ObjOk X.prog X.w H s.heap a (.dT kvs) from I.hok a _ ea)
  exact PySem.W.kia_one PySem.W.kitx_dict I.kIn ⟨o,h1,h2.1⟩ e (fun z=>nomatch z) h
 | @ins a C dx fs ea cl ha hn htk hm =>
  cases (show u=Value.ref a from rx)
  obtain⟨mA,O,_⟩:=tO I.hok ea
  obtain⟨od,J,_⟩:=O.look
  exact PySem.W.kia_one (PySem.W.kitx_own (cl.get _) cl.hd ha hn htk hm) I.kIn J e (fun z=>nomatch z) h
end
end L2
namespace L2
open PySem PySem.Spec PyProof.Rows
structure Room (k:Nat)(A:Around):Prop where
 hd:A.handled=none
 dp:A.depth+3*k+5<recursionLimit
 un:A.units+16*k+200<cLine
 gd:A.guards=some []
theorem Room.mono {j k:Nat}{A:Around}(r:Room k A)(h:j≤k):Room j A:=⟨r.hd,by have:=r.dp;omega,by have:=r.un;omega,r.gd⟩
theorem Room.deeper {k:Nat}{A:Around}(r:Room (k+1) A)(env:Env):Room k (A.deeper env) :=
 ⟨r.hd,by have:=r.dp;show A.depth+1+3*k+5<_;omega,by have:=r.un;show A.units+3+16*k+200<_;omega,r.gd⟩
theorem Room.depth {k:Nat}{A:Around}(r:Room k A):A.depth<recursionLimit:=by have:=r.dp;omega
theorem Room.units {k:Nat}{A:Around}(r:Room k A):A.units+64<cLine:=by have:=r.un;omega
def pJ:TA:=fun _ H Q=>Q [] H
def i3 (ta:TE)(tr:TA):TA:=fun σ H Q=>ta σ H fun x H1=>tr σ H1 fun xs H2=>Q (x::xs) H2
section
variable {X:Cx}{e:Expr}{es:List Expr}{te:TE}{t:TA}{pos:Pos}
theorem zv:PA X [] pJ:=fun _ _ _ _ H Q I h=>Calls.spliced_nil ⟨[],H,I,.nil,h⟩
theorem um (ha:PE X e te)(hr:PA X es t)(hs:starEach (e::es) X.env=(false,eval e X.env)::starEach es X.env:=by rfl):PA X (e::es) (i3 te t):=by
 intro pos pins s σ H Q I h
 rw[hs]
 show wpAny _ _ (spliced ((false,eval e X.env)::backTo pos (starEach es X.env))) _ _ s
 refine Calls.spliced_cons (bh (ha pins s σ H _ I h) fun u s1 ⟨x,H1,I1,r1,q1⟩=>?_)
 exact bh (hr pos pins s1 σ H1 _ I1 q1) fun us s2 ⟨xs,H2,I2,r2,q2⟩=>⟨x::xs,H2,I2,.cons r1 r2,q2⟩
def Br (t:TA):TE:=fun σ H Q=>t σ H fun xs H1=>xs.length≤sizeLine/\∀p,H1 p=none->Q (.ref p) (al H1 p (.tup xs))
def A6 (t:TA):TE:=fun σ H Q=>t σ H fun xs H1=>xs.length≤sizeLine/\∀p,H1 p=none->Q (.ref p) (al H1 p (.lst xs))
theorem zf {x1}(h:PA X es t):PE X (.Tuple es x1 pos) (Br t):=by
 intro pins s σ H Q I hq
 refine wpAny_Tuple_spliced (bh (h pos pins s σ H _ I hq) fun us s1 ⟨xs,H1,I1,r,z,q⟩=>⟨by rw[<-r.length];exact z,?_⟩)
 have hf:H1 s1.heap.objs.size=none:=I1.hok.fresh (Nat.le_refl _)
 refine⟨.ref s1.heap.objs.size,al H1 s1.heap.objs.size (.tup xs),I1.laid (t':=s1.toks) (fun b u e=>Heap.get?_push_of_some _ e) (Nat.le_refl _) ?_,rfl,q _ hf⟩
 exact⟨z,us,r,⟨_,Heap.get?_push_size _ rfl,rfl,_,rfl⟩⟩
theorem yC (h:PA X es t):PE X (.List es pos) (A6 t):=by
 intro pins s σ H Q I hq
 refine wpAny_List_spliced (bh (h pos pins s σ H _ I hq) fun us s1 ⟨xs,H1,I1,r,z,q⟩=>⟨by rw[<-r.length];exact z,?_⟩)
 have hf:H1 s1.heap.objs.size=none:=I1.hok.fresh (Nat.le_refl _)
 refine⟨.ref s1.heap.objs.size,al H1 s1.heap.objs.size (.lst xs),I1.laid (t':=s1.toks) (fun b u e=>Heap.get?_push_of_some _ e) (Nat.le_refl _) ?_,rfl,q _ hf⟩
 exact⟨z,us,0,r,Heap.get?_push_size _ rfl⟩
end
abbrev Sp:=List V->Hp->VK->XK->Prop
abbrev nr:=List Env->Hp->Shared->XK->Value->Shared->Prop
structure sj (P:Program)(w:World)(K:PySem.W.Frag)(mg:Str->Option Value)(base:Heap)(A:Around)(outer:List Env)(s:Shared)(H:Hp):Prop where
 frames:A.frames=some outer
 mod:Mod K mg base
 bs:∀b o,base.get? b=some o->s.heap.get? b=some o/\H b=none
 bsz:base.objs.size≤s.heap.objs.size
 funs:s.heap.FunFrames base outer
 frf:∀b∈dn outer,H b=none
 hok:HOk P w H s.heap
 bare:AllBare s.gens
def CE (outer:List Env)(P:Program)(w:World)(H:Hp)(s:Shared)(Q:VK)(u:Value)(s':Shared):Prop :=
 ∃v H',s'.os=s.os/\AllBare s'.gens/\Un (dn outer) [] H H' s.heap s'.heap/\HOk P w H' s'.heap/\RelV v u/\Q v H'
def CR (CX:nr)(outer:List Env)(P:Program)(w:World)(H:Hp)(s:Shared)(Q:VK)(E:XK)(r:Result)(s':Shared):Prop :=
 match r with
 | .ok (.ret u)=>CE outer P w H s Q u s'
 | .ok _=>False
 | .error e=>CX outer H s E e s'
structure FnOk (P:Program)(w:World)(K:PySem.W.Frag)(mg:Str->Option Value)(base:Heap)(CX:nr)(k:Nat)(f:Addr)(fd:FuncData)(ps:List Str)(sp:Sp):Prop where
 len:∀vs H Q E,sp vs H Q E->vs.length=ps.length
 run:∀(A:Around) (outer:List Env) (s:Shared) (H:Hp) (args:Args) (us:List Value) (vs:List V) (Q:VK) (E:XK),Room k A->sj P w K mg base A outer s H->BindsTo s fd args (ps.zip us)->Vals vs us->sp vs H Q E ->
  codeAny (model P w) A (.call (.ref f) args) (CR CX outer P w H s Q E) s
theorem FnOk.imp {P:Program}{w:World}{K:PySem.W.Frag}{mg:Str->Option Value}{base:Heap}{CX:nr}{k:Nat}{f:Addr}{fd:FuncData}{ps:List Str}{sp sp':Sp}(F:FnOk P w K mg base CX k f fd ps sp)
  (h:∀vs H Q E,sp' vs H Q E->sp vs H Q E):FnOk P w K mg base CX k f fd ps sp' :=
 ⟨fun vs H Q E q=>F.len vs H Q E (h _ _ _ _ q),fun A outer s H args us vs Q E hr he hb hv hs=>F.run A outer s H args us vs Q E hr he hb hv (h _ _ _ _ hs)⟩
section
variable {X:Cx}{pins:List (Addr×Obj)}{σ:St}{H:Hp}{s s':Shared}
theorem Inv.env0 (I:Inv X pins σ H s):sj X.prog X.w X.K X.mg X.base X.A X.stack s H :=
 ⟨I.ok.frames,I.ok.mod,I.bs,Nat.le_trans I.ok.bsz I.sz,I.stack,I.stkFree,I.hok,I.bare⟩
theorem Inv.after {Q:VK}{u:Value}(I:Inv X pins σ H s)(h:CE X.stack X.prog X.w H s Q u s'):EP X pins σ Q u s':=by
 obtain⟨v,H',os,bare,un,hok,r,q⟩:=h
 obtain⟨hh,g,d,t,os'⟩:=s'
 obtain rfl:os'=s.os:=os
 exact⟨v,H',I.call (h':=hh) (g':=g) (d':=d) (t':=t) (ch:=[]) un hok bare (fun b z=>absurd z (by simp)),r,q⟩
end
def AF (sp:Sp)(dvs:List V)(E:XK)(t:TA):TE:=fun σ H Q=>t σ H fun vs H1=>sp (vs++dvs) H1 Q E
def Binds (K:PySem.W.Frag)(fd:FuncData)(ps:List Str)(ds:List Value):Prop :=
 ∀(s:Shared) (us:List Value),K.In s.heap->(us++ds).length=ps.length->BindsTo s fd ⟨us,[]⟩ (ps.zip (us++ds))
theorem Binds.all {K:PySem.W.Frag}{fd:FuncData}{ps:List Str}(h:∀us:List Value,us.length=ps.length->bindArgs fd ⟨us,[]⟩=pure (ps.zip us)):Binds K fd ps []:=fun s us _ hl=>by
 rw[List.append_nil]at hl ⊢
 exact .of_eq (h us hl)
def dc (CX:nr)(X:Cx)(E:XK):Prop:=∀(pins:List (Addr×Obj)) (σ:St) (H:Hp) (s:Shared) (e:Value) (s':Shared),Inv X pins σ H s->CX X.stack H s E e s'->X.xe e s'
section
variable {X:Cx}{CX:nr}{k:Nat}{f C:Addr}{fd:FuncData}{ps:List Str}{sp:Sp}{dvs:List V}{ds:List Value}{E:XK}{x m:Str}{p pos apos:Pos}{e o:Expr}{es:List Expr}{ta:TE}{t:TA}
theorem zr {pins:List (Addr×Obj)}{σ:St}{H:Hp}{s:Shared}{Q:VK}{us:List Value}{vs:List V}(F:FnOk X.prog X.w X.K X.mg X.base CX k f fd ps sp)(hr:Room k X.A)(hb:Binds X.K fd ps ds)(hd:Vals dvs ds)(hx:dc CX X E)
  (I:Inv X pins σ H s) (r:Vals vs us) (h:sp (vs++dvs) H Q E):wpAny (model X.prog X.w) X.A (call (.ref f) us) (EP X pins σ Q) X.xe s:=by
 have r2:Vals (vs++dvs) (us++ds):=r.append hd
 have hl:(us++ds).length=ps.length:=by rw[<-r2.length];exact F.len _ _ _ _ h
 refine wpAny_call (codeAny_mono (F.run X.A X.stack s H ⟨us,[]⟩ (us++ds) (vs++dvs) Q E hr I.env0 (hb s us I.kIn hl) r2 h) fun r s' hq=>?_)
 cases r with
 | error e=>exact hx pins σ H s e s' I hq
 | ok fl =>
  cases fl with
  | ret u=>exact I.after hq
  | next=>exact False.elim hq
  | brk=>exact False.elim hq
  | cont=>exact False.elim hq
theorem nq (F:FnOk X.prog X.w X.K X.mg X.base CX k f fd ps sp)(hr:Room k X.A)(hg:Gl X x)(hm:X.mg x=some (.ref f))(hk:PySem.W.keepIn X.K (.ref f)=true)(hb:Binds X.K fd ps ds)(hd:Vals dvs ds)(hx:dc CX X E)
  (ha:PA X (e::es) t) (hdb:(x == ("__debug__":Str))=false:=by decide) (he:starEach (e::es) X.env=(false,eval e X.env)::starEach es X.env:=by rfl) (hpl:(backTo pos (starEach es X.env)).any (·.1)=false:=by rfl) :
  PE X (.Call (.Name x p) (e::es) [] pos) (AF sp dvs E t):=by
 intro pins s σ H Q I h
 refine wpAny_Call_Name_kw (j3 I hg hm ?_ hdb)
 refine PySem.W.callWith_K (h₀:=X.base) I.ok.mod.kin hk (bh (ha pos pins s σ H _ I h) fun us s1 ⟨vs,H1,I1,r,q⟩=>⟨I1.kIn,?_⟩) he hpl
 exact zr F hr hb hd hx I1 r q
structure Mk (K:PySem.W.Frag)(C f:Addr):Prop where
 makes:PySem.W.makesIn K C=true
 init:PySem.W.findIn K (.ref C) "__init__"=some (some (.ref f))
 fn:PySem.W.isFn K (.ref f)=true
 kp:PySem.W.keepIn K (.ref C)=true
end
section
variable {X:Cx}{CX:nr}{k:Nat}{f C:Addr}{fd:FuncData}{ps ks:List Str}{sp:Sp}{E:XK}{x m:Str}{p pos apos kpos:Pos}{e o:Expr}{es:List Expr}{kws:List Keyword}{te ta:TE}{t tk:TA}{nm:Option Str}
structure B5 (K:PySem.W.Frag)(fd:FuncData)(ps ks:List Str)(g:List Value->List Value->List Value)(gV:List V->List V->List V):Prop where
 to:∀(s:Shared) (us ws:List Value),K.In s.heap->(g us ws).length=ps.length->BindsTo s fd ⟨us,ks.zip ws⟩ (ps.zip (g us ws))
 rel:∀{vs:List V} {us:List Value} {zs:List V} {ws:List Value},Vals vs us->Vals zs ws->Vals (gV vs zs) (g us ws)
variable {g:List Value->List Value->List Value}{gV:List V->List V->List V}
end
structure ax (N P:List Str)(sc:Scope):Prop where
 kind:sc.kind=.function
 co:sc.isCoroutine=false
 gen:sc.isGenerator=false
 nd:N.Nodup
 pre:N.take P.length=P
 par:∀x∈P,sc.names.lookup x=some .local\/sc.names.lookup x=some .cell
 nofree:∀y∈sc.names,y.2≠.free
theorem ju {kindOf:Str->Option NameKind}{x:Str}:∀{binds:List (Str×Value)} {m:Str->Option Value},(∀v,(x,v)∉binds)->bindL kindOf binds m x=m x
 | [],_,_=>rfl
 | (n,v)::r,m,h=>by
  unfold bindL
  rw[ju fun w hw=>h w (List.mem_cons_of_mem _ hw)]
  split
  ·have:x≠n:=by rintro rfl;exact h v List.mem_cons_self
   simp[this]
  ·rfl
theorem jM {kindOf:Str->Option NameKind}{x:Str}:∀{binds:List (Str×Value)} {m:Str->Option Value},(∀v,(x,v)∉binds)->bindC kindOf binds m x=m x
 | [],_,_=>rfl
 | (n,v)::r,m,h=>by
  unfold bindC
  rw[jM fun w hw=>h w (List.mem_cons_of_mem _ hw)]
  split
  ·rfl
  ·have:x≠n:=by rintro rfl;exact h v List.mem_cons_self
   simp[this]
theorem jC {kindOf:Str->Option NameKind}{x:Str}{v:Value}:∀{P:List Str} {vs:List Value} {i:Nat} {m:Str->Option Value},P.Nodup->P[i]?=some x->vs[i]?=some v->kindOf x=some .local ->
  bindL kindOf (P.zip vs) m x=some v
 | [],_,_,_,_,h,_,_=>by simp at h
 | _::_,[],_,_,_,_,h,_=>by simp at h
 | p::P,w::vs,0,m,nd,h1,h2,hk=>by
  simp at h1 h2;subst h1;subst h2
  show bindL kindOf ((p,w)::P.zip vs) m p=_
  unfold bindL
  rw[ju fun v hv=>(List.nodup_cons.mp nd).1 (List.of_mem_zip hv).1,if_pos hk]
  simp
 | p::P,w::vs,i+1,m,nd,h1,h2,hk=>by
  show bindL kindOf ((p,w)::P.zip vs) m x=_
  unfold bindL
  exact jC (i:=i) (List.nodup_cons.mp nd).2 (by simpa using h1) (by simpa using h2) hk
theorem jO {kindOf:Str->Option NameKind}{x:Str}{v:Value}:∀{P:List Str} {vs:List Value} {i:Nat} {m:Str->Option Value},P.Nodup->P[i]?=some x->vs[i]?=some v->kindOf x≠some .local ->
  bindC kindOf (P.zip vs) m x=some v
 | [],_,_,_,_,h,_,_=>by simp at h
 | _::_,[],_,_,_,_,h,_=>by simp at h
 | p::P,w::vs,0,m,nd,h1,h2,hk=>by
  simp at h1 h2;subst h1;subst h2
  show bindC kindOf ((p,w)::P.zip vs) m p=_
  unfold bindC
  rw[jM fun v hv=>(List.nodup_cons.mp nd).1 (List.of_mem_zip hv).1,if_neg hk]
  simp
 | p::P,w::vs,i+1,m,nd,h1,h2,hk=>by
  show bindC kindOf ((p,w)::P.zip vs) m x=_
  unfold bindC
  exact jO (i:=i) (List.nodup_cons.mp nd).2 (by simpa using h1) (by simpa using h2) hk
def dB (N:List Str)(vs:List V):St:=vs.map some++List.replicate (N.length-vs.length) none
def bN (CX:nr)(P:Program)(w:World)(K:PySem.W.Frag)(mg:Str->Option Value)(base:Heap)(N:List Str)(qual:Str)(scope:Scope)(f:Addr)(cd:Value)(A:Around)(outer:List Env)(s:Shared)(H:Hp)(E:XK):Cx where
 prog:=P
 w:=w
 K:=K
 mg:=mg
 base:=base
 A:=A.deeper (envOfC qual scope s.heap.objs.size f cd)
 N:=N
 s₀:=s
 H₀:=H
 env:=envOfC qual scope s.heap.objs.size f cd
 outer:=outer
 stack:=envOfC qual scope s.heap.objs.size f cd::outer
 ex:=[]
 calm:=true
 fn:=fun _=>true
 pn:=[]
 xe:=fun e s'=>wpAny (model P w) (A.deeper (envOfC qual scope s.heap.objs.size f cd)) (leaving (envOfC qual scope s.heap.objs.size f cd) e) (fun _ s''=>CX outer H s E e s'') (fun e' s''=>CX outer H s E e' s'') s'
theorem kU {sc:Scope}{n:Nat}{x:Str}(h:sc.names.lookup x=some .cell):∃c,(cellsFrom n sc.names []).lookup x=some c:=by
 have q:=PySem.W.cellsFrom_some sc.names n [] (.inl h)
 exact Option.isSome_iff_exists.mp q
theorem pf {CX:nr}{P:Program}{w:World}{K:PySem.W.Frag}{mg:Str->Option Value}{base:Heap}{N ps:List Str}{qual:Str}{scope:Scope}{f:Addr}{cd:Value}{A:Around}{outer:List Env}{s s1:Shared}{H:Hp}{E:XK}{us:List Value}{vs:List V}
  (S:ax N ps scope) (hd:A.handled=none) (e0:sj P w K mg base A outer s H) (hl:vs.length=ps.length) (r:Vals vs us)
  (x:InCallC s s.heap.objs.size (bindL (envOfC qual scope s.heap.objs.size f cd).kindOf (ps.zip us) fun _=>none) (cellsFrom (s.heap.objs.size+1) scope.names []) (bindC (envOfC qual scope s.heap.objs.size f cd).kindOf (ps.zip us) fun _=>none) s1) :
  Inv (bN CX P w K mg base N qual scope f cd A outer s H E) [] (dB N vs) H s1:=by
 have hpl:ps.length≤N.length:=by have:=congrArg List.length S.pre;rw[List.length_take]at this;omega
 obtain⟨h1,tk,rfl,hk⟩:=x.done
 have noA:∀b:Addr,b∉(bN CX P w K mg base N qual scope f cd A outer s H E).ex:=fun b z=>absurd (show b∈([]:List Addr) from z) (by simp)
 refine⟨⟨e0.mod,S.kind,rfl,rfl,Nat.le_refl _,fun y z c h1 h2=>?_,fun y hy=>?_,fun y c _ h=>?_,fun _=>hd,Around.frames_deeper e0.frames,.inr ⟨rfl,rfl⟩,fun b z=>absurd z (noA b),e0.bs,e0.bsz,fun b _ _=>noA b,fun b z=>absurd z (noA b),e0.funs,e0.frf⟩,
  rfl,e0.bare,Un.kept hk,⟨_,x.toInCall.ns,fun i y v h1 h2 h3=>?_⟩,fun y c h=>⟨_,x.cell y c h⟩,e0.hok.fresh (Nat.le_refl _),fun y c h=>?_,fun p hp=>absurd (show p∈([]:List (Addr×Obj)) from hp) (by simp),e0.hok.kept hk,?_⟩
 ·exact name_of_addr x.apart (PySem.mem_of_lookup h1) (PySem.mem_of_lookup h2)
 ·have hy:scope.names.lookup y=some .cell\/scope.names.lookup y=some .free:=hy
  rcases hy with hy | hy
  ·exact kU hy
  ·exact absurd rfl (S.nofree _ (PySem.mem_of_lookup hy))
 ·exact Nat.le_of_lt (x.above y c (PySem.mem_of_lookup h))
 ·have hi:i<vs.length:=by
   unfold dB at h2
   by_cases hi:i<vs.length
   ·exact hi
   ·rw[List.getElem?_append_right (by simpa using hi)]at h2
    rw[List.getElem?_replicate]at h2
    split at h2<;>cases h2
  have ha:vs[i]?=some v:=by
   unfold dB at h2
   rw[List.getElem?_append_left (by simpa using hi),List.getElem?_map]at h2
   cases e:vs[i]? with
   | none=>rw[e]at h2;cases h2
   | some a=>rw[e]at h2;cases h2;rfl
  obtain⟨u,hu,rv⟩:=r.get ha
  have hp:ps[i]?=some y:=by
   rw[<-S.pre,List.getElem?_take_of_lt (by omega)];exact h1
  have ndP:ps.Nodup:=by rw[<-S.pre];exact S.nd.sublist (List.take_sublist _ _)
  refine⟨u,rv,?_⟩
  rcases S.par y (List.mem_of_getElem? hp) with k | k
  ·exact .inl ⟨k,jC ndP hp hu k⟩
  ·obtain⟨c,e⟩:=kU (n:=s.heap.objs.size+1) k
   refine .inr ⟨.inl k,c,e,?_⟩
   have q:=x.cell y c e
   rw[jO ndP hp hu (by show scope.names.lookup y≠_;rw[k];decide)]at q
   exact q
 ·exact e0.hok.fresh (Nat.le_of_lt (x.above y c (PySem.mem_of_lookup h)))
 ·unfold dB
  show _=N.length
  rw[List.length_append,List.length_map,List.length_replicate]
  omega
theorem wj {CX:nr}{P:Program}{w:World}{K:PySem.W.Frag}{mg:Str->Option Value}{base:Heap}{k:Nat}{f:Addr}{name qual:Str}{params:Arguments}{body:List Stmt}{scope:Scope}{dV kV doc pm cdv ct oc:Value}{an od:Option Addr}
  {osl:Array (Option Value)} {N ps:List Str} {sp:Sp} (lk:K.lookup f=some ⟨oc,od,.func (PySem.W.fnOf name qual params body scope dV kV doc pm an cdv ct),osl⟩) (hcd:PySem.W.codeIn K cdv qual=true) (S:ax N ps scope)
  (len:∀vs H Q E,sp vs H Q E->vs.length=ps.length)
  (hbody:∀(A:Around) (outer:List Env) (s:Shared) (H:Hp) (vs:List V) (Q:VK) (E:XK),Room k (A.deeper (envOfC qual scope s.heap.objs.size f cdv))->sp vs H Q E ->
   ∃t,PSs (bN CX P w K mg base N qual scope f cdv A outer s H E) body t/\t { nx:=fun _ H'=>Q .non H',rt:=Q } (dB N vs) H) :
  FnOk P w K mg base CX (k+1) f (PySem.W.fnOf name qual params body scope dV kV doc pm an cdv ct) ps sp:=by
 refine⟨len,fun A outer s H args us vs Q E hr e0 hb r hsp=>?_⟩
 have hl:=len _ _ _ _ hsp
 have KX:K.In s.heap:=e0.mod.kin.keeps fun b o e=>(e0.bs b o e).1
 have lim:s.heap.NoLimit:=e0.mod.nolimit.keeps fun b o e=>(e0.bs b o e).1
 have hkind:∀y∈ps.zip us,scope.names.lookup y.1=some .local\/(scope.names.lookup y.1=some .cell/\((cellsFrom (s.heap.objs.size+1) scope.names []).lookup y.1).isSome=true):=fun⟨n,v⟩ hy=>by
  rcases S.par n (List.of_mem_zip hy).1 with q | q
  ·exact .inl q
  ·exact .inr ⟨q,PySem.W.cellsFrom_some _ _ _ (.inl q)⟩
 refine codeAny_call_function hr.depth (KX _ _ lk) rfl S.co S.gen rfl (PySem.W.codeRec_of KX hcd) (hb _ _ _ _ ?_)
 refine wpAny_newFunctionEnv_cells S.kind hkind fun env he s1 x=>?_
 subst he
 refine⟨lim.keeps x.toInCall.keep,codeAny_func ?_⟩
 obtain⟨t,ht,hq⟩:=hbody A outer s H vs Q E (hr.deeper _) hsp
 have I:Inv (bN CX P w K mg base N qual scope f cdv A outer s H E) [] (dB N vs) H s1:=pf S hr.hd e0 hl r x
 refine wpAny_mono (ht [] s1 (dB N vs) H _ I hq) (fun fl s' hs=>?_) fun e s' hs=>hs
 have fin:∀{σ':St} {H':Hp} {v:V} {u:Value},Inv (bN CX P w K mg base N qual scope f cdv A outer s H E) [] σ' H' s'->RelV v u->Q v H'->CE outer P w H s Q u s' :=
  fun {σ' H' v u} J rv q=>⟨v,H',J.os,J.bare,J.base,J.hok,rv,q⟩
 cases fl with
 | ret u =>
  obtain⟨v,σ',H',J,rv,q⟩:=hs
  exact fin J rv q
 | next =>
  obtain⟨σ',H',J,q⟩:=hs
  exact fin (v:=V.non) (u:=Value.none) J rfl q
 | brk =>
  obtain⟨_,_,_,q⟩:=hs
  exact False.elim q
 | cont =>
  obtain⟨_,_,_,q⟩:=hs
  exact False.elim q
end L2
namespace L2
open PySem PySem.Spec PyProof.Rows
section
variable {X:Cx}{x:Str}{p pos:Pos}{e:Expr}{es:List Expr}{t:TA}{id T:String}{r:List V->Hp->VK->Prop}
def zE (r:List V->Hp->VK->Prop)(t:TA):TE:=fun σ H Q=>t σ H fun vs H1=>r vs H1 Q
theorem qG (hc:ba X (.builtin id) r)(hg:Gl X x)(hm:X.mg x=none)(hv:bootBuiltins x=some (.builtin id))(ha:PA X (e::es) t)(hn:x≠"__name__":=by decide)(hdb:(x == ("__debug__":Str))=false:=by decide)
  (he:starEach (e::es) X.env=(false,eval e X.env)::starEach es X.env:=by rfl) (hpl:(backTo pos (starEach es X.env)).any (·.1)=false:=by rfl):PE X (.Call (.Name x p) (e::es) [] pos) (zE r t):=by
 intro pins s σ H Q I h
 refine wpAny_Call_Name_kw (ff I hg hm hv ?_ hn hdb)
 exact PyProof.Rows.callWith_builtin1 (bh (ha pos pins s σ H _ I h) fun us s1 ⟨vs,H1,I1,r1,q1⟩=>hc pins s1 σ H1 vs us Q I1 r1 q1) he hpl
theorem pY (hc:ba X (.type T) r)(hg:Gl X x)(hm:X.mg x=none)(hv:bootBuiltins x=some (.type T))(ha:PA X (e::es) t)(hn:x≠"__name__":=by decide)(hdb:(x == ("__debug__":Str))=false:=by decide)
  (he:starEach (e::es) X.env=(false,eval e X.env)::starEach es X.env:=by rfl) (hpl:(backTo pos (starEach es X.env)).any (·.1)=false:=by rfl):PE X (.Call (.Name x p) (e::es) [] pos) (zE r t):=by
 intro pins s σ H Q I h
 refine wpAny_Call_Name_kw (ff I hg hm hv ?_ hn hdb)
 exact PyProof.Rows.callWith_type1 (bh (ha pos pins s σ H _ I h) fun us s1 ⟨vs,H1,I1,r1,q1⟩=>hc pins s1 σ H1 vs us Q I1 r1 q1) he hpl
end
end L2
namespace HT
open PySem PyProof.Rows
section
open PySem.SeqAt
open PySem.AutoSeq1 (wpAny_loadPart')
open PySem.MeetsSeq PySem.MeetsSeq2 PySem.MeetsSeq3
end
section
variable {prog:Program}{w:World}{A:Around}{E:Value->Shared->Prop}{s:Shared}
theorem cat_tup {t b:Addr}{vs ws:List Value}{Q:Value->Shared->Prop}(ht:IsTup s.heap t vs.toArray)(hb:IsTup s.heap b ws.toArray)(hv:vs≠[])
  (h1:ws=[]->Q (.ref t) s) (h2:ws≠[]->Q (.ref s.heap.objs.size) { s with heap:=s.heap.push { cls:=.type "tuple",data:=.seq (vs++ws).toArray } })
  (hsz:vs.length+ws.length≤sizeLine):wpAny (model prog w) A (binaryOp .Add (.ref t) (.ref b)) Q E s:=by
 obtain⟨⟨cls,dd,data,sl⟩,ho,hc,n,hd⟩:=id ht
 obtain⟨⟨cls2,dd2,data2,sl2⟩,ho2,hc2,n2,hd2⟩:=id hb
 simp only at hc hd hc2 hd2
 subst hc hd hc2 hd2
 have e:vs.toArray++ws.toArray=(vs++ws).toArray:=by simp
 by_cases hw:ws=[]
 ·exact concat_meets ⟨_,ho,rfl⟩ ⟨_,ho2,rfl⟩ noFill_tuple_add seq_tuple_add PySem.F.slot_tuple_add PySem.F.entry_tuple_add (PySem.F.args_tuple_add_2 _ _)
   (tuple_addW1 t b vs.toArray ws.toArray n n2 dd dd2 sl sl2 (by simpa using hv) (by simp[hw])) ⟨ho,ho2,h1 hw⟩
 ·refine concat_meets ⟨_,ho,rfl⟩ ⟨_,ho2,rfl⟩ noFill_tuple_add seq_tuple_add PySem.F.slot_tuple_add PySem.F.entry_tuple_add (PySem.F.args_tuple_add_2 _ _)
   (tuple_addW2 t b vs.toArray ws.toArray n n2 dd dd2 sl sl2 (by simpa using hv) (by simpa using hw) (by rw[List.size_toArray,List.size_toArray];exact hsz)) ⟨ho,ho2,?_⟩
  rw[e]
  exact h2 hw
def sIx (n d:Nat):Option Int->Nat
 | none=>d
 | some v=>if v<0 then (v+(n:Int)).toNat else min v.toNat n
theorem sIx_none (n d:Nat):sIx n d none=d:=rfl
theorem sIx_nat (n d k:Nat):sIx n d (some (k:Int))=min k n:=by
 show (if (k:Int)<0 then ((k:Int)+(n:Int)).toNat else min (k:Int).toNat n)=min k n
 rw[if_neg (by omega),Int.toNat_natCast]
theorem zh (n d:Nat)(hd:d≤n)(o:Option Int):sIx n d o≤n:=by
 cases o with
 | none=>exact hd
 | some v =>
  show (if v<0 then (v+(n:Int)).toNat else min v.toNat n)≤n
  by_cases hv:v<0
  ·rw[if_pos hv];omega
  ·rw[if_neg hv];exact Nat.min_le_right _ _
theorem nJ (v:Int)(n d:Nat):(if v<0 then max (v+(n:Int)) 0 else min v (n:Int))=((sIx n d (some v):Nat):Int):=by
 show (if v<0 then max (v+(n:Int)) 0 else min v (n:Int))=(((if v<0 then (v+(n:Int)).toNat else min v.toNat n):Nat):Int)
 by_cases hv:v<0
 ·simp only[if_pos hv];omega
 ·simp only[if_neg hv];omega
theorem mJ (lo hi:Option Int)(n:Nat):Builtin.Slice.sliceAdjust lo hi 1 (n:Int)=(((sIx n 0 lo:Nat):Int),((sIx n n hi:Nat):Int)):=by
 have h1:¬ ((1:Int)<0):=by omega
 unfold Builtin.Slice.sliceAdjust
 simp only[h1,if_false]
 refine Prod.ext ?_ ?_
 ·cases lo with
  | none=>rfl
  | some v=>exact nJ v n 0
 ·cases hi with
  | none=>rfl
  | some v=>exact nJ v n n
theorem mS (i j:Nat):Builtin.Slice.slicePlaces (i:Int) (j:Int) 1=j-i:=by
 unfold Builtin.Slice.slicePlaces
 have h1:(1:Int)>0:=by omega
 simp only[h1,if_true,Int.ediv_one]
 split<;>omega
theorem ig {v:Value}{o:Option Int}{Q:Option Int->Shared->Prop}(p:IsPart v o)(h:Q o s):wpAny (model prog w) A (Builtin.Slice.slicePartIndex v) Q E s:=by
 cases p with
 | none=>exact slicePart_none h
 | int i t=>exact slicePart_int h
theorem fW {sl:Addr}{vl vu:Value}{lo hi:Option Int}{n:Nat}{Q:Int×Int×Nat->Shared->Prop}(hs:s.heap.IsSliceOf sl vl vu .none)(pl:IsPart vl lo)(pu:IsPart vu hi)
  (h:Q (((sIx n 0 lo:Nat):Int),1,sIx n n hi-sIx n 0 lo) s):wpAny (model prog w) A (Builtin.Slice.sliceApplied (.ref sl) (pure (n:Int))) Q E s:=by
 obtain⟨os,hos,hcs,hds⟩:=id hs
 unfold Builtin.Slice.sliceApplied Builtin.Slice.sliceFields
 refine wpAny_bind (wpAny_bind (wpAny_field hos hds (x:=vl) rfl (wpAny_bind (wpAny_field hos hds (x:=vu) rfl (wpAny_bind (wpAny_field hos hds (x:=.none) rfl (wpAny_pure ?_)))))))
 refine wpAny_bind (slicePart_none ?_)
 show wpAny _ _ (if ((1:Int) == 0)=true then _ else _) _ _ s
 rw[if_neg (by decide)]
 refine wpAny_bind (ig pl (wpAny_bind (ig pu (wpAny_bind (wpAny_pure ?_)))))
 show wpAny _ _ (match Builtin.Slice.sliceAdjust lo hi 1 (n:Int) with | (lo,hi)=>pure (lo,(1:Int),Builtin.Slice.slicePlaces lo hi 1)) _ _ s
 rw[mJ lo hi n]
 show wpAny _ _ (pure (((sIx n 0 lo:Nat):Int),(1:Int),Builtin.Slice.slicePlaces ((sIx n 0 lo:Nat):Int) ((sIx n n hi:Nat):Int) 1)) _ _ s
 rw[mS]
 exact wpAny_pure h
theorem rY (xs:Array Value)(i k:Nat):((List.range k).filterMap fun (m:Nat)=>xs[((i:Int)+(m:Int)*1).toNat]?).toArray=((xs.toList.drop i).take k).toArray:=by
 have e:(fun (m:Nat)=>xs[((i:Int)+(m:Int)*1).toNat]?)=fun m=>xs[i+m]?:=by
  funext m
  have:((i:Int)+(m:Int)*1).toNat=i+m:=by omega
  rw[this]
 rw[e]
 have:=pick_run xs i k
 rw[List.filterMap_map]at this
 have e2:((fun x=>xs[x]?)∘fun x=>i+x)=fun m=>xs[i+m]?:=rfl
 rw[e2]at this
 rw[this]
theorem getItem_tuple_cut {t sl:Addr}{items:Array Value}{vl vu:Value}{lo hi:Option Int}{Q:Value->Shared->Prop}(ht:IsTup s.heap t items)(hs:s.heap.IsSliceOf sl vl vu .none)(pl:IsPart vl lo)(pu:IsPart vu hi)
  (hw:¬ (sIx items.size 0 lo=0/\sIx items.size items.size hi=items.size))
  (h:Q (.ref s.heap.objs.size) { s with heap:=s.heap.push { cls:=.type "tuple",data:=.seq ((items.toList.drop (sIx items.size 0 lo)).take (sIx items.size items.size hi-sIx items.size 0 lo)).toArray } })
  (hsz:items.size≤sizeLine):wpAny (model prog w) A (getItem (.ref t) (.ref sl)) Q E s:=by
 have htake:sizeOk (.seq ((items.toList.drop (sIx items.size 0 lo)).take (sIx items.size items.size hi-sIx items.size 0 lo)).toArray):=by
  show ((items.toList.drop (sIx items.size 0 lo)).take (sIx items.size items.size hi-sIx items.size 0 lo)).toArray.size≤sizeLine
  rw[List.size_toArray,List.length_take,List.length_drop,Array.length_toList]
  omega
 have hj:sIx items.size items.size hi≤items.size:=zh _ _ (Nat.le_refl _) hi
 obtain⟨os,hos,hcs,hds⟩:=id hs
 have hTs:s.TypeIs (.ref sl) "slice":=⟨os,hos,hcs⟩
 unfold getItem
 try with_reducible refine wpAny_holding ?_
 first | refine wpAny_bind (wpAny_pure ?_) | skip
 refine wpAny_bind (wpAny_sequenceKey ht.typeIs (by decide) ?_)
 refine wpAny_bind (wpAny_callSpecial?_slot (name:=Str.ofString "__getitem__") ht.typeIs PyProof.Rows.slot_tuple_getitem
  (wpAny_call_entry PyProof.Rows.slot_tuple_getitem ht.typeIs entry_tuple_getitem ?_ (args_tuple_getitem _ _)))
 show wpAny _ _ (Builtin.Tuple.tupleItemsOf (.ref t)>>=_) _ _ s
 refine wpAny_bind (tupleItemsOf_ ht ?_)
 refine wpAny_bind (wpAny_typeOf hTs ?_)
 rw[if_pos (by decide)]
 refine wpAny_bind (fW hs pl pu ?_)
 have hno:¬ ((((sIx items.size 0 lo:Nat):Int) == 0&&(1:Int) == 1&&(sIx items.size items.size hi-sIx items.size 0 lo) == items.size)=true):=by
  intro q
  rw[Bool.and_eq_true,Bool.and_eq_true]at q
  have q1:((sIx items.size 0 lo:Nat):Int)=0:=eq_of_beq q.1.1
  have q2:sIx items.size items.size hi-sIx items.size 0 lo=items.size:=eq_of_beq q.2
  exact hw ⟨by omega,by omega⟩
 show wpAny _ _ (if (((sIx items.size 0 lo:Nat):Int) == 0&&(1:Int) == 1&&(sIx items.size items.size hi-sIx items.size 0 lo) == items.size)=true then _ else _) _ _ s
 rw[if_neg hno,rY]
 first
  | exact wpAny_bind (m:=Builtin.Tuple.tupleExact _) (wpAny_newObj_type (wpAny_pure ⟨_,rfl,wpAny_pure h⟩) htake)
  | exact wpAny_bind (m:=Builtin.Tuple.tupleExact _) (wpAny_newObj_type (wpAny_bind (wpAny_pure (wpAny_pure ⟨_,rfl,wpAny_pure h⟩))) htake)
  | exact wpAny_bind (wpAny_bind (m:=Builtin.Tuple.tupleExact _) (wpAny_newObj_type (wpAny_pure (wpAny_pure ⟨_,rfl,wpAny_pure h⟩)) htake))
  | exact wpAny_bind (wpAny_bind (m:=Builtin.Tuple.tupleExact _) (wpAny_newObj_type (wpAny_pure ⟨_,rfl,wpAny_pure h⟩) htake))
end
end HT
namespace L2
open PySem PySem.Spec PyProof.Rows
abbrev TO:=St->Hp->(Option Int->Hp->Prop)->Prop
def PO (X:Cx)(e:Option Expr)(t:TO):Prop :=
 ∀(pins:List (Addr×Obj)) (s:Shared) (σ:St) (H:Hp) (Q:Option Int->Hp->Prop),Inv X pins σ H s->t σ H Q ->
  wpAny (model X.prog X.w) X.A (evalPart e X.env) (fun u s'=>∃o H',Inv X pins σ H' s'/\IsPart u o/\Q o H') X.xe s
def nu:TO:=fun _ H Q=>Q none H
def qA (t:TE):TO:=fun σ H Q=>t σ H fun x H1=>∃i,x=.int i/\Q (some i) H1
section
variable {X:Cx}{e:Expr}{te:TE}{lo hi:Option Expr}{tl th:TO}{pos p2:Pos}
theorem ue:PO X none nu:=by
 intro pins s σ H Q I h
 rw[evalPart_none]
 exact wpAny_pure ⟨none,H,I,.none,h⟩
theorem uN (h:PE X e te):PO X (some e) (qA te):=by
 intro pins s σ H Q I hw
 rw[evalPart_some]
 refine bh (h pins s σ H _ I hw) fun u s1 ⟨x,H1,I1,r1,q1⟩=>?_
 obtain⟨i,rfl,q⟩:=q1
 obtain⟨t,rfl⟩:=r1
 exact⟨some i,H1,I1,.int i t,q⟩
def zD (X:Cx)(r:V->Option Int->Option Int->Hp->VK->Prop):Prop :=
 ∀(pins:List (Addr×Obj)) (s:Shared) (σ:St) (H:Hp) (x:V) (v vl vu:Value) (lo hi:Option Int) (sl:Addr) (Q:VK),Inv X pins σ H s->RelV x v->s.heap.IsSliceOf sl vl vu .none->IsPart vl lo->IsPart vu hi->r x lo hi H Q ->
  ∃T id,typeLookup (.type T) "__getitem__"=pure (some (.builtin id))/\s.TypeIs v T/\wpAny (model X.prog X.w) X.A (getItem v (.ref sl)) (EP X pins σ Q) X.xe s
def Cc (r:V->Option Int->Option Int->Hp->VK->Prop)(te:TE)(tl th:TO):TE:=fun σ H Q=>te σ H fun x H1=>tl σ H1 fun l H2=>th σ H2 fun u H3=>r x l u H3 Q
theorem sH {r:V->Option Int->Option Int->Hp->VK->Prop}(hr:zD X r)(he:PE X e te)(hl:PO X lo tl)(hu:PO X hi th):PE X (.Subscript e (.Slice lo hi none p2) pos) (Cc r te tl th):=by
 intro pins s σ H Q I h
 refine Subscript_ (bh (he pins s σ H _ I h) fun v s1 ⟨x,H1,I1,r1,q1⟩=>?_)
 refine wpAny_Slice (bh (hl pins s1 σ H1 _ I1 q1) fun vl s2 ⟨l,H2,I2,pl,q2⟩=>bh (hu pins s2 σ H2 _ I2 q2) fun vu s3 ⟨u,H3,I3,pu,q3⟩=>?_)
 rw[evalPart_none]
 refine wpAny_pure ?_
 have I4:Inv X pins σ H3 { s3 with heap:=s3.heap.push { cls:=.type "slice",data:=.fields #[vl,vu,.none] } }:=I3.kept (t':=s3.toks) fun b ob q=>Heap.get?_push_of_some _ q
 obtain⟨T,id,hT,ht,hg⟩:=hr pins { s3 with heap:=s3.heap.push { cls:=.type "slice",data:=.fields #[vl,vu,.none] } } σ H3 x v vl vu l u s3.heap.objs.size Q I4 r1 (Heap.IsSliceOf.new ..) pl pu q3
 show wpAny (model X.prog X.w) X.A (subscriptTail e (.Slice lo hi none p2) v (.ref s3.heap.objs.size)) (EP X pins σ Q) X.xe { s3 with heap:=s3.heap.push { cls:=.type "slice",data:=.fields #[vl,vu,.none] } }
 exact tail_any (ops:=[.ref s3.heap.objs.size,v]) ht hT hg (by with_unfolding_all rfl)
def gJ (xs:List V)(lo hi:Option Int):List V:=(xs.drop (HT.sIx xs.length 0 lo)).take (HT.sIx xs.length xs.length hi-HT.sIx xs.length 0 lo)
theorem gy (xs:List V)(lo hi:Option Int):(gJ xs lo hi).length≤xs.length:=by
 unfold gJ
 rw[List.length_take,List.length_drop]
 omega
def BP (K:PySem.W.Frag):V->Option Int->Option Int->Hp->VK->Prop:=fun x lo hi H Q=>∃a xs,x=.ref a/\SqT K H a xs /\
 ¬ (HT.sIx xs.length 0 lo=0/\HT.sIx xs.length xs.length hi=xs.length)/\∀p,H p=none->Q (.ref p) (al H p (.tup (gJ xs lo hi)))
theorem yU:zD X (BP X.K):=by
 intro pins s σ H x v vl vu lo hi sl Q I rx hs pl pu h
 obtain⟨a,xs,rfl,hx,hw,q⟩:=h
 cases rx
 obtain⟨its,r,ht,hz⟩:=I.tuple hx
 have hlen:its.toArray.size=xs.length:=by rw[List.size_toArray];exact r.length.symm
 refine⟨"tuple",_,PyProof.Rows.slot_tuple_getitem.lookup,ht.typeIs,?_⟩
 refine HT.getItem_tuple_cut ht hs pl pu (by rw[hlen];exact hw) ?_ (by rw[hlen];exact hz)
 rw[hlen]
 refine⟨.ref s.heap.objs.size,_,I.laid (t':=s.toks) (o:=.tup (gJ xs lo hi)) (fun b ob q=>Heap.get?_push_of_some _ q) (Nat.le_refl _) ?_,rfl,q _ (I.hok.fresh (Nat.le_refl _))⟩
 exact⟨Nat.le_trans (gy xs lo hi) hz,_,(r.drop (HT.sIx xs.length 0 lo)).take (HT.sIx xs.length xs.length hi-HT.sIx xs.length 0 lo),IsTup.new _ _⟩
def AN (K:PySem.W.Frag):R2:=fun x y H Q=>∃a b xs ys,x=.ref a/\y=.ref b/\SqT K H a xs/\SqT K H b ys/\xs≠[]/\xs.length+ys.length≤sizeLine /\
 (ys=[]->Q (.ref a) H)/\(ys≠[]->∀p,H p=none->Q (.ref p) (al H p (.tup (xs++ys))))
theorem Vals.nil_iff {xs:List V}{us:List Value}(r:Vals xs us):us=[]↔xs=[]:=by
 cases r with
 | nil=>simp
 | cons _ _=>simp
theorem ud:bq X (binaryOp .Add) (AN X.K):=by
 intro pins s σ H x y v u Q I rx ry h
 obtain⟨a,b,xs,ys,rfl,rfl,ha,hb,hx,hz,q1,q2⟩:=h
 cases rx
 cases ry
 obtain⟨its,r1,p1,_⟩:=I.tuple ha
 obtain⟨its2,r2,p2,_⟩:=I.tuple hb
 refine HT.cat_tup p1 p2 (fun z=>hx (r1.nil_iff.mp z)) (fun z=>⟨.ref a,H,I,rfl,q1 (r2.nil_iff.mp z)⟩) (fun z=>?_) (by rw[<-r1.length,<-r2.length];exact hz)
 refine⟨.ref s.heap.objs.size,_,I.laid (t':=s.toks) (o:=.tup (xs++ys)) (fun b ob q=>Heap.get?_push_of_some _ q) (Nat.le_refl _) ?_,rfl,q2 (fun w=>z (r2.nil_iff.mpr w)) _ (I.hok.fresh (Nat.le_refl _))⟩
 exact⟨by rw[List.length_append];exact hz,_,r1.append r2,IsTup.new _ _⟩
end
end L2
namespace L2
open PySem PySem.Spec PyProof.Rows
def zF (n:Nat)(i:Int):Option Nat:=if 0≤i then (if i<n then some i.toNat else none) else if -(n:Int)≤i then some (i+n).toNat else none
def mh {α:Type}(xs:List α)(i:Int):Option α:=(zF xs.length i).bind fun j=>xs[j]?
theorem uY {n:Nat}{i:Int}{j:Nat}(h:zF n i=some j):seqIndex? i n=some j/\j<n/\-(n:Int)≤i/\i<n:=by
 unfold zF at h
 by_cases h0:0≤i
 ·rw[if_pos h0]at h
  by_cases h1:i<n
  ·rw[if_pos h1]at h
   have e:i.toNat=j:=Option.some.inj h
   exact⟨by rw[seqIndex_of h0 h1,e],by omega,by omega,h1⟩
  ·rw[if_neg h1]at h;cases h
 ·rw[if_neg h0]at h
  by_cases h1:-(n:Int)≤i
  ·rw[if_pos h1]at h
   have e:(i+n).toNat=j:=Option.some.inj h
   exact⟨by rw[seqIndex_neg (by omega) h1,e],by omega,h1,by omega⟩
  ·rw[if_neg h1]at h;cases h
theorem jV {α:Type}{xs:List α}{i:Int}{v:α}(h:mh xs i=some v):∃j,seqIndex? i xs.length=some j/\xs[j]?=some v/\j<xs.length/\-(xs.length:Int)≤i/\i<xs.length:=by
 unfold mh at h
 cases e:zF xs.length i with
 | none=>rw[e]at h;cases h
 | some j =>
  rw[e]at h
  obtain⟨h1,h2,h3,h4⟩:=uY e
  exact⟨j,h1,h,h2,h3,h4⟩
theorem aq {α:Type}{xs:List α}{j:Nat}{v:α}(h:xs[j]?=some v):mh xs (j:Int)=some v:=by
 have hj:j<xs.length:=(List.getElem?_eq_some_iff.mp h).1
 have e:zF xs.length (j:Int)=some j:=by
  unfold zF
  rw[if_pos (by omega),if_pos (by omega)];simp
 unfold mh;rw[e];exact h
def oo (b:Expr):Prop:=∀o i,subscripted b false o i=operate [o,i] (getItem o i)
def vi (X:Cx)(r:R2):Prop :=
 ∀(value slice:Expr) (pins:List (Addr×Obj)) (s:Shared) (σ:St) (H:Hp) (x y:V) (v u:Value) (Q:VK),Inv X pins σ H s->RelV x v->RelV y u->r x y H Q ->
  subscripted slice false v u=operate [v,u] (getItem v u)->wpAny (model X.prog X.w) X.A (subscriptTail value slice v u) (EP X pins σ Q) X.xe s
def qe (X:Cx)(id:String)(r:V->List V->Hp->VK->Prop):Prop :=
 ∀(pins:List (Addr×Obj)) (s:Shared) (σ:St) (H:Hp) (x:V) (xs:List V) (v:Value) (us:List Value) (Q:VK),Inv X pins σ H s->RelV x v->Vals xs us->r x xs H Q ->
  wpAny (model X.prog X.w) X.A (call (.builtin id) (v::us)) (EP X pins σ Q) X.xe s
section
variable {X:Cx}{a b:Expr}{ta tb:TE}{pos:Pos}
theorem AH {r:R2}(hr:vi X r)(ha:PE X a ta)(hb:PE X b tb)(hs:oo b):PE X (.Subscript a b pos) (vV r ta tb):=by
 intro pins s σ H Q I h
 exact Subscript_ (ya ha hb I h fun v u s2 x y H2 I2 rx ry q=>hr a b pins s2 σ H2 x y v u Q I2 rx ry q (hs _ _))
def BZ (K:PySem.W.Frag):R2:=fun x y H Q=>∃p xs i v,x=.ref p/\y=.int i/\SqL K H p xs/\mh xs i=some v/\Q v H
def BD (K:PySem.W.Frag):R2:=fun x y H Q=>∃p xs i v,x=.ref p/\y=.int i/\SqT K H p xs/\mh xs i=some v/\Q v H
def BF:R2:=fun x y H Q=>∃z i c,x=.str z/\y=.int i/\z.length≤sizeLine/\mh z.cps.toList i=some c/\Q (.str ⟨#[c]⟩) H
theorem vI:vi X (BZ X.K):=by
 intro value slice pins s σ H x y v u Q I rx ry h hs
 obtain⟨p,xs,i,z,rfl,rfl,hq,he,q⟩:=h
 cases rx
 obtain⟨t,rfl⟩:=ry
 obtain⟨its,r,pl,hz⟩:=I.list hq
 obtain⟨j,h1,h2,h3,h4,h5⟩:=jV he
 obtain⟨w,ew,rw'⟩:=r.get h2
 have hl:=r.length
 have hn:=gg
 have fin:EP X pins σ Q w s:=⟨z,H,I,rw',q⟩
 by_cases h0:0≤i
 ·have hj:i.toNat=j:=by
   rw[seqIndex_of h0 h5]at h1
   exact Option.some.inj h1
  exact item_listR pl.isList h0 (by omega) (by rw[hj];simpa using ew) fin hs
 ·have hj:(i+(its.toArray.size:Int)).toNat=j:=by
   rw[seqIndex_neg (by omega) h4]at h1
   rw[List.size_toArray,<-hl]
   exact Option.some.inj h1
  exact subscriptTail_builtinR (x:=w) pl.isList.typeIs slot_list_getitem.lookup
   (wpAny_getItem_list_neg (Q:=fun r s'=>r=w/\EP X pins σ Q r s') pl.isList (by omega) (by rw[List.size_toArray]<;>omega) (by omega) (by rw[hj];simpa using ew) ⟨rfl,fin⟩) hs
theorem zt:vi X (BD X.K):=by
 intro value slice pins s σ H x y v u Q I rx ry h hs
 obtain⟨p,xs,i,z,rfl,rfl,hq,he,q⟩:=h
 cases rx
 obtain⟨t,rfl⟩:=ry
 obtain⟨its,r,pl,hz⟩:=I.tuple hq
 obtain⟨j,h1,h2,h3,h4,h5⟩:=jV he
 obtain⟨w,ew,rw'⟩:=r.get h2
 have hl:=r.length
 have hn:=gg
 have fin:EP X pins σ Q w s:=⟨z,H,I,rw',q⟩
 exact subscriptTail_builtinR (x:=w) pl.typeIs slot_tuple_getitem.lookup
  (getItem_tuple (j:=j) (Q:=fun r s'=>r=w/\EP X pins σ Q r s') pl (by omega) (by omega) (by rw[List.size_toArray,<-hl];exact h1) (by simpa using ew) ⟨rfl,fin⟩) hs
theorem wN:vi X BF:=by
 intro value slice pins s σ H x y v u Q I rx ry h hs
 obtain⟨z,i,c,rfl,rfl,hz,he,q⟩:=h
 obtain⟨t,rfl⟩:=rx
 obtain⟨t',rfl⟩:=ry
 obtain⟨j,h1,h2,h3,h4,h5⟩:=jV he
 have hl:z.cps.toList.length=z.length:=by simp[Str.length]
 rw[hl]at h1 h4 h5
 have hn:=gg
 exact tail_any (typeIs_str s z t) slot_str_getitem.lookup (getItem_str (c:=c) (by
  have e1:decide (i < -(2 ^ 63:Int))=false:=decide_eq_false (by omega)
  have e2:decide (i≥2 ^ 63)=false:=decide_eq_false (by omega)
  rw[e1,e2,Bool.or_false]) (by rw[h1];simpa using h2) ⟨.str ⟨#[c]⟩,H,I.tok _,⟨_,rfl⟩,q⟩) hs
theorem Inv.lst {pins:List (Addr×Obj)}{σ:St}{H:Hp}{s:Shared}{p:Addr}{xs:List V}(I:Inv X pins σ H s)(h:H p=some (.lst xs)) :
  ∃(its:List Value) (n:Nat),Vals xs its/\s.heap.get? p=some { cls:=.type "list",data:=.seq its.toArray n }/\xs.length≤sizeLine:=by
 obtain⟨z,its,n,r,e⟩:=I.hok p _ h
 exact⟨its,n,r,e,z⟩
theorem kj (lo hi:Option Int)(n:Nat):(sliceBounds lo hi none n).1=((HT.sIx n 0 lo:Nat):Int)/\(sliceBounds lo hi none n).2.1=((HT.sIx n n hi:Nat):Int)/\(sliceBounds lo hi none n).2.2=1:=by
 refine⟨?_,?_,rfl⟩
 ·cases lo with
  | none=>simp[sliceBounds,HT.sIx]
  | some i =>
   simp only[sliceBounds,HT.sIx,Option.getD_none,show (1:Int)>0 by decide,if_true]
   by_cases h:i<0
   ·simp only[h,if_true]<;>omega
   ·simp only[h,if_false]<;>omega
 ·cases hi with
  | none=>simp[sliceBounds,HT.sIx]
  | some i =>
   simp only[sliceBounds,HT.sIx,Option.getD_none,show (1:Int)>0 by decide,if_true]
   by_cases h:i<0
   ·simp only[h,if_true]<;>omega
   ·simp only[h,if_false]<;>omega
theorem i8 (its:List Value)(lo hi:Option Int):slicePick its.toArray lo hi none=((its.drop (HT.sIx its.length 0 lo)).take (HT.sIx its.length its.length hi-HT.sIx its.length 0 lo)).toArray:=by
 obtain⟨h1,h2,h3⟩:=kj lo hi its.toArray.size
 unfold slicePick
 rw[h1,h2,h3]
 simp only[sliceRange_one,pick_run,List.size_toArray]<;>rfl
def B4 (K:PySem.W.Frag):V->Option Int->Option Int->Hp->VK->Prop:=fun x lo hi H Q=>∃a xs,x=.ref a/\SqL K H a xs/\∀p,H p=none->Q (.ref p) (al H p (.lst (gJ xs lo hi)))
theorem tY:zD X (B4 X.K):=by
 intro pins s σ H x v vl vu lo hi sl Q I rx hs pl pu h
 obtain⟨a,xs,rfl,hx,q⟩:=h
 cases rx
 obtain⟨its,r,ht,hz⟩:=I.list hx
 have hlen:=r.length
 refine⟨"list",_,slot_list_getitem.lookup,ht.isList.typeIs,?_⟩
 refine wpAny_getItem_list_slice ht.isList hs pl pu .none (by simp) ?_ (by rw[List.size_toArray]<;>omega)
 rw[i8,<-hlen]
 refine⟨.ref s.heap.objs.size,_,I.laid (t':=s.toks) (o:=.lst (gJ xs lo hi)) (fun b ob q=>Heap.get?_push_of_some _ q) (Nat.le_refl _) ?_,rfl,q _ (I.hok.fresh (Nat.le_refl _))⟩
 exact⟨Nat.le_trans (gy xs lo hi) hz,_,0,(r.drop (HT.sIx xs.length 0 lo)).take (HT.sIx xs.length xs.length hi-HT.sIx xs.length 0 lo),Heap.get?_push_size _ rfl⟩
def cw:V->Bool
 | .non=>true
 | .bl _=>true
 | .int _=>true
 | .str _=>true
 | _=>false
def wx:V->V->Bool
 | .non,.non=>true
 | .bl a,.bl b=>a == b
 | .bl a,.int b=>(if a then 1 else 0) == b
 | .int a,.bl b=>a == (if b then 1 else 0)
 | .int a,.int b=>a == b
 | .str a,.str b=>a == b
 | _,_=>false
theorem yz {A:Around}{s:Shared}{y x:V}{u v:Value}(ry:RelV y u)(rx:RelV x v)(fy:cw y=true)(fx:cw x=true):SeqAt.EqAt A s u v (wx y x):=by
 cases y with
 | non =>
  cases ry
  cases x with
  | non=>cases rx;exact SeqAt.EqAt.same _
  | bl b=>cases rx;exact SeqAt.EqAt.none_bool b
  | int b=>obtain⟨t,rfl⟩:=rx;exact SeqAt.EqAt.none_int b t
  | str b=>obtain⟨t,rfl⟩:=rx;exact SeqAt.EqAt.none_str b t
  | _=>exact absurd (show false=true from fx) Bool.false_ne_true
 | bl a =>
  cases ry
  cases x with
  | non=>cases rx;exact SeqAt.EqAt.bool_none a
  | bl b=>cases rx;exact SeqAt.EqAt.bool_bool a b
  | int b=>obtain⟨t,rfl⟩:=rx;exact SeqAt.EqAt.bool_int a b t
  | str b=>obtain⟨t,rfl⟩:=rx;exact SeqAt.EqAt.bool_str a b t
  | _=>exact absurd (show false=true from fx) Bool.false_ne_true
 | int a =>
  obtain⟨t',rfl⟩:=ry
  cases x with
  | non=>cases rx;exact SeqAt.EqAt.int_none a t'
  | bl b=>cases rx;exact SeqAt.EqAt.int_bool a t' b
  | int b=>obtain⟨t,rfl⟩:=rx;exact SeqAt.EqAt.int_int a t' b t
  | str b=>obtain⟨t,rfl⟩:=rx;exact SeqAt.EqAt.int_str a t' b t
  | _=>exact absurd (show false=true from fx) Bool.false_ne_true
 | str a =>
  obtain⟨t',rfl⟩:=ry
  cases x with
  | non=>cases rx;exact SeqAt.EqAt.str_none a t'
  | bl b=>cases rx;exact SeqAt.EqAt.str_bool a t' b
  | int b=>obtain⟨t,rfl⟩:=rx;exact SeqAt.EqAt.str_int a t' b t
  | str b=>obtain⟨t,rfl⟩:=rx;exact SeqAt.EqAt.str_str a t' b t
  | _=>exact absurd (show false=true from fx) Bool.false_ne_true
 | _=>exact absurd (show false=true from fy) Bool.false_ne_true
def mj (x:V)(u:Value):Bool:=match u with
 | .none=>wx .non x
 | .bool b=>wx (.bl b) x
 | .int i _=>wx (.int i) x
 | .str z _=>wx (.str z) x
 | _=>false
theorem tq {x y:V}{u:Value}(r:RelV y u)(f:cw y=true):mj x u=wx y x:=by
 cases y with
 | non=>cases r;rfl
 | bl b=>cases r;rfl
 | int i=>obtain⟨t,rfl⟩:=r;rfl
 | str z=>obtain⟨t,rfl⟩:=r;rfl
 | _=>exact absurd (show false=true from f) Bool.false_ne_true
theorem fD {x:V}:∀{xs:List V} {us:List Value},Vals xs us->xs.all cw=true->us.any (mj x)=xs.any fun y=>wx y x
 | _,_,.nil,_=>rfl
 | y::xs,u::us,.cons r t,f=>by
  rw[List.all_cons,Bool.and_eq_true]at f
  rw[List.any_cons,List.any_cons,tq r f.1,fD t f.2]
theorem dF {A:Around}{s:Shared}{x:V}{v:Value}(rx:RelV x v)(fx:cw x=true):∀{xs:List V} {us:List Value},Vals xs us->xs.all cw=true->∀u∈us,SeqAt.EqAt A s u v (mj x u)
 | _,_,.nil,_=>fun u hu=>by cases hu
 | y::xs,u::us,.cons r t,f=>fun u' hu=>by
  rw[List.all_cons,Bool.and_eq_true]at f
  rcases List.mem_cons.mp hu with rfl | hu
  ·rw[tq r f.1];exact yz r rx f.1 fx
  ·exact dF rx fx t f.2 u' hu
def vU (x:V)(xs:List V):Bool:=xs.any fun y=>wx y x
def Cg (K:PySem.W.Frag)(neg:Bool):R2:=fun x y H Q=>∃p xs,y=.ref p/\(SqL K H p xs\/SqT K H p xs)/\cw x=true/\xs.all cw=true/\Q (.bl (if neg then !vU x xs else vU x xs)) H
theorem oU:bq X (compareOp .In) (Cg X.K false):=by
 intro pins s σ H x y v u Q I rx ry h
 obtain⟨p,xs,rfl,hq,fx,fs,q⟩:=h
 cases ry
 rcases hq with hq | hq
 ·obtain⟨its,r,pl,hz⟩:=I.list hq
  refine SeqAt.in_listAt (mj x) pl.isList (fun w hw=>dF rx fx r fs w (by simpa using hw)) ⟨.bl _,H,I,rfl,?_⟩
  rw[show its.toArray.any (mj x)=its.any (mj x) by simp,fD r fs]
  exact q
 ·obtain⟨its,r,pl,hz⟩:=I.tuple hq
  refine SeqAt.in_tupleAt (mj x) pl (fun w hw=>dF rx fx r fs w (by simpa using hw)) ⟨.bl _,H,I,rfl,?_⟩
  rw[show its.toArray.any (mj x)=its.any (mj x) by simp,fD r fs]
  exact q
theorem j6:bq X (compareOp .NotIn) (Cg X.K true):=by
 intro pins s σ H x y v u Q I rx ry h
 obtain⟨p,xs,rfl,hq,fx,fs,q⟩:=h
 cases ry
 rcases hq with hq | hq
 ·obtain⟨its,r,pl,hz⟩:=I.list hq
  refine SeqAt.notIn_listAt (mj x) pl.isList (fun w hw=>dF rx fx r fs w (by simpa using hw)) ⟨.bl _,H,I,rfl,?_⟩
  rw[show its.toArray.any (mj x)=its.any (mj x) by simp,fD r fs]
  exact q
 ·obtain⟨its,r,pl,hz⟩:=I.tuple hq
  refine SeqAt.notIn_tupleAt (mj x) pl (fun w hw=>dF rx fx r fs w (by simpa using hw)) ⟨.bl _,H,I,rfl,?_⟩
  rw[show its.toArray.any (mj x)=its.any (mj x) by simp,fD r fs]
  exact q
theorem j9:ba X (.builtin "len") (fun xs H Q=>∃p ys,xs=[.ref p]/\(SqL X.K H p ys\/SqT X.K H p ys)/\Q (.int ys.length) H):=by
 intro pins s σ H xs us Q I r h
 obtain⟨p,ys,rfl,hq,q⟩:=h
 obtain⟨u,rfl,rx⟩:=bF r
 cases rx
 have hn:=gg
 rcases hq with hq | hq
 ·obtain⟨its,r',pl,hz⟩:=I.list hq
  have hlen:=r'.length
  exact Calls.call_len_list pl.isList (by simp only[List.size_toArray]<;>omega) ⟨.int ys.length,H,I.tok _,⟨s.toks+1,by rw[List.size_toArray,hlen]⟩,q⟩
 ·obtain⟨its,r',pl,hz⟩:=I.tuple hq
  have hlen:=r'.length
  exact len_tuple pl (by simp only[List.size_toArray]<;>omega) ⟨.int ys.length,H,I.tok _,⟨s.toks+1,by rw[List.size_toArray,hlen]⟩,q⟩
theorem j5:ba X (.builtin "len") (fun xs H Q=>∃z,xs=[.str z]/\z.length≤sizeLine/\Q (.int z.length) H):=by
 intro pins s σ H xs us Q I r h
 obtain⟨z,rfl,hz,q⟩:=h
 obtain⟨u,rfl,t,rfl⟩:=bF r
 have hn:=gg
 exact len_str (by omega) ⟨.int z.length,H,I.tok _,⟨_,rfl⟩,q⟩
theorem jT:ba X (.type "list") (fun xs H Q=>∃p ys,xs=[.ref p]/\(SqL X.K H p ys\/SqT X.K H p ys)/\∀l,H l=none->Q (.ref l) (al H l (.lst ys))):=by
 intro pins s σ H xs us Q I r h
 obtain⟨p,ys,rfl,hq,q⟩:=h
 obtain⟨u,rfl,rx⟩:=bF r
 cases rx
 have fin:∀(its:List Value),Vals ys its->ys.length≤sizeLine->∀(h':Heap) (c':Nat),(∀b o',s.heap.get? b=some o'->h'.get? b=some o') ->
   h'.get? s.heap.objs.size=some { cls:=.type "list",dict:=none,data:=.seq its.toArray c',slots:=#[] }->EP X pins σ Q (.ref s.heap.objs.size) { s with heap:=h' }:=fun its r' hz h' c' kp e =>
  ⟨.ref s.heap.objs.size,_,I.laid (t':=s.toks) kp (Nat.le_refl _) (show ObjOk X.prog X.w _ h' _ (.lst ys) from ⟨hz,its,c',r',e⟩),rfl,q _ (I.hok.fresh (Nat.le_refl _))⟩
 rcases hq with hq | hq
 ·obtain⟨its,r',pl,hz⟩:=I.list hq
  have hlen:=r'.length
  obtain⟨o,ho,hc,n,hd⟩:=pl.isList
  exact call_list_seq p (.inl rfl) ho hc hd (fun h' c' kp e=>fin its r' hz h' c' kp e) (by simp only[List.size_toArray]<;>omega)
 ·obtain⟨its,r',pl,hz⟩:=I.tuple hq
  have hlen:=r'.length
  obtain⟨o,ho,hc,n,hd⟩:=pl
  exact call_list_seq p (.inr rfl) ho hc hd (fun h' c' kp e=>fin its r' hz h' c' kp e) (by simp only[List.size_toArray]<;>omega)
theorem je:ba X (.type "tuple") (fun xs H Q=>∃p ys,xs=[.ref p]/\((SqL X.K H p ys/\∀l,H l=none->Q (.ref l) (al H l (.tup ys)))\/(SqT X.K H p ys/\Q (.ref p) H))):=by
 intro pins s σ H xs us Q I r h
 obtain⟨p,ys,rfl,h⟩:=h
 obtain⟨u,rfl,rx⟩:=bF r
 cases rx
 rcases h with⟨hq,q⟩ | ⟨hq,q⟩
 ·obtain⟨its,r',pl,hz⟩:=I.list hq
  have hlen:=r'.length
  refine call_tuple_list pl.isList (fun h' kp=>?_) (by simp only[List.size_toArray]<;>omega)
  have I1:Inv X pins σ H { s with heap:=h' }:=I.kept (t':=s.toks) kp
  have I2:Inv X pins σ (al H h'.objs.size (.tup ys)) { s with heap:=h'.push { cls:=.type "tuple",data:=.seq its.toArray } } :=
   I1.laid (t':=s.toks) (fun b o e=>Heap.get?_push_of_some _ e) (Nat.le_refl _) (show ObjOk X.prog X.w _ _ _ (.tup ys) from ⟨hz,its,r',IsTup.new _ _⟩)
  exact⟨.ref h'.objs.size,_,I2,rfl,q _ (I1.hok.fresh (Nat.le_refl _))⟩
 ·obtain⟨its,r',pl,hz⟩:=I.tuple hq
  exact call_tuple_same pl ⟨.ref p,H,I,rfl,q⟩
def BE (K:PySem.W.Frag)(T:String)(x:V)(H:Hp):Prop:=match x with
 | .str _=>T="str"
 | .int _=>T="int"
 | .ref p=>(T="list"/\∃xs,SqL K H p xs)\/(T="tuple"/\∃o,K.lookup p=some o/\o.cls=.type "tuple"/\o.dict=none) \/
   (T="dict"/\((∃kvs,H p=some (.dK kvs))\/∃kvs,H p=some (.dT kvs)))\/(T="set"/\∃S n,H p=some (.set S n))
 | _=>False
theorem rT {pins:List (Addr×Obj)}{σ:St}{H:Hp}{s:Shared}{T:String}{x:V}{v:Value}(I:Inv X pins σ H s)(r:RelV x v)(ty:BE X.K T x H) :
  s.TypeIs v T/\∀a,v=.ref a->∃ob,s.heap.get? a=some ob/\ob.dict=none:=by
 cases x with
 | str z =>
  obtain⟨t,rfl⟩:=r
  cases (show T="str" from ty)
  exact⟨typeIs_str s z t,fun _ e=>nomatch e⟩
 | int i =>
  obtain⟨t,rfl⟩:=r
  cases (show T="int" from ty)
  exact⟨typeIs_int s i t,fun _ e=>nomatch e⟩
 | ref p =>
  cases r
  rcases ty with⟨rfl,xs,hq⟩ | ⟨rfl,o,hk,hc,hd⟩ | ⟨rfl,hk⟩ | ⟨rfl,S,n,hk⟩
  ·obtain⟨its,_,pl,_⟩:=I.list hq
   refine⟨pl.isList.typeIs,fun a e=>?_⟩
   cases e
   obtain⟨o,n,e,c,hd,_⟩:=pl
   exact⟨o,e,hd⟩
  ·refine⟨⟨o,I.kIn p o hk,hc⟩,fun a e=>?_⟩
   cases e
   exact⟨o,I.kIn _ o hk,hd⟩
  ·have z:∃o,s.heap.get? p=some o/\o.ExactDict:=by
    rcases hk with⟨kvs,hk⟩ | ⟨kvs,hk⟩
    ·obtain⟨_,_,_,_,o,_,_,e,ex,_⟩:=I.hok p _ hk
     exact⟨o,e,ex⟩
    ·obtain⟨_,_,_,_,o,_,_,e,ex,_⟩:=I.hok p _ hk
     exact⟨o,e,ex⟩
   obtain⟨o,e,ex⟩:=z
   refine⟨⟨o,e,ex.1⟩,fun a e2=>?_⟩
   cases e2
   exact⟨o,e,ex.2.1⟩
  ·obtain⟨o,_,_,_,e,ex,_⟩:=I.hok p _ hk
   refine⟨⟨o,e,ex.1⟩,fun a e2=>?_⟩
   cases e2
   exact⟨o,e,ex.2.1⟩
 | _=>exact False.elim ty
def xo (K:PySem.W.Frag)(T:String)(r:V->List V->Hp->VK->Prop)(to:TE):TE:=fun σ H Q=>to σ H fun x H1=>BE K T x H1/\r x [] H1 Q
def BY (K:PySem.W.Frag)(T:String)(r:V->List V->Hp->VK->Prop)(to:TE)(t:TA):TE:=fun σ H Q=>to σ H fun x H1=>BE K T x H1/\t σ H1 fun xs H2=>r x xs H2 Q
variable {o e:Expr}{es:List Expr}{to:TE}{t:TA}{name:Str}{apos cpos:Pos}{T id:String}{r:V->List V->Hp->VK->Prop}
theorem yt (pa:PlainAttrs T)(slot:Slot T name id)(hty:typeOf (.builtin id)=pure (.type "method_descriptor"))(hm:qe X id r)(ho:PE X o to)
  (hbase:attributeBase o name X.env (eval o X.env)=eval o X.env:=by rfl) (hline:(apos.endLine == cpos.line)=true:=by rfl):PE X (.Call (.Attribute o name apos) [] [] cpos) (xo X.K T r to):=by
 intro pins s σ H Q I h
 refine wpAny_Call_method0_late hbase hline (bh (ho pins s σ H _ I h) fun v s1 ⟨x,H1,I1,r1,ty,q1⟩=>?_)
 obtain⟨h1,h2⟩:=rT I1 r1 ty
 exact⟨T,id,pa,slot,hty,h1,h2,Calls.callWith_builtin rfl (PySem.evalArgs_none (hm pins s1 σ H1 x [] v [] Q I1 r1 .nil q1))⟩
theorem A2 (pa:PlainAttrs T)(slot:Slot T name id)(hty:typeOf (.builtin id)=pure (.type "method_descriptor"))(hm:qe X id r)(ho:PE X o to)(ha:PA X (e::es) t)
  (hbase:attributeBase o name X.env (eval o X.env)=eval o X.env:=by rfl)
  (hfew:((backTo cpos (starEach (e::es) X.env)).all (fun x=>!x.1)&&(backToKw cpos (keywordEach [] X.env)).all (fun x=>x.1.isSome)
   && decide ((e::es).length+([]:List Keyword).length+(if ([]:List Keyword).isEmpty then 0 else 1)<30))=true:=by rfl)
  (hline:(apos.endLine == cpos.line)=true:=by rfl) (hs:starEach (e::es) X.env=(false,eval e X.env)::starEach es X.env:=by rfl) (hplain:(backTo cpos (starEach es X.env)).any (·.1)=false:=by rfl) :
  PE X (.Call (.Attribute o name apos) (e::es) [] cpos) (BY X.K T r to t):=by
 intro pins s σ H Q I h
 refine wpAny_Call_method_late hbase hfew hline rfl (bh (ho pins s σ H _ I h) fun v s1 ⟨x,H1,I1,r1,ty,q1⟩=>?_)
 obtain⟨h1,h2⟩:=rT I1 r1 ty
 refine⟨T,id,pa,slot,hty,h1,h2,?_⟩
 have hA:=ha cpos pins s1 σ H1 _ I1 q1
 rw[hs]at hA ⊢
 refine Calls.callWith_builtin (by show (false||(backTo cpos (starEach es X.env)).any (·.1))=false;rw[hplain]<;>rfl) (Calls.evalArgs_plain ?_)
 exact bh hA fun us s2 ⟨vs,H2,I2,r2,q2⟩=>hm pins s2 σ H2 x vs v us Q I2 r1 r2 q2
end
end L2
namespace L2
open PySem PySem.Spec PyProof.Rows
def B2 (X:Cx)(id:String)(r:V->List V->Hp->VK->Prop):Prop :=
 ∀(pins:List (Addr×Obj)) (s:Shared) (σ:St) (H:Hp) (x:V) (xs:List V) (v:Value) (us:List Value) (Q:VK),Inv X pins σ H s->RelV x v->Vals xs us->r x xs H Q ->
  wpAny (model X.prog X.w) X.A (call (.builtin id) (v::us)) (EP X pins σ Q) X.xe s
theorem Vals.one:∀{x:V} {us:List Value},Vals [x] us->∃u,us=[u]/\RelV x u
 | _,_,.cons r .nil=>⟨_,rfl,r⟩
theorem Vals.zero:∀{us:List Value},Vals [] us->us=[]
 | _,.nil=>rfl
theorem Vals.dropLast {xs:List V}{us:List Value}(h:Vals xs us):Vals xs.dropLast us.dropLast:=by
 induction h with
 | nil=>exact .nil
 | cons r t ih =>
  cases t with
  | nil=>exact .nil
  | cons q t'=>exact .cons r ih
theorem Vals.eraseIdx:∀{xs:List V} {us:List Value} (i:Nat),Vals xs us->Vals (xs.eraseIdx i) (us.eraseIdx i)
 | _,_,_,.nil=>.nil
 | _,_,0,.cons _ t=>t
 | _,_,i+1,.cons r t=>.cons r (Vals.eraseIdx i t)
theorem Vals.rep {xs:List V}{us:List Value}(h:Vals xs us):∀k:Nat,Vals (List.replicate k xs).flatten (List.replicate k us).flatten
 | 0=>.nil
 | k+1=>by
  rw[List.replicate_succ,List.replicate_succ,List.flatten_cons,List.flatten_cons]
  exact Vals.append h (Vals.rep h k)
theorem mG {α:Type}(l:List α):l.eraseIdx (l.length-1)=l.dropLast:=by
 induction l with
 | nil=>rfl
 | cons a r ih =>
  cases r with
  | nil=>rfl
  | cons b r =>
   have e:(a::b::r).length-1=((b::r).length-1)+1:=by
    have h1:(a::b::r).length=r.length+2:=rfl
    have h2:(b::r).length=r.length+1:=rfl
    omega
   rw[e,List.eraseIdx_cons_succ,ih]
   all_goals rfl
theorem jG (its:List Value):∀(k:Nat) (acc:List Value),
  List.foldl (fun x1 x2=>x1++x2) acc.toArray (List.replicate k its.toArray)=(acc++(List.replicate k its).flatten).toArray
 | 0,acc=>by simp
 | k+1,acc=>by
  have e:acc.toArray++its.toArray=(acc++its).toArray:=by simp
  have e2:(acc++its)++(List.replicate k its).flatten=acc++(List.replicate (k+1) its).flatten:=by
   rw[List.replicate_succ,List.flatten_cons,List.append_assoc]
  rw[<-e2,<-jG its k (acc++its),<-e,List.replicate_succ,List.foldl_cons]
section
variable {X:Cx}{pins:List (Addr×Obj)}{σ:St}{H:Hp}{s:Shared}{l b:Addr}{xs ys zs:List V}
theorem Inv.lset {its its':List Value}{n:Nat}{f:Array Value->Array Value}{t':Nat}(I:Inv X pins σ H s)(hH:H l=some (.lst xs))
  (e:s.heap.get? l=some { cls:=.type "list",data:=.seq its.toArray n }) (hf:f its.toArray=its'.toArray) (hv:Vals ys its') (hz:ys.length≤sizeLine) :
  Inv X pins σ (al H l (.lst ys)) { s with heap:=s.heap.update l (Obj.mapSeq f),toks:=t' }:=by
 have q:=PySem.IsL.update e f
 rw[hf]at q
 refine I.write (x:=l) (e:=l) (by rw[hH];exact trivial) (.inl rfl) (fun b' u hb hu=>(Heap.get?_update_other s.heap (Obj.mapSeq f) (Ne.symm hb)).trans hu) ⟨_,q⟩ ?_
 exact⟨hz,its',_,hv,q⟩
theorem Inv.lnew {its:List Value}{t':Nat}(I:Inv X pins σ H s)(hv:Vals ys its)(hz:ys.length≤sizeLine) :
  Inv X pins σ (al H s.heap.objs.size (.lst ys)) { s with heap:=s.heap.push { cls:=.type "list",data:=.seq its.toArray },toks:=t' } :=
 I.laid (fun _ _ q=>Heap.get?_push_of_some _ q) (Nat.le_refl _) ⟨hz,its,0,hv,Heap.get?_push_size _ rfl⟩
theorem Inv.fresh (I:Inv X pins σ H s):H s.heap.objs.size=none:=I.hok.fresh (Nat.le_refl _)
theorem Inv.lstM (I:Inv X pins σ H s)(hH:H l=some (.lst xs)):xs.length≤sizeLine/\∃(its:List Value) (n:Nat),Vals xs its/\xs.length=its.length/\s.heap.get? l=some { cls:=.type "list",data:=.seq its.toArray n }:=by
 obtain⟨z,its,n,r,e⟩:=I.hok l _ hH
 exact⟨z,its,n,r,r.length,e⟩
theorem ij {n:Nat}(h:n≤sizeLine):Builtin.List.listTooLong n=false:=by
 unfold Builtin.List.listTooLong
 exact decide_eq_false (by omega)
end
section
variable {X:Cx}
def uL:V->List V->Hp->VK->Prop:=fun x vs H Q=>∃l xs y,x=.ref l/\vs=[y]/\H l=some (.lst xs)/\xs.length<sizeLine/\Q .non (al H l (.lst (xs++[y])))
theorem qa:B2 X "list.append" uL:=by
 intro pins s σ H x vs v us Q I rx rv h
 obtain⟨l,xs,y,rfl,rfl,hH,hz,q⟩:=h
 cases rx
 obtain⟨u,rfl,ru⟩:=rv.one
 obtain⟨z,its,n,r,hl,e⟩:=I.lstM hH
 refine call_meets F.slot_list_append ⟨_,e,rfl⟩ F.entry_list_append (F.args_list_append_2 _ _) (PySem.list_append l its.toArray n u (by rw[List.size_toArray];omega)) ⟨e,?_⟩
 refine⟨.non,_,I.lset (its':=its++[u]) hH e (by simp) (r.append (.cons ru .nil)) ?_,rfl,q⟩
 rw[List.length_append,List.length_singleton]
 omega
def vC:V->List V->Hp->VK->Prop:=fun x vs H Q=>∃l b xs zs,x=.ref l/\vs=[.ref b]/\H l=some (.lst xs)/\H b=some (.lst zs)/\xs.length+zs.length≤sizeLine/\Q .non (al H l (.lst (xs++zs)))
theorem pw:B2 X "list.extend" vC:=by
 intro pins s σ H x vs v us Q I rx rv h
 obtain⟨l,b,xs,zs,rfl,rfl,hH,hB,hz,q⟩:=h
 cases rx
 obtain⟨u,rfl,ru⟩:=rv.one
 cases ru
 obtain⟨z,its,n,r,hl,e⟩:=I.lstM hH
 obtain⟨z2,its2,n2,r2,hl2,e2⟩:=I.lstM hB
 have hsz:its.toArray.size+its2.toArray.size≤sizeLine:=by rw[List.size_toArray,List.size_toArray];omega
 have hlong:¬ (!its.toArray.isEmpty&&Builtin.List.listTooLong (its.toArray.size+its2.toArray.size))=true:=by
  rw[ij hsz,Bool.and_false]
  exact Bool.false_ne_true
 refine call_meets F.slot_list_extend ⟨_,e,rfl⟩ F.entry_list_extend (F.args_list_extend_2 _ _)
  (AutoSeq1.list_extend_list_list_0 l its.toArray n b its2.toArray n2 hlong (by rw[List.size_toArray];omega) (by omega)) ⟨e,e2,?_⟩
 refine⟨.non,_,I.lset (its':=its++its2) hH e (by simp) (r.append r2) ?_,rfl,q⟩
 rw[List.length_append]
 omega
def BM:V->List V->Hp->VK->Prop:=fun x vs H Q=>∃l xs y,x=.ref l/\vs=[]/\H l=some (.lst xs)/\xs[xs.length-1]?=some y/\Q y (al H l (.lst xs.dropLast))
theorem yr:B2 X "list.pop" BM:=by
 intro pins s σ H x vs v us Q I rx rv h
 obtain⟨l,xs,y,rfl,rfl,hH,hy,q⟩:=h
 cases rx
 have hus:=rv.zero
 subst hus
 obtain⟨z,its,n,r,hl,e⟩:=I.lstM hH
 obtain⟨u,hu,ru⟩:=r.get hy
 have hy':its.toArray[its.toArray.size-1]?=some u:=by
  show its.toArray[its.length-1]?=some u
  rw[<-Array.getElem?_toList,<-hl]
  exact hu
 refine call_meets F.slot_list_pop ⟨_,e,rfl⟩ F.entry_list_pop (F.args_list_pop_1 _) (MeetsSeq.list_pop_last l its.toArray n u hy' (by rw[List.size_toArray];omega)) ⟨e,?_⟩
 refine⟨y,_,I.lset (its':=its.dropLast) hH e ?_ r.dropLast ?_,ru,q⟩
 ·show its.toArray.eraseIdxIfInBounds (its.toArray.size-1)=its.dropLast.toArray
  rw[List.size_toArray,List.eraseIdxIfInBounds_toArray,mG]
 ·rw[List.length_dropLast]
  omega
def BQ:R2:=fun x y H Q=>∃l b xs zs,x=.ref l/\y=.ref b/\H l=some (.lst xs)/\H b=some (.lst zs)/\xs.length+zs.length≤sizeLine/\∀p,H p=none->Q (.ref p) (al H p (.lst (xs++zs)))
theorem yW:bq X (binaryOp .Add) BQ:=by
 intro pins s σ H x y v u Q I rx ry h
 obtain⟨l,b,xs,zs,rfl,rfl,hH,hB,hz,q⟩:=h
 cases rx
 cases ry
 obtain⟨z,its,n,r,hl,e⟩:=I.lstM hH
 obtain⟨z2,its2,n2,r2,hl2,e2⟩:=I.lstM hB
 refine PySem.P.add_list e e2 ?_ (by rw[List.size_toArray,List.size_toArray];omega)
 have ea:its.toArray++its2.toArray=(its++its2).toArray:=by simp
 rw[ea]
 exact⟨.ref _,_,I.lnew (t':=s.toks) (r.append r2) (by rw[List.length_append];omega),rfl,q _ I.fresh⟩
def BX:R2:=fun x y H Q=>∃l k xs,x=.ref l/\y=.int k/\H l=some (.lst xs)/\-(2 ^ 63)≤k/\k<2 ^ 63/\xs.length*k.toNat≤sizeLine /\
 ∀p,H p=none->Q (.ref p) (al H p (.lst (List.replicate k.toNat xs).flatten))
theorem vS {α:Type}(xs:List α)(k:Nat):(List.replicate k xs).flatten.length=k*xs.length:=by
 induction k with
 | zero=>simp
 | succ k ih=>rw[List.replicate_succ,List.flatten_cons,List.length_append,ih,Nat.succ_mul,Nat.add_comm]
theorem xU:bq X (binaryOp .Mult) BX:=by
 intro pins s σ H x y v u Q I rx ry h
 obtain⟨l,k,xs,rfl,rfl,hH,h1,h2,hz,q⟩:=h
 cases rx
 obtain⟨t,rfl⟩:=ry
 obtain⟨z,its,n,r,hl,e⟩:=I.lstM hH
 have hlen:its.toArray.size*k.toNat≤sizeLine:=by rw[List.size_toArray,<-hl];exact hz
 have hcap:¬ its.toArray.size*k.toNat>(2 ^ 63-1) / 8:=by
  have:(sizeLine:Nat)≤(2 ^ 63-1) / 8:=by decide
  omega
 have hfit:¬ (!Builtin.List.listFitsIndex k)=true:=by
  rw[fitsIndex_both h1 h2]
  exact Bool.false_ne_true
 have hlong:¬ Builtin.List.listTooLong (its.toArray.size*k.toNat)=true:=by
  rw[ij hlen]
  exact Bool.false_ne_true
 have hnew:List.foldl (fun x1 x2=>x1++x2) #[] (List.replicate (if its.toArray.isEmpty=true then 0 else k.toNat) its.toArray)=(List.replicate k.toNat its).flatten.toArray:=by
  have f0:∀m:Nat,List.foldl (fun x1 x2=>x1++x2) #[] (List.replicate m its.toArray)=(List.replicate m its).flatten.toArray:=fun m=>by
   have:=jG its m []
   rw[List.nil_append]at this
   exact this
  rw[f0]
  cases its with
  | nil=>simp
  | cons a r'=>rw[if_neg (by simp)]
 refine wpAny_binaryOp_repeat_ref (T:="list") (U:="int") (by decide) ⟨_,e,rfl⟩ (fun s'=>typeIs_int s' k t) noFill_list_mul F.fills_int_mul F.slot_int_rmul repeat_list F.slot_int_index.lookup
  (call_meets F.slot_int_rmul (typeIs_int s k t) F.entry_int_rmul (F.args_int_rmul_2 _ _) (int___rmul___int_list k t l its.toArray n)
   ⟨e,rfl,⟨_,e,rfl⟩,call_meets F.slot_list_mul ⟨_,e,rfl⟩ F.entry_list_mul (F.args_list_mul_2 _ _) (AutoListH.list___mul___list_int_3 l its.toArray n k t hfit hcap hlong) ⟨e,?_⟩⟩)
 rw[hnew]
 exact⟨.ref _,_,I.lnew (t':=s.toks) (r.rep k.toNat) (by rw[vS,Nat.mul_comm];exact hz),rfl,q _ I.fresh⟩
end
section
variable {prog:Program}{w:World}{A:Around}{E:Value->Shared->Prop}{s:Shared}
end
section
variable {X:Cx}
end
end L2
namespace L2
open PySem PySem.Spec PyProof.Rows
section
variable {κ:Type}[DecidableEq κ]
def d7 (kvs:List (κ×V))(k:κ):Option V:=(kvs.find? fun kv=>decide (kv.1=k)).map (·.2)
def fT (kvs:List (κ×V))(k:κ)(v:V):List (κ×V) :=
 if (kvs.any fun kv=>decide (kv.1=k))=true then kvs.map (fun kv=>if kv.1=k then (kv.1,v) else kv) else kvs++[(k,v)]
theorem io {p:κ×V}{r:List (κ×V)}{k:κ}(e:p.1=k):d7 (p::r) k=some p.2:=by simp[d7,List.find?_cons,e]
theorem iV {p:κ×V}{r:List (κ×V)}{k:κ}(e:¬ p.1=k):d7 (p::r) k=d7 r k:=by simp[d7,List.find?_cons,e]
theorem lu (k:κ):∀kvs:List (κ×V),(kvs.any fun kv=>decide (kv.1=k))=(d7 kvs k).isSome
 | []=>rfl
 | p::r=>by
  rw[List.any_cons]
  by_cases e:p.1=k
  ·simp only[io e,decide_eq_true e,Bool.true_or,Option.isSome_some]
  ·rw[iV e,decide_eq_false e,Bool.false_or];exact lu k r
theorem gq (kvs:List (κ×V))(k:κ)(v:V):(fT kvs k v).length≤kvs.length+1:=by
 unfold fT
 split
 ·rw[List.length_map];omega
 ·rw[List.length_append,List.length_cons,List.length_nil];omega
theorem RelO.isSome_eq {o:Option V}{u:Option Value}(r:RelO o u):o.isSome=u.isSome:=by
 cases o with
 | none=>cases u with
  | none=>rfl
  | some _=>exact (show False from r).elim
 | some _=>cases u with
  | none=>exact (show False from r).elim
  | some _=>rfl
theorem RelO.getD {o:Option V}{u:Option Value}{d:V}{d':Value}(r:RelO o u)(rd:RelV d d'):RelV (o.getD d) (u.getD d'):=by
 cases o with
 | none=>cases u with
  | none=>exact rd
  | some _=>exact (show False from r).elim
 | some _=>cases u with
  | none=>exact (show False from r).elim
  | some _=>exact r
theorem KV.val {kvs:List (κ×V)}{vs:List (κ×Value)}(r:KV kvs vs)(k:κ):RelO (d7 kvs k) (valueAt vs k):=by
 unfold KV at r
 induction r with
 | nil=>exact True.intro
 | @cons p q ps qs h t ih =>
  obtain⟨h1,h2⟩:=h
  by_cases e:p.1=k
  ·have e':q.1=k:=h1.symm.trans e
   have b:valueAt (q::qs) k=some q.2:=by simp[valueAt,List.find?_cons,e']
   rw[io e,b];exact h2
  ·have e':¬ q.1=k:=fun z=>e (h1.trans z)
   have b:valueAt (q::qs) k=valueAt qs k:=by simp[valueAt,List.find?_cons,e']
   rw[iV e,b];exact ih
theorem KV.any {kvs:List (κ×V)}{vs:List (κ×Value)}(r:KV kvs vs)(k:κ):(kvs.any fun kv=>decide (kv.1=k))=vs.any fun kv=>decide (kv.1=k):=by
 unfold KV at r
 induction r with
 | nil=>rfl
 | cons h t ih=>rw[List.any_cons,List.any_cons,ih,h.1]
theorem KV.repl {kvs:List (κ×V)}{vs:List (κ×Value)}(r:KV kvs vs)(k:κ){y:V}{u:Value}(ry:RelV y u) :
  KV (kvs.map fun kv=>if kv.1=k then (kv.1,y) else kv) (vs.map fun kv=>if kv.1=k then (kv.1,u) else kv):=by
 unfold KV at r ⊢
 induction r with
 | nil=>exact .nil
 | @cons p q ps qs h t ih =>
  rw[List.map_cons,List.map_cons]
  refine .cons ?_ ih
  obtain⟨h1,h2⟩:=h
  by_cases e:p.1=k
  ·rw[if_pos e,if_pos (h1.symm.trans e)];exact⟨h1,ry⟩
  ·rw[if_neg e,if_neg (fun z=>e (h1.trans z))];exact⟨h1,h2⟩
theorem KV.put {kvs:List (κ×V)}{vs:List (κ×Value)}(r:KV kvs vs)(k:κ){y:V}{u:Value}(ry:RelV y u):KV (fT kvs k y) (stored vs k u):=by
 unfold fT stored
 rw[r.any k]
 by_cases e:(vs.any fun kv=>decide (kv.1=k))=true
 ·rw[if_pos e,if_pos e];exact r.repl k ry
 ·rw[if_neg e,if_neg e];exact Paired.snoc r ⟨rfl,ry⟩
theorem KV.length {kvs:List (κ×V)}{vs:List (κ×Value)}(r:KV kvs vs):kvs.length=vs.length:=Paired.length r
end
theorem lR {P:Program}{w:World}{k:bC}{u:Value}(r:RelV (kV k) u):(ay P w).is k u=true:=by
 cases k with
 | inl i=>obtain⟨t,e⟩:=(show ∃t,u=Value.int i t from r);subst e;exact lE P w i t
 | inr x=>obtain⟨t,e⟩:=(show ∃t,u=Value.str x t from r);subst e;exact gx P w x t
theorem d6 {P:Program}{w:World}:∀{ks:List bC} {us:List Value},Vals (ks.map kV) us->ItemsAre (ay P w) ks us
 | [],_,r=>by rw[List.map_nil]at r;cases r;exact .nil
 | k::ks,_,r=>by
  rw[List.map_cons]at r
  cases r with
  | cons h t=>exact .cons (lR h) (d6 t)
abbrev KT (H:Hp):List (List bC×V)->List (List bC×Addr×Value)->Prop:=Paired fun p q=>p.1=q.1/\H q.2.1=some (.tup (p.1.map kV))/\RelV p.2 q.2.2
theorem KT.val {H:Hp}{kvs:List (List bC×V)}{xs:List (List bC×Addr×Value)}(r:KT H kvs xs)(k:List bC):RelO (d7 kvs k) ((atKey xs k).map (·.2)):=by
 induction r with
 | nil=>exact True.intro
 | @cons p q ps qs h t ih =>
  obtain⟨h1,_,h2⟩:=h
  by_cases e:p.1=k
  ·have e':q.1=k:=h1.symm.trans e
   have b:atKey (q::qs) k=some q.2:=by simp[atKey,List.find?_cons,e']
   rw[io e,b];exact h2
  ·have e':¬ q.1=k:=fun z=>e (h1.trans z)
   have b:atKey (q::qs) k=atKey qs k:=by simp[atKey,List.find?_cons,e']
   rw[iV e,b];exact ih
theorem KT.repl {H:Hp}{kvs:List (List bC×V)}{xs:List (List bC×Addr×Value)}(r:KT H kvs xs)(k:List bC){y:V}{u:Value}(ry:RelV y u) :
  KT H (kvs.map fun kv=>if kv.1=k then (kv.1,y) else kv) (xs.map (putAt k u)):=by
 induction r with
 | nil=>exact .nil
 | @cons p q ps qs h t ih =>
  rw[List.map_cons,List.map_cons]
  refine .cons ?_ ih
  obtain⟨h1,h2,h3⟩:=h
  unfold putAt
  by_cases e:p.1=k
  ·rw[if_pos e,if_pos (h1.symm.trans e)];exact⟨h1,h2,ry⟩
  ·rw[if_neg e,if_neg (fun z=>e (h1.trans z))];exact⟨h1,h2,h3⟩
theorem KT.put {H:Hp}{kvs:List (List bC×V)}{xs:List (List bC×Addr×Value)}(r:KT H kvs xs)(k:List bC){b:Addr}{y:V}{u:Value}(hb:H b=some (.tup (k.map kV)))(ry:RelV y u) :
  KT H (fT kvs k y) (storedH xs k b u):=by
 have e:(kvs.any fun kv=>decide (kv.1=k))=(atKey xs k).isSome:=by
  rw[lu,(r.val k).isSome_eq,Option.isSome_map]
 unfold fT storedH
 rw[e]
 by_cases q:(atKey xs k).isSome=true
 ·rw[if_pos q,if_pos q];exact r.repl k ry
 ·rw[if_neg q,if_neg q];exact Paired.snoc r ⟨rfl,hb,ry⟩
theorem KT.keeps {H H':Hp}{kvs:List (List bC×V)}{xs:List (List bC×Addr×Value)}(r:KT H kvs xs)(ht:∀b ys,H b=some (.tup ys)->H' b=some (.tup ys)):KT H' kvs xs :=
 Paired.mapP r fun _ _ z=>⟨z.1,ht _ _ z.2.1,z.2.2⟩
section
variable {P:Program}{w:World}{H:Hp}{h:Heap}{a:Addr}
theorem wf {u:HO}(ok:HOk P w H h)(e:Rd H a u):ObjOk P w H h a u:=e.ok ok
theorem lS {kvs:List (bC×V)}(ok:HOk P w H h)(e:Rd H a (.dK kvs)):kvs.length≤sizeLine/\(a == sysModules)=false/\∃vs,KV kvs vs/\h.DictOf (ay P w) a vs :=
 show ObjOk P w H h a (.dK kvs) from wf ok e
theorem oh {kvs:List (bC×V)}(ok:HOk P w H h)(e:H a=some (.dK kvs)):kvs.length≤sizeLine/\(a == sysModules)=false/\∃vs,KV kvs vs/\h.DictOf (ay P w) a vs:=lS ok (.inl e)
theorem iI {ks:List bC}(ok:HOk P w H h)(e:H a=some (.tup (ks.map kV))):(tupleKind (ay P w)).is h ks a:=by
 obtain⟨_,its,r,o,h1,h2,n,h3⟩:=(show ObjOk P w H h a (.tup (ks.map kV)) from ok a _ e)
 exact⟨o,its.toArray,n,h1,h2,h3,by simpa using d6 r⟩
theorem n0 {kvs:List (List bC×V)}(ok:HOk P w H h)(e:Rd H a (.dT kvs)):kvs.length≤sizeLine/\(a == sysModules)=false /\
  ∃xs,KT H kvs xs/\h.DictOfH (tupleKind (ay P w)) a xs:=by
 obtain⟨z,y,xs,r,o,es,ep,h1,h2,h3,h4,h5⟩:=(show ObjOk P w H h a (.dT kvs) from wf ok e)
 refine⟨z,y,xs,r,o,es,ep,h1,h2,h3,h4,fun x hx=>?_,h5⟩
 have all:∀{l:List (List bC×V)} {m:List (List bC×Addr×Value)},KT H l m->∀x∈m,(tupleKind (ay P w)).is h x.1 x.2.1:=by
  intro l m q
  induction q with
  | nil=>intro x hx;exact nomatch hx
  | @cons p q ps qs hq t ih =>
   intro x hx
   rcases List.mem_cons.mp hx with e | hx
   ·subst e
    exact iI ok (by rw[<-hq.1];exact hq.2.1)
   ·exact ih x hx
 exact all r x hx
theorem Bj {kvs:List (List bC×V)}(ok:HOk P w H h)(e:H a=some (.dT kvs)):kvs.length≤sizeLine/\(a == sysModules)=false /\
  ∃xs,KT H kvs xs/\h.DictOfH (tupleKind (ay P w)) a xs:=n0 ok (.inl e)
end
def DGet (H:Hp)(a:Addr)(y:V)(r:Option V):Prop :=
 (∃kvs k,Rd H a (.dK kvs)/\y=kV k/\r=d7 kvs k)\/∃kvs k b,Rd H a (.dT kvs)/\y=.ref b/\H b=some (.tup (k.map kV))/\r=d7 kvs k
def DPut (H:Hp)(a:Addr)(y v:V)(H':Hp):Prop :=
 (∃kvs k,H a=some (.dK kvs)/\y=kV k/\kvs.length<sizeLine/\H'=al H a (.dK (fT kvs k v))) \/
 ∃kvs k b,H a=some (.dT kvs)/\y=.ref b/\H b=some (.tup (k.map kV))/\kvs.length<sizeLine/\H'=al H a (.dT (fT kvs k v))
theorem DGet.k {H:Hp}{a:Addr}{kvs:List (bC×V)}{k:bC}(e:H a=some (.dK kvs)):DGet H a (kV k) (d7 kvs k):=.inl ⟨kvs,k,.inl e,rfl,rfl⟩
theorem DPut.k {H:Hp}{a:Addr}{kvs:List (bC×V)}{k:bC}{v:V}(e:H a=some (.dK kvs))(hl:kvs.length<sizeLine):DPut H a (kV k) v (al H a (.dK (fT kvs k v))):=.inl ⟨kvs,k,e,rfl,hl,rfl⟩
section
variable {X:Cx}{pins:List (Addr×Obj)}{σ:St}{H:Hp}{s:Shared}{a:Addr}{y v:V}{u r:Value}{o:Option V}{A:Around}{E:Value->Shared->Prop}
theorem Inv.big (I:Inv X pins σ H s):sysModules<s.heap.objs.size:=by
 have h:mainGlobals<s.heap.objs.size:=(I.mod.glob.keeps I.bk).lt
 exact Nat.lt_trans (by decide) h
theorem pL {Q:Value->Shared->Prop}(hu:A.units+1<cLine)(I:Inv X pins σ H s)(g:DGet H a y (some v))(ry:RelV y u)(h:∀w' s',Inv X pins σ H s'->RelV v w'->Q w' s') :
  wpAny (model X.prog X.w) A (getItem (.ref a) u) Q E s:=by
 rcases g with⟨kvs,k,e,ey,l⟩ | ⟨kvs,k,b,e,ey,eb,l⟩
 ·subst ey
  obtain⟨z,hd,vs,rel,dd⟩:=lS I.hok e
  obtain⟨w',hw,rw'⟩:=RelO.some_of (v:=v) (o:=valueAt vs k) (by rw[l];exact rel.val k)
  exact wpAny_getItem_of (lR ry) dd.mapOf hw (h w' _ (I.tok _) rw')
 ·subst ey
  cases (show u=Value.ref b from ry)
  obtain⟨z,hd,xs,rel,dd⟩:=n0 I.hok e
  obtain⟨w',hw,rw'⟩:=RelO.some_of (v:=v) (o:=(atKey xs k).map (·.2)) (by rw[l];exact rel.val k)
  obtain⟨p,hp,hp2⟩:=Option.map_eq_some_iff.mp hw
  refine wpAny_getItem_heap (tupleKind_room_in1 hu) (iI I.hok eb) dd hp ?_
  rw[hp2]
  exact h w' _ (I.tok _) rw'
theorem BB {Q:Value->Shared->Prop}(hu:A.units+1<cLine)(I:Inv X pins σ H s)(g:DGet H a y o)(ry:RelV y u)(h:∀s',Inv X pins σ H s'->Q (.bool o.isSome) s') :
  wpAny (model X.prog X.w) A (compareOp .In u (.ref a)) Q E s:=by
 rcases g with⟨kvs,k,e,ey,l⟩ | ⟨kvs,k,b,e,ey,eb,l⟩
 ·subst ey
  obtain⟨z,hd,vs,rel,dd⟩:=lS I.hok e
  refine wpAny_in_of (lR ry) hd dd.mapOf ?_
  rw[<-(rel.val k).isSome_eq,<-l]
  exact h _ (I.tok _)
 ·subst ey
  cases (show u=Value.ref b from ry)
  obtain⟨z,hd,xs,rel,dd⟩:=n0 I.hok e
  refine wpAny_in_heap (tupleKind_room_in1 hu) (iI I.hok eb) hd dd ?_
  have q:=(rel.val k).isSome_eq
  rw[Option.isSome_map]at q
  rw[<-q,<-l]
  exact h _ (I.tok _)
theorem vj {Q:Value->Shared->Prop}(hu:A.units+1<cLine)(I:Inv X pins σ H s)(g:DGet H a y o)(ry:RelV y u)(h:∀s',Inv X pins σ H s'->Q (.bool (!o.isSome)) s') :
  wpAny (model X.prog X.w) A (compareOp .NotIn u (.ref a)) Q E s:=by
 rcases g with⟨kvs,k,e,ey,l⟩ | ⟨kvs,k,b,e,ey,eb,l⟩
 ·subst ey
  obtain⟨z,hd,vs,rel,dd⟩:=lS I.hok e
  refine wpAny_notIn_of (lR ry) hd dd.mapOf ?_
  rw[<-(rel.val k).isSome_eq,<-l]
  exact h _ (I.tok _)
 ·subst ey
  cases (show u=Value.ref b from ry)
  obtain⟨z,hd,xs,rel,dd⟩:=n0 I.hok e
  refine wpAny_notIn_heap (tupleKind_room_in1 hu) (iI I.hok eb) hd dd ?_
  have q:=(rel.val k).isSome_eq
  rw[Option.isSome_map]at q
  rw[<-q,<-l]
  exact h _ (I.tok _)
theorem fk {h':Heap}{t':Nat}{ob:HO}(I:Inv X pins σ H s)(mu:Bc (H a))(hs:Heap.SameBut a s.heap h')(he:∃q,h'.get? a=some q)(new:ObjOk X.prog X.w (al H a ob) h' a ob) :
  Inv X pins σ (al H a ob) { s with heap:=h',toks:=t' } :=
 I.write (x:=a) (e:=a) mu (.inl rfl) (fun b q hb z=>(hs.2 b hb).trans z) he new
theorem yI {P:Program}{w:World}{H':Hp}{h':Heap}{kvs:List (bC×V)}{vs:List (bC×Value)}(z:kvs.length≤sizeLine)(hd:(a == sysModules)=false)(rel:KV kvs vs)(dd:h'.DictOf (ay P w) a vs) :
  ObjOk P w H' h' a (.dK kvs):=⟨z,hd,vs,rel,dd⟩
theorem o5 {H':Hp}{Q:Unit->Shared->Prop}(hu:A.units+1<cLine)(I:Inv X pins σ H s)(g:DPut H a y v H')(ry:RelV y u)(rv:RelV v r)(h:∀s',Inv X pins σ H' s'->Q () s') :
  wpAny (model X.prog X.w) A (setItem (.ref a) u r) Q E s:=by
 rcases g with⟨kvs,k,e,ey,l,eH⟩ | ⟨kvs,k,b,e,ey,eb,l,eH⟩
 ·subst ey eH
  obtain⟨z,hd,vs,rel,dd⟩:=oh I.hok e
  have hz:vs.length≤sizeLine:=by rw[<-rel.length];exact z
  have hl:(fT kvs k v).length≤sizeLine:=by have:=gq kvs k v;omega
  refine wpAny_setItem_pairs (hsz:=hz) (lR ry) dd fun h' dd' hs=>h _ ?_
  have he:∃q,h'.get? a=some q:=let ⟨q,_,_,hq,_⟩:=dd';⟨q,hq⟩
  exact fk I (by rw[e];exact True.intro) hs he (yI hl hd (rel.put k rv) dd')
 ·subst ey eH
  cases (show u=Value.ref b from ry)
  obtain⟨z,hd,xs,rel,dd⟩:=Bj I.hok e
  have hz:xs.length≤sizeLine:=by rw[<-Paired.length rel];exact z
  have hl:(fT kvs k v).length≤sizeLine:=by have:=gq kvs k v;omega
  refine wpAny_setItem_heap (hsz:=hz) (tupleKind_room_in1 hu) (iI I.hok eb) dd fun h' dd' hs=>h _ ?_
  obtain⟨q,es,ep,hq,h2,h3,h4,_,h5⟩:=dd'
  refine fk I (by rw[e];exact True.intro) hs ⟨q,hq⟩ ⟨hl,hd,_,(rel.put k eb rv).keeps fun c ys ec=>?_,q,es,ep,hq,h2,h3,h4,h5⟩
  rw[am (zS ec e (fun z=>nomatch z))]
  exact ec
end
section
variable {X:Cx}{pins:List (Addr×Obj)}{σ:St}{H:Hp}{s:Shared}{a:Addr}{kvs:List (bC×V)}{k:bC}{u:Value}{A:Around}{E:Value->Shared->Prop}
theorem AM {Q:Value->Shared->Prop}(I:Inv X pins σ H s)(e:Rd H a (.dK kvs))(h:∀t s',Inv X pins σ H s'->Q (.int kvs.length t) s'):wpAny (model X.prog X.w) A (call (.builtin "len") [.ref a]) Q E s:=by
 obtain⟨z,hd,vs,rel,dd⟩:=lS I.hok e
 refine call_len_dict hd dd (by rw[<-rel.length];rw[sizeLine_eq]at z;omega) ?_
 rw[<-rel.length]
 exact h _ _ (I.tok _)
end
section
variable {X:Cx}{o i e value:Expr}{pos pos' tpos:Pos}{td ty tv:TE}
end
theorem ri {P:Program}{w:World}{H:Hp}(h:Heap)(hb:sysModules<h.objs.size):ObjOk P w H (h.push { cls:=.type "dict",data:=.dict #[] }) h.objs.size (.dK []) :=
 ⟨Nat.zero_le _,beq_eq_false_iff_ne.mpr (Ne.symm (Nat.ne_of_lt hb)),[],.nil,Heap.DictOf.new h⟩
def qJ:TE:=fun _ H Q=>∀p,H p=none->Q (.ref p) (al H p (.dK []))
section
variable {X:Cx}{pos:Pos}
theorem rn:PE X (.Dict [] [] pos) qJ:=fun pins s σ H Q I h =>
 wpAny_Dict_empty ⟨.ref s.heap.objs.size,_,I.laid (a:=s.heap.objs.size) (o:=.dK []) (t':=s.toks) (fun _ _ q=>Heap.get?_push_of_some _ q) (Nat.le_refl _) (ri s.heap I.big),rfl,h _ (I.hok.fresh (Nat.le_refl _))⟩
end
structure M1 (X:Cx)(o:Expr)(m:Str)(apos:Pos)(e:Expr)(cpos:Pos):Prop where
 base:attributeBase o m X.env (eval o X.env)=eval o X.env
 few:((backTo cpos (starEach [e] X.env)).all (fun x=>!x.1)&&(backToKw cpos (keywordEach [] X.env)).all (fun x=>x.1.isSome)
  && decide (([e]:List Expr).length+([]:List Keyword).length+(if ([]:List Keyword).isEmpty then 0 else 1)<30))=true
 line:(apos.endLine == cpos.line)=true
 trees:backTo cpos (starEach [e] X.env)=[(false,eval e X.env)]
structure M2 (X:Cx)(o:Expr)(m:Str)(apos:Pos)(e f:Expr)(cpos:Pos):Prop where
 base:attributeBase o m X.env (eval o X.env)=eval o X.env
 few:((backTo cpos (starEach [e,f] X.env)).all (fun x=>!x.1)&&(backToKw cpos (keywordEach [] X.env)).all (fun x=>x.1.isSome)
  && decide (([e,f]:List Expr).length+([]:List Keyword).length+(if ([]:List Keyword).isEmpty then 0 else 1)<30))=true
 line:(apos.endLine == cpos.line)=true
 trees:backTo cpos (starEach [e,f] X.env)=[(false,eval e X.env),(false,eval f X.env)]
def IsD (H:Hp)(a:Addr):Prop:=(∃kvs,Rd H a (.dK kvs))\/∃kvs,Rd H a (.dT kvs)
section
variable {X:Cx}{pins:List (Addr×Obj)}{σ:St}{H:Hp}{s:Shared}{a:Addr}{y d:V}{u r:Value}{o:Option V}{A:Around}{E:Value->Shared->Prop}
end
section
variable {X:Cx}{o e f:Expr}{apos cpos:Pos}{td ty tx:TE}
end
section
variable {X:Cx}{pins:List (Addr×Obj)}{σ:St}{H:Hp}{s:Shared}{a:Addr}{kvs:List (bC×V)}{A:Around}{E:Value->Shared->Prop}
end
section
variable {X:Cx}{pins:List (Addr×Obj)}{σ:St}{H:Hp}{s:Shared}{a:Addr}{y:V}{u:Value}{A:Around}{E:Value->Shared->Prop}
end
end L2
namespace Att
open PySem PySem.W PySem.Calls PyProof.Rows
theorem gK {P:Params}{h:Heap}:∀(ns:List Int) (vs:List Value),WellAll P h vs (ns.map WData.int)->IntsAre vs ns:=by
 intro ns
 induction ns with
 | nil =>
  intro vs w
  rw[List.map_nil]at w
  cases w
  exact .nil
 | cons n ns ih =>
  intro vs w
  rw[List.map_cons]at w
  cases w with
  | cons a b =>
   cases a
   exact .cons _ _ (ih _ b)
theorem oY {l:OpenLaw}{n:Nat}(hn:l.most=some n){P:Params}{h:Heap}{args:List WData}{vals:List Value}
  (hpre:l.row.toRowW.claim.pre args=true) (hwl:WellAll P h vals args) :
  ∃a vs ns,vals=[Value.ref a]/\args=[WData.list (ns.map WData.int)]/\h.get? a=some { cls:=.type "list",data:=.seq vs.toArray }/\IntsAre vs ns/\ns.length≤n:=by
 have hsh:WShape.hasAll [] args [.list .int]=true:=(pre_splitW hpre).1
 have hc:l.pre.holds [] { args:=args }=true:=(pre_splitW hpre).2
 obtain⟨d,r,rfl,h1,h2⟩:=hasAllW_cons hsh
 obtain rfl:=hasAllW_nil h2
 obtain⟨xs,rfl,h3⟩:=hasW_list h1
 obtain⟨ns,rfl⟩:=items_int h3
 have hlen:ns.length≤n:=by
  unfold OpenLaw.pre at hc
  have h4:(WTm.not (.lt (.lit (.int (n:Int))) (.len (.arg 0)))).holds [] { args:=[.list (ns.map .int)] }=true:=by
   have h4:=(holds_andW hc).1
   rw[hn]at h4
   exact h4
  have h5:=condW_of h4 (w_not (w_lt w_lit (w_len_list (w_arg rfl))))
  rw[List.length_map]at h5
  refine Nat.le_of_not_lt fun q=>?_
  have q':(n:Int)<((ns.length:Nat):Int):=by omega
  first
   | (rw[decide_eq_true q']at h5;exact absurd h5 (by decide))
   | (simp at h5;omega)
 cases hwl with
 | cons w1 w2 =>
  cases w2
  cases w1 with
  | list ho hall=>exact⟨_,_,ns,rfl,rfl,ho,gK ns _ hall,hlen⟩
theorem oZ (l:OpenLaw)(args:List WData):l.row.toRowW.claim.post args (.bool true) args=true :=
 postW_of (r:=l.row.toRowW) (X:=(true == true))
  (show WShape.has [] (.bool true) .bool=true by first | rfl | decide | simp[WShape.has,WShape.arms,WShape.armsAll])
  (show (WTm.eq .res (.lit (.bool true))).value [] { args:=args,res:=some (.bool true),after:=args }=some (.bool (true == true)) from w_eq_bool (w_res rfl) w_lit) rfl
theorem attach_call {l:OpenLaw}{n:Nat}{q:Program}{loose:List Str}{XP:(Str->Option Value)->Heap->Prop}{YP:World->Heap->Prop}{d:DefRec}
  (hn:l.most=some n) (hdf:d.params.defaults=[])
  (call:∀(w:World) (s₀ s₁:Shared) (mg mb:Str->Option Value) (fa:Addr) (o:Obj) (pm cd doc:Value) (a:Addr) (vs:List Value) (ns:List Int),
   Ground q loose [] XP w s₀ mg mb s₁.heap->YP w s₁.heap ->
   s₁.heap.get? fa=some o->o.data=.func (docDef d.name d.params d.body d.scope pm cd doc)->s₁.heap.CodeRec cd d.name->mg d.name=some (.ref fa) ->
   s₁.heap.get? a=some { cls:=.type "list",data:=.seq vs.toArray }->IntsAre vs ns->ns.length≤n->s₁.gens=#[] ->
   codeAny (model l.prog w) callerA (.call (.ref fa) ⟨[.ref a],[]⟩) (fun r s'=>r=.ok (.ret (.bool true))/\OldK s₁.heap s'.heap/\s'.os=s₁.os/\AllBare s'.gens) s₁) :
  WalkO q loose XP YP l.row.toRowW d [] (fun f vs=>PySem.call f vs):=by
 intro w s₀ s₁ mg mb G Y fa o pm cd doc dV kV ho hd hcd hD hmg hg args vals as hpre hlay hrd hwl hlo
 obtain rfl:dV=.none:=Dflts.none hD hdf
 obtain rfl:kV=.none:=Dflts.noKw hD
 obtain⟨a,vs,ns,rfl,rfl,hobj,hints,hlen⟩:=oY hn hpre hwl
 refine enter_call (codeAny_mono (call w s₀ s₁ mg mb fa o pm cd doc a vs ns G Y ho (fd_plain hd) hcd hmg hobj hints hlen hg) fun r s' hq=>?_)
 obtain⟨rfl,h2,h3,h4⟩:=hq
 exact⟨.inl ⟨.bool true,.bool true,[],rfl,fun _=>rfl,.bool true,oZ l _,fun _=>⟨List.Pairwise.nil,fun _ hm=>(nomatch hm)⟩⟩,h2,h3,h4⟩
section
variable {prog:Program}{w:World}{A:Around}{E:Value->Shared->Prop}{s:Shared}{K:Frag}
end
end Att
namespace L2
open PySem PySem.Spec PyProof.Rows
theorem jf:∀{vs:List Value} {ns:List Int},IntsAre vs ns->Vals (ns.map V.int) vs
 | _,_,.nil=>.nil
 | _,_,.cons n t h=>.cons ⟨t,rfl⟩ (jf h)
def vW (H:Hp):Prop:=∀b,H b=none\/∃o xs,H b=some (.frz o (.lst xs))
theorem qY {P:Program}{w:World}{K:PySem.W.Frag}{mg mb:Str->Option Value}{CX:nr}{k:Nat}{fa a:Addr}{fd:FuncData}{x:Str}{sp:Sp}{s₁:Shared}{vs:List Value}{ns:List Int}
  (KX:K.In s₁.heap) (hns:s₁.heap.Ns mainGlobals mg) (hb:s₁.heap.Ns builtinsNs mb) (hbb:∀x:Str,x≠"__name__"->mb x=bootBuiltins x) (hlim:s₁.heap.NoLimit) (hg:s₁.gens=#[])
  (ha:s₁.heap.get? a=some { cls:=.type "list",data:=.seq vs.toArray }) (hi:IntsAre vs ns) (hl:ns.length≤sizeLine) (hr:Room k callerA)
  (F:∀base:Heap,K.In base->base.Ns mainGlobals mg->FnOk P w K mg base CX k fa fd [x] sp) (hbind:∀(s:Shared) (u:Value),BindsTo s fd ⟨[u],[]⟩ [(x,u)])
  (hsp:∀H:Hp,vW H->SqL K H a (ns.map V.int)->sp [.ref a] H (fun v _=>v=.bl true) fun _ _ _=>False)
  (hCX:∀H e s',CX [] H s₁ (fun _ _ _=>False) e s'->False) :
  codeAny (model P w) callerA (.call (.ref fa) ⟨[.ref a],[]⟩) (fun r s'=>r=.ok (.ret (.bool true))/\OldK s₁.heap s'.heap/\s'.os=s₁.os/\AllBare s'.gens) s₁:=by
 have rv:=jf hi
 have lenV:=hi.length
 have core:∀H:Hp,vW H->SqL K H a (ns.map V.int)->HOk P w H s₁.heap->(∀b,H b≠none->b=a)->(H a≠none->K.lookup a=none) ->
   codeAny (model P w) callerA (.call (.ref fa) ⟨[.ref a],[]⟩) (fun r s'=>r=.ok (.ret (.bool true))/\OldK s₁.heap s'.heap/\s'.os=s₁.os/\AllBare s'.gens) s₁:=by
  intro H hO hS hok hA hK
  have fu:∀{b:Addr} {o:Obj},s₁.heap.get? b=some o->H b=none->(jS s₁.heap H).get? b=some o:=fun e n=>su e n
  have noA:∀{b:Addr} {o:Obj} {es:Array DictEntry} {ep:Nat},s₁.heap.get? b=some o->o.data=.dict es ep->H b=none:=fun {b o es ep} e d=>by
   cases q:H b with
   | none=>rfl
   | some u =>
    have e':b=a:=hA b (by rw[q];simp)
    subst e'
    rw[ha]at e;cases e
    have d':Data.seq vs.toArray _=Data.dict es ep:=d
    cases d'
  have nsK:∀{b:Addr} {m:Str->Option Value},s₁.heap.Ns b m->(jS s₁.heap H).Ns b m:=fun {b m} ⟨o,es,ep,e,d,r⟩=>⟨o,es,ep,fu e (noA e d),d,r⟩
  have hKb:K.In (jS s₁.heap H):=fun b o e=>fu (KX b o e) (by
   cases q:H b with
   | none=>rfl
   | some u =>
    have e':b=a:=hA b (by rw[q];simp)
    subst e'
    rw[hK (by rw[q];simp)]at e;cases e)
  have hM:Mod K mg (jS s₁.heap H):=⟨hKb,nsK hns,⟨mb,nsK hb,hbb⟩,let ⟨mc,h1,h2⟩:=hlim;⟨mc,nsK h1,h2⟩⟩
  have e0:sj P w K mg (jS s₁.heap H) callerA [] s₁ H:=⟨rfl,hM,fun b o e=>uk e,Nat.le_of_eq (pQ _ _),trivial,fun b hb=>absurd (show b∈([]:List Addr) from hb) (by simp),hok,.of_eq hg⟩
  refine codeAny_mono ((F _ hKb (nsK hns)).run callerA [] s₁ H ⟨[.ref a],[]⟩ [.ref a] [.ref a] _ _ hr e0 (hbind s₁ (.ref a)) (.cons rfl .nil) (hsp H hO hS)) fun r s' h=>?_
  cases r with
  | error e=>exact (hCX H e s' h).elim
  | ok fl =>
   cases fl with
   | next=>exact False.elim h
   | brk=>exact False.elim h
   | cont=>exact False.elim h
   | ret u =>
    obtain⟨v,H',os,bare,un,hok',r',q⟩:=h
    have q':v=.bl true:=q
    subst q'
    obtain rfl:u=Value.bool true:=r'
    refine⟨rfl,OldK.of_keep fun b o e=>?_,os,bare⟩
    cases q:H b with
    | none=>exact un.keep b o e q (by intro z;exact absurd (show b∈([]:List Addr) from z) (by simp)) (by simp)
    | some u =>
     rcases hO b with z | ⟨ob,xs,z⟩
     ·rw[q]at z;cases z
     ·have z2:=un.frzs b ob _ z
      obtain⟨e1,_⟩:=hok b _ z
      obtain⟨e2,_⟩:=hok' b _ z2
      rw[e]at e1;cases e1
      exact e2
 cases hk:K.lookup a with
 | some o =>
  have e:=KX a o hk
  rw[ha]at e
  cases e
  refine core (fun _=>none) (fun _=>.inl rfl) (.inr ⟨_,vs.toArray,_,hk,rfl,rfl,rfl,by rw[List.size_toArray,lenV];exact hl,by simpa using rv⟩) (fun b u z=>by have z':(none:Option HO)=some u:=z;cases z') (fun b z=>absurd rfl z) fun z=>absurd rfl z
 | none =>
  refine core (fun b=>if b=a then some (.frz { cls:=.type "list",data:=.seq vs.toArray } (.lst (ns.map V.int))) else none) (fun b=>?_) (.inl (.inr ⟨{ cls:=.type "list",data:=.seq vs.toArray },if_pos rfl⟩)) (fun b u z=>?_) (fun b z=>?_) fun _=>hk
  ·by_cases hb:b=a
   ·exact .inr ⟨_,_,if_pos hb⟩
   ·exact .inl (if_neg hb)
  ·by_cases hb:b=a
   ·have z':=(if_pos hb).symm.trans z
    cases z'
    subst hb
    exact⟨ha,by rw[List.length_map];exact hl,vs,_,rv,ha⟩
   ·have z':=(if_neg hb).symm.trans z
    cases z'
  ·by_cases hb:b=a
   ·exact hb
   ·exact absurd (if_neg hb) z
end L2
namespace L2
open PySem PySem.Spec PyProof.Rows
abbrev KOf {K:PySem.W.Frag}{h:Heap}(_:K.In h):PySem.W.Frag:=K
theorem vO {l:PySem.W.OpenLaw}{n k:Nat}{q:Program}{loose:List Str}{XP:(Str->Option Value)->Heap->Prop}{YP:World->Heap->Prop}{d:DefRec}{K:Params->PySem.W.Frag}{CX:World->nr}{sp:World->Sp}{x:Str}
  (hn:l.most=some n) (hn2:n≤sizeLine) (hdf:d.params.defaults=[]) (hr:Room k callerA)
  (hY:∀(w:World) (h:Heap),YP w h->(K w.params).In h)
  (F:∀(w:World) (mg:Str->Option Value) (fa:Addr) (h:Heap),(K w.params).In h->h.Ns mainGlobals mg->mg d.name=some (.ref fa) ->
   ∃fd:FuncData,(∀(s:Shared) (u:Value),BindsTo s fd ⟨[u],[]⟩ [(x,u)]) /\
    ∀base:Heap,(K w.params).In base->base.Ns mainGlobals mg->FnOk l.prog w (K w.params) mg base (CX w) k fa fd [x] (sp w))
  (hsp:∀(w:World) (H:Hp) (a:Addr) (ns:List Int),ns.length≤n->vW H->SqL (K w.params) H a (ns.map V.int)->sp w [.ref a] H (fun v _=>v=.bl true) fun _ _ _=>False)
  (hCX:∀(w:World) (H:Hp) (s:Shared) (e:Value) (s':Shared),CX w [] H s (fun _ _ _=>False) e s'->False) :
  PySem.W.WalkO q loose XP YP l.row.toRowW d [] (fun f vs=>PySem.call f vs):=by
 refine Att.attach_call hn hdf fun w s₀ s₁ mg mb fa o pm cd doc a vs ns G Y ho hd hcd hmg hobj hints hlen hg=>?_
 have KX:=hY w _ Y
 obtain⟨fd,hb,hF⟩:=F w mg fa _ KX G.T.g hmg
 exact qY KX G.T.g G.T.b G.T.builtins G.T.nolimit hg hobj hints (Nat.le_trans hlen hn2) hr hF hb (fun H hO hS=>hsp w H a ns hlen hO hS) fun H e s'=>hCX w H s₁ e s'
theorem walk_ofK {l:PySem.W.OpenLaw}{n k:Nat}{q:Program}{loose:List Str}{XP:(Str->Option Value)->Heap->Prop}{YP:World->Heap->Prop}{d:DefRec}{K:Params->PySem.W.Frag}{CX:nr}{sp:PySem.W.Frag->Sp}{x:Str}
  (hn:l.most=some n) (hn2:n≤sizeLine) (hdf:d.params.defaults=[]) (hr:Room k callerA)
  (hY:∀(w:World) (h:Heap),YP w h->(K w.params).In h)
  (F:∀(w:World) (mg:Str->Option Value) (fa:Addr) (h:Heap),(K w.params).In h->h.Ns mainGlobals mg->mg d.name=some (.ref fa) ->
   ∃fd:FuncData,(∀(s:Shared) (u:Value),BindsTo s fd ⟨[u],[]⟩ [(x,u)]) /\
    ∀base:Heap,(K w.params).In base->base.Ns mainGlobals mg->FnOk l.prog w (K w.params) mg base CX k fa fd [x] (sp (K w.params)))
  (hsp:∀(K:PySem.W.Frag) (H:Hp) (a:Addr) (ns:List Int),ns.length≤n->vW H->SqL K H a (ns.map V.int)->sp K [.ref a] H (fun v _=>v=.bl true) fun _ _ _=>False)
  (hCX:∀(H:Hp) (s:Shared) (e:Value) (s':Shared),CX [] H s (fun _ _ _=>False) e s'->False) :
  PySem.W.WalkO q loose XP YP l.row.toRowW d [] (fun f vs=>PySem.call f vs) :=
 vO (K:=K) (CX:=fun _=>CX) (sp:=fun w=>sp (K w.params)) hn hn2 hdf hr hY F (fun w H a ns h1 h2 h3=>hsp (K w.params) H a ns h1 h2 h3) fun _ H s e s'=>hCX H s e s'
end L2
namespace L2
open PySem PySem.Spec PyProof.Rows
def cu (s:Stmt):Arguments:=match s with
 | .FunctionDef _ a _ _ _ _ _ _ _ _=>a
 | _=>{ posonlyargs:=[],args:=[],vararg:=none,kwonlyargs:=[],kw_defaults:=[],kwarg:=none,defaults:=[] }
def bp (s:Stmt):List Stmt:=match s with
 | .FunctionDef _ _ b _ _ _ _ _ _ _=>b
 | _=>[]
def ak (s:Stmt):Scope:=match s with
 | .FunctionDef _ _ _ _ _ _ sc _ _ _=>sc
 | _=>{ kind:=.function,names:=[],isGenerator:=false,isCoroutine:=false }
abbrev CX0:nr:=fun _ _ _ _ _ _=>False
abbrev E0:XK:=fun _ _ _=>False
theorem Ao {X:Cx}:dc CX0 X E0:=fun _ _ _ _ _ _ _ h=>h.elim
structure Fun (K:PySem.W.Frag)(x qual:Str)(st:Stmt)(f:Addr)(fd:FuncData):Prop where
 ex:∃(oc:Value) (od:Option Addr) (kV doc pm:Value) (an:Option Addr) (cdv ct:Value) (osl:Array (Option Value)),
  fd=PySem.W.fnOf x qual (cu st) (bp st) (ak st) .none kV doc pm an cdv ct/\K.lookup f=some ⟨oc,od,.func fd,osl⟩/\PySem.W.codeIn K cdv qual=true
 kp:PySem.W.keepIn K (.ref f)=true
section
variable {P:Program}{w:World}{K:PySem.W.Frag}{mg:Str->Option Value}{base:Heap}
theorem Fun.ok {x qual:Str}{st:Stmt}{f:Addr}{fd:FuncData}{N ps:List Str}{k:Nat}{sp:Sp}(F:Fun K x qual st f fd)(S:ax N ps (ak st))(len:∀vs H Q E,sp vs H Q E->vs.length=ps.length)
  (hbody:∀(cdv:Value) (A:Around) (outer:List Env) (s:Shared) (H:Hp) (vs:List V) (Q:VK) (E:XK),Room k (A.deeper (envOfC qual (ak st) s.heap.objs.size f cdv))->sp vs H Q E ->
   ∃t,PSs (bN CX0 P w K mg base N qual (ak st) f cdv A outer s H E).nox (bp st) t/\t { nx:=fun _ H'=>Q .non H',rt:=Q } (dB N vs) H):FnOk P w K mg base CX0 (k+1) f fd ps sp:=by
 obtain⟨oc,od,kV,doc,pm,an,cdv,ct,osl,rfl,lk,hcd⟩:=F.ex
 refine wj lk hcd S len fun A outer s H vs Q E hr hsp=>?_
 obtain⟨t,h,q⟩:=hbody cdv A outer s H vs Q E hr hsp
 exact⟨t,h.nox,q⟩
theorem Fun.binds {x qual:Str}{st:Stmt}{f:Addr}{fd:FuncData}{ps:List Str}(F:Fun K x qual st f fd)
  (h:∀(kV doc pm:Value) (an:Option Addr) (cdv ct:Value) (us:List Value),us.length=ps.length->bindArgs (PySem.W.fnOf x qual (cu st) (bp st) (ak st) .none kV doc pm an cdv ct) ⟨us,[]⟩=pure (ps.zip us)):Binds K fd ps []:=by
 obtain⟨oc,od,kV,doc,pm,an,cdv,ct,osl,rfl,lk,hcd⟩:=F.ex
 exact .all (h kV doc pm an cdv ct)
theorem yK {x qual:Str}{st:Stmt}{f:Addr}{oc:Value}{od an:Option Addr}{osl:Array (Option Value)}{kV doc pm cdv ct:Value}(l:K.lookup f=some ⟨oc,od,.func (PySem.W.fnOf x qual (cu st) (bp st) (ak st) .none kV doc pm an cdv ct),osl⟩)
  (c:PySem.W.codeIn K cdv qual=true) (k:PySem.W.keepIn K (.ref f)=true):Fun K x qual st f (PySem.W.fnOf x qual (cu st) (bp st) (ak st) .none kV doc pm an cdv ct):=⟨⟨oc,od,kV,doc,pm,an,cdv,ct,osl,rfl,l,c⟩,k⟩
end
section
variable {X:Cx}
theorem pv (i:Nat){x:Str}{pos:Pos}(hN:X.N[i]?=some x:=by rfl)(hv:zI X.env.scope x:=by first | exact Or.inl rfl | exact Or.inr (Or.inl rfl) | exact Or.inr (Or.inr rfl))(hd:(x == ("__debug__":Str))=false:=by decide)
  (hcd:(x == ("__classdict__":Str))=false:=by decide):PE X (.Name x pos) (za i):=qx hN hv hd hcd
theorem oW:ba X (.builtin "len") (fun xs H Q=>∃a kvs,xs=[V.ref a]/\H a=some (.dK kvs)/\Q (.int kvs.length) H):=by
 intro pins s σ H xs us Q I r h
 obtain⟨a,kvs,rfl,ha,q⟩:=h
 obtain⟨u,rfl,ru⟩:=bF r
 cases ru
 exact AM I (.inl ha) fun t s' I'=>⟨.int kvs.length,H,I',⟨t,rfl⟩,q⟩
end
theorem bc {c A B:Prop}[Decidable c](h1:c->A)(h2:¬ c->B):if c then A else B:=by
 by_cases h:c
 ·rw[if_pos h]
  exact h1 h
 ·rw[if_neg h]
  exact h2 h
def Same (H H':Hp):Prop:=∀b o,H b=some o->H' b=some o
theorem Same.refl (H:Hp):Same H H:=fun _ _ h=>h
theorem Same.trans {H H1 H2:Hp}(a:Same H H1)(b:Same H1 H2):Same H H2:=fun c o h=>b c o (a c o h)
theorem Same.free {H H':Hp}(e:Same H H'){l:Addr}(h:H' l=Option.none):H l=Option.none:=by
 cases q:H l with
 | none=>rfl
 | some o =>
  rw[e l o q]at h
  cases h
theorem Same.seq {K:PySem.W.Frag}{H H':Hp}{a:Addr}{xs:List V}(e:Same H H')(h:SqL K H a xs):SqL K H' a xs:=by
 rcases h with (h | ⟨o,h⟩) | h
 ·exact .inl (.inl (e _ _ h))
 ·exact .inl (.inr ⟨o,e _ _ h⟩)
 ·exact .inr h
section
variable {κ:Type}[DecidableEq κ]
end
end L2
set_option maxHeartbeats 4000000
namespace L2
open PySem PySem.Spec PyProof.Rows
def aX (env:Env):List (Str×NameKind)->List (Str×Addr)->List (Str×Addr)
 | [],acc=>acc
 | (n,k)::r,acc=>if k == .free then (match env.cells.lookup n with
   | some c=>aX env r ((n,c)::acc)
   | none=>aX env r acc) else aX env r acc
theorem bG {env:Env}:∀{names:List (Str×NameKind)} {acc:List (Str×Addr)},(∀n c,acc.lookup n=some c->env.cells.lookup n=some c) ->
  ∀n c,(aX env names acc).lookup n=some c->env.cells.lookup n=some c
 | [],acc,h,n,c,e=>h n c e
 | (x,k)::r,acc,h,n,c,e=>by
  unfold aX at e
  split at e
  ·split at e
   ·rename_i cx hx
    refine bG (fun y d q=>?_) n c e
    rw[List.lookup_cons]at q
    cases hb:y == x with
    | true=>rw[hb]at q;cases q;rw[beq_iff_eq.mp hb];exact hx
    | false=>rw[hb]at q;exact h y d q
   ·exact bG h n c e
  ·exact bG h n c e
theorem dg {env:Env}:∀{names:List (Str×NameKind)} {acc:List (Str×Addr)} {n:Str},(acc.lookup n).isSome=true->((aX env names acc).lookup n).isSome=true
 | [],_,_,h=>h
 | (x,k)::r,acc,n,h=>by
  unfold aX
  split
  ·split
   ·refine dg ?_
    rw[List.lookup_cons]
    cases n == x with
    | true=>rfl
    | false=>exact h
   ·exact dg h
  ·exact dg h
theorem cf {env:Env}:∀{names:List (Str×NameKind)} {acc:List (Str×Addr)} {n:Str} {c:Addr},(n,NameKind.free)∈names->env.cells.lookup n=some c->((aX env names acc).lookup n).isSome=true
 | [],_,_,_,h,_=>nomatch h
 | (x,k)::r,acc,n,c,h,e=>by
  rcases List.mem_cons.mp h with q | q
  ·cases q
   unfold aX
   rw[if_pos (by rfl),e]
   refine dg ?_
   rw[List.lookup_cons,beq_self_eq_true]
   rfl
  ·unfold aX
   split
   ·split
    ·exact cf q e
    ·exact cf q e
   ·exact cf q e
theorem cy {scope:Scope}{env:Env}(h:∀y∈scope.names,y.2=.free->∃c,env.cells.lookup y.1=some c):closureFor scope env=pure (aX env scope.names []):=by
 simp only[closureFor]
 have go:∀(names:List (Str×NameKind)) (acc:List (Str×Addr)),(∀y∈names,y.2=.free->∃c,env.cells.lookup y.1=some c) ->
   (forIn names acc (fun x cs=>if (x.2 == NameKind.free)=true then (do let a<-cellOf env x.1;pure (ForInStep.yield ((x.1,a)::cs))) else pure (ForInStep.yield cs)):Sem (List (Str×Addr)))=pure (aX env names acc):=by
  intro names
  induction names with
  | nil=>intro acc _;rfl
  | cons p r ih =>
   intro acc hh
   obtain⟨n,k⟩:=p
   rw[List.forIn_cons]
   unfold aX
   by_cases hk:(k == NameKind.free)=true
   ·obtain⟨c,hc⟩:=hh (n,k) List.mem_cons_self (by simpa using hk)
    have hc':env.cells.lookup n=some c:=hc
    rw[if_pos hk,if_pos hk,hc']
    have e:cellOf env n=pure c:=by unfold cellOf;rw[hc']
    simp only[e,pure_bind]
    exact ih _ fun y hy=>hh y (List.mem_cons_of_mem _ hy)
   ·rw[if_neg hk,if_neg hk]
    simp only[pure_bind]
    exact ih _ fun y hy=>hh y (List.mem_cons_of_mem _ hy)
 have:=go scope.names [] h
 simpa using this
theorem ci {env:Env}:∀{names:List (Str×NameKind)} {x:Str},
  (names.map fun (n,k)=>if (k == NameKind.free&&env.scope.kind == .function&&env.kindOf n == some .cell) then (n,NameKind.cell) else (n,k)).lookup x =
   (names.lookup x).map fun k=>if (k == NameKind.free&&env.scope.kind == .function&&env.kindOf x == some .cell) then NameKind.cell else k
 | [],_=>rfl
 | (n,k)::r,x=>by
  have ih:=@ci env r x
  rw[List.map_cons]
  show List.lookup x ((if (k == NameKind.free&&env.scope.kind == .function&&env.kindOf n == some .cell)=true then (n,NameKind.cell) else (n,k))::_)=_
  cases hx:x == n with
  | true =>
   have e:x=n:=beq_iff_eq.mp hx
   subst e
   by_cases hc:(k == NameKind.free&&env.scope.kind == .function&&env.kindOf x == some .cell)=true
   ·rw[if_pos hc,List.lookup_cons,List.lookup_cons,hx]
    simp only[Option.map_some,hc,if_true]
   ·rw[if_neg hc,List.lookup_cons,List.lookup_cons,hx]
    simp only[Option.map_some]
    rw[if_neg hc]
  | false =>
   by_cases hc:(k == NameKind.free&&env.scope.kind == .function&&env.kindOf n == some .cell)=true
   ·rw[if_pos hc,List.lookup_cons,List.lookup_cons,hx];exact ih
   ·rw[if_neg hc,List.lookup_cons,List.lookup_cons,hx];exact ih
theorem jx {prog:Program}{w:World}{A:Around}{R:Result->Shared->Prop}{s:Shared}{elt target iter:Expr}{ifs:List Expr}{scope:Scope}{pos:Pos}{it acc:Value}{env:Env}(I:Nat->Shared->Prop)
  (turn:∀n s,I n s->wpAny (model prog w) A (pyNext it) (fun r s₁=>match r with
   | none=>R (.ok .next) s₁
   | some v=>wpAny (model prog w) A (letOwnedTupleGo target it v) (fun _ s₁'=>wpAny (model prog w) A (assign target env v) (fun _ s₂ =>
     wpAny (model prog w) A (forIn ifs true fun c r=>if r=true then do let ok<-isTrue c env (eval c env);pure (ForInStep.yield ok) else pure (ForInStep.yield r)) (fun ok s₃ =>
      if ok=true then wpAny (model prog w) A (eval elt env) (fun x s₄ =>
       wpAny (model prog w) A (call (.builtin "list.append") [acc,x]) (fun _ s₅=>∃m,m<n/\I m s₅) (notedBy (model prog w) A env fun e s'=>R (.error e) s') s₄) (notedBy (model prog w) A env fun e s'=>R (.error e) s') s₃
      else ∃m,m<n/\I m s₃) (notedBy (model prog w) A env fun e s'=>R (.error e) s') s₂) (notedBy (model prog w) A env fun e s'=>R (.error e) s') s₁') (notedBy (model prog w) A env fun e s'=>R (.error e) s') s₁) (notedBy (model prog w) A env fun e s'=>R (.error e) s') s)
  (n:Nat) (h:I n s) :
  codeAny (model prog w) A (.compLoop (.ListComp elt [⟨target,iter,ifs,0⟩] scope pos) 0 it acc env) R s:=by
 refine codeAny_loop rfl I (fun n s hI=>?_) n h
 show wpAny _ A ((compTurn (.ListComp elt [⟨target,iter,ifs,0⟩] scope pos) 0 it acc env).onRaise (fun x=>do noteFrame x env;theTreesLotGoes x)) _ _ s
 refine wpAny_noted ?_
 rw[compTurn_list]
 refine wpAny_bind (wpAny_standAt (wpAny_bind (wpAny_mono (turn n s hI) (fun r s₁ h₁=>?_) fun _ _ h'=>h')))
 cases r with
 | none=>exact wpAny_pure h₁
 | some v =>
  refine wpAny_bind (wpAny_mono h₁ (fun _ s₁' h₁'=>?_) fun _ _ h'=>h')
  refine wpAny_bind (wpAny_mono h₁' (fun _ s₂ h₂=>wpAny_bind (wpAny_mono h₂ (fun ok s₃ h₃=>?_) fun _ _ h'=>h')) fun _ _ h'=>h')
  cases ok with
  | false=>exact wpAny_pure ⟨rfl,h₃⟩
  | true =>
   exact wpAny_bind (wpAny_bind (wpAny_mono h₃ (fun x s₄ h₄=>wpAny_bind (wpAny_mono h₄ (fun _ s₅ h₅=>wpAny_pure (wpAny_pure ⟨rfl,h₅⟩)) fun _ _ h'=>h')) fun _ _ h'=>h'))
def fV (cap:List (Option Nat))(σ:St):St:=cap.map fun o=>o.bind fun i=>(σ[i]?).join
def aS (X:Cx)(N:List Str)(scope:Scope)(C:Addr)(s:Shared)(H:Hp)(ex:List Addr):Cx where
 prog:=X.prog
 w:=X.w
 K:=X.K
 mg:=X.mg
 base:=X.base
 A:=X.A
 N:=N
 s₀:=s
 H₀:=H
 env:=compEnvC scope (aX X.env scope.names []) C X.env
 outer:=X.stack
 stack:=X.stack
 ex:=ex
 fn:=fun _=>false
 calm:=X.calm
 pn:=[]
 xe:=fun _ _=>False
structure CompScope (X:Cx)(N:List Str)(cap:List (Option Nat))(scope:Scope):Prop where
 kind:scope.kind=.function
 nocell:∀y∈scope.names,y.2≠.cell
 loc:∀y∈scope.names,y.2=.local->scope.names.lookup y.1=some .local
 fre:∀y∈scope.names,y.2=.free->X.env.scope.names.lookup y.1=some .cell\/X.env.scope.names.lookup y.1=some .free
 nd:N.Nodup
 len:cap.length=N.length
 cap:∀(j i:Nat),cap[j]?=some (some i)->∃y,N[j]?=some y/\X.N[i]?=some y/\scope.names.lookup y=some .free
def ny (outer:List (Str×NameKind))(N0 N:List Str)(cap:List (Option Nat))(names:List (Str×NameKind)):Bool :=
 names.all (fun y=>y.2 != .cell&&(y.2 != .local||names.lookup y.1 == some .local)&&(y.2 != .free||outer.lookup y.1 == some .cell||outer.lookup y.1 == some .free)) &&
 decide N.Nodup&&cap.length == N.length &&
 (List.range cap.length).all fun j=>match cap[j]? with
  | some (some i)=>(match N[j]? with
   | some y=>N0[i]? == some y&&names.lookup y == some .free
   | none=>false)
  | _=>true
theorem CompScope.of {X:Cx}{N:List Str}{cap:List (Option Nat)}{scope:Scope}(hk:scope.kind=.function)(h:ny X.env.scope.names X.N N cap scope.names=true):CompScope X N cap scope:=by
 unfold ny at h
 simp only[Bool.and_eq_true,List.all_eq_true,decide_eq_true_eq,beq_iff_eq]at h
 obtain⟨⟨⟨h1,h2⟩,h3⟩,h4⟩:=h
 refine⟨hk,fun y hy e=>?_,fun y hy e=>?_,fun y hy e=>?_,h2,h3,fun j i e=>?_⟩
 ·have:=(h1 y hy).1.1
  rw[e]at this
  exact absurd this (by decide)
 ·have:=(h1 y hy).1.2
  rw[e]at this
  simpa using this
 ·have:=(h1 y hy).2
  rw[e]at this
  simpa using this
 ·have hj:j<cap.length:=(List.getElem?_eq_some_iff.mp e).1
  have:=h4 j (List.mem_range.mpr hj)
  rw[e]at this
  dsimp only at this
  cases q:N[j]? with
  | none=>rw[q]at this;exact absurd this Bool.false_ne_true
  | some y =>
   rw[q]at this
   simp only[Bool.and_eq_true,beq_iff_eq]at this
   exact⟨y,rfl,this.1,this.2⟩
theorem i7 {cap:List (Option Nat)}{σ:St}{j:Nat}{v:V}(h:(fV cap σ)[j]?=some (some v)):∃i,cap[j]?=some (some i)/\σ[i]?=some (some v):=by
 unfold fV at h
 rw[List.getElem?_map]at h
 cases e:cap[j]? with
 | none=>rw[e]at h;cases h
 | some o =>
  rw[e]at h
  cases o with
  | none=>simp at h
  | some i =>
   refine⟨i,rfl,?_⟩
   simp only[Option.map_some,Option.bind_some,Option.some.injEq]at h
   cases q:σ[i]? with
   | none=>rw[q]at h;simp at h
   | some z=>rw[q]at h;simp at h;rw[h]
theorem lV {X:Cx}{pins:List (Addr×Obj)}{σ:St}{H:Hp}{s:Shared}{N:List Str}{cap:List (Option Nat)}{scope:Scope}{ex:List Addr}{h₁:Heap}{tk:Nat}{C:Addr}(S:CompScope X N cap scope)(I:Inv X pins σ H s)(hC:s.heap.objs.size≤C)
  (hns:h₁.Ns C (fun _=>none)) (hk:∀b o,s.heap.get? b=some o->h₁.get? b=some o) (hex:∀b∈ex,b<s.heap.objs.size/\dr X pins H b) :
  Inv (aS X N scope C s H ex) [] (fV cap σ) H { s with heap:=h₁,toks:=tk }:=by
 have hcl:∀n c,(aX X.env scope.names []).lookup n=some c->X.env.cells.lookup n=some c:=bG (fun n c e=>by simp at e)
 have cne:∀x c,(aX X.env scope.names []).lookup x=some c->c<s.heap.objs.size:=fun x c e=>by
  obtain⟨v,q⟩:=I.cell x c (hcl x c e)
  exact q.lt
 have nob:∀b o,X.base.get? b=some o->b∉ex:=fun b o e hb=>by
  obtain⟨hlt,f0,f1,f2,f3,f4,f5⟩:=hex b hb
  rcases f3 with z | z
  ·exact I.ok.noex b o e z
  ·exact absurd (Nat.lt_of_lt_of_le (Heap.lt_size e) (Nat.le_trans I.ok.bsz z)) (Nat.lt_irrefl _)
 refine⟨⟨I.ok.mod,?_,I.ok.glob,I.ok.blt,hC,fun x y c h1 h2=>I.ok.inj x y c (hcl x c h1) (hcl y c h2),fun x hx=>?_,fun x c hf _=>?_,I.ok.hd,I.ok.frames,.inl rfl,fun b hb=>?_,fun b o e=>I.bs b o e,Nat.le_trans I.ok.bsz I.sz,nob,fun b hb=>?_,I.stack,I.stkFree⟩,
  rfl,I.bare,Un.kept hk,⟨_,hns,fun j y v h1 h2 h3=>?_⟩,fun x c e=>?_,I.hok.fresh hC,fun x c e=>?_,fun p hp=>absurd (show p∈([]:List (Addr×Obj)) from hp) (by simp),I.hok.kept hk,?_⟩
 ·exact S.kind
 ·have hx:(relabel scope X.env).names.lookup x=some .cell\/(relabel scope X.env).names.lookup x=some .free:=hx
  unfold relabel at hx
  simp only[ci]at hx
  cases q:scope.names.lookup x with
  | none=>rw[q]at hx;simp at hx
  | some k =>
   have hm:=PySem.mem_of_lookup q
   have hkf:k=.free:=by
    rw[q]at hx
    simp only[Option.map_some,Option.some.injEq]at hx
    by_cases z:(k == NameKind.free&&X.env.scope.kind == .function&&X.env.kindOf x == some .cell)=true
    ·have:(k == NameKind.free)=true:=by
      rw[Bool.and_eq_true,Bool.and_eq_true]at z
      exact z.1.1
     exact beq_iff_eq.mp this
    ·rw[if_neg z]at hx
     rcases hx with hx | hx
     ·exact absurd hx (S.nocell _ hm)
     ·exact hx
   subst hkf
   obtain⟨c,hc⟩:=I.ok.has x (S.fre _ hm rfl)
   exact Option.isSome_iff_exists.mp (cf hm hc)
 ·exact absurd (show false=true from hf) Bool.false_ne_true
 ·obtain⟨hlt,_⟩:=hex b hb
  refine⟨Nat.ne_of_lt (Nat.lt_of_lt_of_le hlt hC),fun x c e z=>?_⟩
  exact (hex b hb).2.2.2.2.2.1 x c (hcl x c e) z
 ·intro hb2
  rcases List.mem_cons.mp (I.stkSub b hb2) with e | e
  ·exact (hex b hb).2.2.1 e
  ·exact (hex b hb).2.2.2.1 e
 ·obtain⟨i,e1,e2⟩:=i7 h2
  obtain⟨y',e3,e4,e5⟩:=S.cap j i e1
  rw[show N[j]?=some y from h1]at e3
  cases e3
  obtain⟨m,_,hl⟩:=I.loc
  have hm:=PySem.mem_of_lookup e5
  have hv:zI X.env.scope y:=by
   rcases S.fre _ hm rfl with z | z
   ·exact .inr (.inl z)
   ·exact .inr (.inr z)
  obtain⟨u,r,l⟩:=hl i y v e4 e2 hv
  refine⟨u,r,.inr ⟨?_,?_⟩⟩
  ·show (relabel scope X.env).names.lookup y=some .cell\/(relabel scope X.env).names.lookup y=some .free
   unfold relabel
   simp only[ci,e5,Option.map_some,Option.some.injEq]
   split
   ·exact .inl rfl
   ·exact .inr rfl
  ·rcases l with⟨hk2,_⟩ | ⟨_,c,hc,hcell⟩
   ·rcases S.fre _ hm rfl with z | z
    ·rw[show X.env.kindOf y=some .cell from z]at hk2;cases hk2
    ·rw[show X.env.kindOf y=some .free from z]at hk2;cases hk2
   ·refine⟨c,?_,hcell.keeps hk⟩
    obtain⟨c',hc'⟩:=Option.isSome_iff_exists.mp (cf (acc:=[]) hm hc)
    have:=hcl y c' hc'
    rw[hc]at this
    cases this
    exact hc'
 ·obtain⟨v,q⟩:=I.cell x c (hcl x c e)
  exact⟨v,q.keeps hk⟩
 ·exact I.freeC x c (hcl x c e)
 ·show (fV cap σ).length=N.length
  unfold fV
  rw[List.length_map]
  exact S.len
def mx (J:It)(cap:List (Option Nat))(g:TG)(tc:TT)(te:TE)(Q:Addr->Hp->Prop)(σ:St)(H:Hp):Prop :=
 ∃W:Nat->Nat->List V->St->Hp->Prop,(∃m,W 0 m [] (fV cap σ) H)/\∀i m ys σ' H',W i m ys σ' H' ->
  (J.stop i H'/\ys.length≤sizeLine/\∀D,H' D=none->Q D (al H' D (.lst ys)))\/(J.go i H'/\ys.length<sizeLine/\∃N:List V->St->Hp->Prop,(∀ys2 σ2 H2,N ys2 σ2 H2->∃m',m'<m/\W (i+1) m' ys2 σ2 H2) /\
   ∀x H2,J.yld i H' x H2->g x σ' H2 fun σ3 H3=>tc σ3 H3 fun b H4=>if b=true then te σ3 H4 fun y H5=>N (ys++[y]) σ3 H5 else N ys σ3 H4)
def jk (cap:List (Option Nat))(wi:TI)(g:TG)(tc:TT)(te:TE)(Q:Addr->Hp->Prop):St->Hp->Prop:=fun σ H=>wi σ H fun J H1=>mx J cap g tc te Q σ H1
def wu:TT:=fun _ H Q=>Q true H
def wc (X:Cx)(ifs:List Expr)(t:TT):Prop :=
 ∀(pins:List (Addr×Obj)) (s:Shared) (σ:St) (H:Hp) (Q:Bool->Hp->Prop),Inv X pins σ H s->t σ H Q ->
  wpAny (model X.prog X.w) X.A (forIn ifs true fun c r=>if r=true then do let ok<-isTrue c X.env (eval c X.env);pure (ForInStep.yield ok) else pure (ForInStep.yield r)) (TP X pins σ Q) X.xe s
theorem uQ {X:Cx}:wc X [] wu:=fun pins s σ H Q I h=>wpAny_tests_nil ⟨H,I,h⟩
theorem vF {X:Cx}{c:Expr}{t:TT}(h:PT X c t):wc X [c] t:=fun pins s σ H Q I hw=>wpAny_tests_one (h pins s σ H Q I hw)
theorem HOk.add {P:Program}{w:World}{H:Hp}{h:Heap}{a:Addr}{o:HO}(x:HOk P w H h)(hn:H a=none)(new:ObjOk P w (al H a o) h a o):HOk P w (al H a o) h:=fun b u e=>by
 by_cases hb:b=a
 ·subst hb;rw[ae]at e;cases e;exact new
 ·rw[am hb]at e
  exact (x b u e).stay (fun c v _ q=>q) (fun c q=>by rw[am (aY q hn)];exact q) fun c xs q=>by rw[am (aY q hn)];exact q
theorem Un.add {fs ex:List Addr}{H H1:Hp}{h h1:Heap}{a:Addr}{o:HO}(u:Un fs ex H H1 h h1)(ha:h.objs.size≤a)(hn:H1 a=none):Un fs ex H (al H1 a o) h h1 where
 keep:=u.keep
 slot:=u.slot
 free:=fun b ob q n hx=>by rw[am (Nat.ne_of_lt (Nat.lt_of_lt_of_le (Heap.lt_size q) ha))];exact u.free b ob q n hx
 there:=u.there
 tups:=fun b xs q=>by
  have q':=u.tups b xs q
  rw[am (aY q' hn)];exact q'
 frzs:=fun b ob xs q=>by
  have q':=u.frzs b ob xs q
  rw[am (aY q' hn)];exact q'
 tbls:=fun b ps q=>by
  obtain⟨m,q'⟩:=u.tbls b ps q
  exact⟨m,by rw[am (aY q' hn)];exact q'⟩
abbrev d9 (its:List Value)(k:Nat):Obj:={ cls:=.type "list",data:=.seq its.toArray k }
theorem iW {X:Cx}{pins:List (Addr×Obj)}{σ:St}{H:Hp}{s:Shared}{N:List Str}{cap:List (Option Nat)}{scope:Scope}{elt target iter:Expr}{ifs:List Expr}{pos:Pos}{g:TG}{tc:TT}{te:TE}{J:It}{fp:List Addr}{it:Addr}{tn:Nat->Heap->Prop}
  {Q:Addr->Hp->Prop} {RR:Value->Addr->Result->Shared->Prop} {E:Value->Shared->Prop} (hc:X.calm=true) (S:CompScope X N cap scope) (I:Inv X pins σ H s) (T:ie X.prog X.w X.K target J fp it tn) (st:tn 0 s.heap) (fo:∀b∈fp,dr X pins H b)
  (hg:∀C s₀ H₀,PG (aS X N scope C s₀ H₀ fp) target g) (ht:∀C s₀ H₀,wc (aS X N scope C s₀ H₀ fp) ifs tc) (he:∀C s₀ H₀,PE (aS X N scope C s₀ H₀ fp) elt te)
  (h:mx J cap g tc te Q σ H)
  (hRR:∀D C s' H',Inv X pins σ H' s'->Q D H'->(∃m,s'.heap.Ns C m)->H' C=none->X.s₀.heap.objs.size≤C->C≠X.env.locals->(∀x c,X.env.cells.lookup x=some c->c≠C)->(∀p∈X.pn++pins,p.1≠C)->RR (.ref D) C (.ok .next) s') :
  wpAny (model X.prog X.w) X.A (newList []) (fun acc s₃=>wpAny (model X.prog X.w) X.A (newFunctionEnv scope X.env.globals (aX X.env scope.names []) [] X.env.qual none .none (some X.env)) (fun cenv s₄ =>
   codeAny (model X.prog X.w) X.A (.compStart (.ListComp elt [⟨target,iter,ifs,0⟩] scope pos) 0 (.ref it) acc { cenv with scope:=relabel scope X.env }) (RR acc cenv.locals) s₄) E s₃) E s:=by
 have hfr:∀a,s.heap.objs.size≤a->H a=none:=fun a ha=>I.hok.fresh ha
 obtain⟨W,⟨m0,w0⟩,turn⟩:=h
 have fol:∀b∈fp,b<s.heap.objs.size:=fun b hb=>by
  obtain⟨o,ho,_⟩:=T.obj 0 _ st b hb
  exact Heap.lt_size ho
 have clt:∀x c,X.env.cells.lookup x=some c->c<s.heap.objs.size:=fun x c e=>by
  obtain⟨v,q⟩:=I.cell x c e
  exact q.lt
 refine wpAny_newObj_type (wpAny_newFunctionEnv S.nocell (by intro y hy;simp at hy) (fun h₁ hns₁ hsb₁=>?_) S.kind)
 dsimp only at hns₁ hsb₁ ⊢
 generalize hD:s.heap.objs.size=D at *
 generalize hH3:s.heap.push { cls:=.type "list",data:=.seq ([]:List Value).toArray }=H3 at *
 have hC:H3.objs.size=D+1:=by rw[<-hH3,Heap.size_push,hD]
 have keep3:∀b o,s.heap.get? b=some o->H3.get? b=some o:=fun b o e=>by rw[<-hH3];exact Heap.get?_push_of_some _ e
 have keep4:∀b o,H3.get? b=some o->h₁.get? b=some o:=fun b o e=>hsb₁.extBut b o (Nat.ne_of_lt (Heap.lt_size e)) (Heap.get?_push_of_some _ e)
 have D4:h₁.get? D=some (d9 [] 0):=keep4 _ _ (by rw[<-hH3,<-hD];exact Heap.get?_push_size _ rfl)
 generalize hCC:H3.objs.size=C at *
 have hDC:D<C:=by omega
 have hDC':D≤C:=Nat.le_of_lt hDC
 have hL:X.env.locals<D:=by rw[<-hD];exact I.lt
 have I4:Inv (aS X N scope C s H fp) [] (fV cap σ) H { s with heap:=h₁,toks:=s.toks+([]:List (Str×Value)).length } :=
  lV S I (by omega) hns₁ (fun b o e=>keep4 b o (keep3 b o e)) fun b hb=>⟨by rw[hD];exact fol b hb,fo b hb⟩
 have fp4:∀{H':Hp} {ob:Obj},(∀b∈fp,H' b=none)->∀b∈fp,dr (aS X N scope C s H fp) [(D,ob)] H' b:=fun {H' ob} hn b hb=>by
  obtain⟨f0,f1,f2,f3,f4,f5⟩:=fo b hb
  have hlt:=fol b hb
  refine⟨hn b hb,?_,fun z=>?_,.inl hb,fun x c e=>f4 x c (bG (fun n c e=>by simp at e) x c e),fun p hp=>?_⟩
  ·exact Nat.ne_of_lt (Nat.lt_of_lt_of_le hlt hDC')
  ·rcases List.mem_cons.mp (I.stkSub b z) with e | e
   ·exact f1 e
   ·exact f2 e
  ·have hp':p∈[(D,ob)]:=hp
   rw[List.mem_singleton.mp hp']
   exact Nat.ne_of_gt hlt
 have st4:tn 0 h₁:=T.keep _ _ _ st fun b hb o e=>keep4 b o (keep3 b o e)
 have nfs:D∉(aS X N scope C s H fp).fs:=fun z=>by
  rcases List.mem_cons.mp (I.stkSub D z) with e | e
  ·exact Nat.ne_of_gt hL e
  ·exact I.nofs (Nat.le_of_eq hD) e
 have pinD:∀{σ':St} {H':Hp} {s':Shared} {ob:Obj},Inv (aS X N scope C s H fp) [] σ' H' s'->H' D=none->s'.heap.get? D=some ob->(∀v,ob.data≠.cell v)->Inv (aS X N scope C s H fp) [(D,ob)] σ' H' s':=fun {σ' H' s' ob} J hn e nc =>
  J.pins_of fun p hp=>by
   rw[List.mem_singleton.mp hp]
   exact⟨e,hn,Nat.ne_of_lt hDC,nfs,nc⟩
 have loop:∀s₄:Shared,s₄={ s with heap:=h₁,toks:=s.toks+([]:List (Str×Value)).length } ->
   codeAny (model X.prog X.w) X.A (.compLoop (.ListComp elt [⟨target,iter,ifs,0⟩] scope pos) 0 (.ref it) (.ref D) (compEnvC scope (aX X.env scope.names []) C X.env)) (RR (.ref D) C) s₄:=by
  rintro s₄ rfl
  refine jx (fun n s'=>∃i ys its k σ' H',Inv (aS X N scope C s H fp) [(D,d9 its k)] σ' H' s'/\Vals ys its/\tn i s'.heap/\(∀b∈fp,H' b=none)/\W i n ys σ' H') ?_ m0
   ⟨0,[],[],0,_,_,pinD I4 (hfr D (Nat.le_refl _)) D4 (fun v z=>by cases z),.nil,st4,fun b hb=>(fo b hb).1,w0⟩
  rintro n s5 ⟨i,ys,its,k,σ5,H5,I5,rv5,st5,fr5,w5⟩
  have hpin:=I5.pin (D,d9 its k) (List.mem_append_right _ List.mem_cons_self)
  rcases turn i n ys σ5 H5 w5 with⟨stop,hz,q⟩ | ⟨go,hz,NN,hNN,step⟩
  ·refine bh (T.done (aS X N scope C s H fp) rfl rfl rfl hc i _ s5 σ5 H5 _ I5 (fp4 fr5) st5 stop) fun r s6 ⟨hr,I6⟩=>?_
   subst hr
   have p6:=I6.pin (D,d9 its k) (List.mem_append_right _ List.mem_cons_self)
   have I7:Inv X pins σ (al H5 D (.lst ys)) s6:=I.call' (ch:=fp) I6.os (I6.base.add (Nat.le_of_eq hD) p6.2.1) (I6.hok.add p6.2.1 ⟨hz,its,k,rv5,p6.1⟩) I6.bare fun b hb=>by
    obtain⟨f0,f1,f2,f3,f4,f5⟩:=fo b hb
    exact⟨f3,f1,f4,f5⟩
   obtain⟨m6,hn6,_⟩:=I6.loc
   refine hRR _ C s6 _ I7 (q D p6.2.1) ⟨m6,hn6⟩ ?_ ?_ ?_ ?_ ?_
   ·rw[am (Nat.ne_of_gt hDC)];exact I6.free
   ·exact Nat.le_trans (by rw[<-hD];exact I.sz) hDC'
   ·exact Nat.ne_of_gt (Nat.lt_of_lt_of_le hL hDC')
   ·intro x c e z
    exact Nat.ne_of_lt (Nat.lt_of_lt_of_le (clt x c e) hDC') z
   ·intro p hp z
    have h6:=Heap.lt_size (I.pin p hp).1
    rw[hD]at h6
    exact Nat.ne_of_lt (Nat.lt_of_lt_of_le h6 hDC') z
  ·refine bh (T.item (aS X N scope C s H fp) rfl rfl rfl hc i _ s5 σ5 H5 _ I5 (fp4 fr5) st5 go) fun r s6 ⟨u,hr,h6⟩=>?_
   subst hr
   refine bh h6 fun _ s7 ⟨x,H7,I7,r7,y7,st7,fr7⟩=>?_
   have I7':=I7.pinned (fp4 fr7) (T.obj _ _ st7)
   have kept:∀{σ8:St} {H8:Hp} {s8:Shared},Inv (aS X N scope C s H fp) ([(D,d9 its k)]++fQ fp s7.heap) σ8 H8 s8->tn (i+1) s8.heap/\∀b∈fp,H8 b=none:=fun {σ8 H8 s8} I8 =>
    ⟨T.keep _ _ _ st7 fun b hb o e=>(I8.pin (b,o) (List.mem_append_right _ (List.mem_append_right _ (bQ hb e)))).1,fun b hb=>by
     obtain⟨o,e,d⟩:=T.obj _ _ st7 b hb
     exact (I8.pin (b,o) (List.mem_append_right _ (List.mem_append_right _ (bQ hb e)))).2.1⟩
   refine wpAny_mono (hg C s H _ s7 σ5 H7 x u _ I7' r7 (step x H7 y7)) (fun _ s8 ⟨σ8,H8,I8,q8⟩=>?_) fun _ _ f=>f.elim
   refine wpAny_mono (ht C s H _ s8 σ8 H8 _ I8 q8) (fun ok s9 ⟨H9,I9,q9⟩=>?_) fun _ _ f=>f.elim
   cases ok with
   | false =>
    rw[if_neg Bool.false_ne_true]at q9 ⊢
    obtain⟨m',hm,w9⟩:=hNN _ _ _ q9
    exact⟨m',hm,i+1,ys,its,k,σ8,H9,I9.unpinned,rv5,(kept I9).1,(kept I9).2,w9⟩
   | true =>
    rw[if_pos rfl]at q9 ⊢
    refine wpAny_mono (he C s H _ s9 σ8 H9 _ I9 q9) (fun y s10 ⟨yv,H10,I10,r10,n10⟩=>?_) fun _ _ f=>f.elim
    obtain⟨m',hm,w10⟩:=hNN _ _ _ n10
    obtain⟨k10,f10⟩:=kept I10
    have p10:=I10.pin (D,d9 its k) (List.mem_append_right _ (List.mem_append_left _ List.mem_cons_self))
    have hlen:=rv5.length
    refine wpAny_list_append_plain (hsz:=by rw[List.size_toArray];omega) (show s10.heap.PlainList D its.toArray from ⟨k,p10.1⟩) fun h11 hl11 hsb11=>?_
    obtain⟨k11,e11⟩:=hl11
    have J0:Inv (aS X N scope C s H fp) [] σ8 H10 s10:=I10.pins_of fun p hp=>nomatch hp
    have J1:Inv (aS X N scope C s H fp) [] σ8 H10 { s10 with heap:=h11 }:=J0.turned (t':=s10.toks) (fun b o hb e=>hsb11.extBut b o hb e) p10.2.1 (Nat.ne_of_lt hDC) (.inr (Nat.le_of_eq hD)) (fun x c e z=>Nat.ne_of_lt (clt x c (bG (fun n c e=>by simp at e) x c e)) z) fun p hp=>nomatch (show p∈([]:List (Addr×Obj)) from hp)
    have e12:h11.get? D=some (d9 (its++[y]) k11):=by rw[e11];simp[d9]
    refine⟨m',hm,i+1,ys++[yv],its++[y],k11,σ8,H10,pinD J1 p10.2.1 e12 (fun v z=>by cases z),rv5.append (.cons r10 .nil),?_,f10,w10⟩
    exact T.keep _ _ _ k10 fun b hb o e=>hsb11.extBut b o (Nat.ne_of_lt (fol b hb)) e
 refine codeAny_compStart_list (loop _ ?_) (T.self X.A 0 _ _ _ ?_ (loop _ ?_))
 ·rfl
 ·exact st4
 ·rfl
theorem uv {X:Cx}{N:List Str}{cap:List (Option Nat)}{scope:Scope}{elt target iter:Expr}{ifs:List Expr}{pos:Pos}{wi:TI}{g:TG}{tc:TT}{te:TE}(hc:X.calm=true)(S:CompScope X N cap scope)(hi:PI X target iter wi)
  (hg:∀C s₀ H₀ ex,PG (aS X N scope C s₀ H₀ ex) target g) (ht:∀C s₀ H₀ ex,wc (aS X N scope C s₀ H₀ ex) ifs tc) (he:∀C s₀ H₀ ex,PE (aS X N scope C s₀ H₀ ex) elt te)
  (hs:∀x,foldedSetIterable iter X.env x=pure x:=by intro _;rfl) :
  PE X (.ListComp elt [⟨target,iter,ifs,0⟩] scope pos) (fun σ H Q=>jk cap wi g tc te (fun D H'=>Q (.ref D) H') σ H):=by
 intro pins s σ H Q I h
 have hclos:closureFor scope X.env=pure (aX X.env scope.names []):=cy fun y hy hf=>I.ok.has y.1 (S.fre y hy hf)
 rw[eval_ListComp]
 refine wpAny_comprehension_free (use:=none) rfl hs hclos S.kind S.loc (bh (hi pins s σ H _ I h) fun xv s1 h1=>bh h1 fun itv s2 h2=>?_)
 obtain⟨it,fp,tn,J,H2,e,I2,T,st2,f2,q2⟩:=h2
 subst e
 refine iW (RR:=fun acc C=>compPost (model X.prog X.w) X.A X.xe none (EP X pins σ Q) acc C) hc S I2 T st2 f2 (fun C s₀ H₀=>hg C s₀ H₀ fp) (fun C s₀ H₀=>ht C s₀ H₀ fp) (fun C s₀ H₀=>he C s₀ H₀ fp) q2 ?_
 intro D C s' H' I' q ⟨m,hn⟩ hf hsz hL hcell hpin
 refine⟨m,hn,fun h' hsb=>⟨.ref D,H',?_,rfl,q⟩⟩
 exact I'.turned (t':=s'.toks) (fun b o hb e=>hsb.extBut b o hb e) hf hL (.inr hsz) hcell hpin
theorem vK {X:Cx}{N:List Str}{cap:List (Option Nat)}{scope:Scope}{elt target iter:Expr}{ifs:List Expr}{pos pos' spos:Pos}{wi:TI}{g:TG}{tc:TT}{te:TE}{i:Nat}{x:Str}(hc:X.calm=true)(S:CompScope X N cap scope)(hi:PI X target iter wi)
  (hg:∀C s₀ H₀ ex,PG (aS X N scope C s₀ H₀ ex) target g) (ht:∀C s₀ H₀ ex,wc (aS X N scope C s₀ H₀ ex) ifs tc) (he:∀C s₀ H₀ ex,PE (aS X N scope C s₀ H₀ ex) elt te)
  (hN:X.N.Nodup) (hix:X.N[i]?=some x) (hx:X.env.scope.names.lookup x=some .local) (hsw:swapsWith (.ListComp elt [⟨target,iter,ifs,0⟩] scope pos) (some (.Name x pos')) spos.line X.env=pure true:=by rfl)
  (hs:∀x,foldedSetIterable iter X.env x=pure x:=by intro _;rfl) :
  PS X (.Assign [.Name x pos'] (.ListComp elt [⟨target,iter,ifs,0⟩] scope pos) spos) (fun D σ H=>jk cap wi g tc te (fun d H'=>D.nx (σ.set i (some (.ref d))) H') σ H):=by
 intro pins s σ H D I h
 have hclos:closureFor scope X.env=pure (aX X.env scope.names []):=cy fun y hy hf=>I.ok.has y.1 (S.fre y hy hf)
 rw[exec_Assign_Name_used _ _ _ _ hsw]
 refine wpAny_bind (wpAny_standAt (wpAny_bind ?_))
 show wpAny _ X.A (do let _<-comprehension (.ListComp elt [⟨target,iter,ifs,0⟩] scope pos) scope X.env _ (newList []) false (eval iter X.env) (some (assign (.Name x pos') X.env))) _ _ s
 refine wpAny_bind (wpAny_mono (wpAny_comprehension_free (use:=some (assign (.Name x pos') X.env)) (Q:=fun _ s'=>SP X pins D .next s') rfl hs hclos S.kind S.loc
  (bh (hi pins s σ H _ I h) fun xv s1 h1=>bh h1 fun itv s2 h2=>?_)) (fun _ s' hq=>wpAny_pure (wpAny_pure hq)) fun _ _ e=>e)
 obtain⟨it,fp,tn,J,H2,e,I2,T,st2,f2,q2⟩:=h2
 subst e
 refine iW (RR:=fun acc C=>compPost (model X.prog X.w) X.A X.xe (some (assign (.Name x pos') X.env)) (fun _ s'=>SP X pins D .next s') acc C) hc S I2 T st2 f2 (fun C s₀ H₀=>hg C s₀ H₀ fp) (fun C s₀ H₀=>ht C s₀ H₀ fp) (fun C s₀ H₀=>he C s₀ H₀ fp) q2 ?_
 intro d C s' H' I' q ⟨m,hn⟩ hf hsz hL hcell hpin
 show wpAny _ X.A (assign (.Name x pos') X.env (.ref d)) _ _ s'
 refine wpAny_assign_Name (f9 I' hN hix (.inl hx) (show RelV (.ref d) (.ref d) from rfl) (fun s'' I'' ⟨a,hsb,ha⟩=>?_) (.inr hx))
 have hCa:C≠a:=by
  rcases ha with z | z
  ·rw[z];exact hL
  ·exact fun w=>hcell x a z w.symm
 refine⟨m,hn.sameBut hsb hCa,fun h' hsb'=>⟨_,H',?_,q⟩⟩
 exact I''.turned (t':=s''.toks) (fun b o hb e=>hsb'.extBut b o hb e) hf hL (.inr hsz) hcell hpin
end L2
namespace L2
open PySem PySem.Spec PyProof.Rows
def Cj (x:Str):It:=⟨fun i _=>i<x.cps.size,fun i H v H'=>H'=H/\∃c,x.cps[i]?=some c/\v=.str ⟨#[c]⟩,fun i _=>i=x.cps.size⟩
theorem lL {P:Program}{w:World}{K:PySem.W.Frag}{tg:Expr}(ty:String)(it:Addr)(x:Str)(t:Tok)
  (hw:∀A':Around,A'.handled=none->Walks P w A' it [it] [it] x.cps.size (SignAt x) (fun i h=>h.IsStrIter it ty x t i))
  (hself:∀(A:Around) (i:Nat) (s:Shared) (Q:Value->Shared->Prop) (E:Value->Shared->Prop),s.heap.IsStrIter it ty x t i->Q (.ref it) s->wpAny (model P w) A (pyIter (.ref it)) Q E s)
  (hn:["enumerate","zip","dict_itemiterator","dict_reverseitemiterator","odict_iterator","itertools.zip_longest","itertools.pairwise"].contains ty=false) :
  ie P w K tg (Cj x) [it] it (fun i h=>h.IsStrIter it ty x t i) where
 mem:=by simp
 obj:=fun i h st b hb=>by
  have e:b=it:=by simpa using hb
  subst e
  obtain⟨o,e,c,d⟩:=st
  exact⟨o,e,fun v z=>by rw[d]at z;cases z⟩
 keep:=fun i h h' st k=>let ⟨o,e,r⟩:=st;⟨o,k it (by simp) o e,r⟩
 item:=by
  intro X hP hw' hK hc i pins s σ H E I hf st hg
  subst hP hw' hK
  obtain⟨f0,f1,f2,f3,f4,f5⟩:=hf it (by simp)
  refine (hw X.A (I.ok.hd hc)).item i s _ _ hg st fun v h' tk hv st' kk=>?_
  obtain⟨c,u,hc',rfl⟩:=hv
  have I1:Inv X pins σ H { s with heap:=h',toks:=tk }:=I.turned (fun b o hb e=>kk b o (by simpa using hb) e) f0 f1 f3 f4 f5
  obtain⟨o,e,cc,d⟩:=id st'
  exact⟨_,rfl,kO (s:={ s with heap:=h',toks:=tk }) e cc d hn ⟨.str ⟨#[c]⟩,H,I1,⟨u,rfl⟩,⟨rfl,c,hc',rfl⟩,st',fun b hb=>(hf b hb).1⟩⟩
 done:=by
  intro X hP hw' hK hc i pins s σ H E I hf st hg
  subst hP hw' hK
  obtain⟨f0,f1,f2,f3,f4,f5⟩:=hf it (by simp)
  have hg':i=x.cps.size:=hg
  subst hg'
  exact (hw X.A (I.ok.hd hc)).done s _ _ st fun h' tk kk=>⟨rfl,I.turned (fun b o hb e=>kk b o (by simpa using hb) e) f0 f1 f3 f4 f5⟩
 self:=hself
section
variable {X:Cx}
theorem pW:bq X (compareOp .LtE) (fun x y H Q=>∃i j,x=.str i/\y=.str j/\Q (.bl (!decide (j.cps.toList<i.cps.toList))) H):=by
 intro pins s σ H x y v u Q I r1 r2 h
 obtain⟨i,j,rfl,rfl,q⟩:=h
 obtain⟨t,rfl⟩:=r1
 obtain⟨t',rfl⟩:=r2
 exact PySem.P.le_str ⟨.bl _,H,I,rfl,q⟩
theorem mB:bq X (binaryOp .Mult) (fun x y H Q=>∃z n,x=.str z/\y=.int n/\MulOk z n/\Q (.str (Txt.mul z n)) H):=by
 intro pins s σ H x y v u Q I r1 r2 h
 obtain⟨z,n,rfl,rfl,ok,q⟩:=h
 obtain⟨t,rfl⟩:=r1
 obtain⟨t',rfl⟩:=r2
 exact SB.mul ok fun t' k=>⟨.str _,H,I.tok k,⟨t',rfl⟩,q⟩
theorem jA:∀(l:List (Str×Tok)),Vals (l.map fun p=>V.str p.1) (strValues l)
 | []=>.nil
 | (x,t)::l=>.cons ⟨t,rfl⟩ (jA l)
def zx:V->List V->Hp->VK->Prop:=fun x vs H Q=>∃z y,x=.str z/\vs=[.str y]/\y.length≠0/\z.length<sizeLine/\(Txt.split z y).length≤sizeLine/\∀l,H l=none->Q (.ref l) (al H l (.lst ((Txt.split z y).map V.str)))
theorem eQ {pins:List (Addr×Obj)}{σ:St}{H:Hp}{s:Shared}{l:List (Str×Tok)}{ts:List Str}{tk:Nat}{Q:VK}(I:Inv X pins σ H s)(e:l.map (·.1)=ts)(hz:ts.length≤sizeLine)(q:∀l,H l=none->Q (.ref l) (al H l (.lst (ts.map V.str)))) :
  EP X pins σ Q (.ref s.heap.objs.size) { s with heap:=s.heap.push { cls:=.type "list",data:=.seq (strValues l).toArray },toks:=tk }:=by
 subst e
 refine⟨.ref s.heap.objs.size,_,I.laid (o:=.lst ((l.map (·.1)).map V.str)) (fun b ob q=>Heap.get?_push_of_some _ q) (Nat.le_refl _) ?_,rfl,q _ (I.hok.fresh (Nat.le_refl _))⟩
 refine⟨by rw[List.length_map];exact hz,strValues l,0,?_,Heap.get?_push_size _ rfl⟩
 have:=jA l
 rw[List.map_map]
 exact this
open Builtin Builtin.Str in
theorem Aq:qe X "str.split" zx:=by
 intro pins s σ H x xs v us Q I rx rs h
 obtain⟨z,y,rfl,rfl,hy0,hz,hl,q⟩:=h
 obtain⟨t,rfl⟩:=rx
 obtain⟨uu,rfl,ru⟩:=bF rs
 obtain⟨u,rfl⟩:=ru
 have hy:(y.length == 0)=false:=by simpa using hy0
 have hz':z.length≤sizeLine:=Nat.le_of_lt hz
 unfold Txt.split at hl q
 cases h1:(decide (z.length<y.length)||decide (strKind z<strKind y))
 ·rw[h1]at hl q
  simp only[Bool.false_eq_true,if_false]at hl q
  cases hf:(occurrences z y 0 z.length (z.length+1)).isEmpty
  ·rw[hf]at hl q
   simp only[Bool.false_eq_true,if_false]at hl q
   refine call_meets F.slot_str_split (typeIs_str _ _ _) F.entry_str_split (F.args_str_split_2 _ _) (meets_str_split_sep z y t u h1 hy hf hz' hl) ?_
   show wants _ _ _ { s with toks:=_,heap:=s.heap.push { cls:=.type "list",data:=.seq (strsFrom s.toks (partsBetween z (occurrences z y 0 z.length (z.length+1)) y.length)).toArray } }
   rw[strsFrom_eq]
   exact eQ (l:=numbered s.toks _) I (numbered_texts _ _) hl q
  ·rw[hf]at hl q
   simp only[if_true]at hl q
   exact call_meets F.slot_str_split (typeIs_str _ _ _) F.entry_str_split (F.args_str_split_2 _ _) (meets_str_split_not_found z y t u h1 hy hf)
    (eQ (l:=[(z,t)]) (tk:=s.toks) I rfl hl q)
 ·rw[h1]at hl q
  simp only[if_true]at hl q
  exact call_meets F.slot_str_split (typeIs_str _ _ _) F.entry_str_split (F.args_str_split_2 _ _) (meets_str_split_cannot_occur z y t u h1)
   (eQ (l:=[(z,t)]) (tk:=s.toks) I rfl hl q)
def BL:V->Option Int->Option Int->Hp->VK->Prop:=fun x lo hi H Q=>∃z,x=.str z/\z.length≤sizeLine/\Q (.str (Txt.slice z lo hi)) H
theorem ye:zD X BL:=by
 intro pins s σ H x v vl vu lo hi sl Q I rx hs pl pu h
 obtain⟨z,rfl,hz,q⟩:=h
 obtain⟨t,rfl⟩:=rx
 refine⟨"str",_,F.slot_str_getitem.lookup,typeIs_str _ _ _,?_⟩
 have fin:∀t' k,EP X pins σ Q (.str (Txt.slice z lo hi) t') { s with toks:=k }:=fun t' k=>⟨.str _,H,I.tok k,⟨t',rfl⟩,q⟩
 cases pl with
 | none =>
  cases pu with
  | none=>exact wpAny_getItem_str_slice (l:=none) (u:=none) (st:=none) hs rfl (post_val_or_str ⟨Nat.le_trans (Txt.slice_le z _ _) hz,fin⟩)
  | int j uj=>exact wpAny_getItem_str_slice (l:=none) (u:=some (j,uj)) (st:=none) hs rfl (post_val_or_str ⟨Nat.le_trans (Txt.slice_le z _ _) hz,fin⟩)
 | int i ui =>
  cases pu with
  | none=>exact wpAny_getItem_str_slice (l:=some (i,ui)) (u:=none) (st:=none) hs rfl (post_val_or_str ⟨Nat.le_trans (Txt.slice_le z _ _) hz,fin⟩)
  | int j uj=>exact wpAny_getItem_str_slice (l:=some (i,ui)) (u:=some (j,uj)) (st:=none) hs rfl (post_val_or_str ⟨Nat.le_trans (Txt.slice_le z _ _) hz,fin⟩)
end
mutual
inductive DatV (K:PySem.W.Frag)(H:Hp):V->PyData->Prop
 | none:DatV K H .non .none
 | bool (b:Bool):DatV K H (.bl b) (.bool b)
 | int (i:Int):DatV K H (.int i) (.int i)
 | str (x:Str):DatV K H (.str x) (.str x)
 | list {a:Addr} {xs:List V} {ds:List PyData}:SqL K H a xs->DatVs K H xs ds->DatV K H (.ref a) (.list ds)
 | tuple {a:Addr} {xs:List V} {ds:List PyData}:SqT K H a xs->DatVs K H xs ds->DatV K H (.ref a) (.tuple ds)
inductive DatVs (K:PySem.W.Frag)(H:Hp):List V->List PyData->Prop
 | nil:DatVs K H [] []
 | cons {x:V} {xs:List V} {d:PyData} {ds:List PyData}:DatV K H x d->DatVs K H xs ds->DatVs K H (x::xs) (d::ds)
end
theorem Same.seqT {K:PySem.W.Frag}{H H':Hp}{a:Addr}{xs:List V}(e:Same H H')(h:SqT K H a xs):SqT K H' a xs:=by
 rcases h with (h | ⟨o,h⟩) | h
 ·exact .inl (.inl (e _ _ h))
 ·exact .inl (.inr ⟨o,e _ _ h⟩)
 ·exact .inr h
mutual
theorem DatV.same {K:PySem.W.Frag}{H H':Hp}(e:Same H H'):∀{x:V} {d:PyData},DatV K H x d->DatV K H' x d
 | _,_,.none=>.none
 | _,_,.bool b=>.bool b
 | _,_,.int i=>.int i
 | _,_,.str x=>.str x
 | _,_,.list h hs=>.list (e.seq h) (DatVs.same e hs)
 | _,_,.tuple h hs=>.tuple (e.seqT h) (DatVs.same e hs)
theorem DatVs.same {K:PySem.W.Frag}{H H':Hp}(e:Same H H'):∀{xs:List V} {ds:List PyData},DatVs K H xs ds->DatVs K H' xs ds
 | _,_,.nil=>.nil
 | _,_,.cons h hs=>.cons (DatV.same e h) (DatVs.same e hs)
end
mutual
theorem DatV.reads {X:Cx}{pins:List (Addr×Obj)}{σ:St}{H:Hp}{s:Shared}(I:Inv X pins σ H s):∀{x:V} {d:PyData} {u:Value},DatV X.K H x d->RelV x u->∃as,Reads s.heap u d as
 | _,_,_,.none,r=>by cases r;exact⟨_,.none⟩
 | _,_,_,.bool b,r=>by cases r;exact⟨_,.bool b⟩
 | _,_,_,.int i,r=>by obtain⟨t,rfl⟩:=r;exact⟨_,.int i t⟩
 | _,_,_,.str x,r=>by obtain⟨t,rfl⟩:=r;exact⟨_,.str x t⟩
 | _,_,_,.list h hs,r=>by
  cases r
  obtain⟨its,rv,⟨o,n,h1,h2,h3,h4⟩,hz⟩:=I.list h
  obtain⟨as,ra⟩:=DatVs.reads I hs rv
  exact⟨_,.list h1 h2 h4 ra⟩
 | _,_,_,.tuple h hs,r=>by
  cases r
  obtain⟨its,rv,⟨o,h1,h2,n,h4⟩,hz⟩:=I.tuple h
  obtain⟨as,ra⟩:=DatVs.reads I hs rv
  exact⟨_,.tuple h1 h2 h4 ra⟩
theorem DatVs.reads {X:Cx}{pins:List (Addr×Obj)}{σ:St}{H:Hp}{s:Shared}(I:Inv X pins σ H s):∀{xs:List V} {ds:List PyData} {us:List Value},DatVs X.K H xs ds->Vals xs us->∃as,ReadsAll s.heap us ds as
 | _,_,_,.nil,r=>by cases r;exact⟨_,.nil⟩
 | _,_,_,.cons h hs,r=>by
  cases r with
  | cons r1 r2 =>
   obtain⟨as,ra⟩:=DatV.reads I h r1
   obtain⟨bs,rb⟩:=DatVs.reads I hs r2
   exact⟨_,.cons ra rb⟩
end
theorem DatVs.length {K:PySem.W.Frag}{H:Hp}:∀{xs:List V} {ds:List PyData},DatVs K H xs ds->xs.length=ds.length
 | _,_,.nil=>rfl
 | _,_,.cons _ hs=>by rw[List.length_cons,List.length_cons,DatVs.length hs]
theorem DatVs.get {K:PySem.W.Frag}{H:Hp}:∀{xs:List V} {ds:List PyData} {i:Nat} {x:V},DatVs K H xs ds->xs[i]?=some x->∃d,ds[i]?=some d/\DatV K H x d
 | _,_,_,_,.nil,e=>by simp at e
 | _,_,0,_,.cons h _,e=>by simp at e;subst e;exact⟨_,rfl,h⟩
 | _,_,i+1,x,.cons _ hs,e=>by
  obtain⟨d,h1,h2⟩:=DatVs.get (i:=i) (x:=x) hs (by simpa using e)
  exact⟨d,by simpa using h1,h2⟩
theorem DatVs.snoc {K:PySem.W.Frag}{H:Hp}{x:V}{d:PyData}(h:DatV K H x d):∀{xs:List V} {ds:List PyData},DatVs K H xs ds->DatVs K H (xs++[x]) (ds++[d])
 | _,_,.nil=>.cons h .nil
 | _,_,.cons h' hs=>.cons h' (DatVs.snoc h hs)
def zM (K:PySem.W.Frag):R2:=fun x y H Q=>∃da db,DatV K H x da/\DatV K H y db/\da.canLay0=true/\db.canLay0=true/\min da.depth db.depth≤60/\Q (.bl (PyData.eqv da db)) H
def BC (K:PySem.W.Frag):R2:=fun x y H Q=>∃da db,DatV K H x da/\DatV K H y db/\da.canLay0=true/\db.canLay0=true/\min da.depth db.depth≤60/\Q (.bl (!PyData.eqv da db)) H
theorem mm {X:Cx}(hu:X.A.units+64<cLine):bq X (compareOp .Eq) (zM X.K):=by
 intro pins s σ H x y v u Q I rx ry h
 obtain⟨da,db,h1,h2,l1,l2,hd,q⟩:=h
 obtain⟨as,ra⟩:=h1.reads I rx
 obtain⟨bs,rb⟩:=h2.reads I ry
 exact SeqAt.compareEq_reads ra rb l1 l2 (by omega) ⟨.bl _,H,I,rfl,q⟩
theorem wZ {X:Cx}(hu:X.A.units+64<cLine):bq X (compareOp .NotEq) (BC X.K):=by
 intro pins s σ H x y v u Q I rx ry h
 obtain⟨da,db,h1,h2,l1,l2,hd,q⟩:=h
 obtain⟨as,ra⟩:=h1.reads I rx
 obtain⟨bs,rb⟩:=h2.reads I ry
 exact SeqAt.compareNe_reads ra rb l1 l2 (by omega) ⟨.bl _,H,I,rfl,q⟩
end L2
namespace L2
open PySem PySem.Spec PyProof.Rows
structure KTab (K:PySem.W.Frag)(w:World)(a:Addr)(kvs:List (Str×V)):Prop where
 ex:∃es n,K.lookup a=some ⟨.type "dict",none,.dict es n,#[]⟩/\PySem.W.KeysLit w.params es.toList/\Paired (fun (p:Str×V) (e:DictEntry)=>(∃t,e.key=.str p.1 t)/\RelV p.2 e.val) kvs es.toList
 lo:(a == sysModules)=false
theorem mz {kvs:List (Str×V)}{es:List DictEntry}(r:Paired (fun (p:Str×V) (e:DictEntry)=>(∃t,e.key=.str p.1 t)/\RelV p.2 e.val) kvs es)(x:Str):RelO (kvs.lookup x) (findBy Value.isStrOf es.toArray x):=by
 unfold findBy
 rw[List.find?_toArray]
 induction r with
 | nil=>exact True.intro
 | @cons p e ps qs h t ih =>
  obtain⟨⟨tk,hk⟩,hv⟩:=h
  rw[List.lookup_cons,List.find?_cons,hk]
  by_cases q:x=p.1
  ·subst q
   simp only[beq_self_eq_true]
   have:Value.isStrOf p.1 (.str p.1 tk)=true:=by simp[Value.isStrOf]
   rw[this]
   exact hv
  ·have h1:(x == p.1)=false:=by simpa using q
   have h2:Value.isStrOf x (.str p.1 tk)=false:=by
    simp only[Value.isStrOf]
    simpa using fun z=>q z.symm
   rw[h1,h2]
   exact ih
theorem KTab.map {X:Cx}{pins:List (Addr×Obj)}{σ:St}{H:Hp}{s:Shared}{a:Addr}{kvs:List (Str×V)}(T:KTab X.K X.w a kvs)(I:Inv X pins σ H s) :
  ∃f:Str->Option Value,s.heap.MapOf (strKind X.prog X.w) a f/\∀x,RelO (kvs.lookup x) (f x):=by
 obtain⟨es,n,hl,hk,r⟩:=T.ex
 refine⟨_,PySem.W.mapOf_K (prog:=X.prog) I.kIn hl hk,fun x=>?_⟩
 have:=mz r x
 simpa using this
section
variable {X:Cx}{o e f:Expr}{apos cpos pos:Pos}{td ty tx:TE}
theorem MapOf.dict {h:Heap}{P:Program}{w:World}{a:Addr}{f:Str->Option Value}(m:h.MapOf (strKind P w) a f):∀b,Value.ref a=.ref b->∃ob,h.get? b=some ob/\ob.dict=none:=fun b q=>by
 cases q
 obtain⟨ob,_,_,h1,h2,_⟩:=m
 exact⟨ob,h1,h2.2.1⟩
def BR (K:PySem.W.Frag)(w:World):R2:=fun x y H Q=>∃a kvs k v,x=.ref a/\y=.str k/\KTab K w a kvs/\kvs.lookup k=some v/\Q v H
theorem uD:vi X (BR X.K X.w):=by
 intro value slice pins s σ H x y v u Q I rx ry h hs
 obtain⟨a,kvs,k,z,rfl,rfl,T,hl,q⟩:=h
 cases rx
 obtain⟨t,rfl⟩:=ry
 obtain⟨f2,m2,r2⟩:=T.map I
 obtain⟨w',hw,rw'⟩:=RelO.some_of (v:=z) (o:=f2 k) (by rw[<-hl];exact r2 k)
 exact tail_any m2.typeIs slot_dict_getitem.lookup (wpAny_getItem_of (strKind_is X.prog X.w k t) m2 hw ⟨z,H,I.tok _,rw',q⟩) hs
end
end L2
namespace L2
open PySem PySem.Spec PyProof.Rows
section
variable {X:Cx}{a b c e o:Expr}{ta tb tc te:TE}{pos p:Pos}
def jd (i:Nat):TE:=fun σ H Q=>match σ[i]? with
 | some (some v)=>Q v H
 | _=>False
theorem vz (i:Nat):jd i=za i:=by
 funext σ H Q
 refine propext ⟨fun h=>?_,fun⟨v,e,h⟩=>?_⟩
 ·unfold jd at h
  split at h
  ·exact⟨_,‹_›,h⟩
  ·exact h.elim
 ·unfold jd
  rw[e]
  exact h
theorem pn (i:Nat){x:Str}{pos:Pos}(hN:X.N[i]?=some x:=by rfl)(hv:zI X.env.scope x:=by first | exact Or.inl rfl | exact Or.inr (Or.inl rfl) | exact Or.inr (Or.inr rfl))(hd:(x == ("__debug__":Str))=false:=by decide)
  (hcd:(x == ("__classdict__":Str))=false:=by decide):PE X (.Name x pos) (jd i):=by
 rw[vz]
 exact qx hN hv hd hcd
def fJ (t:TE):TT:=fun σ H Q=>t σ H fun x H'=>match x with
 | .bl k=>Q k H'
 | _=>False
theorem iC (t:TE):fJ t=nE t:=by
 funext σ H Q
 unfold fJ nE
 congr 1
 funext x H'
 refine propext ⟨fun h=>?_,fun⟨k,e,h⟩=>?_⟩
 ·split at h
  ·exact⟨_,rfl,h⟩
  ·exact h.elim
 ·subst e
  exact h
theorem p0 (t:TE):fJ t=tB t:=by rw[iC];rfl
theorem vw {op:CmpOp}{r:R2}(ho:bq X (compareOp op) r)(ha:PE X a ta)(hb:PE X b tb)(hm:behindInMarks op b=false:=by first | exact mV _ | rfl):PT X (.Compare a [op] [b] pos) (fJ (vV r ta tb)):=by
 rw[iC]
 exact uC ho ha hb hm
theorem pE {op op':CmpOp}{r r':R2}(ho:bq X (compareOp op) r)(ho':bq X (compareOp op') r')(ha:PE X a ta)(hb:PE X b tb)(hc:PE X c tc)
  (hm:lastMarks [op,op'] [b,c]=false:=by with_unfolding_all rfl):PT X (.Compare a [op,op'] [b,c] pos) (fJ (kl r r' ta tb tc)):=by
 rw[iC]
 exact ti ho ho' ha hb hc hm
theorem tW {e:Expr}{t:TE}(h:PE X e t)(he:∀whole,isTrue e X.env whole=(do let v<-whole;standAt e.pos;holding [v] (truthy v)):=by intro _;rfl):PT X e (fJ t):=by
 rw[p0]
 exact yy h he
def xX (K:PySem.W.Frag)(t:TE):TT:=fun σ H Q=>t σ H fun x H'=>∃k,zq K x H' k/\Q k H'
def uA (ta tb:TE):TE:=fun σ H Q=>ta σ H fun x H1=>match x with
 | .bl c=>if c=true then Q (.bl true) H1 else tb σ H1 Q
 | _=>False
theorem uU (ta tb:TE):uA ta tb=xW ta tb:=by
 funext σ H Q
 unfold uA xW
 congr 1
 funext x H'
 refine propext ⟨fun h=>?_,fun⟨k,e,h⟩=>?_⟩
 ·split at h
  ·exact⟨_,rfl,h⟩
  ·exact h.elim
 ·subst e;exact h
theorem zw {bI:List Expr}(ha:PE X a ta)(hb:PE X (.BoolOp .Or (b::bI) pos) tb):PE X (.BoolOp .Or (a::b::bI) pos) (uA ta tb):=by rw[uU];exact AO ha hb
def mW (r r':R2)(ta tb tc:TE):TE:=fun σ H Q=>ta σ H fun x H1=>tb σ H1 fun y H2=>r x y H2 fun z H3=>match z with
 | .bl k=>if k=true then tc σ H3 fun w' H4=>r' y w' H4 Q else Q (.bl false) H3
 | _=>False
theorem o7 (r r':R2)(ta tb tc:TE):mW r r' ta tb tc=kl r r' ta tb tc:=by
 funext σ H Q
 unfold mW kl
 congr 1
 funext x H1
 congr 1
 funext y H2
 congr 1
 funext z H3
 refine propext ⟨fun h=>?_,fun⟨k,e,h⟩=>?_⟩
 ·split at h
  ·exact⟨_,rfl,h⟩
  ·exact h.elim
 ·subst e;exact h
def yj (K:PySem.W.Frag):R2:=fun x y H Q=>match x,y with
 | .int i,.int j=>Q (.int (i+j)) H
 | .str i,.str j=>i.length+j.length≤sizeLine/\Q (.str (i++j)) H
 | .ref l,.ref b=>(∃xs zs,H l=some (.lst xs)/\H b=some (.lst zs)/\xs.length+zs.length≤sizeLine/\∀p,H p=none->Q (.ref p) (al H p (.lst (xs++zs)))) \/
   ∃xs ys,SqT K H l xs/\SqT K H b ys/\xs≠[]/\xs.length+ys.length≤sizeLine/\(ys=[]->Q (.ref l) H)/\(ys≠[]->∀p,H p=none->Q (.ref p) (al H p (.tup (xs++ys))))
 | _,_=>False
theorem yM {K:PySem.W.Frag}(hK:X.K=K:=by rfl):bq X (binaryOp .Add) (yj K):=by
 subst hK
 intro pins s σ H x y v u Q I rx ry h
 unfold yj at h
 split at h
 ·exact xi pins s σ H _ _ v u Q I rx ry ⟨_,_,rfl,rfl,h⟩
 ·exact nk pins s σ H _ _ v u Q I rx ry ⟨_,_,rfl,rfl,h.1,h.2⟩
 ·rcases h with⟨xs,zs,h1,h2,h3,h4⟩ | ⟨xs,ys,h1,h2,h3,h4,h5,h6⟩
  ·exact yW pins s σ H _ _ v u Q I rx ry ⟨_,_,xs,zs,rfl,rfl,h1,h2,h3,h4⟩
  ·exact ud pins s σ H _ _ v u Q I rx ry ⟨_,_,xs,ys,rfl,rfl,h1,h2,h3,h4,h5,h6⟩
 ·exact h.elim
def mH:R2:=fun x y H Q=>match x,y with
 | .int i,.int j=>Q (.int (i-j)) H
 | _,_=>False
theorem x0:bq X (binaryOp .Sub) mH:=by
 intro pins s σ H x y v u Q I rx ry h
 unfold mH at h
 split at h
 ·exact xJ pins s σ H _ _ v u Q I rx ry ⟨_,_,rfl,rfl,h⟩
 ·exact h.elim
def zu:R2:=fun x y H Q=>match x,y with
 | .int i,.int j=>CMul i j/\Q (.int (i*j)) H
 | .str z,.int n=>MulOk z n/\Q (.str (Txt.mul z n)) H
 | .ref l,.int k=>∃xs,H l=some (.lst xs)/\-(2 ^ 63)≤k/\k<2 ^ 63/\xs.length*k.toNat≤sizeLine/\∀p,H p=none->Q (.ref p) (al H p (.lst (List.replicate k.toNat xs).flatten))
 | _,_=>False
theorem yE:bq X (binaryOp .Mult) zu:=by
 intro pins s σ H x y v u Q I rx ry h
 unfold zu at h
 split at h
 ·exact yn pins s σ H _ _ v u Q I rx ry ⟨_,_,rfl,rfl,h.1,h.2⟩
 ·exact mB pins s σ H _ _ v u Q I rx ry ⟨_,_,rfl,rfl,h.1,h.2⟩
 ·obtain⟨xs,h1,h2,h3,h4,h5⟩:=h
  exact xU pins s σ H _ _ v u Q I rx ry ⟨_,_,xs,rfl,rfl,h1,h2,h3,h4,h5⟩
 ·exact h.elim
def xY:R2:=fun x y H Q=>match x,y with
 | .int i,.int j=>zV i j/\Q (.int (i / j)) H
 | _,_=>False
theorem xj:bq X (binaryOp .FloorDiv) xY:=by
 intro pins s σ H x y v u Q I rx ry h
 unfold xY at h
 split at h
 ·exact u3 pins s σ H _ _ v u Q I rx ry ⟨_,_,rfl,rfl,h.1,h.2⟩
 ·exact h.elim
def xq:R2:=fun x y H Q=>match x,y with
 | .int i,.int j=>0<j/\Q (.int (i % j)) H
 | _,_=>False
theorem zy:bq X (binaryOp .Mod) xq:=by
 intro pins s σ H x y v u Q I rx ry h
 unfold xq at h
 split at h
 ·exact xV pins s σ H _ _ v u Q I rx ry ⟨_,_,rfl,rfl,h.1,h.2⟩
 ·exact h.elim
def zG (K:PySem.W.Frag)(neg:Bool):R2:=fun x y H Q=>match x,y with
 | .int i,.int j=>Q (.bl (neg^^decide (i=j))) H
 | .str i,.str j=>Q (.bl (neg^^decide (i=j))) H
 | .bl i,.bl j=>Q (.bl (neg^^decide (i=j))) H
 | .ref i,.ref j=>∃da db,DatV K H (.ref i) da/\DatV K H (.ref j) db/\da.canLay0=true/\db.canLay0=true/\min da.depth db.depth≤60/\Q (.bl (neg^^PyData.eqv da db)) H
 | _,_=>False
theorem Aj (hu:X.A.units+64<cLine){K:PySem.W.Frag}(hK:X.K=K:=by rfl):bq X (compareOp .Eq) (zG K false):=by
 subst hK
 intro pins s σ H x y v u Q I rx ry h
 unfold zG at h
 split at h
 ·refine qw pins s σ H _ _ v u Q I rx ry ⟨rfl,?_⟩
  simpa using h
 ·refine qw pins s σ H _ _ v u Q I rx ry ⟨rfl,?_⟩
  simpa using h
 ·refine qw pins s σ H _ _ v u Q I rx ry ⟨rfl,?_⟩
  simpa using h
 ·obtain⟨da,db,h1,h2,h3,h4,h5,h6⟩:=h
  exact mm hu pins s σ H _ _ v u Q I rx ry ⟨da,db,h1,h2,h3,h4,h5,by simpa using h6⟩
 ·exact h.elim
theorem Bi (hu:X.A.units+64<cLine){K:PySem.W.Frag}(hK:X.K=K:=by rfl):bq X (compareOp .NotEq) (zG K true):=by
 subst hK
 intro pins s σ H x y v u Q I rx ry h
 unfold zG at h
 split at h
 ·refine rX pins s σ H _ _ v u Q I rx ry ⟨rfl,?_⟩
  simpa using h
 ·refine rX pins s σ H _ _ v u Q I rx ry ⟨rfl,?_⟩
  simpa using h
 ·refine rX pins s σ H _ _ v u Q I rx ry ⟨rfl,?_⟩
  simpa using h
 ·obtain⟨da,db,h1,h2,h3,h4,h5,h6⟩:=h
  exact wZ hu pins s σ H _ _ v u Q I rx ry ⟨da,db,h1,h2,h3,h4,h5,by simpa using h6⟩
 ·exact h.elim
def BV:R2:=fun x y H Q=>match x,y with
 | .int i,.int j=>Q (.bl (decide (i<j))) H
 | .str i,.str j=>Q (.bl (decide (i.cps.toList<j.cps.toList))) H
 | _,_=>False
theorem Ap:bq X (compareOp .Lt) BV:=by
 intro pins s σ H x y v u Q I rx ry h
 unfold BV at h
 split at h
 ·exact A1 pins s σ H _ _ v u Q I rx ry ⟨_,_,rfl,rfl,h⟩
 ·exact pA pins s σ H _ _ v u Q I rx ry ⟨_,_,rfl,rfl,h⟩
 ·exact h.elim
def BI:R2:=fun x y H Q=>match x,y with
 | .int i,.int j=>Q (.bl (decide (i≤j))) H
 | .str i,.str j=>Q (.bl (!decide (j.cps.toList<i.cps.toList))) H
 | _,_=>False
theorem Ah:bq X (compareOp .LtE) BI:=by
 intro pins s σ H x y v u Q I rx ry h
 unfold BI at h
 split at h
 ·exact A7 pins s σ H _ _ v u Q I rx ry ⟨_,_,rfl,rfl,h⟩
 ·exact pW pins s σ H _ _ v u Q I rx ry ⟨_,_,rfl,rfl,h⟩
 ·exact h.elim
def B6:R2:=fun x y H Q=>match x,y with
 | .int i,.int j=>Q (.bl (decide (j<i))) H
 | _,_=>False
theorem Ac:bq X (compareOp .Gt) B6:=by
 intro pins s σ H x y v u Q I rx ry h
 unfold B6 at h
 split at h
 ·exact Aa pins s σ H _ _ v u Q I rx ry ⟨_,_,rfl,rfl,h⟩
 ·exact h.elim
def Bz (K:PySem.W.Frag)(neg:Bool):R2:=fun x y H Q=>match y with
 | .str j=>(match x with
  | .str i=>Q (.bl (neg^^!(Builtin.Str.occurrences j i 0 j.length 1).isEmpty)) H
  | _=>False)
 | .ref p=>∃xs,(SqL K H p xs\/SqT K H p xs)/\cw x=true/\xs.all cw=true/\Q (.bl (neg^^vU x xs)) H
 | _=>False
theorem vY {K:PySem.W.Frag}(hK:X.K=K:=by rfl):bq X (compareOp .In) (Bz K false):=by
 subst hK
 intro pins s σ H x y v u Q I rx ry h
 unfold Bz at h
 split at h
 ·split at h
  ·refine oQ pins s σ H _ _ v u Q I rx ry ⟨_,_,rfl,rfl,?_⟩
   simpa using h
  ·exact h.elim
 ·obtain⟨xs,h1,h2,h3,h4⟩:=h
  exact oU pins s σ H _ _ v u Q I rx ry ⟨_,xs,rfl,h1,h2,h3,by simpa using h4⟩
 ·exact h.elim
theorem lJ {K:PySem.W.Frag}(hK:X.K=K:=by rfl):bq X (compareOp .NotIn) (Bz K true):=by
 subst hK
 intro pins s σ H x y v u Q I rx ry h
 unfold Bz at h
 split at h
 ·split at h
  ·refine ko pins s σ H _ _ v u Q I rx ry ⟨_,_,rfl,rfl,?_⟩
   simpa using h
  ·exact h.elim
 ·obtain⟨xs,h1,h2,h3,h4⟩:=h
  exact j6 pins s σ H _ _ v u Q I rx ry ⟨_,xs,rfl,h1,h2,h3,by simpa using h4⟩
 ·exact h.elim
def zH (neg:Bool):R2:=fun x y H Q=>match y with
 | .non=>(match x with
  | .non=>Q (.bl (neg^^true)) H
  | _=>Q (.bl (neg^^false)) H)
 | _=>False
theorem zO:bq X (compareOp .Is) (zH false):=by
 intro pins s σ H x y v u Q I rx ry h
 unfold zH at h
 split at h
 ·refine xM pins s σ H _ _ v u Q I rx ry ⟨rfl,?_⟩
  split at h
  ·exact h
  ·rename_i hn
   have e:decide (x=V.non)=false:=decide_eq_false hn
   rw[e]
   exact h
 ·exact h.elim
theorem sW:bq X (compareOp .IsNot) (zH true):=by
 intro pins s σ H x y v u Q I rx ry h
 unfold zH at h
 split at h
 ·refine vy pins s σ H _ _ v u Q I rx ry ⟨rfl,?_⟩
  split at h
  ·exact h
  ·rename_i hn
   have e:decide (x=V.non)=false:=decide_eq_false hn
   rw[e]
   exact h
 ·exact h.elim
def Bt (K:PySem.W.Frag)(w:World):R2:=fun x y H Q=>match x,y with
 | .ref q,.int i=>(∃xs v,SqL K H q xs/\mh xs i=some v/\Q v H)\/∃xs v,SqT K H q xs/\mh xs i=some v/\Q v H
 | .str z,.int i=>z.length≤sizeLine/\∃c,mh z.cps.toList i=some c/\Q (.str ⟨#[c]⟩) H
 | .ref q,.str k=>(∃kvs v,KTab K w q kvs/\kvs.lookup k=some v/\Q v H)\/∃(kvs:List (bC×V)) (v:V),H q=some (.dK kvs)/\d7 kvs (Sum.inr k)=some v/\Q v H
 | _,_=>False
theorem zZ (hu:X.A.units+64<cLine){K:PySem.W.Frag}{w:World}(hK:X.K=K:=by rfl)(hw:X.w=w:=by rfl):vi X (Bt K w):=by
 subst hK
 subst hw
 intro value slice pins s σ H x y v u Q I rx ry h hs
 unfold Bt at h
 split at h
 ·rcases h with⟨xs,z,h1,h2,h3⟩ | ⟨xs,z,h1,h2,h3⟩
  ·exact vI value slice pins s σ H _ _ v u Q I rx ry ⟨_,xs,_,z,rfl,rfl,h1,h2,h3⟩ hs
  ·exact zt value slice pins s σ H _ _ v u Q I rx ry ⟨_,xs,_,z,rfl,rfl,h1,h2,h3⟩ hs
 ·obtain⟨hz,c,h1,h2⟩:=h
  exact wN value slice pins s σ H _ _ v u Q I rx ry ⟨_,_,c,rfl,rfl,hz,h1,h2⟩ hs
 ·rcases h with⟨kvs,z,h1,h2,h3⟩ | ⟨kvs,z,h1,h2,h3⟩
  ·exact uD value slice pins s σ H _ _ v u Q I rx ry ⟨_,kvs,_,z,rfl,rfl,h1,h2,h3⟩ hs
  ·cases rx
   have hd:=oh I.hok h1
   obtain⟨_,_,vs,_,dd⟩:=hd
   exact tail_any dd.typeIs slot_dict_getitem.lookup (pL (y:=kV (Sum.inr _)) (v:=z) (by omega) I (.inl ⟨kvs,_,.inl h1,rfl,h2.symm⟩) ry fun w' s' I' rw'=>⟨z,H,I',rw',h3⟩) hs
 ·exact h.elim
def nY (t:TE):TO:=fun σ H Q=>t σ H fun x H1=>match x with
 | .int i=>Q (some i) H1
 | _=>False
theorem qR (t:TE):nY t=qA t:=by
 funext σ H Q
 unfold nY qA
 congr 1
 funext x H'
 refine propext ⟨fun h=>?_,fun⟨k,e,h⟩=>?_⟩
 ·split at h
  ·exact⟨_,rfl,h⟩
  ·exact h.elim
 ·subst e;exact h
theorem sq (h:PE X e te):PO X (some e) (nY te):=by rw[qR];exact uN h
def uI (K:PySem.W.Frag):List V->Hp->VK->Prop:=fun xs H Q=>match xs with
 | [.str y]=>y.length≤sizeLine/\Q (.int y.length) H
 | [.ref p]=>∃ys,(SqL K H p ys\/SqT K H p ys)/\Q (.int ys.length) H
 | _=>False
theorem xg {K:PySem.W.Frag}(hK:X.K=K:=by rfl):ba X (.builtin "len") (uI K):=by
 subst hK
 intro pins s σ H xs us Q I r h
 unfold uI at h
 split at h
 ·exact j5 pins s σ H _ us Q I r ⟨_,rfl,h.1,h.2⟩
 ·obtain⟨ys,h1,h2⟩:=h
  exact j9 pins s σ H _ us Q I r ⟨_,ys,rfl,h1,h2⟩
 ·exact h.elim
def nX (K:PySem.W.Frag):List V->Hp->VK->Prop:=fun xs H Q=>match xs with
 | [.ref p]=>∃ys,(SqL K H p ys\/SqT K H p ys)/\∀l,H l=none->Q (.ref l) (al H l (.lst ys))
 | _=>False
theorem vb {K:PySem.W.Frag}(hK:X.K=K:=by rfl):ba X (.type "list") (nX K):=by
 subst hK
 intro pins s σ H xs us Q I r h
 unfold nX at h
 split at h
 ·obtain⟨ys,h1,h2⟩:=h
  exact jT pins s σ H _ us Q I r ⟨_,ys,rfl,h1,h2⟩
 ·exact h.elim
def j4:V->List V->Hp->VK->Prop:=fun x vs H Q=>match x,vs with
 | .ref l,[y]=>∃xs,H l=some (.lst xs)/\xs.length<sizeLine/\Q .non (al H l (.lst (xs++[y])))
 | _,_=>False
theorem qb:qe X "list.append" j4:=by
 intro pins s σ H x xs v us Q I rx rs h
 unfold j4 at h
 split at h
 ·obtain⟨ys,h1,h2,h3⟩:=h
  exact qa pins s σ H _ _ v us Q I rx rs ⟨_,ys,_,rfl,rfl,h1,h2,h3⟩
 ·exact h.elim
end
end L2
namespace L2
open PySem PySem.Spec PyProof.Rows
section
variable {X:Cx}{tg:Expr}
def zT (K:PySem.W.Frag)(tl:TE):TI:=fun σ H R=>tl σ H fun x H1=>match x with
 | .str z=>R (Cj z) H1
 | .ref a=>((∃xs,SqL K H1 a xs)/\R (zC K a) H1)\/((∃xs,SqT K H1 a xs)/\R (Bv K a) H1)
 | _=>False
theorem x8 {l:Expr}{tl:TE}(hl:PE X l tl){K:PySem.W.Frag}(hK:X.K=K:=by rfl):PI X tg l (zT K tl):=by
 subst hK
 intro pins s σ H R I h
 refine bh (hl pins s σ H _ I h) fun v s1 ⟨x,H1,I1,r1,q1⟩=>?_
 dsimp only at q1
 split at q1
 ·rename_i z
  obtain⟨t,rfl⟩:=r1
  have fin:∀b∈[s1.heap.objs.size],dr X pins H1 b:=fun b hb=>by
   have e:b=s1.heap.objs.size:=by simpa using hb
   subst e
   exact I1.fpOk (Nat.le_refl _) (I1.hok.fresh (Nat.le_refl _))
  cases ha:z.cps.all (·<128)
  ·refine wpAny_pyIter_wide ha ?_
   exact⟨s1.heap.objs.size,[s1.heap.objs.size],_,_,H1,rfl,I1.kept (t':=s1.toks) fun b o e=>Heap.get?_push_of_some _ e,
    lL "str_iterator" _ z t (fun A' hA=>Walks.strWide hA _ z t) (fun A i s Q E st h=>wpAny_pyIter_striter_wide st h) (by decide),⟨_,Heap.get?_push_size _ rfl,rfl,rfl⟩,fin,q1⟩
  ·refine wpAny_pyIter_ascii ha ?_
   exact⟨s1.heap.objs.size,[s1.heap.objs.size],_,_,H1,rfl,I1.kept (t':=s1.toks) fun b o e=>Heap.get?_push_of_some _ e,
    lL "str_ascii_iterator" _ z t (fun A' hA=>Walks.strAscii hA _ z t) (fun A i s Q E st h=>wpAny_pyIter_striter_ascii st h) (by decide),⟨_,Heap.get?_push_size _ rfl,rfl,rfl⟩,fin,q1⟩
 ·rename_i a
  cases r1
  have fin:∀b∈[s1.heap.objs.size],dr X pins H1 b:=fun b hb=>by
   have e:b=s1.heap.objs.size:=by simpa using hb
   subst e
   exact I1.fpOk (Nat.le_refl _) (I1.hok.fresh (Nat.le_refl _))
  rcases q1 with⟨⟨xs,hq⟩,q⟩ | ⟨⟨xs,hq⟩,q⟩
  ·obtain⟨its,rv,p,hz⟩:=I1.list hq
   refine wpAny_pyIter_list p.isList ?_
   exact⟨s1.heap.objs.size,[s1.heap.objs.size],_,_,H1,rfl,I1.kept (t':=s1.toks) fun b o e=>Heap.get?_push_of_some _ e,pZ a _,⟨_,Heap.get?_push_size _ rfl,rfl,rfl⟩,fin,q⟩
  ·obtain⟨its,rv,p,hz⟩:=I1.tuple hq
   refine wpAny_pyIter_tuple (show s1.heap.IsTuple a its.toArray from p) ?_
   exact⟨s1.heap.objs.size,[s1.heap.objs.size],_,_,H1,rfl,I1.kept (t':=s1.toks) fun b o e=>Heap.get?_push_of_some _ e,mK a _,⟨_,Heap.get?_push_size _ rfl,rfl,rfl⟩,fin,q⟩
 ·exact q1.elim
def oO (ta:TA):TI:=fun σ H R=>ta σ H fun vs H1=>match vs with
 | [.int j]=>-(2 ^ 62)≤j/\j<2 ^ 62/\R (wv 0 j.toNat) H1
 | _=>False
theorem rU (ta:TA):oO ta=tE ta:=by
 funext σ H R
 unfold oO tE
 congr 1
 funext vs H'
 refine propext ⟨fun h=>?_,fun⟨k,e,h⟩=>?_⟩
 ·split at h
  ·exact⟨_,rfl,h⟩
  ·exact h.elim
 ·subst e;exact h
theorem uo {a:Expr}{ta:TA}{p pos:Pos}(hg:Gl X "range")(hm:X.mg "range"=none)(ha:PA X [a] ta)(hs:starEach [a] X.env=[(false,eval a X.env)]:=by rfl):PI X tg (.Call (.Name "range" p) [a] [] pos) (oO ta):=by
 rw[rU];exact pR hg hm ha hs
def bz:Expr->Bool
 | .Starred ..=>false
 | _=>true
def aD:List Expr->Bool
 | []=>true
 | e::r=>bz e&&aD r
theorem az {e:Expr}{es:List Expr}{env:Env}(h:bz e=true):starEach (e::es) env=(false,eval e env)::starEach es env:=by
 cases e<;>first | rfl | exact absurd h Bool.false_ne_true
theorem eS:∀{es:List Expr} {env:Env},aD es=true->∀x∈starEach es env,x.1=false
 | [],env,_,x,hx=>by
  have:starEach [] env=[]:=rfl
  rw[this]at hx
  exact nomatch hx
 | e::r,env,h,x,hx=>by
  have h':bz e=true/\aD r=true:=by simpa[aD] using h
  rw[az h'.1]at hx
  rcases List.mem_cons.mp hx with q | q
  ·rw[q]
  ·exact eS h'.2 x q
theorem cP {es:List Expr}{env:Env}{pos:Pos}(h:aD es=true):(backTo pos (starEach es env)).any (·.1)=false:=by
 rw[List.any_eq_false]
 intro x hx
 unfold backTo at hx
 obtain⟨y,hy,e⟩:=List.mem_map.mp hx
 have:=eS h y hy
 obtain⟨b,t⟩:=y
 dsimp only at e this
 rw[<-e,this]
 exact Bool.false_ne_true
theorem ql {es:List Expr}{env:Env}{pos:Pos}(h:aD es=true):(backTo pos (starEach es env)).all (fun x=>!x.1)=true:=by
 rw[List.all_eq_true]
 intro x hx
 unfold backTo at hx
 obtain⟨y,hy,e⟩:=List.mem_map.mp hx
 have:=eS h y hy
 obtain⟨b,t⟩:=y
 dsimp only at e this
 rw[<-e,this]
 rfl
def dN:Expr->Bool
 | .Call (.Name _ _) [] [] _=>false
 | _=>true
theorem fu {o:Expr}{attr:Str}{env:Env}{whole:Sem Value}(h:dN o=true):attributeBase o attr env whole=whole:=by
 unfold attributeBase
 split
 ·exact absurd h Bool.false_ne_true
 ·rfl
theorem rN {es:List Expr}{t:TA}(ha:PE X e te)(hr:PA X es t)(h:bz e=true:=by rfl):PA X (e::es) (i3 te t):=um ha hr (az h)
theorem px {x:Str}{id:String}{r:List V->Hp->VK->Prop}{es:List Expr}{t:TA}{p pos:Pos}(hc:ba X (.builtin id) r)(hg:Gl X x)(hm:X.mg x=none)(hv:bootBuiltins x=some (.builtin id))(ha:PA X (e::es) t)(hn:x≠"__name__":=by decide)(hdb:(x == ("__debug__":Str))=false:=by decide)
  (h:aD (e::es)=true:=by rfl):PE X (.Call (.Name x p) (e::es) [] pos) (zE r t):=by
 have h':bz e=true/\aD es=true:=by simpa[aD] using h
 exact qG hc hg hm hv ha hn hdb (az h'.1) (cP h'.2)
theorem mR {x:Str}{T:String}{r:List V->Hp->VK->Prop}{es:List Expr}{t:TA}{p pos:Pos}(hc:ba X (.type T) r)(hg:Gl X x)(hm:X.mg x=none)(hv:bootBuiltins x=some (.type T))(ha:PA X (e::es) t)(hn:x≠"__name__":=by decide)(hdb:(x == ("__debug__":Str))=false:=by decide)
  (h:aD (e::es)=true:=by rfl):PE X (.Call (.Name x p) (e::es) [] pos) (zE r t):=by
 have h':bz e=true/\aD es=true:=by simpa[aD] using h
 exact pY hc hg hm hv ha hn hdb (az h'.1) (cP h'.2)
theorem xH {K:PySem.W.Frag}{o e:Expr}{es:List Expr}{to:TE}{t:TA}{name:Str}{apos cpos:Pos}{T id:String}{r:V->List V->Hp->VK->Prop}(pa:PlainAttrs T)(slot:Slot T name id)(hty:typeOf (.builtin id)=pure (.type "method_descriptor"))(hm:qe X id r)(ho:PE X o to)(ha:PA X (e::es) t)(hK:X.K=K:=by rfl)
  (hsup:dN o=true:=by rfl) (h:aD (e::es)=true:=by rfl) (h30:(e::es).length<30:=by decide) (hline:(apos.endLine == cpos.line)=true:=by rfl) :
  PE X (.Call (.Attribute o name apos) (e::es) [] cpos) (BY K T r to t):=by
 subst hK
 have h':bz e=true/\aD es=true:=by simpa[aD] using h
 refine A2 pa slot hty hm ho ha (fu hsup) ?_ hline (az h'.1) (cP h'.2)
 rw[ql h]
 have e0:keywordEach [] X.env=[]:=rfl
 rw[e0]
 simpa[backToKw] using h30
theorem vd {K:PySem.W.Frag}{o:Expr}{to:TE}{name:Str}{apos cpos:Pos}{T id:String}{r:V->List V->Hp->VK->Prop}(pa:PlainAttrs T)(slot:Slot T name id)(hty:typeOf (.builtin id)=pure (.type "method_descriptor"))(hm:qe X id r)(ho:PE X o to)(hK:X.K=K:=by rfl)
  (hsup:dN o=true:=by rfl) (hline:(apos.endLine == cpos.line)=true:=by rfl):PE X (.Call (.Attribute o name apos) [] [] cpos) (xo K T r to):=by
 subst hK
 exact yt pa slot hty hm ho (fu hsup) hline
theorem vP {K:PySem.W.Frag}{es:List Expr}{k:Nat}{t:sf}{n:Nat}{pos:Pos}(hc:X.calm=true)(h:zA X es t)(hK:X.K=K:=by rfl)
  (hn:(assignEach es X.env).length=n:=by rfl) (hst:(assignEach es X.env).findIdx? (·.1)=none:=by rfl):PG X (.Tuple es k pos) (yf K n t):=by
 subst hK
 exact yQ hc h hn hst
structure Def (P:Program)(w:World)(K:PySem.W.Frag)(mg:Str->Option Value)(base:Heap)(k:Nat)(x:Str)(ps:List Str)(sp:Sp):Prop where
 ex:∃f fd,mg x=some (.ref f)/\PySem.W.keepIn K (.ref f)=true/\(∃oc od osl,K.lookup f=some ⟨oc,od,.func fd,osl⟩)/\Binds K fd ps []/\FnOk P w K mg base CX0 k f fd ps sp
theorem wW {k:Nat}{x:Str}{ps:List Str}{sp:Sp}{e:Expr}{es:List Expr}{t:TA}{p pos:Pos}(D:Def X.prog X.w X.K X.mg X.base k x ps sp)(hr:Room k X.A)(hg:Gl X x)(ha:PA X (e::es) t)(hdb:(x == ("__debug__":Str))=false:=by decide)
  (hst:aD (e::es)=true:=by rfl) (hx:dc CX0 X E0:=by exact Ao) :
  PE X (.Call (.Name x p) (e::es) [] pos) (fun σ H Q=>t σ H fun vs H1=>sp vs H1 Q E0):=by
 obtain⟨f,fd,mgf,kp,_,b,G⟩:=D.ex
 have h':bz e=true/\aD es=true:=by simpa[aD] using hst
 have he:=az (es:=es) (env:=X.env) h'.1
 have hpl:=cP (env:=X.env) (pos:=pos) h'.2
 have h:=nq (X:=X) (dvs:=[]) (E:=E0) (p:=p) (pos:=pos) G hr hg mgf kp b .nil hx ha hdb he hpl
 intro pins s σ H Q I hq
 refine h pins s σ H Q I ?_
 show t σ H fun vs H1=>sp (vs++[]) H1 Q E0
 have e1:(fun (vs:List V) H1=>sp (vs++[]) H1 Q E0)=fun vs H1=>sp vs H1 Q E0:=by funext vs H1;rw[List.append_nil]
 rw[e1]
 exact hq
end
theorem Fun.lk {K:PySem.W.Frag}{x qual:Str}{st:Stmt}{f:Addr}{fd:FuncData}(F:Fun K x qual st f fd):∃oc od osl,K.lookup f=some ⟨oc,od,.func fd,osl⟩:=by
 obtain⟨oc,od,kV,doc,pm,an,cdv,ct,osl,_,lk,_⟩:=F.ex
 exact⟨oc,od,osl,lk⟩
structure Raw (K:PySem.W.Frag)(mg:Str->Option Value)(x:Str)(st:Stmt)(ps:List Str):Prop where
 ex:∃f fd,mg x=some (.ref f)/\Fun K x x st f fd/\∀(us:List Value),us.length=ps.length->bindArgs fd ⟨us,[]⟩=pure (ps.zip us)
theorem Raw.mk' {K:PySem.W.Frag}{mg:Str->Option Value}{h:Heap}{x:Str}{st:Stmt}{ps:List Str}{f:Addr}{oc:Value}{od an:Option Addr}{osl:Array (Option Value)}{kV doc pm cdv ct:Value}(X:K.In h)(G:h.Ns mainGlobals mg)
  (a:PySem.W.nsIn K mainGlobals x=some (some (.ref f))) (l:K.lookup f=some ⟨oc,od,.func (PySem.W.fnOf x x (cu st) (bp st) (ak st) .none kV doc pm an cdv ct),osl⟩)
  (c:PySem.W.codeIn K cdv x=true) (k:PySem.W.keepIn K (.ref f)=true)
  (hb:∀(us:List Value),us.length=ps.length->bindArgs (PySem.W.fnOf x x (cu st) (bp st) (ak st) .none kV doc pm an cdv ct) ⟨us,[]⟩=pure (ps.zip us)):Raw K mg x st ps :=
 ⟨⟨f,_,PySem.W.mg_of X G a,yK l c k,hb⟩⟩
theorem Raw.def {P:Program}{w:World}{K:PySem.W.Frag}{mg:Str->Option Value}{base:Heap}{x:Str}{st:Stmt}{N ps:List Str}{k:Nat}{sp:Sp}(R:Raw K mg x st ps)(S:ax N ps (ak st))(len:∀vs H Q E,sp vs H Q E->vs.length=ps.length)
  (hbody:∀(f:Addr) (cdv:Value) (A:Around) (outer:List Env) (s:Shared) (H:Hp) (vs:List V) (Q:VK) (E:XK),Room k (A.deeper (envOfC x (ak st) s.heap.objs.size f cdv))->sp vs H Q E ->
   ∃t,PSs (bN CX0 P w K mg base N x (ak st) f cdv A outer s H E).nox (bp st) t/\t { nx:=fun _ H'=>Q .non H',rt:=Q } (dB N vs) H):Def P w K mg base (k+1) x ps sp:=by
 obtain⟨f,fd,h1,F,b⟩:=R.ex
 exact⟨f,fd,h1,F.kp,F.lk,.all b,F.ok S len (fun cdv=>hbody f cdv)⟩
theorem Def.at {P:Program}{w:World}{K:PySem.W.Frag}{mg:Str->Option Value}{base:Heap}{k:Nat}{x:Str}{ps:List Str}{sp:Sp}{f:Addr}{fd:FuncData}(D:Def P w K mg base k x ps sp)(h:mg x=some (.ref f))
  (l:∃oc od osl,K.lookup f=some ⟨oc,od,.func fd,osl⟩):FnOk P w K mg base CX0 k f fd ps sp:=by
 obtain⟨f',fd',h',_,⟨oc',od',osl',l'⟩,_,F⟩:=D.ex
 obtain⟨oc,od,osl,l⟩:=l
 cases h.symm.trans h'
 have e:=l.symm.trans l'
 simp only[Option.some.injEq,Obj.mk.injEq,Data.func.injEq]at e
 rw[e.2.2.1]
 exact F
section
variable {K:PySem.W.Frag}{w:World}{mg:Str->Option Value}{h:Heap}{x:Str}
theorem int_mk {i:Int}{t:Tok}(X:K.In h)(G:h.Ns mainGlobals mg)(a:PySem.W.nsIn K mainGlobals x=some (some (.int i t))):∃t,mg x=some (.int i t):=⟨_,PySem.W.mg_of X G a⟩
theorem str_mk {i:Str}{t:Tok}(X:K.In h)(G:h.Ns mainGlobals mg)(a:PySem.W.nsIn K mainGlobals x=some (some (.str i t))):∃t,mg x=some (.str i t):=⟨_,PySem.W.mg_of X G a⟩
theorem tup_mk {b:Addr}{od:Option Addr}{its:Array Value}{n:Nat}{osl:Array (Option Value)}{xs:List V}(X:K.In h)(G:h.Ns mainGlobals mg)(a:PySem.W.nsIn K mainGlobals x=some (some (.ref b)))(l:K.lookup b=some ⟨.type "tuple",od,.seq its n,osl⟩)
  (z:its.size≤sizeLine) (v:Vals xs its.toList):∃t,mg x=some (.ref t)/\∀H,SqT K H t xs :=
 ⟨_,PySem.W.mg_of X G a,fun H=>.inr ⟨_,its,n,l,rfl,rfl,z,v⟩⟩
end
end L2
namespace L2
open PySem PySem.Spec PyProof.Rows
theorem rq {H H':Hp}{p:Addr}{o:HO}(e:Same H H')(h:H p=none):Same H (al H' p o):=fun b u q=>by
 rw[am (aY q h)]
 exact e b u q
theorem ah {H:Hp}{p:Addr}{o:HO}(h:H p=none):Same H (al H p o):=rq (Same.refl H) h
section
variable {cap:List (Option Nat)}{g:TG}{tc:TT}{te:TE}{Q:Addr->Hp->Prop}{σ:St}{H:Hp}
theorem kn {J:It}{n:Nat}{item:Nat->V->Prop}(Pv:Nat->List V->St->Hp->Prop)(hn:n≤1000000)(h0:Pv 0 [] (fV cap σ) H)(hlen:∀i ys σ' H',Pv i ys σ' H'->ys.length≤i)
  (hgo:∀i ys σ' H',i<n->Pv i ys σ' H'->J.go i H') (hyld:∀i ys σ' H' x H2,i<n->Pv i ys σ' H'->J.yld i H' x H2->item i x/\H2=H') (hstop:∀ys σ' H',Pv n ys σ' H'->J.stop n H')
  (hs:∀i x ys σ' H',i<n->item i x->Pv i ys σ' H'->g x σ' H' fun σ3 H3=>tc σ3 H3 fun b H4=>if b=true then te σ3 H4 fun y H5=>Pv (i+1) (ys++[y]) σ3 H5 else Pv (i+1) ys σ3 H4)
  (hd:∀ys σ' H',Pv n ys σ' H'->∀D,H' D=none->Q D (al H' D (.lst ys))):mx J cap g tc te Q σ H:=by
 have big:(1000000:Nat)<sizeLine:=by rw[sizeLine_eq];decide
 refine⟨fun i m ys σ' H'=>m=n-i/\i≤n/\Pv i ys σ' H',⟨n,by simp,Nat.zero_le _,h0⟩,?_⟩
 rintro i m ys σ' H' ⟨rfl,hi,p⟩
 have hl:=hlen i ys σ' H' p
 by_cases hlt:i<n
 ·refine .inr ⟨hgo i ys σ' H' hlt p,by omega,Pv (i+1),fun ys2 σ2 H2 p'=>⟨n-(i+1),by omega,rfl,hlt,p'⟩,fun x H2 y=>?_⟩
  obtain⟨h1,h2⟩:=hyld i ys σ' H' x H2 hlt p y
  subst h2
  exact hs i x ys σ' _ hlt h1 p
 ·have e:i=n:=by omega
  subst e
  exact .inl ⟨hstop ys σ' H' p,by omega,hd ys σ' H' p⟩
theorem ib {lo:Int}{n:Nat}(Pv:Nat->List V->St->Hp->Prop)(hn:n≤1000000)(h0:Pv 0 [] (fV cap σ) H)(hlen:∀i ys σ' H',Pv i ys σ' H'->ys.length≤i)
  (hs:∀i ys σ' H',i<n->Pv i ys σ' H'->g (.int (lo+i)) σ' H' fun σ3 H3=>tc σ3 H3 fun b H4=>if b=true then te σ3 H4 fun y H5=>Pv (i+1) (ys++[y]) σ3 H5 else Pv (i+1) ys σ3 H4)
  (hd:∀ys σ' H',Pv n ys σ' H'->∀D,H' D=none->Q D (al H' D (.lst ys))):mx (wv lo n) cap g tc te Q σ H :=
 kn (item:=fun i x=>x=.int (lo+i)) Pv hn h0 hlen (fun i ys σ' H' hi _=>hi) (fun i ys σ' H' x H2 _ _ y=>⟨y.2,y.1⟩) (fun _ _ _ _=>Nat.le_refl n) (fun i x ys σ' H' hi e p=>by subst e;exact hs i ys σ' H' hi p) hd
theorem cQ {K:PySem.W.Frag}{a:Addr}{xs:List V}(Pv:Nat->List V->St->Hp->Prop)(hn:xs.length≤1000000)(h0:Pv 0 [] (fV cap σ) H)(hlen:∀i ys σ' H',Pv i ys σ' H'->ys.length≤i)
  (hl:∀i ys σ' H',Pv i ys σ' H'->SqL K H' a xs)
  (hs:∀i x ys σ' H',xs[i]?=some x->Pv i ys σ' H'->g x σ' H' fun σ3 H3=>tc σ3 H3 fun b H4=>if b=true then te σ3 H4 fun y H5=>Pv (i+1) (ys++[y]) σ3 H5 else Pv (i+1) ys σ3 H4)
  (hd:∀ys σ' H',Pv xs.length ys σ' H'->∀D,H' D=none->Q D (al H' D (.lst ys))):mx (zC K a) cap g tc te Q σ H :=
 kn (item:=fun i x=>xs[i]?=some x) Pv hn h0 hlen (fun i ys σ' H' hi p=>⟨xs,xs[i],hl i ys σ' H' p,by simp[hi]⟩) (fun i ys σ' H' x H2 _ p y=>⟨y.2 xs (hl i ys σ' H' p),y.1⟩)
  (fun ys σ' H' p=>⟨xs,hl _ ys σ' H' p,Nat.le_refl _⟩) (fun i x ys σ' H' hi e p=>hs i x ys σ' H' e p) hd
end
end L2
namespace L2
open PySem PySem.Spec PyProof.Rows
@[irreducible] def Irr (p:Prop):Prop:=p
theorem Irr.mk {p:Prop}(h:p):Irr p:=by unfold Irr;exact h
theorem Irr.out {p:Prop}(h:Irr p):p:=by unfold Irr at h;exact h
abbrev JE (X:Cx)(e:Expr)(t:TE):Prop:=Irr (PE X e t)
abbrev JT (X:Cx)(e:Expr)(t:TT):Prop:=Irr (PT X e t)
abbrev JW (X:Cx)(e:Expr)(t:TT):Prop:=Irr (PW X e t)
abbrev JA (X:Cx)(es:List Expr)(t:TA):Prop:=Irr (PA X es t)
abbrev JO (X:Cx)(e:Option Expr)(t:TO):Prop:=Irr (PO X e t)
abbrev JS (X:Cx)(st:Stmt)(t:TS):Prop:=Irr (PS X st t)
abbrev qc (X:Cx)(st:List Stmt)(t:TS):Prop:=Irr (PSs X st t)
abbrev JG (X:Cx)(e:Expr)(t:TG):Prop:=Irr (PG X e t)
abbrev Bu (X:Cx)(e:List Expr)(t:sf):Prop:=Irr (zA X e t)
abbrev JI (X:Cx)(tg it:Expr)(t:TI):Prop:=Irr (PI X tg it t)
section
variable {X:Cx}{a b c e f k o v tg it:Expr}{es:List Expr}{ta tb tc te td ty tx tk tv:TE}{tA tB':TT}{t:TA}{u u':TS}{pos pos' p p2 apos cpos spos:Pos}{st:Stmt}{sts sts':List Stmt}{K:PySem.W.Frag}{w:World}
theorem bv (hK:X.K=K:=by rfl):Irr (bq X (binaryOp .Add) (yj K)):=.mk (yM hK)
theorem oH:Irr (bq X (binaryOp .Sub) mH):=.mk x0
theorem jB:Irr (bq X (binaryOp .Mult) zu):=.mk yE
theorem jm:Irr (bq X (binaryOp .FloorDiv) xY):=.mk xj
theorem bO:Irr (bq X (binaryOp .Mod) xq):=.mk zy
theorem yR (hu:X.A.units+64<cLine)(hK:X.K=K:=by rfl):Irr (bq X (compareOp .NotEq) (zG K true)):=.mk (Bi hu hK)
theorem y6:Irr (bq X (compareOp .Lt) BV):=.mk Ap
theorem pc:Irr (bq X (compareOp .LtE) BI):=.mk Ah
theorem Ax:Irr (bq X (compareOp .Gt) B6):=.mk Ac
theorem BK:Irr (bq X (compareOp .Is) (zH false)):=.mk zO
theorem vR:Irr (bq X (compareOp .IsNot) (zH true)):=.mk sW
theorem aU (hu:X.A.units+64<cLine)(hK:X.K=K:=by rfl)(hw:X.w=w:=by rfl):Irr (vi X (Bt K w)):=.mk (zZ hu hK hw)
theorem eI (hK:X.K=K:=by rfl):Irr (ba X (.builtin "len") (uI K)):=.mk (xg hK)
theorem rg (hK:X.K=K:=by rfl):Irr (ba X (.type "list") (nX K)):=.mk (vb hK)
theorem cg:Irr (qe X "list.append" j4):=.mk qb
theorem jn (i:Nat){x:Str}(hN:X.N[i]?=some x:=by rfl)(hv:zI X.env.scope x:=by first | exact Or.inl rfl | exact Or.inr (Or.inl rfl) | exact Or.inr (Or.inr rfl))(hd:(x == ("__debug__":Str))=false:=by decide)
  (hcd:(x == ("__classdict__":Str))=false:=by decide):JE X (.Name x pos) (jd i):=.mk (pn i hN hv hd hcd)
theorem ap {i:Int}{j:Nat}:JE X (.Constant (.int i) j pos) (tC (.int i)):=.mk yV
theorem eV {b:Bool}{j:Nat}:JE X (.Constant (.bool b) j pos) (tC (.bl b)):=.mk Ad
theorem oE {j:Nat}:JE X (.Constant .none j pos) (tC .non):=.mk xw
theorem eG {x:Str}{j:Nat}:JE X (.Constant (.str x) j pos) (tC (.str x)):=.mk wX
theorem eY {x:Str}{v:V}{u:Value}(hg:Gl X x)(hm:X.mg x=some u)(r:RelV v u)(hd:(x == ("__debug__":Str))=false:=by decide):JE X (.Name x pos) (tC v):=.mk (uH hg hm r hd)
theorem iA {x:Str}{v:V}{u:Value}(hg:Gl X x)(hm:X.mg x=none)(hv:bootBuiltins x=some u)(r:RelV v u)(hn:x≠"__name__":=by decide)(hd:(x == ("__debug__":Str))=false:=by decide):JE X (.Name x pos) (tC v):=.mk (uq hg hm hv r hn hd)
theorem aR {op:Operator}{r:R2}(ho:Irr (bq X (binaryOp op) r))(ha:JE X a ta)(hb:JE X b tb):JE X (.BinOp a op b pos) (vV r ta tb):=.mk (Ab ho.out ha.out hb.out)
theorem jQ {op:CmpOp}{r:R2}(ho:Irr (bq X (compareOp op) r))(ha:JE X a ta)(hb:JE X b tb)(hm:behindInMarks op b=false:=by first | exact mV _ | rfl):JE X (.Compare a [op] [b] pos) (vV r ta tb):=.mk (uG ho.out ha.out hb.out hm)
theorem yA (ha:JE X a ta)(hb:JE X (.BoolOp .Or (b::es) pos) tb):JE X (.BoolOp .Or (a::b::es) pos) (uA ta tb):=.mk (zw ha.out hb.out)
theorem tG {op:BoolOp}(h:JE X a ta):JE X (.BoolOp op [a] pos) ta:=.mk (xp h.out)
theorem lI (hc:JT X c tA)(ha:JE X a ta)(hb:JE X b tb):JE X (.IfExp c a b pos) (B9 tA ta tb):=.mk (sg hc.out ha.out hb.out)
theorem af:JA X [] pJ:=.mk zv
theorem aa (ha:JE X e te)(hr:JA X es t)(h:bz e=true:=by rfl):JA X (e::es) (i3 te t):=.mk (rN ha.out hr.out h)
theorem cb {x1:Nat}(h:JA X es t):JE X (.Tuple es x1 pos) (Br t):=.mk (zf h.out)
theorem bU (h:JA X es t):JE X (.List es pos) (A6 t):=.mk (yC h.out)
theorem vN:JO X none nu:=.mk ue
theorem j0 (h:JE X e te):JO X (some e) (nY te):=.mk (sq h.out)
theorem n8 {r:V->Option Int->Option Int->Hp->VK->Prop}{lo hi:Option Expr}{tl th:TO}(hr:Irr (zD X r))(he:JE X e te)(hl:JO X lo tl)(hu:JO X hi th):JE X (.Subscript e (.Slice lo hi none p2) pos) (Cc r te tl th):=.mk (sH hr.out he.out hl.out hu.out)
theorem aO {r:R2}(hr:Irr (vi X r))(ha:JE X a ta)(hb:JE X b tb)(hs:oo b:=by exact fun _ _=>rfl):JE X (.Subscript a b pos) (vV r ta tb):=.mk (AH hr.out ha.out hb.out hs)
theorem bg {k:Nat}{x:Str}{ps:List Str}{sp:Sp}(D:Def X.prog X.w X.K X.mg X.base k x ps sp)(hr:Room k X.A)(hg:Gl X x)(ha:JA X (e::es) t)(hdb:(x == ("__debug__":Str))=false:=by decide)
  (hst:aD (e::es)=true:=by rfl):JE X (.Call (.Name x p) (e::es) [] pos) (fun σ H Q=>t σ H fun vs H1=>sp vs H1 Q E0):=.mk (wW D hr hg ha.out hdb hst)
theorem aM {x:Str}{id:String}{r:List V->Hp->VK->Prop}(hc:Irr (ba X (.builtin id) r))(hg:Gl X x)(hm:X.mg x=none)(hv:bootBuiltins x=some (.builtin id))(ha:JA X (e::es) t)(hn:x≠"__name__":=by decide)(hdb:(x == ("__debug__":Str))=false:=by decide)
  (h:aD (e::es)=true:=by rfl):JE X (.Call (.Name x p) (e::es) [] pos) (zE r t):=.mk (px hc.out hg hm hv ha.out hn hdb h)
theorem bK {x:Str}{T:String}{r:List V->Hp->VK->Prop}(hc:Irr (ba X (.type T) r))(hg:Gl X x)(hm:X.mg x=none)(hv:bootBuiltins x=some (.type T))(ha:JA X (e::es) t)(hn:x≠"__name__":=by decide)(hdb:(x == ("__debug__":Str))=false:=by decide)
  (h:aD (e::es)=true:=by rfl):JE X (.Call (.Name x p) (e::es) [] pos) (zE r t):=.mk (mR hc.out hg hm hv ha.out hn hdb h)
theorem fU {name:Str}{T id:String}{r:V->List V->Hp->VK->Prop}{to:TE}(pa:PlainAttrs T)(slot:Slot T name id)(hty:typeOf (.builtin id)=pure (.type "method_descriptor"))(hm:Irr (qe X id r))(ho:JE X o to)(ha:JA X (e::es) t)(hK:X.K=K:=by rfl)
  (hsup:dN o=true:=by rfl) (h:aD (e::es)=true:=by rfl) (h30:(e::es).length<30:=by decide) (hline:(apos.endLine == cpos.line)=true:=by rfl) :
  JE X (.Call (.Attribute o name apos) (e::es) [] cpos) (BY K T r to t):=.mk (xH pa slot hty hm.out ho.out ha.out hK hsup h h30 hline)
theorem zN {name:Str}{T id:String}{r:V->List V->Hp->VK->Prop}{to:TE}(pa:PlainAttrs T)(slot:Slot T name id)(hty:typeOf (.builtin id)=pure (.type "method_descriptor"))(hm:Irr (qe X id r))(ho:JE X o to)(hK:X.K=K:=by rfl)
  (hsup:dN o=true:=by rfl) (hline:(apos.endLine == cpos.line)=true:=by rfl):JE X (.Call (.Attribute o name apos) [] [] cpos) (xo K T r to):=.mk (vd pa slot hty hm.out ho.out hK hsup hline)
theorem aA {op:CmpOp}{r:R2}(ho:Irr (bq X (compareOp op) r))(ha:JE X a ta)(hb:JE X b tb)(hm:behindInMarks op b=false:=by first | exact mV _ | rfl):JT X (.Compare a [op] [b] pos) (fJ (vV r ta tb)):=.mk (vw ho.out ha.out hb.out hm)
theorem iZ {op op':CmpOp}{r r':R2}(ho:Irr (bq X (compareOp op) r))(ho':Irr (bq X (compareOp op') r'))(ha:JE X a ta)(hb:JE X b tb)(hc:JE X c tc)
  (hm:lastMarks [op,op'] [b,c]=false:=by with_unfolding_all rfl):JT X (.Compare a [op,op'] [b,c] pos) (fJ (mW r r' ta tb tc)):=.mk (by rw[o7];exact pE ho.out ho'.out ha.out hb.out hc.out hm)
theorem gi (h:JE X e te)(he:∀whole,isTrue e X.env whole=(do let v<-whole;standAt e.pos;holding [v] (truthy v)):=by intro _;rfl):JT X e (fJ te):=.mk (tW h.out he)
theorem eZ (ha:JT X a tA):JT X (.UnaryOp .Not a pos) (zQ tA):=.mk (x6 ha.out)
theorem dh (ha:JT X a tA):JW X (.BoolOp .And [a] pos) tA:=.mk (uB ha.out)
theorem mt (ha:JT X a tA):JW X (.BoolOp .Or [a] pos) tA:=.mk (xD ha.out)
theorem fg (ha:JT X a tA)(hb:JW X (.BoolOp .And (b::es) pos) tB'):JW X (.BoolOp .And (a::b::es) pos) (Al tA tB'):=.mk (yT ha.out hb.out)
theorem oi (ha:JT X a tA)(hb:JW X (.BoolOp .Or (b::es) pos) tB'):JW X (.BoolOp .Or (a::b::es) pos) (Cf tA tB'):=.mk (AR ha.out hb.out)
theorem jc (h:JW X e tA):JT X e tA:=.mk h.out.pt
theorem aW (h:JE X e te)(hK:X.K=K:=by rfl):JI X tg e (zT K te):=.mk (x8 h.out hK)
theorem de (hg:Gl X "range")(hm:X.mg "range"=none)(ha:JA X [a] t)(h:bz a=true:=by rfl):JI X tg (.Call (.Name "range" p) [a] [] pos) (oO t):=.mk (uo hg hm ha.out (az h))
theorem ai {i:Nat}{x:Str}(hN:X.N.Nodup)(hi:X.N[i]?=some x)(hx:zJ X.env.scope x)(hf:X.fn x=true\/X.env.scope.names.lookup x=some .local:=by first | exact .inl rfl | exact .inr rfl | assumption):JG X (.Name x pos) (oD i):=.mk (uz hN hi hx hf)
theorem bo:Bu X [] Bl:=.mk uW
theorem ar {g:TG}{gs:sf}(h1:JG X e g)(h2:Bu X es gs)(hs:(assignEach (e::es) X.env).map (·.2)=assign e X.env::(assignEach es X.env).map (·.2):=by rfl):Bu X (e::es) (wG g gs):=.mk (sN h1.out h2.out hs)
theorem bD {k:Nat}{gs:sf}{n:Nat}(hc:X.calm=true)(h:Bu X es gs)(hK:X.K=K:=by rfl)(hn:(assignEach es X.env).length=n:=by rfl)(hst:(assignEach es X.env).findIdx? (·.1)=none:=by rfl):JG X (.Tuple es k pos) (yf K n gs):=.mk (vP hc h.out hK hn hst)
abbrev AZ (X:Cx)(ifs:List Expr)(t:TT):Prop:=Irr (wc X ifs t)
theorem fw:AZ X [] wu:=.mk uQ
theorem fK (h:JT X c tA):AZ X [c] tA:=.mk (vF h.out)
theorem fS {N:List Str}{cap:List (Option Nat)}{scope:Scope}{ifs:List Expr}{wi:TI}{g:TG}(hc:X.calm=true)(S:CompScope X N cap scope)(hi:JI X tg it wi)
  (hg:∀C s₀ H₀ ex,JG (aS X N scope C s₀ H₀ ex) tg g) (ht:∀C s₀ H₀ ex,AZ (aS X N scope C s₀ H₀ ex) ifs tA) (he:∀C s₀ H₀ ex,JE (aS X N scope C s₀ H₀ ex) e te)
  (hs:∀x,foldedSetIterable it X.env x=pure x:=by intro _;rfl) :
  JE X (.ListComp e [⟨tg,it,ifs,0⟩] scope pos) (fun σ H Q=>jk cap wi g tA te (fun D H'=>Q (.ref D) H') σ H) :=
 .mk (uv hc S hi.out (fun C s₀ H₀ ex=>(hg C s₀ H₀ ex).out) (fun C s₀ H₀ ex=>(ht C s₀ H₀ ex).out) (fun C s₀ H₀ ex=>(he C s₀ H₀ ex).out) hs)
theorem km {N:List Str}{cap:List (Option Nat)}{scope:Scope}{ifs:List Expr}{wi:TI}{g:TG}{i:Nat}{x:Str}(hc:X.calm=true)(S:CompScope X N cap scope)(hi:JI X tg it wi)
  (hg:∀C s₀ H₀ ex,JG (aS X N scope C s₀ H₀ ex) tg g) (ht:∀C s₀ H₀ ex,AZ (aS X N scope C s₀ H₀ ex) ifs tA) (he:∀C s₀ H₀ ex,JE (aS X N scope C s₀ H₀ ex) e te)
  (hN:X.N.Nodup) (hix:X.N[i]?=some x) (hx:X.env.scope.names.lookup x=some .local) (hsw:swapsWith (.ListComp e [⟨tg,it,ifs,0⟩] scope pos) (some (.Name x pos')) spos.line X.env=pure true:=by rfl)
  (hs:∀x,foldedSetIterable it X.env x=pure x:=by intro _;rfl) :
  JS X (.Assign [.Name x pos'] (.ListComp e [⟨tg,it,ifs,0⟩] scope pos) spos) (fun D σ H=>jk cap wi g tA te (fun d H'=>D.nx (σ.set i (some (.ref d))) H') σ H) :=
 .mk (vK hc S hi.out (fun C s₀ H₀ ex=>(hg C s₀ H₀ ex).out) (fun C s₀ H₀ ex=>(ht C s₀ H₀ ex).out) (fun C s₀ H₀ ex=>(he C s₀ H₀ ex).out) hN hix hx hsw hs)
theorem aE:qc X [] ww:=.mk vh
theorem ac (h1:JS X st u)(h2:qc X sts u'):qc X (st::sts) (y4 u u'):=.mk (sZ h1.out h2.out)
theorem ag (h1:JS X st u):qc X [st] u:=.mk (ua h1.out)
theorem ao {i:Nat}{x:Str}(hN:X.N.Nodup)(hi:X.N[i]?=some x)(hx:zJ X.env.scope x)(he:JE X e te)(hs:swapsWith e (some (.Name x pos')) pos.line X.env=pure false:=by rfl)(hf:X.fn x=true\/X.env.scope.names.lookup x=some .local:=by first | exact .inl rfl | exact .inr rfl | assumption) :
  JS X (.Assign [.Name x pos'] e pos) (A3 te (oD i)):=.mk (xB hN hi hx he.out hs hf)
theorem aZ (hc:JT X c tA)(ha:qc X sts u)(hb:qc X sts' u'):JS X (.If c sts sts' pos) (Ai tA u u'):=.mk (AQ hc.out ha.out hb.out)
theorem aQ (he:JE X e te):JS X (.Return (some e) pos) (Bm te):=.mk (yd he.out)
theorem be (he:JE X e te)(hs:swapsWith e none pos.line X.env=pure false:=by rfl):JS X (.Expr e pos) (wl te):=.mk (ve he.out hs)
theorem cW (hp:PassesOwn (model X.prog X.w) X.A X.env X.xe)(hc:JT X c tA)(hb:qc X sts u):JS X (.While c sts [] pos) (qS tA u):=.mk (qL hp hc.out hb.out)
theorem aP {wi:TI}{g:TG}(hp:PassesOwn (model X.prog X.w) X.A X.env X.xe)(hc:X.calm=true)(hi:JI X tg it wi)(hg:JG X tg g)(hb:qc X sts u)
  (hs:∀x,foldedSetIterable it X.env x=pure x:=by intro _;rfl):JS X (.For tg it sts [] pos) (Am wi g u):=.mk (yG hp hc hi.out hg.out hb.out hs)
end
theorem Raw.defJ {P:Program}{w:World}{K:PySem.W.Frag}{mg:Str->Option Value}{base:Heap}{x:Str}{st:Stmt}{N ps:List Str}{k:Nat}{sp:Sp}(R:Raw K mg x st ps)(S:ax N ps (ak st))(len:∀vs H Q E,sp vs H Q E->vs.length=ps.length)
  (hbody:∀(f:Addr) (cdv:Value) (A:Around) (outer:List Env) (s:Shared) (H:Hp) (vs:List V) (Q:VK) (E:XK),Room k (A.deeper (envOfC x (ak st) s.heap.objs.size f cdv))->sp vs H Q E ->
   ∃t,qc (bN CX0 P w K mg base N x (ak st) f cdv A outer s H E).nox (bp st) t/\t { nx:=fun _ H'=>Q .non H',rt:=Q } (dB N vs) H):Def P w K mg base (k+1) x ps sp :=
 R.def S len fun f cdv A outer s H vs Q E hr h=>let ⟨t,h1,h2⟩:=hbody f cdv A outer s H vs Q E hr h;⟨t,h1.out,h2⟩
end L2
namespace L2
open PySem PySem.Spec PyProof.Rows
inductive v1 (K:PySem.W.Frag)(H:Hp):V->String->Prop where
 | non:v1 K H .non "NoneType"
 | bl (x:Bool):v1 K H (.bl x) "bool"
 | int (i:Int):v1 K H (.int i) "int"
 | str (x:Str):v1 K H (.str x) "str"
 | list {a:Addr} {xs:List V} (e:SqL K H a xs):v1 K H (.ref a) "list"
 | tuple {a:Addr} {xs:List V} (e:SqT K H a xs):v1 K H (.ref a) "tuple"
theorem ng {X:Cx}{pins:List (Addr×Obj)}{σ:St}{H:Hp}{s:Shared}{A:Around}{E:Value->Shared->Prop}{Q:Value->Shared->Prop}{c:Value}{b:Bool}{x:V}{u:Value}{t:String}(I:Inv X pins σ H s)(rx:RelV x u)(ty:v1 X.K H x t)(e:PySem.W.kitOne X.K (.type t) c=some b)(h:∀tk,Q (.bool b) { s with toks:=tk }) :
  wpAny (model X.prog X.w) A (call (.builtin "isinstance") [u,c]) Q E s:=by
 cases ty with
 | non=>exact dZ I rx .non e h
 | bl y=>exact dZ I rx (.bl y) e h
 | int i=>exact dZ I rx (.int i) e h
 | str y=>exact dZ I rx (.str y) e h
 | @list a xs ea =>
  cases (show u=Value.ref a from rx)
  obtain⟨its,rv,⟨o,n,h1,h2,h3,h4⟩,hz⟩:=I.list ea
  exact PySem.W.kia_one PySem.W.kitx_list I.kIn ⟨o,h1,h2⟩ e (fun z=>nomatch z) h
 | @tuple a xs ea =>
  cases (show u=Value.ref a from rx)
  obtain⟨its,rv,⟨o,h1,h2,n,h4⟩,hz⟩:=I.tuple ea
  exact PySem.W.kia_one PySem.W.kitx_tuple I.kIn ⟨o,h1,h2⟩ e (fun z=>nomatch z) h
def yp (K:PySem.W.Frag):List V->Hp->VK->Prop:=fun xs H Q=>match xs with
 | [x,.ty Tn]=>∃ty b,v1 K H x ty/\PySem.W.kitOne K (.type ty) (.type Tn)=some b/\Q (.bl b) H
 | _=>False
theorem iQ {X:Cx}{K:PySem.W.Frag}(hK:X.K=K:=by rfl):Irr (ba X (.builtin "isinstance") (yp K)):=by
 refine .mk ?_
 subst hK
 intro pins s σ H xs us Q I r h
 unfold yp at h
 split at h
 ·obtain⟨ty,b,h1,h2,q⟩:=h
  obtain⟨u,w',rfl,r1,r2⟩:=oq r
  cases r2
  exact ng I r1 h1 h2 fun tk=>⟨.bl b,H,I.tok tk,rfl,q⟩
 ·exact h.elim
end L2
namespace L2
open PySem PySem.Spec PyProof.Rows
abbrev ir:HO:=.ext fun _=>True
def Kn (H:Hp)(a:Addr)(o:Obj):Prop:=H a=some (.frz o ir)
theorem Kn.get {P:Program}{w:World}{H:Hp}{h:Heap}{a:Addr}{o:Obj}(k:Kn H a o)(x:HOk P w H h):h.get? a=some o:=(x a _ k).1
theorem si {P:Program}{w:World}{H:Hp}{h:Heap}{a:Addr}{o:Obj}(e:h.get? a=some o):ObjOk P w H h a (.frz o ir):=⟨e,True.intro,⟨o,e⟩,fun _ _ _ _=>True.intro⟩
section
variable {P:Program}{w:World}{H H':Hp}{h h':Heap}{cs fs:List Addr}
end
structure Bq (ps ls fr:List Str)(sc:Scope):Prop where
 kind:sc.kind=.function
 co:sc.isCoroutine=false
 gen:sc.isGenerator=false
 nd:(ps++ls++fr).Nodup
 par:∀x∈ps,sc.names.lookup x=some .local
 nocell:∀y∈sc.names,y.2≠.cell
 fre:∀x∈fr,sc.names.lookup x=some .free
 all:∀y∈sc.names,y.2=.free->y.1∈fr
structure B7 (H:Hp)(f:Addr)(name qual:Str)(st:Stmt)(cl:List (Str×Addr)):Prop where
 ex:∃(doc pm:Value) (c':Addr) (ctv:Value) (oc:Obj) (vs:Array Value) (t:Tok),Kn H f (PySem.W.fnMade name qual (cu st) (bp st) (ak st) cl doc pm c' ctv)/\Kn H c' oc/\oc.data=.fields vs/\vs[1]?=some (.str qual t)
structure Ca (H:Hp)(f:Addr)(name qual:Str)(st:Stmt)(fr:List Str)(cs:List Addr)(ws:List V):Prop where
 ex:∃cl,B7 H f name qual st cl/\(∀x c,cl.lookup x=some c->∃j:Nat,fr[j]?=some x/\cs[j]?=some c)/\∀(j:Nat) x,fr[j]?=some x->∃c,cl.lookup x=some c/\cs[j]?=some c
 cells:∀(j:Nat) x,ws[j]?=some x->∃c o u,cs[j]?=some c/\Kn H c o/\o.data=.cell (some u)/\RelV x u
 l1:cs.length=fr.length
 l2:ws.length=fr.length
 nd:cs.Nodup
end L2
namespace L2
open PySem PySem.Spec PyProof.Rows
structure Cu (P:Program)(w:World)(K:PySem.W.Frag)(mg:Str->Option Value)(base:Heap)(k:Nat)(f:Addr)(sp:Sp):Prop where
 fn:∀vs H Q E,sp vs H Q E->∃oc od fd sl,Kn H f ⟨oc,od,.func fd,sl⟩
 run:∀(A:Around) (outer:List Env) (s:Shared) (H:Hp) (us:List Value) (vs:List V) (Q:VK) (E:XK),Room k A->sj P w K mg base A outer s H->Vals vs us->sp vs H Q E ->
  codeAny (model P w) A (.call (.ref f) ⟨us,[]⟩) (CR CX0 outer P w H s Q E) s
section
variable {X:Cx}{e:Expr}{es:List Expr}{t:TA}{p pos:Pos}
end
structure TabOk (H:Hp)(Pt:Addr)(qs:List (Pos×Str)):Prop where
 ex:∃l:List (Pos×Addr),H Pt=some (.tbl (triples l).toArray)/\∀q∈l,∃qual oc vs t,(q.1,qual)∈qs/\Kn H q.2 oc/\oc.data=.fields vs/\vs[1]?=some (.str qual t)
section
variable {X:Cx}
end
end L2
namespace L2
open PySem PySem.Spec PyProof.Rows
structure Cr (env:Env)(N:List Str)(σ:St)(fr:List Str)(cs:List Addr)(os:List Obj):Prop where
 l1:cs.length=fr.length
 l2:os.length=fr.length
 at_:∀(j:Nat) x,fr[j]?=some x->∃(c:Addr) (o:Obj) (i:Nat) (v:V) (u:Value),cs[j]?=some c/\os[j]?=some o/\env.cells.lookup x=some c/\N[i]?=some x/\σ[i]?=some (some v)/\o.data=.cell (some u)/\RelV v u
 nd:cs.Nodup
section
variable {X:Cx}{e:Expr}{es:List Expr}{t:TA}{p pos:Pos}
end
structure Cd (ts:List (Addr×Addr))(H:Hp):Prop where
 tabs:∀q∈ts,H q.2=some (.tbl #[])
 bI:∀b,H b=none\/(∃q∈ts,q.2=b)\/∃o xs,H b=some (.frz o (.lst xs))
end L2
namespace L2
open PySem PySem.Spec PyProof.Rows
section
variable {X:Cx}{e a:Expr}{es:List Expr}{t:TA}{ta te:TE}{p pos:Pos}{K:PySem.W.Frag}
def fX (ns:List Int):List Int:=ns.foldl step_dedup []
theorem i9 (ns:List Int)(n:Nat)(hn:n=ns.length):firstMet (fun i=>ns.getD i 0) n=fX ns:=by
 unfold firstMet fX
 subst hn
 congr 1
 refine List.ext_getElem (by simp) fun i h1 h2=>?_
 simp[List.getD,h2]
theorem jz:∀{vs:List Value} {ns:List Int},Vals (ns.map V.int) vs->IntsAre vs ns
 | [],[],_=>.nil
 | [],n::r,h=>by cases h
 | v::vs,[],h=>by cases h
 | v::vs,n::r,h=>by
  cases h with
  | cons a b =>
   obtain⟨t,rfl⟩:=a
   exact .cons n t (jz b)
end
structure BG (K:PySem.W.Frag)(x:Str)(st:Stmt)(f:Addr)(fd:FuncData)(c:Addr):Prop where
 ex:∃(oc:Value) (od:Option Addr) (kV doc pm:Value) (an:Option Addr) (ct:Value) (osl:Array (Option Value)),
  fd=PySem.W.fnOf x x (cu st) (bp st) (ak st) .none kV doc pm an (.ref c) ct/\K.lookup f=some ⟨oc,od,.func fd,osl⟩/\PySem.W.codeIn K (.ref c) x=true
 kp:PySem.W.keepIn K (.ref f)=true
structure Cm (K:PySem.W.Frag)(mg:Str->Option Value)(x:Str)(st:Stmt)(ps:List Str)(c Pt:Addr):Prop where
 ex:∃f fd,mg x=some (.ref f)/\BG K x st f fd c/\∀(us:List Value),us.length=ps.length->bindArgs fd ⟨us,[]⟩=pure (ps.zip us)
 hd:PySem.W.codeHdIn K c Pt=true
end L2
namespace L2
open PySem
end L2
namespace L2
open PySem PySem.Spec PyProof.Rows
section
variable {X:Cx}{e k:Expr}{es:List Expr}{t:TA}{te tk:TE}{p pos p2:Pos}{K:PySem.W.Frag}
end
end L2
namespace L2
open PySem PySem.Spec PyProof.Rows
theorem Inv.turnedL {X:Cx}{pins:List (Addr×Obj)}{σ:List (Option V)}{H:Hp}{s:Shared}{h':Heap}{t':Nat}{fp:List Addr}(I:Inv X pins σ H s)(k:∀b o,b∉fp->s.heap.get? b=some o->h'.get? b=some o)
  (hf:∀b∈fp,dr X pins H b):Inv X pins σ H { s with heap:=h',toks:=t' }:=by
 have nit:∀b u,H b=some u->b∉fp:=fun b u e z=>by rw[(hf b z).1]at e;cases e
 refine I.step (g':=s.gens) (d':=s.drawn) (ch:=fp) (fun b hb=>?_) (fun b o _ _ hc e _=>k b o hc e) (fun b o _ _ hc e _=>⟨o.slots,k b o hc e⟩) (fun _ _ _ _ n=>n)
  (fun b o hc e=>⟨o,k b o hc e⟩) (fun _ _ e=>e) (fun _ _ _ e=>e) (fun b ps e=>⟨#[],by rw[e];simp⟩) (fun m hm=>?_) (fun b u e=>?_) I.bare
 ·obtain⟨_,f1,_,f3,f4,f5⟩:=hf b hb
  exact⟨f3,f1,f4,f5⟩
 ·obtain⟨o,es,ep,ho,r⟩:=hm
  exact⟨o,es,ep,k _ o (fun z=>(hf _ z).2.1 rfl) ho,r⟩
 ·refine (I.hok b u e).stay (fun c v hc q=>k c v ?_ q) (fun _ q=>q) fun _ _ q=>q
  rcases hc with z | z
  ·rw[z];exact nit b u e
  ·exact nit c _ z
section
variable {prog:Program}{w:World}{A:Around}{E:Value->Shared->Prop}{s:Shared}
theorem di {it l:Addr}{i:Nat}{items}{x:Value}{Q:Value->Shared->Prop}(hit:s.heap.IsTupleIter it l i)
  (hl:s.heap.IsTuple l items) (hx:items[i]?=some x)
  (hQ:∀h',h'.IsTupleIter it l (i+1)->Heap.SameBut it s.heap h'->Q x { s with heap:=h' }) :
  wpAny (model prog w) A (Builtin.SmallTypes.nextOf (.ref it)) Q E s:=by
 obtain⟨o,ho,hc,hd⟩:=id hit
 obtain⟨ol,hol,_,nl,hdl⟩:=hl
 unfold Builtin.SmallTypes.nextOf
 refine wpAny_bind (wpAny_callSpecial?_slot (name:=Str.ofString "__next__") hit.typeIs F.slot_tuple_iterator_next
  (wpAny_call_entry F.slot_tuple_iterator_next hit.typeIs F.entry_tuple_iterator_next ?_ (F.args_tuple_iterator_next_1 _)))
 show wpAny _ _ (field (.ref it) 0>>=_) _ _ s
 refine wpAny_bind (wpAny_field ho hd (x:=.ref l) rfl ?_)
 show wpAny _ _ (if (Value.ref l == Value.none)=true then _ else _) _ _ s
 rw[if_neg (show ¬ ((Value.ref l == Value.none)=true) from Bool.false_ne_true)]
 show wpAny _ _ (field (.ref it) 1>>=_) _ _ s
 refine wpAny_bind (wpAny_field ho hd (x:=.int i 0) rfl ?_)
 show wpAny _ _ (seqItems? (.ref l)>>=_) _ _ s
 refine wpAny_bind (wpAny_seqItems hol hdl ?_)
 simp only[Int.toNat_natCast,hx]
 refine wpAny_bind (wpAny_setField ho hd (by simp) (wpAny_pure ⟨x,rfl,wpAny_pure (hQ _ ?_ (Heap.SameBut.update ..))⟩))
 exact⟨_,Heap.get?_update_self _ ho (Obj.isFreed_of_fields (Obj.data_mapFields hd _)),(Obj.cls_mapFields ..).trans hc,by
  rw[Obj.data_mapFields hd];simp[rawInt]⟩
theorem dw {it l:Addr}{i:Nat}{items}{Q:Value->Shared->Prop}(hh:A.handled=none)
  (hit:s.heap.IsTupleIter it l i) (hl:s.heap.IsTuple l items) (hx:items[i]?=none)
  (hE:∀h' e,Heap.ExtBut it s.heap h'->(∃o,h'.get? e=some o/\o.cls=.type "StopIteration")->E (.ref e) { s with heap:=h' }) :
  wpAny (model prog w) A (Builtin.SmallTypes.nextOf (.ref it)) Q E s:=by
 obtain⟨o,ho,hc,hd⟩:=id hit
 obtain⟨ol,hol,_,nl,hdl⟩:=hl
 unfold Builtin.SmallTypes.nextOf
 refine wpAny_bind (wpAny_callSpecial?_slot (name:=Str.ofString "__next__") hit.typeIs F.slot_tuple_iterator_next
  (wpAny_call_entry F.slot_tuple_iterator_next hit.typeIs F.entry_tuple_iterator_next ?_ (F.args_tuple_iterator_next_1 _)))
 show wpAny _ _ (field (.ref it) 0>>=_) _ _ s
 refine wpAny_bind (wpAny_field ho hd (x:=.ref l) rfl ?_)
 show wpAny _ _ (if (Value.ref l == Value.none)=true then _ else _) _ _ s
 rw[if_neg (show ¬ ((Value.ref l == Value.none)=true) from Bool.false_ne_true)]
 show wpAny _ _ (field (.ref it) 1>>=_) _ _ s
 refine wpAny_bind (wpAny_field ho hd (x:=.int i 0) rfl ?_)
 show wpAny _ _ (seqItems? (.ref l)>>=_) _ _ s
 refine wpAny_bind (wpAny_seqItems hol hdl ?_)
 simp only[Int.toNat_natCast,hx]
 refine wpAny_bind (wpAny_rule (wpAny_bind (wpAny_setField ho hd (by simp) ?_)))
 show wpAny _ _ (newExc (.type "StopIteration") []>>=_) _ _ _
 refine wpAny_bind ?_
 simp only[newExc,newTuple]
 refine wpAny_bind (wpAny_newObj_type ?_ (by size_fits))
 refine wpAny_bind (m:=firstArgMember _ _) (wpAny_of_eq (a:=Value.none) (by first | rfl | (simp only[firstArgMember];rfl)) ?_)
 refine wpAny_newObj_type ?_ (by size_fits)
 simp only[raiseNew]
 refine wpAny_bind (wpAny_handled ?_)
 first | rw[show A.in1.handled=none from hh] | rw[hh]
 refine wpAny_bind (wpAny_pure (wpAny_throw ?_))
 exact hE _ _ (((Heap.SameBut.update ..).extBut.push _).push _) ⟨_,Heap.get?_push_size _ rfl,rfl⟩
def ItAt (t:Bool)(h:Heap)(it a:Addr)(k:Nat):Prop:=match t with
 | true=>h.IsTupleIter it a k
 | false=>h.IsListIter it a k
def SrcAt (t:Bool)(h:Heap)(a:Addr)(xs:Array Value):Prop:=match t with
 | true=>h.IsTuple a xs
 | false=>h.IsList a xs
def kR (t:Bool):String:=match t with
 | true=>"tuple_iterator"
 | false=>"list_iterator"
theorem ItAt.at {t:Bool}{h h':Heap}{it a:Addr}{k:Nat}(x:ItAt t h it a k)(e:∀o,h.get? it=some o->h'.get? it=some o):ItAt t h' it a k:=by
 cases t with
 | true=>obtain⟨o,ho,r⟩:=x;exact⟨o,e o ho,r⟩
 | false=>obtain⟨o,ho,r⟩:=x;exact⟨o,e o ho,r⟩
theorem ItAt.obj {t:Bool}{h:Heap}{it a:Addr}{k:Nat}(x:ItAt t h it a k):∃o,h.get? it=some o/\∀v,o.data≠.cell v:=by
 cases t with
 | true=>obtain⟨o,ho,_,d⟩:=x;exact⟨o,ho,fun v z=>by rw[d]at z;cases z⟩
 | false=>obtain⟨o,ho,_,d⟩:=x;exact⟨o,ho,fun v z=>by rw[d]at z;cases z⟩
theorem SrcAt.at {t:Bool}{h h':Heap}{a:Addr}{xs:Array Value}(x:SrcAt t h a xs)(e:∀o,h.get? a=some o->h'.get? a=some o):SrcAt t h' a xs:=by
 cases t with
 | true=>obtain⟨o,ho,r⟩:=x;exact⟨o,e o ho,r⟩
 | false=>obtain⟨o,ho,r⟩:=x;exact⟨o,e o ho,r⟩
theorem SrcAt.lt {t:Bool}{h:Heap}{a:Addr}{xs:Array Value}(x:SrcAt t h a xs):a<h.objs.size:=by
 cases t with
 | true=>obtain⟨o,ho,_⟩:=x;exact Heap.lt_size ho
 | false=>obtain⟨o,ho,_⟩:=x;exact Heap.lt_size ho
theorem dM {t:Bool}{it a:Addr}{k:Nat}{xs:Array Value}{x:Value}{Q:Value->Shared->Prop}(hit:ItAt t s.heap it a k)(hs:SrcAt t s.heap a xs)(hx:xs[k]?=some x)
  (hQ:∀h',ItAt t h' it a (k+1)->Heap.SameBut it s.heap h'->Q x { s with heap:=h' }):wpAny (model prog w) A (Builtin.SmallTypes.nextOf (.ref it)) Q E s:=by
 cases t with
 | true=>exact di hit hs hx hQ
 | false=>exact wpAny_nextOf_list_item hit hs hx hQ
theorem ik {t:Bool}{it a:Addr}{k:Nat}{xs:Array Value}{Q:Value->Shared->Prop}(hh:A.handled=none)(hit:ItAt t s.heap it a k)(hs:SrcAt t s.heap a xs)(hx:xs[k]?=none)
  (hE:∀h' e,Heap.ExtBut it s.heap h'->(∃o,h'.get? e=some o/\o.cls=.type "StopIteration")->E (.ref e) { s with heap:=h' }):wpAny (model prog w) A (Builtin.SmallTypes.nextOf (.ref it)) Q E s:=by
 cases t with
 | true=>exact dw hh hit hs hx hE
 | false=>exact wpAny_nextOf_list_end hh hit hs hx hE
theorem iU {t:Bool}{a:Addr}{xs:Array Value}{Q:Value->Shared->Prop}(hs:SrcAt t s.heap a xs)
  (hQ:Q (.ref s.heap.objs.size) { s with heap:=s.heap.push { cls:=.type (kR t),data:=.fields #[.ref a,.int 0 0] } }):wpAny (model prog w) A (pyIter (.ref a)) Q E s:=by
 cases t with
 | true=>exact wpAny_pyIter_tuple hs hQ
 | false=>exact wpAny_pyIter_list hs hQ
theorem ItAt.new {t:Bool}{h:Heap}{it a:Addr}(e:h.get? it=some { cls:=.type (kR t),data:=.fields #[.ref a,.int 0 0] }):ItAt t h it a 0:=by
 cases t with
 | true=>exact⟨_,e,rfl,rfl⟩
 | false=>exact⟨_,e,rfl,rfl⟩
theorem qd {t1 t2:Bool}{z TI TO i1 i2 l1 l2:Addr}{k1 k2:Nat}{xs ys:Array Value}{x y a b:Value}{Q:Option Value->Shared->Prop}(D:ZipApart z TI TO i1 i2 l1 l2)
  (hz:IsZip s.heap z TI TO .none) (hTI:IsPair s.heap TI (.ref i1) (.ref i2)) (hTO:IsPair s.heap TO a b)
  (h1:ItAt t1 s.heap i1 l1 k1) (h2:ItAt t2 s.heap i2 l2 k2) (hl1:SrcAt t1 s.heap l1 xs) (hl2:SrcAt t2 s.heap l2 ys) (hx:xs[k1]?=some x) (hy:ys[k2]?=some y)
  (hQ:∀h',IsZip h' z TI TO (rawInt s.heap.objs.size)->IsPair h' TO x y->ItAt t1 h' i1 l1 (k1+1)->ItAt t2 h' i2 l2 (k2+1)->IsPair h' s.heap.objs.size x y->h'.objs.size=s.heap.objs.size+1 ->
   (∀c o,c≠z->c≠TO->c≠i1->c≠i2->s.heap.get? c=some o->h'.get? c=some o)->Q (some (.ref s.heap.objs.size)) { s with heap:=h' }) :
  wpAny (model prog w) A (pyNext (.ref z)) Q E s:=by
 have hT:s.TypeIs (.ref z) "zip":=⟨_,hz,rfl⟩
 unfold pyNext
 refine wpAny_bind (wpAny_attempt (wpAny_callSpecial?_slot (name:=Str.ofString "__next__") hT F.slot_zip_next
  (wpAny_call_entry F.slot_zip_next hT F.entry_zip_next ?_ (F.args_zip_next_1 _))))
 show wpAny _ _ (field (.ref z) 2>>=_) _ _ _
 refine wpAny_bind (wpAny_field hz rfl (x:=.bool false) rfl ?_)
 show wpAny _ _ (field (.ref z) 3>>=_) _ _ _
 refine wpAny_bind (wpAny_field hz rfl (x:=.ref TI) rfl ?_)
 refine wpAny_bind (wpAny_seqItems hTI rfl ?_)
 show wpAny _ _ (Builtin.SmallTypes.ownedTupleIsFree (.ref z)>>=_) _ _ _
 refine wpAny_bind ?_
 unfold Builtin.SmallTypes.ownedTupleIsFree
 refine wpAny_bind (wpAny_field hz rfl (x:=.none) rfl (wpAny_pure ?_))
 simp only[if_true]
 refine wpAny_bind (wpAny_rule ?_)
 refine wpAny_bind (wpAny_field hz rfl (x:=.ref TO) rfl ?_)
 refine wpAny_bind (wpAny_setField_rec hz (by simp) fun h₁ hz₁ hs₁=>?_)
 replace hz₁:IsZip h₁ z TI TO .ellipsis:=hz₁
 refine wpAny_bind ?_
 simp only[List.zipIdx_cons,List.zipIdx_nil,List.forIn_cons,List.forIn_nil]
 refine wpAny_bind (wpAny_bind (wpAny_onRaise ?_))
 show wpAny _ _ (Builtin.SmallTypes.nextOf (.ref i1)>>=_) _ _ _
 refine wpAny_bind (dM (h1.at fun o e=>hs₁.extBut _ _ D.i1z e) (hl1.at fun o e=>hs₁.extBut _ _ D.l1z e) hx fun h₂ h1₂ hs₂=>wpAny_pure ?_)
 have hTO₂:IsPair h₂ TO a b:=hs₂.extBut _ _ D.TOi1 (hs₁.extBut _ _ D.TOz hTO)
 refine wpAny_bind (wpAny_seqItems hTO₂ rfl ?_)
 refine wpAny_bind (wpAny_updateSeq_pair hTO₂ fun h₃ hTO₃ hs₃=>?_)
 replace hTO₃:IsPair h₃ TO x b:=hTO₃
 refine wpAny_bind (wpAny_letGo (wpAny_pure ?_))
 refine wpAny_bind (wpAny_bind (wpAny_onRaise ?_))
 show wpAny _ _ (Builtin.SmallTypes.nextOf (.ref i2)>>=_) _ _ _
 refine wpAny_bind (dM (h2.at fun o e=>hs₃.extBut _ _ D.TOi2.symm (hs₂.extBut _ _ D.i12.symm (hs₁.extBut _ _ D.i2z e)))
  (hl2.at fun o e=>hs₃.extBut _ _ D.l2TO (hs₂.extBut _ _ D.l2i1 (hs₁.extBut _ _ D.l2z e))) hy fun h₄ h2₄ hs₄=>wpAny_pure ?_)
 have hTO₄:IsPair h₄ TO x b:=hs₄.extBut _ _ D.TOi2 hTO₃
 refine wpAny_bind (wpAny_seqItems hTO₄ rfl ?_)
 refine wpAny_bind (wpAny_updateSeq_pair hTO₄ fun h₅ hTO₅ hs₅=>?_)
 replace hTO₅:IsPair h₅ TO x y:=hTO₅
 refine wpAny_bind (wpAny_letGo (wpAny_pure (wpAny_pure ?_)))
 refine wpAny_bind (wpAny_seqItems hTO₅ rfl ?_)
 refine wpAny_bind (wpAny_newTuple ?_)
 have hsz:h₅.objs.size=s.heap.objs.size:=by rw[hs₅.1,hs₄.1,hs₃.1,hs₂.1,hs₁.1]
 have hz₅:IsZip h₅ z TI TO .ellipsis:=hs₅.extBut _ _ D.TOz.symm (hs₄.extBut _ _ D.i2z.symm (hs₃.extBut _ _ D.TOz.symm (hs₂.extBut _ _ D.i1z.symm hz₁)))
 have hk₅:∀c o,c≠z->c≠TO->c≠i1->c≠i2->s.heap.get? c=some o->h₅.get? c=some o:=fun c o c1 c2 c3 c4 e =>
  hs₅.extBut _ _ c2 (hs₄.extBut _ _ c4 (hs₃.extBut _ _ c2 (hs₂.extBut _ _ c3 (hs₁.extBut _ _ c1 e))))
 have h1₅:ItAt t1 h₅ i1 l1 (k1+1):=h1₂.at fun o e=>hs₅.extBut _ _ D.TOi1.symm (hs₄.extBut _ _ D.i12 (hs₃.extBut _ _ D.TOi1.symm e))
 have h2₅:ItAt t2 h₅ i2 l2 (k2+1):=h2₄.at fun o e=>hs₅.extBut _ _ D.TOi2.symm e
 have hzlt:z<h₅.objs.size:=Heap.lt_size hz₅
 show wpAny _ _ (Builtin.SmallTypes.ownedTupleHandOut (.ref z) (.ref h₅.objs.size)>>=_) _ _ _
 refine wpAny_bind ?_
 unfold Builtin.SmallTypes.ownedTupleHandOut
 have hz₆:IsZip (h₅.push { cls:=.type "tuple",data:=.seq #[x,y] }) z TI TO .ellipsis:=Heap.get?_push_of_some _ hz₅
 refine wpAny_bind (wpAny_setField_rec hz₆ (by simp) fun h₇ hz₇ hs₇=>?_)
 replace hz₇:IsZip h₇ z TI TO (rawInt h₅.objs.size):=hz₇
 refine wpAny_setField_rec hz₇ (by simp) fun h₈ hz₈ hs₈=>?_
 replace hz₈:IsZip h₈ z TI TO (rawInt h₅.objs.size):=hz₈
 have up:∀c o,c≠z->h₅.get? c=some o->h₈.get? c=some o:=fun c o c1 e=>hs₈.extBut _ _ c1 (hs₇.extBut _ _ c1 (Heap.get?_push_of_some _ e))
 have hT₈:IsPair h₈ h₅.objs.size x y:=hs₈.extBut _ _ (Nat.ne_of_gt hzlt) (hs₇.extBut _ _ (Nat.ne_of_gt hzlt) (Heap.get?_push_size _ rfl))
 have hz8:h₈.objs.size=h₅.objs.size+1:=by rw[hs₈.1,hs₇.1,Heap.size_push]
 rw[hsz]at hz₈ hT₈ hz8
 refine wpAny_pure ⟨_,rfl,?_⟩
 refine wpAny_pure ?_
 show Q (some (.ref h₅.objs.size)) _
 rw[hsz]
 exact hQ h₈ hz₈ (up _ _ D.TOz hTO₅) (h1₅.at fun o e=>up _ o D.i1z e) (h2₅.at fun o e=>up _ o D.i2z e) hT₈ hz8 fun c o c1 c2 c3 c4 e=>up c o c1 (hk₅ c o c1 c2 c3 c4 e)
theorem sr {t1 t2:Bool}{z TI TO i1 i2 l1 l2:Addr}{k1 k2:Nat}{xs ys:Array Value}{a b:Value}{Q:Option Value->Shared->Prop}(hh:A.handled=none)(D:ZipApart z TI TO i1 i2 l1 l2)
  (hz:IsZip s.heap z TI TO .none) (hTI:IsPair s.heap TI (.ref i1) (.ref i2)) (hTO:IsPair s.heap TO a b)
  (h1:ItAt t1 s.heap i1 l1 k1) (h2:ItAt t2 s.heap i2 l2 k2) (hl1:SrcAt t1 s.heap l1 xs) (hl2:SrcAt t2 s.heap l2 ys) (hend:xs[k1]?=none\/ys[k2]?=none)
  (hQ:∀h',(∀c o,c≠z->c≠TO->c≠i1->c≠i2->s.heap.get? c=some o->h'.get? c=some o)->Q none { s with heap:=h' }):wpAny (model prog w) A (pyNext (.ref z)) Q E s:=by
 have hT:s.TypeIs (.ref z) "zip":=⟨_,hz,rfl⟩
 have hE:∀h' e,(∀c o,c≠z->c≠TO->c≠i1->c≠i2->s.heap.get? c=some o->h'.get? c=some o)->(∃o,h'.get? e=some o/\o.cls=.type "StopIteration") ->
   wpAny (model prog w) A (do if (<-isInstance (.ref e) (.type "StopIteration")) then pure none else throw (.ref e)) Q E { s with heap:=h' }:=fun h' e hk he=>by
  obtain⟨o,ho,hc⟩:=he
  exact wpAny_bind (wpAny_isInstance (T:="StopIteration") (b:=true) ⟨o,ho,hc⟩ isSubtype_stop (wpAny_pure (hQ _ hk)))
 unfold pyNext
 refine wpAny_bind (wpAny_attempt (wpAny_callSpecial?_slot (name:=Str.ofString "__next__") hT F.slot_zip_next
  (wpAny_call_entry F.slot_zip_next hT F.entry_zip_next ?_ (F.args_zip_next_1 _))))
 show wpAny _ _ (field (.ref z) 2>>=_) _ _ _
 refine wpAny_bind (wpAny_field hz rfl (x:=.bool false) rfl ?_)
 show wpAny _ _ (field (.ref z) 3>>=_) _ _ _
 refine wpAny_bind (wpAny_field hz rfl (x:=.ref TI) rfl ?_)
 refine wpAny_bind (wpAny_seqItems hTI rfl ?_)
 show wpAny _ _ (Builtin.SmallTypes.ownedTupleIsFree (.ref z)>>=_) _ _ _
 refine wpAny_bind ?_
 unfold Builtin.SmallTypes.ownedTupleIsFree
 refine wpAny_bind (wpAny_field hz rfl (x:=.none) rfl (wpAny_pure ?_))
 simp only[if_true]
 refine wpAny_bind (wpAny_rule ?_)
 refine wpAny_bind (wpAny_field hz rfl (x:=.ref TO) rfl ?_)
 refine wpAny_bind (wpAny_setField_rec hz (by simp) fun h₁ hz₁ hs₁=>?_)
 replace hz₁:IsZip h₁ z TI TO .ellipsis:=hz₁
 refine wpAny_bind ?_
 simp only[List.zipIdx_cons,List.zipIdx_nil,List.forIn_cons,List.forIn_nil]
 refine wpAny_bind (wpAny_bind (wpAny_onRaise ?_))
 show wpAny _ _ (Builtin.SmallTypes.nextOf (.ref i1)>>=_) _ _ _
 cases hx:xs[k1]? with
 | none =>
  refine wpAny_bind (ik hh (h1.at fun o e=>hs₁.extBut _ _ D.i1z e) (hl1.at fun o e=>hs₁.extBut _ _ D.l1z e) hx fun h₂ e hs₂ he=>?_)
  obtain⟨oe,hoe,hce⟩:=he
  have hz₂:IsZip h₂ z TI TO .ellipsis:=hs₂ _ _ D.i1z.symm hz₁
  have hez:e≠z:=fun x=>by subst x;rw[hz₂]at hoe;cases hoe;simp at hce
  refine wpAny_setField_rec hz₂ (by simp) fun h₃ _ hs₃=>hE h₃ e (fun c o c1 _ c3 _ x=>hs₃.extBut _ _ c1 (hs₂ _ _ c3 (hs₁.extBut _ _ c1 x))) ⟨oe,hs₃.extBut _ _ hez hoe,hce⟩
 | some x =>
  have hy:ys[k2]?=none:=by rcases hend with h | h;rw[hx]at h;cases h;exact h
  refine wpAny_bind (dM (h1.at fun o e=>hs₁.extBut _ _ D.i1z e) (hl1.at fun o e=>hs₁.extBut _ _ D.l1z e) hx fun h₂ h1₂ hs₂=>wpAny_pure ?_)
  have hTO₂:IsPair h₂ TO a b:=hs₂.extBut _ _ D.TOi1 (hs₁.extBut _ _ D.TOz hTO)
  refine wpAny_bind (wpAny_seqItems hTO₂ rfl ?_)
  refine wpAny_bind (wpAny_updateSeq_pair hTO₂ fun h₃ hTO₃ hs₃=>?_)
  refine wpAny_bind (wpAny_letGo (wpAny_pure ?_))
  refine wpAny_bind (wpAny_bind (wpAny_onRaise ?_))
  show wpAny _ _ (Builtin.SmallTypes.nextOf (.ref i2)>>=_) _ _ _
  refine wpAny_bind (ik hh (h2.at fun o e=>hs₃.extBut _ _ D.TOi2.symm (hs₂.extBut _ _ D.i12.symm (hs₁.extBut _ _ D.i2z e)))
   (hl2.at fun o e=>hs₃.extBut _ _ D.l2TO (hs₂.extBut _ _ D.l2i1 (hs₁.extBut _ _ D.l2z e))) hy fun h₄ e hs₄ he=>?_)
  obtain⟨oe,hoe,hce⟩:=he
  have hz₄:IsZip h₄ z TI TO .ellipsis:=hs₄ _ _ D.i2z.symm (hs₃.extBut _ _ D.TOz.symm (hs₂.extBut _ _ D.i1z.symm hz₁))
  have hez:e≠z:=fun x=>by subst x;rw[hz₄]at hoe;cases hoe;simp at hce
  refine wpAny_setField_rec hz₄ (by simp) fun h₅ _ hs₅=>hE h₅ e (fun c o c1 c2 c3 c4 x=>hs₅.extBut _ _ c1 (hs₄ _ _ c4 (hs₃.extBut _ _ c2 (hs₂.extBut _ _ c3 (hs₁.extBut _ _ c1 x))))) ⟨oe,hs₅.extBut _ _ hez hoe,hce⟩
end
def va (t1:Bool)(h:Heap)(l1:Addr):Heap:=h.push { cls:=.type (kR t1),data:=.fields #[.ref l1,.int 0 0] }
def rM (t1 t2:Bool)(h:Heap)(l1 l2:Addr):Heap:=(va t1 h l1).push { cls:=.type (kR t2),data:=.fields #[.ref l2,.int 0 0] }
def qU (t1 t2:Bool)(h:Heap)(l1 l2:Addr):Heap:=(rM t1 t2 h l1 l2).push { cls:=.type "tuple",data:=.seq #[.ref h.objs.size,.ref (va t1 h l1).objs.size] }
def rA (t1 t2:Bool)(h:Heap)(l1 l2:Addr):Heap:=(qU t1 t2 h l1 l2).push { cls:=.type "tuple",data:=.seq #[.none,.none] }
def pU (t1 t2:Bool)(h:Heap)(l1 l2:Addr):Heap:=(rA t1 t2 h l1 l2).push { cls:=.type "zip",data:=.fields #[.none,.bool false,.bool false,.ref (rM t1 t2 h l1 l2).objs.size,.ref (qU t1 t2 h l1 l2).objs.size] }
theorem pB (t1 t2:Bool)(l1 l2:Addr)(xs ys:Array Value) :
  Meets (Builtin.«zip.__new__» ⟨[.type "zip",.ref l1,.ref l2],[]⟩) (fun _ R s=>SrcAt t1 s.heap l1 xs/\SrcAt t2 s.heap l2 ys /\
   R (.ok (.ret (.ref (rA t1 t2 s.heap l1 l2).objs.size))) { s with heap:=pU t1 t2 s.heap l1 l2 }) :=
 .of_wp fun prog w A R s h=>by
  obtain⟨hp,g,d,tk,os⟩:=s;obtain⟨hl1,hl2,h⟩:=h
  have hsub:=sub_zip
  have hL1:SrcAt t1 (Shared.heap ⟨hp,g,d,tk,os⟩) l1 xs:=hl1
  have hL2:SrcAt t2 (Shared.heap ⟨hp.push { cls:=.type (kR t1),data:=.fields #[.ref l1,.int 0 0] },g,d,tk,os⟩) l2 ys:=hl2.at fun o e=>Heap.get?_push_of_some _ e
  wp_walk using iU hL1,iU hL2
  exact⟨_,rfl,h⟩
end L2
namespace L2
open PySem PySem.Spec PyProof.Rows
section
variable {prog:Program}{w:World}{A:Around}{E:Value->Shared->Prop}{s:Shared}
theorem rS {t1 t2:Bool}{l1 l2:Addr}{xs ys:Array Value}{Q:Value->Shared->Prop}(hl1:SrcAt t1 s.heap l1 xs)(hl2:SrcAt t2 s.heap l2 ys)
  (h:∀h',IsZip h' (s.heap.objs.size+4) (s.heap.objs.size+2) (s.heap.objs.size+3) .none->IsPair h' (s.heap.objs.size+2) (.ref s.heap.objs.size) (.ref (s.heap.objs.size+1)) ->
   IsPair h' (s.heap.objs.size+3) .none .none->ItAt t1 h' s.heap.objs.size l1 0->ItAt t2 h' (s.heap.objs.size+1) l2 0 ->
   (∀c o,s.heap.get? c=some o->h'.get? c=some o)->Q (.ref (s.heap.objs.size+4)) { s with heap:=h' }) :
  wpAny (model prog w) A (call (.type "zip") [.ref l1,.ref l2]) Q E s:=by
 refine callType_new F.called_zip (by decide) (F.typeCall_zip_2 _ _) (F.newCall_zip_2 _ _) (fun obj=>F.args_object_init_3 obj _ _) F.entry_zip_new
  (pB t1 t2 l1 l2 xs ys) ⟨hl1,hl2,?_⟩
 have z1:(va t1 s.heap l1).objs.size=s.heap.objs.size+1:=Heap.size_push ..
 have z2:(rM t1 t2 s.heap l1 l2).objs.size=s.heap.objs.size+2:=by rw[rM,Heap.size_push,z1]
 have z3:(qU t1 t2 s.heap l1 l2).objs.size=s.heap.objs.size+3:=by rw[qU,Heap.size_push,z2]
 have z4:(rA t1 t2 s.heap l1 l2).objs.size=s.heap.objs.size+4:=by rw[rA,Heap.size_push,z3]
 have g5:(pU t1 t2 s.heap l1 l2).get? (rA t1 t2 s.heap l1 l2).objs.size=some _:=Heap.get?_push_size _ rfl
 have g4:(pU t1 t2 s.heap l1 l2).get? (qU t1 t2 s.heap l1 l2).objs.size=some _:=Heap.get?_push_of_some _ (Heap.get?_push_size _ rfl)
 have g3:(pU t1 t2 s.heap l1 l2).get? (rM t1 t2 s.heap l1 l2).objs.size=some _:=Heap.get?_push_of_some _ (Heap.get?_push_of_some _ (Heap.get?_push_size _ rfl))
 have g2:(pU t1 t2 s.heap l1 l2).get? (va t1 s.heap l1).objs.size=some _:=Heap.get?_push_of_some _ (Heap.get?_push_of_some _ (Heap.get?_push_of_some _ (Heap.get?_push_size _ rfl)))
 have g1:(pU t1 t2 s.heap l1 l2).get? s.heap.objs.size=some _:=Heap.get?_push_of_some _ (Heap.get?_push_of_some _ (Heap.get?_push_of_some _ (Heap.get?_push_of_some _ (Heap.get?_push_size _ rfl))))
 show _/\_
 rw[z2,z3,z4]at g5
 rw[z1,z2]at g3
 rw[z3]at g4
 rw[z1]at g2
 rw[z4]
 exact⟨⟨_,g5,rfl⟩,h _ g5 g3 g4 (ItAt.new g1) (ItAt.new g2) fun c o x =>
  Heap.get?_push_of_some _ (Heap.get?_push_of_some _ (Heap.get?_push_of_some _ (Heap.get?_push_of_some _ (Heap.get?_push_of_some _ x))))⟩
end
def oP (t:Bool)(K:PySem.W.Frag)(H:Hp)(a:Addr)(xs:List V):Prop:=match t with
 | true=>SqT K H a xs
 | false=>SqL K H a xs
theorem Inv.src {X:Cx}{pins:List (Addr×Obj)}{σ:List (Option V)}{H:Hp}{s:Shared}{t:Bool}{a:Addr}{xs:List V}(I:Inv X pins σ H s)(h:oP t X.K H a xs):∃its:List Value,Vals xs its/\SrcAt t s.heap a its.toArray:=by
 cases t with
 | true=>obtain⟨its,rv,p,_⟩:=I.tuple h;exact⟨its,rv,p⟩
 | false=>obtain⟨its,rv,p,_⟩:=I.list h;exact⟨its,rv,p.isList⟩
theorem Inv.src_inj {X:Cx}{pins:List (Addr×Obj)}{σ:List (Option V)}{H:Hp}{s:Shared}{t:Bool}{a:Addr}{xs ys:List V}(I:Inv X pins σ H s)(h:oP t X.K H a xs)(h':oP t X.K H a ys):xs=ys:=by
 cases t with
 | true=>exact I.tuple_inj h h'
 | false=>exact I.list_inj h h'
def AA (K:PySem.W.Frag)(t1 t2:Bool)(a b:Addr):It :=
 ⟨fun i H=>∃xs x ys y,oP t1 K H a xs/\xs[i]?=some x/\oP t2 K H b ys/\ys[i]?=some y,
  fun i H v H'=>∃T x y,(∀xs,oP t1 K H a xs->xs[i]?=some x)/\(∀ys,oP t2 K H b ys->ys[i]?=some y)/\H T=none/\v=.ref T/\H'=al H T (.tup [x,y]),
  fun i H=>∃xs ys,oP t1 K H a xs/\oP t2 K H b ys/\(xs.length≤i\/ys.length≤i)⟩
theorem rm {P:Program}{w:World}{K:PySem.W.Frag}{elts:List Expr}{x1}{pos:Pos}{t1 t2:Bool}{a b z TI TO i1 i2:Addr}(D:ZipApart z TI TO i1 i2 a b) :
  ie P w K (.Tuple elts x1 pos) (AA K t1 t2 a b) [z,TI,TO,i1,i2] z (fun i h=>IsZip h z TI TO .none/\IsPair h TI (.ref i1) (.ref i2)/\(∃u v,IsPair h TO u v)/\ItAt t1 h i1 a i/\ItAt t2 h i2 b i) where
 mem:=by simp
 obj:=by
  rintro i h ⟨hz,hTI,⟨u,v,hTO⟩,h1,h2⟩ c hc
  simp only[List.mem_cons,List.not_mem_nil,or_false]at hc
  rcases hc with rfl | rfl | rfl | rfl | rfl
  ·exact⟨_,hz,fun v z=>by cases z⟩
  ·exact⟨_,hTI,fun v z=>by cases z⟩
  ·exact⟨_,hTO,fun v z=>by cases z⟩
  ·exact h1.obj
  ·exact h2.obj
 keep:=by
  rintro i h h' ⟨hz,hTI,⟨u,v,hTO⟩,h1,h2⟩ k
  exact⟨k z (by simp) _ hz,k TI (by simp) _ hTI,⟨u,v,k TO (by simp) _ hTO⟩,h1.at fun o e=>k i1 (by simp) o e,h2.at fun o e=>k i2 (by simp) o e⟩
 item:=by
  rintro X hP hw hK hc i pins s σ H E I hf ⟨hz,hTI,⟨u,v,hTO⟩,h1,h2⟩ ⟨xs,x,ys,y,q1,hx,q2,hy⟩
  subst hP hw hK
  obtain⟨its1,rv1,p1⟩:=I.src q1
  obtain⟨its2,rv2,p2⟩:=I.src q2
  obtain⟨ux,hux,rx⟩:=rv1.get hx
  obtain⟨uy,huy,ry⟩:=rv2.get hy
  refine qd D hz hTI hTO h1 h2 p1 p2 (x:=ux) (y:=uy) (by simpa using hux) (by simpa using huy) fun h' a1 a2 a3 a4 a5 a6 a7=>?_
  have hT:H s.heap.objs.size=none:=I.hok.fresh (Nat.le_refl _)
  have I1:Inv X pins σ (al H s.heap.objs.size (.tup [x,y])) { s with heap:=s.heap.push { cls:=.type "tuple",data:=.seq [ux,uy].toArray } } :=
   I.laid (t':=s.toks) (fun b o e=>Heap.get?_push_of_some _ e) (Nat.le_refl _) (show ObjOk X.prog X.w _ _ _ (.tup [x,y]) from ⟨by show 2≤sizeLine;decide,[ux,uy],.cons rx (.cons ry .nil),IsTup.new _ _⟩)
  have hlt:∀c∈[z,TI,TO,i1,i2],c<s.heap.objs.size:=by
   intro c hc
   simp only[List.mem_cons,List.not_mem_nil,or_false]at hc
   rcases hc with rfl | rfl | rfl | rfl | rfl
   ·exact Heap.lt_size hz
   ·exact Heap.lt_size hTI
   ·exact Heap.lt_size hTO
   ·obtain⟨o,e,_⟩:=h1.obj;exact Heap.lt_size e
   ·obtain⟨o,e,_⟩:=h2.obj;exact Heap.lt_size e
  have hf':∀c∈[z,TI,TO,i1,i2],dr X pins (al H s.heap.objs.size (.tup [x,y])) c:=fun c hc=>by
   obtain⟨f0,fr⟩:=hf c hc
   exact⟨by rw[am (Nat.ne_of_lt (hlt c hc))];exact f0,fr⟩
  have kept:∀c o,c∉[z,TI,TO,i1,i2]->(s.heap.push { cls:=.type "tuple",data:=.seq [ux,uy].toArray }).get? c=some o->h'.get? c=some o:=by
   intro c o hc e
   have hc':c≠z/\c≠TI/\c≠TO/\c≠i1/\c≠i2:=by simpa using hc
   by_cases hn:c=s.heap.objs.size
   ·subst hn
    have e0:(s.heap.push { cls:=.type "tuple",data:=.seq [ux,uy].toArray }).get? s.heap.objs.size=some { cls:=.type "tuple",data:=.seq [ux,uy].toArray }:=Heap.get?_push_size _ rfl
    rw[e0]at e
    cases e
    exact a5
   ·have e1:s.heap.get? c=some o:=by
     rw[Heap.get?_push_ne _ _ _ hn]at e
     exact e
    exact a7 c o hc'.1 hc'.2.2.1 hc'.2.2.2.1 hc'.2.2.2.2 e1
  have I2:Inv X pins σ (al H s.heap.objs.size (.tup [x,y])) { s with heap:=h' }:=I1.turnedL (t':=s.toks) kept hf'
  refine⟨_,rfl,?_⟩
  refine wpAny_letOwnedTupleGo_zip a1 fun h2' hz2 hs2=>?_
  have I3:Inv X pins σ (al H s.heap.objs.size (.tup [x,y])) { s with heap:=h2' }:=Inv.turnedL (s:={ s with heap:=h' }) (h':=h2') (t':=s.toks) (fp:=[z,TI,TO,i1,i2]) I2 (fun c o hc e=>hs2.extBut _ _ (fun q=>hc (by simp[q])) e) hf'
  refine⟨.ref s.heap.objs.size,_,I3,rfl,⟨_,x,y,fun zs hq=>by rw[I.src_inj hq q1];exact hx,fun zs hq=>by rw[I.src_inj hq q2];exact hy,hT,rfl,rfl⟩,?_,fun c hc=>(hf' c hc).1⟩
  exact⟨hz2,hs2.extBut _ _ D.TIz (a7 _ _ D.TIz D.TITO D.TIi1 D.TIi2 hTI),⟨_,_,hs2.extBut _ _ D.TOz a2⟩,a3.at fun o e=>hs2.extBut _ _ D.i1z e,a4.at fun o e=>hs2.extBut _ _ D.i2z e⟩
 done:=by
  rintro X hP hw hK hc i pins s σ H E I hf ⟨hz,hTI,⟨u,v,hTO⟩,h1,h2⟩ ⟨xs,ys,q1,q2,hend⟩
  subst hP hw hK
  obtain⟨its1,rv1,p1⟩:=I.src q1
  obtain⟨its2,rv2,p2⟩:=I.src q2
  have l1:=rv1.length
  have l2:=rv2.length
  refine sr (I.ok.hd hc) D hz hTI hTO h1 h2 p1 p2 (by simp;omega) fun h' hk=>⟨rfl,I.turnedL (t':=s.toks) (fp:=[z,TI,TO,i1,i2]) (fun c o hc e=>?_) hf⟩
  have hc':c≠z/\c≠TI/\c≠TO/\c≠i1/\c≠i2:=by simpa using hc
  exact hk c o hc'.1 hc'.2.2.1 hc'.2.2.2.1 hc'.2.2.2.2 e
 self:=fun _ _ _ _ _ st h=>wpAny_pyIter_zip st.1 h
section
variable {X:Cx}{K:PySem.W.Frag}
def A9 (K:PySem.W.Frag)(ta:TA):TI:=fun σ H R=>ta σ H fun vs H1=>match vs with
 | [.ref a,.ref b]=>∃t1 t2,(∃xs,oP t1 K H1 a xs)/\(∃ys,oP t2 K H1 b ys)/\R (AA K t1 t2 a b) H1
 | _=>False
theorem zb {a b:Expr}{ta:TA}{p pos:Pos}{elts:List Expr}{x1}{pos':Pos}(hg:Gl X "zip")(hm:X.mg "zip"=none)(ha:PA X [a,b] ta)(hK:X.K=K:=by rfl)(hs:starEach [a,b] X.env=[(false,eval a X.env),(false,eval b X.env)]:=by rfl)(hs2:starEach [b] X.env=[(false,eval b X.env)]:=by rfl) :
  PI X (.Tuple elts x1 pos') (.Call (.Name "zip" p) [a,b] [] pos) (A9 K ta):=by
 subst hK
 intro pins s σ H R I h
 refine Call_ (ff I hg hm boot_zip (PyProof.Rows.callWith_type1 (bh (ha pos pins s σ H _ I h) fun us s1 ⟨vs,H1,I1,r1,q1⟩=>?_) (by rw[hs,hs2]) (by rw[hs2];rfl)))
 dsimp only at q1
 split at q1
 ·obtain⟨u,u',rfl,r,r'⟩:=oq r1
  cases r
  cases r'
  obtain⟨t1,t2,⟨xs,hx⟩,⟨ys,hy⟩,q⟩:=q1
  obtain⟨its1,rv1,p1⟩:=I1.src hx
  obtain⟨its2,rv2,p2⟩:=I1.src hy
  refine rS p1 p2 fun h' hz hTI hTO h1 h2 hk=>?_
  refine wpAny_pyIter_zip hz ?_
  refine⟨_,[s1.heap.objs.size+4,s1.heap.objs.size+2,s1.heap.objs.size+3,s1.heap.objs.size,s1.heap.objs.size+1],_,_,H1,rfl,I1.kept (t':=s1.toks) hk,rm (zipApart_new p1.lt p2.lt),⟨hz,hTI,⟨_,_,hTO⟩,h1,h2⟩,fun c hc=>?_,q⟩
  have hge:s1.heap.objs.size≤c:=by
   simp only[List.mem_cons,List.not_mem_nil,or_false]at hc
   rcases hc with rfl | rfl | rfl | rfl | rfl
   ·exact Nat.le_add_right _ 4
   ·exact Nat.le_add_right _ 2
   ·exact Nat.le_add_right _ 3
   ·exact Nat.le_refl _
   ·exact Nat.le_add_right _ 1
  exact I1.fpOk hge (I1.hok.fresh hge)
 ·exact q1.elim
theorem yN {a b:Expr}{ta:TA}{p pos:Pos}{elts:List Expr}{x1}{pos':Pos}(hg:Gl X "zip")(hm:X.mg "zip"=none)(ha:JA X [a,b] ta)(hK:X.K=K:=by rfl)(h1:bz a=true:=by rfl)(h2:bz b=true:=by rfl) :
  JI X (.Tuple elts x1 pos') (.Call (.Name "zip" p) [a,b] [] pos) (A9 K ta):=.mk (zb hg hm ha.out hK (by rw[az h1,az h2];rfl) (by rw[az h2];rfl))
end
theorem vk {K:PySem.W.Frag}{t1 t2:Bool}{a b:Addr}{xs ys:List V}{g:TG}{tb:TS}{D:im}{σ:St}{H:Hp}(Pv:Nat->St->Hp->Prop)(h0:Pv 0 σ H)(hle:xs.length=ys.length)
  (hl:∀i σ H,i≤xs.length->Pv i σ H->oP t1 K H a xs/\oP t2 K H b ys)
  (hs:∀i x y σ H,xs[i]?=some x->ys[i]?=some y->Pv i σ H->∀T,H T=none->g (.ref T) σ (al H T (.tup [x,y])) fun σ2 H2=>tb { D with nx:=Pv (i+1),ct:=Pv (i+1),bk:=D.nx } σ2 H2) (hd:∀σ H,Pv xs.length σ H->D.nx σ H) :
  ∃W:Nat->Nat->St->Hp->Prop,(∃m,W 0 m σ H)/\∀i m σ H,W i m σ H ->
   ((AA K t1 t2 a b).stop i H/\D.nx σ H)\/((AA K t1 t2 a b).go i H/\∃N:St->Hp->Prop,(∀σ' H',N σ' H'->∃m',m'<m/\W (i+1) m' σ' H')/\∀x H',(AA K t1 t2 a b).yld i H x H'->g x σ H' fun σ2 H2=>tb { D with nx:=N,ct:=N,bk:=D.nx } σ2 H2):=by
 refine⟨fun i m σ H=>m=xs.length-i/\i≤xs.length/\Pv i σ H,⟨xs.length,by simp,Nat.zero_le _,h0⟩,?_⟩
 rintro i m σ H ⟨rfl,hi,p⟩
 obtain⟨q1,q2⟩:=hl i σ H hi p
 by_cases hlt:i<xs.length
 ·have hlt2:i<ys.length:=by omega
  refine .inr ⟨⟨xs,xs[i],ys,ys[i],q1,by simp[hlt],q2,by simp[hlt2]⟩,Pv (i+1),fun σ' H' p'=>⟨xs.length-(i+1),by omega,rfl,hlt,p'⟩,fun v H' y=>?_⟩
  obtain⟨T,x,y,e1,e2,hT,rfl,rfl⟩:=y
  exact hs i x y σ H (e1 xs q1) (e2 ys q2) p T hT
 ·have e:i=xs.length:=by omega
  subst e
  exact .inl ⟨⟨xs,ys,q1,q2,.inl (Nat.le_refl _)⟩,hd σ H p⟩
end L2
namespace L2
open PySem PySem.Spec PyProof.Rows
def FlyG (B:Heap)(l:List Env)(e:Addr)(cls a0:Value)(h:Heap):Prop:=B.StaysIn h/\B.get? e=none/\h.FunFrames B l/\∃fl,h.TracedAtW B e cls a0 fl
theorem FlyG.of {B h:Heap}{l:List Env}{e:Addr}{cls a0:Value}(x:Heap.FlyingW B l e cls a0 h):FlyG B l e cls a0 h:=⟨x.1,x.2.1,x.2.2.1,_,x.2.2.2.at⟩
section
variable {M:Model}{A:Around}{E:Value->Shared->Prop}{s:Shared}{B:Heap}{env:Env}{outer:List Env}{L e:Addr}{cls a0:Value}{Q:Unit->Shared->Prop}
theorem lM (hfr:A.frames=some (env::outer))(hf:env.frame=some L)(x:FlyG B (env::outer) e cls a0 s.heap)
  (hQ:∀h',Heap.HeldW B (env::outer) e cls a0 L h'->s.heap.UpToSlots h'->Q () { s with heap:=h' }):wpAny M A (noteFrame (.ref e) env) Q E s:=by
 obtain⟨st,hn,hl,fl,ht⟩:=x
 by_cases hfl:fl=rawInt L
 ·subst hfl
  exact wpAny_noteFrame_againW hf ht (hQ s.heap ⟨st,hn,hl,ht⟩ (.refl _))
 ·obtain⟨oe,vs,T,oT,ts,he,⟨hcls,h0⟩,hd,h1,hnT,hTe,hT,hdT,h3⟩:=ht
  subst hcls
  unfold noteFrame
  simp only[hf]
  refine wpAny_bind (wpAny_field he hd h1 ?_)
  rw[if_pos (show (Value.ref T != Value.none)=true from by simp)]
  refine wpAny_bind (wpAny_field hT hdT h3 ?_)
  rw[if_neg (show ¬ ((fl == rawInt L)=true) from fun z=>hfl (beq_iff_eq.mp z))]
  refine wpAny_bind (wpAny_setField hT hdT (Array.getElem?_eq_some_iff.mp h3).1 ?_)
  have other:∀b,b≠T->(s.heap.update T (Obj.mapFields (·.setIfInBounds 3 Value.none))).get? b=s.heap.get? b:=fun b hb=>Heap.get?_update_other _ _ (Ne.symm hb)
  have noRecord:∀b o,s.heap.get? b=some o->(∀vs,o.data≠.fields vs)->b≠T:=fun b o hb hnf q=>by
   rw[q,hT]at hb;injection hb with hb;subst hb;exact hnf ts hdT
  refine wpAny_entryW hfr (hl.of_keeps fun b o hb hnf=>⟨o,(other b (noRecord b o hb hnf)).trans hb,rfl⟩) hf ((other e (Ne.symm hTe)).trans he)
   (fun b o hbo=>(other b fun q=>by rw[q,hnT]at hbo;cases hbo).trans (st b o hbo)) hn hd (Array.getElem?_eq_some_iff.mp h1).1 h0
   fun h' ⟨x1,x2,x3,x4⟩=>hQ h' ⟨x1,hn,x2,x3⟩ fun b o hb hnf=>x4 b o ((other b (noRecord b o hb hnf)).trans hb) hnf
theorem kL (hfr:A.frames=some (env::outer))(hf:env.frame=some L)(x:FlyG B (env::outer) e cls a0 s.heap)
  (hQ:∀h',Heap.FlyingW B outer e cls a0 h'->s.heap.UpToSlots h'->Q () { s with heap:=h' }):wpAny M A (leaving env (.ref e)) Q E s:=by
 unfold leaving
 refine wpAny_bind (lM hfr hf x fun h1 hh us1=>?_)
 refine wpAny_landsW (s:={ s with heap:=h1 }) hh fun h2 fl us2=>?_
 obtain⟨k1,k2,⟨_,_,k3⟩,k4⟩:=fl
 exact hQ h2 ⟨k1,k2,k3,k4⟩ (us1.trans us2)
end
def qH (P:Program)(w:World)(stack:List Env)(fs ex:List Addr)(H₀:Hp)(h₀:Heap)(os:OsState)(E:XK)(e:Value)(s':Shared):Prop :=
 ∃(a:Addr) (B:Heap) (cls a0:Value) (H':Hp),e=.ref a/\s'.os=os/\AllBare s'.gens/\FlyG B stack a cls a0 s'.heap/\HOk P w H' B/\Un fs ex H₀ H' h₀ s'.heap /\
 (∀b o,h₀.get? b=some o->b∉fs->b∉ex->(∃o',B.get? b=some o')/\(H₀ b=none->B.get? b=some o))/\E cls none H'
def gm (P:Program)(w:World):nr:=fun outer H s E e s'=>qH P w outer (dn outer) [] H s.heap s.os E e s'
def AJ (X:Cx)(E:XK)(e:Value)(s':Shared):Prop:=qH X.prog X.w X.stack X.fs X.ex X.H₀ X.s₀.heap X.s₀.os E e s'
def Exits (X:Cx)(E:XK):Prop:=X.Ok->∀e s',AJ X E e s'->X.xe e s'
section
variable {X:Cx}{E:XK}{pins:List (Addr×Obj)}{σ:List (Option V)}{H H':Hp}{s:Shared}{h'' B:Heap}
theorem Inv.nostk (I:Inv X pins σ H s){b:Addr}{o:Obj}(e:X.s₀.heap.get? b=some o)(hb:b∉X.fs):b∉dn X.stack:=fun z=>by
 rcases List.mem_cons.mp (I.stkSub b z) with q | q
 ·exact absurd (Nat.lt_of_lt_of_le (Heap.lt_size e) I.ok.above) (by rw[q];exact Nat.lt_irrefl _)
 ·exact hb q
theorem kM {fp:List Addr}{h':Heap}(I:Inv X pins σ H s)(hfp:∀b∈fp,b∈X.ex\/X.s₀.heap.objs.size≤b)(un:Un (dn X.stack) fp H H' s.heap h')
  (kb:∀b o,s.heap.get? b=some o->b∉dn X.stack->b∉fp->(∃o',B.get? b=some o')/\(H b=none->B.get? b=some o)) (st:B.StaysIn h') :
  Un X.fs X.ex X.H₀ H' X.s₀.heap h'/\∀b o,X.s₀.heap.get? b=some o->b∉X.fs->b∉X.ex->(∃o',B.get? b=some o')/\(X.H₀ b=none->B.get? b=some o):=by
 have nofp:∀b o,X.s₀.heap.get? b=some o->b∉X.ex->b∉fp:=fun b o e hx z=>by
  rcases hfp b z with q | q
  ·exact hx q
  ·exact absurd (Nat.lt_of_lt_of_le (Heap.lt_size e) q) (Nat.lt_irrefl _)
 have kb':∀b o,X.s₀.heap.get? b=some o->b∉X.fs->b∉X.ex->(∃o',B.get? b=some o')/\(X.H₀ b=none->B.get? b=some o):=fun b o e hb hx=>by
  obtain⟨o1,e1⟩:=I.base.there b o e hx
  refine⟨(kb b o1 e1 (I.nostk e hb) (nofp b o e hx)).1,fun n=>?_⟩
  exact (kb b o (I.base.keep b o e n hb hx) (I.nostk e hb) (nofp b o e hx)).2 (I.base.free b o e n hx)
 have inS:∀b,b∈X.fs->b∈dn X.stack:=fun b hb=>by
  rcases I.ok.stk with q | ⟨q,hf⟩
  ·rw[q];exact hb
  ·rw[q];unfold dn;rw[List.filterMap_cons,hf];exact List.mem_cons_of_mem _ hb
 refine⟨⟨fun b o e n hb hx=>st b o ((kb' b o e hb hx).2 n),fun b o e n hb hx=>?_,fun b o e n hx=>?_,fun b o e hx=>?_,fun b xs e=>un.tups b xs (I.base.tups b xs e),fun b o u e=>un.frzs b o u (I.base.frzs b o u e),fun b ps e=>?_⟩,kb'⟩
 ·obtain⟨sl1,e1⟩:=I.base.slot b o e n hb hx
  obtain⟨sl2,e2⟩:=un.slot b _ e1 (I.base.free b o e n hx) (inS b hb) (nofp b o e hx)
  exact⟨sl2,e2⟩
 ·obtain⟨o1,e1⟩:=I.base.there b o e hx
  exact un.free b o1 e1 (I.base.free b o e n hx) (nofp b o e hx)
 ·obtain⟨o1,e1⟩:=I.base.there b o e hx
  exact un.there b o1 e1 (nofp b o e hx)
 ·obtain⟨m1,e1⟩:=I.base.tbls b ps e
  obtain⟨m2,e2⟩:=un.tbls b _ e1
  exact⟨m1++m2,by rw[e2,Array.append_assoc]⟩
theorem lq {fp:List Addr}(I:Inv X pins σ H s)(hfp:∀b∈fp,b∈X.ex\/X.s₀.heap.objs.size≤b){e:Value}{s':Shared}(h:qH X.prog X.w X.stack (dn X.stack) fp H s.heap s.os E e s'):AJ X E e s':=by
 obtain⟨a,B,cls,a0,H',rfl,os,bare,fl,hok,un,kb,hE⟩:=h
 obtain⟨un',kb'⟩:=kM I hfp un kb fl.1
 exact⟨a,B,cls,a0,H',rfl,os.trans I.os,bare,fl,hok,un',kb',hE⟩
theorem Exits.passes (h:Exits X E):dc (gm X.prog X.w) X E:=fun pins σ H s e s' I q=>h I.ok e s' (lq (fp:=[]) I (fun _ z=>nomatch z) q)
end
section
variable {P:Program}{w:World}{K:PySem.W.Frag}{mg:Str->Option Value}{base:Heap}{N:List Str}{qual:Str}{scope:Scope}{f:Addr}{cd:Value}{A:Around}{outer:List Env}{s₀:Shared}{H₀:Hp}{E:XK}
 {pins:List (Addr×Obj)} {σ:List (Option V)} {H H':Hp} {s:Shared} {h' h'' B:Heap}
theorem mf {env:Env}{l:List Env}{L:Addr}(h:env.frame=some L):dn (env::l)=L::dn l:=by unfold dn;rw[List.filterMap_cons,h]
theorem j2 {fs ex:List Addr}{H₀ H':Hp}{h₀ h1 h2:Heap}(un:Un fs ex H₀ H' h₀ h1)(kb:∀b o,h₀.get? b=some o->b∉fs->b∉ex->(∃o',B.get? b=some o')/\(H₀ b=none->B.get? b=some o))(st:B.StaysIn h2)(us:∀b∈fs,∀o,h1.get? b=some o->(∀vs,o.data≠.fields vs)->∃sl,h2.get? b=some { o with slots:=sl })
  (nf:∀b∈fs,∃o,h₀.get? b=some o/\∀vs,o.data≠.fields vs) (hfree:∀b∈fs,H₀ b=none):Un fs ex H₀ H' h₀ h2:=by
 have slot:∀b o,h₀.get? b=some o->H₀ b=none->b∈fs->b∉ex->∃sl,h2.get? b=some { o with slots:=sl }:=fun b o e n hb hx=>by
  obtain⟨sl,e1⟩:=un.slot b o e n hb hx
  obtain⟨o',e',d'⟩:=nf b hb
  rw[e]at e';cases e'
  obtain⟨sl2,e2⟩:=us b hb _ e1 d'
  exact⟨sl2,e2⟩
 refine⟨fun b o e n hb hx=>st b o ((kb b o e hb hx).2 n),slot,un.free,fun b o e hx=>?_,un.tups,un.frzs,un.tbls⟩
 by_cases hb:b∈fs
 ·obtain⟨sl,e1⟩:=slot b o e (hfree b hb) hb hx
  exact⟨_,e1⟩
 ·obtain⟨o',e'⟩:=(kb b o e hb hx).1
  exact⟨o',st b o' e'⟩
theorem exits_fn:Exits (bN (gm P w) P w K mg base N qual scope f cd A outer s₀ H₀ E) E:=by
 intro ok e s' h
 obtain⟨a,B,cls,a0,H',rfl,os,bare,fl,hok,un,kb,hE⟩:=h
 show wpAny (model P w) (A.deeper (envOfC qual scope s₀.heap.objs.size f cd)) (leaving (envOfC qual scope s₀.heap.objs.size f cd) (.ref a)) (fun _ s''=>gm P w outer H₀ s₀ E (.ref a) s'') (fun e' s''=>gm P w outer H₀ s₀ E e' s'') s'
 refine kL (L:=s₀.heap.objs.size) ok.frames rfl fl fun h'' fl' us=>?_
 exact⟨a,B,cls,a0,H',rfl,os,bare,.of fl',hok,j2 un kb fl'.1 (fun b _=>us b) (fun b hb=>(ok.funs.mem hb).2) ok.frf,kb,hE⟩
theorem iP:dc (gm P w) (bN (gm P w) P w K mg base N qual scope f cd A outer s₀ H₀ E) E:=exits_fn.passes
theorem mE {e:Addr}{cls:Value}{args:List Value}(I:Inv (bN (gm P w) P w K mg base N qual scope f cd A outer s₀ H₀ E) pins σ H s)(hx:Heap.MadeExcOf s.heap h' e cls args)(hE:E cls none H) :
  (bN (gm P w) P w K mg base N qual scope f cd A outer s₀ H₀ E).xe (.ref e) { s with heap:=h' }:=by
 show wpAny (model P w) (A.deeper (envOfC qual scope s₀.heap.objs.size f cd)) (leaving (envOfC qual scope s₀.heap.objs.size f cd) (.ref e)) (fun _ s''=>gm P w outer H₀ s₀ E (.ref e) s'') (fun e' s''=>gm P w outer H₀ s₀ E e' s'') { s with heap:=h' }
 have hin:∀env∈(envOfC qual scope s₀.heap.objs.size f cd::outer),∀b,env.frame=some b->b∈dn (envOfC qual scope s₀.heap.objs.size f cd::outer):=fun env he b hb=>List.mem_filterMap.mpr ⟨env,he,hb⟩
 refine wpAny_leaves_madeW (base:=PySem.W.hideAll s.heap (dn (envOfC qual scope s₀.heap.objs.size f cd::outer))) (h:=s.heap) (L:=s₀.heap.objs.size) I.ok.frames rfl (fun b o q=>PySem.W.of_hideAll _ q) (PySem.W.funFrames_hide I.stack hin) hx fun h'' t fl tup hbt us=>?_
 have hidden:∀b o,s.heap.get? b=some o->b∉dn (envOfC qual scope s₀.heap.objs.size f cd::outer)->(PySem.W.hideAll s.heap (dn (envOfC qual scope s₀.heap.objs.size f cd::outer))).get? b=some o:=fun b o q hb=>PySem.W.hideAll_get _ q hb
 have noex:∀b:Addr,b∉(bN (gm P w) P w K mg base N qual scope f cd A outer s₀ H₀ E).ex:=fun b z=>nomatch (show b∈([]:List Addr) from z)
 have kb:∀b o,s₀.heap.get? b=some o->b∉dn outer->b∉([]:List Addr)->(∃o',(PySem.W.hideAll s.heap (dn (envOfC qual scope s₀.heap.objs.size f cd::outer))).get? b=some o')/\(H₀ b=none->(PySem.W.hideAll s.heap (dn (envOfC qual scope s₀.heap.objs.size f cd::outer))).get? b=some o):=fun b o q hb _=>by
  obtain⟨o1,e1⟩:=I.base.there b o q (noex b)
  exact⟨⟨o1,hidden b o1 e1 (I.nostk q hb)⟩,fun n=>hidden b o (I.base.keep b o q n hb (noex b)) (I.nostk q hb)⟩
 have un:Un (dn outer) [] H₀ H s₀.heap h'':=j2 (I.base) kb fl.1 (fun b _=>((Heap.UpToSlots.of_keeps hx.keeps).trans us) b) (fun b hb=>(I.ok.funs.mem hb).2) I.ok.frf
 refine⟨e,_,cls,_,H,rfl,I.os,I.bare,.of fl,fun b u q=>?_,un,kb,hE⟩
 refine (I.hok b u q).stay (fun c v hc z=>hidden c v z fun m=>?_) (fun _ z=>z) fun _ _ z=>z
 have hn:H c=none:=I.stkFree c m
 rcases hc with rfl | hc
 ·rw[q]at hn;cases hn
 ·rw[hc]at hn;cases hn
end
end L2
namespace L2
open PySem PySem.Spec PyProof.Rows
abbrev eO:List Value:=[.type "ValueError",.type "Exception",.type "BaseException",.type "object"]
theorem pH {K:PySem.W.Frag}{h:Heap}{C:Addr}{bmB:List Value}{newId:String}(X:K.In h)(q:PySem.W.excIn K C bmB newId=true) :
  ∃bm N nm q bs hdct sn sub ab col dd k0 k1 k2 k3 k5 mN,h.get? C=some (excClassObj nm q C N bs bm hdct sn sub ab col dd k0 k1 k2 k3 k5 newId)/\h.Ns N mN/\mN "__init__"=none/\OwnTail h bmB bm:=by
 unfold PySem.W.excIn at q
 split at q
 ·rename_i dd cd sl ho
  split at q
  ·rename_i C' bm k0 k1 k2 k3 n k5 hm hs
   simp only[Bool.and_eq_true,beq_iff_eq,Bool.not_eq_true']at q
   obtain⟨⟨⟨⟨⟨rfl,rfl⟩,hdel⟩,ht⟩,hok⟩,hni⟩:=q
   obtain⟨nm,bs,mro,ns,qn,hd,sn,sub,ab,col,del⟩:=cd
   dsimp only at hm hdel hok hni
   subst hm hdel
   have hsl:sl=#[k0,k1,k2,k3,some (.builtin n),k5]:=by
    obtain⟨l⟩:=sl
    simp only at hs
    rw[hs]
   subst hsl
   exact⟨bm,ns,nm,qn,bs,hd,sn,sub,ab,col,dd,k0,k1,k2,k3,k5,_,X _ _ ho,.of_isNs (PySem.W.isNs_of_in X hok),PySem.W.nsMap_none_of_in X hok hni,PySem.W.tail_of_in X ht⟩
  ·cases q
 ·cases q
def PF (X:Cx)(e:Expr)(c:St->Hp->Prop):Prop:=∀(pins:List (Addr×Obj)) (s:Shared) (σ:St) (H:Hp),Inv X pins σ H s->c σ H ->
 wpAny (model X.prog X.w) X.A (eval e X.env) (fun v s'=>∃y t,v=.str y t/\y.length≤1100000/\Inv X pins σ H s') X.xe s
def AY (X:Cx)(es:List Expr)(c:St->Hp->Prop):Prop:=∀(pins:List (Addr×Obj)) (s:Shared) (σ:St) (H:Hp) (acc:Str) (n:Nat),Inv X pins σ H s->c σ H->acc.length≤n*1100000->n+es.length≤12 ->
 Joins (model X.prog X.w) X.A X.xe (evalEach es X.env) acc (fun out s'=>out.length≤sizeLine/\Inv X pins σ H s') s
section
variable {X:Cx}{e:Expr}{es:List Expr}{te:TE}{c c':St->Hp->Prop}{pos:Pos}
theorem iJ {n:Nat}(h:n≤12*1100000):n≤sizeLine:=by rw[sizeLine_eq];omega
theorem xP {x:Str}{k:Nat}(h:x.length≤1100000:=by decide):PF X (.Constant (.str x) k pos) (fun _ _=>True):=fun pins s σ H I _ =>
 Calls.Constant_str (show ∃y t,Value.str x s.toks=.str y t/\y.length≤1100000/\Inv X pins σ H { s with toks:=s.toks+1 } from ⟨x,_,rfl,h,I.tok _⟩)
theorem uR (he:PE X e te):PF X (.FormattedValue e 114 none pos) (fun σ H=>te σ H fun v H1=>H1=H/\∃x,v=.str x/\x.length≤100000/\∀c∈x.cps.toList,c<16 ^ 8):=by
 intro pins s σ H I h
 refine wpAny_FormattedValue_repr (bh (he pins s σ H _ I h) fun u s1 ⟨v,H1,I1,r1,e1,x,ex,hl,hc⟩=>?_)
 subst e1 ex
 obtain⟨t,rfl⟩:=r1
 have hr:=StrLaws.reprText_len x hc
 have hz:=iJ (Nat.le_trans hr (show 10*x.length+2≤12*1100000 by omega))
 refine wpAny_pyReprObj_str ?_ hz
 refine wpAny_formatField_str ⟨_,_,rfl,by omega,I1.tok _⟩ ⟨_,_,rfl,by omega,?_⟩ hz
 exact (I1.tok (s1.toks+1)).tok _
theorem sR (he:PE X e te):PF X (.FormattedValue e (-1) none pos) (fun σ H=>te σ H fun v H1=>H1=H/\((∃x,v=.str x/\x.length≤100000)\/∃a,v=.int a/\a.natAbs.log2<1920/\(Str.ofString (toString a)).length≤1100000)):=by
 intro pins s σ H I h
 refine wpAny_FormattedValue_plain (bh (he pins s σ H _ I h) fun u s1 ⟨v,H1,I1,r1,e1,q⟩=>?_)
 subst e1
 rcases q with⟨x,ex,hl⟩ | ⟨a,ea,hl,hs⟩
 ·subst ex
  obtain⟨t,rfl⟩:=r1
  exact wpAny_formatField_str ⟨_,_,rfl,by omega,I1⟩ ⟨_,_,rfl,by omega,I1.tok _⟩ (iJ (by omega))
 ·subst ea
  obtain⟨t,rfl⟩:=r1
  exact wpAny_formatField_int hl ⟨_,_,rfl,hs,I1.tok _⟩
theorem vA:AY X [] (fun _ _=>True):=fun pins s σ H acc n I _ hl hn=>by
 have h2:n≤12:=by simpa using hn
 exact⟨iJ (Nat.le_trans hl (Nat.mul_le_mul_right 1100000 h2)),I⟩
theorem sU (h1:PF X e c)(h2:AY X es c')(he:evalEach (e::es) X.env=eval e X.env::evalEach es X.env:=by rfl):AY X (e::es) (fun σ H=>c σ H/\c' σ H):=by
 intro pins s σ H acc n I hc hl hn
 rw[he]
 have hn':n+1+es.length≤12:=by rw[List.length_cons]at hn;omega
 refine bh (h1 pins s σ H I hc.1) fun v s1 ⟨y,t,ev,hy,I1⟩=>⟨y,t,ev,?_,?_⟩
 ·rw[strLen_append]
  exact iJ (by omega)
 ·refine h2 pins s1 σ H (acc++y) (n+1) I1 hc.2 ?_ hn'
  rw[strLen_append];omega
def zB (c:St->Hp->Prop):TE:=fun σ H Q=>c σ H/\∀z:Str,z.length≤sizeLine->Q (.str z) H
theorem iR {M:Model}{A:Around}{E:Value->Shared->Prop}{Q Q':Str->Shared->Prop}(hQ:∀z s,Q z s->Q' z s):∀(l:List (Sem Value)) (acc:Str) (s:Shared),Joins M A E l acc Q s->Joins M A E l acc Q' s
 | [],acc,s,h=>hQ _ _ h
 | x::r,acc,s,h=>bh h fun v s1 ⟨y,t,ev,hz,hr⟩=>⟨y,t,ev,hz,iR hQ r _ s1 hr⟩
theorem AD {e1 e2:Expr}(h:AY X (e1::e2::es) c)(hn:(e1::e2::es).length≤12:=by decide):PE X (.JoinedStr (e1::e2::es) pos) (zB c):=by
 intro pins s σ H Q I hq
 refine wpAny_JoinedStr (iR (fun z s' ⟨hz,I'⟩=>⟨hz,?_⟩) _ _ _ (h pins s σ H Str.empty 0 I hq.1 (by decide) (by omega)))
 exact⟨.str z,H,I'.tok _,⟨_,rfl⟩,hq.2 z hz⟩
end
end L2
namespace L2
open PySem PySem.Spec PyProof.Rows
def fY (C:Addr)(E:XK)(t:TA):TS:=fun D σ H=>t σ H fun vs H1=>vs.length≤sizeLine/\E (.ref C) none H1
section
variable {P:Program}{w:World}{K:PySem.W.Frag}{mg:Str->Option Value}{base:Heap}{N:List Str}{qual:Str}{scope:Scope}{f:Addr}{cd:Value}{A:Around}{outer:List Env}{s₀:Shared}{H₀:Hp}{E:XK}
theorem rD {x:Str}{C:Addr}{e:Expr}{es:List Expr}{t:TA}{np cpos pos:Pos}(hg:Gl (bN (gm P w) P w K mg base N qual scope f cd A outer s₀ H₀ E) x)(hm:mg x=some (.ref C))(hq:PySem.W.excIn K C eO "ValueError.__new__"=true)
  (ha:PA (bN (gm P w) P w K mg base N qual scope f cd A outer s₀ H₀ E) (e::es) t) (hst:aD (e::es)=true:=by rfl) (hd:(x == ("__debug__":Str))=false:=by decide) :
  PS (bN (gm P w) P w K mg base N qual scope f cd A outer s₀ H₀ E) (.Raise (some (.Call (.Name x np) (e::es) [] cpos)) none pos) (fY C E t):=by
 intro pins s σ H D I h
 have h':bz e=true/\aD es=true:=by simpa[aD] using hst
 have he:=az (es:=es) (env:=(bN (gm P w) P w K mg base N qual scope f cd A outer s₀ H₀ E).env) h'.1
 have hpl:=cP (env:=(bN (gm P w) P w K mg base N qual scope f cd A outer s₀ H₀ E).env) (pos:=cpos) hst
 obtain⟨bm,N',nm,q,bs,hdct,sn,sub,ab,col,dd,k0,k1,k2,k3,k5,mN,hC,hN,hni,T⟩:=pH (h:=base) I.ok.mod.kin hq
 refine wpAny_Raise_call_subU (C:=C) (nm:=nm) (q:=q) (N:=N') (bs:=bs) (bm:=bm) (hdct:=hdct) (sn:=sn) (sub:=sub) (ab:=ab) (col:=col) (dd:=dd) (k0:=k0) (k1:=k1) (k2:=k2) (k3:=k3) (k5:=k5)
  F.excBase_ValueError (by decide +kernel) F.excBase_ValueError (mN:=mN) (T.hasType F.excBase_ValueError.hasBase) (I.ok.hd rfl) hpl hni (j3 I hg hm ⟨rfl,?_⟩ hd)
 have h0:=ha cpos pins s σ H _ I h
 rw[he]at h0 ⊢
 refine Calls.evalArgs_plain (wpAny_mono h0 (fun us s2 h2=>?_) fun _ _ y=>y)
 obtain⟨vs,H2,I2,r2,hl,hE⟩:=h2
 have hlen:=r2.length
 exact⟨rfl,by show us.length≤sizeLine;omega,I2.bk _ _ hC,hN.keeps I2.bk,T.keeps I2.bk,fun h3 e3 hm3=>mE I2 hm3 hE⟩
theorem bL {x:Str}{C:Addr}{e:Expr}{es:List Expr}{t:TA}{np cpos pos:Pos}(hg:Gl (bN (gm P w) P w K mg base N qual scope f cd A outer s₀ H₀ E) x)(hm:mg x=some (.ref C))(hq:PySem.W.excIn K C eO "ValueError.__new__"=true)
  (ha:JA (bN (gm P w) P w K mg base N qual scope f cd A outer s₀ H₀ E) (e::es) t) (hst:aD (e::es)=true:=by rfl) (hd:(x == ("__debug__":Str))=false:=by decide) :
  JS (bN (gm P w) P w K mg base N qual scope f cd A outer s₀ H₀ E) (.Raise (some (.Call (.Name x np) (e::es) [] cpos)) none pos) (fY C E t):=.mk (rD hg hm hq ha.out hst hd)
theorem bf:PassesOwn (model P w) (bN (gm P w) P w K mg base N qual scope f cd A outer s₀ H₀ E).A (bN (gm P w) P w K mg base N qual scope f cd A outer s₀ H₀ E).env (bN (gm P w) P w K mg base N qual scope f cd A outer s₀ H₀ E).xe:=PassesOwn.leaving
end
abbrev JF (X:Cx)(e:Expr)(c:St->Hp->Prop):Prop:=Irr (PF X e c)
abbrev By (X:Cx)(es:List Expr)(c:St->Hp->Prop):Prop:=Irr (AY X es c)
section
variable {X:Cx}{e e1 e2:Expr}{es:List Expr}{te:TE}{c c':St->Hp->Prop}{pos:Pos}
def wt (te:TE):St->Hp->Prop:=fun σ H=>te σ H fun v H1=>H1=H/\∃x,v=.str x/\x.length≤100000/\∀c∈x.cps.toList,c<16 ^ 8
def ga (te:TE):St->Hp->Prop:=fun σ H=>te σ H fun v H1=>H1=H/\((∃x,v=.str x/\x.length≤100000)\/∃a,v=.int a/\a.natAbs.log2<1920/\(Str.ofString (toString a)).length≤1100000)
def cr:St->Hp->Prop:=fun _ _=>True
def dC (c c':St->Hp->Prop):St->Hp->Prop:=fun σ H=>c σ H/\c' σ H
theorem bP {x:Str}{k:Nat}(h:x.length≤1100000:=by decide):JF X (.Constant (.str x) k pos) cr:=.mk (xP h)
theorem gQ (he:JE X e te):JF X (.FormattedValue e 114 none pos) (wt te):=.mk (uR he.out)
theorem cE (he:JE X e te):JF X (.FormattedValue e (-1) none pos) (ga te):=.mk (sR he.out)
theorem bY:By X [] cr:=.mk vA
theorem aC (h1:JF X e c)(h2:By X es c')(he:evalEach (e::es) X.env=eval e X.env::evalEach es X.env:=by rfl):By X (e::es) (dC c c'):=.mk (sU h1.out h2.out he)
theorem j8 (h:By X (e1::e2::es) c)(hn:(e1::e2::es).length≤12:=by decide):JE X (.JoinedStr (e1::e2::es) pos) (zB c):=.mk (AD h.out hn)
end
structure DefX (P:Program)(w:World)(K:PySem.W.Frag)(mg:Str->Option Value)(base:Heap)(k:Nat)(x:Str)(ps:List Str)(sp:Sp):Prop where
 ex:∃f fd,mg x=some (.ref f)/\PySem.W.keepIn K (.ref f)=true/\(∃oc od osl,K.lookup f=some ⟨oc,od,.func fd,osl⟩)/\Binds K fd ps []/\FnOk P w K mg base (gm P w) k f fd ps sp
section
variable {X:Cx}{k:Nat}{x:Str}{ps:List Str}{sp:Sp}{e:Expr}{es:List Expr}{t:TA}{p pos:Pos}{E:XK}
theorem uK (D:DefX X.prog X.w X.K X.mg X.base k x ps sp)(hr:Room k X.A)(hg:Gl X x)(ha:PA X (e::es) t)(hx:dc (gm X.prog X.w) X E)(hdb:(x == ("__debug__":Str))=false:=by decide)
  (hst:aD (e::es)=true:=by rfl):PE X (.Call (.Name x p) (e::es) [] pos) (fun σ H Q=>t σ H fun vs H1=>sp vs H1 Q E):=by
 obtain⟨f,fd,mgf,kp,_,b,G⟩:=D.ex
 have h':bz e=true/\aD es=true:=by simpa[aD] using hst
 have he:=az (es:=es) (env:=X.env) h'.1
 have hpl:=cP (env:=X.env) (pos:=pos) h'.2
 have h:=nq (X:=X) (dvs:=[]) (E:=E) (p:=p) (pos:=pos) G hr hg mgf kp b .nil hx ha hdb he hpl
 intro pins s σ H Q I hq
 refine h pins s σ H Q I ?_
 show t σ H fun vs H1=>sp (vs++[]) H1 Q E
 have e1:(fun (vs:List V) H1=>sp (vs++[]) H1 Q E)=fun vs H1=>sp vs H1 Q E:=by funext vs H1;rw[List.append_nil]
 rw[e1]
 exact hq
theorem dI (D:DefX X.prog X.w X.K X.mg X.base k x ps sp)(hr:Room k X.A)(hg:Gl X x)(ha:JA X (e::es) t)(hx:dc (gm X.prog X.w) X E)(hdb:(x == ("__debug__":Str))=false:=by decide)
  (hst:aD (e::es)=true:=by rfl):JE X (.Call (.Name x p) (e::es) [] pos) (fun σ H Q=>t σ H fun vs H1=>sp vs H1 Q E):=.mk (uK D hr hg ha.out hx hdb hst)
end
theorem Raw.defX {P:Program}{w:World}{K:PySem.W.Frag}{mg:Str->Option Value}{base:Heap}{x:Str}{st:Stmt}{N ps:List Str}{k:Nat}{sp:Sp}(R:Raw K mg x st ps)(S:ax N ps (ak st))(len:∀vs H Q E,sp vs H Q E->vs.length=ps.length)
  (hbody:∀(f:Addr) (cdv:Value) (A:Around) (outer:List Env) (s:Shared) (H:Hp) (vs:List V) (Q:VK) (E:XK),Room k (A.deeper (envOfC x (ak st) s.heap.objs.size f cdv))->sp vs H Q E ->
   ∃t,qc (bN (gm P w) P w K mg base N x (ak st) f cdv A outer s H E) (bp st) t/\t { nx:=fun _ H'=>Q .non H',rt:=Q } (dB N vs) H):DefX P w K mg base (k+1) x ps sp:=by
 obtain⟨f,fd,h1,F,b⟩:=R.ex
 refine⟨f,fd,h1,F.kp,F.lk,.all b,?_⟩
 obtain⟨oc,od,kV,doc,pm,an,cdv,ct,osl,rfl,lk,hcd⟩:=F.ex
 refine wj lk hcd S len fun A outer s H vs Q E hr hsp=>?_
 obtain⟨t,h,q⟩:=hbody f cdv A outer s H vs Q E hr hsp
 exact⟨t,h.out,q⟩
end L2
namespace L2
open PySem PySem.Spec PyProof.Rows
def wQ (P:Program)(w:World)(stack:List Env)(ex:List Addr)(H₀:Hp)(h₀:Heap)(os:OsState)(E:XK)(C:Addr)(e:Value)(s':Shared):Prop :=
 ∃(a:Addr) (B:Heap) (cls a0:Value) (H':Hp),e=.ref a/\s'.os=os/\AllBare s'.gens/\FlyG B stack a cls a0 s'.heap/\HOk P w H' B/\Un (dn stack) ex H₀ H' h₀ s'.heap /\
 (∀b o,h₀.get? b=some o->b∉dn stack->b∉ex->(∃o',B.get? b=some o')/\(H₀ b=none->B.get? b=some o))/\E cls none H'/\(∃m,B.Ns C m)/\H' C=none
def aT (X:Cx)(N:List Str)(scope:Scope)(C:Addr)(s:Shared)(H:Hp)(ex:List Addr)(E:XK):Cx :=
 { aS X N scope C s H ex with xe:=wQ X.prog X.w X.stack ex H s.heap s.os E C }
theorem pP {X:Cx}{pins:List (Addr×Obj)}{σ:St}{H:Hp}{s:Shared}{N:List Str}{cap:List (Option Nat)}{scope:Scope}{ex:List Addr}{h₁:Heap}{tk:Nat}{C:Addr}{E:XK}(S:CompScope X N cap scope)(I:Inv X pins σ H s)(hC:s.heap.objs.size≤C)
  (hns:h₁.Ns C (fun _=>none)) (hk:∀b o,s.heap.get? b=some o->h₁.get? b=some o) (hex:∀b∈ex,b<s.heap.objs.size/\dr X pins H b) :
  Inv (aT X N scope C s H ex E) [] (fV cap σ) H { s with heap:=h₁,toks:=tk }:=(lV S I hC hns hk hex).wish _
theorem lZ {X:Cx}{N:List Str}{scope:Scope}{C:Addr}{s:Shared}{H:Hp}{ex:List Addr}{E:XK}:dc (gm X.prog X.w) (aT X N scope C s H ex E) E:=by
 intro pins σ H1 s1 e s' I q
 obtain⟨a,B,cls,a0,H',rfl,os,bare,fl,hok,un,kb,hE⟩:=q
 obtain⟨un',kb'⟩:=kM (fp:=[]) I (fun _ z=>nomatch z) un kb fl.1
 obtain⟨m,⟨o,es,ep,ho,r⟩,_⟩:=I.loc
 have hC:C∉dn X.stack:=fun z=>by
  obtain⟨_,o',e',_⟩:=I.ok.funs.mem z
  exact absurd (Nat.lt_of_lt_of_le (Heap.lt_size e') I.ok.above) (Nat.lt_irrefl _)
 have hB:B.get? C=some o:=(kb C o ho hC (by simp)).2 I.free
 exact⟨a,B,cls,a0,H',rfl,os.trans I.os,bare,fl,hok,un',kb',hE,⟨m,o,es,ep,hB,r⟩,un.free C o ho I.free (by simp)⟩
theorem kB {X:Cx}{EX:XK}{pins:List (Addr×Obj)}{σ:St}{H:Hp}{s:Shared}{N:List Str}{cap:List (Option Nat)}{scope:Scope}{elt target iter:Expr}{ifs:List Expr}{pos:Pos}{g:TG}{tc:TT}{te:TE}{J:It}{fp:List Addr}{it:Addr}{tn:Nat->Heap->Prop}
  {Q:Addr->Hp->Prop} {RR:Value->Addr->Result->Shared->Prop} {E:Value->Shared->Prop} (hc:X.calm=true) (S:CompScope X N cap scope) (I:Inv X pins σ H s) (T:ie X.prog X.w X.K target J fp it tn) (st:tn 0 s.heap) (fo:∀b∈fp,dr X pins H b)
  (hg:∀C s₀ H₀,PG (aT X N scope C s₀ H₀ fp EX) target g) (ht:∀C s₀ H₀,wc (aT X N scope C s₀ H₀ fp EX) ifs tc) (he:∀C s₀ H₀,PE (aT X N scope C s₀ H₀ fp EX) elt te)
  (h:mx J cap g tc te Q σ H)
  (hER:∀D C,s.heap.objs.size≤C->X.env.locals≠C->∀e s',wQ X.prog X.w X.stack fp H s.heap s.os EX C e s'->notedBy (model X.prog X.w) X.A (compEnvC scope (aX X.env scope.names []) C X.env) (fun e' s''=>RR (.ref D) C (.error e') s'') e s')
  (hRR:∀D C s' H',Inv X pins σ H' s'->Q D H'->(∃m,s'.heap.Ns C m)->H' C=none->X.s₀.heap.objs.size≤C->C≠X.env.locals->(∀x c,X.env.cells.lookup x=some c->c≠C)->(∀p∈X.pn++pins,p.1≠C)->RR (.ref D) C (.ok .next) s') :
  wpAny (model X.prog X.w) X.A (newList []) (fun acc s₃=>wpAny (model X.prog X.w) X.A (newFunctionEnv scope X.env.globals (aX X.env scope.names []) [] X.env.qual none .none (some X.env)) (fun cenv s₄ =>
   codeAny (model X.prog X.w) X.A (.compStart (.ListComp elt [⟨target,iter,ifs,0⟩] scope pos) 0 (.ref it) acc { cenv with scope:=relabel scope X.env }) (RR acc cenv.locals) s₄) E s₃) E s:=by
 have hfr:∀a,s.heap.objs.size≤a->H a=none:=fun a ha=>I.hok.fresh ha
 obtain⟨W,⟨m0,w0⟩,turn⟩:=h
 have fol:∀b∈fp,b<s.heap.objs.size:=fun b hb=>by
  obtain⟨o,ho,_⟩:=T.obj 0 _ st b hb
  exact Heap.lt_size ho
 have clt:∀x c,X.env.cells.lookup x=some c->c<s.heap.objs.size:=fun x c e=>by
  obtain⟨v,q⟩:=I.cell x c e
  exact q.lt
 refine wpAny_newObj_type (wpAny_newFunctionEnv S.nocell (by intro y hy;simp at hy) (fun h₁ hns₁ hsb₁=>?_) S.kind)
 dsimp only at hns₁ hsb₁ ⊢
 generalize hD:s.heap.objs.size=D at *
 generalize hH3:s.heap.push { cls:=.type "list",data:=.seq ([]:List Value).toArray }=H3 at *
 have hC:H3.objs.size=D+1:=by rw[<-hH3,Heap.size_push,hD]
 have keep3:∀b o,s.heap.get? b=some o->H3.get? b=some o:=fun b o e=>by rw[<-hH3];exact Heap.get?_push_of_some _ e
 have keep4:∀b o,H3.get? b=some o->h₁.get? b=some o:=fun b o e=>hsb₁.extBut b o (Nat.ne_of_lt (Heap.lt_size e)) (Heap.get?_push_of_some _ e)
 have D4:h₁.get? D=some (d9 [] 0):=keep4 _ _ (by rw[<-hH3,<-hD];exact Heap.get?_push_size _ rfl)
 generalize hCC:H3.objs.size=C at *
 have hDC:D<C:=by omega
 have hDC':D≤C:=Nat.le_of_lt hDC
 have hL:X.env.locals<D:=by rw[<-hD];exact I.lt
 have I4:Inv (aT X N scope C s H fp EX) [] (fV cap σ) H { s with heap:=h₁,toks:=s.toks+([]:List (Str×Value)).length } :=
  pP S I (by omega) hns₁ (fun b o e=>keep4 b o (keep3 b o e)) fun b hb=>⟨by rw[hD];exact fol b hb,fo b hb⟩
 have fp4:∀{H':Hp} {ob:Obj},(∀b∈fp,H' b=none)->∀b∈fp,dr (aT X N scope C s H fp EX) [(D,ob)] H' b:=fun {H' ob} hn b hb=>by
  obtain⟨f0,f1,f2,f3,f4,f5⟩:=fo b hb
  have hlt:=fol b hb
  refine⟨hn b hb,?_,fun z=>?_,.inl hb,fun x c e=>f4 x c (bG (fun n c e=>by simp at e) x c e),fun p hp=>?_⟩
  ·exact Nat.ne_of_lt (Nat.lt_of_lt_of_le hlt hDC')
  ·rcases List.mem_cons.mp (I.stkSub b z) with e | e
   ·exact f1 e
   ·exact f2 e
  ·have hp':p∈[(D,ob)]:=hp
   rw[List.mem_singleton.mp hp']
   exact Nat.ne_of_gt hlt
 have st4:tn 0 h₁:=T.keep _ _ _ st fun b hb o e=>keep4 b o (keep3 b o e)
 have nfs:D∉(aT X N scope C s H fp EX).fs:=fun z=>by
  rcases List.mem_cons.mp (I.stkSub D z) with e | e
  ·exact Nat.ne_of_gt hL e
  ·exact I.nofs (Nat.le_of_eq hD) e
 have pinD:∀{σ':St} {H':Hp} {s':Shared} {ob:Obj},Inv (aT X N scope C s H fp EX) [] σ' H' s'->H' D=none->s'.heap.get? D=some ob->(∀v,ob.data≠.cell v)->Inv (aT X N scope C s H fp EX) [(D,ob)] σ' H' s':=fun {σ' H' s' ob} J hn e nc =>
  J.pins_of fun p hp=>by
   rw[List.mem_singleton.mp hp]
   exact⟨e,hn,Nat.ne_of_lt hDC,nfs,nc⟩
 have loop:∀s₄:Shared,s₄={ s with heap:=h₁,toks:=s.toks+([]:List (Str×Value)).length } ->
   codeAny (model X.prog X.w) X.A (.compLoop (.ListComp elt [⟨target,iter,ifs,0⟩] scope pos) 0 (.ref it) (.ref D) (compEnvC scope (aX X.env scope.names []) C X.env)) (RR (.ref D) C) s₄:=by
  rintro s₄ rfl
  refine jx (fun n s'=>∃i ys its k σ' H',Inv (aT X N scope C s H fp EX) [(D,d9 its k)] σ' H' s'/\Vals ys its/\tn i s'.heap/\(∀b∈fp,H' b=none)/\W i n ys σ' H') ?_ m0
   ⟨0,[],[],0,_,_,pinD I4 (hfr D (Nat.le_refl _)) D4 (fun v z=>by cases z),.nil,st4,fun b hb=>(fo b hb).1,w0⟩
  rintro n s5 ⟨i,ys,its,k,σ5,H5,I5,rv5,st5,fr5,w5⟩
  have hpin:=I5.pin (D,d9 its k) (List.mem_append_right _ List.mem_cons_self)
  rcases turn i n ys σ5 H5 w5 with⟨stop,hz,q⟩ | ⟨go,hz,NN,hNN,step⟩
  ·refine bh (T.done (aT X N scope C s H fp EX) rfl rfl rfl hc i _ s5 σ5 H5 _ I5 (fp4 fr5) st5 stop) fun r s6 ⟨hr,I6⟩=>?_
   subst hr
   have p6:=I6.pin (D,d9 its k) (List.mem_append_right _ List.mem_cons_self)
   have I7:Inv X pins σ (al H5 D (.lst ys)) s6:=I.call' (ch:=fp) I6.os (I6.base.add (Nat.le_of_eq hD) p6.2.1) (I6.hok.add p6.2.1 ⟨hz,its,k,rv5,p6.1⟩) I6.bare fun b hb=>by
    obtain⟨f0,f1,f2,f3,f4,f5⟩:=fo b hb
    exact⟨f3,f1,f4,f5⟩
   obtain⟨m6,hn6,_⟩:=I6.loc
   refine hRR _ C s6 _ I7 (q D p6.2.1) ⟨m6,hn6⟩ ?_ ?_ ?_ ?_ ?_
   ·rw[am (Nat.ne_of_gt hDC)];exact I6.free
   ·exact Nat.le_trans (by rw[<-hD];exact I.sz) hDC'
   ·exact Nat.ne_of_gt (Nat.lt_of_lt_of_le hL hDC')
   ·intro x c e z
    exact Nat.ne_of_lt (Nat.lt_of_lt_of_le (clt x c e) hDC') z
   ·intro p hp z
    have h6:=Heap.lt_size (I.pin p hp).1
    rw[hD]at h6
    exact Nat.ne_of_lt (Nat.lt_of_lt_of_le h6 hDC') z
  ·refine bh (T.item (aT X N scope C s H fp EX) rfl rfl rfl hc i _ s5 σ5 H5 _ I5 (fp4 fr5) st5 go) fun r s6 ⟨u,hr,h6⟩=>?_
   subst hr
   refine bh h6 fun _ s7 ⟨x,H7,I7,r7,y7,st7,fr7⟩=>?_
   have I7':=I7.pinned (fp4 fr7) (T.obj _ _ st7)
   have kept:∀{σ8:St} {H8:Hp} {s8:Shared},Inv (aT X N scope C s H fp EX) ([(D,d9 its k)]++fQ fp s7.heap) σ8 H8 s8->tn (i+1) s8.heap/\∀b∈fp,H8 b=none:=fun {σ8 H8 s8} I8 =>
    ⟨T.keep _ _ _ st7 fun b hb o e=>(I8.pin (b,o) (List.mem_append_right _ (List.mem_append_right _ (bQ hb e)))).1,fun b hb=>by
     obtain⟨o,e,d⟩:=T.obj _ _ st7 b hb
     exact (I8.pin (b,o) (List.mem_append_right _ (List.mem_append_right _ (bQ hb e)))).2.1⟩
   refine wpAny_mono (hg C s H _ s7 σ5 H7 x u _ I7' r7 (step x H7 y7)) (fun _ s8 ⟨σ8,H8,I8,q8⟩=>?_) fun e' s'' f=>hER D C hDC' (Nat.ne_of_lt (Nat.lt_of_lt_of_le hL hDC')) e' s'' f
   refine wpAny_mono (ht C s H _ s8 σ8 H8 _ I8 q8) (fun ok s9 ⟨H9,I9,q9⟩=>?_) fun e' s'' f=>hER D C hDC' (Nat.ne_of_lt (Nat.lt_of_lt_of_le hL hDC')) e' s'' f
   cases ok with
   | false =>
    rw[if_neg Bool.false_ne_true]at q9 ⊢
    obtain⟨m',hm,w9⟩:=hNN _ _ _ q9
    exact⟨m',hm,i+1,ys,its,k,σ8,H9,I9.unpinned,rv5,(kept I9).1,(kept I9).2,w9⟩
   | true =>
    rw[if_pos rfl]at q9 ⊢
    refine wpAny_mono (he C s H _ s9 σ8 H9 _ I9 q9) (fun y s10 ⟨yv,H10,I10,r10,n10⟩=>?_) fun e' s'' f=>hER D C hDC' (Nat.ne_of_lt (Nat.lt_of_lt_of_le hL hDC')) e' s'' f
    obtain⟨m',hm,w10⟩:=hNN _ _ _ n10
    obtain⟨k10,f10⟩:=kept I10
    have p10:=I10.pin (D,d9 its k) (List.mem_append_right _ (List.mem_append_left _ List.mem_cons_self))
    have hlen:=rv5.length
    refine wpAny_list_append_plain (hsz:=by rw[List.size_toArray];omega) (show s10.heap.PlainList D its.toArray from ⟨k,p10.1⟩) fun h11 hl11 hsb11=>?_
    obtain⟨k11,e11⟩:=hl11
    have J0:Inv (aT X N scope C s H fp EX) [] σ8 H10 s10:=I10.pins_of fun p hp=>nomatch hp
    have J1:Inv (aT X N scope C s H fp EX) [] σ8 H10 { s10 with heap:=h11 }:=J0.turned (t':=s10.toks) (fun b o hb e=>hsb11.extBut b o hb e) p10.2.1 (Nat.ne_of_lt hDC) (.inr (Nat.le_of_eq hD)) (fun x c e z=>Nat.ne_of_lt (clt x c (bG (fun n c e=>by simp at e) x c e)) z) fun p hp=>nomatch (show p∈([]:List (Addr×Obj)) from hp)
    have e12:h11.get? D=some (d9 (its++[y]) k11):=by rw[e11];simp[d9]
    refine⟨m',hm,i+1,ys++[yv],its++[y],k11,σ8,H10,pinD J1 p10.2.1 e12 (fun v z=>by cases z),rv5.append (.cons r10 .nil),?_,f10,w10⟩
    exact T.keep _ _ _ k10 fun b hb o e=>hsb11.extBut b o (Nat.ne_of_lt (fol b hb)) e
 refine codeAny_compStart_list (loop _ ?_) (T.self X.A 0 _ _ _ ?_ (loop _ ?_))
 ·rfl
 ·exact st4
 ·rfl
end L2
namespace L2
open PySem PySem.Spec PyProof.Rows
theorem fC {B B' h h':Heap}(hB:∀L,B.get? L=none->B'.get? L=none):∀{l:List Env},h.FunFrames B l->(∀L∈dn l,∀o,h.get? L=some o->(∀vs,o.data≠.fields vs)->∃o',h'.get? L=some o'/\o'.data=o.data)->h'.FunFrames B' l
 | [],_,_=>trivial
 | env::r,⟨hk,⟨L,o,hf,hn,ho,hd⟩,hr⟩,k=>by
  obtain⟨o',e',d'⟩:=k L (by rw[mf hf];exact List.mem_cons_self) o ho hd
  refine⟨hk,⟨L,o',hf,hB L hn,e',fun vs z=>hd vs (d'▸z)⟩,fC hB hr fun L' hL'=>k L' ?_⟩
  rw[mf hf];exact List.mem_cons_of_mem _ hL'
section
variable {X:Cx}{E:XK}{pins:List (Addr×Obj)}{σ:List (Option V)}{H:Hp}{s:Shared}
theorem pI {scope:Scope}{cl:List (Str×Addr)}{use:Option (Value->Sem Unit)}{Q:Value->Shared->Prop}{D C:Addr}{fp:List Addr}(hX:Exits X E)(I:Inv X pins σ H s)(hst:X.stack=X.env::X.outer)(hfr:X.env.frame=some X.env.locals)
  (fo:∀b∈fp,b∈X.ex\/X.s₀.heap.objs.size≤b) (hC:s.heap.objs.size≤C) (e:Value) (s':Shared) (h:wQ X.prog X.w X.stack fp H s.heap s.os E C e s') :
  notedBy (model X.prog X.w) X.A (compEnvC scope cl C X.env) (fun e' s''=>compPost (model X.prog X.w) X.A X.xe use Q (.ref D) C (.error e') s'') e s':=by
 obtain⟨a,B,cls,a0,H',rfl,os,bare,fl,hok,un,kb,hE,⟨m,hns⟩,hHC⟩:=h
 obtain⟨oC,es,ep,hBC,rC⟩:=id hns
 show wpAny (model X.prog X.w) X.A (noteFrame (.ref a) X.env) _ _ s'
 refine lM (outer:=X.outer) (L:=X.env.locals) (by rw[<-hst];exact I.ok.frames) hfr (by rw[<-hst];exact fl) fun h1 held us1=>?_
 obtain⟨st1,hn1,fr1,tr1⟩:=held
 have flt:∀L∈dn X.stack,L≠C:=fun L hL z=>by
  obtain⟨_,o',e',_⟩:=I.stack.mem hL
  rw[z]at e'
  exact absurd (Nat.lt_of_lt_of_le (Heap.lt_size e') hC) (Nat.lt_irrefl _)
 refine⟨m,⟨oC,es,ep,st1 C oC hBC,rC⟩,fun h2 hsb cenv hloc=>?_⟩
 obtain⟨oe,vs,T,oT,ts,he,hcls,hd,hv1,hnT,hTe,hT,hdT,hv3⟩:=tr1
 have haC:a≠C:=fun z=>by rw[z,hBC]at hn1;cases hn1
 have hTC:T≠C:=fun z=>by rw[z,hBC]at hnT;cases hnT
 have he2:h2.get? a=some oe:=hsb.extBut _ _ haC he
 have hT2:h2.get? T=some oT:=hsb.extBut _ _ hTC hT
 unfold PySem.passOn
 refine wpAny_bind (wpAny_field (s:={ s' with heap:=h2 }) he2 hd hv1 ?_)
 rw[if_neg (show ¬ ((Value.ref T == Value.none)=true) from Bool.false_ne_true)]
 refine wpAny_bind ?_
 unfold setFlight
 refine wpAny_bind (wpAny_field (s:={ s' with heap:=h2 }) he2 hd hv1 ?_)
 rw[if_pos (show (Value.ref T != Value.none)=true from by simp)]
 refine wpAny_setField (s:={ s' with heap:=h2 }) hT2 hdT (Array.getElem?_eq_some_iff.mp hv3).1 (wpAny_throw ?_)
 generalize (cenv.frame.elim Value.none fun f=>rawInt f)=fl3
 have other:∀b,b≠T->(h2.update T (Obj.mapFields (·.setIfInBounds 3 fl3))).get? b=h2.get? b:=fun b hb=>Heap.get?_update_other _ _ (Ne.symm hb)
 have hT3:(h2.update T (Obj.mapFields (·.setIfInBounds 3 fl3))).get? T=some (oT.mapFields (·.setIfInBounds 3 fl3)):=Heap.get?_update_self _ hT2 (Obj.isFreed_of_fields (Obj.data_mapFields hdT _))
 generalize h2.update T (Obj.mapFields (·.setIfInBounds 3 fl3))=h3 at other hT3 ⊢
 have hide:∀b o,B.get? b=some o->b≠C->(PySem.W.hideAll B [C]).get? b=some o:=fun b o q hb=>PySem.W.hideAll_get _ q (by simpa using hb)
 have unhide:∀b,B.get? b=none->(PySem.W.hideAll B [C]).get? b=none:=fun b q=>by
  cases z:(PySem.W.hideAll B [C]).get? b with
  | none=>rfl
  | some o=>rw[PySem.W.of_hideAll _ z]at q;cases q
 have h13:∀b o,b≠C->b≠T->h1.get? b=some o->h3.get? b=some o:=fun b o hb hb' q=>(other b hb').trans (hsb.extBut b o hb q)
 have st3:(PySem.W.hideAll B [C]).StaysIn h3:=fun b o q=>by
  have q':=PySem.W.of_hideAll _ q
  have hb:b≠C:=fun z=>by rw[z,PySem.W.hideAll_none _ (by simp)]at q;cases q
  exact h13 b o hb (fun z=>by rw[z,hnT]at q';cases q') (st1 b o q')
 have frT:∀L∈dn X.stack,∀o,h1.get? L=some o->(∀vs,o.data≠.fields vs)->h3.get? L=some o:=fun L hL o q hd'=>h13 L o (flt L hL) (fun z=>by
  rw[z,hT]at q;cases q;exact hd' ts hdT) q
 have fr3:h3.FunFrames (PySem.W.hideAll B [C]) X.stack:=fC unhide (by rw[hst];exact fr1) fun L hL o q hd'=>⟨o,frT L hL o q hd',rfl⟩
 have fl3':FlyG (PySem.W.hideAll B [C]) X.stack a cls a0 h3:=⟨st3,unhide a hn1,fr3,fl3,oe,vs,T,_,_,(other a (Ne.symm hTe)).trans he2,hcls,hd,hv1,unhide T hnT,hTe,hT3,Obj.data_mapFields hdT _,by simp[(Array.getElem?_eq_some_iff.mp hv3).1]⟩
 have kb3:∀b o,s.heap.get? b=some o->b∉dn X.stack->b∉fp->(∃o',(PySem.W.hideAll B [C]).get? b=some o')/\(H b=none->(PySem.W.hideAll B [C]).get? b=some o):=fun b o q hb hx=>by
  have hbC:b≠C:=Nat.ne_of_lt (Nat.lt_of_lt_of_le (Heap.lt_size q) hC)
  obtain⟨⟨o',e'⟩,k2⟩:=kb b o q hb hx
  exact⟨⟨o',hide b o' e' hbC⟩,fun n=>hide b o (k2 n) hbC⟩
 have un3:Un (dn X.stack) fp H H' s.heap h3:=j2 un kb3 st3 (fun b hb o q hd'=>by
  obtain⟨sl,q1⟩:=us1 b o q hd'
  exact⟨sl,frT b hb _ q1 hd'⟩) (fun b hb=>(I.stack.mem hb).2) I.stkFree
 have hok3:HOk X.prog X.w H' (PySem.W.hideAll B [C]):=fun b u q=>(hok b u q).stay (fun c v hc z=>hide c v z fun y=>by
  rcases hc with rfl | hc
  ·rw[y,hHC]at q;cases q
  ·rw[y,hHC]at hc;cases hc) (fun _ z=>z) fun _ _ z=>z
 exact hX I.ok _ _ (lq I fo ⟨a,_,cls,a0,H',rfl,os,bare,fl3',hok3,un3,kb3,hE⟩)
end
section
variable {X:Cx}{E:XK}{N:List Str}{cap:List (Option Nat)}{scope:Scope}{elt target iter:Expr}{ifs:List Expr}{pos pos' spos:Pos}{wi:TI}{g:TG}{tc:TT}{te:TE}
end
end L2
namespace L2
open PySem PySem.Spec PyProof.Rows
section
variable {X:Cx}{E:XK}{N:List Str}{cap:List (Option Nat)}{scope:Scope}{elt target iter:Expr}{ifs:List Expr}{pos pos' spos:Pos}{wi:TI}{g:TG}{tc:TT}{te:TE}
end
end L2
namespace L2
open PySem PySem.Spec PyProof.Rows
section
variable {M:Model}{A:Around}{E:Value->Shared->Prop}
variable {nm q:Str}{C N:Addr}{bs bm:List Value}{hdct:Bool}{sn:List Str}{sub:List Value}{ab:Bool}{col:Option Bool}{dd:Option Addr}{k0 k1 k2 k3 k5:Option Value}{newId:String}
variable {nm' q':Str}{G N':Addr}{bs' bm':List Value}{hdct':Bool}{sn':List Str}{sub':List Value}{ab':Bool}{col':Option Bool}{dd':Option Addr}{k0' k1' k2' k3' k5':Option Value}{newId':String}
end
section
variable {X:Cx}{pins:List (Addr×Obj)}{σ:List (Option V)}{H:Hp}{s:Shared}
end
end L2
namespace L2
open PySem PySem.Spec PyProof.Rows
structure Co (K:PySem.W.Frag)(C:Addr):Prop where
 exc:PySem.W.excIn K C eO "ValueError.__new__"=true
 f1:PySem.W.findIn K (.ref C) "__getattribute__"=some (some (.builtin "BaseException.__getattribute__"))
 f2:PySem.W.findIn K (.ref C) "__getattr__"=some none
 f3:PySem.W.findIn K (.ref C) "__class__"=some (some (.builtin "object.__class__"))
 obj:PySem.W.mroIn K C (.type "object")=some true
section
variable {X:Cx}{k:Nat}{x G n:Str}{ps:List Str}{sp:Sp}{e:Expr}{es:List Expr}{t:TA}{p gp cpos epos hpos pos:Pos}{CG:Addr}{newId:String}{i:Nat}{b₀:Stmt}{suite:List Stmt}{ts:Addr->Addr->TS}
end
end L2
namespace PySem.W
open PySem PySem.Calls PyProof.Rows Builtin Builtin.ObjectAttr Builtin.Getset_descriptor
end PySem.W
namespace L2
open PySem PySem.Spec PyProof.Rows PySem.W
structure Ci (h:Heap)(a:Addr)(o:Obj)(C:Addr):Prop where
 at_:h.get? a=some o
 cls:o.cls=.ref C
section
variable {prog:Program}{w:World}{A:Around}{E:Value->Shared->Prop}{h:Heap}{g:Array GenState}{d:Drawn}{t:Nat}{os:OsState}{a:Addr}{o:Obj}{K:Frag}
 {nm q:Str} {C N:Addr} {bs bm:List Value} {hdct:Bool} {sn:List Str} {sub:List Value} {ab:Bool} {col:Option Bool} {dd:Option Addr} {k0 k1 k2 k3 k5:Option Value} {newId:String}
end
end L2
namespace L2
open PySem PySem.Spec PyProof.Rows
def ug (e:Expr):Arguments:=match e with
 | .Lambda a _ _ _=>a
 | _=>{ posonlyargs:=[],args:=[],vararg:=none,kwonlyargs:=[],kw_defaults:=[],kwarg:=none,defaults:=[] }
def uc (e:Expr):Expr:=match e with
 | .Lambda _ b _ _=>b
 | _=>e
def qP (e:Expr):Scope:=match e with
 | .Lambda _ _ sc _=>sc
 | _=>{ kind:=.function,names:=[],isGenerator:=false,isCoroutine:=false }
structure zX (H:Hp)(f:Addr)(qual:Str)(le:Expr)(cl:List (Str×Addr)):Prop where
 ex:∃(pm:Value) (c':Addr) (ctv:Value) (oc:Obj) (vs:Array Value) (t:Tok),Kn H f (PySem.W.kla_obj "<lambda>" qual (ug le) (uc le) (qP le) cl pm c' ctv)/\Kn H c' oc/\oc.data=.fields vs/\vs[1]?=some (.str qual t)
structure CloAtL (H:Hp)(f:Addr)(qual:Str)(le:Expr)(fr:List Str)(cs:List Addr)(ws:List V):Prop where
 ex:∃cl,zX H f qual le cl/\(∀x c,cl.lookup x=some c->∃j:Nat,fr[j]?=some x/\cs[j]?=some c)/\∀(j:Nat) x,fr[j]?=some x->∃c,cl.lookup x=some c/\cs[j]?=some c
 cells:∀(j:Nat) x,ws[j]?=some x->∃c o u,cs[j]?=some c/\Kn H c o/\o.data=.cell (some u)/\RelV x u
 l1:cs.length=fr.length
 l2:ws.length=fr.length
 nd:cs.Nodup
theorem CloAtL.fn {H:Hp}{f:Addr}{qual:Str}{le:Expr}{fr:List Str}{cs:List Addr}{ws:List V}(C:CloAtL H f qual le fr cs ws):∃oc od fd sl,Kn H f ⟨oc,od,.func fd,sl⟩:=by
 obtain⟨cl,⟨pm,c',ctv,oc,vs,t,h1,_⟩,_⟩:=C.ex
 exact⟨_,_,_,_,h1⟩
section
variable {X:Cx}
end
end L2
namespace L2
open PySem PySem.Spec PyProof.Rows
section
variable {X:Cx}{pos:Pos}{K:PySem.W.Frag}
def AX (K:PySem.W.Frag):V->Option Int->Option Int->Hp->VK->Prop:=fun x lo hi H Q=>match x with
 | .str z=>z.length≤sizeLine/\Q (.str (Txt.slice z lo hi)) H
 | .ref a=>(∃xs,SqL K H a xs/\∀p,H p=none->Q (.ref p) (al H p (.lst (gJ xs lo hi))))\/∃xs,SqT K H a xs/\¬ (HT.sIx xs.length 0 lo=0/\HT.sIx xs.length xs.length hi=xs.length)/\∀p,H p=none->Q (.ref p) (al H p (.tup (gJ xs lo hi)))
 | _=>False
theorem wo (hK:X.K=K:=by rfl):Irr (zD X (AX K)):=by
 refine .mk ?_
 subst hK
 intro pins s σ H x v vl vu lo hi sl Q I rx hs pl pu h
 unfold AX at h
 split at h
 ·exact ye pins s σ H _ v vl vu lo hi sl Q I rx hs pl pu ⟨_,rfl,h.1,h.2⟩
 ·rcases h with⟨xs,h1,h2⟩ | ⟨xs,h1,h2,h3⟩
  ·exact tY pins s σ H _ v vl vu lo hi sl Q I rx hs pl pu ⟨_,xs,rfl,h1,h2⟩
  ·exact yU pins s σ H _ v vl vu lo hi sl Q I rx hs pl pu ⟨_,xs,rfl,h1,h2,h3⟩
 ·exact h.elim
theorem xh {x:Str}{v:Str}(hg:Gl X x)(hm:∃t,X.mg x=some (.str v t))(hd:(x == ("__debug__":Str))=false:=by decide):JE X (.Name x pos) (tC (.str v)):=by
 obtain⟨t,h⟩:=hm
 exact eY hg h ⟨_,rfl⟩ hd
theorem dO {x:Str}{v:Int}(hg:Gl X x)(hm:∃t,X.mg x=some (.int v t))(hd:(x == ("__debug__":Str))=false:=by decide):JE X (.Name x pos) (tC (.int v)):=by
 obtain⟨t,h⟩:=hm
 exact eY hg h ⟨_,rfl⟩ hd
end
end L2
namespace L2
open PySem PySem.Spec PyProof.Rows
section
variable {X:Cx}{a b c e f i o k v value:Expr}{ta tb te td ty tv tx:TE}{K:PySem.W.Frag}{w:World}{pos pos' p2 apos cpos:Pos}
def ut (K:PySem.W.Frag)(neg:Bool):R2:=fun x y H Q=>match y with
 | .str j=>(match x with
  | .str i=>Q (.bl (neg^^!(Builtin.Str.occurrences j i 0 j.length 1).isEmpty)) H
  | _=>False)
 | .ref p=>(∃xs,(SqL K H p xs\/SqT K H p xs)/\cw x=true/\xs.all cw=true/\Q (.bl (neg^^vU x xs)) H)\/∃o,DGet H p x o/\Q (.bl (neg^^o.isSome)) H
 | _=>False
theorem oA (hu:X.A.units+64<cLine)(hK:X.K=K:=by rfl):Irr (bq X (compareOp .In) (ut K false)):=by
 refine .mk ?_
 subst hK
 intro pins s σ H x y v u Q I rx ry h
 cases y with
 | str j=>exact vY rfl pins s σ H x (.str j) v u Q I rx ry h
 | ref p =>
  rcases h with h | ⟨ov,g,q⟩
  ·exact vY rfl pins s σ H x (.ref p) v u Q I rx ry h
  ·obtain rfl:u=Value.ref p:=ry
   exact BB (by omega) I g rx fun s3 I3=>⟨.bl ov.isSome,H,I3,rfl,by simpa using q⟩
 | _=>exact False.elim h
theorem iy (hu:X.A.units+64<cLine)(hK:X.K=K:=by rfl):Irr (bq X (compareOp .NotIn) (ut K true)):=by
 refine .mk ?_
 subst hK
 intro pins s σ H x y v u Q I rx ry h
 cases y with
 | str j=>exact lJ rfl pins s σ H x (.str j) v u Q I rx ry h
 | ref p =>
  rcases h with h | ⟨ov,g,q⟩
  ·exact lJ rfl pins s σ H x (.ref p) v u Q I rx ry h
  ·obtain rfl:u=Value.ref p:=ry
   exact vj (by omega) I g rx fun s3 I3=>⟨.bl (!ov.isSome),H,I3,rfl,by simpa using q⟩
 | _=>exact False.elim h
def Az (td ty tv:TE):TS:=fun D σ H=>tv σ H fun v H1=>td σ H1 fun x H2=>match x with
 | .ref a=>ty σ H2 fun y H3=>∃H4,DPut H3 a y v H4/\D.nx σ H4
 | _=>False
theorem gY (hu:X.A.units+64<cLine)(ho:JE X o td)(hi:JE X i ty)(hv:JE X value tv)(hs:swapsWith value (some (.Subscript o i pos')) pos.line X.env=pure false:=by rfl):JS X (.Assign [.Subscript o i pos'] value pos) (Az td ty tv):=by
 refine .mk ?_
 intro pins s σ H D I h
 refine wpAny_Assign_Subscript (bh (hv.out pins s σ H _ I h) fun r s1 ⟨v,H1,I1,rv,q1⟩=>bh (ho.out pins s1 σ H1 _ I1 q1) fun u s2 ⟨x,H2,I2,rx,q2⟩=>?_) hs
 dsimp only at q2
 split at q2
 ·rename_i a
  obtain rfl:u=Value.ref a:=rx
  refine bh (hi.out pins s2 σ H2 _ I2 q2) fun iv s3 ⟨y,H3,I3,ry,H4,g,q3⟩=>?_
  exact o5 (by omega) I3 g ry rv fun s4 I4=>⟨σ,H4,I4,q3⟩
 ·exact q2.elim
theorem jW:JE X (.Dict [] [] pos) qJ:=.mk rn
theorem IsD.tk {H:Hp}{a:Addr}{kvs:List (List bC×V)}(e:H a=some (.dT kvs)):IsD H a:=.inr ⟨kvs,.inl e⟩
def AL:List V->Hp->VK->Prop:=fun xs H Q=>match xs with
 | [.int i]=>Q (.int i) H
 | [.bl b]=>Q (.int (if b then 1 else 0)) H
 | _=>False
theorem zP:Irr (ba X (.type "int") AL):=by
 refine .mk ?_
 intro pins s σ H xs us Q I r h
 unfold AL at h
 split at h
 ·exact ji pins s σ H _ us Q I r (.inl ⟨_,rfl,h⟩)
 ·exact ji pins s σ H _ us Q I r (.inr ⟨_,rfl,h⟩)
 ·exact h.elim
def rP (K:PySem.W.Frag):List V->Hp->VK->Prop:=fun xs H Q=>match xs with
 | [.ref p]=>∃ys,(SqL K H p ys/\∀l,H l=none->Q (.ref l) (al H l (.tup ys)))\/(SqT K H p ys/\Q (.ref p) H)
 | _=>False
theorem oj (hK:X.K=K:=by rfl):Irr (ba X (.type "tuple") (rP K)):=by
 refine .mk ?_
 subst hK
 intro pins s σ H xs us Q I r h
 unfold rP at h
 split at h
 ·obtain⟨ys,h⟩:=h
  exact je pins s σ H _ us Q I r ⟨_,ys,rfl,h⟩
 ·exact h.elim
end
end L2
namespace L2
open PySem PySem.Spec PyProof.Rows
section
variable {X:Cx}{K:PySem.W.Frag}
def AE:V->List V->Hp->VK->Prop:=fun x vs H Q=>match x,vs with
 | .ref l,[]=>∃xs y,H l=some (.lst xs)/\xs[xs.length-1]?=some y/\Q y (al H l (.lst xs.dropLast))
 | _,_=>False
theorem Bd:Irr (qe X "list.pop" AE):=by
 refine .mk ?_
 intro pins s σ H x xs v us Q I rx rs h
 unfold AE at h
 split at h
 ·obtain⟨xs,y,h1,h2,h3⟩:=h
  exact yr pins s σ H _ _ v us Q I rx rs ⟨_,xs,y,rfl,rfl,h1,h2,h3⟩
 ·exact h.elim
end
end L2
namespace L2
open PySem PySem.Spec PyProof.Rows
def Au (K:PySem.W.Frag)(a:Addr):It :=
 ⟨fun i H=>∃xs x,SqL K H a xs/\xs[i]?=some x,
  fun i H v H'=>∃T x,(∀xs,SqL K H a xs->xs[i]?=some x)/\H T=none/\v=.ref T/\H'=al H T (.tup [.int (i:Nat),x]),
  fun i H=>∃xs,SqL K H a xs/\xs.length≤i⟩
theorem pG {P:Program}{w:World}{K:PySem.W.Frag}{elts:List Expr}{x1}{pos:Pos}{a e it:Addr}(hne:e≠it) :
  ie P w K (.Tuple elts x1 pos) (Au K a) [e,it] e (fun i h=>(∃old,IsEnum h e it (i:Nat) old)/\h.IsListIter it a i) where
 mem:=by simp
 obj:=by
  rintro i h ⟨⟨old,he⟩,hi⟩ c hc
  simp only[List.mem_cons,List.not_mem_nil,or_false]at hc
  rcases hc with rfl | rfl
  ·exact⟨_,he,fun v z=>by cases z⟩
  ·obtain⟨o,ho,_,d⟩:=hi
   exact⟨o,ho,fun v z=>by rw[d]at z;cases z⟩
 keep:=by
  rintro i h h' ⟨⟨old,he⟩,hi⟩ k
  refine⟨⟨old,k e (by simp) _ he⟩,?_⟩
  obtain⟨o,ho,r⟩:=hi
  exact⟨o,k it (by simp) _ ho,r⟩
 item:=by
  rintro X hP hw hK hc i pins s σ H E I hf ⟨⟨old,he⟩,hi⟩ ⟨xs,x,q1,hx⟩
  subst hP hw hK
  obtain⟨its,rv,p1,_⟩:=I.list q1
  obtain⟨ux,hux,rx⟩:=rv.get hx
  refine wpAny_pyNext_enum_item he hi p1.isList (x:=ux) (by simpa using hux) hne fun h' a1 a2 a3 a4 a5=>?_
  have hT:H s.heap.objs.size=none:=I.hok.fresh (Nat.le_refl _)
  have I1:Inv X pins σ (al H s.heap.objs.size (.tup [.int (i:Nat),x])) { s with heap:=s.heap.push { cls:=.type "tuple",data:=.seq [.int (i:Nat) s.toks,ux].toArray },toks:=s.toks+1 } :=
   I.laid (t':=s.toks+1) (fun b o q=>Heap.get?_push_of_some _ q) (Nat.le_refl _) (show ObjOk X.prog X.w _ _ _ (.tup [.int (i:Nat),x]) from ⟨by show 2≤sizeLine;decide,[.int (i:Nat) s.toks,ux],.cons ⟨_,rfl⟩ (.cons rx .nil),IsTup.new _ _⟩)
  have hlt:∀c∈[e,it],c<s.heap.objs.size:=by
   intro c hc
   simp only[List.mem_cons,List.not_mem_nil,or_false]at hc
   rcases hc with rfl | rfl
   ·exact Heap.lt_size he
   ·obtain⟨o,ho,_⟩:=hi;exact Heap.lt_size ho
  have hf':∀c∈[e,it],dr X pins (al H s.heap.objs.size (.tup [.int (i:Nat),x])) c:=fun c hc=>by
   obtain⟨f0,fr⟩:=hf c hc
   exact⟨by rw[am (Nat.ne_of_lt (hlt c hc))];exact f0,fr⟩
  have kept:∀c o,c∉[e,it]->(s.heap.push { cls:=.type "tuple",data:=.seq [.int (i:Nat) s.toks,ux].toArray }).get? c=some o->h'.get? c=some o:=by
   intro c o hc q
   have hc':c≠e/\c≠it:=by simpa using hc
   by_cases hn:c=s.heap.objs.size
   ·subst hn
    have e0:(s.heap.push { cls:=.type "tuple",data:=.seq [.int (i:Nat) s.toks,ux].toArray }).get? s.heap.objs.size=some { cls:=.type "tuple",data:=.seq [.int (i:Nat) s.toks,ux].toArray }:=Heap.get?_push_size _ rfl
    rw[e0]at q
    cases q
    exact a3
   ·rw[Heap.get?_push_ne _ _ _ hn]at q
    exact a5 c o hc'.1 hc'.2 q
  have I2:Inv X pins σ (al H s.heap.objs.size (.tup [.int (i:Nat),x])) { s with heap:=h',toks:=s.toks+1 }:=I1.turnedL (t':=s.toks+1) kept hf'
  refine⟨_,rfl,?_⟩
  refine wpAny_letOwnedTupleGo_enum a1 fun h2' he2 hs2=>?_
  have I3:Inv X pins σ (al H s.heap.objs.size (.tup [.int (i:Nat),x])) { s with heap:=h2',toks:=s.toks+1 }:=Inv.turnedL (s:={ s with heap:=h',toks:=s.toks+1 }) (h':=h2') (t':=s.toks+1) (fp:=[e,it]) I2 (fun c o hc q=>hs2.extBut _ _ (fun z=>hc (by simp[z])) q) hf'
  refine⟨.ref s.heap.objs.size,_,I3,rfl,⟨_,x,fun zs hq=>by rw[I.list_inj hq q1];exact hx,hT,rfl,rfl⟩,⟨⟨_,he2⟩,?_⟩,fun c hc=>(hf' c hc).1⟩
  obtain⟨o,ho,r⟩:=a2
  exact⟨o,hs2.extBut _ _ hne.symm ho,r⟩
 done:=by
  rintro X hP hw hK hc i pins s σ H E I hf ⟨⟨old,he⟩,hi⟩ ⟨xs,q1,hend⟩
  subst hP hw hK
  obtain⟨its,rv,p1,_⟩:=I.list q1
  have l1:=rv.length
  refine wpAny_pyNext_enum_end (I.ok.hd hc) he hi p1.isList (by simp;omega) fun h' hk=>⟨rfl,I.turnedL (t':=s.toks) (fp:=[e,it]) (fun c o hc q=>?_) hf⟩
  have hc':c≠e/\c≠it:=by simpa using hc
  exact hk c o hc'.2 q
 self:=fun _ _ _ _ _ st h=>by
  obtain⟨⟨old,he⟩,_⟩:=st
  exact wpAny_pyIter_enum he h
section
variable {X:Cx}{K:PySem.W.Frag}
def wI (K:PySem.W.Frag)(ta:TA):TI:=fun σ H R=>ta σ H fun vs H1=>match vs with
 | [.ref a]=>(∃xs,SqL K H1 a xs)/\R (Au K a) H1
 | _=>False
theorem vQ {a:Expr}{ta:TA}{p pos:Pos}{elts:List Expr}{x1}{pos':Pos}(hg:Gl X "enumerate")(hm:X.mg "enumerate"=none)(ha:PA X [a] ta)(hK:X.K=K:=by rfl)(hs:starEach [a] X.env=[(false,eval a X.env)]:=by rfl) :
  PI X (.Tuple elts x1 pos') (.Call (.Name "enumerate" p) [a] [] pos) (wI K ta):=by
 subst hK
 intro pins s σ H R I h
 refine Call_ (ff I hg hm boot_enumerate (PyProof.Rows.callWith_type1 (bh (ha pos pins s σ H _ I h) fun us s1 ⟨vs,H1,I1,r1,q1⟩=>?_) (by rw[hs];rfl) rfl))
 dsimp only at q1
 split at q1
 ·obtain⟨u,rfl,r⟩:=bF r1
  cases r
  obtain⟨⟨xs,hx⟩,q⟩:=q1
  obtain⟨its,rv,p1,_⟩:=I1.list hx
  refine call_enumerate_list p1.isList fun h' he hi hz hk=>?_
  refine wpAny_pyIter_enum he ?_
  refine⟨_,[s1.heap.objs.size+1,s1.heap.objs.size],_,_,H1,rfl,I1.kept (t':=s1.toks) hk,pG (Nat.succ_ne_self _),⟨⟨_,he⟩,hi⟩,fun c hc=>?_,q⟩
  have hge:s1.heap.objs.size≤c:=by
   simp only[List.mem_cons,List.not_mem_nil,or_false]at hc
   rcases hc with rfl | rfl
   ·exact Nat.le_succ _
   ·exact Nat.le_refl _
  exact I1.fpOk hge (I1.hok.fresh hge)
 ·exact q1.elim
theorem vX {a:Expr}{ta:TA}{p pos:Pos}{elts:List Expr}{x1}{pos':Pos}(hg:Gl X "enumerate")(hm:X.mg "enumerate"=none)(ha:JA X [a] ta)(hK:X.K=K:=by rfl)(h1:bz a=true:=by rfl) :
  JI X (.Tuple elts x1 pos') (.Call (.Name "enumerate" p) [a] [] pos) (wI K ta):=.mk (vQ hg hm ha.out hK (by rw[az h1];rfl))
end
theorem rL {K:PySem.W.Frag}{a:Addr}{xs:List V}{g:TG}{tb:TS}{D:im}{σ:St}{H:Hp}(Pv:Nat->St->Hp->Prop)(h0:Pv 0 σ H)
  (hl:∀i σ H,i≤xs.length->Pv i σ H->SqL K H a xs)
  (hs:∀i x σ H,xs[i]?=some x->Pv i σ H->∀T,H T=none->g (.ref T) σ (al H T (.tup [.int (i:Nat),x])) fun σ2 H2=>tb { D with nx:=Pv (i+1),ct:=Pv (i+1),bk:=D.nx } σ2 H2) (hd:∀σ H,Pv xs.length σ H->D.nx σ H) :
  ∃W:Nat->Nat->St->Hp->Prop,(∃m,W 0 m σ H)/\∀i m σ H,W i m σ H ->
   ((Au K a).stop i H/\D.nx σ H)\/((Au K a).go i H/\∃N:St->Hp->Prop,(∀σ' H',N σ' H'->∃m',m'<m/\W (i+1) m' σ' H')/\∀x H',(Au K a).yld i H x H'->g x σ H' fun σ2 H2=>tb { D with nx:=N,ct:=N,bk:=D.nx } σ2 H2):=by
 refine⟨fun i m σ H=>m=xs.length-i/\i≤xs.length/\Pv i σ H,⟨xs.length,by simp,Nat.zero_le _,h0⟩,?_⟩
 rintro i m σ H ⟨rfl,hi,p⟩
 have q1:=hl i σ H hi p
 by_cases hlt:i<xs.length
 ·refine .inr ⟨⟨xs,xs[i],q1,by simp[hlt]⟩,Pv (i+1),fun σ' H' p'=>⟨xs.length-(i+1),by omega,rfl,hlt,p'⟩,fun v H' y=>?_⟩
  obtain⟨T,x,e1,hT,rfl,rfl⟩:=y
  exact hs i x σ H (e1 xs q1) p T hT
 ·have e:i=xs.length:=by omega
  subst e
  exact .inl ⟨⟨xs,q1,Nat.le_refl _⟩,hd σ H p⟩
end L2
namespace L2
open PySem PySem.Spec PyProof.Rows
namespace FX
end FX
section
variable {prog:Program}{w:World}{A:Around}{E:Value->Shared->Prop}{s:Shared}
end
section
variable {X:Cx}{K:PySem.W.Frag}
def Bp (K:PySem.W.Frag)(neg:Bool):R2:=fun x y H Q=>match x,y with
 | .non,.str j=>PyData.strOk j=true/\Q (.bl neg) H
 | .str j,.non=>PyData.strOk j=true/\Q (.bl neg) H
 | .non,.non=>Q (.bl (!neg)) H
 | .non,.int _=>Q (.bl neg) H
 | .int _,.non=>Q (.bl neg) H
 | x,y=>zG K neg x y H Q
theorem bX (hu:X.A.units+64<cLine)(hK:X.K=K:=by rfl):Irr (bq X (compareOp .Eq) (Bp K false)):=by
 refine .mk ?_
 subst hK
 intro pins s σ H x y v u Q I rx ry h
 have gen:∀da db,DatV X.K H x da->DatV X.K H y db->da.canLay0=true->db.canLay0=true->min da.depth db.depth≤60->Q (.bl (PyData.eqv da db)) H->_:=fun da db h1 h2 h3 h4 h5 h6=>mm hu pins s σ H x y v u Q I rx ry ⟨da,db,h1,h2,h3,h4,h5,by simpa using h6⟩
 unfold Bp at h
 split at h
 ·exact gen .none (.str _) .none (.str _) (by simp only[PyData.canLay0]) (by simp only[PyData.canLay0];exact h.1) (by simp only[PyData.depth];omega) (by simpa[PyData.eqv] using h.2)
 ·exact gen (.str _) .none (.str _) .none (by simp only[PyData.canLay0];exact h.1) (by simp only[PyData.canLay0]) (by simp only[PyData.depth];omega) (by simpa[PyData.eqv] using h.2)
 ·exact gen .none .none .none .none (by simp only[PyData.canLay0]) (by simp only[PyData.canLay0]) (by simp only[PyData.depth];omega) (by simpa[PyData.eqv] using h)
 ·exact gen .none (.int _) .none (.int _) (by simp only[PyData.canLay0]) (by simp only[PyData.canLay0]) (by simp only[PyData.depth];omega) (by simpa[PyData.eqv] using h)
 ·exact gen (.int _) .none (.int _) .none (by simp only[PyData.canLay0]) (by simp only[PyData.canLay0]) (by simp only[PyData.depth];omega) (by simpa[PyData.eqv] using h)
 ·exact Aj hu rfl pins s σ H _ _ v u Q I rx ry h
end
end L2
namespace L2
open PySem PySem.Spec PyProof.Rows
section
variable {X:Cx}
end
end L2
namespace L2
open PySem PySem.Spec PyProof.Rows
section
variable {X:Cx}{K:PySem.W.Frag}
end
end L2
namespace L2
open PySem PySem.Spec PyProof.Rows
section
variable {X:Cx}{K:PySem.W.Frag}
def qj (bs:List Bool):List V:=bs.map V.bl
def zL (K:PySem.W.Frag):List V->Hp->VK->Prop:=fun xs H Q=>match xs with
 | [.ref a]=>∃bs:List Bool,SqL K H a (qj bs)/\Q (.bl (bs.all id)) H
 | _=>False
def Af (K:PySem.W.Frag):List V->Hp->VK->Prop:=fun xs H Q=>match xs with
 | [.ref a]=>∃bs:List Bool,SqL K H a (qj bs)/\Q (.bl (bs.any id)) H
 | _=>False
theorem m3:∀{bs:List Bool} {its:List Value} {i:Nat} {v:Value},Vals (qj bs) its->its[i]?=some v->v=.bool (bs.getD i false)
 | [],_,i,v,h,e=>by cases h;simp at e
 | b::r,_,0,v,h,e=>by
  cases h with
  | cons a t=>simp at e;subst e;exact a
 | b::r,_,i+1,v,h,e=>by
  cases h with
  | cons a t =>
   simp at e
   have:=m3 (bs:=r) t e
   simpa using this
theorem lP (bs:List Bool):(List.range bs.length).map (fun i=>bs.getD i false)=bs:=by
 refine List.ext_getElem (by simp) fun i h1 h2=>?_
 simp[List.getD,h2]
theorem xG (bs:List Bool):(List.range bs.length).all (fun i=>bs.getD i false)=bs.all id:=by
 have h:=List.all_map (f:=fun i=>bs.getD i false) (p:=id) (l:=List.range bs.length)
 rw[lP]at h
 exact h.symm
theorem yb (bs:List Bool):(List.range bs.length).any (fun i=>bs.getD i false)=bs.any id:=by
 have h:=List.any_map (f:=fun i=>bs.getD i false) (p:=id) (l:=List.range bs.length)
 rw[lP]at h
 exact h.symm
theorem Av (hc:X.calm=true)(hK:X.K=K:=by rfl):Irr (ba X (.builtin "all") (zL K)):=by
 refine .mk ?_
 subst hK
 intro pins s σ H xs us Q I r h
 unfold zL at h
 split at h
 ·rename_i la
  obtain⟨bs,hS,q⟩:=h
  obtain⟨u,rfl,rx⟩:=bF r
  cases rx
  obtain⟨its,rv,pl,_⟩:=I.list hS
  have hlen:its.length=bs.length:=by have:=rv.length;unfold qj at this;rw[List.length_map]at this;exact this.symm
  have hll:la<s.heap.objs.size:=by obtain⟨o,n,e,_⟩:=pl;exact Heap.lt_size e
  refine call_all_walk (wpAny_pyIter_list pl.isList ?_)
  refine⟨_,_,_,_,_,_,fun i=>bs.getD i false,rfl,Walks.list (A:=X.A.in1) (I.ok.hd hc) s.heap.objs.size la (Nat.ne_of_lt hll) its.toArray,⟨⟨_,Heap.get?_push_size _ rfl,rfl,rfl⟩,pl.isList.push _⟩,fun i v s2 Q2 E2 hv hq=>?_,fun h' tk hk=>?_⟩
  ·have e:=m3 (i:=i) (v:=v) rv (by simpa using hv)
   rw[e]
   exact wpAny_truthy_bool hq
  ·refine⟨.bl (bs.all id),H,I.kept (t':=tk) (fun b o e=>hk b o (fun m=>?_) (Heap.get?_push_of_some _ e)),?_,q⟩
   ·rw[List.mem_singleton.mp m]at e;exact absurd (Heap.lt_size e) (Nat.lt_irrefl _)
   ·show Value.bool _=Value.bool _
    rw[List.size_toArray,hlen,xG]
 ·exact h.elim
theorem AT (hc:X.calm=true)(hK:X.K=K:=by rfl):Irr (ba X (.builtin "any") (Af K)):=by
 refine .mk ?_
 subst hK
 intro pins s σ H xs us Q I r h
 unfold Af at h
 split at h
 ·rename_i la
  obtain⟨bs,hS,q⟩:=h
  obtain⟨u,rfl,rx⟩:=bF r
  cases rx
  obtain⟨its,rv,pl,_⟩:=I.list hS
  have hlen:its.length=bs.length:=by have:=rv.length;unfold qj at this;rw[List.length_map]at this;exact this.symm
  have hll:la<s.heap.objs.size:=by obtain⟨o,n,e,_⟩:=pl;exact Heap.lt_size e
  refine call_any_walk (wpAny_pyIter_list pl.isList ?_)
  refine⟨_,_,_,_,_,_,fun i=>bs.getD i false,rfl,Walks.list (A:=X.A.in1) (I.ok.hd hc) s.heap.objs.size la (Nat.ne_of_lt hll) its.toArray,⟨⟨_,Heap.get?_push_size _ rfl,rfl,rfl⟩,pl.isList.push _⟩,fun i v s2 Q2 E2 hv hq=>?_,fun h' tk hk=>?_⟩
  ·have e:=m3 (i:=i) (v:=v) rv (by simpa using hv)
   rw[e]
   exact wpAny_truthy_bool hq
  ·refine⟨.bl (bs.any id),H,I.kept (t':=tk) (fun b o e=>hk b o (fun m=>?_) (Heap.get?_push_of_some _ e)),?_,q⟩
   ·rw[List.mem_singleton.mp m]at e;exact absurd (Heap.lt_size e) (Nat.lt_irrefl _)
   ·show Value.bool _=Value.bool _
    rw[List.size_toArray,hlen,yb]
 ·exact h.elim
end
section
variable {X:Cx}{p pos:Pos}
end
section
variable {cap:List (Option Nat)}{g:TG}{tc:TT}{te:TE}{Q:Addr->Hp->Prop}{σ:St}{H:Hp}{K:PySem.W.Frag}
end
end L2
namespace L2
open PySem PySem.Spec PyProof.Rows
section
variable {X:Cx}{K:PySem.W.Frag}{e:Expr}{te:TE}
theorem dA (h:JE X e te)(hK:X.K=K:=by rfl)(he:∀whole,isTrue e X.env whole=(do let v<-whole;standAt e.pos;holding [v] (truthy v)):=by intro _;rfl):JT X e (xX K te):=by
 refine .mk ?_
 subst hK
 exact rE h.out he
end
end L2
namespace Rg
open PySem
abbrev kr (a:Array Nat):Prop:=a.toList.Pairwise (· < ·)
theorem ia {a:Array Nat}(h:kr a){i j x y:Nat}(hi:a[i]?=some x)(hj:a[j]?=some y)(hij:i<j):x<y:=by
 have hi':a.toList[i]?=some x:=by simpa using hi
 have hj':a.toList[j]?=some y:=by simpa using hj
 obtain⟨h1,e1⟩:=List.getElem?_eq_some_iff.mp hi'
 obtain⟨h2,e2⟩:=List.getElem?_eq_some_iff.mp hj'
 have:=List.pairwise_iff_getElem.mp h i j h1 h2 hij
 rw[e1,e2]at this
 exact this
theorem iN {a:Array Nat}(h:kr a)(j:Nat):∀(fuel lo hi:Nat),lo≤hi->hi≤a.size->hi-lo≤fuel->(∀i x,i<lo->a[i]?=some x->x<j)->(∀i x,hi≤i->a[i]?=some x->j≤x) ->
  SetTable.below.go a j fuel lo hi≤a.size/\(∀i x,i<SetTable.below.go a j fuel lo hi->a[i]?=some x->x<j)/\(∀i x,SetTable.below.go a j fuel lo hi≤i->a[i]?=some x->j≤x)
 | 0,lo,hi,h1,h2,h3,hl,hh=>by
  have e:lo=hi:=by omega
  subst e
  exact⟨h2,hl,hh⟩
 | fuel+1,lo,hi,h1,h2,h3,hl,hh=>by
  unfold SetTable.below.go
  by_cases hlt:lo<hi
  ·rw[if_pos hlt]
   have hm:(lo+hi) / 2<a.size:=by omega
   have em:a[(lo+hi) / 2]?=some a[(lo+hi) / 2]:=Array.getElem?_eq_getElem hm
   have eg:a.getD ((lo+hi) / 2) j=a[(lo+hi) / 2]:=by simp[Array.getD,hm]
   dsimp only
   rw[eg]
   by_cases hc:a[(lo+hi) / 2]<j
   ·rw[if_pos hc]
    refine iN h j fuel _ hi (by omega) h2 (by omega) (fun i x hi' ei=>?_) hh
    by_cases z:i=(lo+hi) / 2
    ·subst z;rw[em]at ei;rw[<-Option.some.inj ei];exact hc
    ·exact Nat.lt_trans (ia h ei em (by omega)) hc
   ·rw[if_neg hc]
    refine iN h j fuel lo _ (by omega) (by omega) (by omega) hl (fun i x hi' ei=>?_)
    by_cases z:i=(lo+hi) / 2
    ·subst z;rw[em]at ei;rw[<-Option.some.inj ei];omega
    ·have:=ia h em ei (by omega);omega
  ·rw[if_neg hlt]
   have e:lo=hi:=by omega
   subst e
   exact⟨h2,hl,hh⟩
theorem iB {a:Array Nat}(h:kr a)(j:Nat):SetTable.below a j≤a.size/\(∀i x,i<SetTable.below a j->a[i]?=some x->x<j)/\(∀i x,SetTable.below a j≤i->a[i]?=some x->j≤x) :=
 iN h j a.size 0 a.size (Nat.zero_le _) (Nat.le_refl _) (by omega) (fun i x hi=>by omega) (fun i x hi e=>by rw[Array.getElem?_eq_none hi]at e;cases e)
theorem mI {a:Array Nat}(h:kr a):SetTable.below a 0=0:=by
 obtain⟨h1,h2,_⟩:=iB h 0
 rcases Nat.eq_zero_or_pos (SetTable.below a 0) with z | z
 ·exact z
 ·have hs:0<a.size:=by omega
  exact absurd (h2 0 _ z (Array.getElem?_eq_getElem hs)) (by omega)
theorem mF {a:Array Nat}(h:kr a){i x:Nat}(e:a[i]?=some x):SetTable.below a (x+1)=i+1:=by
 obtain⟨h1,h2,h3⟩:=iB h (x+1)
 have hi:i<a.size:=by
  rcases Nat.lt_or_ge i a.size with z | z
  ·exact z
  ·rw[Array.getElem?_eq_none z]at e;cases e
 have l1:¬ SetTable.below a (x+1)≤i:=fun z=>by have:=h3 i x z e;omega
 have l2:¬ i+1<SetTable.below a (x+1):=fun z=>by
  have hs:i+1<a.size:=by omega
  have e1:=Array.getElem?_eq_getElem hs
  have:=h2 (i+1) _ z e1
  have:=ia h e e1 (by omega)
  omega
 omega
theorem kK {a:Array Nat}(h:kr a){j:Nat}(hn:a[SetTable.below a j]?≠some j):kr (SetTable.insertAt a (SetTable.below a j) j):=by
 obtain⟨h1,h2,h3⟩:=iB h j
 generalize SetTable.below a j=p at hn h1 h2 h3
 show (SetTable.insertAt a p j).toList.Pairwise (· < ·)
 rw[SetTable.toList_insertAt]
 refine List.pairwise_append.mpr ⟨h.sublist (List.take_sublist _ _),List.pairwise_cons.mpr ⟨fun y hy=>?_,h.sublist (List.drop_sublist _ _)⟩,fun x hx y hy=>?_⟩
 ·obtain⟨k,hk⟩:=List.mem_iff_getElem?.mp hy
  rw[List.getElem?_drop]at hk
  have ek:a[p+k]?=some y:=by simpa using hk
  have hge:=h3 (p+k) y (by omega) ek
  rcases Nat.eq_or_lt_of_le hge with z | z
  ·exfalso
   subst z
   by_cases hk0:k=0
   ·subst hk0;exact hn ek
   ·have hps:p<a.size:=by
     rcases Nat.lt_or_ge p a.size with z | z
     ·exact z
     ·rw[Array.getElem?_eq_none (by omega)]at ek;cases ek
    have ep:=Array.getElem?_eq_getElem hps
    have l1:=h3 p _ (Nat.le_refl _) ep
    have l2:=ia h ep ek (by omega)
    omega
  ·exact z
 ·have hxj:x<j:=by
   obtain⟨k,hk⟩:=List.mem_iff_getElem?.mp hx
   rw[List.getElem?_take]at hk
   split at hk
   ·rename_i hkp
    exact h2 k x hkp (by simpa using hk)
   ·cases hk
  rcases List.mem_cons.mp hy with rfl | hy
  ·exact hxj
  ·obtain⟨k,hk⟩:=List.mem_iff_getElem?.mp hy
   rw[List.getElem?_drop]at hk
   have:=h3 (p+k) y (by omega) (by simpa using hk)
   omega
structure TabOk (B:Bool)(t:SetTable):Prop where
 led:B=false->t.led=true
 ris:kr t.place
 dum:t.dummies=#[]
theorem TabOk.fresh (B:Bool):TabOk B (.fresh 0 0 (!B)):=⟨fun h=>by rw[h];rfl,by show ([]:List Nat).Pairwise _;exact .nil,rfl⟩
theorem TabOk.plain {B:Bool}{t:SetTable}(h:TabOk B t):TabOk B { t with plain:=false }:=⟨h.led,h.ris,h.dum⟩
theorem mD (n:Nat):kr (Array.range n):=by
 show (Array.range n).toList.Pairwise _
 rw[Array.toList_range]
 exact List.pairwise_lt_range
theorem TabOk.standIn {B:Bool}{t:SetTable}(h:TabOk B t)(n:Nat):TabOk B (t.standIn n):=⟨h.led,mD n,rfl⟩
theorem lj {t:SetTable}(hd:t.dummies=#[])(j:Nat):SetTable.has t.dummies j=false:=by
 rw[hd];unfold SetTable.has;simp
theorem iM {t:SetTable}(hd:t.dummies=#[]){h:Int}:∀(fuel:Nat) (p:SetTable.Probe) (j:Nat) (d:Option Nat),p.dummy=none->SetTable.probe.go t (fun _=>h+1) h fuel p=some (.empty j d)->d=none/\t.place[SetTable.below t.place j]?≠some j
 | 0,p,j,d,hp,e=>by unfold SetTable.probe.go at e;cases e
 | fuel+1,p,j,d,hp,e=>by
  have adv:(t.advance p).dummy=none:=by
   unfold SetTable.advance
   split
   ·exact hp
   ·exact hp
  unfold SetTable.probe.go at e
  cases es:t.slot p.j with
  | empty =>
   rw[es]at e
   have e':=Option.some.inj e
   injection e' with e1 e2
   subst e1
   refine⟨by rw[<-e2];exact hp,fun z=>?_⟩
   unfold SetTable.slot at es
   simp[z]at es
  | dummy =>
   unfold SetTable.slot at es
   simp only[lj hd]at es
   split at es<;>simp at es
  | live i =>
   rw[es]at e
   have hne:((h+1:Int) == h)=false:=by simp;omega
   simp only[hne]at e
   exact iM hd fuel _ j d adv (by simpa using e)
theorem TabOk.put {B:Bool}{t:SetTable}(h:TabOk B t){j:Nat}(hn:t.place[SetTable.below t.place j]?≠some j):TabOk B (t.put j).1:=by
 refine⟨h.led,kK h.ris hn,?_⟩
 show (if SetTable.has t.dummies j then _ else t.dummies)=#[]
 rw[if_neg (by rw[lj h.dum];decide)]
 exact h.dum
theorem TabOk.layNew {B:Bool}{t:SetTable}(h:TabOk B t)(es:Array (Int×Value))(k:Int)(x:Value):TabOk B (layNew t es k x).2.1:=by
 unfold PySem.layNew
 cases e:t.freeSlot k with
 | none=>exact h.standIn _
 | some r =>
  obtain⟨slot,wd⟩:=r
  have hn:t.place[SetTable.below t.place slot]?≠some slot:=by
   unfold SetTable.freeSlot at e
   cases ep:t.probe (fun _=>k+1) k (t.probeStart k) with
   | none=>rw[ep]at e;cases e
   | some m =>
    rw[ep]at e
    cases m with
    | candidate a b c=>cases e
    | empty j d =>
     obtain⟨h1,h2⟩:=iM h.dum _ _ j d rfl ep
     subst h1
     have e':=Option.some.inj e
     injection e' with e1 e2
     rw[<-e1]
     exact h2
  have hp:=h.put hn
  dsimp only
  unfold SetTable.orStandIn
  split
  ·exact hp
  ·exact hp.standIn _
theorem TabOk.relaid {B:Bool}{t t':SetTable}(h:TabOk B t){hs:Array Int}{n:Nat}{o:Array Nat}(e:t.relaid hs n=some (t',o)):TabOk B t':=by
 unfold SetTable.relaid SetTable.laid at e
 cases eo:SetTable.layClean (SetTable.sizeAbove n-1) hs with
 | none=>rw[eo]at e;cases e
 | some ow =>
  rw[eo]at e
  have e':=congrArg Prod.fst (Option.some.inj e)
  dsimp only at e'
  rw[<-e']
  refine⟨h.led,?_,rfl⟩
  show (((List.range (SetTable.sizeAbove n-1+1)).filterMap fun j=>(ow.getD j none).map (j,·)).map (·.1)).toArray.toList.Pairwise (· < ·)
  rw[List.toList_toArray]
  refine List.pairwise_map.mpr (List.Pairwise.filterMap (S:=fun (a b:Nat×Nat)=>a.1<b.1) _ (fun a a' haa b hb b' hb'=>?_) List.pairwise_lt_range)
  cases ea:ow.getD a none with
  | none=>rw[ea]at hb;simp at hb
  | some u =>
   cases ea':ow.getD a' none with
   | none=>rw[ea']at hb';simp at hb'
   | some u' =>
    rw[ea]at hb
    rw[ea']at hb'
    simp at hb hb'
    rw[<-hb,<-hb']
    exact haa
theorem TabOk.relayAll {B:Bool}{t:SetTable}(h:TabOk B t)(es:Array (Int×Value))(n:Nat):TabOk B (relayAll t es n).2.1:=by
 unfold PySem.relayAll
 cases e:t.relaid (es.map (·.1)) n with
 | none=>exact h.standIn _
 | some r =>
  obtain⟨t',o⟩:=r
  dsimp only
  split
  ·exact h.relaid e
  ·exact h.standIn _
end Rg
namespace L2
open PySem PySem.Spec PyProof.Rows Rg
def zk:Value->Int
 | .int n _=>n
 | _=>0
def wD (es:Array (Int×Value)):List Int:=es.toList.map fun e=>zk e.2
section
variable {prog:Program}{w:World}{A:Around}{E:Value->Shared->Prop}{s:Shared}
def iw (prog:Program)(w:World)(o:Obj)(σ:List Int):Prop :=
 o.ExactSet/\∃es ep t,o.data=.set es ep t/\ElemsOf (intKind prog w) es.toList/\(wD es).Perm σ/\t.fits es.size=true/\Rg.TabOk (w.params.followText "set-order") t
theorem kI {e:Int×Value}{l:List (Int×Value)}(h:ElemsOf (intKind prog w) l)(he:e∈l):∃tk,e.2=.int (zk e.2) tk:=by
 obtain⟨⟨k,hk,_⟩,_⟩:=h e he
 obtain⟨tk,z⟩:=Value.isInt_shape hk
 exact⟨tk,by rw[z];rfl⟩
theorem nM {e:Int×Value}{l:List (Int×Value)}(h:ElemsOf (intKind prog w) l)(he:e∈l)(v:Int):(intKind prog w).is v e.2=decide (zk e.2=v):=by
 obtain⟨tk,z⟩:=kI h he
 have hk:=intKind_is prog w (zk e.2) tk
 rw[<-z]at hk
 rw[KeyKind.is_eq_decide hk v]
 exact decide_eq_decide.mpr ⟨Eq.symm,Eq.symm⟩
theorem wJ {es:Array (Int×Value)}{σ:List Int}(hp:(wD es).Perm σ)(v:Int):σ.any (· == v)=true↔v∈wD es:=by
 rw[List.any_eq_true]
 constructor
 ·rintro⟨x,hx,e⟩
  rw[<-beq_iff_eq.mp e]
  exact hp.mem_iff.mpr hx
 ·intro m
  exact⟨v,hp.mem_iff.mp m,beq_self_eq_true v⟩
theorem wB {es:Array (Int×Value)}{σ:List Int}(hp:(wD es).Perm σ):es.size=σ.length:=by
 have:=hp.length_eq
 unfold wD at this
 rw[List.length_map,Array.length_toList]at this
 exact this
theorem fB {h:Heap}{a:Addr}{o:Obj}{es es':Array (Int×Value)}{ep:Nat}{t t':SetTable}(gO:h.get? a=some o)(gD:o.data=.set es ep t) :
  (h.update a (Obj.putSet es' t')).get? a=some { o with data:=.set es' (ep+1) t' }:=by
 have z:=Heap.get?_update_self (Obj.putSet es' t') gO (by rw[putSet_of es' t' gD];rfl)
 rwa [putSet_of es' t' gD]at z
theorem sO {g:Bool->Sem Unit}(hg:∀(b:Bool) (s₁:Shared) (Q':Unit->Shared->Prop),Q' () s₁->wpAny (model prog w) A (g b) Q' E s₁)
  {a:Addr} {o:Obj} {es es1:Array (Int×Value)} {ep:Nat} {t t2:SetTable} (gO:s.heap.get? a=some o) (gX:o.ExactSet) (gD:o.data=.set es ep t) {σ:List Int}
  (gE:ElemsOf (intKind prog w) es1.toList) (gP:(wD es1).Perm σ) (gB:es1.size<scanBound) (gF:t2.fits es1.size=true) (gT:Rg.TabOk (w.params.followText "set-order") t2) {wd:Bool} {R:Option Bool->Shared->Prop}
  (q:∀h' o',Heap.SameBut a s.heap h'->h'.get? a=some o'->iw prog w o' σ->R (some true) { s with heap:=h' }) :
  wpAny (model prog w) A (do
   storeSet a es1 t2
   if (!wd&&t2.tooFull)=true then do
    g (relayAll t2 es1 (SetTable.grown es1.size)).2.2
    storeSet a (relayAll t2 es1 (SetTable.grown es1.size)).1 (relayAll t2 es1 (SetTable.grown es1.size)).2.1
    pure (some true)
   else pure (some true)) R E s:=by
 have g1:=fB (es':=es1) (t':=t2) gO gD
 have sb:=Heap.SameBut.update s.heap a (Obj.putSet es1 t2)
 refine wpAny_bind (wpAny_storeSet_of gO gD ?_ (fits_of_scanBound gB))
 split
 ·have rp:=relayAll_perm t2 es1 (SetTable.grown es1.size)
  have rf:=relayAll_fits t2 es1 (SetTable.grown es1.size)
  have rt:=gT.relayAll es1 (SetTable.grown es1.size)
  obtain⟨⟨es2,t3,gv⟩,hR⟩:∃r,relayAll t2 es1 (SetTable.grown es1.size)=r:=⟨_,rfl⟩
  rw[hR]at rp rf rt ⊢
  dsimp only at rp rf rt ⊢
  have hz:es2.size<scanBound:=by
   have:=rp.length_eq
   rw[Array.length_toList,Array.length_toList]at this
   omega
  refine wpAny_bind (hg _ _ _ (wpAny_bind (wpAny_storeSet_of g1 rfl (wpAny_pure ?_) (fits_of_scanBound hz))))
  exact q _ _ (sb.trans (Heap.SameBut.update _ a _)) (fB g1 rfl) ⟨gX,es2,_,t3,rfl,gE.perm rp,(rp.map _).trans gP,rf,rt⟩
 ·exact wpAny_pure (q _ _ sb g1 ⟨gX,es1,_,t2,rfl,gE,gP,gF,gT⟩)
theorem Bh {a:Addr}{o:Obj}{σ:List Int}{v:Int}{tk:Tok}{Q:Bool->Shared->Prop}(gO:s.heap.get? a=some o)(gZ:iw prog w o σ)(room:σ.length+1<scanBound)
  (q:∀b h' o',Heap.SameBut a s.heap h'->h'.get? a=some o'->iw prog w o' (step_dedup σ v)->Q b { s with heap:=h' }) :
  wpAny (model prog w) A (setAddHashed a (.int v tk) ((intKind prog w).hash v)) Q E s:=by
 obtain⟨gX,es,ep,t,gD,gE,gP,gF,gT⟩:=gZ
 have gB:es.size+1<scanBound:=by rw[wB gP];exact room
 have key:=intKind_is prog w v tk
 have scn:(Value.int v tk).scannable=true:=rfl
 unfold setAddHashed setAddHashedIn
 refine wpAny_holding (wpAny_bind (wpAny_setState_of gO gD gF ?_))
 dsimp only
 rw[byScan_of scn (show es.size<scanBound by omega) gE,if_pos rfl]
 unfold setAddByScan
 refine wpAny_bind (wpAny_bind (wpAny_rule (wpAny_bind (wpAny_setScan_of key gO gD gF gE ?_))))
 cases fi:List.findIdx? (fun e=>(intKind prog w).is v e.2) es.toList with
 | some j =>
  dsimp only
  obtain⟨hj,pj,_⟩:=List.findIdx?_eq_some_iff_getElem.mp fi
  have mem:=List.getElem_mem hj
  rw[nM gE mem]at pj
  have m:v∈wD es:=List.mem_map.mpr ⟨_,mem,of_decide_eq_true pj⟩
  refine wpAny_pure (wpAny_pure (q _ s.heap o (Heap.SameBut.refl a s.heap) gO ?_))
  unfold step_dedup
  rw[if_pos ((wJ gP v).mpr m)]
  exact⟨gX,es,ep,t,gD,gE,gP,gF,gT⟩
 | none =>
  dsimp only
  have nm:¬ σ.any (· == v)=true:=fun z=>by
   obtain⟨e,he,ee⟩:=List.mem_map.mp ((wJ gP v).mp z)
   have:=List.findIdx?_eq_none_iff.mp fi e he
   rw[nM gE he,decide_eq_true ee]at this
   cases this
  have lp:=layNew_perm t es ((intKind prog w).hash v) (.int v tk)
  have lf:=layNew_fits t es ((intKind prog w).hash v) (.int v tk)
  have lt:=gT.layNew es ((intKind prog w).hash v) (.int v tk)
  obtain⟨⟨es1,t1,wd,gv⟩,hL⟩:∃r,layNew t es ((intKind prog w).hash v) (.int v tk)=r:=⟨_,rfl⟩
  rw[hL]at lp lf lt ⊢
  dsimp only at lp lf lt ⊢
  rw[Array.toList_push]at lp
  have e1:ElemsOf (intKind prog w) es1.toList:=(gE.push key scn).perm lp
  have p1:(wD es1).Perm (step_dedup σ v):=by
   unfold step_dedup
   rw[if_neg nm]
   have:=lp.map fun e=>zk e.2
   rw[List.map_append]at this
   exact this.trans (gP.append_right _)
  have b1:es1.size<scanBound:=by
   have:=lp.length_eq
   rw[Array.length_toList,List.length_append,Array.length_toList,List.length_singleton]at this
   omega
  have gw:∀(b:Bool) (s₁:Shared) (Q':Unit->Shared->Prop),Q' () s₁->wpAny (model prog w) A (match b with | true=>rule "set.scan.the-table-gave-way" | false=>pure ()) Q' E s₁:=fun b s₁ Q' z=>by
   cases b
   ·exact wpAny_pure z
   ·exact wpAny_rule z
  refine wpAny_bind (gw _ _ _ ?_)
  split
  ·rw[hashByValue_scannable 8 scn]
   refine wpAny_bind (wpAny_pure ?_)
   refine sO gw gO gX gD e1 p1 b1 lf lt ?_
   intro h' o' sb' g' z'
   exact wpAny_pure (q _ h' o' sb' g' z')
  ·refine wpAny_bind (wpAny_pure ?_)
   refine sO gw gO gX gD e1 p1 b1 lf lt ?_
   intro h' o' sb' g' z'
   exact wpAny_pure (q _ h' o' sb' g' z')
end
end L2
namespace L2
open PySem PySem.Spec PyProof.Rows
section
variable {prog:Program}{w:World}{A:Around}{R:Result->Shared->Prop}{I:Addr}{fp wr:List Addr}{G:Array GenState->Array GenState->Prop}{n:Nat}{P:Nat->Value->Prop}{St:Nat->Shared->Prop}
theorem xk (W:WalksS prog w A.in1 I fp wr G n P St)(z:Addr)(nz:z∉fp)(f:Nat->Int)(hf:∀i v,P i v->∃t,v=.int (f i) t)(nb:n+1<scanBound) :
  ∀(k i:Nat) (s:Shared) (o:Obj),n-i=k->i≤n->St i s->s.heap.get? z=some o->iw prog w o (firstMet f i) ->
   (∀s' o',Moved (z::wr) G s s'->s'.heap.get? z=some o'->iw prog w o' (firstMet f n)->R (.ok (.ret .none)) s')->codeAny (model prog w) A (.builtin "set.update.loop" ⟨[.ref z,.ref I],[]⟩) R s:=by
 have nw:z∉wr:=fun m=>nz (W.sub _ m)
 have mw:∀b∈wr,b∈z::wr:=fun b m=>List.mem_cons_of_mem _ m
 intro k
 induction k with
 | zero =>
  intro i s o ek le st gO gZ out
  obtain rfl:i=n:=by omega
  refine codeAny_builtin F.entry_set_update_loop ?_
  rw[Around.under_plainId F.plain_set_update_loop _]
  refine wpAny_bind (m:=pyNext (.ref I)) (W.done s _ _ st fun s' mv=>?_)
  exact wpAny_pure (out s' o (mv.mono mw) (mv.heap z _ nw gO) gZ)
 | succ k ih =>
  intro i s o ek le st gO gZ out
  have lt:i<n:=by omega
  refine codeAny_builtin F.entry_set_update_loop ?_
  rw[Around.under_plainId F.plain_set_update_loop _]
  refine wpAny_bind (m:=pyNext (.ref I)) (W.item i s _ _ lt st fun v s' pv st' mv=>?_)
  obtain⟨t,rfl⟩:=hf i v pv
  have gO':=mv.heap z _ nw gO
  refine wpAny_bind (m:=holding [Value.int (f i) t] (setAdd z (.int (f i) t))) (wpAny_holding ?_)
  unfold setAdd
  refine wpAny_holding (wpAny_bind ((intKind prog w).pyHash (k:=f i) (intKind_is _ _ _ _) ?_))
  have fl:=firstMet_length_le f i
  refine Bh (s:={ s' with toks:=s'.toks+1 }) (tk:=t) gO' gZ (by omega) fun b h' o' sb g' z'=>?_
  rw[<-firstMet_succ]at z'
  refine wpAny_pure ⟨plainId_quiet F.plain_set_update_loop _,ih (i+1) _ o' (by omega) lt (W.frame _ s' _ _ st' (Nat.le_succ _) fun c hc u e=>?_) g' z' fun s'' o'' mv' g'' z''=>?_⟩
  ·rw[sb.2 c (fun e':c=z=>nz (by rw[<-e'];exact hc))]
   exact e
  ·refine out s'' o'' (Moved.trans W.gtrans ((mv.mono mw).then_heap (Nat.le_succ _) fun c u hc e=>?_) mv') g'' z''
   rw[sb.2 c (fun e':c=z=>hc (by rw[e'];exact List.mem_cons_self))]
   exact e
end
section
variable {prog:Program}{w:World}{A:Around}{E:Value->Shared->Prop}{s:Shared}
abbrev ca (w:World):Obj:={ cls:=.type "set",dict:=none,data:=.set #[] 0 (.fresh 0 0 (!w.params.followText "set-order")) }
theorem vx (prog:Program)(w:World):iw prog w (ca w) [] :=
 ⟨⟨rfl,rfl,rfl⟩,#[],0,_,rfl,(fun e m=>by simp at m),List.Perm.refl _,rfl,Rg.TabOk.fresh _⟩
theorem vZ (v:Value){Q₁:Value->Shared->Prop}(q:Q₁ (.ref s.heap.objs.size) { s with heap:=s.heap.push (ca w) }) :
  codeAny (model prog w) A (.call (.builtin "set.__new__") ⟨[.type "set",v],[]⟩) (wants Q₁ E) s:=by
 have nc:=F.newCall_set_1 v
 refine codeAny_of_tree (wpAny_bind (m:=checkBuiltinCall "set.__new__" ⟨[.type "set",v],[]⟩) (wpAny_of_eq nc ?_))
 refine wpAny_pure ⟨plainId_quiet F.plain_set_new _,codeAny_builtin F.entry_set_new ?_⟩
 rw[Around.under_plainId F.plain_set_new _]
 unfold Builtin.«set.__new__» Builtin.Frozenset.newClass
 have sub:=sub_set_self
 obtain⟨p1,p2,p3,p4,p5⟩:=s
 dsimp only
 wp_walk
 refine wpAny_askSetting (wpAny_pure ?_)
 simp only[newObj]
 exact wpAny_bind (wpAny_alloc (wpAny_pure (wpAny_pure q)))
theorem xa {l:Addr}{items:Array Value}{ns:List Int}{Q:Value->Shared->Prop}(un:A.handled=none)(gL:s.heap.IsList l items)(gI:IntsAre items.toList ns)(nb:items.size+1<scanBound)
  (q:∀(h':Heap) (tk:Nat) (o:Obj),h'.get? s.heap.objs.size=some o->iw prog w o (firstMet (fun i=>ns.getD i 0) items.size)->(∀b u,b<s.heap.objs.size->s.heap.get? b=some u->h'.get? b=some u) ->
   Q (.ref s.heap.objs.size) { s with heap:=h',toks:=tk }):wpAny (model prog w) A (call (.type "set") [.ref l]) Q E s:=by
 obtain⟨c,tl,mro⟩:=F.called_set.mro
 have made:=F.called_set.made
 have sub:=F.called_set.sub
 have c1:=F.called_set.notType
 have c2:=F.called_set.canCreate
 have c3:=F.typeCall_set_1 (.ref l)
 refine wpAny_call (codeAny_of_tree (show wpAny _ _ (callAny (.type "set") _) _ _ _ from wpAny_pure ⟨Code.quiet_builtin _ (by decide +kernel),codeAny_builtin F.entry_type_call ?_⟩))
 rw[Around.under_plain (weight_type_call_type "set" [.ref l] []) rfl]
 repeat (any_goals (first | assumption | wp_step))
 refine codeAny_mono (vZ (.ref l) (E:=E) (Q₁:=fun x s₁=>x=.ref s.heap.objs.size/\s₁={ s with heap:=s.heap.push (ca w) }) ⟨rfl,rfl⟩) fun r s₁ hr=>?_
 cases r with
 | error e=>exact hr
 | ok fl =>
  cases fl with
  | ret x =>
   obtain⟨rfl,rfl⟩:=hr
   have g0:(s.heap.push (ca w)).get? s.heap.objs.size=some (ca w):=Heap.get?_push_size _ rfl
   have tS:Shared.TypeIs { s with heap:=s.heap.push (ca w) } (.ref s.heap.objs.size) "set":=⟨_,g0,rfl⟩
   have li:=F.called_set.init.lookup
   have bi:=F.called_set.init.bind (.ref s.heap.objs.size)
   repeat (any_goals (first | assumption | wp_step))
   refine codeAny_mono (codeAny_call_builtin (R:=wants (fun r s₂=>r=.none/\∃h' tk o,s₂={ s with heap:=h',toks:=tk }/\h'.get? s.heap.objs.size=some o/\iw prog w o (firstMet (fun i=>ns.getD i 0) items.size) /\
     (∀b u,b<s.heap.objs.size->s.heap.get? b=some u->h'.get? b=some u)) E) F.called_set.init.plain F.entry_set_init (check_set_init_1 tS ?_)) fun r₂ s₂ hr₂=>?_
   ·obtain⟨ol,gl,cl,nl,dl⟩:=gL
    obtain⟨o1,o2,o3,o4⟩:=ol
    simp only at cl dl
    subst cl
    subst dl
    have gl':(s.heap.push (ca w)).get? l=some { cls:=.type "list",dict:=o2,data:=.seq items nl,slots:=o4 }:=Heap.get?_push_of_some _ gl
    have y1:=F.sub_list_set
    have y2:=F.sub_list_frozenset
    have y3:(Value.type "list" == Value.type "dict")=false:=by decide
    have gL1:(s.heap.push (ca w)).IsList l items:=⟨_,gl',rfl,nl,rfl⟩
    unfold Builtin.«set.__init__» noKeywords Builtin.Frozenset.updateFrom
    generalize eP:pyIter=PI
    wp_walk
    subst eP
    refine wpAny_pyIter_list gL1 (wpAny_bind (wpAny_runValue ?_))
    have ls:l<s.heap.objs.size:=Heap.lt_size gl
    have un3:A.in1.in1.in1.handled=none:=by simp[un]
    have sz1:(s.heap.push (ca w)).objs.size=s.heap.objs.size+1:=Heap.size_push _ _
    have nI:l≠(s.heap.push (ca w)).objs.size:=by rw[sz1];exact Nat.ne_of_lt (Nat.lt_succ_of_lt ls)
    have nz:s.heap.objs.size∉[(s.heap.push (ca w)).objs.size,l]:=by
     rw[sz1]
     simp only[List.mem_cons,List.not_mem_nil,or_false,not_or]
     exact⟨Nat.ne_of_lt (Nat.lt_succ_self _),Nat.ne_of_gt ls⟩
    have hv:∀(i:Nat) (v:Value),items[i]?=some v->∃t,v=.int ((fun i=>ns.getD i 0) i) t:=fun i v e=>IntsAre.int_at gI i v (by rw[Array.getElem?_toList];exact e)
    refine xk ((Walks.list un3 _ l nI items).toS) s.heap.objs.size nz (fun i=>ns.getD i 0) hv nb (items.size-0) 0 _ (ca w) (by omega) (Nat.zero_le _) ⟨⟨_,Heap.get?_push_size _ rfl,rfl,rfl⟩,(gL1.push _)⟩ (Heap.get?_push_of_some _ g0) (vx prog w) ?_
    intro s' o' mv g' z'
    obtain⟨h',g1,d1,tk',os'⟩:=s'
    obtain rfl:g1=s.gens:=mv.gens
    obtain rfl:d1=s.drawn:=mv.drawn
    obtain rfl:os'=s.os:=mv.os
    refine wpAny_pure (show wpAny _ _ (ret Value.none) _ _ _ from wpAny_pure ⟨rfl,h',tk',o',rfl,g',z',fun b u lb e=>?_⟩)
    refine mv.heap b u ?_ (Heap.get?_push_of_some _ (Heap.get?_push_of_some _ e))
    simp only[List.mem_cons,List.not_mem_nil,or_false,not_or]
    exact⟨Nat.ne_of_lt lb,by rw[sz1];exact Nat.ne_of_lt (Nat.lt_succ_of_lt lb)⟩
   ·cases r₂ with
    | error e=>exact hr₂
    | ok fl₂ =>
     cases fl₂ with
     | ret r =>
      obtain⟨rfl,h',tk,o,rfl,g',z',k'⟩:=hr₂
      repeat (any_goals (first | assumption | wp_step))
      exact q h' tk o g' z' k'
     | _=>exact hr₂.elim
  | _=>exact hr.elim
end
end L2
namespace L2
open PySem PySem.Spec PyProof.Rows Rg
theorem iX {α:Type}{l:List α}{i:Nat}(h:i<l.length):(l[i]::l.eraseIdx i).Perm l:=by
 rw[List.eraseIdx_eq_take_drop_succ]
 have e:l=l.take i++l[i]::l.drop (i+1):=by rw[<-List.drop_eq_getElem_cons h,List.take_append_drop]
 have p:=(List.perm_middle (a:=l[i]) (l₁:=l.take i) (l₂:=l.drop (i+1))).symm
 rw[<-e]at p
 exact p
theorem om {α:Type}(f:Nat->Nat):∀(fuel k:Nat) (left:List α) (out:Array α),left.length=fuel->(pickOrder.go f fuel k left out).toList.Perm (out.toList++left)
 | 0,k,left,out,h=>by
  have:left=[]:=List.length_eq_zero_iff.mp h
  subst this
  unfold pickOrder.go
  simp
 | fuel+1,k,left,out,h=>by
  have lt:f k % left.length<left.length:=Nat.mod_lt _ (by omega)
  have e:=List.getElem?_eq_getElem lt
  unfold pickOrder.go
  rw[e]
  dsimp only
  refine (om f fuel (k+1) _ _ (by rw[List.length_eraseIdx_of_lt lt];omega)).trans ?_
  rw[Array.toList_push,List.append_assoc]
  refine List.Perm.append_left _ ?_
  exact iX lt
theorem jt {α:Type}(f:Nat->Nat)(xs:Array α):(pickOrder f xs).toList.Perm xs.toList:=by
 have:=om f xs.size 0 xs.toList #[] (by simp)
 simpa[pickOrder] using this
section
variable {M:Model}{A:Around}{E:Value->Shared->Prop}{s:Shared}
theorem qW {src:Source}{n:Nat}{Q:Nat->Shared->Prop}(hn:n≠0)(h:∀i d,i<n->Q i { s with drawn:=d }):wpAny M A (choose src n) Q E s:=fun Γ p _=>by
 unfold choose
 rw[Sem.wp_choose]
 refine⟨hn,?_⟩
 rw[Sem.wp_pure]
 exact h _ _ (Nat.mod_lt _ (Nat.pos_of_ne_zero hn))
theorem sG {α:Type}:∀(n:Nat) (xs:List α) {s:Shared} {Q:List α->Shared->Prop},xs.length=n->(∀ys d,ys.Perm xs->Q ys { s with drawn:=d })->wpAny M A (drawOrder n xs) Q E s
 | 0,xs,s,Q,h,q=>by
  have:xs=[]:=List.length_eq_zero_iff.mp h
  subst this
  unfold drawOrder
  exact wpAny_pure (q [] s.drawn (List.Perm.refl _))
 | n+1,[],s,Q,h,q=>by simp at h
 | n+1,x::r,s,Q,h,q=>by
  unfold drawOrder
  refine wpAny_bind (qW (by simp) fun i d hi=>?_)
  have e:=List.getElem?_eq_getElem hi
  rw[e]
  dsimp only
  refine wpAny_bind (sG n _ (by rw[List.length_eraseIdx_of_lt hi];simpa using h) fun ys d' hp=>wpAny_pure ?_)
  exact q _ d' ((hp.cons _).trans (iX hi))
end
theorem slot_sit_next:Slot "set_iterator" "__next__" "set_iterator.__next__" :=
 .of (owner:="set_iterator") (n:="__next__") (by rw[typeLookup_type,builtinLookup_eq_fast];kernel_rfl) (by decide +kernel) (by decide +kernel) (by decide +kernel) (by first | exact .inl (by decide +kernel) | exact .inr (by decide +kernel)) (by rw[isSubtype_type];kernel_rfl)
theorem dz:entryFor table "set_iterator.__next__"=some Builtin.«set_iterator.__next__»:=entryFor_of_tree (by kernel_rfl)
theorem eL (a:Value):argsOk "set_iterator.__next__" ⟨[a],[]⟩:=by unfold argsOk;kernel_rfl
theorem eM:Slot "set_iterator" "__iter__" "set_iterator.__iter__" :=
 .of (owner:="set_iterator") (n:="__iter__") (by rw[typeLookup_type,builtinLookup_eq_fast];kernel_rfl) (by decide +kernel) (by decide +kernel) (by decide +kernel) (by first | exact .inl (by decide +kernel) | exact .inr (by decide +kernel)) (by rw[isSubtype_type];kernel_rfl)
theorem ic:entryFor table "set_iterator.__iter__"=some Builtin.«dict_keyiterator.__iter__»:=entryFor_alias (id':="dict_keyiterator.__iter__") (by kernel_rfl) rfl (by decide +kernel) (by kernel_rfl)
theorem i6 (a:Value):argsOk "set_iterator.__iter__" ⟨[a],[]⟩:=by unfold argsOk;kernel_rfl
theorem gN:entryFor table "set.__iter__"=some Builtin.«frozenset.__iter__»:=entryFor_alias (id':="frozenset.__iter__") (by kernel_rfl) rfl (by decide +kernel) (by kernel_rfl)
end L2
namespace L2
open PySem PySem.Spec PyProof.Rows Rg
abbrev cz (fst:Value)(i n ep:Nat)(z:Addr):Obj:={ cls:=.type "set_iterator",dict:=none,data:=.fields #[fst,.int (i:Nat) 0,.ref z,.int (n:Nat) 0,.int (ep:Nat) 0],slots:=#[] }
section
variable {prog:Program}{w:World}{A:Around}{E:Value->Shared->Prop}{s:Shared}
structure ub (w:World)(h:Heap)(z:Addr)(es:Array (Int×Value))(ep:Nat)(t:SetTable)(vals:List Value)(fst:Value)(i:Nat):Prop where
 way:(w.params.followText "set-order"=true/\fst=.int 0 0/\vals=(pickOrder (w.params.setOrder z ep) es).toList.map (·.2)) \/
  (w.params.followText "set-order"=false/\(!t.plain&&decide (es.size>1))=true/\∃(T:Addr) (ps:List Nat),fst=.ref T/\(∃c,h.get? T=some { cls:=.type "tuple",dict:=none,data:=.seq (ps.map fun (k:Nat)=>rawInt k).toArray c,slots:=#[] })/\ps.length=es.size/\(∀k∈ps,k<es.size)/\vals=ps.map fun k=>(es.getD k default).2) \/
  (w.params.followText "set-order"=false/\(!t.plain&&decide (es.size>1))=false/\∃slot:Nat,fst=.int (slot:Nat) 0/\SetTable.below t.place slot=i/\vals=es.toList.map (·.2))
theorem sh {z:Addr}{o:Obj}{es:Array (Int×Value)}{ep:Nat}{t:SetTable}{vals:List Value}{slot i:Nat}{v:Value}{Q:Option (Value×Nat)->Shared->Prop}(gO:s.heap.get? z=some o)(gD:o.data=.set es ep t)(gF:t.fits es.size=true)(gT:Rg.TabOk (w.params.followText "set-order") t)
  (gW:ub w s.heap z es ep t vals (.int (slot:Nat) 0) i) (hv:vals[i]?=some v) (q:∀slot':Nat,(∀h,ub w h z es ep t vals (.int (slot':Nat) 0) (i+1))->Q (some (v,slot')) s) :
  wpAny (model prog w) A (setNext z slot i ep) Q E s:=by
 unfold setNext
 refine wpAny_bind (wpAny_setState_of gO gD gF ?_)
 dsimp only
 refine wpAny_bind (m:=setsByText) (wpAny_bind (wpAny_askSetting (wpAny_pure ?_)))
 rcases gW.way with⟨hB,hf,hvals⟩ | ⟨_,_,T,ps,hf,_⟩ | ⟨hB,hdr,slot',hf,hbl,hvals⟩
 ·show wpAny _ _ (if w.params.followText "set-order"=true then _ else _) _ _ s
  rw[if_pos hB]
  simp only[bne_self_eq_false,Bool.false_eq_true,↓reduceIte]
  unfold setWalk
  refine wpAny_bind (wpAny_bind (wpAny_setState_of gO gD gF ?_))
  dsimp only
  refine wpAny_bind (m:=setsByText) (wpAny_bind (wpAny_askSetting (wpAny_pure ?_)))
  show wpAny _ _ (if w.params.followText "set-order"=true then _ else _) _ _ s
  rw[if_pos hB]
  refine wpAny_bind (wpAny_askSetting (wpAny_pure ?_))
  refine wpAny_pure ?_
  have e:((pickOrder (w.params.setOrder z ep) es)[i]?).map (fun e=>(e.2,slot))=some (v,slot):=by
   rw[hvals,List.getElem?_map]at hv
   have h2:(pickOrder (w.params.setOrder z ep) es).toList[i]?=(pickOrder (w.params.setOrder z ep) es)[i]?:=by simp
   rw[h2]at hv
   cases ee:(pickOrder (w.params.setOrder z ep) es)[i]? with
   | none=>rw[ee]at hv;cases hv
   | some x=>rw[ee]at hv;have hv':x.2=v:=Option.some.inj hv;rw[<-hv'];rfl
  have e0:slot=0:=by injection hf with h1 _;omega
  subst e0
  have qq:=q 0 fun h=>⟨.inl ⟨hB,rfl,hvals⟩⟩
  rw[<-e]at qq
  exact qq
 ·cases hf
 ·show wpAny _ _ (if w.params.followText "set-order"=true then _ else _) _ _ s
  rw[if_neg (by rw[hB];exact Bool.false_ne_true)]
  show wpAny _ _ (if (!t.plain&&decide (es.size>1))=true then _ else _) _ _ s
  rw[if_neg (by rw[hdr];exact Bool.false_ne_true)]
  have hled:t.led=true:=gT.led hB
  have hi:i<es.size:=by
   have:=(List.getElem?_eq_some_iff.mp hv).1
   rw[hvals,List.length_map,Array.length_toList]at this
   exact this
  have hpl:t.place.size=es.size:=by
   have:=gF
   unfold SetTable.fits at this
   simp at this
   exact this.1
  have e0:slot=slot':=by injection hf with h1 _;omega
  subst e0
  have hx:es[i]?=some es[i]:=Array.getElem?_eq_getElem hi
  have hj:t.place[i]?=some t.place[i]:=Array.getElem?_eq_getElem (by omega)
  have hvx:v=es[i].2:=by
   rw[hvals,List.getElem?_map]at hv
   have h2:es.toList[i]?=es[i]?:=by simp
   rw[h2,hx]at hv
   exact (Option.some.inj hv).symm
  refine wpAny_bind (m:=if (!t.led&&!es.isEmpty)=true then unsupported "set:maker-not-led" else pure ()) ?_
  rw[if_neg (by rw[hled];simp)]
  refine wpAny_pure ?_
  rw[hbl,hx,hj]
  subst hvx
  exact wpAny_pure (q (t.place[i]+1) fun h=>⟨.inr (.inr ⟨hB,hdr,_,rfl,mF gT.ris hj,hvals⟩)⟩)
theorem tu {z:Addr}{o:Obj}{es:Array (Int×Value)}{ep:Nat}{t:SetTable}{vals:List Value}{slot:Nat}{Q:Option (Value×Nat)->Shared->Prop}(gO:s.heap.get? z=some o)(gD:o.data=.set es ep t)(gF:t.fits es.size=true)(gT:Rg.TabOk (w.params.followText "set-order") t)
  (gW:ub w s.heap z es ep t vals (.int (slot:Nat) 0) es.size) (q:Q none s):wpAny (model prog w) A (setNext z slot es.size ep) Q E s:=by
 unfold setNext
 refine wpAny_bind (wpAny_setState_of gO gD gF ?_)
 dsimp only
 refine wpAny_bind (m:=setsByText) (wpAny_bind (wpAny_askSetting (wpAny_pure ?_)))
 rcases gW.way with⟨hB,hf,hvals⟩ | ⟨_,_,T,ps,hf,_⟩ | ⟨hB,hdr,slot',hf,hbl,hvals⟩
 ·show wpAny _ _ (if w.params.followText "set-order"=true then _ else _) _ _ s
  rw[if_pos hB]
  simp only[bne_self_eq_false,Bool.false_eq_true,↓reduceIte]
  unfold setWalk
  refine wpAny_bind (wpAny_bind (wpAny_setState_of gO gD gF ?_))
  dsimp only
  refine wpAny_bind (m:=setsByText) (wpAny_bind (wpAny_askSetting (wpAny_pure ?_)))
  show wpAny _ _ (if w.params.followText "set-order"=true then _ else _) _ _ s
  rw[if_pos hB]
  refine wpAny_bind (wpAny_askSetting (wpAny_pure (wpAny_pure ?_)))
  have hz:(pickOrder (w.params.setOrder z ep) es).size=es.size:=by
   have:=(jt (w.params.setOrder z ep) es).length_eq
   simpa using this
  have e:((pickOrder (w.params.setOrder z ep) es)[es.size]?).map (fun e=>(e.2,slot))=none:=by rw[Array.getElem?_eq_none (by omega)];rfl
  rw[<-e]at q
  exact q
 ·cases hf
 ·show wpAny _ _ (if w.params.followText "set-order"=true then _ else _) _ _ s
  rw[if_neg (by rw[hB];exact Bool.false_ne_true)]
  show wpAny _ _ (if (!t.plain&&decide (es.size>1))=true then _ else _) _ _ s
  rw[if_neg (by rw[hdr];exact Bool.false_ne_true)]
  have e0:slot=slot':=by injection hf with h1 _;omega
  subst e0
  refine wpAny_bind (m:=if (!t.led&&!es.isEmpty)=true then unsupported "set:maker-not-led" else pure ()) ?_
  rw[if_neg (by rw[gT.led hB];simp)]
  refine wpAny_pure ?_
  rw[hbl,Array.getElem?_eq_none (Nat.le_refl es.size)]
  exact wpAny_pure q
theorem dR {h:Heap}{I z:Addr}{fst:Value}{i n ep:Nat}{k:Nat}{x:Value}(g:h.get? I=some (cz fst i n ep z)) :
  (h.update I (Obj.mapFields (·.setIfInBounds k x))).get? I=some { cls:=.type "set_iterator",dict:=none,data:=.fields (#[fst,.int (i:Nat) 0,.ref z,.int (n:Nat) 0,.int (ep:Nat) 0].setIfInBounds k x),slots:=#[] } :=
 Heap.get?_update_self _ g rfl
theorem xN {I z:Addr}{o:Obj}{es:Array (Int×Value)}{ep:Nat}{t:SetTable}{vals:List Value}{fst:Value}{i:Nat}{v:Value}{Q:Option Value->Shared->Prop}(gI:s.heap.get? I=some (cz fst i es.size ep z))(gO:s.heap.get? z=some o)(gD:o.data=.set es ep t)(gF:t.fits es.size=true)(gT:Rg.TabOk (w.params.followText "set-order") t)
  (gW:ub w s.heap z es ep t vals fst i) (hv:vals[i]?=some v) (q:∀h' fst',h'.get? I=some (cz fst' (i+1) es.size ep z)->Heap.SameBut I s.heap h'->ub w h' z es ep t vals fst' (i+1)->(∀a,fst'=.ref a->fst=.ref a)->Q (some v) { s with heap:=h' }) :
  wpAny (model prog w) A (pyNext (.ref I)) Q E s:=by
 have tI:s.TypeIs (.ref I) "set_iterator":=⟨_,gI,rfl⟩
 unfold pyNext
 refine wpAny_bind (wpAny_attempt (wpAny_callSpecial?_slot (name:=Str.ofString "__next__") tI slot_sit_next (wpAny_call_entry slot_sit_next tI dz ?_ (eL _))))
 unfold Builtin.«set_iterator.__next__» slotArgs
 simp only[List.isEmpty_nil,Bool.not_true,Bool.false_eq_true,↓reduceIte,bind_assoc,List.length_nil,bne_self_eq_false]
 refine wpAny_bind (wpAny_pure ?_)
 refine wpAny_bind (wpAny_fieldsOf gI rfl ?_)
 dsimp only
 refine wpAny_bind (wpAny_setEntries_of gO gD gF ?_)
 simp only[bne_self_eq_false,Bool.false_eq_true,↓reduceIte]
 have gW0:=gW
 rcases gW.way with⟨hB,hf,hvals⟩ | ⟨hB,hdr,T,ps,hf,⟨c,hTo⟩,hpl,hpb,hvals⟩ | ⟨hB,hdr,slot,hf,hbl,hvals⟩
 ·subst hf
  refine wpAny_bind (sh (slot:=0) gO gD gF gT gW0 hv fun slot' ord=>?_)
  refine wpAny_bind (wpAny_setField gI rfl (by simp) ?_)
  have g1:(s.heap.update I (Obj.mapFields (·.setIfInBounds 0 (rawInt slot')))).get? I=some (cz (.int (slot':Nat) 0) i es.size ep z):=by rw[dR gI];rfl
  refine wpAny_bind (wpAny_setField g1 rfl (by simp) (wpAny_pure ⟨v,rfl,wpAny_pure (q _ (.int (slot':Nat) 0) ?_ ((Heap.SameBut.update ..).trans (Heap.SameBut.update ..)) (ord _) (fun a ha=>by cases ha))⟩))
  rw[dR g1];rfl
 ·subst hf
  refine wpAny_bind (wpAny_seqItems hTo rfl ?_)
  have hk:∃k,ps[i]?=some k/\v=(es.getD k default).2:=by
   rw[hvals,List.getElem?_map]at hv
   cases ek:ps[i]? with
   | none=>rw[ek]at hv;cases hv
   | some k=>rw[ek]at hv;exact⟨k,rfl,(Option.some.inj hv).symm⟩
  obtain⟨k,ek,ev⟩:=hk
  have e1:((ps.map fun (k:Nat)=>rawInt k).toArray)[((i:Nat):Int).toNat]?=some (.int (k:Nat) 0):=by
   rw[Int.toNat_natCast,List.getElem?_toArray,List.getElem?_map,ek];rfl
  dsimp only
  rw[e1]
  dsimp only
  have hk:=hpb k (List.mem_of_getElem? ek)
  obtain⟨x,hx⟩:∃x,es[k]?=some x:=⟨_,Array.getElem?_eq_getElem hk⟩
  have ev':v=x.2:=by rw[ev,Array.getD_eq_getD_getElem?,hx];rfl
  unfold setNextDrawn
  refine wpAny_bind (wpAny_bind (wpAny_setState_of gO gD gF ?_))
  simp only[Int.toNat_natCast,bne_self_eq_false,Bool.false_eq_true,↓reduceIte]
  rw[hx]
  refine wpAny_pure ?_
  rw[<-ev']
  refine wpAny_bind (wpAny_setField gI rfl (by simp) (wpAny_pure ⟨v,rfl,wpAny_pure (q _ (.ref T) ?_ (Heap.SameBut.update ..) ⟨.inr (.inl ⟨hB,hdr,T,ps,rfl,⟨c,?_⟩,hpl,hpb,hvals⟩)⟩ (fun a ha=>ha))⟩))
  ·rw[dR gI];rfl
  ·have nT:T≠I:=fun e=>by rw[e,gI]at hTo;exact absurd (congrArg Obj.cls (Option.some.inj hTo)) (show ¬ Value.type "set_iterator"=Value.type "tuple" by decide)
   rw[(Heap.SameBut.update s.heap I _).2 T nT]
   exact hTo
 ·subst hf
  refine wpAny_bind (sh (slot:=slot) gO gD gF gT gW0 hv fun slot' ord=>?_)
  refine wpAny_bind (wpAny_setField gI rfl (by simp) ?_)
  have g1:(s.heap.update I (Obj.mapFields (·.setIfInBounds 0 (rawInt slot')))).get? I=some (cz (.int (slot':Nat) 0) i es.size ep z):=by rw[dR gI];rfl
  refine wpAny_bind (wpAny_setField g1 rfl (by simp) (wpAny_pure ⟨v,rfl,wpAny_pure (q _ (.int (slot':Nat) 0) ?_ ((Heap.SameBut.update ..).trans (Heap.SameBut.update ..)) (ord _) (fun a ha=>by cases ha))⟩))
  rw[dR g1];rfl
theorem j7 {A:Around}{Q:Option Value->Shared->Prop}{s₁:Shared}(un:A.handled=none)(q:∀h',(∀b o,s₁.heap.get? b=some o->h'.get? b=some o)->Q none { s₁ with heap:=h' }) :
  wpAny (model prog w) A.in1 (do let e<-newExc (.type "StopIteration") [];raiseNew e) (fun fin s'=>∃v,fin=Fin.done (Flow.ret v)/\wpAny (model prog w) A (pure (some v)) Q E s')
   (fun e s'=>wpAny (model prog w) A (do let b<-isInstance e (.type "StopIteration");if b=true then pure none else throw e) Q E s') s₁:=by
 refine wpAny_bind ?_
 simp only[newExc,newTuple]
 refine wpAny_bind (wpAny_newObj_type ?_ (by size_fits))
 refine wpAny_bind (m:=firstArgMember _ _) (wpAny_of_eq (a:=Value.none) (by first | rfl | (simp only[firstArgMember];rfl)) ?_)
 refine wpAny_newObj_type ?_ (by size_fits)
 simp only[raiseNew]
 refine wpAny_bind (wpAny_handled ?_)
 rw[show A.in1.handled=none from un]
 refine wpAny_bind (wpAny_pure (wpAny_throw ?_))
 refine wpAny_bind (wpAny_isInstance (T:="StopIteration") (b:=true) ⟨_,Heap.get?_push_size _ rfl,rfl⟩ isSubtype_stop ?_)
 exact wpAny_pure (q _ fun b o e=>Heap.get?_push_of_some _ (Heap.get?_push_of_some _ e))
theorem ym {I z:Addr}{o:Obj}{es:Array (Int×Value)}{ep:Nat}{t:SetTable}{vals:List Value}{fst:Value}{Q:Option Value->Shared->Prop}(un:A.handled=none)(gI:s.heap.get? I=some (cz fst es.size es.size ep z))(gO:s.heap.get? z=some o)(gD:o.data=.set es ep t)(gF:t.fits es.size=true)(gT:Rg.TabOk (w.params.followText "set-order") t)
  (gW:ub w s.heap z es ep t vals fst es.size) (q:∀h',Heap.ExtBut I s.heap h'->Q none { s with heap:=h' }):wpAny (model prog w) A (pyNext (.ref I)) Q E s:=by
 have tI:s.TypeIs (.ref I) "set_iterator":=⟨_,gI,rfl⟩
 unfold pyNext
 refine wpAny_bind (wpAny_attempt (wpAny_callSpecial?_slot (name:=Str.ofString "__next__") tI slot_sit_next (wpAny_call_entry slot_sit_next tI dz ?_ (eL _))))
 unfold Builtin.«set_iterator.__next__» slotArgs
 simp only[List.isEmpty_nil,Bool.not_true,Bool.false_eq_true,↓reduceIte,bind_assoc,List.length_nil,bne_self_eq_false]
 refine wpAny_bind (wpAny_pure ?_)
 refine wpAny_bind (wpAny_fieldsOf gI rfl ?_)
 dsimp only
 refine wpAny_bind (wpAny_setEntries_of gO gD gF ?_)
 simp only[bne_self_eq_false,Bool.false_eq_true,↓reduceIte]
 have gW0:=gW
 rcases gW.way with⟨hB,hf,hvals⟩ | ⟨hB,hdr,T,ps,hf,⟨c,hTo⟩,hpl,hpb,hvals⟩ | ⟨hB,hdr,slot,hf,hbl,hvals⟩
 ·subst hf
  refine wpAny_bind (tu (slot:=0) gO gD gF gT gW0 ?_)
  refine wpAny_bind (wpAny_setField gI rfl (by simp) ?_)
  exact j7 un fun h' k=>q h' fun b o nb e=>k b o (by rw[(Heap.SameBut.update s.heap I _).2 b nb];exact e)
 ·subst hf
  refine wpAny_bind (wpAny_seqItems hTo rfl ?_)
  have e1:((ps.map fun (k:Nat)=>rawInt k).toArray)[((es.size:Nat):Int).toNat]?=none:=by
   rw[Int.toNat_natCast]
   exact Array.getElem?_eq_none (by simp[hpl])
  dsimp only
  rw[e1]
  dsimp only
  have g1:(s.heap.update I (Obj.mapFields (·.setIfInBounds 0 (rawInt 0)))).get? I=some (cz (.int (0:Nat) 0) es.size es.size ep z):=by rw[dR gI];rfl
  refine wpAny_bind (wpAny_setField gI rfl (by simp) ?_)
  refine wpAny_bind (wpAny_setField g1 rfl (by simp) ?_)
  exact j7 un fun h' k=>q h' fun b o nb e=>k b o (by rw[(Heap.SameBut.update _ I _).2 b nb,(Heap.SameBut.update s.heap I _).2 b nb];exact e)
 ·subst hf
  refine wpAny_bind (tu (slot:=slot) gO gD gF gT gW0 ?_)
  refine wpAny_bind (wpAny_setField gI rfl (by simp) ?_)
  exact j7 un fun h' k=>q h' fun b o nb e=>k b o (by rw[(Heap.SameBut.update s.heap I _).2 b nb];exact e)
end
end L2
namespace L2
open PySem PySem.Spec PyProof.Rows Rg
section
variable {prog:Program}{w:World}{A:Around}{E:Value->Shared->Prop}{s:Shared}
theorem zc {z:Addr}{o:Obj}{es:Array (Int×Value)}{ep:Nat}{t:SetTable}{Q:Value->Shared->Prop}(gX:o.ExactSet)(gO:s.heap.get? z=some o)(gD:o.data=.set es ep t)(gF:t.fits es.size=true)(gT:Rg.TabOk (w.params.followText "set-order") t)(gB:es.size<scanBound)
  (q:∀h' d fst vals I,vals.Perm (es.toList.map (·.2))->(∀b u,s.heap.get? b=some u->h'.get? b=some u)->s.heap.objs.size≤I->h'.get? I=some (cz fst 0 es.size ep z)->ub w h' z es ep t vals fst 0->Q (.ref I) { s with heap:=h',drawn:=d }) :
  wpAny (model prog w) A (pyIter (.ref z)) Q E s:=by
 have tZ:s.TypeIs (.ref z) "set":=⟨o,gO,gX.1⟩
 refine wpAny_pyIter_slot tZ F.slot_set_iter (wpAny_call_entry F.slot_set_iter tZ gN ?_ (F.args_set_iter_1 _))
 unfold Builtin.«frozenset.__iter__» Builtin.Frozenset.slot0 slotArgs
 simp only[List.isEmpty_nil,Bool.not_true,Bool.false_eq_true,↓reduceIte,bind_assoc,List.length_nil,bne_self_eq_false]
 unfold Builtin.Frozenset.addrOf Builtin.Frozenset.sizeOf
 refine wpAny_bind (wpAny_pure ?_)
 try dsimp only
 refine wpAny_bind (wpAny_pure ?_)
 refine wpAny_bind (wpAny_bind (wpAny_setEntries_of gO gD gF (wpAny_pure ?_)))
 unfold setDrawn
 refine wpAny_bind (wpAny_bind (wpAny_setState_of gO gD gF ?_))
 dsimp only
 refine wpAny_bind (m:=setsByText) (wpAny_bind (wpAny_askSetting (wpAny_pure (wpAny_pure ?_))))
 show wpAny _ _ (if (!w.params.followText "set-order"&&(!t.plain&&decide (es.size>1)))=true then _ else _) _ _ s
 have big:(1000000:Nat)<sizeLine:=by rw[sizeLine_eq];decide
 have sb:scanBound=4096:=rfl
 have hpl:t.place.size=es.size:=by
  have z:=gF
  unfold SetTable.fits at z
  simp at z
  exact z.1
 cases hB:w.params.followText "set-order" with
 | true =>
  rw[if_neg (by simp)]
  refine wpAny_bind (wpAny_pure ?_)
  refine wpAny_bind (wpAny_setEpoch_of gO gD gF ?_)
  refine wpAny_bind (wpAny_newObj_type ?_ (by size_fits))
  refine wpAny_pure ⟨_,rfl,"set_iterator",_,⟨_,Heap.get?_push_size _ rfl,rfl⟩,slot_sit_next.lookup,?_⟩
  exact q _ s.drawn (.int 0 0) _ _ ((jt (w.params.setOrder z ep) es).map _) (fun b u e=>Heap.get?_push_of_some _ e) (Nat.le_refl _) (Heap.get?_push_size _ rfl) ⟨.inl ⟨hB,rfl,rfl⟩⟩
 | false =>
  cases hdr:(!t.plain&&decide (es.size>1)) with
  | false =>
   rw[if_neg (by simp)]
   refine wpAny_bind (wpAny_pure ?_)
   refine wpAny_bind (wpAny_setEpoch_of gO gD gF ?_)
   refine wpAny_bind (wpAny_newObj_type ?_ (by size_fits))
   refine wpAny_pure ⟨_,rfl,"set_iterator",_,⟨_,Heap.get?_push_size _ rfl,rfl⟩,slot_sit_next.lookup,?_⟩
   exact q _ s.drawn (.int 0 0) _ _ (List.Perm.refl _) (fun b u e=>Heap.get?_push_of_some _ e) (Nat.le_refl _) (Heap.get?_push_size _ rfl) ⟨.inr (.inr ⟨hB,hdr,0,rfl,mI gT.ris,rfl⟩)⟩
  | true =>
   rw[if_pos (by simp)]
   refine wpAny_bind (sG es.size (List.range es.size) (by simp) fun ys d hp=>?_)
   have yl:ys.length=es.size:=by have:=hp.length_eq;simpa using this
   refine wpAny_bind (wpAny_newObj_type ?_ (by show _≤sizeLine;simp[yl];omega))
   refine wpAny_bind (wpAny_setEpoch_of (Heap.get?_push_of_some _ gO) gD gF ?_)
   refine wpAny_bind (wpAny_newObj_type ?_ (by size_fits))
   refine wpAny_pure ⟨_,rfl,"set_iterator",_,⟨_,Heap.get?_push_size _ rfl,rfl⟩,slot_sit_next.lookup,?_⟩
   refine q _ d (.ref s.heap.objs.size) (ys.map fun k=>(es.getD k default).2) _ ?_ (fun b u e=>Heap.get?_push_of_some _ (Heap.get?_push_of_some _ e)) (by show _≤(s.heap.push _).objs.size;rw[Heap.size_push];exact Nat.le_succ _) (Heap.get?_push_size _ rfl)
    ⟨.inr (.inl ⟨hB,hdr,s.heap.objs.size,ys,rfl,⟨_,Heap.get?_push_of_some _ (Heap.get?_push_size _ rfl)⟩,yl,fun k hk=>List.mem_range.mp (hp.mem_iff.mp hk),rfl⟩)⟩
   refine (hp.map _).trans ?_
   have e:(List.range es.size).map (fun k=>(es.getD k default).2)=es.toList.map (·.2):=by
    refine List.ext_getElem (by simp) fun i h1 h2=>?_
    simp at h1
    simp[Array.getD,h1]
   rw[e]
theorem tU (un:A.handled=none){I z:Addr}{o:Obj}{es:Array (Int×Value)}{ep:Nat}{t:SetTable}{vals:List Value}(gD:o.data=.set es ep t)(gF:t.fits es.size=true)(gT:Rg.TabOk (w.params.followText "set-order") t)(hl:vals.length=es.size)(nz:z≠I)(T:Addr)(nT:T≠I) :
  Walks prog w A I [I,z,T] [I] es.size (fun i v=>vals[i]?=some v) (fun i h=>h.get? z=some o/\∃fst,h.get? I=some (cz fst i es.size ep z)/\ub w h z es ep t vals fst i/\∀a,fst=.ref a->a=T) where
 sub:=fun b hb=>by simp at hb;simp[hb]
 frame:=fun i h h' st hk=>by
  obtain⟨gO,fst,gI,gW,hT⟩:=st
  refine⟨hk z (by simp) _ gO,fst,hk I (by simp) _ gI,⟨?_⟩,hT⟩
  rcases gW.way with x | ⟨hB,hdr,a,ps,hf,⟨c,e⟩,bI⟩ | x
  ·exact .inl x
  ·exact .inr (.inl ⟨hB,hdr,a,ps,hf,⟨c,hk a (by rw[hT a hf];simp) _ e⟩,bI⟩)
  ·exact .inr (.inr x)
 item:=fun i s Q E hi st q=>by
  obtain⟨gO,fst,gI,gW,hT⟩:=st
  have hv:vals[i]?=some vals[i]:=List.getElem?_eq_getElem (by omega)
  refine xN gI gO gD gF gT gW hv fun h' fst' g' sb ord same=>?_
  refine q _ h' s.toks hv ⟨by rw[sb.2 z nz];exact gO,fst',g',ord,fun a ha=>hT a (same a ha)⟩ fun b u nb e=>by rw[sb.2 b (by simpa using nb)];exact e
 done:=fun s Q E st q=>by
  obtain⟨gO,fst,gI,gW,hT⟩:=st
  exact ym un gI gO gD gF gT gW fun h' x=>q h' s.toks fun b u nb e=>x b u (by simpa using nb) e
 self:=fun i s Q E st q=>by
  obtain⟨gO,fst,gI,gW,hT⟩:=st
  have tI:s.TypeIs (.ref I) "set_iterator":=⟨_,gI,rfl⟩
  refine wpAny_pyIter_slot tI eM (wpAny_call_entry eM tI ic ?_ (i6 _))
  show wpAny _ _ (ret (.ref I)) _ _ s
  exact wpAny_pure ⟨_,rfl,"set_iterator",_,tI,slot_sit_next.lookup,q⟩
end
end L2
namespace L2
open PySem PySem.Spec PyProof.Rows Rg
theorem jU:typeLookup (.type "set") "__len__"=pure (some (.builtin "set.__len__")):=by rw[typeLookup_type,builtinLookup_eq_fast];kernel_rfl
section
variable {prog:Program}{w:World}{A:Around}{E:Value->Shared->Prop}{s:Shared}
theorem jP (un:A.handled=none){z:Addr}{o:Obj}{es:Array (Int×Value)}{ep:Nat}{t:SetTable}{Q:List Value->Shared->Prop}(gX:o.ExactSet)(gO:s.heap.get? z=some o)(gD:o.data=.set es ep t)(gF:t.fits es.size=true)(gT:Rg.TabOk (w.params.followText "set-order") t)(gB:es.size<scanBound)
  (q:∀h' d tk vals,vals.Perm (es.toList.map (·.2))->s.heap.objs.size<h'.objs.size->(∀b u,s.heap.get? b=some u->h'.get? b=some u)->Q vals { s with heap:=h',drawn:=d,toks:=tk }):wpAny (model prog w) A (collect (.ref z)) Q E s:=by
 unfold collect
 refine wpAny_bind (wpAny_runValue (codeAny_builtin F.entry_proto_collect ?_))
 rw[Around.under_plainId F.plain_proto_collect _]
 refine wpAny_bind (m:=newList []) (wpAny_newObj_type ?_)
 refine wpAny_pure ⟨plainId_quiet F.plain_list_iadd _,codeAny_builtin F.entry_list_iadd ?_⟩
 rw[Around.under_plainId F.plain_list_iadd _]
 have zl:z<s.heap.objs.size:=Heap.lt_size gO
 obtain⟨H1,e1⟩:∃H1,s.heap.push { cls:=.type "list",data:=.seq ([]:List Value).toArray }=H1:=⟨_,rfl⟩
 rw[e1]
 have k1:∀b u,s.heap.get? b=some u->H1.get? b=some u:=fun b u e=>by rw[<-e1];exact Heap.get?_push_of_some _ e
 have gL1:H1.get? s.heap.objs.size=some (seqObj "list" #[] 0):=by rw[<-e1];exact Heap.get?_push_size _ rfl
 have tZ:Shared.TypeIs { s with heap:=H1 } (.ref z) "set":=⟨o,k1 _ _ gO,gX.1⟩
 show wpAny _ A.in1 (Builtin.List.listExtendWith (.ref s.heap.objs.size) (.ref z) (.ref s.heap.objs.size)) _ _ _
 unfold Builtin.List.listExtendWith
 refine wpAny_bind (wpAny_typeOf tZ ?_)
 have x1:Builtin.List.listSameRef (.ref s.heap.objs.size) (.ref z)=false:=by
  have:s.heap.objs.size≠z:=Nat.ne_of_gt zl
  simp[Builtin.List.listSameRef,this]
 rw[if_neg (by rw[x1];decide)]
 refine wpAny_bind (zc gX (k1 _ _ gO) gD gF gT gB fun h2 d fst vals I hp k2 hI gI gW=>?_)
 refine wpAny_bind (wpAny_holding ?_)
 unfold Builtin.List.listLengthHint
 have tZ2:Shared.TypeIs { s with heap:=h2,drawn:=d } (.ref z) "set":=⟨o,k2 _ _ (k1 _ _ gO),gX.1⟩
 refine wpAny_bind (wpAny_specialOf tZ2 jU ?_)
 wp_delta
 refine wpAny_bind (wpAny_isInstance (T:="set") (b:=true) tZ2 (by rw[isSubtype_type];kernel_rfl) ?_)
 refine wpAny_bind (m:=typeOf (.ref z)) (wpAny_typeOf tZ2 ?_)
 refine wpAny_pure ?_
 rw[if_pos (by decide)]
 have gL2:=k2 _ _ gL1
 have big:(1000000:Nat)<sizeLine:=by rw[sizeLine_eq];decide
 have sb:scanBound=4096:=rfl
 have hs1:H1.objs.size=s.heap.objs.size+1:=by rw[<-e1];exact Heap.size_push _ _
 have nLI:s.heap.objs.size≠I:=Nat.ne_of_lt (Nat.lt_of_lt_of_le (by show _<H1.objs.size;rw[hs1];exact Nat.lt_succ_self _) hI)
 have nLz:s.heap.objs.size≠z:=Nat.ne_of_gt zl
 have nzI:z≠I:=fun e=>nLI (by
  have h1:z<H1.objs.size:=Heap.lt_size (k1 _ _ gO)
  rw[e]at h1
  exact absurd h1 (Nat.not_lt.mpr hI))
 obtain⟨T,hT,nTI,nTL⟩:∃T,(∀a,fst=.ref a->a=T)/\T≠I/\T≠s.heap.objs.size:=by
  rcases gW.way with⟨_,hf,_⟩ | ⟨_,_,a,ps,hf,⟨c,e⟩,_⟩ | ⟨_,_,sl,hf,_⟩
  ·exact⟨z,(fun a ha=>by rw[hf]at ha;cases ha),nzI,nLz.symm⟩
  ·refine⟨a,(fun b hb=>by rw[hf]at hb;injection hb with h;exact h.symm),fun x=>?_,fun x=>?_⟩
   ·rw[x,gI]at e;exact absurd (congrArg Obj.cls (Option.some.inj e)) (show ¬ Value.type "set_iterator"=Value.type "tuple" by decide)
   ·rw[x,gL2]at e;exact absurd (congrArg Obj.cls (Option.some.inj e)) (show ¬ Value.type "list"=Value.type "tuple" by decide)
  ·exact⟨z,(fun a ha=>by rw[hf]at ha;cases ha),nzI,nLz.symm⟩
 refine wpAny_bind (wpAny_rule ?_)
 unfold Builtin.List.listTouch
 refine wpAny_bind (wpAny_bind (listUpdate_at gL2 rfl ?_))
 have gL3:=get?_update_seq gL2 (·.push .none)
 refine listUpdate_at gL3 rfl ?_
 have gL4:=get?_update_seq gL3 (·.pop)
 have kk:∀b,b≠s.heap.objs.size->((h2.update s.heap.objs.size (Obj.mapSeq (·.push .none))).update s.heap.objs.size (Obj.mapSeq (·.pop))).get? b=h2.get? b:=fun b nb=>by
  rw[(Heap.SameBut.update _ _ _).2 b nb,(Heap.SameBut.update _ _ _).2 b nb]
 obtain⟨H4,e4⟩:∃H4,(h2.update s.heap.objs.size (Obj.mapSeq (·.push .none))).update s.heap.objs.size (Obj.mapSeq (·.pop))=H4:=⟨_,rfl⟩
 rw[e4]at gL4 kk
 rw[e4]
 have vl:vals.length=es.size:=by have:=hp.length_eq;simpa using this
 have un2:A.in1.handled=none:=by simp[un]
 have st:H4.get? z=some o/\∃fst,H4.get? I=some (cz fst 0 es.size ep z)/\ub w H4 z es ep t vals fst 0/\∀a,fst=.ref a->a=T:=by
  refine⟨by rw[kk z nLz.symm];exact k2 _ _ (k1 _ _ gO),fst,by rw[kk I nLI.symm];exact gI,⟨?_⟩,hT⟩
  rcases gW.way with x | ⟨hB,hdr,a,ps,hf,⟨c,e⟩,bI⟩ | x
  ·exact .inl x
  ·exact .inr (.inl ⟨hB,hdr,a,ps,hf,⟨c,by rw[hT a hf]at e ⊢;rw[kk T nTL];exact e⟩,bI⟩)
  ·exact .inr (.inr x)
 have nf:s.heap.objs.size∉[I,z,T]:=by
  simp only[List.mem_cons,List.not_mem_nil,or_false,not_or]
  exact⟨nLI,nLz,nTL.symm⟩
 refine wpAny_pure ⟨plainId_quiet F.plain_extend_loop _,codeAny_extend_loopS (tU (vals:=vals) un2 gD gF gT vl nzI T nTI).toS (by omega) _ nf _ es.size 0 _ #[] _ rfl (Nat.zero_le _) st gL4 (ItemsOf.nil _) fun s' acc c' mv gA it=>?_⟩
 refine wpAny_bind (wpAny_load gA (wpAny_pure ?_))
 have ea:acc.toList=vals:=by
  refine List.ext_getElem? fun j=>?_
  rcases Nat.lt_or_ge j es.size with lt | ge
  ·have lt':j<acc.size:=by rw[it.1];exact lt
   have e:acc[j]?=some acc[j]:=Array.getElem?_eq_getElem lt'
   rw[it.2 j _ e,<-e]
   simp
  ·rw[List.getElem?_eq_none (by simp[it.1];exact ge),List.getElem?_eq_none (by omega)]
 obtain⟨h5,g5,d5,tk5,os5⟩:=s'
 obtain rfl:g5=s.gens:=mv.gens
 obtain rfl:d5=d:=mv.drawn
 obtain rfl:os5=s.os:=mv.os
 show Q acc.toList _
 rw[ea]
 refine q h5 _ tk5 vals hp (Heap.lt_size gA) fun b u e=>mv.heap b u ?_ ?_
 ·have lb:b<s.heap.objs.size:=Heap.lt_size e
  simp only[List.mem_cons,List.not_mem_nil,or_false,not_or]
  exact⟨Nat.ne_of_lt lb,Nat.ne_of_lt (Nat.lt_of_lt_of_le (by show _<H1.objs.size;rw[hs1];exact Nat.lt_succ_of_lt lb) hI)⟩
 ·show H4.get? b=some u
  rw[kk b (Nat.ne_of_lt (Heap.lt_size e))]
  exact k2 _ _ (k1 _ _ e)
end
end L2
namespace L2
open PySem PySem.Spec PyProof.Rows Rg
section
variable {prog:Program}{w:World}{A:Around}{E:Value->Shared->Prop}{s:Shared}
theorem xl {vals:List Value}{ns:List Int}{Q:Value->Shared->Prop}(hI:IntsAre vals ns)(vl:vals.length<64)
  (q:∀(out:Array Value) (ns':List Int),IntsAre out.toList ns'->ns'.Perm ns->ns'.Pairwise (·≤·)->Q (.ref s.heap.objs.size) { s with heap:=sortedHeap (s.heap.push (seqObj "list" vals.toArray 0)) s.heap.objs.size vals out }) :
  wpAny (model prog w) A (do
   let l<-newList vals
   let _<-holding [l] (call (.builtin "list.sort") [l] [])
   ret l) (fun fin s'=>∃v,fin=Fin.done (Flow.ret v)/\Q v s') E s:=by
 refine wpAny_bind (wpAny_newList ?_)
 have g1:(s.heap.push (seqObj "list" vals.toArray 0)).get? s.heap.objs.size=some (seqObj "list" vals.toArray 0):=Heap.get?_push_size _ rfl
 show wpAny _ _ _ _ _ { s with heap:=s.heap.push (seqObj "list" vals.toArray 0) }
 refine wpAny_bind (wpAny_holding (wpAny_call_entry slot_list_sort ⟨_,g1,rfl⟩ entry_list_sort (list_sort_tree g1 hI vl fun out ns' a1 a2 a3=>⟨_,rfl,?_⟩) (args_list_sort _)))
 exact wpAny_pure ⟨_,rfl,q out ns' a1 a2 a3⟩
end
theorem nR:∀{l:List Value},(∀v∈l,∃tk,v=.int (zk v) tk)->IntsAre l (l.map zk)
 | [],_=>.nil
 | v::r,h=>by
  obtain⟨tk,e⟩:=h v List.mem_cons_self
  have ih:=nR fun x hx=>h x (List.mem_cons_of_mem _ hx)
  rw[List.map_cons,e]
  exact .cons _ tk ih
section
variable {prog:Program}{w:World}{A:Around}{E:Value->Shared->Prop}{s:Shared}
theorem sx (un:A.handled=none){z:Addr}{o:Obj}{σ:List Int}{Q:Value->Shared->Prop}(gO:s.heap.get? z=some o)(gZ:iw prog w o σ)(h64:σ.length<64)
  (q:∀(h1:Heap) (d:Drawn) (tk:Nat) (vals:List Value) (out:Array Value) (ns:List Int),s.heap.objs.size<h1.objs.size->(∀b u,s.heap.get? b=some u->h1.get? b=some u)->IntsAre out.toList ns->ns.Perm σ->ns.Pairwise (·≤·)->Q (.ref h1.objs.size) { s with heap:=sortedHeap (h1.push (seqObj "list" (vals.toArray) 0)) h1.objs.size vals out,drawn:=d,toks:=tk }) :
  wpAny (model prog w) A (call (.builtin "sorted") [.ref z]) Q E s:=by
 obtain⟨gX,es,ep,t,gD,gE,gP,gF,gT⟩:=gZ
 have hz:=wB gP
 have gB:es.size<scanBound:=by rw[hz];exact Nat.lt_trans h64 (by decide)
 have un1:A.in1.handled=none:=un
 refine Calls.call_function_entry kind_sorted plain_sorted entry_sorted (args_sorted1 _) ?_
 unfold Builtin.«sorted»
 refine wpAny_bind (m:=checkCount "sorted" 1 1 _) (wpAny_pure ?_)
 refine wpAny_bind (m:=collect (.ref z)) (jP un1 gX gO gD gF gT gB fun h1 d tk vals hp lt1 k1=>?_)
 have hI:IntsAre vals (vals.map zk):=nR fun v hv=>by
  obtain⟨e,he,rfl⟩:=List.mem_map.mp (hp.mem_iff.mp hv)
  exact kI gE he
 have hpz:(vals.map zk).Perm σ:=by
  have:=hp.map zk
  rw[List.map_map]at this
  exact this.trans gP
 have vl:vals.length<64:=by
  have h1:=hp.length_eq
  rw[List.length_map]at h1
  have h2:es.toList.length=es.size:=Array.length_toList
  rw[h1,h2,hz]
  exact h64
 exact xl (s:={ s with heap:=h1,drawn:=d,toks:=tk }) hI vl fun out ns' a1 a2 a3=>q h1 d tk vals out ns' lt1 k1 a1 (a2.trans hpz) a3
end
end L2
namespace L2
open PySem PySem.Spec PyProof.Rows Rg
section
variable {X:Cx}{K:PySem.W.Frag}{P:Program}{w:World}
def wL (P:Program)(w:World)(K:PySem.W.Frag):List V->Hp->VK->Prop:=fun xs H Q=>match xs with
 | [.ref a]=>∃ns:List Int,SqL K H a (ns.map V.int)/\ns.length+1<4096/\∀p o,H p=none->iw P w o (fX ns)->Q (.ref p) (al H p (.frz o ir))
 | _=>False
theorem yH (hc:X.calm=true)(hK:X.K=K:=by rfl)(hP:X.prog=P:=by rfl)(hw:X.w=w:=by rfl):Irr (ba X (.type "set") (wL P w K)):=by
 refine .mk ?_
 subst hK
 subst hP
 subst hw
 intro pins s σ H xs us Q I r h
 unfold wL at h
 split at h
 ·obtain⟨ns,hS,hl,q⟩:=h
  obtain⟨u,rfl,rx⟩:=bF r
  cases rx
  obtain⟨its,rv,pl,hz⟩:=I.list hS
  have hlen:its.length=ns.length:=by have:=rv.length;rw[List.length_map]at this;exact this.symm
  have hsz:its.toArray.size=ns.length:=by rw[List.size_toArray];exact hlen
  refine xa (items:=its.toArray) (ns:=ns) (I.ok.hd hc) pl.isList (by simpa using jz rv) (by rw[hsz];exact hl) fun h' tk o g z k=>?_
  rw[i9 ns _ hsz]at z
  exact⟨.ref _,_,I.laid (t':=tk) (fun b o e=>k b o (Heap.lt_size e) e) (Nat.le_refl _) (si g),rfl,q _ o (I.hok.fresh (Nat.le_refl _)) z⟩
 ·exact h.elim
def qm (P:Program)(w:World):List V->Hp->VK->Prop:=fun xs H Q=>match xs with
 | [.ref a]=>∃o τ,Kn H a o/\iw P w o τ/\τ.length<64/\∀p (ns:List Int),H p=none->ns.Perm τ->ns.Pairwise (·≤·)->Q (.ref p) (al H p (.lst (ns.map V.int)))
 | _=>False
theorem lO:∀{vs:List Value} {ns:List Int},IntsAre vs ns->Vals (ns.map V.int) vs
 | _,_,.nil=>.nil
 | _,_,.cons n t h=>.cons ⟨t,rfl⟩ (lO h)
theorem Inv.drew {pins:List (Addr×Obj)}{σ:St}{H:Hp}{s:Shared}(I:Inv X pins σ H s)(d:Drawn):Inv X pins σ H { s with drawn:=d } :=
 ⟨I.ok,I.os,I.bare,I.base,I.loc,I.cell,I.free,I.freeC,I.pin,I.hok,I.len⟩
theorem ul (hc:X.calm=true)(hP:X.prog=P:=by rfl)(hw:X.w=w:=by rfl):Irr (ba X (.builtin "sorted") (qm P w)):=by
 refine .mk ?_
 subst hP
 subst hw
 intro pins s σ H xs us Q I r h
 unfold qm at h
 split at h
 ·obtain⟨o,τ,hk,hz,hl,q⟩:=h
  obtain⟨u,rfl,rx⟩:=bF r
  cases rx
  refine sx (I.ok.hd hc) (hk.get I.hok) hz hl fun h1 d tk vals out ns lt k1 hI hp hs=>?_
  have g1:(h1.push (seqObj "list" vals.toArray 0)).get? h1.objs.size=some (seqObj "list" vals.toArray 0):=Heap.get?_push_size _ rfl
  obtain⟨e,g2⟩:=sortedHeap_at (out:=out) g1
  have kept:∀b u,s.heap.get? b=some u->(sortedHeap (h1.push (seqObj "list" vals.toArray 0)) h1.objs.size vals out).get? b=some u:=fun b u hb=>by
   have lb:b<h1.objs.size:=Heap.lt_size (k1 b u hb)
   rw[sortedHeap_old (Nat.ne_of_lt lb) (by rw[size_push'];exact Nat.lt_succ_of_lt lb)]
   exact Heap.get?_push_of_some _ (k1 b u hb)
  have big:(1000000:Nat)<sizeLine:=by rw[sizeLine_eq];decide
  have nl:ns.length=τ.length:=hp.length_eq
  have new:ObjOk X.prog X.w (al H h1.objs.size (.lst (ns.map V.int))) (sortedHeap (h1.push (seqObj "list" vals.toArray 0)) h1.objs.size vals out) h1.objs.size (.lst (ns.map V.int)):=⟨by rw[List.length_map];omega,out.toList,e,lO hI,g2⟩
  exact⟨.ref _,_,(I.drew d).laid (t':=tk) kept (Nat.le_of_lt lt) new,rfl,q _ ns (I.hok.fresh (Nat.le_of_lt lt)) hp hs⟩
 ·exact h.elim
end
end L2
namespace L2
open PySem PySem.Spec PyProof.Rows Rg
theorem rh (σ:List Int)(v x:Int):x∈step_dedup σ v↔x∈σ\/x=v:=by
 unfold step_dedup
 by_cases h:σ.any (· == v)=true
 ·rw[if_pos h]
  obtain⟨y,hy,e⟩:=List.any_eq_true.mp h
  have e':y=v:=beq_iff_eq.mp e
  subst e'
  exact⟨.inl,fun z=>z.elim id fun e=>by rw[e];exact hy⟩
 ·rw[if_neg h,List.mem_append,List.mem_singleton]
theorem jK (ns:List Int)(x:Int):x∈fX ns↔x∈ns:=by
 have key:∀(l acc:List Int),x∈l.foldl step_dedup acc↔x∈acc\/x∈l:=by
  intro l
  induction l with
  | nil=>intro acc;simp
  | cons y r ih =>
   intro acc
   rw[List.foldl_cons,ih,rh,List.mem_cons,or_assoc]
 have:=key ns []
 unfold fX
 simpa using this
structure Srt (ns rs:List Int):Prop where
 pm:ns.Perm (fX rs)
 st:ns.Pairwise (·≤·)
theorem Srt.mem {ns rs:List Int}(h:Srt ns rs)(x:Int):x∈ns↔x∈rs:=(h.pm.mem_iff).trans (jK rs x)
theorem Srt.nil {ns rs:List Int}(h:Srt ns rs):ns=[]↔rs=[]:=by
 constructor
 ·intro e
  refine List.eq_nil_iff_forall_not_mem.mpr fun x hx=>?_
  have:=(h.mem x).mpr hx
  rw[e]at this
  cases this
 ·intro e
  refine List.eq_nil_iff_forall_not_mem.mpr fun x hx=>?_
  have:=(h.mem x).mp hx
  rw[e]at this
  cases this
theorem Srt.least {ns rs r:List Int}{m:Int}(h:Srt ns rs)(e:ns=m::r):m∈rs/\∀x∈rs,m≤x:=by
 refine⟨(h.mem m).mp (by rw[e];exact List.mem_cons_self),fun x hx=>?_⟩
 have hx':=(h.mem x).mpr hx
 have st:=h.st
 rw[e]at hx' st
 rcases List.mem_cons.mp hx' with z | z
 ·rw[z];exact Int.le_refl _
 ·exact (List.pairwise_cons.mp st).1 x z
theorem Srt.none {ns rs:List Int}(h:Srt ns rs)(k:Int):ns.filter (fun x=>decide (k<x))=[]↔∀x∈rs,x≤k:=by
 rw[List.filter_eq_nil_iff]
 constructor
 ·intro q x hx
  have:=q x ((h.mem x).mpr hx)
  rw[decide_eq_true_eq]at this
  omega
 ·intro q x hx
  have:=q x ((h.mem x).mp hx)
  rw[decide_eq_true_eq]
  omega
theorem Srt.above {ns rs r:List Int}{m k:Int}(h:Srt ns rs)(e:ns.filter (fun x=>decide (k<x))=m::r):m∈rs/\k<m/\∀x∈rs,k<x->m≤x:=by
 have hm:m∈ns.filter (fun x=>decide (k<x)):=by rw[e];exact List.mem_cons_self
 obtain⟨h1,h2⟩:=List.mem_filter.mp hm
 refine⟨(h.mem m).mp h1,of_decide_eq_true h2,fun x hx hk=>?_⟩
 have hx':x∈ns.filter (fun x=>decide (k<x)):=List.mem_filter.mpr ⟨(h.mem x).mpr hx,decide_eq_true hk⟩
 have st:=h.st.sublist (List.filter_sublist (p:=fun x=>decide (k<x)))
 rw[e]at hx' st
 rcases List.mem_cons.mp hx' with z | z
 ·rw[z];exact Int.le_refl _
 ·exact (List.pairwise_cons.mp st).1 x z
end L2
namespace L2
open PySem PySem.Spec PyProof.Rows
section
variable {prog:Program}{w:World}{A:Around}{E:Value->Shared->Prop}{s:Shared}
end
section
variable {prog:Program}{w:World}{A:Around}{R:Result->Shared->Prop}{I:Addr}{fp wr:List Addr}{n:Nat}{V1:Nat->Value->Prop}{St:Nat->Heap->Prop}
end
section
variable {prog:Program}{w:World}{A:Around}{E:Value->Shared->Prop}{s:Shared}
end
section
variable {X:Cx}{K:PySem.W.Frag}{p pos kpos:Pos}{e ed:Expr}{te td:TE}
end
end L2
namespace L2
open PySem PySem.Spec PyProof.Rows PySem.W
section
variable {X:Cx}{pins:List (Addr×Obj)}{σ:List (Option V)}{H:Hp}{s:Shared}
end
section
variable {X:Cx}{k:Nat}{x G n:Str}{ps:List Str}{sp:Sp}{e:Expr}{es:List Expr}{t:TA}{p gp cpos epos hpos pos:Pos}{CG:Addr}{newId:String}{i:Nat}{b₀:Stmt}{suite:List Stmt}{ts:Addr->Addr->TS}
end
end L2
namespace L2
open PySem PySem.Spec PyProof.Rows PySem.W
abbrev TX:=(St->Hp->Prop)->(St->XK)->St->Hp->Prop
section
variable {X:Cx}{k:Nat}{x G n:Str}{ps:List Str}{sp:Sp}{e c:Expr}{es:List Expr}{t:TA}{p gp cpos epos hpos pos:Pos}{CG:Addr}{newId:String}{i:Nat}{b₀:Stmt}{suite b1 b2 body:List Stmt}{ts:Addr->Addr->TS}{tx t1 t2:TX}{tc:TT}
end
section
variable {X:Cx}{k:Nat}{x G n:Str}{ps:List Str}{sp:Sp}{e c:Expr}{es:List Expr}{t:TA}{p gp cpos epos hpos pos:Pos}{CG:Addr}{i:Nat}{b₀:Stmt}{suite b1 b2 body:List Stmt}{ts:Addr->Addr->TS}{tx t1 t2:TX}{tc:TT}
end
end L2
namespace L2
open PySem PySem.Spec PyProof.Rows
section
variable {X:Cx}{K:PySem.W.Frag}{e:Expr}{te:TE}{pos:Pos}
def mQ (K:PySem.W.Frag)(te:TE):St->Hp->Prop:=fun σ H=>te σ H fun v H1=>H1=H/\∃a d,v=.ref a/\DatV K H v d/\d.showable=true/\d.hasDict=false/\d.depth≤60/\d.shown.length≤1100000
theorem iH (hg:X.A.guards=some [])(hu:X.A.units+64<cLine)(he:JE X e te)(hK:X.K=K:=by rfl):JF X (.FormattedValue e 114 none pos) (mQ K te):=by
 subst hK
 refine .mk ?_
 intro pins s σ H I h
 refine wpAny_FormattedValue_repr (bh (he.out pins s σ H _ I h) fun u s1 ⟨v,H1,I1,r1,e1,a,d,ev,hd,hs,hn,hp,hl⟩=>?_)
 subst e1 ev
 obtain⟨as,ra⟩:=hd.reads I1 r1
 cases r1
 have hz:=iJ (Nat.le_trans hl (show 1100000≤12*1100000 by omega))
 refine pyReprObj_of_reads ra hs (fun z=>by rw[hn]at z;cases z) hg (by omega) (fun _ _ e=>e) (fun h' t tk hk=>?_) hz
 refine wpAny_formatField_str ⟨_,_,rfl,hl,I1.kept hk⟩ ⟨_,_,rfl,hl,?_⟩ hz
 exact (I1.kept (t':=tk) hk).tok _
end
end L2
namespace L2
open PySem PySem.Spec PyProof.Rows
section
variable {X:Cx}{K:PySem.W.Frag}
end
end L2
namespace L2
open PySem PySem.Spec PyProof.Rows
theorem lG:∀(ts:List Str) (B:Nat),(∀t∈ts,t.length≤B)->piled ts≤ts.length*(B+2)
 | [],B,_=>by simp[piled]
 | t::r,B,h=>by
  have ih:=lG r B fun x hx=>h x (List.mem_cons_of_mem _ hx)
  have h1:=h t List.mem_cons_self
  rw[piled_cons,List.length_cons,Nat.add_mul,Nat.one_mul]
  omega
theorem nL {ts:List Str}{B:Nat}(h:∀t∈ts,t.length≤B):(tupleText ts).length≤ts.length*(B+2)+3:=by
 unfold tupleText
 rw[strLen_append,strLen_append]
 have h2:(Str.join ", " ts).length≤ts.length*(B+2):=by
  cases ts with
  | nil=>exact Nat.le_trans (show (Str.join ", " []).length≤0 by decide) (Nat.zero_le _)
  | cons t r =>
   have h1:=lG (t::r) B h
   have:=join_length_add (t::r) (List.cons_ne_nil _ _)
   omega
 have h3:(("(":Str)).length=1:=by decide
 have h4:((if ts.length == 1 then ",)" else ")":String):Str).length≤2:=by
  by_cases e:(ts.length == 1)=true
  ·rw[if_pos e];decide
  ·rw[if_neg e];decide
 omega
end L2
namespace L2
open PySem PySem.Spec PyProof.Rows
section
variable {cap:List (Option Nat)}{g:TG}{tc:TT}{te:TE}{Q:Addr->Hp->Prop}{σ:St}{H:Hp}
theorem i0 {K:PySem.W.Frag}{a:Addr}{xs:List V}(Pv:Nat->List V->St->Hp->Prop)(hn:xs.length≤1000000)(h0:Pv 0 [] (fV cap σ) H)(hlen:∀i ys σ' H',Pv i ys σ' H'->ys.length≤i)
  (hl:∀i ys σ' H',Pv i ys σ' H'->SqT K H' a xs)
  (hs:∀i x ys σ' H',xs[i]?=some x->Pv i ys σ' H'->g x σ' H' fun σ3 H3=>tc σ3 H3 fun b H4=>if b=true then te σ3 H4 fun y H5=>Pv (i+1) (ys++[y]) σ3 H5 else Pv (i+1) ys σ3 H4)
  (hd:∀ys σ' H',Pv xs.length ys σ' H'->∀D,H' D=none->Q D (al H' D (.lst ys))):mx (Bv K a) cap g tc te Q σ H :=
 kn (J:=Bv K a) (item:=fun i x=>xs[i]?=some x) Pv hn h0 hlen (fun i ys σ' H' hi p=>⟨xs,xs[i],hl i ys σ' H' p,by simp[hi]⟩) (fun i ys σ' H' x H2 _ p y=>⟨y.2 xs (hl i ys σ' H' p),y.1⟩)
  (fun ys σ' H' p=>⟨xs,hl _ ys σ' H' p,Nat.le_refl _⟩) (fun i x ys σ' H' hi e p=>hs i x ys σ' H' e p) hd
end
end L2
namespace L2
open PySem PySem.Spec PyProof.Rows
theorem uX (l:Addr)(items:Array Value)(n:Nat)(b:Addr)(dd:Option Addr)(sl:Array (Option Value))(items2:Array Value)(n2:Nat)(hs0:¬(!items.isEmpty&&Builtin.List.listTooLong (items.size+items2.size))=true)(hs1:items.size≤sizeLine)(hs2:items.size+items2.size≤sizeLine+1) :
  Meets (Builtin.«list.extend» ⟨[.ref l,.ref b],[]⟩) (fun _ R s=>s.heap.get? l=some { cls:=.type "list",dict:=none,data:=.seq items n,slots:=#[] }/\s.heap.get? b=some { cls:=.type "tuple",dict:=dd,data:=.seq items2 n2,slots:=sl }/\R (.ok (.ret Value.none)) { s with heap:=s.heap.update l (Obj.mapSeq fun x=>x++items2),toks:=s.toks }) :=
 .of_wp fun prog w A R s h=>by
  obtain⟨hp,g,d,tk,os⟩:=s;obtain⟨hl,hb,h⟩:=h;have f1:=AutoSeq1.idx_int;have f2:=AutoSeq1.sub_tuple_tuple;have f3:=AutoSeq1.sub_list_list;have f4:=AutoSeq1.sub_tuple_list;have f5:=AutoSeq1.sub_list_tuple;
  have hz':(items++items2).size≤sizeLine+1:=by rw[Array.size_append];exact hs2
  wp_walk using (wpAny_updateSeq hl rfl (hz:=hs1) (_hz':=hz')),AutoSeq1.wpAny_loadPart' hl,AutoSeq1.wpAny_loadPart' hb;exact⟨_,rfl,h⟩
section
variable {X:Cx}{K:PySem.W.Frag}
def ly (K:PySem.W.Frag):V->List V->Hp->VK->Prop:=fun x vs H Q=>match x,vs with
 | .ref l,[.ref b]=>∃xs zs,H l=some (.lst xs)/\(H b=some (.lst zs)\/SqT K H b zs)/\xs.length+zs.length≤sizeLine/\Q .non (al H l (.lst (xs++zs)))
 | _,_=>False
theorem cM (hK:X.K=K:=by rfl):Irr (qe X "list.extend" (ly K)):=by
 refine .mk ?_
 subst hK
 intro pins s σ H x xs v us Q I rx rs h
 unfold ly at h
 split at h
 ·obtain⟨xs,zs,h1,h2,h3,h4⟩:=h
  rcases h2 with h2 | h2
  ·exact pw pins s σ H _ _ v us Q I rx rs ⟨_,_,xs,zs,rfl,rfl,h1,h2,h3,h4⟩
  ·cases rx
   obtain⟨u,rfl,ru⟩:=rs.one
   cases ru
   obtain⟨z,its,n,r,hl,e⟩:=I.lstM h1
   obtain⟨its2,r2,⟨ob,e2,c2,n2,d2⟩,hz2⟩:=I.tuple h2
   obtain⟨oc,od,oda,os⟩:=ob
   simp only at c2 d2
   subst c2 d2
   have hl2:=r2.length
   have hsz:its.toArray.size+its2.toArray.size≤sizeLine:=by rw[List.size_toArray,List.size_toArray];omega
   have hlong:¬ (!its.toArray.isEmpty&&Builtin.List.listTooLong (its.toArray.size+its2.toArray.size))=true:=by
    rw[ij hsz,Bool.and_false]
    exact Bool.false_ne_true
   refine call_meets F.slot_list_extend ⟨_,e,rfl⟩ F.entry_list_extend (F.args_list_extend_2 _ _)
    (uX _ its.toArray n _ od os its2.toArray n2 hlong (by rw[List.size_toArray];omega) (by omega)) ⟨e,e2,?_⟩
   refine⟨.non,_,I.lset (its':=its++its2) h1 e (by simp) (r.append r2) ?_,rfl,h4⟩
   rw[List.length_append]
   omega
 ·exact h.elim
def nA:V->List V->Hp->VK->Prop:=fun x vs H Q=>match x,vs with
 | .ref l,[.int i,y]=>∃xs,H l=some (.lst xs)/\0≤i/\i≤xs.length/\xs.length<100000/\Q .non (al H l (.lst (xs.take i.toNat++y::xs.drop i.toNat)))
 | _,_=>False
theorem rQ:Irr (qe X "list.insert" nA):=by
 refine .mk ?_
 intro pins s σ H x xs v us Q I rx rs h
 unfold nA at h
 split at h
 ·rename_i l i y
  obtain⟨xs,h1,h0,hi,hlt,q⟩:=h
  cases rx
  obtain⟨u1,u2,rfl,r1,r2⟩:=oq rs
  obtain⟨t,rfl⟩:=r1
  obtain⟨z,its,n,r,hl,e⟩:=I.lstM h1
  have hb:(100000:Nat)<sizeLine:=by rw[sizeLine_eq];decide
  refine call_meets F.slot_list_insert ⟨_,e,rfl⟩ F.entry_list_insert (F.args_list_insert_3 _ _ _)
   (AutoListH.list_insert_list_int_val_1 l its.toArray n i t u2 ?_ (by rw[List.size_toArray];omega)) ⟨e,?_⟩
  ·unfold Builtin.List.listFitsIndex
   simp
   rw[sizeLine_eq]at hb
   omega
  ·refine⟨.non,_,I.lset (its':=its.take i.toNat++u2::its.drop i.toNat) h1 e ?_ ((r.take _).append (.cons r2 (r.drop _))) ?_,rfl,q⟩
   ·have ek:(if i<0 then (i+((its.toArray.size:Nat):Int)).toNat else min i.toNat its.toArray.size)=i.toNat:=by
     rw[if_neg (by omega),List.size_toArray,Nat.min_eq_left (by omega)]
    show (its.toArray.extract 0 (if i<0 then (i+((its.toArray.size:Nat):Int)).toNat else min i.toNat its.toArray.size)).push u2++its.toArray.extract (if i<0 then (i+((its.toArray.size:Nat):Int)).toNat else min i.toNat its.toArray.size)=_
    rw[ek]
    apply Array.ext'
    simp
    exact List.take_of_length_le (by rw[List.length_drop];exact Nat.le_refl _)
   ·rw[List.length_append,List.length_cons,List.length_take,List.length_drop]
    omega
 ·exact h.elim
def pD (p:Str×Int):PyData:=.tuple [.str p.1,.int p.2]
def pV (p:Str×Int):List V:=[.str p.1,.int p.2]
theorem fZ {H:Hp}{x:V}{p:Str×Int}(h:DatV K H x (pD p)):∃a,x=.ref a/\SqT K H a (pV p):=by
 unfold pD at h
 cases h with
 | tuple hS hd =>
  cases hd with
  | cons h1 hd=>cases h1;cases hd with
   | cons h2 hd=>cases h2;cases hd;exact⟨_,rfl,hS⟩
theorem iF {p:Str×Int}(h:PyData.strOk p.1=true):(pD p).canLay0=true:=by unfold pD;simp only[PyData.canLay0,PyData.canLayAll0,h,Bool.and_self]
theorem sv (t u:Str×Int):PyData.eqv (pD t) (pD u)=decide (t=u):=by
 unfold pD
 rw[PyData.eqv,PyData.eqvAll,PyData.eqvAll,PyData.eqvAll]
 obtain⟨a,b⟩:=t
 obtain⟨c,d⟩:=u
 unfold PyData.eqv
 by_cases h1:a=c
 ·by_cases h2:b=d
  ·simp[h1,h2]
  ·simp[h1,h2]
 ·simp[h1]
def kN (K:PySem.W.Frag)(neg:Bool):R2:=fun x y H Q=>match y with
 | .ref p=>(∃(xs:List V) (ps:List (Str×Int)) (t:Str×Int),SqL K H p xs/\DatVs K H xs (ps.map pD)/\DatV K H x (pD t)/\(∀q∈t::ps,PyData.strOk q.1=true)/\Q (.bl (neg^^decide (t∈ps))) H)\/ut K neg x y H Q
 | y=>ut K neg x y H Q
open Classical in
theorem oy {pins:List (Addr×Obj)}{s:Shared}{σ:St}{H:Hp}{x:V}{v:Value}{p:Addr}{xs:List V}{ps:List (Str×Int)}{t:Str×Int}(hu:X.A.units+64<cLine)(I:Inv X pins σ H s)(rx:RelV x v)(hS:SqL X.K H p xs)(hD:DatVs X.K H xs (ps.map pD))(hx:DatV X.K H x (pD t))(ok:∀q∈t::ps,PyData.strOk q.1=true) :
  ∃(items:Array Value) (e:Value->Bool),s.heap.IsList p items/\(∀y,y∈items->SeqAt.EqAt X.A.in1 s y v (e y))/\items.any e=decide (t∈ps):=by
 obtain⟨its,rv,pl,_⟩:=I.list hS
 refine⟨its.toArray,fun y=>decide (∃(a:Addr),y=.ref a/\SqT X.K H a (pV t)),pl.isList,fun y hy=>?_,?_⟩
 ·obtain⟨i,hi,e⟩:=List.mem_iff_getElem.mp (show y∈its by simpa using hy)
  have hil:i<xs.length:=by have:=rv.length;omega
  have hxi:xs[i]?=some xs[i]:=List.getElem?_eq_getElem hil
  obtain⟨d,hd,hdx⟩:=hD.get hxi
  rw[List.getElem?_map]at hd
  cases ep:ps[i]? with
  | none=>rw[ep]at hd;cases hd
  | some q =>
   rw[ep]at hd
   have ed:d=pD q:=(Option.some.inj hd).symm
   subst ed
   obtain⟨u,hu2,ru⟩:=rv.get hxi
   rw[List.getElem?_eq_getElem hi,e]at hu2
   cases hu2
   obtain⟨as,ra⟩:=hdx.reads I ru
   obtain⟨bs,rb⟩:=hx.reads I rx
   obtain⟨a,ea,hT⟩:=fZ hdx
   have key:=SeqAt.eqAt_reads (pD q) (pD t) X.A.in1 s _ _ as bs ra rb (iF (ok q (List.mem_cons_of_mem _ (List.mem_of_getElem? ep)))) (iF (ok t List.mem_cons_self)) (by
    have:min (pD q).depth (pD t).depth≤10:=by unfold pD;simp only[PyData.depth,PyData.depthAll];omega
    have:X.A.in1.units=X.A.units+1:=rfl
    omega)
   have e2:PyData.eqv (pD q) (pD t)=decide (∃(a:Addr),y=.ref a/\SqT X.K H a (pV t)):=by
    rw[sv]
    rw[ea]at ru
    obtain rfl:y=Value.ref a:=ru
    by_cases z:q=t
    ·rw[decide_eq_true z,decide_eq_true]
     exact⟨a,rfl,by rw[<-z];exact hT⟩
    ·rw[decide_eq_false z,decide_eq_false]
     rintro⟨b,eb,hb⟩
     cases eb
     have:=I.tuple_inj hT hb
     unfold pV at this
     injection this with h1 h2
     injection h2 with h2 _
     injection h1 with h1
     injection h2 with h2
     exact z (Prod.ext h1 h2)
   show SeqAt.EqAt _ _ _ _ (decide (∃(a:Addr),y=.ref a/\SqT X.K H a (pV t)))
   rw[<-e2]
   exact key
 ·rw[Bool.eq_iff_iff,Array.any_eq_true',decide_eq_true_eq]
  constructor
  ·rintro⟨y,hy,he⟩
   obtain⟨i,hi,e⟩:=List.mem_iff_getElem.mp (show y∈its by simpa using hy)
   have he:=of_decide_eq_true he
   obtain⟨a,ea,hT⟩:=he
   have hil:i<xs.length:=by have:=rv.length;omega
   have hxi:xs[i]?=some xs[i]:=List.getElem?_eq_getElem hil
   obtain⟨d,hd,hdx⟩:=hD.get hxi
   rw[List.getElem?_map]at hd
   cases ep:ps[i]? with
   | none=>rw[ep]at hd;cases hd
   | some q =>
    rw[ep]at hd
    have ed:d=pD q:=(Option.some.inj hd).symm
    subst ed
    obtain⟨u,hu2,ru⟩:=rv.get hxi
    rw[List.getElem?_eq_getElem hi,e]at hu2
    cases hu2
    obtain⟨b,eb,hb⟩:=fZ hdx
    rw[eb]at ru
    have eab:y=Value.ref b:=ru
    rw[eab]at ea
    cases ea
    have:=I.tuple_inj hT hb
    unfold pV at this
    injection this with h1 h2
    injection h2 with h2 _
    injection h1 with h1
    injection h2 with h2
    rw[show t=q from Prod.ext h1 h2]
    exact List.mem_of_getElem? ep
  ·intro hm
   obtain⟨i,hi,e⟩:=List.mem_iff_getElem.mp hm
   have hxl:xs.length=ps.length:=by have:=hD.length;rw[List.length_map]at this;exact this
   have hxi:xs[i]?=some (xs[i]'(by omega)):=List.getElem?_eq_getElem (by omega)
   obtain⟨d,hd,hdx⟩:=hD.get hxi
   rw[List.getElem?_map,List.getElem?_eq_getElem hi,e]at hd
   have ed:d=pD t:=(Option.some.inj hd).symm
   subst ed
   obtain⟨u,hu2,ru⟩:=rv.get hxi
   obtain⟨b,eb,hb⟩:=fZ hdx
   rw[eb]at ru
   have eab:u=Value.ref b:=ru
   exact⟨u,by simpa using List.mem_of_getElem? hu2,decide_eq_true ⟨b,eab,hb⟩⟩
theorem wq (hu:X.A.units+64<cLine)(hK:X.K=K:=by rfl):Irr (bq X (compareOp .In) (kN K false)):=by
 refine .mk ?_
 subst hK
 intro pins s σ H x y v u Q I rx ry h
 unfold kN at h
 split at h
 ·rename_i p
  rcases h with⟨xs,ps,t,h1,h2,h3,h4,q⟩ | h
  ·obtain rfl:u=Value.ref p:=ry
   obtain⟨items,e,a1,a2,a3⟩:=oy hu I rx h1 h2 h3 h4
   refine SeqAt.in_listAt e a1 a2 ?_
   rw[a3]
   exact⟨.bl _,H,I,rfl,by simpa using q⟩
  ·exact (oA hu rfl).out pins s σ H x (.ref p) v u Q I rx ry h
 ·exact (oA hu rfl).out pins s σ H x _ v u Q I rx ry h
theorem fI (hu:X.A.units+64<cLine)(hK:X.K=K:=by rfl):Irr (bq X (compareOp .NotIn) (kN K true)):=by
 refine .mk ?_
 subst hK
 intro pins s σ H x y v u Q I rx ry h
 unfold kN at h
 split at h
 ·rename_i p
  rcases h with⟨xs,ps,t,h1,h2,h3,h4,q⟩ | h
  ·obtain rfl:u=Value.ref p:=ry
   obtain⟨items,e,a1,a2,a3⟩:=oy hu I rx h1 h2 h3 h4
   refine SeqAt.notIn_listAt e a1 a2 ?_
   rw[a3]
   exact⟨.bl _,H,I,rfl,by simpa using q⟩
  ·exact (iy hu rfl).out pins s σ H x (.ref p) v u Q I rx ry h
 ·exact (iy hu rfl).out pins s σ H x _ v u Q I rx ry h
end
end L2
namespace L2
open PySem PySem.Spec PyProof.Rows
def pK (p:Str×Int):List bC:=[.inr p.1,.inl p.2]
theorem mX {p q:Str×Int}(h:pK p=pK q):p=q:=by
 unfold pK at h
 injection h with h1 h2
 injection h2 with h2 _
 injection h1 with h1
 injection h2 with h2
 exact Prod.ext h1 h2
def iL (P:Program)(w:World)(a:Addr)(ps:List ((Str×Int)×Addr)):HO :=
 .ext fun h=>∃o es ep,h.get? a=some o/\o.ExactDict/\o.data=.dict es ep/\es.toList=(ps.map fun p=>(pK p.1,p.2,Value.bool true)).map (entryOfKey (tupleKind (ay P w)))
def PAt (P:Program)(w:World)(K:PySem.W.Frag)(H:Hp)(a:Addr)(ps:List ((Str×Int)×Addr)):Prop :=
 H a=some (iL P w a ps)/\(ps.map (·.1)).Nodup/\(a == sysModules)=false/\ps.length≤100000/\∀p∈ps,SqT K H p.2 (pV p.1)
section
variable {X:Cx}{pins:List (Addr×Obj)}{σ:St}{H:Hp}{s:Shared}{a b:Addr}{ps:List ((Str×Int)×Addr)}{p:Str×Int}
theorem gU (I:Inv X pins σ H s)(h:SqT X.K H b (pV p)):(tupleKind (ay X.prog X.w)).is s.heap (pK p) b:=by
 obtain⟨its,r,⟨o,h1,h2,n,h3⟩,_⟩:=I.tuple h
 exact⟨o,its.toArray,n,h1,h2,h3,by simpa using d6 (ks:=pK p) r⟩
theorem il (I:Inv X pins σ H s)(h:PAt X.prog X.w X.K H a ps):s.heap.DictOfH (tupleKind (ay X.prog X.w)) a (ps.map fun p=>(pK p.1,p.2,Value.bool true)):=by
 obtain⟨h1,h2,h3,h4,h5⟩:=h
 obtain⟨⟨o,es,ep,g1,g2,g3,g4⟩,_⟩:=(show ObjOk X.prog X.w H s.heap a (iL X.prog X.w a ps) from I.hok a _ h1)
 refine⟨o,es,ep,g1,g2,g3,g4,fun x hx=>?_,?_⟩
 ·obtain⟨y,hy,rfl⟩:=List.mem_map.mp hx
  exact gU I (h5 y hy)
 ·rw[List.map_map]
  have:(ps.map ((fun x:List bC×Addr×Value=>x.1)∘fun p=>(pK p.1,p.2,Value.bool true)))=(ps.map (·.1)).map pK:=by rw[List.map_map];rfl
  rw[this]
  exact List.pairwise_map.mpr (h2.imp fun h e=>h (mX e))
theorem kg (ps:List ((Str×Int)×Addr))(p:Str×Int):(atKey (ps.map fun p=>(pK p.1,p.2,Value.bool true)) (pK p)).isSome=decide (p∈ps.map (·.1)):=by
 unfold atKey
 rw[Option.isSome_map,Bool.eq_iff_iff,decide_eq_true_eq,List.find?_isSome]
 constructor
 ·rintro⟨x,hx,e⟩
  obtain⟨y,hy,rfl⟩:=List.mem_map.mp hx
  have:=mX (of_decide_eq_true e)
  exact List.mem_map.mpr ⟨y,hy,this⟩
 ·intro h
  obtain⟨y,hy,e⟩:=List.mem_map.mp h
  exact⟨_,List.mem_map.mpr ⟨y,hy,rfl⟩,decide_eq_true (by rw[e])⟩
theorem tF (h':Heap)(o:Obj)(es:Array DictEntry)(ep:Nat)(g1:h'.get? a=some o)(g2:o.ExactDict)(g3:o.data=.dict es ep)(H':Hp)
  (g4:es.toList=(ps.map fun p=>(pK p.1,p.2,Value.bool true)).map (entryOfKey (tupleKind (ay X.prog X.w)))):ObjOk X.prog X.w H' h' a (iL X.prog X.w a ps) :=
 ⟨⟨o,es,ep,g1,g2,g3,g4⟩,⟨o,g1⟩,fun h1 h2 ⟨o,es,ep,g1,g2⟩ k=>⟨o,es,ep,k o g1,g2⟩⟩
end
section
variable {X:Cx}{K:PySem.W.Frag}{P:Program}{w:World}
def xx (P:Program)(w:World):TE:=fun _ H Q=>∀p,H p=none->(p == sysModules)=false->Q (.ref p) (al H p (iL P w p []))
theorem uT {pos:Pos}(hP:X.prog=P:=by rfl)(hw:X.w=w:=by rfl):JE X (.Dict [] [] pos) (xx P w):=by
 refine .mk ?_
 subst hP hw
 exact fun pins s σ H Q I h=>wpAny_Dict_empty ⟨.ref s.heap.objs.size,_,I.laid (a:=s.heap.objs.size) (o:=iL X.prog X.w s.heap.objs.size []) (t':=s.toks) (fun _ _ q=>Heap.get?_push_of_some _ q) (Nat.le_refl _)
  (tF _ _ #[] 0 (Heap.get?_push_size _ rfl) ⟨rfl,rfl,rfl⟩ rfl _ rfl),rfl,h _ (I.hok.fresh (Nat.le_refl _)) (beq_eq_false_iff_ne.mpr (Ne.symm (Nat.ne_of_lt I.big)))⟩
def sS (P:Program)(w:World)(K:PySem.W.Frag)(neg:Bool):R2:=fun x y H Q=>match x,y with
 | .ref b,.ref a=>(∃ps p,PAt P w K H a ps/\SqT K H b (pV p)/\Q (.bl (neg^^decide (p∈ps.map (·.1)))) H)\/kN K neg x y H Q
 | x,y=>kN K neg x y H Q
theorem oG (hu:X.A.units+64<cLine)(hK:X.K=K:=by rfl)(hP:X.prog=P:=by rfl)(hw:X.w=w:=by rfl):Irr (bq X (compareOp .In) (sS P w K false)):=by
 refine .mk ?_
 subst hK hP hw
 intro pins s σ H x y v u Q I rx ry h
 unfold sS at h
 split at h
 ·rename_i b a
  rcases h with⟨ps,p,h1,h2,q⟩ | h
  ·obtain rfl:v=Value.ref b:=rx
   obtain rfl:u=Value.ref a:=ry
   refine wpAny_in_heap (tupleKind_room_in1 (by omega)) (gU I h2) h1.2.2.1 (il I h1) ?_
   rw[kg]
   exact⟨.bl _,H,I.tok _,rfl,by simpa using q⟩
  ·exact (wq hu rfl).out pins s σ H _ _ v u Q I rx ry h
 ·exact (wq hu rfl).out pins s σ H _ _ v u Q I rx ry h
theorem cS (hu:X.A.units+64<cLine)(hK:X.K=K:=by rfl)(hP:X.prog=P:=by rfl)(hw:X.w=w:=by rfl):Irr (bq X (compareOp .NotIn) (sS P w K true)):=by
 refine .mk ?_
 subst hK hP hw
 intro pins s σ H x y v u Q I rx ry h
 unfold sS at h
 split at h
 ·rename_i b a
  rcases h with⟨ps,p,h1,h2,q⟩ | h
  ·obtain rfl:v=Value.ref b:=rx
   obtain rfl:u=Value.ref a:=ry
   refine wpAny_notIn_heap (tupleKind_room_in1 (by omega)) (gU I h2) h1.2.2.1 (il I h1) ?_
   rw[kg]
   exact⟨.bl _,H,I.tok _,rfl,by simpa using q⟩
  ·exact (fI hu rfl).out pins s σ H _ _ v u Q I rx ry h
 ·exact (fI hu rfl).out pins s σ H _ _ v u Q I rx ry h
def As (P:Program)(w:World)(K:PySem.W.Frag)(td ty tv:TE):TS:=fun D σ H=>tv σ H fun v H1=>td σ H1 fun x H2=>ty σ H2 fun y H3=>match v,x,y with
 | .bl true,.ref a,.ref b=>∃ps p,PAt P w K H3 a ps/\SqT K H3 b (pV p)/\p∉ps.map (·.1)/\D.nx σ (al H3 a (iL P w a (ps++[(p,b)])))
 | _,_,_=>False
theorem tX {o i value:Expr}{pos pos':Pos}{td ty tv:TE}(hu:X.A.units+64<cLine)(ho:JE X o td)(hi:JE X i ty)(hv:JE X value tv)(hK:X.K=K:=by rfl)(hP:X.prog=P:=by rfl)(hw:X.w=w:=by rfl)(hs:swapsWith value (some (.Subscript o i pos')) pos.line X.env=pure false:=by rfl) :
  JS X (.Assign [.Subscript o i pos'] value pos) (As P w K td ty tv):=by
 refine .mk ?_
 subst hK hP hw
 intro pins s σ H D I h
 refine wpAny_Assign_Subscript (bh (hv.out pins s σ H _ I h) fun r s1 ⟨v,H1,I1,rv,q1⟩=>bh (ho.out pins s1 σ H1 _ I1 q1) fun u s2 ⟨x,H2,I2,rx,q2⟩=>bh (hi.out pins s2 σ H2 _ I2 q2) fun iv s3 ⟨y,H3,I3,ry,q3⟩=>?_) hs
 dsimp only at q3
 split at q3
 ·obtain⟨ps,p,h1,h2,h3,q⟩:=q3
  have rx':=rx
  have ry':=ry
  simp only[RelV]at rx' ry'
  subst rx' ry'
  have er:r=Value.bool true:=rv
  subst er
  have hl:=h1.2.2.2.1
  have hb:(100000:Nat)<sizeLine:=by rw[sizeLine_eq];decide
  refine wpAny_setItem_heap (hsz:=by rw[List.length_map];omega) (tupleKind_room_in1 (by omega)) (gU I3 h2) (il I3 h1) fun h' dd' hs=>?_
  have hn:atKey (ps.map fun p=>(pK p.1,p.2,Value.bool true)) (pK p)=none:=by
   have:=kg ps p
   rw[decide_eq_false h3]at this
   cases e:atKey (ps.map fun p=>(pK p.1,p.2,Value.bool true)) (pK p) with
   | none=>rfl
   | some z=>rw[e]at this;cases this
  rw[storedH_new hn]at dd'
  obtain⟨o,es,ep,g1,g2,g3,g4,_⟩:=dd'
  refine⟨σ,_,fk I3 (by rw[h1.1];exact True.intro) hs ⟨o,g1⟩ (tF h' o es ep g1 g2 g3 _ ?_),q⟩
  rw[g4,List.map_append (l₁:=ps),List.map_append,List.map_append]
  rfl
 ·exact q3.elim
end
theorem PAt.put {P:Program}{w:World}{K:PySem.W.Frag}{H:Hp}{a b:Addr}{ps:List ((Str×Int)×Addr)}{p:Str×Int}(h:PAt P w K H a ps)(hb:SqT K H b (pV p))(hn:p∉ps.map (·.1))(hl:ps.length<100000):PAt P w K (al H a (iL P w a (ps++[(p,b)]))) a (ps++[(p,b)]):=by
 obtain⟨h1,h2,h3,h4,h5⟩:=h
 have keep:∀c q,SqT K H c (pV q)->SqT K (al H a (iL P w a (ps++[(p,b)]))) c (pV q):=fun c q hq=>by
  have ne:∀{u:HO},H c=some u->(∀φ,u≠.ext φ)->c≠a:=fun {u} e n z=>by
   rw[z,h1]at e
   exact n _ (Option.some.inj e).symm
  rcases hq with (hq | ⟨o',hq⟩) | hq
  ·exact .inl (.inl (by rw[am (ne hq fun l z=>nomatch z)];exact hq))
  ·exact .inl (.inr ⟨o',by rw[am (ne hq fun l z=>nomatch z)];exact hq⟩)
  ·exact .inr hq
 refine⟨ae,?_,h3,by rw[List.length_append,List.length_singleton];omega,fun q hq=>?_⟩
 ·rw[List.map_append,List.nodup_append]
  refine⟨h2,by simp,fun x hx y hy=>?_⟩
  simp only[List.map_cons,List.map_nil,List.mem_singleton]at hy
  subst hy
  exact fun e=>hn (e▸hx)
 ·rcases List.mem_append.mp hq with z | z
  ·exact keep _ _ (h5 q z)
  ·rw[List.mem_singleton.mp z];exact keep _ _ hb
theorem PAt.same {P:Program}{w:World}{K:PySem.W.Frag}{H H':Hp}{a:Addr}{ps:List ((Str×Int)×Addr)}(h:PAt P w K H a ps)(s:Same H H'):PAt P w K H' a ps:=⟨s _ _ h.1,h.2.1,h.2.2.1,h.2.2.2.1,fun p hp=>s.seqT (h.2.2.2.2 p hp)⟩
end L2
namespace L2
open PySem PySem.Spec PyProof.Rows
theorem nW:∀{xs:List V} {us:List Value},xs.length=us.length->(∀(i:Nat) (x:V) (u:Value),xs[i]?=some x->us[i]?=some u->RelV x u)->Vals xs us
 | [],[],_,_=>.nil
 | x::xs,u::us,hl,h=>.cons (h 0 x u rfl rfl) (nW (Nat.succ.inj hl) fun i y v a b=>h (i+1) y v a b)
 | [],_::_,hl,_=>nomatch hl
 | _::_,[],hl,_=>nomatch hl
theorem sP {κ:Type}:∀{kvs:List (κ×V)} {vs:List (κ×Value)} {i:Nat} {p:κ×V},KV kvs vs->kvs[i]?=some p->∃q,vs[i]?=some q/\p.1=q.1
 | _,_,_,_,.nil,e=>by simp at e
 | _,_,0,_,.cons r _,e=>by simp at e;subst e;exact⟨_,rfl,r.1⟩
 | _,_,i+1,p,.cons _ t,e=>by
  obtain⟨q,h1,h2⟩:=sP (i:=i) (p:=p) t (by simpa using e)
  exact⟨q,by simpa using h1,h2⟩
section
variable {X:Cx}{K:PySem.W.Frag}
def my:List V->Hp->VK->Prop:=fun xs H Q=>match xs with
 | [.ref a]=>∃kvs:List (Str×V),H a=some (.dK (kvs.map fun kv=>(.inr kv.1,kv.2)))/\kvs.length≤100000/\∀p,H p=none->Q (.ref p) (al H p (.lst (kvs.map fun kv=>V.str kv.1)))
 | _=>False
theorem oJ (hc:X.calm=true):Irr (ba X (.type "list") my):=by
 refine .mk ?_
 intro pins s σ H xs us Q I r h
 unfold my at h
 split at h
 ·rename_i a
  obtain⟨kvs,h1,hl,q⟩:=h
  obtain⟨u,rfl,rx⟩:=bF r
  cases rx
  obtain⟨z,hd,vs,rel,o,es,ep,dd⟩:=oh I.hok h1
  have hvl:vs.length=kvs.length:=by rw[<-rel.length,List.length_map]
  have hb:(100000:Nat)<sizeLine:=by rw[sizeLine_eq];decide
  refine PySem.W.kdl_call (PySem.W.kdl_dict (knd:=ay X.prog X.w) (kvs:=vs) (ep:=ep) hd) (I.ok.hd hc) ⟨o,es,dd⟩ (by omega) fun h' tk acc c' hk hS hacc=>?_
  refine⟨.ref _,_,I.laid (t':=tk) hk (Nat.le_refl _) (show ObjOk X.prog X.w _ h' _ (.lst _) from ⟨by rw[List.length_map];omega,acc.toList,c',?_,by simpa using hS⟩),rfl,q _ (I.hok.fresh (Nat.le_refl _))⟩
  refine nW (by rw[List.length_map,<-hvl,Array.length_toList];exact hacc.1.symm) fun i x u hx hu=>?_
  rw[List.getElem?_map]at hx
  cases ek:kvs[i]? with
  | none=>rw[ek]at hx;cases hx
  | some kv =>
   rw[ek]at hx
   have ex:x=V.str kv.1:=(Option.some.inj hx).symm
   subst ex
   obtain⟨k,y,hv,hi⟩:=hacc.2 i u (by rw[<-Array.getElem?_toList];exact hu)
   obtain⟨q,hq,eq⟩:=sP (i:=i) (p:=(.inr kv.1,kv.2)) rel (by rw[List.getElem?_map,ek];rfl)
   rw[hv]at hq
   cases hq
   have eq:(Sum.inr kv.1:bC)=k:=eq
   subst eq
   have:=(ay X.prog X.w).strs (.inr kv.1) kv.1 0 u (gx X.prog X.w kv.1 0)
   rw[hi]at this
   cases u with
   | str z t =>
    have e2:z=kv.1:=by simpa[Value.isStr] using this.symm
    exact⟨t,by rw[e2]⟩
   | _=>simp[Value.isStr]at this
 ·exact h.elim
end
end L2
namespace L2
open PySem PySem.Spec PyProof.Rows
theorem jD {prog:Program}{w:World}{A:Around}(hh:A.handled=none)(it l:Addr)(hne:l≠it)(items:Array Value) :
  Draws prog w A it [it,l] items.size (fun i v=>items[i]?=some v) (fun i h=>h.IsTupleIter it l i/\h.IsTuple l items) where
 live:=fun _ _ st=>let ⟨o,ho,_⟩:=st.1;⟨o,ho⟩
 frame:=fun _ _ _ st hk=>⟨let ⟨o,ho,r⟩:=st.1;⟨o,hk it (by simp) o ho,r⟩,let ⟨o,ho,r⟩:=st.2;⟨o,hk l (by simp) o ho,r⟩⟩
 item:=fun i s Q E hi st hQ=>by
  refine di st.1 st.2 (x:=items[i]) (by simp[hi]) fun h' hit' hs'=>?_
  exact hQ _ h' s.toks (by simp[hi]) ⟨hit',let ⟨o,ho,r⟩:=st.2;⟨o,hs'.extBut _ _ hne ho,r⟩⟩ hs'
 done:=fun s Q E st hE=>dw hh st.1 st.2 (by simp) hE
theorem iO (l:Addr)(items:Array Value)(n:Nat)(dct:Option Addr)(sl:Array (Option Value)) :
  Meets (Builtin.«enumerate.__new__» ⟨[.type "enumerate",.ref l],[]⟩) (fun _ R s=>s.heap.get? l=some { cls:=.type "tuple",dict:=dct,data:=.seq items n,slots:=sl } /\
   R (.ok (.ret (.ref (s.heap.push { cls:=.type "tuple_iterator",data:=.fields #[.ref l,.int 0 0] }).objs.size)))
    { s with heap:=(s.heap.push { cls:=.type "tuple_iterator",data:=.fields #[.ref l,.int 0 0] }).push { cls:=.type "enumerate",data:=.fields #[.none,.bool false,.ref s.heap.objs.size,rawInt 0,.none,.none] } }) :=
 .of_wp fun prog w A R s h=>by
  obtain⟨hp,g,d,tk,os⟩:=s;obtain⟨hl,h⟩:=h
  have hsub:=sub_enumerate
  have hL:Heap.IsTuple (Shared.heap ⟨hp,g,d,tk,os⟩) l items:=⟨_,hl,rfl,n,rfl⟩
  wp_walk using AutoSeq1.wpAny_loadPart' hl
  refine wpAny_stack_any fun st=>wpAny_pure ?_
  split
  ·rename_i c _ _ _ _ _
   cases (c == Value.type "enumerate")
   ·wp_walk using AutoSeq1.wpAny_loadPart' hl,wpAny_pyIter_tuple hL
    exact⟨_,rfl,h⟩
   ·wp_walk using AutoSeq1.wpAny_loadPart' hl,wpAny_pyIter_tuple hL
    exact⟨_,rfl,h⟩
  ·wp_walk using AutoSeq1.wpAny_loadPart' hl,wpAny_pyIter_tuple hL
   exact⟨_,rfl,h⟩
theorem eX {prog:Program}{w:World}{A:Around}{E:Value->Shared->Prop}{s:Shared}{l:Addr}{items:Array Value}{Q:Value->Shared->Prop}(hL:s.heap.IsTuple l items)
  (h:∀h',IsEnum h' (s.heap.objs.size+1) s.heap.objs.size 0 .none->h'.IsTupleIter s.heap.objs.size l 0->h'.objs.size=s.heap.objs.size+2 ->
   (∀b o,s.heap.get? b=some o->h'.get? b=some o)->Q (.ref (s.heap.objs.size+1)) { s with heap:=h' }) :
  wpAny (model prog w) A (call (.type "enumerate") [.ref l]) Q E s:=by
 obtain⟨⟨c,dct,dt,sl⟩,hl,hc,n,hd⟩:=hL
 replace hc:c=.type "tuple":=hc
 replace hd:dt=.seq items n:=hd
 subst hc hd
 refine callType_new F.called_enumerate (by decide) (F.typeCall_enumerate_1 _) (F.newCall_enumerate_1 _) (fun obj=>F.args_object_init_2 obj _) F.entry_enumerate_new
  (iO l items n dct sl) ⟨hl,?_⟩
 have hz:(s.heap.push { cls:=.type "tuple_iterator",data:=.fields #[.ref l,.int 0 0] }).objs.size=s.heap.objs.size+1:=Heap.size_push ..
 show _/\_
 rw[hz]
 have he:IsEnum ((s.heap.push { cls:=.type "tuple_iterator",data:=.fields #[.ref l,.int 0 0] }).push
   { cls:=.type "enumerate",data:=.fields #[.none,.bool false,.ref s.heap.objs.size,rawInt 0,.none,.none] }) (s.heap.objs.size+1) s.heap.objs.size 0 .none:=by
  have:=Heap.get?_push_size (s.heap.push { cls:=.type "tuple_iterator",data:=.fields #[.ref l,.int 0 0] })
   (o:={ cls:=.type "enumerate",data:=.fields #[.none,.bool false,.ref s.heap.objs.size,rawInt 0,.none,.none] }) rfl
  rw[hz]at this
  exact this
 exact⟨⟨_,he,rfl⟩,h _ he ⟨_,Heap.get?_push_of_some _ (Heap.get?_push_size _ rfl),rfl,rfl⟩ (by rw[Heap.size_push,hz]) fun b o e=>Heap.get?_push_of_some _ (Heap.get?_push_of_some _ e)⟩
def Ak (K:PySem.W.Frag)(a:Addr):It :=
 ⟨fun i H=>∃xs x,SqT K H a xs/\xs[i]?=some x,
  fun i H v H'=>∃T x,(∀xs,SqT K H a xs->xs[i]?=some x)/\H T=none/\v=.ref T/\H'=al H T (.tup [.int (i:Nat),x]),
  fun i H=>∃xs,SqT K H a xs/\xs.length=i⟩
theorem m4 {P:Program}{w:World}{K:PySem.W.Frag}{elts:List Expr}{x1}{pos:Pos}{a e it:Addr}(hne:e≠it) :
  ie P w K (.Tuple elts x1 pos) (Ak K a) [e,it] e (fun i h=>(∃old,IsEnum h e it (i:Nat) old)/\h.IsTupleIter it a i) where
 mem:=by simp
 obj:=by
  rintro i h ⟨⟨old,he⟩,hi⟩ c hc
  simp only[List.mem_cons,List.not_mem_nil,or_false]at hc
  rcases hc with rfl | rfl
  ·exact⟨_,he,fun v z=>by cases z⟩
  ·obtain⟨o,ho,_,d⟩:=hi
   exact⟨o,ho,fun v z=>by rw[d]at z;cases z⟩
 keep:=by
  rintro i h h' ⟨⟨old,he⟩,hi⟩ k
  refine⟨⟨old,k e (by simp) _ he⟩,?_⟩
  obtain⟨o,ho,r⟩:=hi
  exact⟨o,k it (by simp) _ ho,r⟩
 item:=by
  rintro X hP hw hK hc i pins s σ H E I hf ⟨⟨old,he⟩,hi⟩ ⟨xs,x,q1,hx⟩
  subst hP hw hK
  obtain⟨its,rv,p1,_⟩:=I.tuple q1
  obtain⟨ux,hux,rx⟩:=rv.get hx
  have hal:a<s.heap.objs.size:=by obtain⟨o,e0,_⟩:=(show s.heap.IsTuple a its.toArray from p1);exact Heap.lt_size e0
  have hai:a≠it:=fun z=>by
   obtain⟨o,e0,c0,_⟩:=(show s.heap.IsTuple a its.toArray from p1)
   obtain⟨o2,e2,c2,_⟩:=hi
   rw[z,e2]at e0
   cases e0
   rw[c0]at c2
   exact absurd c2 (by decide)
  have hae:e∉[it,a]:=fun z=>by
   rcases List.mem_cons.mp z with z | z
   ·exact hne z
   ·rw[List.mem_singleton.mp z]at he
    obtain⟨o,e0,c0,_⟩:=(show s.heap.IsTuple a its.toArray from p1)
    rw[he]at e0
    cases e0
    exact absurd (show Value.type "enumerate"=Value.type "tuple" from c0) (by decide)
  refine wpAny_pyNext_enum_itemD (jD (A:=X.A.in1) (I.ok.hd hc) it a hai its.toArray) he ⟨hi,p1⟩ (by have:=rv.length;have:=(List.getElem?_eq_some_iff.mp hx).1;simp;omega) hne hae fun ux2 h' tk hP a1 a2 a3 a4 a5=>?_
  have eux:ux=ux2:=by
   have h9:its.toArray[i]?=some ux:=by simpa using hux
   rw[h9]at hP
   exact Option.some.inj hP
  subst eux
  have hT:H s.heap.objs.size=none:=I.hok.fresh (Nat.le_refl _)
  have I1:Inv X pins σ (al H s.heap.objs.size (.tup [.int (i:Nat),x])) { s with heap:=s.heap.push { cls:=.type "tuple",data:=.seq [.int (i:Nat) tk,ux].toArray },toks:=tk+1 } :=
   I.laid (t':=tk+1) (fun b o q=>Heap.get?_push_of_some _ q) (Nat.le_refl _) (show ObjOk X.prog X.w _ _ _ (.tup [.int (i:Nat),x]) from ⟨by show 2≤sizeLine;decide,[.int (i:Nat) tk,ux],.cons ⟨_,rfl⟩ (.cons rx .nil),IsTup.new _ _⟩)
  have hlt:∀c∈[e,it],c<s.heap.objs.size:=by
   intro c hc
   simp only[List.mem_cons,List.not_mem_nil,or_false]at hc
   rcases hc with rfl | rfl
   ·exact Heap.lt_size he
   ·obtain⟨o,ho,_⟩:=hi;exact Heap.lt_size ho
  have hf':∀c∈[e,it],dr X pins (al H s.heap.objs.size (.tup [.int (i:Nat),x])) c:=fun c hc=>by
   obtain⟨f0,fr⟩:=hf c hc
   exact⟨by rw[am (Nat.ne_of_lt (hlt c hc))];exact f0,fr⟩
  have kept:∀c o,c∉[e,it]->(s.heap.push { cls:=.type "tuple",data:=.seq [.int (i:Nat) tk,ux].toArray }).get? c=some o->h'.get? c=some o:=by
   intro c o hc q
   have hc':c≠e/\c≠it:=by simpa using hc
   by_cases hn:c=s.heap.objs.size
   ·subst hn
    have e0:(s.heap.push { cls:=.type "tuple",data:=.seq [.int (i:Nat) tk,ux].toArray }).get? s.heap.objs.size=some { cls:=.type "tuple",data:=.seq [.int (i:Nat) tk,ux].toArray }:=Heap.get?_push_size _ rfl
    rw[e0]at q
    cases q
    exact a3
   ·rw[Heap.get?_push_ne _ _ _ hn]at q
    exact a5 c o hc'.1 hc'.2 q
  have I2:Inv X pins σ (al H s.heap.objs.size (.tup [.int (i:Nat),x])) { s with heap:=h',toks:=tk+1 }:=I1.turnedL (t':=tk+1) kept hf'
  refine⟨_,rfl,?_⟩
  refine wpAny_letOwnedTupleGo_enum a1 fun h2' he2 hs2=>?_
  have I3:Inv X pins σ (al H s.heap.objs.size (.tup [.int (i:Nat),x])) { s with heap:=h2',toks:=tk+1 }:=Inv.turnedL (s:={ s with heap:=h',toks:=tk+1 }) (h':=h2') (t':=tk+1) (fp:=[e,it]) I2 (fun c o hc q=>hs2.extBut _ _ (fun z=>hc (by simp[z])) q) hf'
  refine⟨.ref s.heap.objs.size,_,I3,rfl,⟨_,x,fun zs hq=>by rw[I.tuple_inj hq q1];exact hx,hT,rfl,rfl⟩,⟨⟨_,he2⟩,?_⟩,fun c hc=>(hf' c hc).1⟩
  obtain⟨o,ho,r⟩:=a2.1
  exact⟨o,hs2.extBut _ _ hne.symm ho,r⟩
 done:=by
  rintro X hP hw hK hc i pins s σ H E I hf ⟨⟨old,he⟩,hi⟩ ⟨xs,q1,hend⟩
  subst hP hw hK
  obtain⟨its,rv,p1,_⟩:=I.tuple q1
  have l1:=rv.length
  have hai:a≠it:=fun z=>by
   obtain⟨o,e0,c0,_⟩:=(show s.heap.IsTuple a its.toArray from p1)
   obtain⟨o2,e2,c2,_⟩:=hi
   rw[z,e2]at e0
   cases e0
   rw[c0]at c2
   exact absurd c2 (by decide)
  refine wpAny_pyNext_enum_endD (jD (A:=X.A.in1) (I.ok.hd hc) it a hai its.toArray) he (by rw[List.size_toArray,<-l1,hend];exact⟨hi,p1⟩) fun h' hk=>⟨rfl,I.turnedL (t':=s.toks) (fp:=[e,it]) (fun c o hc q=>?_) hf⟩
  have hc':c≠e/\c≠it:=by simpa using hc
  exact hk c o hc'.2 q
 self:=fun _ _ _ _ _ st h=>by
  obtain⟨⟨old,he⟩,_⟩:=st
  exact wpAny_pyIter_enum he h
section
variable {X:Cx}{K:PySem.W.Frag}
def rV (K:PySem.W.Frag)(ta:TA):TI:=fun σ H R=>ta σ H fun vs H1=>match vs with
 | [.ref a]=>(∃xs,SqT K H1 a xs)/\R (Ak K a) H1
 | _=>False
theorem rG {a:Expr}{ta:TA}{p pos:Pos}{elts:List Expr}{x1}{pos':Pos}(hg:Gl X "enumerate")(hm:X.mg "enumerate"=none)(ha:PA X [a] ta)(hK:X.K=K:=by rfl)(hs:starEach [a] X.env=[(false,eval a X.env)]:=by rfl) :
  PI X (.Tuple elts x1 pos') (.Call (.Name "enumerate" p) [a] [] pos) (rV K ta):=by
 subst hK
 intro pins s σ H R I h
 refine Call_ (ff I hg hm boot_enumerate (PyProof.Rows.callWith_type1 (bh (ha pos pins s σ H _ I h) fun us s1 ⟨vs,H1,I1,r1,q1⟩=>?_) (by rw[hs];rfl) rfl))
 dsimp only at q1
 split at q1
 ·obtain⟨u,rfl,r⟩:=bF r1
  cases r
  obtain⟨⟨xs,hx⟩,q⟩:=q1
  obtain⟨its,rv,p1,_⟩:=I1.tuple hx
  refine eX (show s1.heap.IsTuple _ its.toArray from p1) fun h' he hi hz hk=>?_
  refine wpAny_pyIter_enum he ?_
  refine⟨_,[s1.heap.objs.size+1,s1.heap.objs.size],_,_,H1,rfl,I1.kept (t':=s1.toks) hk,m4 (Nat.succ_ne_self _),⟨⟨_,he⟩,hi⟩,fun c hc=>?_,q⟩
  have hge:s1.heap.objs.size≤c:=by
   simp only[List.mem_cons,List.not_mem_nil,or_false]at hc
   rcases hc with rfl | rfl
   ·exact Nat.le_succ _
   ·exact Nat.le_refl _
  exact I1.fpOk hge (I1.hok.fresh hge)
 ·exact q1.elim
theorem kS {a:Expr}{ta:TA}{p pos:Pos}{elts:List Expr}{x1}{pos':Pos}(hg:Gl X "enumerate")(hm:X.mg "enumerate"=none)(ha:JA X [a] ta)(hK:X.K=K:=by rfl)(h1:bz a=true:=by rfl) :
  JI X (.Tuple elts x1 pos') (.Call (.Name "enumerate" p) [a] [] pos) (rV K ta):=.mk (rG hg hm ha.out hK (by rw[az h1];rfl))
end
theorem jo {K:PySem.W.Frag}{a:Addr}{xs:List V}{g:TG}{tb:TS}{D:im}{σ:St}{H:Hp}(Pv:Nat->St->Hp->Prop)(h0:Pv 0 σ H)
  (hl:∀i σ H,i≤xs.length->Pv i σ H->SqT K H a xs)
  (hs:∀i x σ H,xs[i]?=some x->Pv i σ H->∀T,H T=none->g (.ref T) σ (al H T (.tup [.int (i:Nat),x])) fun σ2 H2=>tb { D with nx:=Pv (i+1),ct:=Pv (i+1),bk:=D.nx } σ2 H2) (hd:∀σ H,Pv xs.length σ H->D.nx σ H) :
  ∃W:Nat->Nat->St->Hp->Prop,(∃m,W 0 m σ H)/\∀i m σ H,W i m σ H ->
   ((Ak K a).stop i H/\D.nx σ H)\/((Ak K a).go i H/\∃N:St->Hp->Prop,(∀σ' H',N σ' H'->∃m',m'<m/\W (i+1) m' σ' H')/\∀x H',(Ak K a).yld i H x H'->g x σ H' fun σ2 H2=>tb { D with nx:=N,ct:=N,bk:=D.nx } σ2 H2):=by
 refine⟨fun i m σ H=>m=xs.length-i/\i≤xs.length/\Pv i σ H,⟨xs.length,by simp,Nat.zero_le _,h0⟩,?_⟩
 rintro i m σ H ⟨rfl,hi,p⟩
 have q1:=hl i σ H hi p
 by_cases hlt:i<xs.length
 ·refine .inr ⟨⟨xs,xs[i],q1,by simp[hlt]⟩,Pv (i+1),fun σ' H' p'=>⟨xs.length-(i+1),by omega,rfl,hlt,p'⟩,fun v H' y=>?_⟩
  obtain⟨T,x,e1,hT,rfl,rfl⟩:=y
  exact hs i x σ H (e1 xs q1) p T hT
 ·have e:i=xs.length:=by omega
  subst e
  exact .inl ⟨⟨xs,q1,rfl⟩,hd σ H p⟩
end L2
namespace L2
open PySem PySem.Spec PyProof.Rows
section
variable {X:Cx}{E:XK}{N:List Str}{cap:List (Option Nat)}{scope:Scope}{elt target iter:Expr}{ifs:List Expr}{pos pos' spos:Pos}{wi:TI}{g:TG}{tc:TT}{te:TE}{i:Nat}{x:Str}
theorem rK (hX:Exits X E)(hst:X.stack=X.env::X.outer)(hfr:X.env.frame=some X.env.locals)(hc:X.calm=true)(S:CompScope X N cap scope)(hi:PI X target iter wi)
  (hg:∀C s₀ H₀ ex,PG (aT X N scope C s₀ H₀ ex E) target g) (ht:∀C s₀ H₀ ex,wc (aT X N scope C s₀ H₀ ex E) ifs tc) (he:∀C s₀ H₀ ex,PE (aT X N scope C s₀ H₀ ex E) elt te)
  (hN:X.N.Nodup) (hix:X.N[i]?=some x) (hx:X.env.scope.names.lookup x=some .local) (hsw:swapsWith (.ListComp elt [⟨target,iter,ifs,0⟩] scope pos) (some (.Name x pos')) spos.line X.env=pure true:=by rfl)
  (hs:∀x,foldedSetIterable iter X.env x=pure x:=by intro _;rfl) :
  PS X (.Assign [.Name x pos'] (.ListComp elt [⟨target,iter,ifs,0⟩] scope pos) spos) (fun D σ H=>jk cap wi g tc te (fun d H'=>D.nx (σ.set i (some (.ref d))) H') σ H):=by
 intro pins s σ H D I h
 have hclos:closureFor scope X.env=pure (aX X.env scope.names []):=cy fun y hy hf=>I.ok.has y.1 (S.fre y hy hf)
 rw[exec_Assign_Name_used _ _ _ _ hsw]
 refine wpAny_bind (wpAny_standAt (wpAny_bind ?_))
 show wpAny _ X.A (do let _<-comprehension (.ListComp elt [⟨target,iter,ifs,0⟩] scope pos) scope X.env _ (newList []) false (eval iter X.env) (some (assign (.Name x pos') X.env))) _ _ s
 refine wpAny_bind (wpAny_mono (wpAny_comprehension_free (use:=some (assign (.Name x pos') X.env)) (Q:=fun _ s'=>SP X pins D .next s') rfl hs hclos S.kind S.loc
  (bh (hi pins s σ H _ I h) fun xv s1 h1=>bh h1 fun itv s2 h2=>?_)) (fun _ s' hq=>wpAny_pure (wpAny_pure hq)) fun _ _ e=>e)
 obtain⟨it,fp,tn,J,H2,e,I2,T,st2,f2,q2⟩:=h2
 subst e
 refine kB (EX:=E) (RR:=fun acc C=>compPost (model X.prog X.w) X.A X.xe (some (assign (.Name x pos') X.env)) (fun _ s'=>SP X pins D .next s') acc C) hc S I2 T st2 f2 (fun C s₀ H₀=>hg C s₀ H₀ fp) (fun C s₀ H₀=>ht C s₀ H₀ fp) (fun C s₀ H₀=>he C s₀ H₀ fp) q2
  (fun D C hC _ e s' hf=>pI hX I2 hst hfr (fun b hb=>(f2 b hb).2.2.2.1) hC e s' hf) ?_
 intro d C s' H' I' q ⟨m,hn⟩ hf hsz hL hcell hpin
 show wpAny _ X.A (assign (.Name x pos') X.env (.ref d)) _ _ s'
 refine wpAny_assign_Name (f9 I' hN hix (.inl hx) (show RelV (.ref d) (.ref d) from rfl) (fun s'' I'' ⟨a,hsb,ha⟩=>?_) (.inr hx))
 have hCa:C≠a:=by
  rcases ha with z | z
  ·rw[z];exact hL
  ·exact fun w=>hcell x a z w.symm
 refine⟨m,hn.sameBut hsb hCa,fun h' hsb'=>⟨_,H',?_,q⟩⟩
 exact I''.turned (t':=s''.toks) (fun b o hb e=>hsb'.extBut b o hb e) hf hL (.inr hsz) hcell hpin
theorem rO (hX:Exits X E)(hst:X.stack=X.env::X.outer)(hfr:X.env.frame=some X.env.locals)(hc:X.calm=true)(S:CompScope X N cap scope)(hi:JI X target iter wi)
  (hg:∀C s₀ H₀ ex,JG (aT X N scope C s₀ H₀ ex E) target g) (ht:∀C s₀ H₀ ex,AZ (aT X N scope C s₀ H₀ ex E) ifs tc) (he:∀C s₀ H₀ ex,JE (aT X N scope C s₀ H₀ ex E) elt te)
  (hN:X.N.Nodup) (hix:X.N[i]?=some x) (hx:X.env.scope.names.lookup x=some .local) (hsw:swapsWith (.ListComp elt [⟨target,iter,ifs,0⟩] scope pos) (some (.Name x pos')) spos.line X.env=pure true:=by rfl)
  (hs:∀x,foldedSetIterable iter X.env x=pure x:=by intro _;rfl) :
  JS X (.Assign [.Name x pos'] (.ListComp elt [⟨target,iter,ifs,0⟩] scope pos) spos) (fun D σ H=>jk cap wi g tc te (fun d H'=>D.nx (σ.set i (some (.ref d))) H') σ H) :=
 .mk (rK hX hst hfr hc S hi.out (fun C s₀ H₀ ex=>(hg C s₀ H₀ ex).out) (fun C s₀ H₀ ex=>(ht C s₀ H₀ ex).out) (fun C s₀ H₀ ex=>(he C s₀ H₀ ex).out) hN hix hx hsw hs)
end
end L2
namespace L2
open PySem PySem.Spec PyProof.Rows
abbrev GK:=bC ⊕ List bC
def bH (P:Program)(w:World)(h:Heap):GK->Value->Prop
 | .inl k,v=>fm k v=true
 | .inr ks,v=>∃a,v=.ref a/\IsTupleKey (ay P w) h ks a
def bA (P:Program)(w:World):GK->Int
 | .inl k=>(ay P w).hash k
 | .inr ks=>tupleKeyHash (ay P w) ks
def bJ:GK->Nat
 | .inl _=>1
 | .inr ks=>ks.length+1
section
variable {P:Program}{w:World}{h h':Heap}{x y:GK}{u v:Value}{A:Around}{E:Value->Shared->Prop}{s:Shared}
theorem jR {k:bC}{a:Addr}(hk:fm k (.ref a)=true):False:=by
 rcases aL hk with⟨_,_,_,e⟩ | ⟨_,_,_,e⟩<;>exact nomatch e
theorem rc (hx:bH P w h x v)(hy:bH P w h y v):x=y:=by
 cases x with
 | inl k =>
  cases y with
  | inl l=>exact congrArg Sum.inl ((ay P w).inj v k l hx hy)
  | inr l=>obtain⟨a,rfl,_⟩:=hy;exact (jR hx).elim
 | inr k =>
  obtain⟨a,rfl,ha⟩:=hx
  cases y with
  | inl l=>exact (jR hy).elim
  | inr l =>
   obtain⟨b,e,hb⟩:=hy
   cases e
   exact congrArg Sum.inr (ha.inj hb)
theorem iz {d:Addr}{o:Obj}{es ep}(hx:bH P w h x v)(ho:h.get? d=some o)(hd:o.data=.dict es ep)(hs:Heap.SameBut d h h'):bH P w h' x v:=by
 cases x with
 | inl k=>exact hx
 | inr k=>obtain⟨a,rfl,ha⟩:=hx;exact⟨a,rfl,ha.keeps ho hd hs⟩
theorem jE {Q:Int->Shared->Prop}(hu:A.units<cLine)(hx:bH P w s.heap x v)(q:Q (bA P w x) { s with toks:=s.toks+bJ x }):wpAny (model P w) A (pyHash v) Q E s:=by
 cases x with
 | inl k=>exact (ay P w).pyHash hx q
 | inr k=>obtain⟨a,rfl,ha⟩:=hx;exact wpAny_pyHash_tuple hu ha q
theorem kP {ks:List bC}{a:Addr}(h':IsTupleKey (ay P w) h ks a):∃items,h.IsTuple a items:=by
 obtain⟨o,items,n,h1,h2,h3,_⟩:=h'
 exact⟨items,o,h1,h2,n,h3⟩
theorem fO {Q:Bool->Shared->Prop}(hu:A.units<cLine)(hx:bH P w s.heap x u)(hy:bH P w s.heap y v)(q:Q (decide (x=y)) s):wpAny (model P w) A (eqBool u v) Q E s:=by
 cases x with
 | inl k =>
  cases y with
  | inl l =>
   refine (ay P w).eqBool hx hy ?_
   rwa [show decide ((Sum.inl k:GK)=Sum.inl l)=decide (k=l) from decide_eq_decide.mpr ⟨Sum.inl.inj,congrArg _⟩]at q
  | inr l =>
   rw[show decide ((Sum.inl k:GK)=Sum.inr l)=false from decide_eq_false (fun z=>nomatch z)]at q
   obtain⟨a,rfl,ha⟩:=hy
   obtain⟨its,ht⟩:=kP ha
   rcases aL hx with⟨i,t,rfl,rfl⟩ | ⟨i,t,rfl,rfl⟩
   ·exact SeqAt.EqAt.int_tuple i t ht hu _ _ _ _ q
   ·exact SeqAt.EqAt.str_tuple i t ht hu _ _ _ _ q
 | inr k =>
  obtain⟨a,rfl,ha⟩:=hx
  cases y with
  | inl l =>
   rw[show decide ((Sum.inr k:GK)=Sum.inl l)=false from decide_eq_false (fun z=>nomatch z)]at q
   obtain⟨its,ht⟩:=kP ha
   rcases aL hy with⟨i,t,rfl,rfl⟩ | ⟨i,t,rfl,rfl⟩
   ·exact SeqAt.EqAt.tuple_int i t ht hu _ _ _ _ q
   ·exact SeqAt.EqAt.tuple_str i t ht hu _ _ _ _ q
  | inr l =>
   obtain⟨b,rfl,hb⟩:=hy
   refine wpAny_eqBool_tuple hu ha hb ?_
   rwa [show decide ((Sum.inr k:GK)=Sum.inr l)=decide (k=l) from decide_eq_decide.mpr ⟨Sum.inr.inj,congrArg _⟩]at q
theorem kW {Q:Bool->Shared->Prop}(hx:bH P w s.heap x v)(q:Q true s):wpAny (model P w) A (eqIsQuiet 8 v) Q E s:=by
 cases x with
 | inl k=>rw[eqIsQuiet_byValue 8 ((ay P w).byValue k v hx)];exact wpAny_pure q
 | inr k=>obtain⟨a,rfl,ha⟩:=hx;exact wpAny_eqIsQuiet_tuple ha q
theorem vD {stored:List Value}{Q:Bool->Shared->Prop}(hkey:bH P w s.heap x v)(hst:∀u∈stored,∃y,bH P w s.heap y u)(q:Q false s):wpAny (model P w) A (tableMayTell v stored) Q E s:=by
 unfold tableMayTell
 split
 ·exact wpAny_pure q
 ·refine wpAny_bind (kW hkey ?_)
  simp only[Bool.not_true,Bool.false_eq_true,if_false]
  refine wpAny_bind ?_
  refine wpAny_forIn_list _ (fun bI r s'=>s'=s/\r=(none,())/\∀v∈bI,∃y,bH P w s.heap y v) _ ?_ ?_ _ _ ⟨rfl,rfl,hst⟩
  ·rintro x bI r s' ⟨rfl,rfl,hr⟩
   obtain⟨y,hb⟩:=hr x List.mem_cons_self
   refine wpAny_bind (kW hb ?_)
   simp only[Bool.not_true,Bool.false_eq_true,if_false]
   exact wpAny_pure ⟨rfl,rfl,fun v hv=>hr v (List.mem_cons_of_mem _ hv)⟩
  ·rintro r s' ⟨rfl,rfl,_⟩
   exact wpAny_pure q
end
abbrev GP:=List (GK×Value×Value)
def gf (P:Program)(w:World)(x:GK×Value×Value):DictEntry:=⟨bA P w x.1,x.2.1,x.2.2⟩
def GDict (P:Program)(w:World)(h:Heap)(d:Addr)(xs:GP)(ep:Nat):Prop :=
 ∃o es,h.get? d=some o/\o.ExactDict/\o.data=.dict es ep/\es.toList=xs.map (gf P w)/\(∀x∈xs,bH P w h x.1 x.2.1)/\(xs.map (·.1)).Nodup
def i4 (xs:GP)(k:GK):Option Value:=(xs.find? fun x=>decide (x.1=k)).map (·.2.2)
section
variable {P:Program}{w:World}{A:Around}{E:Value->Shared->Prop}{s:Shared}{d:Addr}{xs:GP}{ep:Nat}{k:GK}{key v:Value}
theorem GDict.typeIs (hm:GDict P w s.heap d xs ep):s.TypeIs (.ref d) "dict":=let ⟨o,_,ho,hc,_⟩:=hm;⟨o,ho,hc.1⟩
theorem Bk (hn:(xs.map (·.1)).Nodup){i j:Nat}{p q:Value×Value}(hi:xs[i]?=some (k,p))(hj:xs[j]?=some (k,q)):i=j:=by
 have hi':(xs.map (·.1))[i]?=some k:=by rw[List.getElem?_map,hi];rfl
 have hj':(xs.map (·.1))[j]?=some k:=by rw[List.getElem?_map,hj];rfl
 exact (List.getElem?_inj (List.getElem?_eq_some_iff.mp hi').1 hn).mp (hi'.trans hj'.symm)
theorem tj {o:Obj}{es}{Q:Option Nat->Shared->Prop}(hu:A.units<cLine)(hkey:bH P w s.heap k key)(ho:s.heap.get? d=some o)(hd:o.data=.dict es ep)(he:es.toList=xs.map (gf P w))
  (his:∀x∈xs,bH P w s.heap x.1 x.2.1) (hn:(xs.map (·.1)).Nodup) (hnone:(∀(j:Nat) p,xs[j]?≠some (k,p))->Q none s) (hsome:∀(j:Nat) p,xs[j]?=some (k,p)->Q (some j) s) :
  wpAny (model P w) A (dictFind d key (bA P w k)) Q E s:=by
 have hsz:es.size=xs.length:=by rw[<-Array.length_toList,he,List.length_map]
 have eat:∀j:Nat,es[j]?=(xs[j]?).map (gf P w):=fun j=>by rw[<-Array.getElem?_toList,he,List.getElem?_map]
 have haskey:∀(j:Nat) p,xs[j]?=some (k,p)->((es[j]?.map (·.hash)) == some (bA P w k))=true:=by
  intro j p hj
  rw[eat j,hj]
  simp[gf]
 have hmem:∀e∈es,∃x∈xs,e=gf P w x:=by
  intro e hin
  have:e∈xs.map (gf P w):=he▸Array.mem_toList_iff.mpr hin
  obtain⟨x,hx,rfl⟩:=List.mem_map.mp this
  exact⟨x,hx,rfl⟩
 have hany:¬ (es.any fun e=>e.key == key&&e.hash != bA P w k)=true:=by
  rw[<-Array.any_toList,List.any_eq_true]
  rintro⟨e,hin,hc⟩
  obtain⟨x,hx,rfl⟩:=hmem e (Array.mem_toList_iff.mp hin)
  simp only[gf,Bool.and_eq_true,beq_iff_eq,bne_iff_ne,ne_eq]at hc
  obtain⟨hxa,hne⟩:=hc
  have:=his x hx
  rw[hxa]at this
  exact hne (by rw[rc this hkey])
 have hst:∀v∈(placesWithHash es.size (fun i=>es[i]?.map (·.hash)) (bA P w k)).filterMap (fun i=>es[i]?.map (·.key)),∃y,bH P w s.heap y v:=by
  intro v hv
  obtain⟨i,_,hi⟩:=List.mem_filterMap.mp hv
  cases hei:es[i]? with
  | none=>rw[hei]at hi;cases hi
  | some e =>
   rw[hei]at hi
   obtain rfl:e.key=v:=by simpa using hi
   obtain⟨x,hx,rfl⟩:=hmem e (Array.mem_of_getElem? hei)
   exact⟨x.1,his x hx⟩
 have nokey:(∀j,j<es.size->((es[j]?.map (·.hash)) == some (bA P w k))=false\/∀p,xs[j]?≠some (k,p))->∀(j:Nat) p,xs[j]?≠some (k,p):=fun h j p hj=>by
  have hjl:j<es.size:=by rw[hsz];exact (List.getElem?_eq_some_iff.mp hj).1
  rcases h j hjl with z | z
  ·rw[haskey j p hj]at z;cases z
  ·exact z p hj
 have plain:wpAny (model P w) A (dictWalkPlain d key (bA P w k) es (placesWithHash es.size (fun i=>es[i]?.map (·.hash)) (bA P w k))) Q E s:=by
  refine wpAny_bind ?_
  refine wpAny_forIn_list _
   (fun bI b s'=>s'=s/\b=(none,())/\∃i,bI=(List.range' i (es.size-i)).filter (fun i=>(es[i]?.map (·.hash)) == some (bA P w k))/\i≤es.size/\∀j p,j<i->xs[j]?≠some (k,p)) _ ?_ ?_ _ _
   ⟨rfl,rfl,0,by rw[placesWithHash,List.range_eq_range',Nat.sub_zero],Nat.zero_le _,fun _ _ h=>absurd h (Nat.not_lt_zero _)⟩
  ·rintro x bI b s' ⟨rfl,rfl,i,hr,hi,hno⟩
   obtain⟨hix,hxn,hpx,hskip,hrest⟩:=filter_range'_cons _ _ _ _ _ hr.symm
   have hlt:x<es.size:=by omega
   obtain⟨⟨k',b,v'⟩,hkv⟩:∃y,xs[x]?=some y:=⟨xs[x]'(by rw[<-hsz];exact hlt),List.getElem?_eq_getElem _⟩
   have hib:bH P w s'.heap k' b:=his _ (List.mem_of_getElem? hkv)
   have hex:es[x]?=some ⟨bA P w k',b,v'⟩:=by rw[eat x,hkv];rfl
   have hnext:¬ k'=k->∃i,bI=(List.range' i (es.size-i)).filter (fun i=>(es[i]?.map (·.hash)) == some (bA P w k))/\i≤es.size/\∀j p,j<i->xs[j]?≠some (k,p):=fun hne =>
    ⟨x+1,by rw[hrest];congr 2;omega,hlt,fun j p hji hj=>by
     rcases Nat.lt_or_ge j i with h | h
     ·exact hno j p h hj
     ·rcases Nat.lt_or_ge j x with h' | h'
      ·have:=hskip j h h'
       rw[haskey j p hj]at this
       cases this
      ·have:j=x:=by omega
       subst this
       rw[hkv]at hj
       injection hj with hj
       injection hj with hj
       exact hne hj⟩
   rw[hex]
   dsimp only
   by_cases hh:(bA P w k' == bA P w k)=true
   ·rw[if_pos hh]
    refine wpAny_bind (wpAny_dictEpoch ho hd (wpAny_bind (fO (x:=k') (y:=k) hu hib hkey (wpAny_bind (wpAny_dictEpoch ho hd ?_)))))
    show wpAny _ _ (if (ep != ep)=true then _ else _) _ E _
    rw[if_neg (by simp)]
    by_cases hkk:k'=k
    ·rw[decide_eq_true hkk]
     subst hkk
     exact wpAny_bind (wpAny_rule (wpAny_pure (wpAny_pure (hsome x _ hkv))))
    ·rw[decide_eq_false hkk]
     exact wpAny_bind (wpAny_rule (wpAny_pure ⟨rfl,rfl,hnext hkk⟩))
   ·rw[if_neg hh]
    refine wpAny_pure ⟨rfl,rfl,hnext ?_⟩
    intro hkk
    rw[hkk]at hh;simp at hh
  ·rintro b s' ⟨rfl,rfl,i,hr,hi,hno⟩
   have hall:∀j,i≤j->j<es.size->((es[j]?.map (·.hash)) == some (bA P w k))=false:=by
    intro j h1 h2
    have:=List.filter_eq_nil_iff.mp hr.symm j (List.mem_range'_1.mpr ⟨h1,by omega⟩)
    simpa using this
   refine wpAny_pure (hnone (nokey fun j hj=>?_))
   rcases Nat.lt_or_ge j i with h | h
   ·exact .inr fun p=>hno j p h
   ·exact .inl (hall j h hj)
 unfold dictFind
 try with_reducible refine wpAny_holding ?_
 refine wpAny_bind (wpAny_dictEntries ho hd ?_)
 have shape:(∃i t,key=.int i t)\/(∃x t,key=.str x t/\k=.inl (.inr x))\/∃a,key=.ref a:=by
  cases k with
  | inl k => rcases aL hkey with ⟨i, t, rfl, e⟩ | ⟨i, t, rfl, e⟩
             · exact .inl ⟨i,t,e⟩
             · exact .inr (.inl ⟨i,t,e,rfl⟩)
  | inr k=>obtain⟨a,e,_⟩:=hkey;exact .inr (.inr ⟨a,e⟩)
 rcases shape with⟨ki,kt,rfl⟩ | ⟨kx,kt,rfl,ek⟩ | ⟨ka,rfl⟩<;>dsimp only
 case' inr.inl =>
  by_cases hstrs:(es.all fun e=>isExactStrKey e.key)=true
  case' neg=>rw[if_neg hstrs]
  case pos =>
   rw[if_pos hstrs]
   subst ek
   have hf1:∀(j:Nat) (e:DictEntry),es[j]?=some e->e.key.isStr kx=true->∃p,xs[j]?=some (Sum.inl (Sum.inr kx),p):=fun j e hej hes=>by
    rw[eat j]at hej
    obtain⟨⟨k',b,v'⟩,hkv,rfl⟩:=Option.map_eq_some_iff.mp hej
    have hib:bH P w s.heap k' b:=his _ (List.mem_of_getElem? hkv)
    have hb:fm (.inr kx) b=true:=by
     have:=(ay P w).strs (.inr kx) kx 0 b (dY kx 0)
     exact this.trans hes
    have ek:k'=Sum.inl (Sum.inr kx):=rc hib (show bH P w s.heap (Sum.inl (Sum.inr kx)) b from hb)
    rw[ek]at hkv
    exact⟨_,hkv⟩
   unfold foundByValue
   cases hf:es.findIdx? (fun e=>e.key.isStr kx) with
   | none =>
    refine wpAny_pure (hnone fun j p hj=>?_)
    have hlt:j<es.size:=by rw[hsz];exact (List.getElem?_eq_some_iff.mp hj).1
    have:=Array.findIdx?_eq_none_iff.mp hf es[j] (Array.getElem_mem hlt)
    have h2:es[j]?=some es[j]:=Array.getElem?_eq_getElem hlt
    rw[eat j,hj]at h2
    have e3:es[j].key=p.1:=by rw[<-Option.some.inj h2];rfl
    have hib:bH P w s.heap (Sum.inl (Sum.inr kx)) p.1:=his _ (List.mem_of_getElem? hj)
    rw[e3,<-(ay P w).strs (.inr kx) kx 0 p.1 (dY kx 0),show (ay P w).is (.inr kx) p.1=true from hib]at this
    cases this
   | some i =>
    obtain⟨hlt,hi,_⟩:=Array.findIdx?_eq_some_iff_getElem.mp hf
    have hei:es[i]?=some es[i]:=Array.getElem?_eq_getElem hlt
    obtain⟨p,hp⟩:=hf1 i _ hei hi
    have hib:bH P w s.heap (Sum.inl (Sum.inr kx)) p.1:=his _ (List.mem_of_getElem? hp)
    have e3:es[i].key=p.1:=by
     rw[eat i,hp]at hei
     rw[<-Option.some.inj hei];rfl
    simp only[Array.getElem?_eq_getElem hlt]
    rw[e3]
    refine wpAny_bind (wpAny_dictEpoch ho hd (wpAny_bind (fO hu hib hkey (wpAny_bind (wpAny_dictEpoch ho hd ?_)))))
    show wpAny _ _ (if (ep != ep)=true then _ else _) _ E _
    rw[if_neg (by simp),decide_eq_true rfl]
    exact wpAny_bind (wpAny_rule (wpAny_pure (hsome i p hp)))
 all_goals refine wpAny_ite_split (fun hall=>?_) (fun hall=>?_)
 all_goals first | exact plain | skip
 case' inr.inr=>refine wpAny_ite_split (fun h=>absurd h hany) (fun _=>?_)
 all_goals refine wpAny_ite_split (fun _=>wpAny_bind (wpAny_pure ?_)) (fun _=>wpAny_bind (vD hkey hst ?_))
 all_goals
  rw[if_neg (by simp)]
  refine wpAny_bind ?_
  refine wpAny_forIn_list _
   (fun bI b s2=>s2=s/\∃i hit,b=(none,hit)/\bI=(List.range' i (es.size-i)).filter (fun i=>(es[i]?.map (·.hash)) == some (bA P w k))/\i≤es.size /\
    ((hit=none/\∀j p,j<i->xs[j]?≠some (k,p))\/∃j p,hit=some j/\j<i/\xs[j]?=some (k,p))) _ ?_ ?_ _ _
   ⟨rfl,0,none,rfl,by rw[placesWithHash,List.range_eq_range',Nat.sub_zero],Nat.zero_le _,.inl ⟨rfl,fun _ _ h=>absurd h (Nat.not_lt_zero _)⟩⟩
  ·rintro x bI b s' ⟨rfl,i,hit,rfl,hr,hi,hH⟩
   obtain⟨hix,hxn,hpx,hskip,hrest⟩:=filter_range'_cons _ _ _ _ _ hr.symm
   have hlt:x<es.size:=by omega
   have hrest':bI=(List.range' (x+1) (es.size-(x+1))).filter (fun i=>(es[i]?.map (·.hash)) == some (bA P w k)):=by rw[hrest];congr 2;omega
   obtain⟨⟨k',b,v'⟩,hkv⟩:∃y,xs[x]?=some y:=⟨xs[x]'(by rw[<-hsz];exact hlt),List.getElem?_eq_getElem _⟩
   have hib:bH P w s'.heap k' b:=his _ (List.mem_of_getElem? hkv)
   have hex:es[x]?=some ⟨bA P w k',b,v'⟩:=by rw[eat x,hkv];rfl
   have hHx:(hit=none/\∀j p,j<x->xs[j]?≠some (k,p))\/∃j p,hit=some j/\j<x/\xs[j]?=some (k,p):=by
    rcases hH with⟨h0,hno⟩ | ⟨j,p,h1,hji,hj⟩
    ·refine .inl ⟨h0,fun j p hjx hj=>?_⟩
     rcases Nat.lt_or_ge j i with h | h
     ·exact hno j p h hj
     ·have:=hskip j h hjx
      rw[haskey j p hj]at this
      exact absurd this (by decide)
    ·exact .inr ⟨j,p,h1,by omega,hj⟩
   have hstay:¬ k'=k->((hit=none/\∀j p,j<x+1->xs[j]?≠some (k,p))\/∃j p,hit=some j/\j<x+1/\xs[j]?=some (k,p)):=by
    intro hne
    rcases hHx with⟨h0,hno⟩ | ⟨j,p,h1,hjx,hj⟩
    ·refine .inl ⟨h0,fun j p hjx hj=>?_⟩
     rcases Nat.lt_or_ge j x with h | h
     ·exact hno j p h hj
     ·have hjx':j=x:=by omega
      subst hjx'
      rw[hkv]at hj
      injection hj with hj
      injection hj with hj
      exact hne hj
    ·exact .inr ⟨j,p,h1,by omega,hj⟩
   rw[hex]
   dsimp only
   by_cases hh:(bA P w k' == bA P w k)=true
   ·rw[if_pos hh]
    refine wpAny_bind (wpAny_dictEpoch ho hd (wpAny_bind (fO (x:=k') (y:=k) hu hib hkey (wpAny_bind (wpAny_dictEpoch ho hd ?_)))))
    show wpAny _ _ (if (ep != ep)=true then _ else _) _ E _
    rw[if_neg (by simp)]
    by_cases hkk:k'=k
    ·rw[decide_eq_true hkk]
     rw[hkk]at hkv
     rcases hHx with⟨rfl,_⟩ | ⟨j,p,_,hjx,hj⟩
     ·rw[if_pos rfl]
      simp only[Option.isSome_none,Bool.false_eq_true,if_false]
      refine wpAny_bind (wpAny_rule (wpAny_ite_split (fun _=>wpAny_pure (wpAny_pure (hsome x _ hkv))) (fun _=>wpAny_pure ⟨rfl,x+1,some x,rfl,hrest',hlt,.inr ⟨x,_,rfl,Nat.lt_succ_self x,hkv⟩⟩)))
     ·exact absurd (Bk hn hj hkv) (by omega)
    ·rw[decide_eq_false hkk]
     simp only[Bool.false_eq_true,if_false]
     refine wpAny_bind (wpAny_rule ?_)
     first | rw[if_neg (by simp)] | skip
     exact wpAny_pure ⟨rfl,x+1,hit,rfl,hrest',hlt,hstay hkk⟩
   ·rw[if_neg hh]
    refine wpAny_pure ⟨rfl,x+1,hit,rfl,hrest',hlt,hstay ?_⟩
    intro hkk
    rw[hkk]at hh;simp at hh
  ·rintro b s' ⟨rfl,i,hit,rfl,hr,hi,hH⟩
   have hall:∀j,i≤j->j<es.size->((es[j]?.map (·.hash)) == some (bA P w k))=false:=by
    intro j h1 h2
    have:=List.filter_eq_nil_iff.mp hr.symm j (List.mem_range'_1.mpr ⟨h1,by omega⟩)
    simpa using this
   rcases hH with⟨rfl,hno⟩ | ⟨j,p,rfl,_,hj⟩
   ·refine wpAny_pure (hnone (nokey fun j hj=>?_))
    rcases Nat.lt_or_ge j i with h | h
    ·exact .inr fun p=>hno j p h
    ·exact .inl (hall j h hj)
   ·exact wpAny_pure (hsome j p hj)
theorem fe:∀{xs:GP} (_:(xs.map (·.1)).Nodup) {i:Nat} {p:Value×Value},xs[i]?=some (k,p)->i4 xs k=some p.2
 | [],_,_,_,hx=>by simp at hx
 | x::r,hn,0,p,hx=>by
  simp only[List.getElem?_cons_zero,Option.some.injEq]at hx
  subst hx;simp[i4]
 | x::r,hn,i+1,p,hx=>by
  rw[List.map_cons,List.nodup_cons]at hn
  simp only[List.getElem?_cons_succ]at hx
  have hmem:k∈r.map (·.1):=List.mem_map.mpr ⟨(k,p),List.mem_of_getElem? hx,rfl⟩
  have hne:¬ x.1=k:=fun e=>hn.1 (e▸hmem)
  have:=fe hn.2 hx
  simpa[i4,List.find?_cons,hne] using this
theorem iq (h:∀(j:Nat) p,xs[j]?≠some (k,p)):i4 xs k=none:=by
 have:(xs.find? fun x=>decide (x.1=k))=none:=by
  rw[List.find?_eq_none]
  intro x hx hk
  obtain⟨j,hj⟩:=List.mem_iff_getElem?.mp hx
  have hk':x.1=k:=of_decide_eq_true hk
  exact h j x.2 (by rw[hj,<-hk'])
 simp[i4,this]
theorem kE {Q:Option Value->Shared->Prop}(hu:A.units<cLine)(hkey:bH P w s.heap k key)(hm:GDict P w s.heap d xs ep)(q:Q (i4 xs k) { s with toks:=s.toks+bJ k }):wpAny (model P w) A (dictGet d key) Q E s:=by
 obtain⟨o,es,ho,_,hd,he,his,hn⟩:=hm
 unfold dictGet
 try with_reducible refine wpAny_holding ?_
 refine wpAny_bind (jE hu hkey (wpAny_bind (tj (s:={ s with toks:=s.toks+bJ k }) hu hkey ho hd he his hn ?_ ?_)))
 ·intro hno
  rw[iq hno]at q
  exact wpAny_pure q
 ·intro j p hj
  rw[fe hn hj]at q
  refine wpAny_bind (wpAny_dictEntries (s:={ s with toks:=s.toks+bJ k }) ho hd ?_)
  rw[<-Array.getElem?_toList,he,List.getElem?_map,hj]
  exact wpAny_pure q
def kX (xs:GP)(k:GK)(key v:Value):GP:=if (i4 xs k).isSome=true then xs.map fun x=>if x.1=k then (x.1,x.2.1,v) else x else xs++[(k,key,v)]
theorem oX (xs:GP)(k:GK)(v:Value):(xs.map fun x=>if x.1=k then (x.1,x.2.1,v) else x).map (·.1)=xs.map (·.1):=by
 rw[List.map_map]
 refine List.map_congr_left fun x _=>?_
 show (if x.1=k then (x.1,x.2.1,v) else x).1=x.1
 split<;>rfl
theorem kH (v:Value):∀{xs:GP} {j:Nat} {p:Value×Value},(xs.map (·.1)).Nodup->xs[j]?=some (k,p)->(xs.map (gf P w)).modify j (fun e=>{ e with val:=v })=(xs.map fun x=>if x.1=k then (x.1,x.2.1,v) else x).map (gf P w)
 | [],_,_,_,hj=>by simp at hj
 | x::r,0,p,hn,hj=>by
  rw[List.map_cons,List.nodup_cons]at hn
  simp only[List.getElem?_cons_zero,Option.some.injEq]at hj
  subst hj
  have er:(r.map fun x=>if x.1=k then (x.1,x.2.1,v) else x)=r:=by
   conv=>rhs;rw[<-List.map_id r]
   refine List.map_congr_left fun x hx=>?_
   rw[if_neg fun e:x.1=k=>hn.1 (e▸List.mem_map.mpr ⟨x,hx,rfl⟩)]
   rfl
  rw[List.map_cons,List.map_cons,er,if_pos rfl]
  rfl
 | x::r,j+1,p,hn,hj=>by
  rw[List.map_cons,List.nodup_cons]at hn
  simp only[List.getElem?_cons_succ]at hj
  have hmem:k∈r.map (·.1):=List.mem_map.mpr ⟨(k,p),List.mem_of_getElem? hj,rfl⟩
  have ih:=kH v hn.2 hj
  rw[List.map_cons,List.map_cons,List.map_cons,if_neg fun e:x.1=k=>hn.1 (e▸hmem),<-ih]
  rfl
theorem wk {Q:Unit->Shared->Prop}(hu:A.units<cLine)(hkey:bH P w s.heap k key)(hm:GDict P w s.heap d xs ep)(hsz:xs.length≤sizeLine)
  (hQ:∀h' ep',((i4 xs k).isSome=true->ep'=ep)->GDict P w h' d (kX xs k key v) ep'->Heap.SameBut d s.heap h'->Q () { s with heap:=h',toks:=s.toks+bJ k }):wpAny (model P w) A (dictSet d key v) Q E s:=by
 obtain⟨o,es,ho,hc,hd,he,his,hn⟩:=hm
 have hes:es.size=xs.length:=by rw[<-Array.length_toList,he,List.length_map]
 unfold dictSet
 try with_reducible refine wpAny_holding ?_
 refine wpAny_bind (jE hu hkey ?_)
 unfold dictSetHashed
 try with_reducible refine wpAny_holding ?_
 refine wpAny_bind (tj (s:={ s with toks:=s.toks+bJ k }) hu hkey ho hd he his hn ?_ ?_)
 ·intro hno
  have hnot:k∉xs.map (·.1):=fun hm=>by
   obtain⟨x,hx,e⟩:=List.mem_map.mp hm
   obtain⟨j,hj⟩:=List.mem_iff_getElem?.mp hx
   exact hno j x.2 (by rw[hj,<-e])
  have ep1:kX xs k key v=xs++[(k,key,v)]:=by unfold kX;rw[if_neg (by rw[iq hno];exact Bool.false_ne_true)]
  rw[ep1]at hQ
  refine wpAny_bind (wpAny_rule (wpAny_updateDictKeys (hz:=by omega) (s:={ s with toks:=s.toks+bJ k }) ho hd (hQ _ (ep+1) (fun z=>by rw[iq hno]at z;cases z) ⟨_,_,Heap.get?_update_self _ ho (Obj.isFreed_of_dict (Obj.data_mapDictKeys hd _)),
   hc.mapDictKeys _,Obj.data_mapDictKeys hd _,?_,?_,?_⟩ (Heap.SameBut.update ..))))
  ·simp[he,gf]
  ·intro x hx
   rcases List.mem_append.mp hx with hx | hx
   ·exact iz (his x hx) ho hd (Heap.SameBut.update ..)
   ·simp only[List.mem_singleton]at hx
    subst hx
    exact iz hkey ho hd (Heap.SameBut.update ..)
  ·rw[List.map_append,List.nodup_append]
   refine⟨hn,by simp,?_⟩
   intro x hx y hy
   simp only[List.map_cons,List.map_nil,List.mem_singleton]at hy
   subst hy
   exact fun e=>hnot (e▸hx)
 ·intro j p hj
  have ep1:kX xs k key v=xs.map fun x=>if x.1=k then (x.1,x.2.1,v) else x:=by unfold kX;rw[if_pos (by rw[fe hn hj];rfl)]
  rw[ep1]at hQ
  refine wpAny_bind (wpAny_rule (wpAny_bind (wpAny_updateDict (s:={ s with toks:=s.toks+bJ k }) ho hd (wpAny_point (hQ _ ep (fun _=>rfl) ⟨_,_,Heap.get?_update_self _ ho (Obj.isFreed_of_dict (Obj.data_mapDict hd _)),
   hc.mapDict _,Obj.data_mapDict hd _,?_,?_,?_⟩ (Heap.SameBut.update ..))))))
  ·have:=kH (P:=P) (w:=w) v hn hj
   rw[<-he]at this
   obtain⟨l⟩:=es
   simpa using this
  ·intro x hx
   obtain⟨y,hy,rfl⟩:=List.mem_map.mp hx
   split<;>exact iz (his y hy) ho hd (Heap.SameBut.update ..)
  ·rw[oX];exact hn
theorem BN {Q:Value->Shared->Prop}(hu:A.in1.units<cLine)(hkey:bH P w s.heap k key)(hd:(d == sysModules)=false)(hm:GDict P w s.heap d xs ep)
  (h:Q (.bool (i4 xs k).isSome) { s with toks:=s.toks+bJ k }):wpAny (model P w) A (compareOp .In key (.ref d)) Q E s:=by
 show wpAny _ _ (do return .bool (<-contains (.ref d) key)) Q E s
 refine wpAny_bind ?_
 unfold contains
 try with_reducible refine wpAny_holding ?_
 refine wpAny_bind (wpAny_specialOf hm.typeIs slot_dict_contains.lookup ?_)
 show wpAny _ _ (if (some (Value.builtin "dict.__contains__") == some Value.none)=true then _ else _) _ E s
 rw[if_neg (by rw[beq_builtin_none];exact Bool.false_ne_true)]
 refine wpAny_bind (wpAny_callSpecialUnlessNone?_slot (name:=Str.ofString "__contains__") hm.typeIs slot_dict_contains
  (wpAny_call_entry slot_dict_contains hm.typeIs entry_dict_contains ?_ (args_dict_contains _ _)))
 show wpAny _ _ (dictGet d key>>=_) _ _ s
 refine wpAny_bind (kE hu hkey hm ?_)
 cases hf:i4 xs k with
 | some p =>
  rw[hf]at h
  show wpAny _ _ (ret (.bool true)) _ _ _
  exact wpAny_pure ⟨_,rfl,wpAny_truthy_bool (wpAny_pure h)⟩
 | none =>
  rw[hf]at h
  show wpAny _ _ (Builtin.Dict.pendingKey? d key>>=_) _ _ _
  exact wpAny_bind (wpAny_pendingKey_other hd (wpAny_pure ⟨_,rfl,wpAny_truthy_bool (wpAny_pure h)⟩))
theorem xE {p:Value}{Q:Value->Shared->Prop}(hu:A.in1.units<cLine)(hkey:bH P w s.heap k key)(hm:GDict P w s.heap d xs ep)(hp:i4 xs k=some p)
  (h:Q p { s with toks:=s.toks+bJ k }):wpAny (model P w) A (getItem (.ref d) key) Q E s:=by
 unfold getItem
 try with_reducible refine wpAny_holding ?_
 refine wpAny_bind (wpAny_sequenceKey hm.typeIs (by decide) ?_)
 refine wpAny_bind (wpAny_callSpecial?_slot (name:=Str.ofString "__getitem__") hm.typeIs slot_dict_getitem
  (wpAny_call_entry slot_dict_getitem hm.typeIs entry_dict_getitem ?_ (args_dict_getitem _ _)))
 show wpAny _ _ (dictGet d key>>=_) _ _ s
 refine wpAny_bind (kE hu hkey hm ?_)
 rw[hp]
 exact wpAny_pure ⟨p,rfl,wpAny_pure h⟩
theorem pX {Q:Unit->Shared->Prop}(hu:A.in1.units<cLine)(hkey:bH P w s.heap k key)(hm:GDict P w s.heap d xs ep)(hsz:xs.length≤sizeLine)
  (hQ:∀h' ep',((i4 xs k).isSome=true->ep'=ep)->GDict P w h' d (kX xs k key v) ep'->Heap.SameBut d s.heap h'->Q () { s with heap:=h',toks:=s.toks+bJ k }):wpAny (model P w) A (setItem (.ref d) key v) Q E s:=by
 unfold setItem
 try with_reducible refine wpAny_holding ?_
 refine wpAny_bind (wpAny_sequenceKey hm.typeIs (by decide) ?_)
 refine wpAny_bind (wpAny_callSpecial?_slot (name:=Str.ofString "__setitem__") hm.typeIs slot_dict_setitem
  (wpAny_call_entry slot_dict_setitem hm.typeIs entry_dict_setitem ?_ (args_dict_setitem _ _ _)))
 show wpAny _ _ (Builtin.Dict.notOrdered "__setitem__" ⟨[.ref d,key,v],[]⟩>>=_) _ _ s
 refine wpAny_bind (wpAny_notOrdered_dict hm.typeIs ?_)
 show wpAny _ _ (dictSet d key v>>=_) _ _ s
 exact wpAny_bind (wk hu hkey hm hsz fun h' ep' e' hm' hs'=>wpAny_pure ⟨.none,rfl,wpAny_pure (hQ h' ep' e' hm' hs')⟩)
theorem nj (hd:(d == sysModules)=false)(dflt:Value):MeetsIn P w (Builtin.«dict.get» ⟨[.ref d,key,dflt],[]⟩) (fun A R s=>A.in1.units<cLine/\∃k xs ep,bH P w s.heap k key/\GDict P w s.heap d xs ep /\
   R (.ok (.ret ((i4 xs k).getD dflt))) { s with toks:=s.toks+bJ k }) :=
 .of_wp fun A R s ⟨hu,k,xs,ep,hkey,hm,h⟩=>by
  show wpAny _ _ (dictGet d key>>=_) _ _ s
  refine wpAny_bind (kE hu hkey hm ?_)
  cases hf:i4 xs k with
  | some v =>
   rw[hf]at h
   exact wpAny_pure ⟨v,rfl,h⟩
  | none =>
   rw[hf]at h
   show wpAny _ _ (Builtin.Dict.missed d key>>=_) _ _ _
   exact wpAny_bind (wpAny_missed_other hd (wpAny_pure ⟨dflt,rfl,h⟩))
theorem kA (hd:(d == sysModules)=false):MeetsIn P w (Builtin.«dict.get» ⟨[.ref d,key],[]⟩) (fun A R s=>A.in1.units<cLine/\∃k xs ep,bH P w s.heap k key/\GDict P w s.heap d xs ep /\
   R (.ok (.ret ((i4 xs k).getD .none))) { s with toks:=s.toks+bJ k }) :=
 .of_wp fun A R s ⟨hu,k,xs,ep,hkey,hm,h⟩=>by
  show wpAny _ _ (dictGet d key>>=_) _ _ s
  refine wpAny_bind (kE hu hkey hm ?_)
  cases hf:i4 xs k with
  | some v =>
   rw[hf]at h
   exact wpAny_pure ⟨v,rfl,h⟩
  | none =>
   rw[hf]at h
   show wpAny _ _ (Builtin.Dict.missed d key>>=_) _ _ _
   exact wpAny_bind (wpAny_missed_other hd (wpAny_pure ⟨.none,rfl,h⟩))
end
end L2
namespace L2
open PySem PySem.Spec PyProof.Rows
def KeyV (K:PySem.W.Frag)(H:Hp):GK->V->Prop
 | .inl k,v=>v=kV k
 | .inr ks,v=>∃b,v=.ref b/\SqT K H b (ks.map kV)
abbrev GV:=List (GK×V×V)
def eh (p:GK×V×V)(x:GK×Value×Value):Prop:=p.1=x.1/\RelV p.2.1 x.2.1/\RelV p.2.2 x.2.2
def cA (P:Program)(w:World)(a:Addr)(kvs:GV)(ep:Nat):HO :=
 .ext fun h=>∃o es xs,h.get? a=some o/\o.ExactDict/\o.data=.dict es ep/\es.toList=xs.map (gf P w)/\Paired eh kvs xs
def GAt (P:Program)(w:World)(K:PySem.W.Frag)(H:Hp)(a:Addr)(kvs:GV)(ep:Nat):Prop :=
 H a=some (cA P w a kvs ep)/\(kvs.map (·.1)).Nodup/\(a == sysModules)=false/\kvs.length≤100000/\∀p∈kvs,KeyV K H p.1 p.2.1
def bW (kvs:GV)(k:GK):Option V:=(kvs.find? fun x=>decide (x.1=k)).map (·.2.2)
def cI (kvs:GV)(k:GK)(y v:V):GV:=if (bW kvs k).isSome=true then kvs.map fun x=>if x.1=k then (x.1,x.2.1,v) else x else kvs++[(k,y,v)]
section
variable {X:Cx}{pins:List (Addr×Obj)}{σ:St}{H:Hp}{s:Shared}{a b:Addr}{kvs:GV}{xs:GP}{k:GK}{ep:Nat}
theorem cq {y:V}{u:Value}(I:Inv X pins σ H s)(h:KeyV X.K H k y)(r:RelV y u):bH X.prog X.w s.heap k u:=by
 cases k with
 | inl k =>
  obtain rfl:y=kV k:=h
  cases k with
  | inl i=>obtain⟨t,rfl⟩:=r;exact jL i t
  | inr x=>obtain⟨t,rfl⟩:=r;exact dY x t
 | inr ks =>
  obtain⟨b,rfl,hb⟩:=h
  obtain rfl:u=Value.ref b:=r
  obtain⟨its,r,⟨o,h1,h2,n,h3⟩,_⟩:=I.tuple hb
  exact⟨b,rfl,o,its.toArray,n,h1,h2,h3,by simpa using d6 (ks:=ks) r⟩
theorem kC:∀{kvs:GV} {xs:GP},Paired eh kvs xs->∀x∈xs,∃p∈kvs,eh p x
 | _,_,.nil,x,hx=>by cases hx
 | _,_,.cons r t,x,hx=>by
  rcases List.mem_cons.mp hx with rfl | hx
  ·exact⟨_,List.mem_cons_self,r⟩
  ·obtain⟨p,hp,h⟩:=kC t x hx;exact⟨p,List.mem_cons_of_mem _ hp,h⟩
theorem jh:∀{kvs:GV} {xs:GP},Paired eh kvs xs->xs.map (·.1)=kvs.map (·.1)
 | _,_,.nil=>rfl
 | _,_,.cons r t=>by rw[List.map_cons,List.map_cons,jh t,r.1]
theorem cX:∀{kvs:GV} {xs:GP},Paired eh kvs xs->∀k,(bW kvs k=none/\i4 xs k=none)\/∃v u,bW kvs k=some v/\i4 xs k=some u/\RelV v u
 | _,_,.nil,k=>.inl ⟨rfl,rfl⟩
 | _,_,.cons (a:=p) (b:=x) r t,k=>by
  unfold bW i4
  rw[List.find?_cons,List.find?_cons,<-r.1]
  by_cases e:p.1=k
  ·rw[decide_eq_true e]
   exact .inr ⟨_,_,rfl,rfl,r.2.2⟩
  ·rw[decide_eq_false e]
   exact cX t k
theorem gn {kvs:GV}{xs:GP}(r:Paired eh kvs xs)(k:GK):(i4 xs k).isSome=(bW kvs k).isSome:=by
 rcases cX r k with⟨e1,e2⟩ | ⟨v0,u0,e1,e2,_⟩<;>rw[e1,e2]<;>rfl
theorem kF:∀{kvs:GV} {xs:GP} {p x},Paired eh kvs xs->eh p x->Paired eh (kvs++[p]) (xs++[x])
 | _,_,_,_,.nil,r=>.cons r .nil
 | _,_,_,_,.cons r t,r2=>.cons r (kF t r2)
theorem lh {v:V}{u:Value}(hv:RelV v u):∀{kvs:GV} {xs:GP},Paired eh kvs xs->Paired eh (kvs.map fun x=>if x.1=k then (x.1,x.2.1,v) else x) (xs.map fun x=>if x.1=k then (x.1,x.2.1,u) else x)
 | _,_,.nil=>.nil
 | _,_,.cons (a:=p) (b:=x) r t=>by
  rw[List.map_cons,List.map_cons]
  refine .cons ?_ (lh hv t)
  rw[<-r.1]
  by_cases e:p.1=k
  ·rw[if_pos e,if_pos e];exact⟨rfl,r.2.1,hv⟩
  ·rw[if_neg e,if_neg e];exact r
theorem lK {y v:V}{iv u:Value}(r:Paired eh kvs xs)(hy:RelV y iv)(hv:RelV v u):Paired eh (cI kvs k y v) (kX xs k iv u):=by
 unfold cI kX
 rcases cX r k with⟨e1,e2⟩ | ⟨v0,u0,e1,e2,_⟩
 ·rw[e1,e2,if_neg (by decide),if_neg (by decide)];exact kF r ⟨rfl,hy,hv⟩
 ·rw[e1,e2];exact lh hv r
theorem bn (I:Inv X pins σ H s)(h:GAt X.prog X.w X.K H a kvs ep):∃xs,GDict X.prog X.w s.heap a xs ep/\Paired eh kvs xs:=by
 obtain⟨h1,h2,h3,h4,h5⟩:=h
 obtain⟨⟨o,es,xs,g1,g2,g3,g4,g5⟩,_⟩:=(show ObjOk X.prog X.w H s.heap a (cA X.prog X.w a kvs ep) from I.hok a _ h1)
 refine⟨xs,⟨o,es,g1,g2,g3,g4,fun x hx=>?_,by rw[jh g5];exact h2⟩,g5⟩
 obtain⟨p,hp,r1,r2,_⟩:=kC g5 x hx
 rw[<-r1]
 exact cq I (h5 p hp) r2
theorem jZ (h':Heap)(xs:GP)(r:Paired eh kvs xs)(g:GDict X.prog X.w h' a xs ep)(H':Hp):ObjOk X.prog X.w H' h' a (cA X.prog X.w a kvs ep):=by
 obtain⟨o,es,g1,g2,g3,g4,_⟩:=g
 exact⟨⟨o,es,xs,g1,g2,g3,g4,r⟩,⟨o,g1⟩,fun h1 h2 ⟨o,es,xs,g1,g2⟩ k=>⟨o,es,xs,k o g1,g2⟩⟩
end
section
variable {X:Cx}{K:PySem.W.Frag}{P:Program}{w:World}
def zz (P:Program)(w:World):TE:=fun _ H Q=>∀p,H p=none->(p == sysModules)=false->Q (.ref p) (al H p (cA P w p [] 0))
theorem gS {pos:Pos}(hP:X.prog=P:=by rfl)(hw:X.w=w:=by rfl):JE X (.Dict [] [] pos) (zz P w):=by
 refine .mk ?_
 subst hP hw
 exact fun pins s σ H Q I h=>wpAny_Dict_empty ⟨.ref s.heap.objs.size,_,I.laid (a:=s.heap.objs.size) (o:=cA X.prog X.w s.heap.objs.size [] 0) (t':=s.toks) (fun _ _ q=>Heap.get?_push_of_some _ q) (Nat.le_refl _)
  (jZ _ [] .nil ⟨_,#[],Heap.get?_push_size _ rfl,⟨rfl,rfl,rfl⟩,rfl,rfl,(fun _ hx=>by cases hx),List.nodup_nil⟩ _),rfl,h _ (I.hok.fresh (Nat.le_refl _)) (beq_eq_false_iff_ne.mpr (Ne.symm (Nat.ne_of_lt I.big)))⟩
def zU (P:Program)(w:World)(K:PySem.W.Frag)(neg:Bool):R2:=fun x y H Q=>(∃a kvs ep k,y=.ref a/\GAt P w K H a kvs ep/\KeyV K H k x/\Q (.bl (neg^^(bW kvs k).isSome)) H)\/sS P w K neg x y H Q
theorem wz (hu:X.A.units+64<cLine)(hK:X.K=K:=by rfl)(hP:X.prog=P:=by rfl)(hw:X.w=w:=by rfl):Irr (bq X (compareOp .In) (zU P w K false)):=by
 refine .mk ?_
 subst hK hP hw
 intro pins s σ H x y v u Q I rx ry h
 rcases h with⟨a,kvs,ep,k,rfl,h1,h2,q⟩ | h
 ·obtain rfl:u=Value.ref a:=ry
  obtain⟨xs,g,r⟩:=bn I h1
  refine BN (show X.A.units+1<cLine by omega) (cq I h2 rx) h1.2.2.1 g ?_
  rw[gn r]
  exact⟨.bl _,H,I.tok _,rfl,by simpa using q⟩
 ·exact (oG hu rfl rfl rfl).out pins s σ H _ _ v u Q I rx ry h
theorem vq {A:Around}{E:Value->Shared->Prop}{s:Shared}{d:Addr}{xs:GP}{ep:Nat}{k:GK}{key:Value}{Q:Value->Shared->Prop}(hu:A.in1.units<cLine)(hkey:bH P w s.heap k key)(hd:(d == sysModules)=false)(hm:GDict P w s.heap d xs ep)
  (h:Q (.bool (!(i4 xs k).isSome)) { s with toks:=s.toks+bJ k }):wpAny (model P w) A (compareOp .NotIn key (.ref d)) Q E s:=by
 show wpAny _ _ (do return .bool (!(<-contains (.ref d) key))) Q E s
 refine wpAny_bind ?_
 unfold contains
 try with_reducible refine wpAny_holding ?_
 refine wpAny_bind (wpAny_specialOf hm.typeIs slot_dict_contains.lookup ?_)
 show wpAny _ _ (if (some (Value.builtin "dict.__contains__") == some Value.none)=true then _ else _) _ E s
 rw[if_neg (by rw[beq_builtin_none];exact Bool.false_ne_true)]
 refine wpAny_bind (wpAny_callSpecialUnlessNone?_slot (name:=Str.ofString "__contains__") hm.typeIs slot_dict_contains
  (wpAny_call_entry slot_dict_contains hm.typeIs entry_dict_contains ?_ (args_dict_contains _ _)))
 show wpAny _ _ (dictGet d key>>=_) _ _ s
 refine wpAny_bind (kE hu hkey hm ?_)
 cases hf:i4 xs k with
 | some p =>
  rw[hf]at h
  show wpAny _ _ (ret (.bool true)) _ _ _
  exact wpAny_pure ⟨_,rfl,wpAny_truthy_bool (wpAny_pure h)⟩
 | none =>
  rw[hf]at h
  show wpAny _ _ (Builtin.Dict.pendingKey? d key>>=_) _ _ _
  exact wpAny_bind (wpAny_pendingKey_other hd (wpAny_pure ⟨_,rfl,wpAny_truthy_bool (wpAny_pure h)⟩))
theorem sV (hu:X.A.units+64<cLine)(hK:X.K=K:=by rfl)(hP:X.prog=P:=by rfl)(hw:X.w=w:=by rfl):Irr (bq X (compareOp .NotIn) (zU P w K true)):=by
 refine .mk ?_
 subst hK hP hw
 intro pins s σ H x y v u Q I rx ry h
 rcases h with⟨a,kvs,ep,k,rfl,h1,h2,q⟩ | h
 ·obtain rfl:u=Value.ref a:=ry
  obtain⟨xs,g,r⟩:=bn I h1
  refine vq (show X.A.units+1<cLine by omega) (cq I h2 rx) h1.2.2.1 g ?_
  rw[gn r]
  exact⟨.bl _,H,I.tok _,rfl,by simpa using q⟩
 ·exact (cS hu rfl rfl rfl).out pins s σ H _ _ v u Q I rx ry h
def B1 (P:Program)(w:World)(K:PySem.W.Frag):R2:=fun x y H Q=>(∃a kvs ep k v,x=.ref a/\GAt P w K H a kvs ep/\KeyV K H k y/\bW kvs k=some v/\Q v H)\/Bt K w x y H Q
theorem fH (hu:X.A.units+64<cLine)(hK:X.K=K:=by rfl)(hP:X.prog=P:=by rfl)(hw:X.w=w:=by rfl):Irr (vi X (B1 P w K)):=by
 refine .mk ?_
 subst hK hP hw
 intro value slice pins s σ H x y v u Q I rx ry h hs
 rcases h with⟨a,kvs,ep,k,z,rfl,h1,h2,h3,q⟩ | h
 ·obtain rfl:v=Value.ref a:=rx
  obtain⟨xs,g,r⟩:=bn I h1
  rcases cX r k with⟨e1,_⟩ | ⟨z',p,e1,e2,rv⟩
  ·rw[e1]at h3;cases h3
  ·rw[e1]at h3
   cases h3
   exact tail_any g.typeIs slot_dict_getitem.lookup (xE (show X.A.units+1<cLine by omega) (cq I h2 ry) g e2 ⟨z,H,I.tok _,rv,q⟩) hs
 ·exact (aU hu rfl rfl).out value slice pins s σ H _ _ v u Q I rx ry h hs
def Ag (P:Program)(w:World)(K:PySem.W.Frag)(td ty tv:TE):TS:=fun D σ H=>tv σ H fun v H1=>td σ H1 fun x H2=>ty σ H2 fun y H3=>match x with
 | .ref a=>∃kvs ep k,GAt P w K H3 a kvs ep/\KeyV K H3 k y/\∀ep',((bW kvs k).isSome=true->ep'=ep)->D.nx σ (al H3 a (cA P w a (cI kvs k y v) ep'))
 | _=>False
theorem fA {o i value:Expr}{pos pos':Pos}{td ty tv:TE}(hu:X.A.units+64<cLine)(ho:JE X o td)(hi:JE X i ty)(hv:JE X value tv)(hK:X.K=K:=by rfl)(hP:X.prog=P:=by rfl)(hw:X.w=w:=by rfl)(hs:swapsWith value (some (.Subscript o i pos')) pos.line X.env=pure false:=by rfl) :
  JS X (.Assign [.Subscript o i pos'] value pos) (Ag P w K td ty tv):=by
 refine .mk ?_
 subst hK hP hw
 intro pins s σ H D I h
 refine wpAny_Assign_Subscript (bh (hv.out pins s σ H _ I h) fun r s1 ⟨v,H1,I1,rv,q1⟩=>bh (ho.out pins s1 σ H1 _ I1 q1) fun u s2 ⟨x,H2,I2,rx,q2⟩=>bh (hi.out pins s2 σ H2 _ I2 q2) fun iv s3 ⟨y,H3,I3,ry,q3⟩=>?_) hs
 dsimp only at q3
 cases x with
 | ref a =>
  obtain⟨kvs,ep,k,h1,h2,q⟩:=q3
  obtain rfl:u=Value.ref a:=rx
  obtain⟨xs,g,rl⟩:=bn I3 h1
  have hl:=h1.2.2.2.1
  have hb:(100000:Nat)<sizeLine:=by rw[sizeLine_eq];decide
  refine pX (show X.A.units+1<cLine by omega) (cq I3 h2 ry) g (by rw[<-rl.length];omega) fun h' ep' he' dd' hs=>?_
  obtain⟨o',_,ho',_⟩:=id dd'
  exact⟨σ,_,fk I3 (by rw[h1.1];exact True.intro) hs ⟨o',ho'⟩ (jZ h' _ (lK rl ry rv) dd' _),q ep' fun z=>he' (by rw[gn rl];exact z)⟩
 | _=>exact q3.elim
def sM (P:Program)(w:World)(K:PySem.W.Frag):V->List V->Hp->VK->Prop:=fun x vs H Q=>match x,vs with
 | .ref a,[y]=>∃kvs ep k,GAt P w K H a kvs ep/\KeyV K H k y/\Q ((bW kvs k).getD .non) H
 | _,_=>False
theorem xC (hu:X.A.units+64<cLine)(hK:X.K=K:=by rfl)(hP:X.prog=P:=by rfl)(hw:X.w=w:=by rfl):Irr (qe X "dict.get" (sM P w K)):=by
 refine .mk ?_
 subst hK hP hw
 intro pins s σ H x xs v us Q I rx rs h
 unfold sM at h
 split at h
 ·rename_i a y
  obtain⟨kvs,ep,k,h1,h2,q⟩:=h
  obtain rfl:v=Value.ref a:=rx
  obtain⟨u,rfl,ry⟩:=bF rs
  obtain⟨xs,g,rl⟩:=bn I h1
  refine call_meetsIn PySem.F.slot_dict_get g.typeIs PySem.F.entry_dict_get (PySem.F.args_dict_get_2 _ _) (kA h1.2.2.1) ⟨show X.A.units+1<cLine by omega,k,xs,ep,cq I h2 ry,g,?_⟩
  rcases cX rl k with⟨e1,e2⟩ | ⟨z',p,e1,e2,rv⟩
  ·rw[e1]at q
   rw[e2]
   exact⟨.non,H,I.tok _,rfl,q⟩
  ·rw[e1]at q
   rw[e2]
   exact⟨z',H,I.tok _,rv,q⟩
 ·exact h.elim
end
end L2
namespace L2
open PySem PySem.Spec PyProof.Rows
section
variable {P:Program}{w:World}{A:Around}{E:Value->Shared->Prop}{s:Shared}{d it:Addr}{xs:GP}{ep i:Nat}
theorem GDict.size {h:Heap}(hm:GDict P w h d xs ep):∃o es,h.get? d=some o/\o.data=.dict es ep/\es.size=xs.length/\∀j:Nat,es[j]?=(xs[j]?).map (gf P w):=by
 obtain⟨o,es,ho,_,hd,he,_⟩:=hm
 exact⟨o,es,ho,hd,by rw[<-Array.length_toList,he,List.length_map],fun j=>by rw[<-Array.getElem?_toList,he,List.getElem?_map]⟩
theorem yo {Q:Value->Shared->Prop}(hd:(d == sysModules)=false)(hm:GDict P w s.heap d xs ep)
  (hQ:Q (.ref s.heap.objs.size) { s with heap:=s.heap.push { cls:=.type "dict_keyiterator",data:=.fields #[.ref d,.int 0 0,.int xs.length 0,.int ep 0] } }) :
  wpAny (model P w) A (pyIter (.ref d)) Q E s:=by
 obtain⟨o,es,ho,hdat,hsz,_⟩:=hm.size
 have hT:s.TypeIs (.ref d) "dict":=hm.typeIs
 refine wpAny_pyIter_slot hT F.slot_dict_iter (wpAny_call_entry F.slot_dict_iter hT F.entry_dict_iter ?_ (F.args_dict_iter_1 _))
 unfold Builtin.«dict.__iter__»
 refine wpAny_bind ?_
 unfold Builtin.Dict.dictSlotNone
 refine wpAny_bind (wpAny_notOrdered_dict hT ?_)
 show wpAny _ _ (pure (Value.ref d)) _ _ s
 refine wpAny_pure ?_
 show wpAny _ _ (Builtin.Dict.showsAll d>>=_) _ _ s
 unfold Builtin.Dict.showsAll
 rw[if_neg (by rw[hd];exact Bool.false_ne_true)]
 refine wpAny_bind (wpAny_pure ?_)
 refine wpAny_bind (wpAny_dictEntries ho hdat ?_)
 refine wpAny_bind (wpAny_dictEpoch ho hdat ?_)
 refine wpAny_bind (wpAny_newObj_type (wpAny_pure ⟨_,rfl,"dict_keyiterator",_,⟨_,Heap.get?_push_size _ rfl,rfl⟩,F.slot_dict_keyiterator_next.lookup,?_⟩))
 simpa[rawInt,hsz] using hQ
theorem xT {x:GK×Value×Value}{Q:Option Value->Shared->Prop}(hit:s.heap.IsKeyIter it d i xs.length ep)(hm:GDict P w s.heap d xs ep)(hx:xs[i]?=some x)
  (hQ:∀h',h'.IsKeyIter it d (i+1) xs.length ep->Heap.SameBut it s.heap h'->Q (some x.2.1) { s with heap:=h' }):wpAny (model P w) A (pyNext (.ref it)) Q E s:=by
 obtain⟨o,ho,hc,hd⟩:=id hit
 obtain⟨od,es,hod,hdd,hsz,hat⟩:=hm.size
 unfold pyNext
 refine wpAny_bind (wpAny_attempt (wpAny_callSpecial?_slot (name:=Str.ofString "__next__") hit.typeIs F.slot_dict_keyiterator_next
  (wpAny_call_entry F.slot_dict_keyiterator_next hit.typeIs F.entry_dict_keyiterator_next ?_ (F.args_dict_keyiterator_next_1 _))))
 refine wpAny_bind (wpAny_pure ?_)
 refine wpAny_bind ?_
 refine wpAny_bind ?_
 first | refine wpAny_bind (wpAny_typeNameOfWhole_keyiter hit.typeIs (wpAny_pure ?_)) | refine wpAny_bind (wpAny_typeNameOf_keyiter hit.typeIs (wpAny_pure ?_))
 refine wpAny_bind (wpAny_fieldsOf ho hd ?_)
 have hown:Builtin.Dict_items.ownsTuple "dict_keyiterator"=false:=by decide
 simp only[hown,Bool.false_eq_true,if_false]
 show wpAny _ _ (if (Value.ref d == Value.none)=true then _ else _) _ _ s
 rw[if_neg (show ¬ ((Value.ref d == Value.none)=true) from Bool.false_ne_true)]
 refine wpAny_bind (wpAny_pure ?_)
 refine wpAny_bind (wpAny_dictEntries hod hdd ?_)
 rw[if_neg (by rw[hsz];simp)]
 refine wpAny_bind (wpAny_pure ?_)
 refine wpAny_bind (wpAny_dictEpoch hod hdd ?_)
 rw[if_neg (by simp)]
 refine wpAny_pure ?_
 have hex:es[i]?=some (gf P w x):=by rw[hat i,hx];rfl
 simp only[show ¬ ((i:Int)<0) from by omega,if_false,Int.toNat_natCast,hex]
 refine wpAny_bind ?_
 first | refine wpAny_bind (wpAny_typeNameOfWhole_keyiter hit.typeIs (wpAny_pure ?_)) | refine wpAny_bind (wpAny_typeNameOf_keyiter hit.typeIs (wpAny_pure ?_))
 refine wpAny_bind (wpAny_isOneOf_keyiter hit.typeIs ?_)
 show wpAny _ _ (setField (.ref it) 1 (rawInt ((i:Int)+1))>>=_) _ _ s
 refine wpAny_bind (wpAny_setField ho hd (by simp) ?_)
 have hit':(s.heap.update it (Obj.mapFields (·.setIfInBounds 1 (rawInt ((i:Int)+1))))).IsKeyIter it d (i+1) xs.length ep :=
  ⟨_,Heap.get?_update_self _ ho (Obj.isFreed_of_fields (Obj.data_mapFields hd _)),(Obj.cls_mapFields ..).trans hc,by rw[Obj.data_mapFields hd];simp[rawInt]⟩
 refine wpAny_bind (wpAny_holding ?_)
 refine wpAny_bind (wpAny_isOneOf_keyiter (s:={ s with heap:=s.heap.update it (Obj.mapFields (·.setIfInBounds 1 (rawInt ((i:Int)+1)))) }) hit'.typeIs ?_)
 show wpAny _ _ (pure x.2.1) _ _ _
 exact wpAny_pure (wpAny_pure ⟨_,rfl,wpAny_pure (hQ _ hit' (Heap.SameBut.update ..))⟩)
theorem zK {Q:Option Value->Shared->Prop}(hh:A.handled=none)(hit:s.heap.IsKeyIter it d i xs.length ep)(hm:GDict P w s.heap d xs ep)(hx:xs.length≤i)
  (hQ:∀h',Heap.ExtBut it s.heap h'->Q none { s with heap:=h' }):wpAny (model P w) A (pyNext (.ref it)) Q E s:=by
 obtain⟨o,ho,hc,hd⟩:=id hit
 obtain⟨od,es,hod,hdd,hsz,hat⟩:=hm.size
 unfold pyNext
 refine wpAny_bind (wpAny_attempt (wpAny_callSpecial?_slot (name:=Str.ofString "__next__") hit.typeIs F.slot_dict_keyiterator_next
  (wpAny_call_entry F.slot_dict_keyiterator_next hit.typeIs F.entry_dict_keyiterator_next ?_ (F.args_dict_keyiterator_next_1 _))))
 refine wpAny_bind (wpAny_pure ?_)
 refine wpAny_bind ?_
 refine wpAny_bind ?_
 first | refine wpAny_bind (wpAny_typeNameOfWhole_keyiter hit.typeIs (wpAny_pure ?_)) | refine wpAny_bind (wpAny_typeNameOf_keyiter hit.typeIs (wpAny_pure ?_))
 refine wpAny_bind (wpAny_fieldsOf ho hd ?_)
 have hown:Builtin.Dict_items.ownsTuple "dict_keyiterator"=false:=by decide
 simp only[hown,Bool.false_eq_true,if_false]
 show wpAny _ _ (if (Value.ref d == Value.none)=true then _ else _) _ _ s
 rw[if_neg (show ¬ ((Value.ref d == Value.none)=true) from Bool.false_ne_true)]
 refine wpAny_bind (wpAny_pure ?_)
 refine wpAny_bind (wpAny_dictEntries hod hdd ?_)
 rw[if_neg (by rw[hsz];simp)]
 refine wpAny_bind (wpAny_pure ?_)
 refine wpAny_bind (wpAny_dictEpoch hod hdd ?_)
 rw[if_neg (by simp)]
 refine wpAny_pure ?_
 have hge:es.size≤i:=by rw[hsz];exact hx
 simp only[show ¬ ((i:Int)<0) from by omega,if_false,Int.toNat_natCast,Array.getElem?_eq_none hge]
 refine wpAny_bind ?_
 first | refine wpAny_bind (wpAny_typeNameOfWhole_keyiter hit.typeIs (wpAny_pure ?_)) | refine wpAny_bind (wpAny_typeNameOf_keyiter hit.typeIs (wpAny_pure ?_))
 show wpAny _ _ (setField (.ref it) 0 .none>>=_) _ _ s
 refine wpAny_bind (wpAny_setField ho hd (by simp) ?_)
 show wpAny _ _ (newExc (.type "StopIteration") []>>=_) _ _ _
 refine wpAny_bind ?_
 simp only[newExc,newTuple]
 refine wpAny_bind (wpAny_newObj_type ?_ (by size_fits))
 refine wpAny_bind (m:=firstArgMember _ _) (wpAny_of_eq (a:=Value.none) (by first | rfl | (simp only[firstArgMember];rfl)) ?_)
 refine wpAny_newObj_type ?_ (by size_fits)
 simp only[raiseNew]
 refine wpAny_bind (wpAny_handled ?_)
 rw[show A.in1.handled=none from hh]
 refine wpAny_bind (wpAny_pure (wpAny_throw ?_))
 refine wpAny_bind (wpAny_isInstance (T:="StopIteration") (b:=true) ⟨_,Heap.get?_push_size _ rfl,rfl⟩ isSubtype_stop ?_)
 exact wpAny_pure (hQ _ (((Heap.SameBut.update ..).extBut.push _).push _))
end
def Aw (P:Program)(w:World)(K:PySem.W.Frag)(a:Addr)(ks:List V)(ep:Nat):It :=
 ⟨fun i H=>(∃kvs,GAt P w K H a kvs ep/\kvs.map (·.2.1)=ks)/\i<ks.length,fun i H x H'=>H'=H/\ks[i]?=some x,fun i H=>(∃kvs,GAt P w K H a kvs ep/\kvs.map (·.2.1)=ks)/\ks.length≤i⟩
theorem oF:∀{kvs:GV} {xs:GP} {i:Nat} {x:V},Paired eh kvs xs->(kvs.map (·.2.1))[i]?=some x->∃p,xs[i]?=some p/\RelV x p.2.1
 | _,_,_,_,.nil,e=>by simp at e
 | _,_,0,_,.cons r _,e=>by simp at e;subst e;exact⟨_,rfl,r.2.1⟩
 | _,_,i+1,x,.cons _ t,e=>by
  obtain⟨p,h1,h2⟩:=oF (i:=i) (x:=x) t (by simpa using e)
  exact⟨p,by simpa using h1,h2⟩
theorem pF {P:Program}{w:World}{K:PySem.W.Frag}{tg:Expr}(a it:Addr)(ks:List V)(ep:Nat):ie P w K tg (Aw P w K a ks ep) [it] it (fun i h=>h.IsKeyIter it a i ks.length ep) where
 mem:=by simp
 obj:=fun i h st b hb=>by
  have e:b=it:=by simpa using hb
  subst e
  obtain⟨o,e,c,d⟩:=st
  exact⟨o,e,fun v z=>by rw[d]at z;cases z⟩
 keep:=fun i h h' st k=>by
  obtain⟨o,e,r⟩:=st
  exact⟨o,k it (by simp) o e,r⟩
 item:=by
  intro X hP hw hK hc i pins s σ H E I hf st hg
  subst hP hw hK
  obtain⟨⟨kvs,hq,ek⟩,hi⟩:=hg
  obtain⟨xs,g,rl⟩:=bn I hq
  have hn:xs.length=ks.length:=by rw[<-rl.length,<-ek,List.length_map]
  have hx:ks[i]?=some ks[i]:=List.getElem?_eq_getElem hi
  obtain⟨p,hp,rp⟩:=oF (x:=ks[i]) rl (by rw[ek];exact hx)
  obtain⟨f0,f1,f2,f3,f4,f5⟩:=hf it (by simp)
  rw[<-hn]at st
  refine xT st g hp fun h' st' sb=>?_
  have I1:Inv X pins σ H { s with heap:=h' }:=I.turned (t':=s.toks) (fun b o hb e=>(sb.2 b hb).trans e) f0 f1 f3 f4 f5
  obtain⟨o,e,c,d⟩:=id st'
  exact⟨p.2.1,rfl,kO (s:={ s with heap:=h' }) e c d (by decide) ⟨ks[i],H,I1,rp,⟨rfl,hx⟩,by rw[<-hn];exact st',fun b hb=>(hf b hb).1⟩⟩
 done:=by
  intro X hP hw hK hc i pins s σ H E I hf st hg
  subst hP hw hK
  obtain⟨⟨kvs,hq,ek⟩,hi⟩:=hg
  obtain⟨xs,g,rl⟩:=bn I hq
  have hn:xs.length=ks.length:=by rw[<-rl.length,<-ek,List.length_map]
  obtain⟨f0,f1,f2,f3,f4,f5⟩:=hf it (by simp)
  rw[<-hn]at st
  exact zK (I.ok.hd hc) st g (by omega) fun h' eb=>⟨rfl,I.turned (t':=s.toks) (fun b o hb e=>eb b o hb e) f0 f1 f3 f4 f5⟩
 self:=fun _ _ _ _ _ st h=>wpAny_pyIter_keyiter st h
section
variable {X:Cx}{K:PySem.W.Frag}{P:Program}{w:World}{tg:Expr}
def wg (P:Program)(w:World)(K:PySem.W.Frag)(tl:TE):TI:=fun σ H R=>tl σ H fun x H1=>match x with
 | .ref a=>∃kvs ep,GAt P w K H1 a kvs ep/\R (Aw P w K a (kvs.map (·.2.1)) ep) H1
 | _=>False
theorem tL {l:Expr}{tl:TE}(hl:PE X l tl)(hK:X.K=K:=by rfl)(hP:X.prog=P:=by rfl)(hw:X.w=w:=by rfl):PI X tg l (wg P w K tl):=by
 subst hK hP hw
 intro pins s σ H R I h
 refine bh (hl pins s σ H _ I h) fun v s1 ⟨x,H1,I1,r1,q1⟩=>?_
 dsimp only at q1
 cases x with
 | ref a =>
  obtain⟨kvs,ep,g0,q⟩:=q1
  obtain rfl:v=Value.ref a:=r1
  obtain⟨xs,g,rl⟩:=bn I1 g0
  refine yo g0.2.2.1 g ?_
  refine⟨s1.heap.objs.size,[s1.heap.objs.size],_,_,H1,rfl,I1.kept (t':=s1.toks) fun b o e=>Heap.get?_push_of_some _ e,pF a _ _ ep,⟨_,Heap.get?_push_size _ rfl,rfl,by rw[List.length_map,rl.length];rfl⟩,fun b hb=>?_,q⟩
  have e:b=s1.heap.objs.size:=by simpa using hb
  subst e
  exact I1.fpOk (Nat.le_refl _) (I1.hok.fresh (Nat.le_refl _))
 | _=>exact q1.elim
theorem hG {l:Expr}{tl:TE}(hl:JE X l tl)(hK:X.K=K:=by rfl)(hP:X.prog=P:=by rfl)(hw:X.w=w:=by rfl):JI X tg l (wg P w K tl):=.mk (tL hl.out hK hP hw)
end
theorem fE {P:Program}{w:World}{K:PySem.W.Frag}{a:Addr}{ks:List V}{ep:Nat}{g:TG}{tb:TS}{D:im}{σ:St}{H:Hp}(Pv:Nat->St->Hp->Prop)(h0:Pv 0 σ H)
  (hl:∀i σ H,i≤ks.length->Pv i σ H->∃kvs,GAt P w K H a kvs ep/\kvs.map (·.2.1)=ks)
  (hs:∀i x σ H,ks[i]?=some x->Pv i σ H->g x σ H fun σ2 H2=>tb { D with nx:=Pv (i+1),ct:=Pv (i+1),bk:=D.nx } σ2 H2) (hd:∀σ H,Pv ks.length σ H->D.nx σ H) :
  ∃W:Nat->Nat->St->Hp->Prop,(∃m,W 0 m σ H)/\∀i m σ H,W i m σ H ->
   ((Aw P w K a ks ep).stop i H/\D.nx σ H)\/((Aw P w K a ks ep).go i H/\∃N:St->Hp->Prop,(∀σ' H',N σ' H'->∃m',m'<m/\W (i+1) m' σ' H')/\∀x H',(Aw P w K a ks ep).yld i H x H'->g x σ H' fun σ2 H2=>tb { D with nx:=N,ct:=N,bk:=D.nx } σ2 H2):=by
 refine⟨fun i m σ H=>m=ks.length-i/\i≤ks.length/\Pv i σ H,⟨ks.length,by simp,Nat.zero_le _,h0⟩,?_⟩
 rintro i m σ H ⟨rfl,hi,p⟩
 have q1:=hl i σ H hi p
 by_cases hlt:i<ks.length
 ·refine .inr ⟨⟨q1,hlt⟩,Pv (i+1),fun σ' H' p'=>⟨ks.length-(i+1),by omega,rfl,hlt,p'⟩,fun v H' y=>?_⟩
  obtain⟨rfl,e⟩:=y
  exact hs i v σ H' e p
 ·have e:i=ks.length:=by omega
  subst e
  exact .inl ⟨⟨q1,Nat.le_refl _⟩,hd σ H p⟩
section
variable {X:Cx}{K:PySem.W.Frag}{P:Program}{w:World}
theorem mO {d:Addr}(hd:(d == sysModules)=false):MeetsIn P w (Builtin.«dict.__len__» ⟨[.ref d],[]⟩) (fun _ R s=>∃xs ep,GDict P w s.heap d xs ep/\R (.ok (.ret (.int xs.length s.toks))) { s with toks:=s.toks+1 }) :=
 .of_wp fun A R s ⟨xs,ep,hm,h⟩=>by
  obtain⟨o,es,ho,hdat,hsz,_⟩:=hm.size
  show wpAny _ _ (dictSize d>>=_) _ _ s
  unfold dictSize
  refine wpAny_bind (wpAny_bind (wpAny_dictEntries ho hdat (wpAny_pure ?_)))
  show wpAny _ _ (Builtin.Dict.pendingCount d>>=_) _ _ s
  refine wpAny_bind (wpAny_pendingCount_other hd ?_)
  refine wpAny_ret_mkInt ?_
  rw[Nat.add_zero,hsz];exact h
end
end L2
namespace L2
open PySem PySem.Spec PyProof.Rows Rg
def fF (val:Nat->Str)(i:Nat):List Str:=((List.range i).map val).foldl step_dedup []
theorem jq (val:Nat->Str)(i:Nat):fF val (i+1)=step_dedup (fF val i) (val i):=by
 unfold fF;rw[List.range_succ,List.map_append,List.foldl_append];rfl
theorem uE (acc:List Str)(x:Str):acc.length≤(step_dedup acc x).length:=by
 unfold step_dedup
 split
 ·exact Nat.le_refl _
 ·rw[List.length_append];omega
theorem jp (val:Nat->Str){i:Nat}:∀{n:Nat},i≤n->(fF val i).length≤(fF val n).length
 | 0,h=>by rw[Nat.le_zero.mp h];exact Nat.le_refl _
 | n+1,h=>by
  by_cases e:i=n+1
  ·rw[e];exact Nat.le_refl _
  ·have h1:=jp val (i:=i) (n:=n) (by omega)
   have h2:=uE (fF val n) (val n)
   rw[jq]
   omega
def js (ns:List Str):List Str:=ns.foldl step_dedup []
theorem jv (ns:List Str)(n:Nat)(h:n=ns.length):fF (fun i=>ns.getD i "") n=js ns:=by
 unfold fF js
 congr 1
 subst h
 refine List.ext_getElem (by simp) fun i h1 h2=>?_
 rw[List.getElem_map,List.getElem_range,List.getD,List.getElem?_eq_getElem h2]
 rfl
theorem kZ:∀{ns:List Str} {us:List Value},Vals (ns.map V.str) us->StrsAre us ns
 | [],_,.nil=>.nil
 | n::r,_,.cons ⟨t,e⟩ h=>by subst e;exact .cons n t (kZ h)
theorem StrsAre.str_at:∀{vs:List Value} {ss:List Str},StrsAre vs ss->∀(i:Nat) (v:Value),vs[i]?=some v->∃t,v=.str (ss.getD i "") t
 | _,_,.nil,i,v,h=>by simp at h
 | _,_,.cons x t h,0,v,e=>by simp at e;subst e;exact⟨t,rfl⟩
 | _,_,.cons x t h,i+1,v,e=>by
  obtain⟨t',e'⟩:=StrsAre.str_at h i v (by simpa using e)
  exact⟨t',by rw[e'];rfl⟩
def yk:Value->Str
 | .str n _=>n
 | _=>""
def we (es:Array (Int×Value)):List Str:=es.toList.map fun e=>yk e.2
section
variable {prog:Program}{w:World}{A:Around}{E:Value->Shared->Prop}{s:Shared}
def ix (prog:Program)(w:World)(o:Obj)(σ:List Str):Prop :=
 o.ExactSet/\∃es ep t,o.data=.set es ep t/\ElemsOf (PySem.strKind prog w) es.toList/\(we es).Perm σ/\t.fits es.size=true/\Rg.TabOk (w.params.followText "set-order") t
theorem lH {e:Int×Value}{l:List (Int×Value)}(h:ElemsOf (PySem.strKind prog w) l)(he:e∈l):∃tk,e.2=.str (yk e.2) tk:=by
 obtain⟨⟨k,hk,_⟩,_⟩:=h e he
 obtain⟨tk,z⟩:=Value.isStrOf_shape hk
 exact⟨tk,by rw[z];rfl⟩
theorem kY {e:Int×Value}{l:List (Int×Value)}(h:ElemsOf (PySem.strKind prog w) l)(he:e∈l)(v:Str):(PySem.strKind prog w).is v e.2=decide (yk e.2=v):=by
 obtain⟨tk,z⟩:=lH h he
 have hk:=PySem.strKind_is prog w (yk e.2) tk
 rw[<-z]at hk
 rw[KeyKind.is_eq_decide hk v]
 exact decide_eq_decide.mpr ⟨Eq.symm,Eq.symm⟩
theorem wK {es:Array (Int×Value)}{σ:List Str}(hp:(we es).Perm σ)(v:Str):σ.any (· == v)=true↔v∈we es:=by
 rw[List.any_eq_true]
 constructor
 ·rintro⟨x,hx,e⟩
  rw[<-beq_iff_eq.mp e]
  exact hp.mem_iff.mpr hx
 ·intro m
  exact⟨v,hp.mem_iff.mp m,beq_self_eq_true v⟩
theorem wF {es:Array (Int×Value)}{σ:List Str}(hp:(we es).Perm σ):es.size=σ.length:=by
 have:=hp.length_eq
 unfold we at this
 rw[List.length_map,Array.length_toList]at this
 exact this
theorem rj {g:Bool->Sem Unit}(hg:∀(b:Bool) (s₁:Shared) (Q':Unit->Shared->Prop),Q' () s₁->wpAny (model prog w) A (g b) Q' E s₁)
  {a:Addr} {o:Obj} {es es1:Array (Int×Value)} {ep:Nat} {t t2:SetTable} (gO:s.heap.get? a=some o) (gX:o.ExactSet) (gD:o.data=.set es ep t) {σ:List Str}
  (gE:ElemsOf (PySem.strKind prog w) es1.toList) (gP:(we es1).Perm σ) (gB:es1.size<scanBound) (gF:t2.fits es1.size=true) (gT:Rg.TabOk (w.params.followText "set-order") t2) {wd:Bool} {R:Option Bool->Shared->Prop}
  (q:∀h' o',Heap.SameBut a s.heap h'->h'.get? a=some o'->ix prog w o' σ->R (some true) { s with heap:=h' }) :
  wpAny (model prog w) A (do
   storeSet a es1 t2
   if (!wd&&t2.tooFull)=true then do
    g (relayAll t2 es1 (SetTable.grown es1.size)).2.2
    storeSet a (relayAll t2 es1 (SetTable.grown es1.size)).1 (relayAll t2 es1 (SetTable.grown es1.size)).2.1
    pure (some true)
   else pure (some true)) R E s:=by
 have g1:=fB (es':=es1) (t':=t2) gO gD
 have sb:=Heap.SameBut.update s.heap a (Obj.putSet es1 t2)
 refine wpAny_bind (wpAny_storeSet_of gO gD ?_ (fits_of_scanBound gB))
 split
 ·have rp:=relayAll_perm t2 es1 (SetTable.grown es1.size)
  have rf:=relayAll_fits t2 es1 (SetTable.grown es1.size)
  have rt:=gT.relayAll es1 (SetTable.grown es1.size)
  obtain⟨⟨es2,t3,gv⟩,hR⟩:∃r,relayAll t2 es1 (SetTable.grown es1.size)=r:=⟨_,rfl⟩
  rw[hR]at rp rf rt ⊢
  dsimp only at rp rf rt ⊢
  have hz:es2.size<scanBound:=by
   have:=rp.length_eq
   rw[Array.length_toList,Array.length_toList]at this
   omega
  refine wpAny_bind (hg _ _ _ (wpAny_bind (wpAny_storeSet_of g1 rfl (wpAny_pure ?_) (fits_of_scanBound hz))))
  exact q _ _ (sb.trans (Heap.SameBut.update _ a _)) (fB g1 rfl) ⟨gX,es2,_,t3,rfl,gE.perm rp,(rp.map _).trans gP,rf,rt⟩
 ·exact wpAny_pure (q _ _ sb g1 ⟨gX,es1,_,t2,rfl,gE,gP,gF,gT⟩)
theorem AI {a:Addr}{o:Obj}{σ:List Str}{v:Str}{tk:Tok}{Q:Bool->Shared->Prop}(gO:s.heap.get? a=some o)(gZ:ix prog w o σ)(room:σ.length+1<scanBound)
  (q:∀b h' o',Heap.SameBut a s.heap h'->h'.get? a=some o'->ix prog w o' (step_dedup σ v)->Q b { s with heap:=h' }) :
  wpAny (model prog w) A (setAddHashed a (.str v tk) ((PySem.strKind prog w).hash v)) Q E s:=by
 obtain⟨gX,es,ep,t,gD,gE,gP,gF,gT⟩:=gZ
 have gB:es.size+1<scanBound:=by rw[wF gP];exact room
 have key:=PySem.strKind_is prog w v tk
 have scn:(Value.str v tk).scannable=true:=rfl
 unfold setAddHashed setAddHashedIn
 refine wpAny_holding (wpAny_bind (wpAny_setState_of gO gD gF ?_))
 dsimp only
 rw[byScan_of scn (show es.size<scanBound by omega) gE,if_pos rfl]
 unfold setAddByScan
 refine wpAny_bind (wpAny_bind (wpAny_rule (wpAny_bind (wpAny_setScan_of key gO gD gF gE ?_))))
 cases fi:List.findIdx? (fun e=>(PySem.strKind prog w).is v e.2) es.toList with
 | some j =>
  dsimp only
  obtain⟨hj,pj,_⟩:=List.findIdx?_eq_some_iff_getElem.mp fi
  have mem:=List.getElem_mem hj
  rw[kY gE mem]at pj
  have m:v∈we es:=List.mem_map.mpr ⟨_,mem,of_decide_eq_true pj⟩
  refine wpAny_pure (wpAny_pure (q _ s.heap o (Heap.SameBut.refl a s.heap) gO ?_))
  unfold step_dedup
  rw[if_pos ((wK gP v).mpr m)]
  exact⟨gX,es,ep,t,gD,gE,gP,gF,gT⟩
 | none =>
  dsimp only
  have nm:¬ σ.any (· == v)=true:=fun z=>by
   obtain⟨e,he,ee⟩:=List.mem_map.mp ((wK gP v).mp z)
   have:=List.findIdx?_eq_none_iff.mp fi e he
   rw[kY gE he,decide_eq_true ee]at this
   cases this
  have lp:=layNew_perm t es ((PySem.strKind prog w).hash v) (.str v tk)
  have lf:=layNew_fits t es ((PySem.strKind prog w).hash v) (.str v tk)
  have lt:=gT.layNew es ((PySem.strKind prog w).hash v) (.str v tk)
  obtain⟨⟨es1,t1,wd,gv⟩,hL⟩:∃r,layNew t es ((PySem.strKind prog w).hash v) (.str v tk)=r:=⟨_,rfl⟩
  rw[hL]at lp lf lt ⊢
  dsimp only at lp lf lt ⊢
  rw[Array.toList_push]at lp
  have e1:ElemsOf (PySem.strKind prog w) es1.toList:=(gE.push key scn).perm lp
  have p1:(we es1).Perm (step_dedup σ v):=by
   unfold step_dedup
   rw[if_neg nm]
   have:=lp.map fun e=>yk e.2
   rw[List.map_append]at this
   exact this.trans (gP.append_right _)
  have b1:es1.size<scanBound:=by
   have:=lp.length_eq
   rw[Array.length_toList,List.length_append,Array.length_toList,List.length_singleton]at this
   omega
  have gw:∀(b:Bool) (s₁:Shared) (Q':Unit->Shared->Prop),Q' () s₁->wpAny (model prog w) A (match b with | true=>rule "set.scan.the-table-gave-way" | false=>pure ()) Q' E s₁:=fun b s₁ Q' z=>by
   cases b
   ·exact wpAny_pure z
   ·exact wpAny_rule z
  have lf2:(if plainKind (Value.str v tk)=true then t1 else { t1 with plain:=false }).fits es1.size=true:=by split<;>exact lf
  have lt2:Rg.TabOk (w.params.followText "set-order") (if plainKind (Value.str v tk)=true then t1 else { t1 with plain:=false }):=by
   split
   ·exact lt
   ·exact lt.plain
  refine wpAny_bind (gw _ _ _ ?_)
  split
  ·rw[hashByValue_scannable 8 scn]
   refine wpAny_bind (wpAny_pure ?_)
   refine rj gw gO gX gD e1 p1 b1 lf2 lt2 ?_
   intro h' o' sb' g' z'
   exact wpAny_pure (q _ h' o' sb' g' z')
  ·refine wpAny_bind (wpAny_pure ?_)
   refine rj gw gO gX gD e1 p1 b1 lf lt ?_
   intro h' o' sb' g' z'
   exact wpAny_pure (q _ h' o' sb' g' z')
end
section
variable {prog:Program}{w:World}{A:Around}{R:Result->Shared->Prop}{I:Addr}{fp wr:List Addr}{G:Array GenState->Array GenState->Prop}{n:Nat}{P:Nat->Value->Prop}{St:Nat->Shared->Prop}
theorem zm (W:WalksS prog w A.in1 I fp wr G n P St)(z:Addr)(nz:z∉fp)(f:Nat->Str)(hf:∀i v,P i v->∃t,v=.str (f i) t)(nb:∀i,i≤n->(fF f i).length+1<scanBound) :
  ∀(k i:Nat) (s:Shared) (o:Obj),n-i=k->i≤n->St i s->s.heap.get? z=some o->ix prog w o (fF f i) ->
   (∀s' o',Moved (z::wr) G s s'->s'.heap.get? z=some o'->ix prog w o' (fF f n)->R (.ok (.ret .none)) s')->codeAny (model prog w) A (.builtin "set.update.loop" ⟨[.ref z,.ref I],[]⟩) R s:=by
 have nw:z∉wr:=fun m=>nz (W.sub _ m)
 have mw:∀b∈wr,b∈z::wr:=fun b m=>List.mem_cons_of_mem _ m
 intro k
 induction k with
 | zero =>
  intro i s o ek le st gO gZ out
  obtain rfl:i=n:=by omega
  refine codeAny_builtin F.entry_set_update_loop ?_
  rw[Around.under_plainId F.plain_set_update_loop _]
  refine wpAny_bind (m:=pyNext (.ref I)) (W.done s _ _ st fun s' mv=>?_)
  exact wpAny_pure (out s' o (mv.mono mw) (mv.heap z _ nw gO) gZ)
 | succ k ih =>
  intro i s o ek le st gO gZ out
  have lt:i<n:=by omega
  refine codeAny_builtin F.entry_set_update_loop ?_
  rw[Around.under_plainId F.plain_set_update_loop _]
  refine wpAny_bind (m:=pyNext (.ref I)) (W.item i s _ _ lt st fun v s' pv st' mv=>?_)
  obtain⟨t,rfl⟩:=hf i v pv
  have gO':=mv.heap z _ nw gO
  refine wpAny_bind (m:=holding [Value.str (f i) t] (setAdd z (.str (f i) t))) (wpAny_holding ?_)
  unfold setAdd
  refine wpAny_holding (wpAny_bind ((PySem.strKind prog w).pyHash (k:=f i) (PySem.strKind_is _ _ _ _) ?_))
  refine AI (s:={ s' with toks:=s'.toks+1 }) (tk:=t) gO' gZ (nb i le) fun b h' o' sb g' z'=>?_
  rw[<-jq]at z'
  refine wpAny_pure ⟨plainId_quiet F.plain_set_update_loop _,ih (i+1) _ o' (by omega) lt (W.frame _ s' _ _ st' (Nat.le_succ _) fun c hc u e=>?_) g' z' fun s'' o'' mv' g'' z''=>?_⟩
  ·rw[sb.2 c (fun e':c=z=>nz (by rw[<-e'];exact hc))]
   exact e
  ·refine out s'' o'' (Moved.trans W.gtrans ((mv.mono mw).then_heap (Nat.le_succ _) fun c u hc e=>?_) mv') g'' z''
   rw[sb.2 c (fun e':c=z=>hc (by rw[e'];exact List.mem_cons_self))]
   exact e
end
section
variable {prog:Program}{w:World}{A:Around}{E:Value->Shared->Prop}{s:Shared}
theorem tJ (prog:Program)(w:World):ix prog w (ca w) [] :=
 ⟨⟨rfl,rfl,rfl⟩,#[],0,_,rfl,(fun e m=>by simp at m),List.Perm.refl _,rfl,Rg.TabOk.fresh _⟩
theorem y9 {l:Addr}{items:Array Value}{ns:List Str}{Q:Value->Shared->Prop}(un:A.handled=none)(gL:s.heap.IsList l items)(gI:StrsAre items.toList ns)(nb:∀i,i≤items.size->(fF (fun i=>ns.getD i "") i).length+1<scanBound)
  (q:∀(h':Heap) (tk:Nat) (o:Obj),h'.get? s.heap.objs.size=some o->ix prog w o (fF (fun i=>ns.getD i "") items.size)->(∀b u,b<s.heap.objs.size->s.heap.get? b=some u->h'.get? b=some u) ->
   Q (.ref s.heap.objs.size) { s with heap:=h',toks:=tk }):wpAny (model prog w) A (call (.type "set") [.ref l]) Q E s:=by
 obtain⟨c,tl,mro⟩:=F.called_set.mro
 have made:=F.called_set.made
 have sub:=F.called_set.sub
 have c1:=F.called_set.notType
 have c2:=F.called_set.canCreate
 have c3:=F.typeCall_set_1 (.ref l)
 refine wpAny_call (codeAny_of_tree (show wpAny _ _ (callAny (.type "set") _) _ _ _ from wpAny_pure ⟨Code.quiet_builtin _ (by decide +kernel),codeAny_builtin F.entry_type_call ?_⟩))
 rw[Around.under_plain (weight_type_call_type "set" [.ref l] []) rfl]
 repeat (any_goals (first | assumption | wp_step))
 refine codeAny_mono (vZ (.ref l) (E:=E) (Q₁:=fun x s₁=>x=.ref s.heap.objs.size/\s₁={ s with heap:=s.heap.push (ca w) }) ⟨rfl,rfl⟩) fun r s₁ hr=>?_
 cases r with
 | error e=>exact hr
 | ok fl =>
  cases fl with
  | ret x =>
   obtain⟨rfl,rfl⟩:=hr
   have g0:(s.heap.push (ca w)).get? s.heap.objs.size=some (ca w):=Heap.get?_push_size _ rfl
   have tS:Shared.TypeIs { s with heap:=s.heap.push (ca w) } (.ref s.heap.objs.size) "set":=⟨_,g0,rfl⟩
   have li:=F.called_set.init.lookup
   have bi:=F.called_set.init.bind (.ref s.heap.objs.size)
   repeat (any_goals (first | assumption | wp_step))
   refine codeAny_mono (codeAny_call_builtin (R:=wants (fun r s₂=>r=.none/\∃h' tk o,s₂={ s with heap:=h',toks:=tk }/\h'.get? s.heap.objs.size=some o/\ix prog w o (fF (fun i=>ns.getD i "") items.size) /\
     (∀b u,b<s.heap.objs.size->s.heap.get? b=some u->h'.get? b=some u)) E) F.called_set.init.plain F.entry_set_init (check_set_init_1 tS ?_)) fun r₂ s₂ hr₂=>?_
   ·obtain⟨ol,gl,cl,nl,dl⟩:=gL
    obtain⟨o1,o2,o3,o4⟩:=ol
    simp only at cl dl
    subst cl
    subst dl
    have gl':(s.heap.push (ca w)).get? l=some { cls:=.type "list",dict:=o2,data:=.seq items nl,slots:=o4 }:=Heap.get?_push_of_some _ gl
    have y1:=F.sub_list_set
    have y2:=F.sub_list_frozenset
    have y3:(Value.type "list" == Value.type "dict")=false:=by decide
    have gL1:(s.heap.push (ca w)).IsList l items:=⟨_,gl',rfl,nl,rfl⟩
    unfold Builtin.«set.__init__» noKeywords Builtin.Frozenset.updateFrom
    generalize eP:pyIter=PI
    wp_walk
    subst eP
    refine wpAny_pyIter_list gL1 (wpAny_bind (wpAny_runValue ?_))
    have ls:l<s.heap.objs.size:=Heap.lt_size gl
    have un3:A.in1.in1.in1.handled=none:=by simp[un]
    have sz1:(s.heap.push (ca w)).objs.size=s.heap.objs.size+1:=Heap.size_push _ _
    have nI:l≠(s.heap.push (ca w)).objs.size:=by rw[sz1];exact Nat.ne_of_lt (Nat.lt_succ_of_lt ls)
    have nz:s.heap.objs.size∉[(s.heap.push (ca w)).objs.size,l]:=by
     rw[sz1]
     simp only[List.mem_cons,List.not_mem_nil,or_false,not_or]
     exact⟨Nat.ne_of_lt (Nat.lt_succ_self _),Nat.ne_of_gt ls⟩
    have hv:∀(i:Nat) (v:Value),items[i]?=some v->∃t,v=.str ((fun i=>ns.getD i "") i) t:=fun i v e=>StrsAre.str_at gI i v (by rw[Array.getElem?_toList];exact e)
    refine zm ((Walks.list un3 _ l nI items).toS) s.heap.objs.size nz (fun i=>ns.getD i "") hv nb (items.size-0) 0 _ (ca w) (by omega) (Nat.zero_le _) ⟨⟨_,Heap.get?_push_size _ rfl,rfl,rfl⟩,(gL1.push _)⟩ (Heap.get?_push_of_some _ g0) (tJ prog w) ?_
    intro s' o' mv g' z'
    obtain⟨h',g1,d1,tk',os'⟩:=s'
    obtain rfl:g1=s.gens:=mv.gens
    obtain rfl:d1=s.drawn:=mv.drawn
    obtain rfl:os'=s.os:=mv.os
    refine wpAny_pure (show wpAny _ _ (ret Value.none) _ _ _ from wpAny_pure ⟨rfl,h',tk',o',rfl,g',z',fun b u lb e=>?_⟩)
    refine mv.heap b u ?_ (Heap.get?_push_of_some _ (Heap.get?_push_of_some _ e))
    simp only[List.mem_cons,List.not_mem_nil,or_false,not_or]
    exact⟨Nat.ne_of_lt lb,by rw[sz1];exact Nat.ne_of_lt (Nat.lt_succ_of_lt lb)⟩
   ·cases r₂ with
    | error e=>exact hr₂
    | ok fl₂ =>
     cases fl₂ with
     | ret r =>
      obtain⟨rfl,h',tk,o,rfl,g',z',k'⟩:=hr₂
      repeat (any_goals (first | assumption | wp_step))
      exact q h' tk o g' z' k'
     | _=>exact hr₂.elim
  | _=>exact hr.elim
end
section
variable {prog:Program}{w:World}{A:Around}{E:Value->Shared->Prop}{s:Shared}
theorem tD {vals:List Value}{ns:List Str}{Q:Value->Shared->Prop}(hI:StrsAre vals ns)(vl:vals.length<64)
  (q:∀(out:Array Value) (ns':List Str),StrsAre out.toList ns'->ns'.Perm ns->sortedS ns'=true->Q (.ref s.heap.objs.size) { s with heap:=sortedHeap (s.heap.push (seqObj "list" vals.toArray 0)) s.heap.objs.size vals out }) :
  wpAny (model prog w) A (do
   let l<-newList vals
   let _<-holding [l] (call (.builtin "list.sort") [l] [])
   ret l) (fun fin s'=>∃v,fin=Fin.done (Flow.ret v)/\Q v s') E s:=by
 refine wpAny_bind (wpAny_newList ?_)
 have g1:(s.heap.push (seqObj "list" vals.toArray 0)).get? s.heap.objs.size=some (seqObj "list" vals.toArray 0):=Heap.get?_push_size _ rfl
 show wpAny _ _ _ _ _ { s with heap:=s.heap.push (seqObj "list" vals.toArray 0) }
 refine wpAny_bind (wpAny_holding (wpAny_call_entry slot_list_sort ⟨_,g1,rfl⟩ entry_list_sort (list_sort_treeK strKind_oneLt g1 hI.keysOf (fun v₁ v₂ bI e=>keyKind_strs (by rw[<-e];exact hI)) vl fun st' a1 a2=>⟨_,rfl,?_⟩) (args_list_sort _)))
 obtain⟨ss',b1,b2,b3⟩:=sorted_out_str hI a1 a2
 exact wpAny_pure ⟨_,rfl,q _ ss' b1 b2 b3⟩
end
theorem nv:∀{l:List Value},(∀v∈l,∃tk,v=.str (yk v) tk)->StrsAre l (l.map yk)
 | [],_=>.nil
 | v::r,h=>by
  obtain⟨tk,e⟩:=h v List.mem_cons_self
  have ih:=nv fun x hx=>h x (List.mem_cons_of_mem _ hx)
  rw[List.map_cons,e]
  exact .cons _ tk ih
section
variable {prog:Program}{w:World}{A:Around}{E:Value->Shared->Prop}{s:Shared}
theorem qK (un:A.handled=none){z:Addr}{o:Obj}{σ:List Str}{Q:Value->Shared->Prop}(gO:s.heap.get? z=some o)(gZ:ix prog w o σ)(h64:σ.length<64)
  (q:∀(h1:Heap) (d:Drawn) (tk:Nat) (vals:List Value) (out:Array Value) (ns:List Str),s.heap.objs.size<h1.objs.size->(∀b u,s.heap.get? b=some u->h1.get? b=some u)->StrsAre out.toList ns->ns.Perm σ->sortedS ns=true->Q (.ref h1.objs.size) { s with heap:=sortedHeap (h1.push (seqObj "list" (vals.toArray) 0)) h1.objs.size vals out,drawn:=d,toks:=tk }) :
  wpAny (model prog w) A (call (.builtin "sorted") [.ref z]) Q E s:=by
 obtain⟨gX,es,ep,t,gD,gE,gP,gF,gT⟩:=gZ
 have hz:=wF gP
 have gB:es.size<scanBound:=by rw[hz];exact Nat.lt_trans h64 (by decide)
 have un1:A.in1.handled=none:=un
 refine Calls.call_function_entry kind_sorted plain_sorted entry_sorted (args_sorted1 _) ?_
 unfold Builtin.«sorted»
 refine wpAny_bind (m:=checkCount "sorted" 1 1 _) (wpAny_pure ?_)
 refine wpAny_bind (m:=collect (.ref z)) (jP un1 gX gO gD gF gT gB fun h1 d tk vals hp lt1 k1=>?_)
 have hI:StrsAre vals (vals.map yk):=nv fun v hv=>by
  obtain⟨e,he,rfl⟩:=List.mem_map.mp (hp.mem_iff.mp hv)
  exact lH gE he
 have hpz:(vals.map yk).Perm σ:=by
  have:=hp.map yk
  rw[List.map_map]at this
  exact this.trans gP
 have vl:vals.length<64:=by
  have h1:=hp.length_eq
  rw[List.length_map]at h1
  have h2:es.toList.length=es.size:=Array.length_toList
  rw[h1,h2,hz]
  exact h64
 exact tD (s:={ s with heap:=h1,drawn:=d,toks:=tk }) hI vl fun out ns' a1 a2 a3=>q h1 d tk vals out ns' lt1 k1 a1 (a2.trans hpz) a3
end
section
variable {X:Cx}{K:PySem.W.Frag}{P:Program}{w:World}
def wn (P:Program)(w:World)(K:PySem.W.Frag):List V->Hp->VK->Prop:=fun xs H Q=>match xs with
 | [.ref a]=>∃ns:List Str,SqL K H a (ns.map V.str)/\(js ns).length+1<4096/\∀p o,H p=none->ix P w o (js ns)->Q (.ref p) (al H p (.frz o ir))
 | _=>False
theorem yF (hc:X.calm=true)(hK:X.K=K:=by rfl)(hP:X.prog=P:=by rfl)(hw:X.w=w:=by rfl):Irr (ba X (.type "set") (wn P w K)):=by
 refine .mk ?_
 subst hK
 subst hP
 subst hw
 intro pins s σ H xs us Q I r h
 unfold wn at h
 split at h
 ·obtain⟨ns,hS,hl,q⟩:=h
  obtain⟨u,rfl,rx⟩:=bF r
  cases rx
  obtain⟨its,rv,pl,hz⟩:=I.list hS
  have hlen:its.length=ns.length:=by have:=rv.length;rw[List.length_map]at this;exact this.symm
  have hsz:its.toArray.size=ns.length:=by rw[List.size_toArray];exact hlen
  refine y9 (items:=its.toArray) (ns:=ns) (I.ok.hd hc) pl.isList (by simpa using kZ rv) (fun i hi=>by have:=jp (fun i=>ns.getD i "") hi;rw[jv ns _ hsz]at this;exact Nat.lt_of_le_of_lt (Nat.succ_le_succ this) hl) fun h' tk o g z k=>?_
  rw[jv ns _ hsz]at z
  exact⟨.ref _,_,I.laid (t':=tk) (fun b o e=>k b o (Heap.lt_size e) e) (Nat.le_refl _) (si g),rfl,q _ o (I.hok.fresh (Nat.le_refl _)) z⟩
 ·exact h.elim
def qC (P:Program)(w:World):List V->Hp->VK->Prop:=fun xs H Q=>match xs with
 | [.ref a]=>∃o τ,Kn H a o/\ix P w o τ/\τ.length<64/\∀p (ns:List Str),H p=none->ns.Perm τ->sortedS ns=true->Q (.ref p) (al H p (.lst (ns.map V.str)))
 | _=>False
theorem iY:∀{vs:List Value} {ns:List Str},StrsAre vs ns->Vals (ns.map V.str) vs
 | _,_,.nil=>.nil
 | _,_,.cons n t h=>.cons ⟨t,rfl⟩ (iY h)
theorem ur (hc:X.calm=true)(hP:X.prog=P:=by rfl)(hw:X.w=w:=by rfl):Irr (ba X (.builtin "sorted") (qC P w)):=by
 refine .mk ?_
 subst hP
 subst hw
 intro pins s σ H xs us Q I r h
 unfold qC at h
 split at h
 ·obtain⟨o,τ,hk,hz,hl,q⟩:=h
  obtain⟨u,rfl,rx⟩:=bF r
  cases rx
  refine qK (I.ok.hd hc) (hk.get I.hok) hz hl fun h1 d tk vals out ns lt k1 hI hp hs=>?_
  have g1:(h1.push (seqObj "list" vals.toArray 0)).get? h1.objs.size=some (seqObj "list" vals.toArray 0):=Heap.get?_push_size _ rfl
  obtain⟨e,g2⟩:=sortedHeap_at (out:=out) g1
  have kept:∀b u,s.heap.get? b=some u->(sortedHeap (h1.push (seqObj "list" vals.toArray 0)) h1.objs.size vals out).get? b=some u:=fun b u hb=>by
   have lb:b<h1.objs.size:=Heap.lt_size (k1 b u hb)
   rw[sortedHeap_old (Nat.ne_of_lt lb) (by rw[size_push'];exact Nat.lt_succ_of_lt lb)]
   exact Heap.get?_push_of_some _ (k1 b u hb)
  have big:(1000000:Nat)<sizeLine:=by rw[sizeLine_eq];decide
  have nl:ns.length=τ.length:=hp.length_eq
  have new:ObjOk X.prog X.w (al H h1.objs.size (.lst (ns.map V.str))) (sortedHeap (h1.push (seqObj "list" vals.toArray 0)) h1.objs.size vals out) h1.objs.size (.lst (ns.map V.str)):=⟨by rw[List.length_map];omega,out.toList,e,iY hI,g2⟩
  exact⟨.ref _,_,(I.drew d).laid (t':=tk) kept (Nat.le_of_lt lt) new,rfl,q _ ns (I.hok.fresh (Nat.le_of_lt lt)) hp hs⟩
 ·exact h.elim
end
end L2
namespace L2
open PySem PySem.Spec PyProof.Rows Rg
theorem lB:∀{vs:List Value} {ss:List Str},vs.length=ss.length->(∀(i:Nat) (v:Value) (x:Str),vs[i]?=some v->ss[i]?=some x->∃t,v=.str x t)->StrsAre vs ss
 | [],[],_,_=>.nil
 | v::vs,x::ss,hl,h=>by
  obtain⟨t,e⟩:=h 0 v x rfl rfl
  subst e
  exact .cons x t (lB (Nat.succ.inj hl) fun i v x a b=>h (i+1) v x a b)
 | [],_::_,hl,_=>nomatch hl
 | _::_,[],hl,_=>nomatch hl
section
variable {prog:Program}{w:World}{A:Around}{E:Value->Shared->Prop}{s:Shared}{T:String}{r d:Addr}{n:Nat}{P:Nat->Value->Prop}{OK:Heap->Prop}
theorem pC (K:PySem.W.KdlSrc prog w T r d n P OK)(un:A.handled=none)(hok:OK s.heap)(hn:n≤sizeLine){Q:List Value->Shared->Prop}
  (q:∀h' tk (acc:Array Value),ItemsOf P acc n->s.heap.objs.size<h'.objs.size->(∀b u,s.heap.get? b=some u->h'.get? b=some u)->Q acc.toList { s with heap:=h',toks:=tk }):wpAny (model prog w) A (collect (.ref r)) Q E s:=by
 unfold collect
 refine wpAny_bind (wpAny_runValue (codeAny_builtin F.entry_proto_collect ?_))
 rw[Around.under_plainId F.plain_proto_collect _]
 refine wpAny_bind (m:=newList []) (wpAny_newObj_type ?_)
 refine wpAny_pure ⟨plainId_quiet F.plain_list_iadd _,codeAny_builtin F.entry_list_iadd ?_⟩
 rw[Around.under_plainId F.plain_list_iadd _]
 have hlt:=K.there _ hok
 obtain⟨H1,e1⟩:∃H1,s.heap.push { cls:=.type "list",data:=.seq ([]:List Value).toArray }=H1:=⟨_,rfl⟩
 rw[e1]
 have k1:∀b u,s.heap.get? b=some u->H1.get? b=some u:=fun b u e=>by rw[<-e1];exact Heap.get?_push_of_some _ e
 have gL1:H1.get? s.heap.objs.size=some { cls:=.type "list",data:=.seq #[] 0 }:=by rw[<-e1];exact Heap.get?_push_size _ rfl
 show wpAny _ A.in1 (Builtin.List.listExtendWith (.ref s.heap.objs.size) (.ref r) (.ref s.heap.objs.size)) _ _ _
 have fin:∀(s':Shared),(∃h' tk acc' c',s'={ s with heap:=h',toks:=tk }/\(∀b o,b≠s.heap.objs.size->H1.get? b=some o->h'.get? b=some o)/\h'.get? s.heap.objs.size=some { cls:=.type "list",dict:=none,data:=.seq acc' c',slots:=#[] }/\ItemsOf P acc' n) ->
   wpAny (model prog w) A (do let o<-load s.heap.objs.size;match o.data with | Data.seq xs _=>pure xs.toList | _=>unsupported "internal:collect") Q E s':=fun s' h=>by
  obtain⟨h',tk,acc',c',rfl,hk,hS,hacc⟩:=h
  refine wpAny_bind (wpAny_load hS (wpAny_pure ?_))
  exact q h' tk acc' hacc (Heap.lt_size hS) fun b u e=>hk b u (Nat.ne_of_lt (Heap.lt_size e)) (k1 b u e)
 refine wpAny_mono (PySem.W.kdl_extend (R:=fun r' s'=>r'=.ok (.ret (.ref s.heap.objs.size))/\∃h' tk acc' c',s'={ s with heap:=h',toks:=tk }/\(∀b o,b≠s.heap.objs.size->H1.get? b=some o->h'.get? b=some o)/\h'.get? s.heap.objs.size=some { cls:=.type "list",dict:=none,data:=.seq acc' c',slots:=#[] }/\ItemsOf P acc' n)
  (s:={ s with heap:=H1 }) K un (K.keep _ _ hok fun b _ o e=>k1 b o e) s.heap.objs.size (Nat.ne_of_gt hlt.1) (Nat.ne_of_gt hlt.2) (.ref s.heap.objs.size) 0 gL1 (fun h' tk acc' c' hk hS hacc=>⟨rfl,h',tk,acc',c',rfl,hk,hS,hacc⟩) hn) (fun f s' h=>?_) (fun e s' h=>?_)
 ·cases f with
  | done f =>
   obtain⟨e,h⟩:=h
   cases e
   exact fin s' h
  | again c' =>
   refine⟨h.1,codeAny_mono h.2 fun r2 s2 h2=>?_⟩
   obtain⟨e,h⟩:=h2
   subst e
   exact fin s2 h
 ·cases h.1
theorem qM (un:A.handled=none){kvs:List (bC×Value)}{ep:Nat}{ks:List Str}{Q:Value->Shared->Prop}(lo:(d == sysModules)=false)(hD:s.heap.DictAt (ay prog w) d kvs ep)(hk:kvs.map (·.1)=ks.map Sum.inr)(h64:ks.length<64)
  (q:∀(h1:Heap) (tk:Nat) (vals:List Value) (out:Array Value) (ns:List Str),s.heap.objs.size<h1.objs.size->(∀b u,s.heap.get? b=some u->h1.get? b=some u)->StrsAre out.toList ns->ns.Perm ks->sortedS ns=true->Q (.ref h1.objs.size) { s with heap:=sortedHeap (h1.push (seqObj "list" (vals.toArray) 0)) h1.objs.size vals out,toks:=tk }) :
  wpAny (model prog w) A (call (.builtin "sorted") [.ref d]) Q E s:=by
 have un1:A.in1.handled=none:=un
 have hb:(1000000:Nat)<sizeLine:=by rw[sizeLine_eq];decide
 have hl:kvs.length=ks.length:=by have:=congrArg List.length hk;rw[List.length_map,List.length_map]at this;exact this
 refine Calls.call_function_entry kind_sorted plain_sorted entry_sorted (args_sorted1 _) ?_
 unfold Builtin.«sorted»
 refine wpAny_bind (m:=checkCount "sorted" 1 1 _) (wpAny_pure ?_)
 refine wpAny_bind (m:=collect (.ref d)) (pC (PySem.W.kdl_dict (knd:=ay prog w) (kvs:=kvs) (ep:=ep) lo) un1 hD (by omega) fun h1 tk acc it lt1 k1=>?_)
 have hsz:acc.toList.length=ks.length:=by rw[Array.length_toList,it.1,hl]
 have hI:StrsAre acc.toList ks:=lB hsz fun i v x hv hx=>by
  obtain⟨k,y,e1,e2⟩:=it.2 i v (by rw[<-Array.getElem?_toList];exact hv)
  have e3:(kvs.map (·.1))[i]?=some k:=by rw[List.getElem?_map,e1];rfl
  rw[hk,List.getElem?_map,hx]at e3
  have e4:(Sum.inr x:bC)=k:=Option.some.inj e3
  subst e4
  rcases aL (k:=.inr x) e2 with⟨_,_,z,_⟩ | ⟨y,t,z,e⟩
  ·cases z
  ·cases z;exact⟨t,e⟩
 exact tD (s:={ s with heap:=h1,toks:=tk }) hI (by omega) fun out ns' a1 a2 a3=>q h1 tk acc.toList out ns' lt1 k1 a1 a2 a3
end
section
variable {X:Cx}{K:PySem.W.Frag}{P:Program}{w:World}
def qy:List V->Hp->VK->Prop:=fun xs H Q=>match xs with
 | [.ref a]=>∃kvs:List (Str×V),H a=some (.dK (kvs.map fun kv=>(.inr kv.1,kv.2)))/\kvs.length<64/\∀p (ns:List Str),H p=none->ns.Perm (kvs.map (·.1))->sortedS ns=true->Q (.ref p) (al H p (.lst (ns.map V.str)))
 | _=>False
theorem nC {κ:Type}:∀{kvs:List (κ×V)} {vs:List (κ×Value)},KV kvs vs->vs.map (·.1)=kvs.map (·.1)
 | _,_,.nil=>rfl
 | _,_,.cons r t=>by rw[List.map_cons,List.map_cons,nC t,r.1]
theorem tQ (hc:X.calm=true):Irr (ba X (.builtin "sorted") qy):=by
 refine .mk ?_
 intro pins s σ H xs us Q I r h
 unfold qy at h
 split at h
 ·rename_i a
  obtain⟨kvs,h1,hl,q⟩:=h
  obtain⟨u,rfl,rx⟩:=bF r
  cases rx
  obtain⟨z,hd,vs,rel,o,es,ep,dd⟩:=oh I.hok h1
  refine qM (ks:=kvs.map (·.1)) (I.ok.hd hc) hd ⟨o,es,dd⟩ (by rw[nC rel,List.map_map,List.map_map];rfl) (by rw[List.length_map];exact hl) fun h1 tk vals out ns lt k1 hI hp hs=>?_
  have g1:(h1.push (seqObj "list" vals.toArray 0)).get? h1.objs.size=some (seqObj "list" vals.toArray 0):=Heap.get?_push_size _ rfl
  obtain⟨e,g2⟩:=sortedHeap_at (out:=out) g1
  have kept:∀b u,s.heap.get? b=some u->(sortedHeap (h1.push (seqObj "list" vals.toArray 0)) h1.objs.size vals out).get? b=some u:=fun b u hb=>by
   have lb:b<h1.objs.size:=Heap.lt_size (k1 b u hb)
   rw[sortedHeap_old (Nat.ne_of_lt lb) (by rw[size_push'];exact Nat.lt_succ_of_lt lb)]
   exact Heap.get?_push_of_some _ (k1 b u hb)
  have big:(1000000:Nat)<sizeLine:=by rw[sizeLine_eq];decide
  have nl:ns.length=kvs.length:=by have:=hp.length_eq;rw[List.length_map]at this;exact this
  have new:ObjOk X.prog X.w (al H h1.objs.size (.lst (ns.map V.str))) (sortedHeap (h1.push (seqObj "list" vals.toArray 0)) h1.objs.size vals out) h1.objs.size (.lst (ns.map V.str)):=⟨by rw[List.length_map];omega,out.toList,e,iY hI,g2⟩
  exact⟨.ref _,_,I.laid (t':=tk) kept (Nat.le_of_lt lt) new,rfl,q _ ns (I.hok.fresh (Nat.le_of_lt lt)) hp hs⟩
 ·exact h.elim
def Bn (P:Program)(w:World)(K:PySem.W.Frag):List V->Hp->VK->Prop:=fun xs H Q=>(∃a kvs ep,xs=[.ref a]/\GAt P w K H a kvs ep/\Q (.int kvs.length) H)\/(∃a kvs,xs=[V.ref a]/\H a=some (.dK kvs)/\Q (.int kvs.length) H)\/uI K xs H Q
theorem o6 {A:Around}{E:Value->Shared->Prop}{s:Shared}{d:Addr}{xs:GP}{ep:Nat}{Q:Value->Shared->Prop}(hd:(d == sysModules)=false)(hm:GDict P w s.heap d xs ep)(hfit:(xs.length:Int)<2 ^ 63)
  (h:Q (.int xs.length (s.toks+1)) { s with toks:=s.toks+1+1 }):wpAny (model P w) A (call (.builtin "len") [.ref d]) Q E s:=by
 refine Calls.call_function_entry kind_len plain_len entry_len (args_len1 _) ?_
 unfold Builtin.«len»
 refine wpAny_bind (m:=oneArg "len" _) (wpAny_pure ?_)
 refine wpAny_bind (m:=callSpecial? (.ref d) (Str.ofString "__len__")) (wpAny_callSpecial?_slot (name:=Str.ofString "__len__") hm.typeIs F.slot_dict_len
  (call_meetsIn F.slot_dict_len hm.typeIs F.entry_dict_len (F.args_dict_len_1 _) (mO hd) ⟨xs,ep,hm,?_⟩))
 show wpAny _ _ _ _ _ { s with toks:=s.toks+1 }
 refine wpAny_bind (wpAny_holding (wpAny_pure ?_))
 refine wpAny_bind (wpAny_letGo ?_)
 show wpAny _ _ (if ((xs.length:Nat):Int)<0 then _ else _) _ _ _
 rw[if_neg (by omega)]
 show wpAny _ _ (if ((xs.length:Nat):Int)≥2 ^ 63 then _ else _) _ _ _
 rw[if_neg (by omega)]
 exact wpAny_bind (wpAny_mkInt (wpAny_pure ⟨_,rfl,h⟩))
theorem fR (hK:X.K=K:=by rfl)(hP:X.prog=P:=by rfl)(hw:X.w=w:=by rfl):Irr (ba X (.builtin "len") (Bn P w K)):=by
 refine .mk ?_
 subst hK hP hw
 intro pins s σ H xs us Q I r h
 rcases h with⟨a,kvs,ep,rfl,g0,q⟩ | ⟨a,kvs,rfl,g0,q⟩ | h
 ·obtain⟨u,rfl,rx⟩:=bF r
  cases rx
  obtain⟨xs,g,rl⟩:=bn I g0
  have hl:=g0.2.2.2.1
  refine o6 g0.2.2.1 g (by rw[<-rl.length];omega) ?_
  exact⟨.int kvs.length,H,I.tok _,⟨_,by rw[rl.length]⟩,q⟩
 ·exact oW pins s σ H _ us Q I r ⟨a,kvs,rfl,g0,q⟩
 ·exact (eI rfl).out pins s σ H _ us Q I r h
def Bb (P:Program)(w:World)(K:PySem.W.Frag):List V->Hp->VK->Prop:=fun xs H Q=>(∃a kvs ep Tn b,xs=[.ref a,.ty Tn]/\GAt P w K H a kvs ep/\PySem.W.kitOne K (.type "dict") (.type Tn)=some b/\Q (.bl b) H)\/yp K xs H Q
end
end L2
namespace L2
open PySem PySem.Spec PyProof.Rows
section
variable {X:Cx}{K:PySem.W.Frag}{P:Program}{w:World}
theorem yi (hK:X.K=K:=by rfl)(hP:X.prog=P:=by rfl)(hw:X.w=w:=by rfl):Irr (ba X (.builtin "isinstance") (Bb P w K)):=by
 refine .mk ?_
 subst hK hP hw
 intro pins s σ H xs us Q I r h
 rcases h with⟨a,kvs,ep,Tn,b,rfl,g0,e,q⟩ | h
 ·obtain⟨u,w',rfl,r1,r2⟩:=oq r
  cases r2
  obtain rfl:u=Value.ref a:=r1
  obtain⟨xs,g,rl⟩:=bn I g0
  exact PySem.W.kia_one PySem.W.kitx_dict I.kIn g.typeIs e (fun z=>nomatch z) fun tk=>⟨.bl b,H,I.tok tk,rfl,q⟩
 ·exact (iQ rfl).out pins s σ H _ us Q I r h
end
section
variable {P:Program}{w:World}{K:PySem.W.Frag}{H H':Hp}{a b:Addr}{kvs:GV}{ep:Nat}{k:GK}{y v:V}
def eT (K:PySem.W.Frag)(H H':Hp):Prop:=∀b xs,SqT K H b xs->SqT K H' b xs
theorem KeyV.keeps (s:eT K H H')(h:KeyV K H k y):KeyV K H' k y:=by
 cases k with
 | inl k=>exact h
 | inr ks=>obtain⟨b,e,hb⟩:=h;exact⟨b,e,s b _ hb⟩
theorem Same.keepsT (s:Same H H'):eT K H H':=fun b xs h=>s.seqT h
theorem GAt.same (h:GAt P w K H a kvs ep)(s:Same H H'):GAt P w K H' a kvs ep:=⟨s _ _ h.1,h.2.1,h.2.2.1,h.2.2.2.1,fun p hp=>(h.2.2.2.2 p hp).keeps s.keepsT⟩
theorem ii {o o':HO}(hb:H b=some o)(nt:(∀xs,o≠.tup xs)/\∀x u,o≠.frz x u):eT K H (al H b o'):=fun c xs h=>by
 have ne:∀{u:HO},H c=some u->(u≠o)->c≠b:=fun {u} e n z=>by
  rw[z,hb]at e
  exact n (Option.some.inj e).symm
 rcases h with (h | ⟨x,h⟩) | h
 ·exact .inl (.inl (by rw[am (ne h fun z=>nt.1 _ z.symm)];exact h))
 ·exact .inl (.inr ⟨x,by rw[am (ne h fun z=>nt.2 _ _ z.symm)];exact h⟩)
 ·exact .inr h
theorem nh {φ:Heap->Prop}{o':HO}(hb:H b=some (.ext φ)):eT K H (al H b o'):=ii hb ⟨(fun xs z=>nomatch z),fun x u z=>nomatch z⟩
theorem ph {xs:List (bC×V)}{o':HO}(hb:H b=some (.dK xs)):eT K H (al H b o'):=ii hb ⟨(fun xs z=>nomatch z),fun x u z=>nomatch z⟩
theorem GAt.keeps (h:GAt P w K H a kvs ep)(s:eT K H H')(e:H' a=H a):GAt P w K H' a kvs ep:=⟨by rw[e];exact h.1,h.2.1,h.2.2.1,h.2.2.2.1,fun p hp=>(h.2.2.2.2 p hp).keeps s⟩
theorem mL (kvs:GV)(k:GK)(y v:V):(cI kvs k y v).map (·.1)=if (bW kvs k).isSome=true then kvs.map (·.1) else kvs.map (·.1)++[k]:=by
 unfold cI
 split
 ·rw[List.map_map]
  refine List.map_congr_left fun x _=>?_
  show (if x.1=k then (x.1,x.2.1,v) else x).1=x.1
  split<;>rfl
 ·rw[List.map_append];rfl
theorem gval_mem:∀{kvs:GV},(bW kvs k).isSome=true↔k∈kvs.map (·.1)
 | []=>by simp[bW]
 | x::r=>by
  have ih:=gval_mem (kvs:=r)
  unfold bW at ih ⊢
  rw[List.find?_cons,List.map_cons,List.mem_cons]
  by_cases e:x.1=k
  ·rw[decide_eq_true e];simp[e]
  ·rw[decide_eq_false e]
   constructor
   ·exact fun h=>.inr (ih.mp h)
   ·rintro (h | h)
    ·exact absurd h.symm e
    ·exact ih.mpr h
theorem sL (kvs:GV)(k:GK)(y v:V):(cI kvs k y v).length≤kvs.length+1:=by
 unfold cI
 split
 ·rw[List.length_map];omega
 ·rw[List.length_append,List.length_singleton];exact Nat.le_refl _
theorem GAt.put (h:GAt P w K H a kvs ep)(hk:KeyV K H k y)(hl:kvs.length<100000)(ep':Nat):GAt P w K (al H a (cA P w a (cI kvs k y v) ep')) a (cI kvs k y v) ep':=by
 have kp:eT K H (al H a (cA P w a (cI kvs k y v) ep')):=nh h.1
 refine⟨ae,?_,h.2.2.1,by have:=sL kvs k y v;omega,fun p hp=>?_⟩
 ·rw[mL]
  split
  ·exact h.2.1
  ·rename_i hn
   rw[List.nodup_append]
   refine⟨h.2.1,by simp,fun x hx z hz=>?_⟩
   rw[List.mem_singleton.mp hz]
   exact fun e=>hn (gval_mem.mpr (e▸hx))
 ·unfold cI at hp
  split at hp
  ·obtain⟨x,hx,rfl⟩:=List.mem_map.mp hp
   have:=(h.2.2.2.2 x hx).keeps kp
   split<;>exact this
  ·rcases List.mem_append.mp hp with z | z
   ·exact (h.2.2.2.2 p z).keeps kp
   ·rw[List.mem_singleton.mp z];exact hk.keeps kp
theorem GAt.new {p:Addr}(hs:(p == sysModules)=false):GAt P w K (al H p (cA P w p [] ep)) p [] ep:=⟨ae,List.nodup_nil,hs,Nat.zero_le _,fun _ hp=>by cases hp⟩
end
end L2
namespace L2
open PySem PySem.Spec PyProof.Rows
section
variable {X:Cx}{K:PySem.W.Frag}{P:Program}{w:World}{o e:Expr}{apos cpos:Pos}{td ty:TE}
theorem md {pins:List (Addr×Obj)}{σ:St}{H:Hp}{s:Shared}{a:Addr}{kvs:GV}{ep:Nat}(I:Inv X pins σ H s)(g:GAt X.prog X.w X.K H a kvs ep) :
  s.TypeIs (.ref a) "dict"/\∀b,Value.ref a=.ref b->∃ob,s.heap.get? b=some ob/\ob.dict=none:=by
 obtain⟨xs,⟨o,es,h1,h2,_⟩,_⟩:=bn I g
 exact⟨⟨o,h1,h2.1⟩,fun b e=>by cases e;exact⟨o,h1,h2.2.1⟩⟩
def AU (P:Program)(w:World)(K:PySem.W.Frag)(td ty:TE):TE:=fun σ H Q=>td σ H fun x H1=>match x with
 | .ref a=>(∃kvs ep,GAt P w K H1 a kvs ep)/\ty σ H1 fun y H2=>sM P w K (.ref a) [y] H2 Q
 | _=>False
theorem y8 (hu:X.A.units+64<cLine)(ho:JE X o td)(he:JE X e ty)(m:M1 X o "get" apos e cpos:=by exact⟨rfl,rfl,rfl,rfl⟩)(hK:X.K=K:=by rfl)(hP:X.prog=P:=by rfl)(hw:X.w=w:=by rfl) :
  JE X (.Call (.Attribute o "get" apos) [e] [] cpos) (AU P w K td ty):=by
 refine .mk ?_
 subst hK hP hw
 intro pins s σ H Q I h
 refine wpAny_Call_method m.base m.few m.line PySem.F.plainAttrs_dict PySem.F.slot_dict_get PySem.F.type_dict_get (bh (ho.out pins s σ H _ I h) fun u s1 ⟨x,H1,I1,rx,q1⟩=>?_)
 dsimp only at q1
 cases x with
 | ref a =>
  obtain⟨⟨kvs,ep,g⟩,q1⟩:=q1
  obtain rfl:u=Value.ref a:=rx
  obtain⟨t1,t2⟩:=md I1 g
  refine⟨t1,t2,?_⟩
  rw[m.trees]
  exact Calls.callWith_builtin rfl (Calls.evalArgs_plain (Calls.spliced_cons (bh (he.out pins s1 σ H1 _ I1 q1) fun iv s2 ⟨y,H2,I2,ry,q2⟩=>Calls.spliced_nil ((xC hu rfl rfl rfl).out pins s2 σ H2 (.ref a) [y] _ [iv] Q I2 rfl (.cons ry .nil) q2))))
 | _=>exact q1.elim
end
end L2
namespace L2
open PySem PySem.Spec PyProof.Rows
def qD:Str×Option Int->PyData
 | (x,none)=>.str x
 | (x,some m)=>pD (x,m)
section
variable {X:Cx}{K:PySem.W.Frag}{P:Program}{w:World}
def Bw (K:PySem.W.Frag)(H:Hp):Str×Option Int->Value->Prop
 | (x,none),y=>∃tk,y=.str x tk
 | (x,some m),y=>∃a,y=.ref a/\SqT K H a (pV (x,m))
theorem tw {p:Str×Option Int}(h:PyData.strOk p.1=true):(qD p).canLay0=true:=by
 obtain⟨x,o⟩:=p
 cases o with
 | none=>show (PyData.str x).canLay0=true;simp only[PyData.canLay0];exact h
 | some m=>exact iF (p:=(x,m)) h
theorem oz (p:Str×Option Int):(qD p).depth≤4:=by
 obtain⟨x,o⟩:=p
 cases o with
 | none=>show (PyData.str x).depth≤4;simp only[PyData.depth];omega
 | some m=>show (pD (x,m)).depth≤4;unfold pD;simp only[PyData.depth,PyData.depthAll];omega
theorem se (t u:Str×Option Int):PyData.eqv (qD t) (qD u)=decide (t=u):=by
 obtain⟨x,o⟩:=t
 obtain⟨y,q⟩:=u
 cases o with
 | none=>cases q with
  | none =>
   show PyData.eqv (.str x) (.str y)=_
   unfold PyData.eqv
   by_cases h:x=y
   ·subst h;simp
   ·rw[decide_eq_false (fun e=>h (congrArg Prod.fst e))];simpa using h
  | some n=>show PyData.eqv (.str x) (pD (y,n))=_;rw[decide_eq_false (fun e:(x,none)=(y,some n)=>by cases e)];unfold pD;rw[PyData.eqv]<;>(intros;nofun)
 | some m=>cases q with
  | none=>show PyData.eqv (pD (x,m)) (.str y)=_;rw[decide_eq_false (fun e:(x,some m)=(y,none)=>by cases e)];unfold pD;rw[PyData.eqv]<;>(intros;nofun)
  | some n =>
   show PyData.eqv (pD (x,m)) (pD (y,n))=_
   rw[sv]
   refine decide_eq_decide.mpr ⟨fun e=>?_,fun e=>?_⟩
   ·rw[Prod.mk.injEq]at e;rw[e.1,e.2]
   ·rw[Prod.mk.injEq]at e;rw[e.1,Option.some.inj e.2]
theorem kq {pins:List (Addr×Obj)}{s:Shared}{σ:St}{H:Hp}{x:V}{v:Value}{q t:Str×Option Int}(I:Inv X pins σ H s)(h:DatV X.K H x (qD q))(r:RelV x v):Bw X.K H t v↔q=t:=by
 obtain⟨a,o⟩:=q
 obtain⟨b,p⟩:=t
 cases o with
 | none =>
  have h:DatV X.K H x (.str a):=h
  cases h
  obtain⟨tk,rfl⟩:=r
  cases p with
  | none =>
   constructor
   ·rintro⟨t2,e⟩;cases e;rfl
   ·intro e;cases e;exact⟨tk,rfl⟩
  | some n =>
   constructor
   ·rintro⟨c,e,_⟩;cases e
   ·intro e;cases e
 | some m =>
  obtain⟨c,rfl,hc⟩:=fZ (show DatV X.K H x (pD (a,m)) from h)
  obtain rfl:v=Value.ref c:=r
  cases p with
  | none =>
   constructor
   ·rintro⟨t2,e⟩;cases e
   ·intro e;cases e
  | some n =>
   constructor
   ·rintro⟨d,e,hd⟩
    cases e
    have:=I.tuple_inj hc hd
    unfold pV at this
    injection this with h1 h2
    injection h2 with h2 _
    injection h1 with h1
    injection h2 with h2
    have h1:a=b:=h1
    have h2:m=n:=h2
    rw[h1,h2]
   ·intro e;cases e;exact⟨c,rfl,hc⟩
def AG (K:PySem.W.Frag)(neg:Bool):R2:=fun x y H Q=>match y with
 | .ref p=>(∃(xs:List V) (ps:List (Str×Option Int)) (t:Str×Option Int),SqL K H p xs/\DatVs K H xs (ps.map qD)/\DatV K H x (qD t)/\(∀q∈t::ps,PyData.strOk q.1=true)/\Q (.bl (neg^^decide (t∈ps))) H)\/kN K neg x y H Q
 | y=>kN K neg x y H Q
open Classical in
theorem vM {pins:List (Addr×Obj)}{s:Shared}{σ:St}{H:Hp}{x:V}{v:Value}{p:Addr}{xs:List V}{ps:List (Str×Option Int)}{t:Str×Option Int}(hu:X.A.units+64<cLine)(I:Inv X pins σ H s)(rx:RelV x v)(hS:SqL X.K H p xs)(hD:DatVs X.K H xs (ps.map qD))(hx:DatV X.K H x (qD t))(ok:∀q∈t::ps,PyData.strOk q.1=true) :
  ∃(items:Array Value) (e:Value->Bool),s.heap.IsList p items/\(∀y,y∈items->SeqAt.EqAt X.A.in1 s y v (e y))/\items.any e=decide (t∈ps):=by
 obtain⟨its,rv,pl,_⟩:=I.list hS
 have at_:∀(i:Nat) (hi:i<its.length),∃q x,ps[i]?=some q/\DatV X.K H x (qD q)/\RelV x its[i]:=fun i hi=>by
  have hil:i<xs.length:=by have:=rv.length;omega
  have hxi:xs[i]?=some xs[i]:=List.getElem?_eq_getElem hil
  obtain⟨d,hd,hdx⟩:=hD.get hxi
  rw[List.getElem?_map]at hd
  cases ep:ps[i]? with
  | none=>rw[ep]at hd;cases hd
  | some q =>
   rw[ep]at hd
   have ed:d=qD q:=(Option.some.inj hd).symm
   subst ed
   obtain⟨u,hu2,ru⟩:=rv.get hxi
   rw[List.getElem?_eq_getElem hi]at hu2
   cases hu2
   exact⟨q,_,rfl,hdx,ru⟩
 refine⟨its.toArray,fun y=>decide (Bw X.K H t y),pl.isList,fun y hy=>?_,?_⟩
 ·obtain⟨i,hi,e⟩:=List.mem_iff_getElem.mp (show y∈its by simpa using hy)
  obtain⟨q,z,ep,hdx,ru⟩:=at_ i hi
  rw[e]at ru
  obtain⟨as,ra⟩:=hdx.reads I ru
  obtain⟨bs,rb⟩:=hx.reads I rx
  have key:=SeqAt.eqAt_reads (qD q) (qD t) X.A.in1 s _ _ as bs ra rb (tw (ok q (List.mem_cons_of_mem _ (List.mem_of_getElem? ep)))) (tw (ok t List.mem_cons_self)) (by
   have:=oz q
   have:X.A.in1.units=X.A.units+1:=rfl
   omega)
  show SeqAt.EqAt _ _ _ _ (decide (Bw X.K H t y))
  rw[show decide (Bw X.K H t y)=PyData.eqv (qD q) (qD t) by rw[se];exact decide_eq_decide.mpr (kq I hdx ru)]
  exact key
 ·rw[Bool.eq_iff_iff,Array.any_eq_true',decide_eq_true_eq]
  constructor
  ·rintro⟨y,hy,he⟩
   obtain⟨i,hi,e⟩:=List.mem_iff_getElem.mp (show y∈its by simpa using hy)
   obtain⟨q,z,ep,hdx,ru⟩:=at_ i hi
   rw[e]at ru
   rw[<-(kq I hdx ru).mp (of_decide_eq_true he)]
   exact List.mem_of_getElem? ep
  ·intro hm
   obtain⟨i,hi,e⟩:=List.mem_iff_getElem.mp hm
   have hxl:xs.length=ps.length:=by have:=hD.length;rw[List.length_map]at this;exact this
   have hil:i<its.length:=by have:=rv.length;omega
   obtain⟨q,z,ep,hdx,ru⟩:=at_ i hil
   rw[List.getElem?_eq_getElem hi,e]at ep
   cases ep
   exact⟨its[i],by simp,decide_eq_true ((kq I hdx ru).mpr rfl)⟩
theorem ll (hu:X.A.units+64<cLine)(hK:X.K=K:=by rfl):Irr (bq X (compareOp .NotIn) (AG K true)):=by
 refine .mk ?_
 subst hK
 intro pins s σ H x y v u Q I rx ry h
 unfold AG at h
 split at h
 ·rename_i p
  rcases h with⟨xs,ps,t,h1,h2,h3,h4,q⟩ | h
  ·obtain rfl:u=Value.ref p:=ry
   obtain⟨items,e,a1,a2,a3⟩:=vM hu I rx h1 h2 h3 h4
   refine SeqAt.notIn_listAt e a1 a2 ?_
   rw[a3]
   exact⟨.bl _,H,I,rfl,by simpa using q⟩
  ·exact (fI hu rfl).out pins s σ H x (.ref p) v u Q I rx ry h
 ·exact (fI hu rfl).out pins s σ H x _ v u Q I rx ry h
def xu (K:PySem.W.Frag):List V->Hp->VK->Prop:=fun xs H Q=>my xs H Q\/nX K xs H Q
theorem oN (hc:X.calm=true)(hK:X.K=K:=by rfl):Irr (ba X (.type "list") (xu K)):=by
 refine .mk ?_
 intro pins s σ H xs us Q I r h
 rcases h with h | h
 ·exact (oJ hc).out pins s σ H xs us Q I r h
 ·exact (rg hK).out pins s σ H xs us Q I r h
def xZ (P:Program)(w:World)(K:PySem.W.Frag)(td ty tx:TE):TE:=fun σ H Q=>td σ H fun x H1=>match x with
 | .ref a=>(∃kvs ep,GAt P w K H1 a kvs ep)/\ty σ H1 fun y H2=>tx σ H2 fun z H3=>∃kvs ep k,GAt P w K H3 a kvs ep/\KeyV K H3 k y/\Q ((bW kvs k).getD z) H3
 | _=>False
theorem uf {o e f:Expr}{apos cpos:Pos}{td ty tx:TE}(hu:X.A.units+64<cLine)(ho:JE X o td)(he:JE X e ty)(hf:JE X f tx)(m:M2 X o "get" apos e f cpos:=by exact⟨rfl,rfl,rfl,rfl⟩)(hK:X.K=K:=by rfl)(hP:X.prog=P:=by rfl)(hw:X.w=w:=by rfl) :
  JE X (.Call (.Attribute o "get" apos) [e,f] [] cpos) (xZ P w K td ty tx):=by
 refine .mk ?_
 subst hK hP hw
 intro pins s σ H Q I h
 refine wpAny_Call_method m.base m.few m.line PySem.F.plainAttrs_dict PySem.F.slot_dict_get PySem.F.type_dict_get (bh (ho.out pins s σ H _ I h) fun u s1 ⟨x,H1,I1,rx,q1⟩=>?_)
 dsimp only at q1
 cases x with
 | ref a =>
  obtain⟨⟨kvs,ep,g⟩,q1⟩:=q1
  obtain rfl:u=Value.ref a:=rx
  obtain⟨t1,t2⟩:=md I1 g
  refine⟨t1,t2,?_⟩
  rw[m.trees]
  refine Calls.callWith_builtin rfl (Calls.evalArgs_plain (Calls.spliced_cons (bh (he.out pins s1 σ H1 _ I1 q1) fun iv s2 ⟨y,H2,I2,ry,q2⟩ =>
   Calls.spliced_cons (bh (hf.out pins s2 σ H2 _ I2 q2) fun fv s3 ⟨z,H3,I3,rz,kvs3,ep3,k,h1,h2,q3⟩=>Calls.spliced_nil ?_))))
  obtain⟨xs,g3,rl⟩:=bn I3 h1
  refine call_meetsIn PySem.F.slot_dict_get g3.typeIs PySem.F.entry_dict_get (PySem.F.args_dict_get_3 _ _ _) (nj h1.2.2.1 fv) ⟨show X.A.units+1<cLine by omega,k,xs,ep3,cq I3 h2 ry,g3,?_⟩
  rcases cX rl k with⟨e1,e2⟩ | ⟨z',p,e1,e2,rv⟩
  ·rw[e1]at q3
   rw[e2]
   exact⟨z,H3,I3.tok _,rz,q3⟩
  ·rw[e1]at q3
   rw[e2]
   exact⟨z',H3,I3.tok _,rv,q3⟩
 | _=>exact q1.elim
def vo (P:Program)(w:World)(K:PySem.W.Frag)(tk tv:TE):TE:=fun σ H Q=>∀p,H p=none->(p == sysModules)=false->tk σ (al H p (cA P w p [] 0)) fun y H1=>tv σ H1 fun v H2=>∃k,GAt P w K H2 p [] 0/\KeyV K H2 k y/\∀ep,Q (.ref p) (al H2 p (cA P w p [(k,y,v)] ep))
theorem qp {k v:Expr}{pos:Pos}{tk tv:TE}(hu:X.A.units+64<cLine)(hk:JE X k tk)(hv:JE X v tv)(hK:X.K=K:=by rfl)(hP:X.prog=P:=by rfl)(hw:X.w=w:=by rfl):JE X (.Dict [some k] [v] pos) (vo P w K tk tv):=by
 refine .mk ?_
 subst hK hP hw
 intro pins s σ H Q I h
 refine wpAny_Dict_any rfl rfl (fun z=>nomatch z) (show 1≤15 by decide) ?_
 have I0:Inv X pins σ (al H s.heap.objs.size (cA X.prog X.w s.heap.objs.size [] 0)) { s with heap:=s.heap.push { cls:=.type "dict",data:=.dict #[] } }:=I.laid (a:=s.heap.objs.size) (o:=cA X.prog X.w s.heap.objs.size [] 0) (t':=s.toks) (fun _ _ q=>Heap.get?_push_of_some _ q) (Nat.le_refl _)
  (jZ _ [] .nil ⟨_,#[],Heap.get?_push_size _ rfl,⟨rfl,rfl,rfl⟩,rfl,rfl,(fun _ hx=>by cases hx),List.nodup_nil⟩ _)
 have h:=h s.heap.objs.size (I.hok.fresh (Nat.le_refl _)) (beq_eq_false_iff_ne.mpr (Ne.symm (Nat.ne_of_lt I.big)))
 generalize s.heap.objs.size=d at I0 h ⊢
 refine pairTrees_cons_walk (bh (hk.out pins _ σ _ _ I0 h) fun kv s1 ⟨y,H1,I1,ry,q1⟩=>bh (hv.out pins s1 σ H1 _ I1 q1) fun vv s2 ⟨z,H2,I2,rz,kk,h1,h2,q2⟩=>pairTrees_nil_walk ?_)
 obtain⟨xs,g,rl⟩:=bn I2 h1
 unfold storeAll
 rw[List.forIn_cons]
 refine wpAny_bind (wpAny_bind (wk (show X.A.units<cLine by omega) (cq I2 h2 ry) g (by rw[<-rl.length];exact Nat.zero_le _) fun h' ep' he' dd' hs=>?_))
 refine wpAny_pure ?_
 dsimp only
 rw[List.forIn_nil]
 refine wpAny_pure ?_
 obtain⟨o',_,ho',_⟩:=id dd'
 exact⟨.ref d,_,fk I2 (by rw[h1.1];exact True.intro) hs ⟨o',ho'⟩ (jZ h' _ (lK rl ry rz) dd' _),rfl,q2 ep'⟩
end
end L2
namespace Rg
def wr (c:Nat):Prop:=32≤c/\c≤126/\c≠37
end Rg
namespace Rg
open PySem PySem.Builtin PySem.Builtin.Str
abbrev S (l:List Nat):Str:=⟨l.toArray⟩
theorem cK {a b:List Nat}(h:S a=S b):a=b:=by
 have:(S a).cps.toList=(S b).cps.toList:=by rw[h]
 simpa using this
theorem yc (x:Str):x=S x.cps.toList:=by cases x;simp[S]
theorem Bo (a b:List Nat):S a++S b=S (a++b):=Str.ext' (by rw[Str.cps_append];simp)
theorem jr (a:List Nat):(S a).length=a.length:=by simp[Str.length]
end Rg
namespace Rg
open PySem PySem.Spec PyProof.Rows L2
def cY (l:List Nat):Prop:=∀c∈l,c<0x110000
theorem dy {l:List Nat}(h:cY l):PyData.strOk (S l)=true:=by
 unfold PyData.strOk
 simp
 intro c hc
 have:=h c hc
 omega
theorem e6 {K:PySem.W.Frag}{H:Hp}:∀ks:List (List Nat),DatVs K H (ks.map fun k=>V.str (S k)) (ks.map fun k=>PyData.str (S k))
 | []=>.nil
 | k::r=>.cons (.str _) (e6 r)
theorem f6:∀{ks:List (List Nat)},(∀k∈ks,cY k)->PyData.canLayAll0 (ks.map fun k=>PyData.str (S k))=true
 | [],_=>by simp only[List.map_nil,PyData.canLayAll0]
 | k::r,h=>by
  rw[List.map_cons]
  simp only[PyData.canLayAll0,PyData.canLay0,dy (h k List.mem_cons_self),f6 fun x hx=>h x (List.mem_cons_of_mem _ hx),Bool.and_self]
theorem kd:∀ks:List (List Nat),PyData.depthAll (ks.map fun k=>PyData.str (S k))≤2
 | []=>by simp only[List.map_nil,PyData.depthAll];omega
 | k::r=>by
  have ih:=kd r
  rw[List.map_cons]
  simp only[PyData.depthAll,PyData.depth]
  omega
theorem hW {l m:List Nat}:decide ((S l:Str)=S m)=(l == m):=by
 by_cases h:l=m
 ·rw[h,decide_eq_true rfl];simp
 ·rw[decide_eq_false fun z=>h (cK z)]
  exact (Bool.eq_false_iff.mpr fun z=>h (beq_iff_eq.mp z)).symm
theorem m5:∀(ks ms:List (List Nat)),PyData.eqvAll (ks.map fun k=>PyData.str (S k)) (ms.map fun k=>PyData.str (S k))=(ks == ms)
 | [],[]=>by simp[PyData.eqvAll]
 | [],m::r=>by simp[PyData.eqvAll]
 | k::r,[]=>by simp[PyData.eqvAll]
 | k::r,m::r'=>by
  have h:PyData.eqv (.str (S k)) (.str (S m))=(k == m):=by
   rw[<-hW]
   unfold PyData.eqv
   by_cases e:(S k:Str)=S m
   ·simp[e]
   ·simp[e]
  rw[List.map_cons,List.map_cons,PyData.eqvAll,h,m5 r r']
  rfl
end Rg
--@RAISES but law
namespace K31
open PySem PySem.Spec PyProof.Rows L2 Rg
def top (i:Nat):Stmt:=PySem.Challenge.pw_regrowth_k31_next_kinds.main.body.getD i (.Pass ⟨0,0,0,0⟩)
structure Txt (K:PySem.W.Frag)(w:World)(mg:Str->Option Value)(tT:Addr):Prop where
 n_set:mg "set"=none
 n_sorted:mg "sorted"=none
 n_len:mg "len"=none
 n_list:mg "list"=none
 n_tuple:mg "tuple"=none
 n_int:mg "int"=none
 n_str:mg "str"=none
 n_bool:mg "bool"=none
 n_min:mg "min"=none
 n_all:mg "all"=none
 n_zip:mg "zip"=none
 n_range:mg "range"=none
 n_enumerate:mg "enumerate"=none
 n_isinstance:mg "isinstance"=none
 n_dict:mg "dict"=none
 g_NO_RULE:∃t,mg "NO_RULE"=some (.int (-1) t)
 g_TOP:mg "TOP"=some (.ref tT)
 g_END:∃t,mg "END"=some (.str "end" t)
 k_TOP:∀H,SqT K H tT [.str "",.int 0]
section
variable {P:Program}{w:World}{K:PySem.W.Frag}{mg:Str->Option Value}{base:Heap}{C tS tN tT:Addr}
structure Rl where
 sort:List Nat
 rank:Int
 side:Str
 ps:List (List Nat)
def Rl.dat (q:Rl):PyData:=.tuple [.str (S q.sort),.int q.rank,.str q.side,.tuple (q.ps.map fun l=>.str (S l))]
theorem fM {H:Hp}:∀{xs:List V} (ls:List (List Nat)),DatVs K H xs (ls.map fun l=>PyData.str (S l))->xs=ls.map fun l=>V.str (S l)
 | _,[],h=>by cases h;rfl
 | _,l::r,h=>by
  cases h with
  | cons h1 ht=>cases h1;rw[fM r ht];rfl
theorem cZ {H:Hp}{x:V}{q:Rl}(h:DatV K H x q.dat):∃t tp,x=.ref t/\SqT K H t [.str (S q.sort),.int q.rank,.str q.side,.ref tp]/\SqT K H tp (q.ps.map fun l=>V.str (S l)):=by
 unfold Rl.dat at h
 cases h with
 | tuple hS hd =>
  cases hd with
  | cons h1 hd=>cases h1;cases hd with
   | cons h2 hd=>cases h2;cases hd with
    | cons h3 hd=>cases h3;cases hd with
     | cons h4 hd=>cases hd;cases h4 with
      | tuple hS2 hd2 =>
       rw[fM _ hd2]at hS2
       exact⟨_,_,rfl,hS,hS2⟩
def aj (rs:List Rl)(s:List Nat):List Int:=(rs.filter fun q=>q.sort == s).map Rl.rank
def fL (K:PySem.W.Frag):Sp:=fun vs H Q _=>∃(a:Addr) (rl:List V) (rs:List Rl) (l:List Nat),vs=[.ref a,.str (S l)]/\SqL K H a rl/\DatVs K H rl (rs.map Rl.dat)/\rs.length≤60 /\
 ∀H' p (ns:List Int),Same H H'->H' p=some (.lst (ns.map V.int))->ns.Perm (fX (aj rs l))->ns.Pairwise (·≤·)->Q (.ref p) H'
theorem fN (ns:List Int):(fX ns).length≤ns.length:=by
 have h:∀(l acc:List Int),(l.foldl step_dedup acc).length≤acc.length+l.length:=by
  intro l
  induction l with
  | nil=>intro acc;simp
  | cons x r ih =>
   intro acc
   refine Nat.le_trans (ih _) ?_
   have:(step_dedup acc x).length≤acc.length+1:=by unfold step_dedup;split<;>simp
   simp only[List.length_cons]
   omega
 have:=h ns []
 unfold fX
 simpa using this
structure TxR (mg:Str->Option Value):Prop where
 n_set:mg "set"=none
 n_sorted:mg "sorted"=none
abbrev st_ranks_of:Stmt:=top 14
theorem gu:ax ["rules","sort"] ["rules","sort"] (ak st_ranks_of):=⟨rfl,rfl,rfl,by decide +kernel,rfl,by decide +kernel,by decide +kernel⟩
theorem oS (R:Raw K mg "ranks_of" st_ranks_of ["rules","sort"])(T:TxR mg):Def P w K mg base 1 "ranks_of" ["rules","sort"] (fL K):=by
 refine R.defJ gu (fun vs H Q E h=>?_) (fun f cdv A outer s H vs Q E hr h=>?_)
 ·obtain⟨a,rl,rs,l,rfl,_⟩:=h
  rfl
 ·obtain⟨a,rl,rs,l,rfl,hS,hD,hl,q⟩:=h
  have sc:=gu
  have hu:=hr.units
  have hrl:rl.length=rs.length:=by have:=hD.length;rw[List.length_map]at this;exact this
  refine⟨_,(ag (aQ (aM (ul rfl (P:=P) (w:=w)) rfl T.n_sorted boot_sorted (aa (bK (yH rfl (K:=K) (P:=P) (w:=w)) rfl T.n_set boot_set (aa (fS (N:=["rule","sort"]) (cap:=[none,some 1]) rfl (CompScope.of rfl (by rfl)) (aW (K:=K) (jn 0)) (fun _ _ _ _=>(ai (i:=0) (show List.Nodup [("rule":Str),("sort":Str)] by decide +kernel) rfl (Or.inl rfl))) (fun _ _ _ _=>(fK (aA (bX hu (K:=K)) (aO (aU hu (K:=K) (w:=w)) (jn 0) ap) (jn 1)))) (fun _ _ _ _=>(aO (aU hu (K:=K) (w:=w)) (jn 0) ap))) af)) af)))),?_⟩
  refine .inl ⟨⟨_,hS⟩,?_⟩
  refine cQ (xs:=rl) (fun i ys σ' H'=>H'=H/\ys=(aj (rs.take i) l).map V.int/\∃v,σ'=[v,some (.str (S l))]) (by omega) ⟨rfl,rfl,none,rfl⟩
   (fun i ys σ' H' h=>by rw[h.2.1,List.length_map];unfold aj;rw[List.length_map];exact Nat.le_trans (List.length_filter_le _ _) (by rw[List.length_take];omega)) (fun i ys σ' H' h=>by rw[h.1];exact hS) ?_ ?_
  ·rintro i x ys σ' H' hi ⟨rfl,rfl,v,rfl⟩
   obtain⟨dd,hdd,hx⟩:=hD.get hi
   rw[List.getElem?_map]at hdd
   cases ee:rs[i]? with
   | none=>rw[ee]at hdd;cases hdd
   | some g =>
    rw[ee]at hdd
    have ed:dd=g.dat:=(Option.some.inj hdd).symm
    subst ed
    obtain⟨t,tp,rfl,hT,_⟩:=cZ hx
    have et:rs.take (i+1)=rs.take i++[g]:=by rw[List.take_add_one,ee];rfl
    refine .inr ⟨_,.str (S g.sort),hT,aq (j:=0) rfl,?_⟩
    show if (false^^decide ((S g.sort:Str)=S l))=true then _ else _
    rw[Bool.false_xor,hW]
    refine bc (fun h=>?_) (fun h=>?_)
    ·refine .inr ⟨_,.int g.rank,hT,aq (j:=1) rfl,rfl,?_,_,rfl⟩
     unfold aj
     rw[et,List.filter_append,List.filter_cons_of_pos (p:=fun (q:Rl)=>q.sort == l) h,List.filter_nil,List.map_append,List.map_append]
     rfl
    ·refine⟨rfl,?_,_,rfl⟩
     unfold aj
     rw[et,List.filter_append,List.filter_cons_of_neg (p:=fun (q:Rl)=>q.sort == l) h,List.filter_nil,List.append_nil]
  ·rintro ys σ' H' ⟨rfl,rfl,v,rfl⟩ D hD2
   rw[hrl,List.take_length]
   have hrk:(aj rs l).length≤60:=by unfold aj;rw[List.length_map];exact Nat.le_trans (List.length_filter_le _ _) hl
   have s1:Same H' (al H' D (.lst ((aj rs l).map V.int))):=ah hD2
   have h1:al H' D (.lst ((aj rs l).map V.int)) D=some (.lst ((aj rs l).map V.int)):=ae
   generalize al H' D (.lst ((aj rs l).map V.int))=H1 at s1 h1 ⊢
   refine⟨_,SqL.of h1,by omega,fun p2 o hp2 hz=>?_⟩
   have dl:=fN (aj rs l)
   refine⟨o,_,ae,hz,by omega,fun p3 ns hp3 hpm hsr=>?_⟩
   exact q _ p3 ns ((s1.trans (ah hp2)).trans (ah hp3)) ae hpm hsr
def jY (K:PySem.W.Frag)(C:Addr):Sp:=fun vs H Q E=>∃(a:Addr) (ns:List Int) (k:Int),vs=[.ref a,.int k]/\SqL K H a (ns.map V.int)/\ns.length≤60/\0≤k/\k≤99 /\
 (ns.filter (fun x=>decide (k<x))=[]->∀H',Same H H'->E (.ref C) none H')/\∀m r,ns.filter (fun x=>decide (k<x))=m::r->∀H',Same H H'->Q (.int m) H'
theorem pe:∀k:Fin 100,((k.val:Int)).natAbs.log2<1920/\(Str.ofString (toString (k.val:Int))).length≤1100000:=by decide +kernel
theorem dX {k:Int}(h0:0≤k)(h9:k≤99):k.natAbs.log2<1920/\(Str.ofString (toString k)).length≤1100000:=by
 have:=pe ⟨k.toNat,by omega⟩
 have e:((k.toNat:Nat):Int)=k:=Int.toNat_of_nonneg h0
 simp only[e]at this
 exact this
abbrev st_rank_above:Stmt:=top 16
theorem eB:ax ["ranks","rank","above"] ["ranks","rank"] (ak st_rank_above):=⟨rfl,rfl,rfl,by decide +kernel,rfl,by decide +kernel,by decide +kernel⟩
structure TxF (K:PySem.W.Frag)(mg:Str->Option Value)(C:Addr):Prop where
 c_NoFloor:mg "NoFloor"=some (.ref C)
 x_NoFloor:PySem.W.excIn K C eO "ValueError.__new__"=true
theorem oV (R:Raw K mg "rank_above" st_rank_above ["ranks","rank"])(T:TxF K mg C):DefX P w K mg base 1 "rank_above" ["ranks","rank"] (jY K C):=by
 refine R.defX eB (fun vs H Q E h=>?_) (fun f cdv A outer s H vs Q E hr h=>?_)
 ·obtain⟨a,ns,k,rfl,_⟩:=h
  rfl
 ·obtain⟨a,ns,k,rfl,hS,hl,h0,h9,qE,q⟩:=h
  have sc:=eB
  have hu:=hr.units
  refine⟨_,(ac (km (i:=2) (N:=["other","rank"]) (cap:=[none,some 1]) rfl (CompScope.of rfl (by rfl)) (aW (K:=K) (jn 0)) (fun _ _ _ _=>(ai (i:=0) (show List.Nodup [("other":Str),("rank":Str)] by decide +kernel) rfl (Or.inl rfl))) (fun _ _ _ _=>(fK (aA Ax (jn 0) (jn 1)))) (fun _ _ _ _=>(jn 0)) sc.nd rfl rfl)
  (ac (aZ (eZ (dA (K:=K) (jn 2)))
  (ag (bL rfl T.c_NoFloor T.x_NoFloor (aa (j8 (aC bP (aC (cE (jn 1)) bY))) af)))
  aE)
  (ag (aQ (aO (aU hu (K:=K) (w:=w)) (jn 2) ap))))),?_⟩
  refine .inl ⟨⟨_,hS⟩,?_⟩
  refine cQ (xs:=ns.map V.int) (fun i ys σ' H'=>H'=H/\ys=((ns.take i).filter (fun x=>decide (k<x))).map V.int/\∃v,σ'=[v,some (.int k)]) (by rw[List.length_map];omega) ⟨rfl,rfl,none,rfl⟩
   (fun i ys σ' H' h=>by rw[h.2.1,List.length_map];exact Nat.le_trans (List.length_filter_le _ _) (by rw[List.length_take];omega)) (fun i ys σ' H' h=>by rw[h.1];exact hS) ?_ ?_
  ·rintro i x ys σ' H' hi ⟨rfl,rfl,v,rfl⟩
   rw[List.getElem?_map]at hi
   cases ee:ns[i]? with
   | none=>rw[ee]at hi;cases hi
   | some g =>
    rw[ee]at hi
    have ex:x=V.int g:=(Option.some.inj hi).symm
    subst ex
    have et:ns.take (i+1)=ns.take i++[g]:=by rw[List.take_add_one,ee];rfl
    show if decide (g>k)=true then _ else _
    refine bc (fun h=>?_) (fun h=>?_)
    ·refine⟨rfl,?_,_,rfl⟩
     rw[et,List.filter_append,List.filter_cons_of_pos (p:=fun (x:Int)=>decide (k<x)) h,List.filter_nil,List.map_append]
     rfl
    ·refine⟨rfl,?_,_,rfl⟩
     rw[et,List.filter_append,List.filter_cons_of_neg (p:=fun (x:Int)=>decide (k<x)) h,List.filter_nil,List.append_nil]
  ·rintro ys σ' H' ⟨rfl,rfl,v,rfl⟩ D hD2
   rw[List.length_map,List.take_length]
   have s1:Same H' (al H' D (.lst ((ns.filter (fun x=>decide (k<x))).map V.int))):=ah hD2
   have h1:al H' D (.lst ((ns.filter (fun x=>decide (k<x))).map V.int)) D=some (.lst ((ns.filter (fun x=>decide (k<x))).map V.int)):=ae
   generalize al H' D (.lst ((ns.filter (fun x=>decide (k<x))).map V.int))=H1 at s1 h1 ⊢
   cases ef:ns.filter (fun x=>decide (k<x)) with
   | nil =>
    rw[ef]at h1
    refine⟨false,.inl ⟨_,SqL.of h1,rfl⟩,⟨⟨trivial,⟨rfl,.inr ⟨k,rfl,(dX h0 h9).1,(dX h0 h9).2⟩⟩,trivial⟩,fun y _=>⟨(show 1≤sizeLine by decide),qE ef _ s1⟩⟩⟩
   | cons m r =>
    rw[ef]at h1
    refine⟨true,.inl ⟨_,SqL.of h1,rfl⟩,?_⟩
    exact .inl ⟨_,.int m,SqL.of h1,aq (j:=0) rfl,q m r ef _ s1⟩
def fP (q:Rl)(j:Nat)(p:List Nat):Int :=
 if p=q.sort then (if j=0 then q.rank+(if q.side="left" then 0 else 1) else if j+1=q.ps.length then q.rank+(if q.side="right" then 0 else 1) else 0) else 0
def dQ (rs:List Rl)(q:Rl)(j:Nat)(p:List Nat):List Int:=(aj rs p).filter fun x=>decide (fP q j p≤x)
theorem fz {rs:List Rl}{q:Rl}(h:q∈rs):q.rank∈aj rs q.sort:=List.mem_map.mpr ⟨q,List.mem_filter.mpr ⟨h,by simp⟩,rfl⟩
def nU (K:PySem.W.Frag)(C:Addr):Sp:=fun vs H Q E=>∃(a:Addr) (rl:List V) (rs:List Rl) (n j:Nat) (q:Rl) (p:List Nat),vs=[.ref a,.int (n:Nat),.int (j:Nat)]/\SqL K H a rl/\DatVs K H rl (rs.map Rl.dat)/\rs.length≤60 /\
 rs[n]?=some q/\q.ps[j]?=some p/\(∀x∈rs,0≤x.rank/\x.rank≤99) /\
 (aj rs p=[]->∀H',Same H H'->Q .non H')/\(aj rs p≠[]->dQ rs q j p=[]->∀H',Same H H'->E (.ref C) none H')/\∀m∈dQ rs q j p,(∀x∈dQ rs q j p,m≤x)->∀H',Same H H'->Q (.int m) H'
abbrev st_floor_of:Stmt:=top 15
theorem gr:ax ["rules","number","place","sort","rank","side","parts","ranks"] ["rules","number","place"] (ak st_floor_of):=⟨rfl,rfl,rfl,by decide +kernel,rfl,by decide +kernel,by decide +kernel⟩
theorem o0 (R:Raw K mg "floor_of" st_floor_of ["rules","number","place"])(T:Txt K w mg tT)(D_ranks_of:Def P w K mg base 1 "ranks_of" ["rules","sort"] (fL K))(D_rank_above:DefX P w K mg base 1 "rank_above" ["ranks","rank"] (jY K C)) :
  DefX P w K mg base 2 "floor_of" ["rules","number","place"] (nU K C):=by
 refine R.defX gr (fun vs H Q E h=>?_) (fun f cdv A outer s H vs Q E hr h=>?_)
 ·obtain⟨a,rl,rs,n,j,q,p,rfl,_⟩:=h
  rfl
 ·obtain⟨a,rl,rs,n,j,q,p,rfl,hS,hD,hl,hq,hp,hrk,qN,qE,qI⟩:=h
  have sc:=gr
  have hu:=hr.units
  have hrl:rl.length=rs.length:=by have:=hD.length;rw[List.length_map]at this;exact this
  have hnl:n<rs.length:=(List.getElem?_eq_some_iff.mp hq).1
  have hjl:j<q.ps.length:=(List.getElem?_eq_some_iff.mp hp).1
  have hn:rl[n]?=some (rl[n]'(by omega)):=List.getElem?_eq_getElem (by omega)
  obtain⟨dd,hdd,hx⟩:=hD.get hn
  rw[List.getElem?_map,hq]at hdd
  have ed:dd=q.dat:=(Option.some.inj hdd).symm
  subst ed
  obtain⟨t,tp,ex,hT,hTp⟩:=cZ hx
  rw[ex]at hn
  have hpj:(q.ps.map fun l=>V.str (S l))[j]?=some (V.str (S p)):=by rw[List.getElem?_map,hp];rfl
  have mq:q∈rs:=List.mem_of_getElem? hq
  have hq0:=hrk q mq
  have hit:∀(ns:List Int),Srt ns (aj rs p)->∀H',Same H H' ->
    (fP q j p=0->∀m r,ns=m::r->Q (.int m) H')/\(fP q j p=q.rank->p=q.sort->Q (.int q.rank) H') /\
    (fP q j p=q.rank+1->ns≠[]->(ns.filter (fun x=>decide (q.rank<x))=[]->E (.ref C) none H')/\∀m r,ns.filter (fun x=>decide (q.rank<x))=m::r->Q (.int m) H'):=fun ns hs H' s'=>by
   refine⟨fun e m r en=>?_,fun e ep=>?_,fun e hne=>⟨fun ef=>?_,fun m r ef=>?_⟩⟩
   ·obtain⟨h1,h2⟩:=hs.least en
    have ef:dQ rs q j p=aj rs p:=by
     unfold dQ
     rw[e,List.filter_eq_self]
     intro x hx
     obtain⟨g,hg,rfl⟩:=List.mem_map.mp hx
     exact decide_eq_true (hrk g (List.mem_filter.mp hg).1).1
    exact qI m (by rw[ef];exact h1) (by rw[ef];exact h2) H' s'
   ·refine qI q.rank (List.mem_filter.mpr ⟨by rw[ep];exact fz mq,decide_eq_true (by omega)⟩) (fun x hx=>?_) H' s'
    have:=of_decide_eq_true (List.mem_filter.mp hx).2
    omega
   ·refine qE (fun z=>hne (hs.nil.mpr z)) ?_ H' s'
    have h2:=(hs.none q.rank).mp ef
    unfold dQ
    rw[List.filter_eq_nil_iff]
    intro x hx
    have:=h2 x hx
    rw[decide_eq_true_eq]
    omega
   ·obtain⟨h1,h2,h3⟩:=hs.above ef
    refine qI m (List.mem_filter.mpr ⟨h1,decide_eq_true (by omega)⟩) (fun x hx=>?_) H' s'
    obtain⟨x1,x2⟩:=List.mem_filter.mp hx
    have:=of_decide_eq_true x2
    exact h3 x x1 (by omega)
  refine⟨_,(ac (ao (i:=3) sc.nd rfl (Or.inl rfl) (aO (aU hu (K:=K) (w:=w)) (aO (aU hu (K:=K) (w:=w)) (jn 0) (jn 1)) ap))
  (ac (ao (i:=4) sc.nd rfl (Or.inl rfl) (aO (aU hu (K:=K) (w:=w)) (aO (aU hu (K:=K) (w:=w)) (jn 0) (jn 1)) ap))
  (ac (ao (i:=5) sc.nd rfl (Or.inl rfl) (aO (aU hu (K:=K) (w:=w)) (aO (aU hu (K:=K) (w:=w)) (jn 0) (jn 1)) ap))
  (ac (ao (i:=6) sc.nd rfl (Or.inl rfl) (aO (aU hu (K:=K) (w:=w)) (aO (aU hu (K:=K) (w:=w)) (jn 0) (jn 1)) ap))
  (ac (ao (i:=7) sc.nd rfl (Or.inl rfl) (bg D_ranks_of (hr.mono (by decide)) rfl (aa (jn 0) (aa (aO (aU hu (K:=K) (w:=w)) (jn 6) (jn 2)) af))))
  (ac (aZ (eZ (dA (K:=K) (jn 7)))
  (ag (aQ oE))
  aE)
  (ac (aZ (jc (fg (aA (bX hu (K:=K)) (aO (aU hu (K:=K) (w:=w)) (jn 6) (jn 2)) (jn 3)) (dh (aA (bX hu (K:=K)) (jn 2) ap))))
  (ag (aQ (lI (aA (bX hu (K:=K)) (jn 5) eG) (jn 4) (dI D_rank_above (hr.mono (by decide)) rfl (aa (jn 7) (aa (jn 4) af)) iP))))
  aE)
  (ac (aZ (jc (fg (aA (bX hu (K:=K)) (aO (aU hu (K:=K) (w:=w)) (jn 6) (jn 2)) (jn 3)) (dh (aA (bX hu (K:=K)) (jn 2) (aR oH (aM (eI (K:=K)) rfl T.n_len PySem.boot_len (aa (jn 6) af)) ap)))))
  (ag (aQ (lI (aA (bX hu (K:=K)) (jn 5) eG) (jn 4) (dI D_rank_above (hr.mono (by decide)) rfl (aa (jn 7) (aa (jn 4) af)) iP))))
  aE)
  (ag (aQ (aO (aU hu (K:=K) (w:=w)) (jn 7) ap))))))))))),?_⟩
  refine .inl ⟨_,.ref t,hS,aq hn,.inr ⟨_,.str (S q.sort),hT,aq (j:=0) rfl,?_⟩⟩
  refine .inl ⟨_,.ref t,hS,aq hn,.inr ⟨_,.int q.rank,hT,aq (j:=1) rfl,?_⟩⟩
  refine .inl ⟨_,.ref t,hS,aq hn,.inr ⟨_,.str q.side,hT,aq (j:=2) rfl,?_⟩⟩
  refine .inl ⟨_,.ref t,hS,aq hn,.inr ⟨_,.ref tp,hT,aq (j:=3) rfl,?_⟩⟩
  refine .inr ⟨_,.str (S p),hTp,aq hpj,⟨a,rl,rs,p,rfl,hS,hD,hl,fun H1 pp ns s1 h1 hpm hsr=>?_⟩⟩
  have hit1:=hit ns ⟨hpm,hsr⟩ H1 s1
  have hTp1:=s1.seqT hTp
  have nl:ns.length≤60:=by
   have h2:=fN (aj rs p)
   have h3:(aj rs p).length≤rs.length:=by unfold aj;rw[List.length_map];exact List.length_filter_le _ _
   have:=hpm.length_eq
   omega
  cases en:ns with
  | nil =>
   rw[en]at h1
   refine⟨false,.inl ⟨_,SqL.of h1,rfl⟩,?_⟩
   exact qN ((Srt.nil ⟨hpm,hsr⟩).mp en) H1 s1
  | cons m0 r0 =>
   have hne:ns≠[]:=by rw[en];exact List.cons_ne_nil _ _
   refine⟨true,.inl ⟨_,SqL.of h1,by rw[en];rfl⟩,?_⟩
   have abv:fP q j p=q.rank+1->jY K C [.ref pp,.int q.rank] H1 Q E:=fun e =>
    ⟨pp,ns,q.rank,rfl,SqL.of h1,nl,hq0.1,hq0.2,fun ef H2 s2=>((hit ns ⟨hpm,hsr⟩ H2 (s1.trans s2)).2.2 e hne).1 ef,fun m r ef H2 s2=>((hit ns ⟨hpm,hsr⟩ H2 (s1.trans s2)).2.2 e hne).2 m r ef⟩
   refine .inr ⟨_,.str (S p),hTp1,aq hpj,?_⟩
   show if (false^^decide ((S p:Str)=S q.sort))=true then _ else _
   rw[Bool.false_xor]
   refine bc (fun hps=>?_) (fun hps=>?_)
   ·have eps:p=q.sort:=cK (of_decide_eq_true hps)
    show if (false^^decide (((j:Nat):Int)=0))=true then _ else _
    rw[Bool.false_xor]
    refine bc (fun hj0=>?_) (fun hj0=>?_)
    ·have ej:j=0:=by have:=of_decide_eq_true hj0;omega
     show if (false^^decide (q.side=Str.ofString "left"))=true then _ else _
     rw[Bool.false_xor]
     refine bc (fun hs=>?_) (fun hs=>?_)
     ·refine hit1.2.1 ?_ eps
      unfold fP
      rw[if_pos eps,if_pos ej,if_pos (of_decide_eq_true hs),Int.add_zero]
     ·refine abv ?_
      unfold fP
      rw[if_pos eps,if_pos ej,if_neg (fun z=>hs (decide_eq_true z))]
    ·have ej:¬ j=0:=fun z=>hj0 (decide_eq_true (by omega))
     refine .inr ⟨_,.str (S p),hTp1,aq hpj,?_⟩
     show if (false^^decide ((S p:Str)=S q.sort))=true then _ else _
     rw[Bool.false_xor,if_pos hps]
     refine⟨_,.inr hTp1,?_⟩
     show if (false^^decide (((j:Nat):Int)=(((q.ps.map fun l=>V.str (S l)).length:Nat):Int)-1))=true then _ else _
     rw[Bool.false_xor,List.length_map]
     refine bc (fun hj1=>?_) (fun hj1=>?_)
     ·have ej1:j+1=q.ps.length:=by have:=of_decide_eq_true hj1;omega
      show if (false^^decide (q.side=Str.ofString "right"))=true then _ else _
      rw[Bool.false_xor]
      refine bc (fun hs=>?_) (fun hs=>?_)
      ·refine hit1.2.1 ?_ eps
       unfold fP
       rw[if_pos eps,if_neg ej,if_pos ej1,if_pos (of_decide_eq_true hs),Int.add_zero]
      ·refine abv ?_
       unfold fP
       rw[if_pos eps,if_neg ej,if_pos ej1,if_neg (fun z=>hs (decide_eq_true z))]
     ·have ej1:¬ j+1=q.ps.length:=fun z=>hj1 (decide_eq_true (by omega))
      refine .inl ⟨_,.int m0,SqL.of h1,aq (j:=0) (by rw[en];rfl),hit1.1 ?_ m0 r0 en⟩
      unfold fP
      rw[if_pos eps,if_neg ej,if_neg ej1]
   ·have eps:¬ p=q.sort:=fun z=>hps (decide_eq_true (by rw[z]))
    refine .inr ⟨_,.str (S p),hTp1,aq hpj,?_⟩
    show if (false^^decide ((S p:Str)=S q.sort))=true then _ else _
    rw[Bool.false_xor,if_neg hps]
    refine .inl ⟨_,.int m0,SqL.of h1,aq (j:=0) (by rw[en];rfl),hit1.1 ?_ m0 r0 en⟩
    unfold fP
    rw[if_neg eps]
end
end K31
--@RAISES but law
namespace K31
open PySem PySem.Spec PyProof.Rows L2 Rg
section
variable {P:Program}{w:World}{K:PySem.W.Frag}{mg:Str->Option Value}{base:Heap}{C tS tN tT:Addr}
structure TxN (K:PySem.W.Frag)(mg:Str->Option Value)(tS tN C:Addr):Prop where
 n_len:mg "len"=none
 n_any:mg "any"=none
 g_MOST_RULES:∃t,mg "MOST_RULES"=some (.int 24 t)
 g_MOST_RANK:∃t,mg "MOST_RANK"=some (.int 99 t)
 g_MOST_PARTS:∃t,mg "MOST_PARTS"=some (.int 8 t)
 g_SIDES:mg "SIDES"=some (.ref tS)
 g_NO_NAMES:mg "NO_NAMES"=some (.ref tN)
 k_SIDES:∀H,SqT K H tS [.str "left",.str "right",.str "none"]
 k_NO:∀H,SqT K H tN [.str "",.str "end",.str "stray"]
 c_NoRule:mg "NoRule"=some (.ref C)
 x_NoRule:PySem.W.excIn K C eO "ValueError.__new__"=true
def ot (x:Str):Bool:=vU (.str x) [.str "left",.str "right",.str "none"]
def m9 (l:List Nat):Bool:=vU (.str (S l)) [.str "",.str "end",.str "stray"]
def okB (q:Rl):Bool:=decide (0≤q.rank)&&decide (q.rank≤99)&&ot q.side&&decide (1≤q.ps.length)&&decide (q.ps.length≤8)&&!(m9 q.sort||q.ps.any m9)&&!(q.ps == [q.sort])
structure lD (q:Rl):Prop where
 rk:q.rank.natAbs.log2<1920
 ls:cY q.sort
 zs:q.sort.length≤100
 sd:PyData.strOk q.side=true
 zd:q.side.length≤100
 lp:∀k∈q.ps,cY k/\k.length≤100
 zp:q.ps.length≤100
theorem vc {l:List Nat}(h:cY l):∀c∈(S l).cps.toList,c<16 ^ 8:=fun c hc=>by
 have:=h c (by simpa using hc)
 omega
theorem A4 {x:Str}(h:PyData.strOk x=true):∀c∈x.cps.toList,c<16 ^ 8:=fun c hc=>by
 unfold PyData.strOk at h
 rw[Array.all_eq_true_iff_forall_mem]at h
 have:=of_decide_eq_true (h c (by simpa using hc))
 omega
theorem jF:∀(ks:List (List Nat)),PyData.shownAll (ks.map fun k=>PyData.str (S k))=ks.map fun k=>reprText (S k)
 | []=>by simp[PyData.shownAll]
 | k::r=>by rw[List.map_cons,PyData.shownAll,jF r,PyData.shown];rfl
theorem lc:∀(ks:List (List Nat)),PyData.showableAll (ks.map fun k=>PyData.str (S k))=true
 | []=>by simp[PyData.showableAll]
 | k::r=>by rw[List.map_cons,PyData.showableAll,lc r,PyData.showable];rfl
theorem iS:∀(ks:List (List Nat)),PyData.hasDictAll (ks.map fun k=>PyData.str (S k))=false
 | []=>by simp[PyData.hasDictAll]
 | k::r=>by rw[List.map_cons,PyData.hasDictAll,iS r,PyData.hasDict];rfl
theorem lY {q:Rl}(f:lD q):(PyData.tuple (q.ps.map fun k=>PyData.str (S k))).shown.length≤1100000:=by
 rw[PyData.shown,jF]
 refine Nat.le_trans (nL (B:=1002) fun t ht=>?_) ?_
 ·obtain⟨k,hk,rfl⟩:=List.mem_map.mp ht
  obtain⟨h1,h2⟩:=f.lp k hk
  have h3:=StrLaws.reprText_len (S k) (vc h1)
  have h4:(S k).length=k.length:=jr k
  exact Nat.le_trans h3 (by omega)
 ·rw[List.length_map]
  have:=f.zp
  omega
def zW (K:PySem.W.Frag)(C:Addr):Sp:=fun vs H Q E=>∃(q:Rl) (tp:Addr),vs=[.str (S q.sort),.int q.rank,.str q.side,.ref tp]/\SqT K H tp (q.ps.map fun l=>V.str (S l))/\lD q /\
 (okB q=true->∀H',Same H H'->Q .non H')/\(okB q=false->∀H',Same H H'->E (.ref C) none H')
theorem bw (q:Rl):okB q=true↔0≤q.rank/\q.rank≤99/\ot q.side=true/\1≤q.ps.length/\q.ps.length≤8/\m9 q.sort=false/\q.ps.any m9=false/\q.ps≠[q.sort]:=by
 unfold okB
 simp only[Bool.and_eq_true,decide_eq_true_eq,Bool.not_eq_true',Bool.or_eq_false_iff,beq_eq_false_iff_ne,ne_eq,and_assoc]
theorem tP {α:Type}(g:α->Bool)(l:List α):(l.map g).any id=l.any g:=by induction l with
 | nil=>rfl
 | cons x r ih=>rw[List.map_cons,List.any_cons,List.any_cons,ih];rfl
abbrev st_check_rule:Stmt:=top 13
theorem ez:ax ["sort","rank","side","parts"] ["sort","rank","side","parts"] (ak st_check_rule):=⟨rfl,rfl,rfl,by decide +kernel,rfl,by decide +kernel,by decide +kernel⟩
theorem x5 (R:Raw K mg "check_rule" st_check_rule ["sort","rank","side","parts"])(T:TxN K mg tS tN C):DefX P w K mg base 1 "check_rule" ["sort","rank","side","parts"] (zW K C):=by
 refine R.defX ez (fun vs H Q E h=>?_) (fun f cdv A outer s H vs Q E hr h=>?_)
 ·obtain⟨q,tp,rfl,_⟩:=h
  rfl
 ·obtain⟨q,tp,rfl,hT,fn,qO,qX⟩:=h
  have sc:=ez
  have hu:=hr.units
  have hb:(1000000:Nat)<sizeLine:=by rw[sizeLine_eq];decide
  have zp:=fn.zp
  have pl:=fun (x:Bool)=>x
  have rkT:q.rank.natAbs.log2<1920/\(Str.ofString (toString q.rank)).length≤1100000:=⟨fn.rk,Nat.le_trans (int_text_len_1921 fn.rk) (by decide)⟩
  have dT:DatV K H (.ref tp) (.tuple (q.ps.map fun k=>PyData.str (S k))):=.tuple hT (e6 q.ps)
  have dp:=kd q.ps
  have rp:∀H1,Same H H1->∃a d,V.ref tp=V.ref a/\DatV K H1 (.ref tp) d/\d.showable=true/\d.hasDict=false/\d.depth≤60/\d.shown.length≤1100000:=fun H1 s1 =>
   ⟨tp,_,rfl,dT.same s1,by rw[PyData.showable];exact lc _,by rw[PyData.hasDict];exact iS _,by simp only[PyData.depth];omega,lY fn⟩
  have rs:∃x,V.str (S q.sort)=V.str x/\x.length≤100000/\∀c∈x.cps.toList,c<16 ^ 8:=⟨_,rfl,by rw[jr];have:=fn.zs;omega,vc fn.ls⟩
  have bad:okB q=false->∀H1,Same H H1->(1≤sizeLine/\E (.ref C) none H1):=fun z H1 s1=>⟨by omega,qX z H1 s1⟩
  refine⟨_,(ac (aZ (eZ (iZ pc pc ap (jn 1) (dO rfl T.g_MOST_RANK)))
  (ag (bL rfl T.c_NoRule T.x_NoRule (aa (j8 (aC bP (aC (cE (dO rfl T.g_MOST_RANK)) (aC bP (aC (cE (jn 1)) bY))))) af)))
  aE)
  (ac (aZ (aA (iy hu (K:=K)) (jn 2) (eY (v:=.ref _) rfl T.g_SIDES rfl))
  (ag (bL rfl T.c_NoRule T.x_NoRule (aa (j8 (aC bP (aC (gQ (jn 2)) bY))) af)))
  aE)
  (ac (aZ (eZ (iZ pc pc ap (aM (eI (K:=K)) rfl T.n_len PySem.boot_len (aa (jn 3) af)) (dO rfl T.g_MOST_PARTS)))
  (ag (bL rfl T.c_NoRule T.x_NoRule (aa (j8 (aC bP (aC (cE (dO rfl T.g_MOST_PARTS)) (aC bP (aC (iH (K:=K) hr.gd hu (jn 3)) bY))))) af)))
  aE)
  (ac (aZ (jc (oi (aA (oA hu (K:=K)) (jn 0) (eY (v:=.ref _) rfl T.g_NO_NAMES rfl)) (mt (gi (aM (AT rfl (K:=K)) rfl T.n_any boot_any (aa (fS (N:=["part"]) (cap:=[none]) rfl (CompScope.of rfl (by rfl)) (aW (K:=K) (jn 3)) (fun _ _ _ _=>(ai (i:=0) (show List.Nodup [("part":Str)] by decide +kernel) rfl (Or.inl rfl))) (fun _ _ _ _=>fw) (fun _ _ _ _=>(jQ (oA hu (K:=K)) (jn 0) (eY (v:=.ref _) rfl T.g_NO_NAMES rfl)))) af))))))
  (ag (bL rfl T.c_NoRule T.x_NoRule (aa (j8 (aC bP (aC (gQ (jn 0)) (aC bP (aC (iH (K:=K) hr.gd hu (jn 3)) bY))))) af)))
  aE)
  (ag (aZ (aA (bX hu (K:=K)) (jn 3) (cb (aa (jn 0) af)))
  (ag (bL rfl T.c_NoRule T.x_NoRule (aa (j8 (aC bP (aC (gQ (jn 0)) bY))) af)))
  aE)))))),?_⟩
  have rk99:(toString (99:Int)).length≤1100000:=by decide
  have no1:¬ (0≤q.rank/\q.rank≤99)->fY C E (i3 (zB (dC cr (dC (ga (tC (V.int 99))) (dC cr (dC (ga (jd 1)) cr))))) pJ) { nx:=fun _ H'=>Q .non H',rt:=Q } [some (.str (S q.sort)),some (.int q.rank),some (.str q.side),some (.ref tp)] H:=fun z =>
   ⟨⟨trivial,⟨rfl,.inr ⟨99,rfl,by decide,by decide +kernel⟩⟩,trivial,⟨rfl,.inr ⟨q.rank,rfl,rkT.1,rkT.2⟩⟩,trivial⟩,fun y _=>bad (Bool.eq_false_iff.mpr fun y=>z ⟨((bw q).mp y).1,((bw q).mp y).2.1⟩) H (Same.refl _)⟩
  show if decide ((0:Int)≤q.rank)=true then _ else _
  refine bc (fun h0=>?_) (fun h0=>no1 fun z=>h0 (decide_eq_true z.1))
  show if (!decide (q.rank≤(99:Int)))=true then _ else _
  refine bc (fun h1=>no1 fun z=>?_) (fun h1=>?_)
  ·rw[decide_eq_true z.2]at h1;cases h1
  refine .inl ⟨_,.inr (T.k_SIDES H),rfl,rfl,?_⟩
  show if (true^^ot q.side)=true then _ else _
  refine bc (fun h2=>?_) (fun hsd=>?_)
  ·refine⟨⟨trivial,⟨rfl,⟨_,rfl,by have:=fn.zd;omega,A4 fn.sd⟩⟩,trivial⟩,fun y _=>bad (Bool.eq_false_iff.mpr fun y=>?_) H (Same.refl _)⟩
   rw[((bw q).mp y).2.2.1]at h2;cases h2
  refine⟨_,.inr hT,?_⟩
  have no3:¬ (1≤q.ps.length/\q.ps.length≤8)->fY C E (i3 (zB (dC cr (dC (ga (tC (V.int 8))) (dC cr (dC (mQ K (jd 3)) cr))))) pJ) { nx:=fun _ H'=>Q .non H',rt:=Q } [some (.str (S q.sort)),some (.int q.rank),some (.str q.side),some (.ref tp)] H:=fun z =>
   ⟨⟨trivial,⟨rfl,.inr ⟨8,rfl,by decide,by decide +kernel⟩⟩,trivial,⟨rfl,rp H (Same.refl _)⟩,trivial⟩,fun y _=>bad (Bool.eq_false_iff.mpr fun y=>z ⟨((bw q).mp y).2.2.2.1,((bw q).mp y).2.2.2.2.1⟩) H (Same.refl _)⟩
  show if decide ((1:Int)≤(((q.ps.map fun l=>V.str (S l)).length:Nat):Int))=true then _ else _
  rw[List.length_map]
  refine bc (fun h3=>?_) (fun h3=>no3 fun z=>h3 (decide_eq_true (by omega)))
  show if (!decide (((q.ps.length:Nat):Int)≤(8:Int)))=true then _ else _
  refine bc (fun h4=>no3 fun z=>?_) (fun h4=>?_)
  ·rw[decide_eq_true (by omega)]at h4;cases h4
  have no5:∀H1,Same H H1->(m9 q.sort=true\/q.ps.any m9=true)->fY C E (i3 (zB (dC cr (dC (wt (jd 0)) (dC cr (dC (mQ K (jd 3)) cr))))) pJ) { nx:=fun _ H'=>Q .non H',rt:=Q } [some (.str (S q.sort)),some (.int q.rank),some (.str q.side),some (.ref tp)] H1:=fun H1 s1 z =>
   ⟨⟨trivial,⟨rfl,rs⟩,trivial,⟨rfl,rp H1 s1⟩,trivial⟩,fun y _=>bad (Bool.eq_false_iff.mpr fun y=>by
    have y1:=((bw q).mp y).2.2.2.2.2
    rcases z with z | z
    ·rw[y1.1]at z;cases z
    ·rw[y1.2.1]at z;cases z) H1 s1⟩
  refine .inl ⟨_,.inr (T.k_NO H),rfl,rfl,?_⟩
  show if (false^^m9 q.sort)=true then _ else _
  rw[Bool.false_xor]
  refine bc (fun h5=>no5 H (Same.refl _) (.inl h5)) (fun h5=>?_)
  refine .inr ⟨⟨_,hT⟩,?_⟩
  refine i0 (xs:=q.ps.map fun l=>V.str (S l)) (fun i ys σ' H'=>H'=H/\ys=qj ((q.ps.take i).map m9)/\∃v,σ'=[v]) (by rw[List.length_map];omega) ⟨rfl,rfl,none,rfl⟩
   (fun i ys σ' H' h=>by rw[h.2.1];simp[qj];omega) (fun i ys σ' H' h=>by rw[h.1];exact hT) ?_ ?_
  ·rintro i x ys σ' H' hi ⟨rfl,rfl,v,rfl⟩
   rw[List.getElem?_map]at hi
   cases ee:q.ps[i]? with
   | none=>rw[ee]at hi;cases hi
   | some g =>
    rw[ee]at hi
    have ex:x=V.str (S g):=(Option.some.inj hi).symm
    subst ex
    have et:q.ps.take (i+1)=q.ps.take i++[g]:=by rw[List.take_add_one,ee];rfl
    refine .inl ⟨_,.inr (T.k_NO _),rfl,rfl,rfl,?_,_,rfl⟩
    rw[et,List.map_append]
    show qj ((q.ps.take i).map m9)++[V.bl (false^^m9 g)]=_
    rw[Bool.false_xor]
    unfold qj
    rw[List.map_append]
    rfl
  ·rintro ys σ' H' ⟨rfl,rfl,v,rfl⟩ D hD
   rw[List.length_map,List.take_length]
   refine⟨q.ps.map m9,SqL.of ae,?_⟩
   have s1:Same H' (al H' D (.lst (qj (q.ps.map m9)))):=ah hD
   generalize al H' D (.lst (qj (q.ps.map m9)))=H1 at s1 ⊢
   rw[tP]
   refine bc (fun h6=>no5 H1 s1 (.inr h6)) (fun h6=>?_)
   refine⟨(show 1≤sizeLine by decide),fun p hp=>?_⟩
   have s2:Same H1 (al H1 p (.tup [V.str (S q.sort)])):=ah hp
   have h2:SqT K (al H1 p (.tup [V.str (S q.sort)])) p [V.str (S q.sort)]:=SqT.of ae
   generalize al H1 p (.tup [V.str (S q.sort)])=H2 at s2 h2 ⊢
   have lay1:=f6 (ks:=q.ps) (fun k hk=>(fn.lp k hk).1)
   have lay2:=f6 (ks:=[q.sort]) (fun k hk=>by rw[List.mem_singleton.mp hk];exact fn.ls)
   refine⟨.tuple (q.ps.map fun k=>PyData.str (S k)),.tuple ([q.sort].map fun k=>PyData.str (S k)),.tuple ((s1.trans s2).seqT hT) (e6 q.ps),.tuple h2 (e6 [q.sort]),by simp only[PyData.canLay0];exact lay1,by simp only[PyData.canLay0];exact lay2,by simp only[PyData.depth];omega,?_⟩
   show if (false^^PyData.eqv _ _)=true then _ else _
   rw[Bool.false_xor,PyData.eqv,m5]
   refine bc (fun h7=>?_) (fun h7=>?_)
   ·exact⟨⟨trivial,⟨rfl,rs⟩,trivial⟩,fun y _=>bad (Bool.eq_false_iff.mpr fun y=>((bw q).mp y).2.2.2.2.2.2.2 (beq_iff_eq.mp h7)) H2 (s1.trans s2)⟩
   ·refine qO ((bw q).mpr ⟨of_decide_eq_true h0,?_,?_,?_,?_,Bool.eq_false_iff.mpr h5,Bool.eq_false_iff.mpr h6,fun z=>h7 (beq_iff_eq.mpr z)⟩) H2 (s1.trans s2)
    ·by_cases z:q.rank≤99
     ·exact z
     ·exact absurd (by rw[decide_eq_false z];rfl) h1
    ·cases e:ot q.side with
     | true=>rfl
     | false=>exact absurd (by rw[e];rfl) hsd
    ·have:=of_decide_eq_true h3;omega
    ·by_cases z:((q.ps.length:Nat):Int)≤8
     ·omega
     ·exact absurd (by rw[decide_eq_false z];rfl) h4
def fj (rs:List Rl):Bool:=decide (1≤rs.length)&&decide (rs.length≤24)&&rs.all okB
def wb (K:PySem.W.Frag)(C:Addr):Sp:=fun vs H Q E=>∃(a:Addr) (rl:List V) (rs:List Rl),vs=[.ref a]/\SqL K H a rl/\DatVs K H rl (rs.map Rl.dat)/\rs.length≤60/\(∀q∈rs,lD q) /\
 (fj rs=true->∀H',Same H H'->Q .non H')/\(fj rs=false->∀H',Same H H'->E (.ref C) none H')
theorem bE (rs:List Rl):fj rs=true↔1≤rs.length/\rs.length≤24/\∀q∈rs,okB q=true:=by
 unfold fj
 simp only[Bool.and_eq_true,decide_eq_true_eq,List.all_eq_true,and_assoc]
theorem vt:∀k:Fin 61,((k.val:Int)).natAbs.log2<1920/\(Str.ofString (toString (k.val:Int))).length≤1100000:=by decide +kernel
abbrev st_check_rules:Stmt:=top 12
theorem dP:ax ["rules","many","sort","rank","side","parts"] ["rules"] (ak st_check_rules):=⟨rfl,rfl,rfl,by decide +kernel,rfl,by decide +kernel,by decide +kernel⟩
theorem vn (R:Raw K mg "check_rules" st_check_rules ["rules"])(T:TxN K mg tS tN C)(D_check_rule:DefX P w K mg base 1 "check_rule" ["sort","rank","side","parts"] (zW K C)):DefX P w K mg base 2 "check_rules" ["rules"] (wb K C):=by
 refine R.defX dP (fun vs H Q E h=>?_) (fun f cdv A outer s H vs Q E hr h=>?_)
 ·obtain⟨a,rl,rs,rfl,_⟩:=h
  rfl
 ·obtain⟨a,rl,rs,rfl,hS,hD,hl,fn,qO,qX⟩:=h
  have sc:=dP
  have hu:=hr.units
  have hb:(1000000:Nat)<sizeLine:=by rw[sizeLine_eq];decide
  have hrl:rl.length=rs.length:=by have:=hD.length;rw[List.length_map]at this;exact this
  have sm:=vt ⟨rs.length,by omega⟩
  refine⟨_,(ac (ao (i:=1) sc.nd rfl (Or.inl rfl) (aM (eI (K:=K)) rfl T.n_len PySem.boot_len (aa (jn 0) af)))
  (ac (aZ (eZ (iZ pc pc ap (jn 1) (dO rfl T.g_MOST_RULES)))
  (ag (bL rfl T.c_NoRule T.x_NoRule (aa (j8 (aC bP (aC (cE (dO rfl T.g_MOST_RULES)) (aC bP (aC (cE (jn 1)) bY))))) af)))
  aE)
  (ag (aP bf rfl (aW (K:=K) (jn 0)) (bD (K:=K) (n:=4) rfl (ar (ai (i:=2) sc.nd rfl (Or.inl rfl)) (ar (ai (i:=3) sc.nd rfl (Or.inl rfl)) (ar (ai (i:=4) sc.nd rfl (Or.inl rfl)) (ar (ai (i:=5) sc.nd rfl (Or.inl rfl)) bo)))))
  (ag (be (dI D_check_rule (hr.mono (by decide)) rfl (aa (jn 2) (aa (jn 3) (aa (jn 4) (aa (jn 5) af)))) iP))))))),?_⟩
  refine⟨_,.inl hS,?_⟩
  have no1:¬ (1≤rs.length/\rs.length≤24)->fY C E (i3 (zB (dC cr (dC (ga (tC (V.int 24))) (dC cr (dC (ga (jd 1)) cr))))) pJ) { nx:=fun _ H'=>Q .non H',rt:=Q } [some (.ref a),some (.int (rl.length:Nat)),none,none,none,none] H:=fun z =>
   ⟨⟨trivial,⟨rfl,.inr ⟨24,rfl,by decide,by decide +kernel⟩⟩,trivial,⟨rfl,.inr ⟨(rl.length:Nat),rfl,by rw[hrl];exact sm.1,by rw[hrl];exact sm.2⟩⟩,trivial⟩,fun y _=>⟨(show 1≤sizeLine by decide),qX (Bool.eq_false_iff.mpr fun y=>z ⟨((bE rs).mp y).1,((bE rs).mp y).2.1⟩) H (Same.refl _)⟩⟩
  show if decide ((1:Int)≤((rl.length:Nat):Int))=true then _ else _
  refine bc (fun h0=>?_) (fun h0=>no1 fun z=>h0 (decide_eq_true (by omega)))
  show if (!decide (((rl.length:Nat):Int)≤(24:Int)))=true then _ else _
  refine bc (fun h1=>no1 fun z=>?_) (fun h1=>?_)
  ·rw[decide_eq_true (by omega)]at h1;cases h1
  have h1':rs.length≤24:=by
   by_cases z:((rl.length:Nat):Int)≤24
   ·omega
   ·exact absurd (by rw[decide_eq_false z];rfl) h1
  have h0':1≤rs.length:=by have:=of_decide_eq_true h0;omega
  refine .inl ⟨⟨_,hS⟩,aV (K:=K) (a:=a) (xs:=rl) (fun i σ H'=>Same H H'/\(∀q∈rs.take i,okB q=true)/\∃v2 v3 v4 v5:Option V,σ=[some (.ref a),some (.int (rl.length:Nat)),v2,v3,v4,v5]) ⟨Same.refl _,(fun q hq=>by simp at hq),none,none,none,none,rfl⟩ (fun i σ H' _ h=>h.1.seq hS) ?_ ?_⟩
  ·rintro i x σ H' hi ⟨s1,hok,v2,v3,v4,v5,rfl⟩
   obtain⟨dd,hdd,hx⟩:=hD.get hi
   rw[List.getElem?_map]at hdd
   cases ee:rs[i]? with
   | none=>rw[ee]at hdd;cases hdd
   | some g =>
    rw[ee]at hdd
    have ed:dd=g.dat:=(Option.some.inj hdd).symm
    subst ed
    obtain⟨t,tp,rfl,hT,hTp⟩:=cZ hx
    have et:rs.take (i+1)=rs.take i++[g]:=by rw[List.take_add_one,ee];rfl
    have hg:=List.mem_of_getElem? ee
    refine⟨t,_,rfl,s1.seqT hT,rfl,_,_,rfl,_,_,rfl,_,_,rfl,_,_,rfl,rfl,?_⟩
    refine⟨g,tp,rfl,s1.seqT hTp,fn g hg,fun e H2 s2=>?_,fun e H2 s2=>?_⟩
    ·refine⟨s1.trans s2,fun q hq=>?_,_,_,_,_,rfl⟩
     rw[et]at hq
     rcases List.mem_append.mp hq with z | z
     ·exact hok q z
     ·rw[List.mem_singleton.mp z];exact e
    ·refine qX (Bool.eq_false_iff.mpr fun y=>?_) H2 (s1.trans s2)
     rw[((bE rs).mp y).2.2 g hg]at e;cases e
  ·rintro σ H' ⟨s1,hok,v2,v3,v4,v5,rfl⟩
   rw[hrl,List.take_length]at hok
   exact qO ((bE rs).mpr ⟨h0',h1',hok⟩) H' s1
end
end K31
--@RAISES but law
namespace K31
open PySem PySem.Spec PyProof.Rows L2 Rg
section
variable {P:Program}{w:World}{K:PySem.W.Frag}{mg:Str->Option Value}{base:Heap}{C tS tN tT:Addr}
abbrev Th:=List Nat×Int
def cj (t:Th):Str×Int:=(S t.1,t.2)
theorem nK {t u:Th}(h:cj t=cj u):t=u:=by
 obtain⟨a,b⟩:=t
 obtain⟨c,d⟩:=u
 unfold cj at h
 injection h with h1 h2
 exact Prod.ext (cK h1) h2
def mU:List Int->Int
 | []=>-1
 | x::r=>r.foldl min x
theorem jw:∀(r:List Int) (x:Int),(r.foldl min x=x\/r.foldl min x∈r)/\r.foldl min x≤x/\∀y∈r,r.foldl min x≤y
 | [],x=>⟨.inl rfl,Int.le_refl _,fun y h=>nomatch h⟩
 | z::r,x=>by
  obtain⟨h1,h2,h3⟩:=jw r (min x z)
  rw[List.foldl_cons]
  refine⟨?_,by omega,fun y hy=>?_⟩
  ·rcases h1 with h | h
   ·rw[h]
    by_cases hxz:x≤z
    ·exact .inl (by omega)
    ·exact .inr (List.mem_cons.mpr (.inl (by omega)))
   ·exact .inr (List.mem_cons_of_mem _ h)
  ·rcases List.mem_cons.mp hy with e | e
   ·omega
   ·exact h3 y e
theorem lA {l:List Int}(h:l≠[]):mU l∈l/\∀x∈l,mU l≤x:=by
 cases l with
 | nil=>exact absurd rfl h
 | cons x r =>
  obtain⟨h1,h2,h3⟩:=jw r x
  show r.foldl min x∈x::r/\_
  refine⟨?_,fun y hy=>?_⟩
  ·rcases h1 with e | e
   ·rw[e];exact List.mem_cons_self
   ·exact List.mem_cons_of_mem _ e
  ·show r.foldl min x≤y
   rcases List.mem_cons.mp hy with e | e
   ·rw[e];exact h2
   ·exact h3 y e
theorem uO {l:List Int}{m:Int}(h:m∈l)(h2:∀x∈l,m≤x):m=mU l:=by
 obtain⟨a,b⟩:=lA (l:=l) (fun z=>by rw[z]at h;cases h)
 have:=b m h
 have:=h2 _ a
 omega
abbrev Sy:=List Nat×Option Int
def bV (s:Sy):PyData:=match s.2 with
 | none=>.str (S s.1)
 | some r=>pD (S s.1,r)
def sw (rs:List Rl)(q:Rl)(j:Nat):Sy:=(q.ps.getD j [],if aj rs (q.ps.getD j [])=[] then none else some (mU (dQ rs q j (q.ps.getD j []))))
def bx (rs:List Rl)(q:Rl):List Sy:=(List.range q.ps.length).map (sw rs q)
theorem bZ (rs:List Rl)(q:Rl):(bx rs q).length=q.ps.length:=by unfold bx;simp
def lv (rs:List Rl)(q:Rl)(j:Nat):Bool:=decide (aj rs (q.ps.getD j [])≠[])&&decide (dQ rs q j (q.ps.getD j [])=[])
def iK (rs:List Rl)(q:Rl):Bool:=(List.range q.ps.length).any (lv rs q)
theorem gh {H:Hp}{x:V}{s:Sy}(h:DatV K H x (bV s)):(s.2=none/\x=.str (S s.1))\/∃r a,s.2=some r/\x=.ref a/\SqT K H a (pV (S s.1,r)):=by
 obtain⟨l,o⟩:=s
 cases o with
 | none=>cases h;exact .inl ⟨rfl,rfl⟩
 | some r=>obtain⟨a,e,hT⟩:=fZ (show DatV K H x (pD (S l,r)) from h);exact .inr ⟨r,a,rfl,e,hT⟩
theorem qo {H:Hp}{a:Addr}{l:List Nat}{r:Int}(h:SqT K H a (pV (S l,r))):DatV K H (.ref a) (bV (l,some r)):=.tuple h (.cons (.str _) (.cons (.int _) .nil))
inductive qg:PyData->Prop
 | int (i:Int):qg (.int i)
 | str (x:Str):qg (.str x)
 | tuple {ds:List PyData}:(∀d∈ds,qg d)->qg (.tuple ds)
def x9 (H:Hp)(b:Addr):Prop:=(∃l,H b=some (.lst l))\/(∃φ,H b=some (.ext φ))\/∃k,H b=some (.dK k)
theorem tm {H:Hp}{b:Addr}{o:HO}(hb:x9 H b){a:Addr}{xs:List V}(h:SqT K H a xs):SqT K (al H b o) a xs:=by
 have ne:∀{u:HO},H a=some u->(∀l,u≠.lst l)->(∀φ,u≠.ext φ)->(∀k,u≠.dK k)->a≠b:=fun {u} e n1 n2 n3 z=>by
  rcases hb with⟨l,e2⟩ | ⟨l,e2⟩ | ⟨l,e2⟩<;>rw[z,e2]at e
  ·exact n1 l (Option.some.inj e).symm
  ·exact n2 l (Option.some.inj e).symm
  ·exact n3 l (Option.some.inj e).symm
 rcases h with (h | ⟨o',h⟩) | h
 ·exact .inl (.inl (by rw[am (ne h (fun l z=>nomatch z) (fun l z=>nomatch z) fun l z=>nomatch z)];exact h))
 ·exact .inl (.inr ⟨o',by rw[am (ne h (fun l z=>nomatch z) (fun l z=>nomatch z) fun l z=>nomatch z)];exact h⟩)
 ·exact .inr h
mutual
theorem zn {H:Hp}{b:Addr}{o:HO}(hb:x9 H b):∀{x:V} {d:PyData},qg d->DatV K H x d->DatV K (al H b o) x d
 | _,_,.int _,.int _=>.int _
 | _,_,.str _,.str _=>.str _
 | _,_,.tuple n,.tuple hS hd=>.tuple (tm hb hS) (bR hb n hd)
theorem bR {H:Hp}{b:Addr}{o:HO}(hb:x9 H b):∀{xs:List V} {ds:List PyData},(∀d∈ds,qg d)->DatVs K H xs ds->DatVs K (al H b o) xs ds
 | _,_,_,.nil=>.nil
 | _,_,n,.cons h ht=>.cons (zn hb (n _ List.mem_cons_self) h) (bR hb (fun d hd=>n d (List.mem_cons_of_mem _ hd)) ht)
end
theorem rF (p:Str×Int):qg (pD p):=.tuple fun d hd=>by
 rcases List.mem_cons.mp hd with e | e
 ·rw[e];exact .str _
 ·rw[List.mem_singleton.mp e];exact .int _
theorem gb (s:Sy):qg (bV s):=by
 obtain⟨l,o⟩:=s
 cases o with
 | none=>exact .str _
 | some r=>exact rF _
def wM (K:PySem.W.Frag)(C:Addr):Sp:=fun vs H Q E=>∃(a:Addr) (rl:List V) (rs:List Rl) (n:Nat) (q:Rl),vs=[.ref a,.int (n:Nat)]/\SqL K H a rl/\DatVs K H rl (rs.map Rl.dat)/\rs.length≤60/\rs[n]?=some q/\(∀x∈rs,0≤x.rank/\x.rank≤99)/\q.ps.length≤100 /\
 (iK rs q=true->∀H',Same H H'->E (.ref C) none H')/\(iK rs q=false->∀H' t,Same H H'->DatV K H' (.ref t) (.tuple ((bx rs q).map bV))->Q (.ref t) H')
abbrev st_symbols_of:Stmt:=top 21
theorem eE:ax ["rules","number","symbols","place","part","floor"] ["rules","number"] (ak st_symbols_of):=⟨rfl,rfl,rfl,by decide +kernel,rfl,by decide +kernel,by decide +kernel⟩
theorem uF (R:Raw K mg "symbols_of" st_symbols_of ["rules","number"])(T:Txt K w mg tT)(D_floor_of:DefX P w K mg base 2 "floor_of" ["rules","number","place"] (nU K C)):DefX P w K mg base 3 "symbols_of" ["rules","number"] (wM K C):=by
 refine R.defX eE (fun vs H Q E h=>?_) (fun f cdv A outer s H vs Q E hr h=>?_)
 ·obtain⟨a,rl,rs,n,q,rfl,_⟩:=h
  rfl
 ·obtain⟨a,rl,rs,n,q,rfl,hS,hD,hl,hq,hrk,hp8,qE,qI⟩:=h
  have sc:=eE
  have hu:=hr.units
  have hb:(1000000:Nat)<sizeLine:=by rw[sizeLine_eq];decide
  have hrl:rl.length=rs.length:=by have:=hD.length;rw[List.length_map]at this;exact this
  have hnl:n<rs.length:=(List.getElem?_eq_some_iff.mp hq).1
  have hn:rl[n]?=some (rl[n]'(by omega)):=List.getElem?_eq_getElem (by omega)
  obtain⟨dd,hdd,hx⟩:=hD.get hn
  rw[List.getElem?_map,hq]at hdd
  have ed:dd=q.dat:=(Option.some.inj hdd).symm
  subst ed
  obtain⟨t,tp,ex,hT,hTp⟩:=cZ hx
  rw[ex]at hn
  refine⟨_,(ac (ao (i:=2) sc.nd rfl (Or.inl rfl) (bU af))
  (ac (aP bf rfl (kS (K:=K) rfl T.n_enumerate (aa (aO (aU hu (K:=K) (w:=w)) (aO (aU hu (K:=K) (w:=w)) (jn 0) (jn 1)) ap) af)) (bD (K:=K) (n:=2) rfl (ar (ai (i:=3) sc.nd rfl (Or.inl rfl)) (ar (ai (i:=4) sc.nd rfl (Or.inl rfl)) bo)))
  (ac (ao (i:=5) sc.nd rfl (Or.inl rfl) (dI D_floor_of (hr.mono (by decide)) rfl (aa (jn 0) (aa (jn 1) (aa (jn 3) af))) iP))
  (ag (be (fU (K:=K) PySem.F.plainAttrs_list PySem.F.slot_list_append PySem.F.type_list_append cg (jn 2) (aa (lI (aA BK (jn 5) oE) (jn 4) (cb (aa (jn 4) (aa (jn 5) af)))) af))))))
  (ag (aQ (bK (oj (K:=K)) rfl T.n_tuple boot_tuple (aa (jn 2) af)))))),?_⟩
  refine⟨(show 0≤sizeLine by decide),fun b hb0=>?_⟩
  have s1:Same H (al H b (.lst [])):=ah hb0
  have h1:al H b (.lst []) b=some (.lst []):=ae
  generalize al H b (.lst [])=H1 at s1 h1 ⊢
  refine .inl ⟨_,.ref t,s1.seq hS,aq hn,.inr ⟨_,.ref tp,s1.seqT hT,aq (j:=3) rfl,⟨⟨_,s1.seqT hTp⟩,?_⟩⟩⟩
  refine jo (xs:=q.ps.map fun l=>V.str (S l)) (fun i σ H'=>∃(v3 v4 v5:Option V) (ys:List V),Same H H'/\H' b=some (.lst ys)/\DatVs K H' ys (((bx rs q).take i).map bV)/\(∀j,j<i->lv rs q j=false)/\σ=[some (.ref a),some (.int (n:Nat)),some (.ref b),v3,v4,v5])
   ⟨none,none,none,[],s1,h1,.nil,(fun j hj=>absurd hj (Nat.not_lt_zero _)),rfl⟩ (fun i σ H' _ h=>by obtain⟨_,_,_,_,s2,_⟩:=h;exact s2.seqT hTp) ?_ ?_
  ·rintro i x σ H' hx ⟨v3,v4,v5,ys,s2,hb2,hd2,hbad,rfl⟩ T0 hT0
   have hil:i<q.ps.length:=by have:=(List.getElem?_eq_some_iff.mp hx).1;rw[List.length_map]at this;exact this
   have hp:q.ps[i]?=some (q.ps.getD i []):=by rw[List.getD,List.getElem?_eq_getElem hil];rfl
   rw[List.getElem?_map,hp]at hx
   have ex:=Option.some.inj hx
   subst ex
   have s3:Same H' (al H' T0 (.tup [.int (i:Nat),V.str (S (q.ps.getD i []))])):=ah hT0
   refine⟨T0,_,rfl,SqT.of ae,rfl,_,_,rfl,_,_,rfl,rfl,?_⟩
   generalize al H' T0 (.tup [.int (i:Nat),V.str (S (q.ps.getD i []))])=H3 at s3 ⊢
   have s23:=s2.trans s3
   have hyl:ys.length=i:=by have:=hd2.length;rw[List.length_map,List.length_take,bZ]at this;omega
   have et:(bx rs q).take (i+1)=(bx rs q).take i++[sw rs q i]:=by
    rw[List.take_add_one]
    unfold bx
    rw[List.getElem?_map,List.getElem?_range hil]
    rfl
   have nx:lv rs q i=false->∀j,j<i+1->lv rs q j=false:=fun z j hj=>by
    by_cases e:j=i
    ·rw[e];exact z
    ·exact hbad j (by omega)
   have es:sw rs q i=(q.ps.getD i [],if aj rs (q.ps.getD i [])=[] then none else some (mU (dQ rs q i (q.ps.getD i [])))):=rfl
   have eb:lv rs q i=(decide (aj rs (q.ps.getD i [])≠[])&&decide (dQ rs q i (q.ps.getD i [])=[])):=rfl
   have qE2:lv rs q i=true->∀H',Same H H'->E (.ref C) none H':=fun z=>qE (List.any_eq_true.mpr ⟨i,List.mem_range.mpr hil,z⟩)
   generalize q.ps.getD i []=p at hp es eb ⊢
   refine⟨a,rl,rs,n,i,q,p,rfl,s23.seq hS,hD.same s23,hl,hq,hp,hrk,fun e H4 s4=>?_,fun e1 e2 H4 s4=>?_,fun m hm hle H4 s4=>?_⟩
   ·have hb4:=(s3.trans s4) _ _ hb2
    refine⟨.inl ⟨rfl,_,SqL.of hb4⟩,ys,hb4,by omega,?_⟩
    refine⟨_,_,_,_,fun x u e=>?_,ae,?_,nx (by rw[eb,decide_eq_false (by simpa using e)];rfl),rfl⟩
    ·rw[am fun z=>by rw[z,hb0]at e;cases e];exact (s23.trans s4) x u e
    ·rw[et,List.map_append]
     refine DatVs.snoc ?_ (bR (.inl ⟨_,hb4⟩) (fun d hd=>by obtain⟨z,_,rfl⟩:=List.mem_map.mp hd;exact gb z) (hd2.same (s3.trans s4)))
     rw[es,if_pos e]
     exact .str _
   ·exact qE2 (by rw[eb,decide_eq_true e1,decide_eq_true e2];rfl) H4 (s23.trans s4)
   ·have hb4:=(s3.trans s4) _ _ hb2
    have hne:dQ rs q i p≠[]:=fun z=>by rw[z]at hm;cases hm
    have hr:aj rs p≠[]:=fun z=>hne (by unfold dQ;rw[z];rfl)
    have em:m=mU (dQ rs q i p):=uO hm hle
    refine⟨.inl ⟨rfl,_,SqL.of hb4⟩,⟨(show 2≤sizeLine by decide),fun p5 hp5=>?_⟩⟩
    have s5:Same H4 (al H4 p5 (.tup (pV (S p,m)))):=ah hp5
    have h5:SqT K (al H4 p5 (.tup (pV (S p,m)))) p5 (pV (S p,m)):=SqT.of ae
    have g5:al H4 p5 (.tup [V.str (S p),V.int m])=al H4 p5 (.tup (pV (S p,m))):=rfl
    rw[g5]
    generalize al H4 p5 (.tup (pV (S p,m)))=H5 at s5 h5 ⊢
    have hb5:=s5 _ _ hb4
    refine⟨ys,hb5,by omega,?_⟩
    refine⟨_,_,_,_,fun x u e=>?_,ae,?_,nx (by rw[eb,decide_eq_false hne,Bool.and_false]),rfl⟩
    ·rw[am fun z=>by rw[z,hb0]at e;cases e];exact ((s23.trans s4).trans s5) x u e
    ·rw[et,List.map_append]
     refine DatVs.snoc ?_ (bR (.inl ⟨_,hb5⟩) (fun d hd=>by obtain⟨z,_,rfl⟩:=List.mem_map.mp hd;exact gb z) (hd2.same ((s3.trans s4).trans s5)))
     rw[es,if_neg hr,<-em]
     exact qo (tm (.inl ⟨_,hb5⟩) h5)
  ·rintro σ H' ⟨v3,v4,v5,ys,s2,hb2,hd2,hbad,rfl⟩
   rw[List.length_map]at hd2 hbad
   rw[List.take_of_length_le (by rw[bZ];exact Nat.le_refl _)]at hd2
   have hyl:ys.length=q.ps.length:=by have:=hd2.length;rw[List.length_map,bZ]at this;exact this
   refine⟨_,.inl ⟨SqL.of hb2,fun t1 ht1=>?_⟩⟩
   refine qI ?_ _ t1 (s2.trans (ah ht1)) (.tuple (SqT.of ae) (hd2.same (ah ht1)))
   unfold iK
   rw[Bool.eq_false_iff,Ne,List.any_eq_true]
   rintro⟨j,hj,z⟩
   rw[hbad j (List.mem_range.mp hj)]at z
   cases z
end
end K31
--@RAISES but law
namespace K31
open PySem PySem.Spec PyProof.Rows L2 Rg
section
variable {P:Program}{w:World}{K:PySem.W.Frag}{mg:Str->Option Value}{base:Heap}{C tS tN tT:Addr}
def bt (acc:List (List Nat))(l:List Nat):List (List Nat):=if l∈acc then acc else acc++[l]
def aH (rs:List Rl):List (List Nat):=rs.foldl (fun acc q=>bt acc q.sort) []
theorem lQ (rs:List Rl)(q:Rl):aH (rs++[q])=bt (aH rs) q.sort:=by unfold aH;rw[List.foldl_append];rfl
theorem kJ (acc:List (List Nat))(l:List Nat):(bt acc l).length≤acc.length+1:=by unfold bt;split<;>simp
theorem dW:∀(rs:List Rl) (acc:List (List Nat)),(rs.foldl (fun acc q=>bt acc q.sort) acc).length≤acc.length+rs.length
 | [],acc=>by simp
 | q::r,acc=>by
  have:=dW r (bt acc q.sort)
  have:=kJ acc q.sort
  rw[List.foldl_cons,List.length_cons]
  omega
def eR (acc:List (List Nat)):List (bC×V):=acc.map fun l=>(.inr (S l),.bl true)
theorem ou (acc:List (List Nat))(l:List Nat):((eR acc).any fun kv=>decide (kv.1=.inr (S l)))=decide (l∈acc):=by
 rw[Bool.eq_iff_iff,List.any_eq_true,decide_eq_true_eq]
 constructor
 ·rintro⟨x,hx,e⟩
  obtain⟨y,hy,rfl⟩:=List.mem_map.mp hx
  have e:=of_decide_eq_true e
  have e2:y=l:=cK (Sum.inr.inj e)
  rw[<-e2];exact hy
 ·intro h
  exact⟨_,List.mem_map.mpr ⟨l,h,rfl⟩,decide_eq_true rfl⟩
theorem gR (acc:List (List Nat))(l:List Nat):fT (eR acc) (.inr (S l)) (.bl true)=eR (bt acc l):=by
 unfold fT bt
 rw[ou]
 by_cases h:l∈acc
 ·rw[decide_eq_true h,if_pos rfl,if_pos h]
  unfold eR
  rw[List.map_map]
  refine List.map_congr_left fun x _=>?_
  show (if (Sum.inr (S x):bC)=.inr (S l) then (.inr (S x),V.bl true) else (.inr (S x),V.bl true))=((.inr (S x):bC),V.bl true)
  split<;>rfl
 ·rw[decide_eq_false h,if_neg (by decide),if_neg h]
  unfold eR
  rw[List.map_append]
  rfl
theorem nP (acc:List (List Nat))(l:List Nat):(d7 (eR acc) (.inr (S l))).isSome=decide (l∈acc):=by
 unfold d7
 rw[Option.isSome_map,<-ou,Bool.eq_iff_iff,List.find?_isSome,List.any_eq_true]
def n6 (K:PySem.W.Frag):Sp:=fun vs H Q _=>∃(a:Addr) (rl:List V) (rs:List Rl),vs=[.ref a]/\SqL K H a rl/\DatVs K H rl (rs.map Rl.dat)/\rs.length≤60 /\
 ∀(H':Hp) (p:Addr),Same H H'->H' p=some (.lst ((aH rs).map fun l=>V.str (S l)))->Q (.ref p) H'
abbrev st_sorts_of:Stmt:=top 22
theorem gz:ax ["rules","sorts","rule"] ["rules"] (ak st_sorts_of):=⟨rfl,rfl,rfl,by decide +kernel,rfl,by decide +kernel,by decide +kernel⟩
theorem py (R:Raw K mg "sorts_of" st_sorts_of ["rules"])(T:Txt K w mg tT):Def P w K mg base 1 "sorts_of" ["rules"] (n6 K):=by
 refine R.defJ gz (fun vs H Q E h=>?_) (fun f cdv A outer s H vs Q E hr h=>?_)
 ·obtain⟨a,rl,rs,rfl,_⟩:=h
  rfl
 ·obtain⟨a,rl,rs,rfl,hS,hD,hl,q⟩:=h
  have sc:=gz
  have hu:=hr.units
  have hrl:rl.length=rs.length:=by have:=hD.length;rw[List.length_map]at this;exact this
  refine⟨_,(ac (ao (i:=1) sc.nd rfl (Or.inl rfl) jW)
  (ac (aP PassesOwn.never rfl (aW (K:=K) (jn 0)) (ai (i:=2) sc.nd rfl (Or.inl rfl))
  (ag (gY hu (jn 1) (aO (aU hu (K:=K) (w:=w)) (jn 2) ap) eV)))
  (ag (aQ (bK (oJ rfl) rfl T.n_list boot_list (aa (jn 1) af)))))),?_⟩
  intro b hb0
  have s1:Same H (al H b (.dK [])):=ah hb0
  have h1:al H b (.dK []) b=some (.dK (eR [])):=ae
  generalize al H b (.dK [])=H1 at s1 h1 ⊢
  refine .inl ⟨⟨_,s1.seq hS⟩,?_⟩
  refine aV (xs:=rl) (fun i σ H'=>∃v,Same H H'/\H' b=some (.dK (eR (aH (rs.take i))))/\σ=[some (.ref a),some (.ref b),v]) ⟨none,s1,h1,rfl⟩ (fun i σ H' _ h=>by obtain⟨v,s2,_⟩:=h;exact s2.seq hS) ?_ ?_
  ·rintro i x σ H' hi ⟨v,s2,hb2,rfl⟩
   obtain⟨dd,hdd,hx⟩:=hD.get hi
   rw[List.getElem?_map]at hdd
   cases ee:rs[i]? with
   | none=>rw[ee]at hdd;cases hdd
   | some g =>
    rw[ee]at hdd
    have ed:dd=g.dat:=(Option.some.inj hdd).symm
    subst ed
    obtain⟨t,tp,rfl,hT,_⟩:=cZ hx
    have et:rs.take (i+1)=rs.take i++[g]:=by rw[List.take_add_one,ee];rfl
    have hsl:(aH (rs.take i)).length≤60:=by have:=dW (rs.take i) [];rw[List.length_take]at this;unfold aH;simp at this ⊢;omega
    have hbg:(1000000:Nat)<sizeLine:=by rw[sizeLine_eq];decide
    refine .inr ⟨_,.str (S g.sort),s2.seqT hT,aq (j:=0) rfl,⟨_,DPut.k (k:=.inr (S g.sort)) hb2 (by unfold eR;rw[List.length_map];omega),?_⟩⟩
    refine⟨_,fun x u e=>?_,?_,rfl⟩
    ·rw[am fun z=>by rw[z,hb0]at e;cases e];exact s2 x u e
    ·rw[ae,gR,et,lQ]
  ·rintro σ H' ⟨v,s2,hb2,rfl⟩
   rw[hrl,List.take_length]at hb2
   have hsl:(aH rs).length≤60:=by have:=dW rs [];unfold aH;simp at this ⊢;omega
   refine⟨(aH rs).map fun l=>(S l,.bl true),?_,by rw[List.length_map];omega,fun p hp=>?_⟩
   ·rw[List.map_map]
    exact hb2
   ·rw[List.map_map]
    exact q _ p (s2.trans (ah hp)) ae
end
end K31
--@RAISES but law
namespace K31
open PySem PySem.Spec PyProof.Rows L2 Rg
section
variable {P:Program}{w:World}{K:PySem.W.Frag}{mg:Str->Option Value}{base:Heap}{C tS tN tT:Addr}
structure PR where
 sym:Th
 ps:List Sy
 no:Int
def PR.dat (r:PR):PyData:=.tuple [pD (cj r.sym),.tuple (r.ps.map bV),.int r.no]
theorem zg (r:PR):qg r.dat:=.tuple fun d hd=>by
 rcases List.mem_cons.mp hd with e | hd
 ·rw[e];exact rF _
 ·rcases List.mem_cons.mp hd with e | hd
  ·rw[e]
   exact .tuple fun d hd=>by obtain⟨z,_,rfl⟩:=List.mem_map.mp hd;exact gb z
  ·rw[List.mem_singleton.mp hd];exact .int _
theorem oI (rs:List PR):∀d∈rs.map PR.dat,qg d:=fun d hd=>by obtain⟨z,_,rfl⟩:=List.mem_map.mp hd;exact zg z
theorem dJ {H:Hp}{x:V}{r:PR}(h:DatV K H x r.dat):∃t ts tp ys,x=.ref t/\SqT K H t [.ref ts,.ref tp,.int r.no]/\SqT K H ts (pV (cj r.sym))/\SqT K H tp ys/\DatVs K H ys (r.ps.map bV):=by
 unfold PR.dat at h
 cases h with
 | tuple hS hd =>
  cases hd with
  | cons h1 hd=>cases hd with
   | cons h2 hd=>cases hd with
    | cons h3 hd =>
     cases hd
     cases h3
     obtain⟨ts,rfl,hts⟩:=fZ h1
     cases h2 with
     | tuple hS2 hd2=>exact⟨_,ts,_,_,rfl,hS,hts,hS2,hd2⟩
def br (l:List Int):List Int:=(fX l).mergeSort fun a b=>decide (a≤b)
theorem rW {ns l:List Int}(h1:ns.Perm (fX l))(h2:ns.Pairwise (·≤·)):ns=br l:=by
 have h3:(br l).Pairwise (·≤·):=by
  have:=List.pairwise_mergeSort (le:=fun (a b:Int)=>decide (a≤b)) (fun a b c x y=>decide_eq_true (Int.le_trans (of_decide_eq_true x) (of_decide_eq_true y))) (fun a b=>by
   rcases Int.le_total a b with z | z
   ·rw[decide_eq_true z];rfl
   ·rw[decide_eq_true z,Bool.or_true]) (fX l)
  exact this.imp fun h=>of_decide_eq_true h
 exact List.Perm.eq_of_pairwise (fun a b _ _ x y=>Int.le_antisymm x y) h2 h3 (h1.trans (List.mergeSort_perm _ _).symm)
def lT (rs:List Rl)(s:List Nat)(r:Int)(n:Nat):List PR:=match rs[n]? with
 | some q=>if q.sort=s/\q.rank=r then [⟨(s,r),bx rs q,(n:Nat)⟩] else []
 | none=>[]
def ce (rs:List Rl)(s:List Nat)(r:Int)(i:Nat):List PR:=(List.range i).flatMap (lT rs s r)
theorem fb (rs:List Rl)(s:List Nat)(r:Int)(i:Nat):ce rs s r (i+1)=ce rs s r i++lT rs s r i:=by
 unfold ce
 rw[List.range_succ,List.flatMap_append]
 simp
def wA (s:List Nat)(ns:List Int)(k:Nat):List PR:=match ns[k+1]? with
 | some r2=>[⟨(s,ns.getD k 0),[(s,some r2)],-1⟩]
 | none=>[]
def dv (rs:List Rl)(s:List Nat)(ns:List Int)(i:Nat):List PR:=(List.range i).flatMap fun k=>ce rs s (ns.getD k 0) rs.length++wA s ns k
theorem jJ (rs:List Rl)(s:List Nat)(ns:List Int)(i:Nat):dv rs s ns (i+1)=dv rs s ns i++(ce rs s (ns.getD i 0) rs.length++wA s ns i):=by
 unfold dv
 rw[List.range_succ,List.flatMap_append]
 simp
def e7 (rs:List Rl)(s:List Nat):List PR:=dv rs s (br (aj rs s)) (br (aj rs s)).length
theorem sK (rs:List Rl)(s:List Nat)(r:Int)(n:Nat):(lT rs s r n).length≤1:=by
 unfold lT
 split
 ·split<;>simp
 ·simp
theorem uw (s:List Nat)(ns:List Int)(k:Nat):(wA s ns k).length≤1:=by
 unfold wA
 split<;>simp
theorem dS (rs:List Rl)(s:List Nat)(r:Int):∀i,(ce rs s r i).length≤i
 | 0=>by simp[ce]
 | i+1=>by
  have:=dS rs s r i
  have:=sK rs s r i
  rw[fb,List.length_append]
  omega
theorem iG (rs:List Rl)(s:List Nat)(ns:List Int):∀i,(dv rs s ns i).length≤i*(rs.length+1)
 | 0=>by simp[dv]
 | i+1=>by
  have h1:=iG rs s ns i
  have h2:=dS rs s (ns.getD i 0) rs.length
  have h3:=uw s ns i
  rw[jJ,List.length_append,List.length_append,Nat.succ_mul]
  omega
def PRH (K:PySem.W.Frag)(H0 H:Hp)(b:Addr)(rs:List PR):Prop:=Same H0 H/\∃xs,H b=some (.lst xs)/\DatVs K H xs (rs.map PR.dat)
theorem PRH.grow {H0 H H':Hp}{b:Addr}{rs:List PR}(h:PRH K H0 H b rs)(s:Same H H'):PRH K H0 H' b rs:=by
 obtain⟨s1,xs,h1,h2⟩:=h
 exact⟨s1.trans s,xs,s _ _ h1,h2.same s⟩
theorem PRH.add {H0 H:Hp}{b t:Addr}{rs:List PR}{r:PR}{xs:List V}(s:Same H0 H)(hb:H b=some (.lst xs))(hd:DatVs K H xs (rs.map PR.dat))(h0:H0 b=none)(hr:DatV K H (.ref t) r.dat):PRH K H0 (al H b (.lst (xs++[.ref t]))) b (rs++[r]):=by
 refine⟨fun x u e=>?_,_,ae,bR (.inl ⟨_,hb⟩) (oI _) ?_⟩
 ·rw[am fun z=>by rw[z,h0]at e;cases e];exact s x u e
 ·rw[List.map_append]
  exact DatVs.snoc hr hd
def wC (K:PySem.W.Frag):Sp:=fun vs H Q _=>∃(a pa:Addr) (rl pl:List V) (rs:List Rl) (s:List Nat),vs=[.ref a,.ref pa,.str (S s)]/\SqL K H a rl/\DatVs K H rl (rs.map Rl.dat)/\rs.length≤60/\SqL K H pa pl/\DatVs K H pl (rs.map fun q=>.tuple ((bx rs q).map bV))/\aj rs s≠[] /\
 ∀(H':Hp) (p:Addr) (xs:List V),Same H H'->H' p=some (.lst xs)->DatVs K H' xs ((e7 rs s).map PR.dat)->Q (.ref p) H'
abbrev st_plain_of_sort:Stmt:=top 23
theorem cU:ax ["rules","parts","sort","plain","ranks","rank","above","number","rule"] ["rules","parts","sort"] (ak st_plain_of_sort):=⟨rfl,rfl,rfl,by decide +kernel,rfl,by decide +kernel,by decide +kernel⟩
theorem uh (R:Raw K mg "plain_of_sort" st_plain_of_sort ["rules","parts","sort"])(T:Txt K w mg tT)(D_ranks_of:Def P w K mg base 1 "ranks_of" ["rules","sort"] (fL K)):Def P w K mg base 2 "plain_of_sort" ["rules","parts","sort"] (wC K):=by
 refine R.defJ cU (fun vs H Q E h=>?_) (fun f cdv A outer s H vs Q E hr h=>?_)
 ·obtain⟨a,pa,rl,pl,rs,s,rfl,_⟩:=h
  rfl
 ·obtain⟨a,pa,rl,pl,rs,so,rfl,hS,hD,hl,hPa,hPd,hne,q⟩:=h
  have sc:=cU
  have hu:=hr.units
  have hbg:(1000000:Nat)<sizeLine:=by rw[sizeLine_eq];decide
  have hrl:rl.length=rs.length:=by have:=hD.length;rw[List.length_map]at this;exact this
  refine⟨_,(ac (ao (i:=3) sc.nd rfl (Or.inl rfl) (bU af))
  (ac (ao (i:=4) sc.nd rfl (Or.inl rfl) (bg D_ranks_of (hr.mono (by decide)) rfl (aa (jn 0) (aa (jn 2) af))))
  (ac (aP PassesOwn.never rfl (yN (K:=K) rfl T.n_zip (aa (jn 4) (aa (aR (bv (K:=K)) (n8 (wo (K:=K)) (jn 4) (j0 ap) vN) (bU (aa oE af))) af))) (bD (K:=K) (n:=2) rfl (ar (ai (i:=5) sc.nd rfl (Or.inl rfl)) (ar (ai (i:=6) sc.nd rfl (Or.inl rfl)) bo)))
  (ac (aP PassesOwn.never rfl (vX (K:=K) rfl T.n_enumerate (aa (jn 0) af)) (bD (K:=K) (n:=2) rfl (ar (ai (i:=7) sc.nd rfl (Or.inl rfl)) (ar (ai (i:=8) sc.nd rfl (Or.inl rfl)) bo)))
  (ag (aZ (jc (fg (aA (bX hu (K:=K)) (aO (aU hu (K:=K) (w:=w)) (jn 8) ap) (jn 2)) (dh (aA (bX hu (K:=K)) (aO (aU hu (K:=K) (w:=w)) (jn 8) ap) (jn 5)))))
  (ag (be (fU (K:=K) PySem.F.plainAttrs_list PySem.F.slot_list_append PySem.F.type_list_append cg (jn 3) (aa (cb (aa (cb (aa (jn 2) (aa (jn 5) af))) (aa (aO (aU hu (K:=K) (w:=w)) (jn 1) (jn 7)) (aa (jn 7) af)))) af))))
  aE)))
  (ag (aZ (aA vR (jn 6) oE)
  (ag (be (fU (K:=K) PySem.F.plainAttrs_list PySem.F.slot_list_append PySem.F.type_list_append cg (jn 3) (aa (cb (aa (cb (aa (jn 2) (aa (jn 5) af))) (aa (cb (aa (cb (aa (jn 2) (aa (jn 6) af))) af)) (aa (dO rfl T.g_NO_RULE) af)))) af))))
  aE))))
  (ag (aQ (jn 3)))))),?_⟩
  refine⟨(show 0≤sizeLine by decide),fun b hb0=>?_⟩
  have g1:PRH K H (al H b (.lst [])) b []:=⟨ah hb0,[],ae,.nil⟩
  generalize al H b (.lst [])=H1 at g1 ⊢
  refine⟨a,rl,rs,so,rfl,g1.1.seq hS,hD.same g1.1,hl,fun H2 pr ns s2 hpr hpm hsr=>?_⟩
  have ens:=rW hpm hsr
  have nl:ns.length≤60:=by
   have h2:=fN (aj rs so)
   have h3:(aj rs so).length≤rs.length:=by unfold aj;rw[List.length_map];exact List.length_filter_le _ _
   have:=hpm.length_eq
   omega
  have g2:=g1.grow s2
  clear g1
  refine .inl ⟨_,SqL.of hpr,fun p3 hp3=>?_⟩
  have ec:gJ (ns.map V.int) (some 1) none=(ns.drop 1).map V.int:=by
   unfold gJ
   rw[show (1:Int)=((1:Nat):Int) from rfl,HT.sIx_nat,HT.sIx_none,List.take_of_length_le (by rw[List.length_drop];exact Nat.le_refl _),List.length_map,List.map_drop]
   by_cases h:1≤ns.length
   ·rw[Nat.min_eq_left h]
   ·have:ns=[]:=List.length_eq_zero_iff.mp (by omega)
    rw[this];rfl
  rw[ec]
  have s3:Same H2 (al H2 p3 (.lst ((ns.drop 1).map V.int))):=ah hp3
  have h3:al H2 p3 (.lst ((ns.drop 1).map V.int)) p3=some (.lst ((ns.drop 1).map V.int)):=ae
  generalize al H2 p3 (.lst ((ns.drop 1).map V.int))=H3 at s3 h3 ⊢
  refine⟨(show 1≤sizeLine by decide),fun p4 hp4=>?_⟩
  have s4:Same H3 (al H3 p4 (.lst [V.non])):=ah hp4
  have h4:al H3 p4 (.lst [V.non]) p4=some (.lst [V.non]):=ae
  generalize al H3 p4 (.lst [V.non])=H4 at s4 h4 ⊢
  refine .inl ⟨_,_,s4 _ _ h3,h4,by rw[List.length_map,List.length_drop];show _+1≤_;omega,fun p5 hp5=>?_⟩
  have s5:Same H4 (al H4 p5 (.lst ((ns.drop 1).map V.int++[V.non]))):=ah hp5
  have h5':(al H4 p5 (.lst ((ns.drop 1).map V.int++[V.non]))) p5=some (.lst ((ns.drop 1).map V.int++[V.non])):=ae
  generalize al H4 p5 (.lst ((ns.drop 1).map V.int++[V.non]))=H5 at s5 h5' ⊢
  have h5:SqL K H5 p5 ((ns.drop 1).map V.int++[V.non]):=SqL.of h5'
  have s25:=(s3.trans s4).trans s5
  have hpr5:SqL K H5 pr (ns.map V.int):=SqL.of (s25 _ _ hpr)
  have g5:=g2.grow s25
  have hn1:1≤ns.length:=by
   have h1:ns≠[]:=fun z=>hne ((Srt.nil ⟨hpm,hsr⟩).mp z)
   exact List.length_pos_iff.mpr h1
  have hprb:pr≠b:=fun z=>by
   obtain⟨_,xs,hx,hdx⟩:=g2
   rw[z,hx]at hpr
   have e:xs=ns.map V.int:=by injection hpr with hpr;injection hpr
   have:xs=[]:=by cases hdx;rfl
   rw[this]at e
   have:=congrArg List.length e
   simp at this
   omega
  have hp5b:p5≠b:=fun z=>by
   obtain⟨_,xs,hx,_⟩:=(g2.grow (s3.trans s4))
   rw[z,hx]at hp5
   cases hp5
  refine⟨false,false,⟨_,hpr5⟩,⟨_,h5⟩,?_⟩
  have hpl:pl.length=rs.length:=by have:=hPd.length;rw[List.length_map]at this;exact this
  refine vk (K:=K) (xs:=ns.map V.int) (ys:=(ns.drop 1).map V.int++[V.non]) (t1:=false) (t2:=false) (fun i σ H'=>∃(v5 v6 v7 v8:Option V),H' pr=some (.lst (ns.map V.int))/\H' p5=some (.lst ((ns.drop 1).map V.int++[V.non]))/\PRH K H H' b (dv rs so ns i)/\σ=[some (.ref a),some (.ref pa),some (.str (S so)),some (.ref b),some (.ref pr),v5,v6,v7,v8])
   ⟨none,none,none,none,s25 _ _ hpr,h5',g5,rfl⟩ (by rw[List.length_append,List.length_map,List.length_map,List.length_drop,List.length_singleton];omega) (fun i σ H' _ h=>by obtain⟨_,_,_,_,e1,e2,_⟩:=h;exact⟨SqL.of e1,SqL.of e2⟩) ?_ ?_
  ·rintro i x y σ H' hx hy ⟨v5,v6,v7,v8,e1,e2,g6,rfl⟩ T0 hT0
   have hil:i<ns.length:=by have:=(List.getElem?_eq_some_iff.mp hx).1;rw[List.length_map]at this;exact this
   rw[List.getElem?_map,List.getElem?_eq_getElem hil]at hx
   have ex:x=V.int (ns.getD i 0):=by rw[List.getD,List.getElem?_eq_getElem hil];exact (Option.some.inj hx).symm
   subst ex
   have ey:y=(match ns[i+1]? with | some r2=>V.int r2 | none=>V.non):=by
    by_cases h:i+1<ns.length
    ·rw[List.getElem?_append_left (by rw[List.length_map,List.length_drop];omega),List.getElem?_map,List.getElem?_drop,Nat.add_comm 1 i,List.getElem?_eq_getElem h]at hy
     rw[List.getElem?_eq_getElem h]
     exact (Option.some.inj hy).symm
    ·rw[List.getElem?_append_right (by rw[List.length_map,List.length_drop];omega),List.length_map,List.length_drop,show i-(ns.length-1)=0 by omega]at hy
     rw[List.getElem?_eq_none (by omega)]
     exact (Option.some.inj hy).symm
   have s7:Same H' (al H' T0 (.tup [V.int (ns.getD i 0),y])):=ah hT0
   refine⟨T0,_,rfl,SqT.of ae,rfl,_,_,rfl,_,_,rfl,rfl,?_⟩
   generalize al H' T0 (.tup [V.int (ns.getD i 0),y])=H7 at s7 ⊢
   have g7:=g6.grow s7
   have e1:=s7 _ _ e1
   have e2:=s7 _ _ e2
   have eu:wA so ns i=(match ns[i+1]? with | some r2=>[⟨(so,ns.getD i 0),[(so,some r2)],-1⟩] | none=>[]):=rfl
   obtain⟨r,er0⟩:∃r,r=ns.getD i 0:=⟨_,rfl⟩
   rw[<-er0]at eu ⊢
   have hbl:=iG rs so ns i
   have hbl2:(dv rs so ns i).length≤4000:=Nat.le_trans hbl (Nat.le_trans (Nat.mul_le_mul (show i≤60 by omega) (show rs.length+1≤61 by omega)) (by decide))
   refine⟨⟨_,g7.1.seq hS⟩,?_⟩
   refine rL (K:=K) (xs:=rl) (fun n σ H'=>∃(v7 v8:Option V),H' pr=some (.lst (ns.map V.int))/\H' p5=some (.lst ((ns.drop 1).map V.int++[V.non]))/\PRH K H H' b (dv rs so ns i++ce rs so r n)/\σ=[some (.ref a),some (.ref pa),some (.str (S so)),some (.ref b),some (.ref pr),some (.int r),some y,v7,v8])
    ⟨v7,v8,e1,e2,by rw[show ce rs so r 0=[] from rfl,List.append_nil];exact g7,rfl⟩ (fun n σ H' _ h=>by obtain⟨_,_,_,_,g8,_⟩:=h;exact g8.1.seq hS) ?_ ?_
   ·rintro n x σ H8 hx ⟨v7,v8,f1,f2,g8,rfl⟩ T1 hT1
    obtain⟨dd,hdd,hxd⟩:=hD.get hx
    rw[List.getElem?_map]at hdd
    cases ee:rs[n]? with
    | none=>rw[ee]at hdd;cases hdd
    | some g =>
     rw[ee]at hdd
     have ed:dd=g.dat:=(Option.some.inj hdd).symm
     subst ed
     obtain⟨t,tp,rfl,hT,_⟩:=cZ hxd
     have s9:Same H8 (al H8 T1 (.tup [.int (n:Nat),.ref t])):=ah hT1
     refine⟨T1,_,rfl,SqT.of ae,rfl,_,_,rfl,_,_,rfl,rfl,?_⟩
     generalize al H8 T1 (.tup [.int (n:Nat),.ref t])=H9 at s9 ⊢
     have g9:=g8.grow s9
     have f1:=s9 _ _ f1
     have f2:=s9 _ _ f2
     obtain⟨t9,xs,hb9,hd9⟩:=id g9
     have hnl:n<rs.length:=(List.getElem?_eq_some_iff.mp ee).1
     have hxl:xs.length=(dv rs so ns i++ce rs so r n).length:=by have:=hd9.length;rw[List.length_map]at this;exact this
     have hru:=dS rs so r n
     rw[List.length_append]at hxl
     have er:lT rs so r n=if g.sort=so/\g.rank=r then [⟨(so,r),bx rs g,(n:Nat)⟩] else []:=by unfold lT;rw[ee]
     have no:¬ (g.sort=so/\g.rank=r)->PRH K H H9 b (dv rs so ns i++ce rs so r (n+1)):=fun z=>by rw[fb,er,if_neg z,List.append_nil];exact g9
     refine .inr ⟨_,.str (S g.sort),t9.seqT hT,aq (j:=0) rfl,?_⟩
     show if (false^^decide ((S g.sort:Str)=S so))=true then _ else _
     rw[Bool.false_xor,hW]
     refine bc (fun h=>?_) (fun h=>?_)
     ·refine .inr ⟨_,.int g.rank,t9.seqT hT,aq (j:=1) rfl,?_⟩
      show if (false^^decide (g.rank=r))=true then _ else _
      rw[Bool.false_xor]
      refine bc (fun h2=>?_) (fun h2=>?_)
      ·have hp1:pl[n]?=some (pl[n]'(by omega)):=List.getElem?_eq_getElem (by omega)
       obtain⟨dd,hdd,hpd⟩:=hPd.get hp1
       rw[List.getElem?_map,ee]at hdd
       have ed:dd=.tuple ((bx rs g).map bV):=(Option.some.inj hdd).symm
       subst ed
       refine⟨.inl ⟨rfl,_,SqL.of hb9⟩,⟨(show 2≤sizeLine by decide),fun p6 hp6=>?_⟩⟩
       have z6:Same H9 (al H9 p6 (.tup (pV (cj (so,r))))):=ah hp6
       have k6:SqT K (al H9 p6 (.tup (pV (cj (so,r))))) p6 (pV (cj (so,r))):=SqT.of ae
       have q6:al H9 p6 (.tup [V.str (S so),V.int r])=al H9 p6 (.tup (pV (cj (so,r)))):=rfl
       rw[q6]
       generalize al H9 p6 (.tup (pV (cj (so,r))))=H10 at z6 k6 ⊢
       have t10:=t9.trans z6
       refine .inl ⟨_,pl[n]'(by omega),t10.seq hPa,aq hp1,⟨(show 3≤sizeLine by decide),fun p7 hp7=>?_⟩⟩
       have z7:Same H10 (al H10 p7 (.tup [.ref p6,pl[n]'(by omega),.int (n:Nat)])):=ah hp7
       have hr7:DatV K (al H10 p7 (.tup [.ref p6,pl[n]'(by omega),.int (n:Nat)])) (.ref p7) (PR.dat ⟨(so,r),bx rs g,(n:Nat)⟩) :=
        .tuple (SqT.of ae) (.cons (.tuple (z7.seqT k6) (.cons (.str _) (.cons (.int _) .nil))) (.cons (hpd.same (t10.trans z7)) (.cons (.int _) .nil)))
       generalize al H10 p7 (.tup [.ref p6,pl[n]'(by omega),.int (n:Nat)])=H11 at z7 hr7 ⊢
       have z911:=z6.trans z7
       refine⟨xs,z911 _ _ hb9,by omega,?_⟩
       refine⟨_,_,by rw[am hprb];exact z911 _ _ f1,by rw[am hp5b];exact z911 _ _ f2,?_,rfl⟩
       rw[fb,er,if_pos ⟨beq_iff_eq.mp h,of_decide_eq_true h2⟩,<-List.append_assoc]
       exact PRH.add (t9.trans z911) (z911 _ _ hb9) (hd9.same z911) hb0 hr7
      ·exact⟨_,_,f1,f2,no (fun z=>h2 (decide_eq_true z.2)),rfl⟩
     ·exact⟨_,_,f1,f2,no (fun z=>h (beq_iff_eq.mpr z.1)),rfl⟩
   ·rintro σ H8 ⟨v7,v8,f1,f2,g8,rfl⟩
    rw[hrl]at g8
    have eb:dv rs so ns (i+1)=dv rs so ns i++ce rs so r rs.length++wA so ns i:=by rw[jJ,<-er0,List.append_assoc]
    obtain⟨t9,xs,hb9,hd9⟩:=id g8
    have hxl:xs.length=(dv rs so ns i++ce rs so r rs.length).length:=by have:=hd9.length;rw[List.length_map]at this;exact this
    have hru:=dS rs so r rs.length
    rw[List.length_append]at hxl
    cases en:ns[i+1]? with
    | none =>
     rw[en]at ey eu
     subst ey
     refine⟨_,_,_,_,f1,f2,?_,rfl⟩
     rw[eb,eu,List.append_nil]
     exact g8
    | some r2 =>
     rw[en]at ey eu
     subst ey
     refine⟨.inl ⟨rfl,_,SqL.of hb9⟩,⟨(show 2≤sizeLine by decide),fun p6 hp6=>⟨(show 2≤sizeLine by decide),fun p7 hp7=>⟨(show 1≤sizeLine by decide),fun p8 hp8=>⟨(show 3≤sizeLine by decide),fun p9 hp9=>?_⟩⟩⟩⟩⟩
     dsimp only at hp7 hp8 hp9 ⊢
     have z6:Same H8 (al H8 p6 (.tup [V.str (S so),V.int r])):=ah hp6
     have k6:SqT K (al H8 p6 (.tup [V.str (S so),V.int r])) p6 [V.str (S so),V.int r]:=SqT.of ae
     generalize al H8 p6 (.tup [V.str (S so),V.int r])=H9 at z6 k6 hp7 hp8 hp9 ⊢
     have z7:Same H9 (al H9 p7 (.tup [V.str (S so),V.int r2])):=ah hp7
     have k7:SqT K (al H9 p7 (.tup [V.str (S so),V.int r2])) p7 [V.str (S so),V.int r2]:=SqT.of ae
     generalize al H9 p7 (.tup [V.str (S so),V.int r2])=H10 at z7 k7 hp8 hp9 ⊢
     have z8:Same H10 (al H10 p8 (.tup [.ref p7])):=ah hp8
     have k8:SqT K (al H10 p8 (.tup [.ref p7])) p8 [.ref p7]:=SqT.of ae
     generalize al H10 p8 (.tup [.ref p7])=H11 at z8 k8 hp9 ⊢
     have z9:Same H11 (al H11 p9 (.tup [.ref p6,.ref p8,.int (-1)])):=ah hp9
     have k9:SqT K (al H11 p9 (.tup [.ref p6,.ref p8,.int (-1)])) p9 [.ref p6,.ref p8,.int (-1)]:=SqT.of ae
     generalize al H11 p9 (.tup [.ref p6,.ref p8,.int (-1)])=H12 at z9 k9 ⊢
     have z89:=z8.trans z9
     have z69:=(z6.trans z7).trans z89
     have hr9:DatV K H12 (.ref p9) (PR.dat ⟨(so,r),[(so,some r2)],-1⟩) :=
      .tuple k9 (.cons (.tuple ((z7.trans z89).seqT k6) (.cons (.str _) (.cons (.int _) .nil))) (.cons (.tuple (z9.seqT k8) (.cons (.tuple (z89.seqT k7) (.cons (.str _) (.cons (.int _) .nil))) .nil)) (.cons (.int _) .nil)))
     refine⟨xs,z69 _ _ hb9,by omega,?_⟩
     refine⟨_,_,_,_,by rw[am hprb];exact z69 _ _ f1,by rw[am hp5b];exact z69 _ _ f2,?_,rfl⟩
     rw[eb,eu]
     exact PRH.add (t9.trans z69) (z69 _ _ hb9) (hd9.same z69) hb0 hr9
  ·rintro σ H' ⟨v5,v6,v7,v8,e1,e2,⟨s6,xs,hx,hdx⟩,rfl⟩
   rw[List.length_map]at hdx
   refine q H' b xs s6 hx ?_
   unfold e7
   rw[<-ens]
   exact hdx
end
end K31
--@RAISES but law
namespace K31
open PySem PySem.Spec PyProof.Rows L2 Rg
section
variable {P:Program}{w:World}{K:PySem.W.Frag}{mg:Str->Option Value}{base:Heap}{C tS tN tT:Addr}
inductive Der (rows:List PR):Th->Prop
 | mk (r:PR):r∈rows->(∀s∈r.ps,∀k,s.2=some k->Der rows (s.1,k))->Der rows r.sym
def j1 (F:List Th)(s:Sy):Bool:=match s.2 with
 | none=>true
 | some k=>decide ((s.1,k)∈F)
theorem inF_iff {F:List Th}{s:Sy}:j1 F s=true↔∀k,s.2=some k->(s.1,k)∈F:=by
 unfold j1
 obtain⟨l,o⟩:=s
 cases o with
 | none=>simp
 | some k=>simp
def Cb (rows:List PR)(F:List Th):Prop:=∀r∈rows,r.ps.all (j1 F)=true->r.sym∈F
theorem yP {rows:List PR}{F:List Th}(h:Cb rows F){t:Th}(d:Der rows t):t∈F:=by
 induction d with
 | mk r hr _ ih=>exact h r hr (List.all_eq_true.mpr fun s hs=>inF_iff.mpr fun k hk=>ih s hs k hk)
def dq (rows:List PR)(F:List Th):Nat:=(rows.filter fun r=>decide (r.sym∉F)).length
theorem qT {α:Type}{p p':α->Bool}(h:∀x,p' x=true->p x=true):∀l:List α,(l.filter p').length≤(l.filter p).length
 | []=>by simp
 | x::r=>by
  have ih:=qT h r
  rw[List.filter_cons,List.filter_cons]
  by_cases h1:p' x=true
  ·rw[if_pos h1,if_pos (h x h1)];simp;exact ih
  ·rw[if_neg h1]
   split
   ·simp;omega
   ·exact ih
theorem ml {α:Type}{p p':α->Bool}(h:∀x,p' x=true->p x=true){a:α}(ha:p a=true)(ha':p' a=false):∀l:List α,a∈l->(l.filter p').length<(l.filter p).length
 | x::r,hm=>by
  have ih:=qT h r
  rw[List.filter_cons,List.filter_cons]
  rcases List.mem_cons.mp hm with e | e
  ·subst e
   rw[if_pos ha,if_neg (by rw[ha'];decide)]
   simp
   omega
  ·have ih2:=ml h ha ha' r e
   by_cases h1:p' x=true
   ·rw[if_pos h1,if_pos (h x h1)];simp;exact ih2
   ·rw[if_neg h1]
    split
    ·simp;omega
    ·exact ih2
theorem qV {rows:List PR}{F:List Th}{r:PR}(hr:r∈rows)(hn:r.sym∉F):dq rows (F++[r.sym])<dq rows F:=by
 unfold dq
 refine ml (a:=r) (fun x hx=>?_) (decide_eq_true hn) (decide_eq_false (by simp)) rows hr
 have:=of_decide_eq_true hx
 exact decide_eq_true fun z=>this (List.mem_append.mpr (.inl z))
structure A0 (r:PR):Prop where
 l1:cY r.sym.1
 z1:r.sym.1.length≤100
 r0:0≤r.sym.2
 r9:r.sym.2≤99
theorem mem_thP {F:List Th}{t:Th}:cj t∈F.map cj↔t∈F:=by
 constructor
 ·intro h
  obtain⟨y,hy,e⟩:=List.mem_map.mp h
  rw[<-nK e];exact hy
 ·intro h;exact List.mem_map.mpr ⟨t,h,rfl⟩
def FrAt (P:Program)(w:World)(K:PySem.W.Frag)(H:Hp)(d:Addr)(F:List Th):Prop:=∃ps,PAt P w K H d ps/\ps.map (·.1)=F.map cj
theorem FrAt.same {H H':Hp}{d:Addr}{F:List Th}(h:FrAt P w K H d F)(s:Same H H'):FrAt P w K H' d F:=by
 obtain⟨ps,h1,h2⟩:=h
 exact⟨ps,h1.same s,h2⟩
theorem xS:∀k:Fin 100,(Str.ofString (toString (k.val:Int))).length≤1002:=by decide +kernel
theorem tz {t:Th}(h1:cY t.1)(h2:t.1.length≤100)(h3:0≤t.2)(h4:t.2≤99):(pD (cj t)).shown.length≤1100000:=by
 unfold pD cj
 rw[PyData.shown,PyData.shownAll,PyData.shownAll,PyData.shownAll,PyData.shown,PyData.shown]
 refine Nat.le_trans (nL (B:=1002) fun z hz=>?_) (show 2*(1002+2)+3≤1100000 by decide)
 rcases List.mem_cons.mp hz with e | hz
 ·rw[e]
  have h3:=StrLaws.reprText_len (S t.1) (vc h1)
  have h4:(S t.1).length=t.1.length:=jr t.1
  exact Nat.le_trans h3 (by omega)
 ·rw[List.mem_singleton.mp hz]
  have:=xS ⟨t.2.toNat,by omega⟩
  have e:((t.2.toNat:Nat):Int)=t.2:=Int.toNat_of_nonneg h3
  simp only[e]at this
  exact this
structure TxB (K:PySem.W.Frag)(mg:Str->Option Value)(C:Addr):Prop where
 c_Barren:mg "Barren"=some (.ref C)
 x_Barren:PySem.W.excIn K C eO "ValueError.__new__"=true
 n_all:mg "all"=none
 n_isinstance:mg "isinstance"=none
 n_str:mg "str"=none
def AV (K:PySem.W.Frag)(C:Addr):Sp:=fun vs H Q E=>∃(a:Addr) (xs:List V) (rows:List PR),vs=[.ref a]/\SqL K H a xs/\DatVs K H xs (rows.map PR.dat)/\rows.length≤50000/\(∀r∈rows,A0 r)/\(∀r∈rows,r.ps.length≤100) /\
 ((∀r∈rows,Der rows r.sym)->∀H',Same H H'->Q .non H')/\((∃r∈rows,¬ Der rows r.sym)->∀H',Same H H'->E (.ref C) none H')
abbrev st_check_fruitful:Stmt:=top 24
theorem ck:ax ["plain","fruitful","grown","symbol","parts","rule"] ["plain"] (ak st_check_fruitful):=⟨rfl,rfl,rfl,by decide +kernel,rfl,by decide +kernel,by decide +kernel⟩
theorem yX (R:Raw K mg "check_fruitful" st_check_fruitful ["plain"])(T:TxB K mg C):DefX P w K mg base 1 "check_fruitful" ["plain"] (AV K C):=by
 refine R.defX ck (fun vs H Q E h=>?_) (fun f cdv A outer s H vs Q E hr h=>?_)
 ·obtain⟨a,xs,rows,rfl,_⟩:=h
  rfl
 ·obtain⟨a,xs,rows,rfl,hS,hD,hl,hok,hps,qI,qE⟩:=h
  have sc:=ck
  have hu:=hr.units
  have hxl:xs.length=rows.length:=by have:=hD.length;rw[List.length_map]at this;exact this
  have row:∀(i:Nat) (x:V),xs[i]?=some x->∃r t ts tp ys,rows[i]?=some r/\x=.ref t/\SqT K H t [.ref ts,.ref tp,.int r.no]/\SqT K H ts (pV (cj r.sym))/\SqT K H tp ys/\DatVs K H ys (r.ps.map bV):=fun i x hx=>by
   obtain⟨dd,hdd,hxd⟩:=hD.get hx
   rw[List.getElem?_map]at hdd
   cases ee:rows[i]? with
   | none=>rw[ee]at hdd;cases hdd
   | some r =>
    rw[ee]at hdd
    have ed:dd=r.dat:=(Option.some.inj hdd).symm
    subst ed
    obtain⟨t,ts,tp,ys,e,h1,h2,h3,h4⟩:=dJ hxd
    exact⟨r,t,ts,tp,ys,rfl,e,h1,h2,h3,h4⟩
  refine⟨_,(ac (ao (i:=1) sc.nd rfl (Or.inr rfl) (uT (P:=P) (w:=w)))
  (ac (ao (i:=2) sc.nd rfl (Or.inl rfl) eV)
  (ac (cW bf (dA (K:=K) (jn 2))
  (ac (ao (i:=2) sc.nd rfl (Or.inl rfl) eV)
  (ag (aP bf rfl (aW (K:=K) (jn 0)) (bD (K:=K) (n:=3) rfl (ar (ai (i:=3) sc.nd rfl (Or.inl rfl)) (ar (ai (i:=4) sc.nd rfl (Or.inl rfl)) (ar (ai (i:=5) sc.nd rfl (Or.inl rfl)) bo))))
  (ag (aZ (jc (fg (aA (cS hu (K:=K) (P:=P) (w:=w)) (jn 3) (jn 1)) (dh (gi (aM (Av rfl (K:=K)) rfl T.n_all boot_all (aa (fS (N:=["part","fruitful"]) (cap:=[none,some 1]) rfl (CompScope.of rfl (by rfl)) (aW (K:=K) (jn 4)) (fun _ _ _ _=>(ai (i:=0) (show List.Nodup [("part":Str),("fruitful":Str)] by decide +kernel) rfl (Or.inl rfl))) (fun _ _ _ _=>fw) (fun _ _ _ _=>(yA (aM (iQ (K:=K)) rfl T.n_isinstance boot_isinstance (aa (jn 0) (aa (iA (v:=.ty "str") rfl T.n_str boot_str rfl) af))) (tG (jQ (oG hu (K:=K) (P:=P) (w:=w)) (jn 0) (jn 1)))))) af))))))
  (ac (tX (K:=K) (P:=P) (w:=w) hu (jn 1) (jn 3) eV)
  (ag (ao (i:=2) sc.nd rfl (Or.inl rfl) eV)))
  aE))))))
  (ag (aP bf rfl (aW (K:=K) (jn 0)) (bD (K:=K) (n:=3) rfl (ar (ai (i:=3) sc.nd rfl (Or.inl rfl)) (ar (ai (i:=4) sc.nd rfl (Or.inl rfl)) (ar (ai (i:=5) sc.nd rfl (Or.inl rfl)) bo))))
  (ag (aZ (aA (cS hu (K:=K) (P:=P) (w:=w)) (jn 3) (jn 1))
  (ag (bL rfl T.c_Barren T.x_Barren (aa (j8 (aC bP (aC (iH (K:=K) hr.gd hu (jn 3)) bY))) af)))
  aE))))))),?_⟩
  intro d hd0 hsm
  have s1:Same H (al H d (iL P w d [])):=ah hd0
  have f1:FrAt P w K (al H d (iL P w d [])) d []:=⟨[],⟨ae,by simp,hsm,Nat.zero_le _,fun p hp=>nomatch hp⟩,rfl⟩
  generalize al H d (iL P w d [])=H1 at s1 f1 ⊢
  refine⟨fun m σ H'=>∃(F:List Th) (g:Bool) (v3 v4 v5:Option V),Same H H'/\FrAt P w K H' d F/\F.Nodup/\F.length≤rows.length/\(∀t∈F,Der rows t)/\(g=true->m=dq rows F+1)/\(g=false->m=0/\Cb rows F)/\F.length+dq rows F≤rows.length/\σ=[some (.ref a),some (.ref d),some (.bl g),v3,v4,v5],⟨dq rows []+1,[],true,none,none,none,s1,f1,List.nodup_nil,Nat.zero_le _,(fun t ht=>nomatch ht),(fun _=>rfl),(fun z=>nomatch z),by unfold dq;simp;exact List.length_filter_le _ _,rfl⟩,?_⟩
  rintro m σ H2 ⟨F,g,v3,v4,v5,s2,f2,nd,fl,fd,m1,m2,fc,rfl⟩
  refine⟨g,rfl,?_⟩
  show if g=true then _ else _
  refine bc (fun hg=>?_) (fun hg=>?_)
  ·refine⟨_,fun σ' H' h=>h,?_⟩
   refine .inl ⟨⟨_,s2.seq hS⟩,?_⟩
   refine aV (xs:=xs) (fun i σ H'=>∃(F':List Th) (g':Bool) (v3 v4 v5:Option V),Same H H'/\FrAt P w K H' d F'/\F'.Nodup/\(∀t∈F',Der rows t)/\F'.length+dq rows F'≤rows.length/\(g'=true->dq rows F'<dq rows F)/\(g'=false->F'=F/\∀(j:Nat) (r:PR),j<i->rows[j]?=some r->r.ps.all (j1 F)=true->r.sym∈F)/\dq rows F'≤dq rows F/\σ=[some (.ref a),some (.ref d),some (.bl g'),v3,v4,v5])
    ⟨F,false,v3,v4,v5,s2,f2,nd,fd,fc,(fun z=>nomatch z),(fun _=>⟨rfl,fun j r hj=>absurd hj (Nat.not_lt_zero _)⟩),Nat.le_refl _,rfl⟩ (fun i σ H' _ h=>by obtain⟨_,_,_,_,_,s3,_⟩:=h;exact s3.seq hS) ?_ ?_
   ·rintro i x σ H3 hx ⟨F',g',v3,v4,v5,s3,f3,nd3,fd3,fc3,g1,g2,g3,rfl⟩
    obtain⟨r,t,ts,tp,ys,hri,rfl,hT,hts,htp,hys⟩:=row i x hx
    have mr:r∈rows:=List.mem_of_getElem? hri
    refine⟨t,_,rfl,s3.seqT hT,rfl,_,_,rfl,_,_,rfl,_,_,rfl,rfl,?_⟩
    obtain⟨ps,hP,eps⟩:=id f3
    have ein:∀u:Th,decide (cj u∈ps.map (·.1))=decide (u∈F'):=fun u=>by
     rw[eps,Bool.eq_iff_iff,decide_eq_true_eq,decide_eq_true_eq]
     exact mem_thP
    refine .inl ⟨ps,cj r.sym,hP,s3.seqT hts,?_⟩
    show if (true^^decide (cj r.sym∈ps.map (·.1)))=true then _ else _
    rw[ein]
    have stay:(r.ps.all (j1 F')=true->r.sym∈F')->∀H4,Same H3 H4->∃(F':List Th) (g'':Bool) (w3 w4 w5:Option V),Same H H4/\FrAt P w K H4 d F'/\F'.Nodup/\(∀t∈F',Der rows t)/\F'.length+dq rows F'≤rows.length/\(g''=true->dq rows F'<dq rows F)/\(g''=false->F'=F/\∀(j:Nat) (r:PR),j<i+1->rows[j]?=some r->r.ps.all (j1 F)=true->r.sym∈F)/\dq rows F'≤dq rows F/\[some (.ref a),some (.ref d),some (.bl g'),some (.ref ts),some (.ref tp),some (.int r.no)]=[some (.ref a),some (.ref d),some (.bl g''),w3,w4,w5]:=fun h H4 s4 =>
     ⟨F',g',_,_,_,s3.trans s4,f3.same s4,nd3,fd3,fc3,g1,fun z=>by
      obtain⟨e,g9⟩:=g2 z
      refine⟨e,fun j r' hj hr' ha=>?_⟩
      by_cases hji:j=i
      ·rw[hji,hri]at hr'
       have er:=Option.some.inj hr'
       subst er
       rw[<-e]at ha ⊢
       exact h ha
      ·exact g9 j r' (by omega) hr' ha,g3,rfl⟩
    refine bc (fun h=>?_) (fun h=>?_)
    ·have hnot:r.sym∉F':=fun z=>by rw[decide_eq_true z]at h;exact absurd h (by decide)
     have hyl:ys.length=r.ps.length:=by have:=hys.length;rw[List.length_map]at this;exact this
     refine .inr ⟨⟨_,s3.seqT htp⟩,?_⟩
     refine i0 (K:=K) (xs:=ys) (fun j zs σ' H'=>H'=H3/\zs=((r.ps.take j).map (j1 F')).map V.bl/\∃v,σ'=[v,some (.ref d)]) (by have:=hps r mr;omega) ⟨rfl,rfl,none,rfl⟩
      (fun j zs σ' H' h=>by rw[h.2.1,List.length_map,List.length_map,List.length_take];omega) (fun j zs σ' H' h=>by rw[h.1];exact s3.seqT htp) ?_ ?_
     ·rintro j y zs σ' H' hy ⟨rfl,rfl,v,rfl⟩
      obtain⟨dd,hdd,hyd⟩:=hys.get hy
      rw[List.getElem?_map]at hdd
      cases es:r.ps[j]? with
      | none=>rw[es]at hdd;cases hdd
      | some sy =>
       rw[es]at hdd
       have ed:dd=bV sy:=(Option.some.inj hdd).symm
       subst ed
       have et:r.ps.take (j+1)=r.ps.take j++[sy]:=by rw[List.take_add_one,es];rfl
       have fin:∀bb,bb=j1 F' sy->((r.ps.take j).map (j1 F')).map V.bl++[V.bl bb]=((r.ps.take (j+1)).map (j1 F')).map V.bl:=fun bb e=>by rw[et,List.map_append,List.map_append,e];rfl
       rcases gh hyd with⟨e1,rfl⟩ | ⟨k,b,e1,rfl,hb⟩
       ·refine⟨"str",true,.str _,rfl,?_⟩
        exact⟨rfl,fin true (by unfold j1;rw[e1]),_,rfl⟩
       ·refine⟨"tuple",false,.tuple (s3.seqT hb),rfl,?_⟩
        refine .inl ⟨ps,(S sy.1,k),hP,s3.seqT hb,?_⟩
        refine⟨rfl,fin _ ?_,_,rfl⟩
        have:=ein (sy.1,k)
        unfold j1
        rw[e1,Bool.false_xor]
        exact this
     ·rintro zs σ' H' ⟨rfl,rfl,v,rfl⟩ D hD2
      rw[hyl,List.take_length]
      have s4:Same H' (al H' D (.lst ((r.ps.map (j1 F')).map V.bl))):=ah hD2
      have h4:SqL K (al H' D (.lst ((r.ps.map (j1 F')).map V.bl))) D (qj (r.ps.map (j1 F'))):=SqL.of ae
      generalize al H' D (.lst ((r.ps.map (j1 F')).map V.bl))=H4 at s4 h4 ⊢
      refine⟨_,h4,?_⟩
      have eall:(r.ps.map (j1 F')).all id=r.ps.all (j1 F'):=by rw[List.all_map];rfl
      rw[eall]
      show if r.ps.all (j1 F')=true then _ else _
      refine bc (fun ha=>?_) (fun ha=>?_)
      ·have hP4:=hP.same s4
       have hts4:=(s3.trans s4).seqT hts
       have hnp:cj r.sym∉ps.map (·.1):=by rw[eps];exact fun z=>hnot (mem_thP.mp z)
       have hpl:ps.length=F'.length:=by have:=congrArg List.length eps;simpa using this
       refine⟨ps,cj r.sym,hP4,hts4,hnp,?_⟩
       have hcl:=qV mr hnot
       refine⟨F'++[r.sym],true,_,_,_,fun x u e=>?_,⟨_,PAt.put hP4 hts4 hnp (by omega),?_⟩,?_,fun u hu=>?_,?_,(fun _=>by omega),(fun z=>nomatch z),by omega,rfl⟩
       ·rw[am fun z=>by rw[z,hd0]at e;cases e];exact (s3.trans s4) x u e
       ·rw[List.map_append,eps,List.map_append];rfl
       ·rw[List.nodup_append]
        refine⟨nd3,by simp,fun x hx y hy=>?_⟩
        rw[List.mem_singleton.mp hy]
        exact fun e=>hnot (e▸hx)
       ·rcases List.mem_append.mp hu with z | z
        ·exact fd3 u z
        ·rw[List.mem_singleton.mp z]
         exact .mk r mr fun sy hsy k hk=>fd3 _ (inF_iff.mp (List.all_eq_true.mp ha sy hsy) k hk)
       ·rw[List.length_append,List.length_singleton];omega
      ·exact stay (fun z=>absurd z ha) H4 s4
    ·have hin:r.sym∈F':=by
      by_cases z:r.sym∈F'
      ·exact z
      ·rw[decide_eq_false z]at h;exact absurd rfl h
     exact stay (fun _=>hin) H3 (Same.refl _)
   ·rintro σ H3 ⟨F',g',v3,v4,v5,s3,f3,nd3,fd3,fc3,g1,g2,g3,rfl⟩
    have em:=m1 hg
    cases hg':g' with
    | true =>
     have:=g1 hg'
     exact⟨dq rows F'+1,by omega,F',true,_,_,_,s3,f3,nd3,by omega,fd3,(fun _=>rfl),(fun z=>nomatch z),fc3,rfl⟩
    | false =>
     obtain⟨e,g9⟩:=g2 hg'
     subst e
     refine⟨0,by omega,F',false,_,_,_,s3,f3,nd3,by omega,fd3,(fun z=>nomatch z),(fun _=>⟨rfl,fun r hr ha=>?_⟩),fc3,rfl⟩
     obtain⟨j,hj,e⟩:=List.mem_iff_getElem.mp hr
     exact g9 j r (by omega) (by rw[List.getElem?_eq_getElem hj,e]) ha
  ·have hg:g=false:=Bool.eq_false_iff.mpr hg
   obtain⟨_,cl⟩:=m2 hg
   refine .inl ⟨⟨_,s2.seq hS⟩,?_⟩
   refine aV (xs:=xs) (fun i σ H'=>∃(v3 v4 v5:Option V),Same H H'/\FrAt P w K H' d F/\(∀(j:Nat) (r:PR),j<i->rows[j]?=some r->r.sym∈F)/\σ=[some (.ref a),some (.ref d),some (.bl g),v3,v4,v5])
    ⟨v3,v4,v5,s2,f2,(fun j r hj=>absurd hj (Nat.not_lt_zero _)),rfl⟩ (fun i σ H' _ h=>by obtain⟨_,_,_,s3,_⟩:=h;exact s3.seq hS) ?_ ?_
   ·rintro i x σ H3 hx ⟨v3,v4,v5,s3,f3,hin,rfl⟩
    obtain⟨r,t,ts,tp,ys,hri,rfl,hT,hts,htp,hys⟩:=row i x hx
    have mr:r∈rows:=List.mem_of_getElem? hri
    refine⟨t,_,rfl,s3.seqT hT,rfl,_,_,rfl,_,_,rfl,_,_,rfl,rfl,?_⟩
    obtain⟨ps,hP,eps⟩:=id f3
    refine .inl ⟨ps,cj r.sym,hP,s3.seqT hts,?_⟩
    have ein:decide (cj r.sym∈ps.map (·.1))=decide (r.sym∈F):=by
     rw[eps,Bool.eq_iff_iff,decide_eq_true_eq,decide_eq_true_eq]
     exact mem_thP
    show if (true^^decide (cj r.sym∈ps.map (·.1)))=true then _ else _
    rw[ein]
    refine bc (fun h=>?_) (fun h=>?_)
    ·have hnot:r.sym∉F:=fun z=>by rw[decide_eq_true z]at h;exact absurd h (by decide)
     have ok:=hok r mr
     refine⟨⟨trivial,⟨rfl,ts,pD (cj r.sym),rfl,.tuple (s3.seqT hts) (.cons (.str _) (.cons (.int _) .nil)),by unfold pD;simp[PyData.showable,PyData.showableAll];exact (dX ok.r0 ok.r9).1,by unfold pD;simp[PyData.hasDict,PyData.hasDictAll],by unfold pD;simp only[PyData.depth,PyData.depthAll];omega,tz ok.l1 ok.z1 ok.r0 ok.r9⟩,trivial⟩,fun y _=>⟨(show 1≤sizeLine by decide),qE ⟨r,mr,fun z=>hnot (yP cl z)⟩ _ s3⟩⟩
    ·have hin2:r.sym∈F:=by
      by_cases z:r.sym∈F
      ·exact z
      ·rw[decide_eq_false z]at h;exact absurd rfl h
     refine⟨_,_,_,s3,f3,fun j r' hj hr'=>?_,rfl⟩
     by_cases hji:j=i
     ·rw[hji,hri]at hr'
      have er:=Option.some.inj hr'
      subst er
      exact hin2
     ·exact hin j r' (by omega) hr'
   ·rintro σ H3 ⟨v3,v4,v5,s3,f3,hin,rfl⟩
    refine qI (fun r hr=>?_) H3 s3
    obtain⟨j,hj,e⟩:=List.mem_iff_getElem.mp hr
    exact fd _ (hin j r (by omega) (by rw[List.getElem?_eq_getElem hj,e]))
end
end K31
--@RAISES but law
namespace K31
open PySem PySem.Spec PyProof.Rows L2 Rg
section
variable {P:Program}{w:World}{K:PySem.W.Frag}{mg:Str->Option Value}{base:Heap}{C tS tN tT:Addr}
inductive kz (rs:List Rl):List Nat->Prop
 | first {q:Rl}:rs[0]?=some q->kz rs q.sort
 | step {q:Rl} {p:List Nat}:q∈rs->kz rs q.sort->p∈q.ps->kz rs p
def cO (rs:List Rl)(s:List Nat):List (List Nat):=(rs.filter fun q=>q.sort == s).flatMap Rl.ps
def left (rs:List Rl)(F:List (List Nat)):Nat:=((rs.filter fun q=>decide (q.sort∉F)).map fun q=>q.ps.length).sum
theorem lF {F:List (List Nat)}{s:List Nat}(h:s∉F):∀rs:List Rl,left rs (F++[s])+(cO rs s).length=left rs F
 | []=>rfl
 | q::r=>by
  have ih:=lF h r
  unfold left cO at ih ⊢
  rw[List.filter_cons,List.filter_cons,List.filter_cons]
  by_cases e:q.sort=s
  ·rw[if_neg (show ¬ decide (q.sort∉F++[s])=true by simp[e]),if_pos (show (q.sort == s)=true by simp[e]),if_pos (show decide (q.sort∉F)=true by rw[e];exact decide_eq_true h)]
   simp
   simp at ih
   omega
  ·rw[if_neg (show ¬ (q.sort == s)=true by simp[e])]
   by_cases e2:q.sort∈F
   ·rw[if_neg (show ¬ decide (q.sort∉F++[s])=true by simp[e2]),if_neg (show ¬ decide (q.sort∉F)=true by simp[e2])]
    exact ih
   ·rw[if_pos (show decide (q.sort∉F++[s])=true by simp[e2,e]),if_pos (show decide (q.sort∉F)=true by simp[e2])]
    simp
    simp at ih
    omega
theorem jy (rs:List Rl)(g:Rl)(s:List Nat):cO (rs++[g]) s=cO rs s++(if g.sort=s then g.ps else []):=by
 unfold cO
 rw[List.filter_append,List.flatMap_append]
 congr 1
 by_cases e:g.sort=s
 ·rw[if_pos e,List.filter_cons_of_pos (by simp[e])];simp
 ·rw[if_neg e,List.filter_cons_of_neg (by simp[e])];rfl
theorem mem_psOf {rs:List Rl}{s p:List Nat}:p∈cO rs s↔∃q∈rs,q.sort=s/\p∈q.ps:=by
 unfold cO
 rw[List.mem_flatMap]
 constructor
 ·rintro⟨q,hq,hp⟩
  obtain⟨h1,h2⟩:=List.mem_filter.mp hq
  exact⟨q,h1,by simpa using h2,hp⟩
 ·rintro⟨q,h1,h2,h3⟩
  exact⟨q,List.mem_filter.mpr ⟨h1,by simpa using h2⟩,h3⟩
structure RcI (rs:List Rl)(m:Nat)(F W:List (List Nat)):Prop where
 em:m=W.length+left rs F
 all:∀x∈F++W,kz rs x
 fst:∀q,rs[0]?=some q->q.sort∈F\/q.sort∈W
 cl:∀q∈rs,q.sort∈F->∀p∈q.ps,p∈F\/p∈W
 lw:∀x∈W,cY x
 le:m≤1+left rs []
theorem RcI.old {rs:List Rl}{m:Nat}{F W:List (List Nat)}{s:List Nat}(I:RcI rs m F (W++[s]))(h:s∈F):∃m',m'<m/\RcI rs m' F W:=by
 have em:=I.em
 have le:=I.le
 rw[List.length_append,List.length_singleton]at em
 have mv:∀x,x∈F\/x∈W++[s]->x∈F\/x∈W:=fun x hx=>by
  rcases hx with z | z
  ·exact .inl z
  ·rcases List.mem_append.mp z with z | z
   ·exact .inr z
   ·rw[List.mem_singleton.mp z];exact .inl h
 refine⟨W.length+left rs F,by omega,rfl,fun x hx=>I.all x ?_,fun q hq=>mv _ (I.fst q hq),fun q hq hs p hp=>mv _ (I.cl q hq hs p hp),fun x hx=>I.lw x (List.mem_append.mpr (.inl hx)),by omega⟩
 rcases List.mem_append.mp hx with z | z
 ·exact List.mem_append.mpr (.inl z)
 ·exact List.mem_append.mpr (.inr (List.mem_append.mpr (.inl z)))
theorem RcI.new {rs:List Rl}{m:Nat}{F W:List (List Nat)}{s:List Nat}(I:RcI rs m F (W++[s]))(h:s∉F)(hlw:∀q∈rs,∀p∈q.ps,cY p):∃m',m'<m/\RcI rs m' (F++[s]) (W++cO rs s):=by
 have em:=I.em
 have le:=I.le
 have la:=lF h rs
 rw[List.length_append,List.length_singleton]at em
 have mv:∀x,x∈F\/x∈W++[s]->x∈F++[s]\/x∈W++cO rs s:=fun x hx=>by
  rcases hx with z | z
  ·exact .inl (List.mem_append.mpr (.inl z))
  ·rcases List.mem_append.mp z with z | z
   ·exact .inr (List.mem_append.mpr (.inl z))
   ·exact .inl (List.mem_append.mpr (.inr z))
 have rs1:kz rs s:=I.all s (List.mem_append.mpr (.inr (List.mem_append.mpr (.inr List.mem_cons_self))))
 refine⟨(W++cO rs s).length+left rs (F++[s]),by rw[List.length_append];omega,rfl,fun x hx=>?_,fun q hq=>mv _ (I.fst q hq),fun q hq hs p hp=>?_,fun x hx=>?_,by rw[List.length_append];omega⟩
 ·rcases List.mem_append.mp hx with z | z
  ·rcases List.mem_append.mp z with z | z
   ·exact I.all x (List.mem_append.mpr (.inl z))
   ·rw[List.mem_singleton.mp z];exact rs1
  ·rcases List.mem_append.mp z with z | z
   ·exact I.all x (List.mem_append.mpr (.inr (List.mem_append.mpr (.inl z))))
   ·obtain⟨q,h1,h2,h3⟩:=mem_psOf.mp z
    exact .step h1 (by rw[h2];exact rs1) h3
 ·rcases List.mem_append.mp hs with z | z
  ·exact mv _ (I.cl q hq z p hp)
  ·exact .inr (List.mem_append.mpr (.inr (mem_psOf.mpr ⟨q,hq,List.mem_singleton.mp z,hp⟩)))
 ·rcases List.mem_append.mp hx with z | z
  ·exact I.lw x (List.mem_append.mpr (.inl z))
  ·obtain⟨q,h1,_,h3⟩:=mem_psOf.mp z
   exact hlw q h1 x h3
theorem RcI.done {rs:List Rl}{m:Nat}{F:List (List Nat)}(I:RcI rs m F []){x:List Nat}(h:kz rs x):x∈F:=by
 induction h with
 | first hq =>
  rcases I.fst _ hq with z | z
  ·exact z
  ·cases z
 | step hq _ hp ih =>
  rcases I.cl _ hq ih _ hp with z | z
  ·exact z
  ·cases z
structure TxI (K:PySem.W.Frag)(mg:Str->Option Value)(C:Addr):Prop where
 c_Idle:mg "Idle"=some (.ref C)
 x_Idle:PySem.W.excIn K C eO "ValueError.__new__"=true
def Be (K:PySem.W.Frag)(C:Addr):Sp:=fun vs H Q E=>∃(a:Addr) (rl:List V) (rs:List Rl),vs=[.ref a]/\SqL K H a rl/\DatVs K H rl (rs.map Rl.dat)/\1≤rs.length/\rs.length≤60/\(∀q∈rs,cY q.sort/\q.sort.length≤100/\q.ps.length≤100/\∀p∈q.ps,cY p) /\
 ((∀q∈rs,kz rs q.sort)->∀H',Same H H'->Q .non H')/\((∃q∈rs,¬ kz rs q.sort)->∀H',Same H H'->E (.ref C) none H')
theorem n4:∀{rs:List Rl},(∀q∈rs,q.ps.length≤100)->left rs []≤100*rs.length
 | [],_=>Nat.le_refl _
 | q::r,h=>by
  have ih:=n4 (rs:=r) fun x hx=>h x (List.mem_cons_of_mem _ hx)
  have h1:=h q List.mem_cons_self
  unfold left at ih ⊢
  rw[List.filter_cons_of_pos (by simp)]
  simp at ih ⊢
  omega
abbrev st_check_reached:Stmt:=top 25
theorem cJ:ax ["rules","reached","waiting","sort","rule"] ["rules"] (ak st_check_reached):=⟨rfl,rfl,rfl,by decide +kernel,rfl,by decide +kernel,by decide +kernel⟩
theorem yu (R:Raw K mg "check_reached" st_check_reached ["rules"])(T:TxI K mg C):DefX P w K mg base 1 "check_reached" ["rules"] (Be K C):=by
 refine R.defX cJ (fun vs H Q E h=>?_) (fun f cdv A outer s H vs Q E hr h=>?_)
 ·obtain⟨a,rl,rs,rfl,_⟩:=h
  rfl
 ·obtain⟨a,rl,rs,rfl,hS,hD,hl1,hl,hlw,qI,qE⟩:=h
  have sc:=cJ
  have hu:=hr.units
  have hbg:(1000000:Nat)<sizeLine:=by rw[sizeLine_eq];decide
  have hrl:rl.length=rs.length:=by have:=hD.length;rw[List.length_map]at this;exact this
  have rul:∀(n:Nat) (x:V),rl[n]?=some x->∃(q:Rl) (t tp:Addr),rs[n]?=some q/\x=.ref t/\SqT K H t [.str (S q.sort),.int q.rank,.str q.side,.ref tp]/\SqT K H tp (q.ps.map fun l=>V.str (S l)):=fun n x hx=>by
   obtain⟨dd,hdd,hxd⟩:=hD.get hx
   rw[List.getElem?_map]at hdd
   cases ee:rs[n]? with
   | none=>rw[ee]at hdd;cases hdd
   | some g =>
    rw[ee]at hdd
    have ed:dd=g.dat:=(Option.some.inj hdd).symm
    subst ed
    obtain⟨t,tp,e,hT,hTp⟩:=cZ hxd
    exact⟨g,t,tp,rfl,e,hT,hTp⟩
  have hn0:rl[0]?=some (rl[0]'(by omega)):=List.getElem?_eq_getElem (by omega)
  obtain⟨q0,t0,tp0,hq0,ex0,hT0,_⟩:=rul 0 _ hn0
  rw[ex0]at hn0
  have lq0:=hlw q0 (List.mem_of_getElem? hq0)
  have hll:=n4 fun q hq=>(hlw q hq).2.2.1
  refine⟨_,(ac (ao (i:=1) sc.nd rfl (Or.inl rfl) jW)
  (ac (ao (i:=2) sc.nd rfl (Or.inl rfl) (bU (aa (aO (aU hu (K:=K) (w:=w)) (aO (aU hu (K:=K) (w:=w)) (jn 0) ap) ap) af)))
  (ac (cW bf (dA (K:=K) (jn 2))
  (ac (ao (i:=3) sc.nd rfl (Or.inl rfl) (zN (K:=K) PySem.F.plainAttrs_list PySem.F.slot_list_pop PySem.F.type_list_pop Bd (jn 2)))
  (ag (aZ (aA (cS hu (K:=K) (P:=P) (w:=w)) (jn 3) (jn 1))
  (ac (gY hu (jn 1) (jn 3) eV)
  (ag (aP bf rfl (aW (K:=K) (jn 0)) (ai (i:=4) sc.nd rfl (Or.inl rfl))
  (ag (aZ (aA (bX hu (K:=K)) (aO (aU hu (K:=K) (w:=w)) (jn 4) ap) (jn 3))
  (ag (be (fU (K:=K) PySem.F.plainAttrs_list PySem.F.slot_list_extend PySem.F.type_list_extend (cM (K:=K)) (jn 2) (aa (aO (aU hu (K:=K) (w:=w)) (jn 4) ap) af))))
  aE)))))
  aE))))
  (ag (aP bf rfl (aW (K:=K) (jn 0)) (ai (i:=4) sc.nd rfl (Or.inl rfl))
  (ag (aZ (aA (cS hu (K:=K) (P:=P) (w:=w)) (aO (aU hu (K:=K) (w:=w)) (jn 4) ap) (jn 1))
  (ac (ao (i:=3) sc.nd rfl (Or.inl rfl) (aO (aU hu (K:=K) (w:=w)) (jn 4) ap))
  (ag (bL rfl T.c_Idle T.x_Idle (aa (j8 (aC bP (aC (gQ (jn 3)) bY))) af))))
  aE))))))),?_⟩
  intro d hd0
  have s1:Same H (al H d (.dK [])):=ah hd0
  have h1:al H d (.dK []) d=some (.dK (eR [])):=ae
  generalize al H d (.dK [])=H1 at s1 h1 ⊢
  refine .inl ⟨_,.ref t0,s1.seq hS,aq hn0,.inr ⟨_,.str (S q0.sort),s1.seqT hT0,aq (j:=0) rfl,⟨(show 1≤sizeLine by decide),fun wa hw0=>?_⟩⟩⟩
  have s2:Same H1 (al H1 wa (.lst [V.str (S q0.sort)])):=ah hw0
  have h2:al H1 wa (.lst [V.str (S q0.sort)]) wa=some (.lst ([q0.sort].map fun l=>V.str (S l))):=ae
  generalize al H1 wa (.lst [V.str (S q0.sort)])=H2 at s2 h2 ⊢
  have hw00:H wa=none:=s1.free hw0
  have hdw:d≠wa:=fun z=>by rw[z,hw0]at h1;cases h1
  refine⟨fun m σ H'=>∃(F W:List (List Nat)) (v3 v4:Option V),Same H H'/\H' d=some (.dK (eR F))/\H' wa=some (.lst (W.map fun l=>V.str (S l)))/\RcI rs m F W/\F.length≤100000-m/\σ=[some (.ref a),some (.ref d),some (.ref wa),v3,v4],⟨1+left rs [],[],[q0.sort],none,none,s1.trans s2,s2 _ _ h1,h2,⟨rfl,fun x hx=>by rw[List.mem_singleton.mp hx];exact .first hq0,fun q hq=>by rw[hq0]at hq;cases hq;exact .inr List.mem_cons_self,(fun q hq hs=>nomatch hs),fun x hx=>by rw[List.mem_singleton.mp hx];exact lq0.1,Nat.le_refl _⟩,Nat.zero_le _,rfl⟩,?_⟩
  rintro m σ H3 ⟨F,W,v3,v4,s3,hd3,hw3,I,fl,rfl⟩
  have ile:=I.le
  have iem:=I.em
  refine⟨!(W.map fun l=>V.str (S l)).isEmpty,.inl ⟨_,SqL.of hw3,rfl⟩,?_⟩
  show if (!(W.map fun l=>V.str (S l)).isEmpty)=true then _ else _
  refine bc (fun hne=>?_) (fun hne=>?_)
  ·refine⟨_,fun σ' H' h=>h,?_⟩
   have hne:W≠[]:=fun z=>by rw[z]at hne;exact absurd hne (by decide)
   obtain⟨W0,x,rfl⟩:∃W0 x,W=W0++[x]:=⟨W.dropLast,W.getLast hne,(List.dropLast_concat_getLast hne).symm⟩
   have hlx:cY x:=I.lw x (List.mem_append.mpr (.inr List.mem_cons_self))
   rw[List.length_append,List.length_singleton]at iem
   have eW:((W0++[x]).map fun l=>V.str (S l))=(W0.map fun l=>V.str (S l))++[V.str (S x)]:=by rw[List.map_append];rfl
   rw[eW]at hw3
   refine⟨.inl ⟨rfl,_,SqL.of hw3⟩,_,V.str (S x),hw3,by rw[List.length_append,List.length_singleton,Nat.add_sub_cancel,List.getElem?_append_right (Nat.le_refl _),Nat.sub_self];rfl,?_⟩
   rw[List.dropLast_concat]
   have s4:Same H (al H3 wa (.lst (W0.map fun l=>V.str (S l)))):=fun b u e=>by
    rw[am fun z=>by rw[z,hw00]at e;cases e];exact s3 b u e
   have hw4:al H3 wa (.lst (W0.map fun l=>V.str (S l))) wa=some (.lst (W0.map fun l=>V.str (S l))):=ae
   have hd4:al H3 wa (.lst (W0.map fun l=>V.str (S l))) d=some (.dK (eR F)):=by rw[am hdw];exact hd3
   generalize al H3 wa (.lst (W0.map fun l=>V.str (S l)))=H4 at s4 hw4 hd4 ⊢
   refine .inr (.inr ⟨_,DGet.k (k:=.inr (S x)) hd4,?_⟩)
   show if (true^^(d7 (eR F) (.inr (S x))).isSome)=true then _ else _
   rw[nP]
   refine bc (fun h=>?_) (fun h=>?_)
   ·have hnot:x∉F:=fun z=>by rw[decide_eq_true z]at h;exact absurd h (by decide)
    obtain⟨m',hm,I'⟩:=I.new hnot fun q hq=>(hlw q hq).2.2.2
    have ile':=I'.le
    refine⟨_,DPut.k (k:=.inr (S x)) hd4 (by unfold eR;rw[List.length_map];omega),?_⟩
    rw[gR,show bt F x=F++[x] from if_neg hnot]
    have s5:Same H (al H4 d (.dK (eR (F++[x])))):=fun b u e=>by
     rw[am fun z=>by rw[z,hd0]at e;cases e];exact s4 b u e
    have hd5:al H4 d (.dK (eR (F++[x]))) d=some (.dK (eR (F++[x]))):=ae
    have hw5:al H4 d (.dK (eR (F++[x]))) wa=some (.lst (W0.map fun l=>V.str (S l))):=by rw[am (Ne.symm hdw)];exact hw4
    generalize al H4 d (.dK (eR (F++[x])))=H5 at s5 hd5 hw5 ⊢
    refine .inl ⟨⟨_,s5.seq hS⟩,?_⟩
    refine aV (xs:=rl) (fun i σ H'=>∃(v4:Option V),Same H H'/\H' d=some (.dK (eR (F++[x])))/\H' wa=some (.lst ((W0++cO (rs.take i) x).map fun l=>V.str (S l)))/\σ=[some (.ref a),some (.ref d),some (.ref wa),some (.str (S x)),v4])
     ⟨v4,s5,hd5,by rw[show cO (rs.take 0) x=[] from rfl,List.append_nil];exact hw5,rfl⟩ (fun i σ H' _ h=>by obtain⟨_,s6,_⟩:=h;exact s6.seq hS) ?_ ?_
    ·rintro i y σ H6 hy ⟨v4,s6,hd6,hw6,rfl⟩
     obtain⟨g,t,tp,hgi,rfl,hT,hTp⟩:=rul i y hy
     have et:rs.take (i+1)=rs.take i++[g]:=by rw[List.take_add_one,hgi];rfl
     have mg1:g∈rs:=List.mem_of_getElem? hgi
     have hpl:(cO (rs.take i) x).length≤(cO rs x).length:=by
      have e:rs=rs.take i++rs.drop i:=(List.take_append_drop _ _).symm
      have:cO rs x=cO (rs.take i) x++cO (rs.drop i) x:=by
       conv=>lhs;rw[e]
       unfold cO
       rw[List.filter_append,List.flatMap_append]
      rw[this,List.length_append]
      omega
     have hI':=I'.em
     rw[List.length_append]at hI'
     refine .inr ⟨_,.str (S g.sort),s6.seqT hT,aq (j:=0) rfl,?_⟩
     show if (false^^decide ((S g.sort:Str)=S x))=true then _ else _
     rw[Bool.false_xor,hW]
     refine bc (fun h=>?_) (fun h=>?_)
     ·refine⟨.inl ⟨rfl,_,SqL.of hw6⟩,.inr ⟨_,.ref tp,s6.seqT hT,aq (j:=3) rfl,?_⟩⟩
      have hg8:=(hlw g mg1).2.2.1
      refine⟨_,_,hw6,.inr (s6.seqT hTp),by rw[List.length_map,List.length_map,List.length_append];omega,?_⟩
      refine⟨_,fun b u e=>?_,?_,?_,rfl⟩
      ·rw[am fun z=>by rw[z,hw00]at e;cases e];exact s6 b u e
      ·rw[am hdw];exact hd6
      ·rw[ae,et,jy,if_pos (beq_iff_eq.mp h),<-List.append_assoc,List.map_append (l₁:=W0++cO (rs.take i) x)]
     ·refine⟨_,s6,hd6,?_,rfl⟩
      rw[et,jy,if_neg (fun z=>h (beq_iff_eq.mpr z)),List.append_nil]
      exact hw6
    ·rintro σ H6 ⟨v4,s6,hd6,hw6,rfl⟩
     rw[hrl,List.take_length]at hw6
     exact⟨m',hm,F++[x],W0++cO rs x,_,_,s6,hd6,hw6,I',by rw[List.length_append,List.length_singleton];omega,rfl⟩
   ·have hin:x∈F:=by
     by_cases z:x∈F
     ·exact z
     ·rw[decide_eq_false z]at h;exact absurd rfl h
    obtain⟨m',hm,I'⟩:=I.old hin
    exact⟨m',hm,F,W0,_,_,s4,hd4,hw4,I',by omega,rfl⟩
  ·have eW:W=[]:=by
    cases W with
    | nil=>rfl
    | cons _ _=>exact absurd rfl hne
   subst eW
   refine .inl ⟨⟨_,s3.seq hS⟩,?_⟩
   refine aV (xs:=rl) (fun i σ H'=>∃(v3 v4:Option V),H'=H3/\(∀(j:Nat) (q:Rl),j<i->rs[j]?=some q->q.sort∈F)/\σ=[some (.ref a),some (.ref d),some (.ref wa),v3,v4])
    ⟨v3,v4,rfl,(fun j r hj=>absurd hj (Nat.not_lt_zero _)),rfl⟩ (fun i σ H' _ h=>by obtain⟨_,_,rfl,_⟩:=h;exact s3.seq hS) ?_ ?_
   ·rintro i y σ H6 hy ⟨v3,v4,rfl,hin,rfl⟩
    obtain⟨g,t,tp,hgi,rfl,hT,hTp⟩:=rul i y hy
    have mg1:g∈rs:=List.mem_of_getElem? hgi
    refine .inr ⟨_,.str (S g.sort),s3.seqT hT,aq (j:=0) rfl,.inr (.inr ⟨_,DGet.k (k:=.inr (S g.sort)) hd3,?_⟩)⟩
    show if (true^^(d7 (eR F) (.inr (S g.sort))).isSome)=true then _ else _
    rw[nP]
    refine bc (fun h=>?_) (fun h=>?_)
    ·have hnot:g.sort∉F:=fun z=>by rw[decide_eq_true z]at h;exact absurd h (by decide)
     have lg:=hlw g mg1
     refine .inr ⟨_,.str (S g.sort),s3.seqT hT,aq (j:=0) rfl,?_⟩
     refine⟨⟨trivial,⟨rfl,_,rfl,by rw[jr];omega,vc lg.1⟩,trivial⟩,fun y _=>⟨(show 1≤sizeLine by decide),qE ⟨g,mg1,fun z=>hnot (I.done z)⟩ _ s3⟩⟩
    ·have hin2:g.sort∈F:=by
      by_cases z:g.sort∈F
      ·exact z
      ·rw[decide_eq_false z]at h;exact absurd rfl h
     refine⟨_,_,rfl,fun j r' hj hr'=>?_,rfl⟩
     by_cases hji:j=i
     ·rw[hji,hgi]at hr'
      have er:=Option.some.inj hr'
      subst er
      exact hin2
     ·exact hin j r' (by omega) hr'
   ·rintro σ H6 ⟨v3,v4,rfl,hin,rfl⟩
    refine qI (fun q hq=>?_) H6 s3
    obtain⟨j,hj,e⟩:=List.mem_iff_getElem.mp hq
    exact I.all _ (List.mem_append.mpr (.inl (hin j q (by omega) (by rw[List.getElem?_eq_getElem hj,e]))))
end
end K31
--@RAISES but law
namespace K31
open PySem PySem.Spec PyProof.Rows L2 Rg
section
variable {P:Program}{w:World}{K:PySem.W.Frag}{mg:Str->Option Value}{base:Heap}{C tS tN tT CF CB CI:Addr}
def sI (rs:List Rl):PR:=⟨([],0),[((rs.getD 0 ⟨[],0,"",[]⟩).sort,some ((br (aj rs (rs.getD 0 ⟨[],0,"",[]⟩).sort)).getD 0 0))],-1⟩
def aG (rs:List Rl):List PR:=sI rs::(aH rs).flatMap (e7 rs)
theorem jj:∀(rs:List Rl) (acc:List (List Nat)) (s:List Nat),s∈rs.foldl (fun acc q=>bt acc q.sort) acc↔s∈acc\/∃q∈rs,q.sort=s
 | [],acc,s=>by simp
 | q::r,acc,s=>by
  rw[List.foldl_cons,jj r]
  have h:s∈bt acc q.sort↔s∈acc\/q.sort=s:=by
   unfold bt
   split
   ·rename_i h
    exact⟨.inl,fun z=>z.elim id fun e=>e▸h⟩
   ·rw[List.mem_append,List.mem_singleton]
    exact⟨fun z=>z.elim .inl fun e=>.inr e.symm,fun z=>z.elim .inl fun e=>.inr e.symm⟩
  rw[h]
  constructor
  ·rintro ((z | z) | ⟨x,hx,e⟩)
   ·exact .inl z
   ·exact .inr ⟨q,List.mem_cons_self,z⟩
   ·exact .inr ⟨x,List.mem_cons_of_mem _ hx,e⟩
  ·rintro (z | ⟨x,hx,e⟩)
   ·exact .inl (.inl z)
   ·rcases List.mem_cons.mp hx with z | z
    ·rw[z]at e;exact .inl (.inr e)
    ·exact .inr ⟨x,z,e⟩
theorem mem_sortsF {rs:List Rl}{s:List Nat}:s∈aH rs↔∃q∈rs,q.sort=s:=by
 unfold aH
 rw[jj]
 simp
theorem jX {H:Hp}:∀{xs ys:List V} {ds es:List PyData},DatVs K H xs ds->DatVs K H ys es->DatVs K H (xs++ys) (ds++es)
 | _,_,_,_,.nil,h=>h
 | _,_,_,_,.cons a b,h=>.cons a (jX b h)
theorem mem_srtI {l:List Int}{x:Int}:x∈br l↔x∈l:=by
 unfold br
 rw[(List.mergeSort_perm _ _).mem_iff]
 exact jK l x
theorem rH (l:List Int):(br l).length≤l.length:=by
 unfold br
 rw[(List.mergeSort_perm _ _).length_eq]
 exact fN l
theorem pq (rs:List Rl)(s:List Nat):(aj rs s).length≤rs.length:=by unfold aj;rw[List.length_map];exact List.length_filter_le _ _
theorem cv {rs:List Rl}{s:List Nat}{r:Int}(h:r∈aj rs s):∃q∈rs,q.sort=s/\q.rank=r:=by
 obtain⟨q,hq,e⟩:=List.mem_map.mp h
 obtain⟨h1,h2⟩:=List.mem_filter.mp hq
 exact⟨q,h1,by simpa using h2,e⟩
theorem cn {rs:List Rl}{s:List Nat}{r:PR}(h:r∈e7 rs s):(∃(n:Nat) (q:Rl),rs[n]?=some q/\q.sort=s/\r=⟨(q.sort,q.rank),bx rs q,(n:Nat)⟩)\/∃r1 r2,r1∈aj rs s/\r2∈aj rs s/\r=⟨(s,r1),[(s,some r2)],-1⟩:=by
 unfold e7 dv at h
 obtain⟨k,hk,h⟩:=List.mem_flatMap.mp h
 have hk:=List.mem_range.mp hk
 have hk2:(br (aj rs s)).getD k 0∈aj rs s:=by rw[List.getD,List.getElem?_eq_getElem hk];exact mem_srtI.mp (List.getElem_mem _)
 rcases List.mem_append.mp h with h | h
 ·unfold ce at h
  obtain⟨n,_,h⟩:=List.mem_flatMap.mp h
  unfold lT at h
  split at h
  ·rename_i q hq
   split at h
   ·rename_i e
    rw[List.mem_singleton.mp h]
    exact .inl ⟨n,q,hq,e.1,by rw[e.1,e.2]⟩
   ·cases h
  ·cases h
 ·unfold wA at h
  split at h
  ·rename_i r2 hr2
   rw[List.mem_singleton.mp h]
   exact .inr ⟨_,r2,hk2,mem_srtI.mp (List.mem_of_getElem? hr2),rfl⟩
  ·cases h
theorem qk {rs:List Rl}(hR:fj rs=true)(hF:∀q∈rs,lD q):∀r∈aG rs,A0 r/\r.ps.length≤100:=fun r hr=>by
 obtain⟨r1,r24,rok⟩:=(bE rs).mp hR
 rcases List.mem_cons.mp hr with e | hr
 ·rw[e]
  exact⟨⟨(fun c hc=>nomatch hc),Nat.zero_le _,Int.le_refl _,(show (0:Int)≤99 by decide)⟩,(show 1≤100 by decide)⟩
 ·obtain⟨s,hs,h⟩:=List.mem_flatMap.mp hr
  rcases cn h with⟨n,q,hq,_,e⟩ | ⟨a,b,ha,_,e⟩
  ·have mq:=List.mem_of_getElem? hq
   have o:=(bw q).mp (rok q mq)
   have f:=hF q mq
   rw[e]
   exact⟨⟨f.ls,f.zs,o.1,o.2.1⟩,by show (bx rs q).length≤100;rw[bZ];exact f.zp⟩
  ·obtain⟨q,mq,e1,e2⟩:=cv ha
   have o:=(bw q).mp (rok q mq)
   have f:=hF q mq
   rw[e]
   exact⟨⟨by show cY s;rw[<-e1];exact f.ls,by show s.length≤100;rw[<-e1];exact f.zs,by show 0≤a;rw[<-e2];exact o.1,by show a≤99;rw[<-e2];exact o.2.1⟩,(show 1≤100 by decide)⟩
theorem lr {rs:List Rl}(h:rs.length≤24)(s:List Nat):(e7 rs s).length≤600:=by
 unfold e7
 have h1:=iG rs s (br (aj rs s)) (br (aj rs s)).length
 have h2:=rH (aj rs s)
 have h3:=pq rs s
 exact Nat.le_trans h1 (Nat.le_trans (Nat.mul_le_mul (show (br (aj rs s)).length≤24 by omega) (show rs.length+1≤25 by omega)) (by decide))
theorem fq {rs:List Rl}(h:rs.length≤24):∀l:List (List Nat),(l.flatMap (e7 rs)).length≤600*l.length
 | []=>by simp
 | s::r=>by
  have:=fq h r
  have:=lr h s
  rw[List.flatMap_cons,List.length_append,List.length_cons]
  omega
def xr (K:PySem.W.Frag)(CF CB CI:Addr):Sp:=fun vs H Q E=>∃(a:Addr) (rl:List V) (rs:List Rl),vs=[.ref a]/\SqL K H a rl/\DatVs K H rl (rs.map Rl.dat)/\fj rs=true/\(∀q∈rs,lD q) /\
 ((∃q∈rs,iK rs q=true)->∀H',Same H H'->E (.ref CF) none H') /\
 ((∀q∈rs,iK rs q=false)->(∃r∈aG rs,¬ Der (aG rs) r.sym)->∀H',Same H H'->E (.ref CB) none H') /\
 ((∀q∈rs,iK rs q=false)->(∀r∈aG rs,Der (aG rs) r.sym)->(∃q∈rs,¬ kz rs q.sort)->∀H',Same H H'->E (.ref CI) none H') /\
 ((∀q∈rs,iK rs q=false)->(∀r∈aG rs,Der (aG rs) r.sym)->(∀q∈rs,kz rs q.sort)->∀(H':Hp) (p:Addr) (xs:List V),Same H H'->H' p=some (.lst xs)->DatVs K H' xs ((aG rs).map PR.dat)->Q (.ref p) H')
abbrev st_plain_rules:Stmt:=top 20
theorem dD:ax ["rules","parts","first","plain","sort"] ["rules"] (ak st_plain_rules):=⟨rfl,rfl,rfl,by decide +kernel,rfl,by decide +kernel,by decide +kernel⟩
theorem yB (R:Raw K mg "plain_rules" st_plain_rules ["rules"])(T:Txt K w mg tT)(D_check_rules:DefX P w K mg base 2 "check_rules" ["rules"] (wb K C))(D_symbols_of:DefX P w K mg base 3 "symbols_of" ["rules","number"] (wM K CF))(D_ranks_of:Def P w K mg base 1 "ranks_of" ["rules","sort"] (fL K))
  (D_sorts_of:Def P w K mg base 1 "sorts_of" ["rules"] (n6 K)) (D_plain_of_sort:Def P w K mg base 2 "plain_of_sort" ["rules","parts","sort"] (wC K)) (D_check_fruitful:DefX P w K mg base 1 "check_fruitful" ["plain"] (AV K CB)) (D_check_reached:DefX P w K mg base 1 "check_reached" ["rules"] (Be K CI)) :
  DefX P w K mg base 4 "plain_rules" ["rules"] (xr K CF CB CI):=by
 refine R.defX dD (fun vs H Q E h=>?_) (fun f cdv A outer s H vs Q E hr h=>?_)
 ·obtain⟨a,rl,rs,rfl,_⟩:=h
  rfl
 ·obtain⟨a,rl,rs,rfl,hS,hD,hR,hF,qF,qB,qI,qQ⟩:=h
  have sc:=dD
  have hu:=hr.units
  have hbg:(1000000:Nat)<sizeLine:=by rw[sizeLine_eq];decide
  obtain⟨r1,r24,rok⟩:=(bE rs).mp hR
  have hrl:rl.length=rs.length:=by have:=hD.length;rw[List.length_map]at this;exact this
  refine⟨_,(ac (be (dI D_check_rules (hr.mono (by decide)) rfl (aa (jn 0) af) iP))
  (ac (rO (i:=1) exits_fn rfl rfl (N:=["number","rules"]) (cap:=[none,some 0]) rfl (CompScope.of rfl (by rfl)) (de rfl T.n_range (aa (aM (eI (K:=K)) rfl T.n_len PySem.boot_len (aa (jn 0) af)) af)) (fun _ _ _ _=>(ai (i:=0) (show List.Nodup [("number":Str),("rules":Str)] by decide +kernel) rfl (Or.inl rfl))) (fun _ _ _ _=>fw) (fun _ _ _ _=>(dI D_symbols_of (hr.mono (by decide)) rfl (aa (jn 1) (aa (jn 0) af)) lZ)) sc.nd rfl rfl)
  (ac (ao (i:=2) sc.nd rfl (Or.inl rfl) (aO (aU hu (K:=K) (w:=w)) (aO (aU hu (K:=K) (w:=w)) (jn 0) ap) ap))
  (ac (ao (i:=3) sc.nd rfl (Or.inl rfl) (bU (aa (cb (aa (eY (v:=.ref _) rfl T.g_TOP rfl) (aa (cb (aa (cb (aa (jn 2) (aa (aO (aU hu (K:=K) (w:=w)) (bg D_ranks_of (hr.mono (by decide)) rfl (aa (jn 0) (aa (jn 2) af))) ap) af))) af)) (aa (dO rfl T.g_NO_RULE) af)))) af)))
  (ac (aP bf rfl (aW (K:=K) (bg D_sorts_of (hr.mono (by decide)) rfl (aa (jn 0) af))) (ai (i:=4) sc.nd rfl (Or.inl rfl))
  (ag (be (fU (K:=K) PySem.F.plainAttrs_list PySem.F.slot_list_extend PySem.F.type_list_extend (cM (K:=K)) (jn 3) (aa (bg D_plain_of_sort (hr.mono (by decide)) rfl (aa (jn 0) (aa (jn 1) (aa (jn 4) af)))) af)))))
  (ac (be (dI D_check_fruitful (hr.mono (by decide)) rfl (aa (jn 3) af) iP))
  (ac (be (dI D_check_reached (hr.mono (by decide)) rfl (aa (jn 0) af) iP))
  (ag (aQ (jn 3)))))))))),?_⟩
  have hrk:∀x∈rs,0≤x.rank/\x.rank≤99:=fun x hx=>⟨((bw x).mp (rok x hx)).1,((bw x).mp (rok x hx)).2.1⟩
  refine⟨a,rl,rs,rfl,hS,hD,by omega,hF,fun _ H1 s1=>?_,fun z=>absurd z (by rw[hR];decide)⟩
  refine⟨_,.inl (s1.seq hS),?_⟩
  refine⟨show -(2 ^ 62)≤((rl.length:Nat):Int) by omega,show ((rl.length:Nat):Int)<2 ^ 62 by omega,?_⟩
  refine ib (n:=((rl.length:Nat):Int).toNat) (fun i ys σ' H'=>Same H H'/\DatVs K H' ys ((rs.take i).map fun q=>.tuple ((bx rs q).map bV))/\(∀q∈rs.take i,iK rs q=false)/\∃v,σ'=[v,some (.ref a)]) (by omega) ⟨s1,.nil,(fun q hq=>nomatch hq),none,rfl⟩
   (fun i ys σ' H' h=>by have:=h.2.1.length;rw[List.length_map,List.length_take]at this;omega) ?_ ?_
  ·rintro i ys σ' H2 hi ⟨s2,hd2,hb2,v,rfl⟩
   have hil:i<rs.length:=by omega
   have hq:rs[i]?=some rs[i]:=List.getElem?_eq_getElem hil
   generalize rs[i]=q at hq
   have mq:=List.mem_of_getElem? hq
   have et:rs.take (i+1)=rs.take i++[q]:=by rw[List.take_add_one,hq];rfl
   rw[show (0:Int)+((i:Nat):Int)=((i:Nat):Int) from Int.zero_add _]
   refine⟨a,rl,rs,i,q,rfl,s2.seq hS,hD.same s2,by omega,hq,hrk,(hF q mq).zp,fun z H3 s3=>qF ⟨q,mq,z⟩ H3 (s2.trans s3),fun z H3 t s3 hd=>⟨s2.trans s3,?_,fun q' hq'=>?_,_,rfl⟩⟩
   ·rw[et,List.map_append]
    exact DatVs.snoc hd (hd2.same s3)
   ·rw[et]at hq'
    rcases List.mem_append.mp hq' with y | y
    ·exact hb2 q' y
    ·rw[List.mem_singleton.mp y];exact z
  ·rintro ys σ' H2 ⟨s2,hd2,hb2,v,rfl⟩ pa hpa
   rw[Int.toNat_natCast,hrl,List.take_length]at hd2 hb2
   have s3:Same H2 (al H2 pa (.lst ys)):=ah hpa
   have hP3:SqL K (al H2 pa (.lst ys)) pa ys:=SqL.of ae
   generalize al H2 pa (.lst ys)=H3 at s3 hP3 ⊢
   have sA:=s2.trans s3
   have hd3:=hd2.same s3
   clear hd2 s2 s3 s1
   have hn0:rl[0]?=some (rl[0]'(by omega)):=List.getElem?_eq_getElem (by omega)
   have hq0:rs[0]?=some (rs.getD 0 ⟨[],0,"",[]⟩):=by rw[List.getD,List.getElem?_eq_getElem (by omega)];rfl
   obtain⟨dd,hdd,hxd⟩:=hD.get hn0
   rw[List.getElem?_map,hq0]at hdd
   have etop:sI rs=⟨([],0),[((rs.getD 0 ⟨[],0,"",[]⟩).sort,some ((br (aj rs (rs.getD 0 ⟨[],0,"",[]⟩).sort)).getD 0 0))],-1⟩:=rfl
   generalize rs.getD 0 ⟨[],0,"",[]⟩=q0 at hq0 hdd etop
   have ed:dd=q0.dat:=(Option.some.inj hdd).symm
   subst ed
   have mq0:=List.mem_of_getElem? hq0
   obtain⟨t0,tp0,ex0,hT0,_⟩:=cZ hxd
   rw[ex0]at hn0
   refine .inl ⟨_,.ref t0,sA.seq hS,aq hn0,.inr ⟨_,.str (S q0.sort),sA.seqT hT0,aq (j:=0) rfl,?_⟩⟩
   refine⟨a,rl,rs,q0.sort,rfl,sA.seq hS,hD.same sA,by omega,fun H4 pr ns s4 hpr hpm hsr=>?_⟩
   have ens:=rW hpm hsr
   have hn1:ns≠[]:=fun z=>by
    have:=(Srt.nil ⟨hpm,hsr⟩).mp z
    have h9:=fz mq0
    rw[this]at h9
    cases h9
   have hns0:(ns.map V.int)[0]?=some (V.int (ns.getD 0 0)):=by
    cases ns with
    | nil=>exact absurd rfl hn1
    | cons x r=>rfl
   rw[<-ens]at etop
   generalize ns.getD 0 0=r0 at hns0 etop
   refine .inl ⟨_,.int r0,SqL.of hpr,aq (j:=0) hns0,⟨(show 2≤sizeLine by decide),fun p5 hp5=>⟨(show 1≤sizeLine by decide),fun p6 hp6=>⟨(show 3≤sizeLine by decide),fun p7 hp7=>⟨(show 1≤sizeLine by decide),fun b hb0=>?_⟩⟩⟩⟩⟩
   dsimp only at hp6 hp7 hb0 ⊢
   have z5:Same H4 (al H4 p5 (.tup [V.str (S q0.sort),V.int r0])):=ah hp5
   have k5:SqT K (al H4 p5 (.tup [V.str (S q0.sort),V.int r0])) p5 [V.str (S q0.sort),V.int r0]:=SqT.of ae
   generalize al H4 p5 (.tup [V.str (S q0.sort),V.int r0])=H5 at z5 k5 hp6 hp7 hb0 ⊢
   have z6:Same H5 (al H5 p6 (.tup [.ref p5])):=ah hp6
   have k6:SqT K (al H5 p6 (.tup [.ref p5])) p6 [.ref p5]:=SqT.of ae
   generalize al H5 p6 (.tup [.ref p5])=H6 at z6 k6 hp7 hb0 ⊢
   have z7:Same H6 (al H6 p7 (.tup [.ref tT,.ref p6,.int (-1)])):=ah hp7
   have k7:SqT K (al H6 p7 (.tup [.ref tT,.ref p6,.int (-1)])) p7 [.ref tT,.ref p6,.int (-1)]:=SqT.of ae
   generalize al H6 p7 (.tup [.ref tT,.ref p6,.int (-1)])=H7 at z7 k7 hb0 ⊢
   have sB:Same H3 H7:=(s4.trans z5).trans (z6.trans z7)
   have sC:=sA.trans sB
   have htop:DatV K H7 (.ref p7) (sI rs).dat:=by
    rw[etop]
    exact .tuple k7 (.cons (.tuple (T.k_TOP _) (.cons (.str _) (.cons (.int _) .nil))) (.cons (.tuple (z7.seqT k6) (.cons (.tuple ((z6.trans z7).seqT k5) (.cons (.str _) (.cons (.int _) .nil))) .nil)) (.cons (.int _) .nil)))
   have z8:Same H7 (al H7 b (.lst [.ref p7])):=ah hb0
   have g8:PRH K H7 (al H7 b (.lst [.ref p7])) b [sI rs]:=⟨z8,_,ae,.cons (htop.same z8) .nil⟩
   generalize al H7 b (.lst [.ref p7])=H8 at z8 g8 ⊢
   have sD:=sC.trans z8
   refine⟨a,rl,rs,rfl,sD.seq hS,hD.same sD,by omega,fun H9 ps s9 hps=>?_⟩
   have g9:=g8.grow s9
   have hsl:(aH rs).length≤24:=by have:=dW rs [];unfold aH;simp at this ⊢;omega
   have hpsb:ps≠b:=fun z=>by
    obtain⟨_,xs,hx,hdx⟩:=g9
    rw[z,hx]at hps
    have e:xs=(aH rs).map fun l=>V.str (S l):=by injection hps with hps;injection hps
    rw[e]at hdx
    cases hh:aH rs with
    | nil=>rw[hh]at hdx;cases hdx
    | cons x r =>
     rw[hh]at hdx
     cases hdx with
     | cons h1 _ =>
      unfold PR.dat at h1
      cases h1
   refine .inl ⟨⟨_,SqL.of hps⟩,?_⟩
   refine aV (xs:=(aH rs).map fun l=>V.str (S l)) (fun i σ H'=>∃(v4:Option V),H' ps=some (.lst ((aH rs).map fun l=>V.str (S l)))/\PRH K H7 H' b (sI rs::((aH rs).take i).flatMap (e7 rs))/\σ=[some (.ref a),some (.ref pa),some (.str (S q0.sort)),some (.ref b),v4])
    ⟨none,hps,g9,rfl⟩ (fun i σ H' _ h=>by obtain⟨_,e1,_⟩:=h;exact SqL.of e1) ?_ ?_
   ·rintro i x σ H10 hx ⟨v4,e1,g10,rfl⟩
    have hil:i<(aH rs).length:=by have:=(List.getElem?_eq_some_iff.mp hx).1;rw[List.length_map]at this;exact this
    rw[List.getElem?_map,List.getElem?_eq_getElem hil]at hx
    have mso:(aH rs)[i]∈aH rs:=List.getElem_mem _
    have et:(aH rs).take (i+1)=(aH rs).take i++[(aH rs)[i]]:=by rw[List.take_add_one,List.getElem?_eq_getElem hil];rfl
    generalize (aH rs)[i]=so at hx mso et
    have ex:x=V.str (S so):=(Option.some.inj hx).symm
    subst ex
    obtain⟨q1,mq1,eq1⟩:=mem_sortsF.mp mso
    obtain⟨s10,xs,hb10,hd10⟩:=id g10
    have hxl:xs.length=1+(((aH rs).take i).flatMap (e7 rs)).length:=by have:=hd10.length;rw[List.length_map,List.length_cons]at this;omega
    have hfl:=fq r24 ((aH rs).take i)
    rw[List.length_take]at hfl
    have sE:=sC.trans s10
    refine⟨.inl ⟨rfl,_,SqL.of hb10⟩,?_⟩
    refine⟨a,pa,rl,ys,rs,so,rfl,sE.seq hS,hD.same sE,by omega,(sB.trans s10).seq hP3,hd3.same (sB.trans s10),(fun z=>by have h9:=fz mq1;rw[eq1,z]at h9;cases h9),fun H11 p11 zs s11 hp11 hd11=>?_⟩
    have hzl:zs.length=(e7 rs so).length:=by have:=hd11.length;rw[List.length_map]at this;exact this
    have hbf:=lr r24 so
    refine⟨xs,zs,s11 _ _ hb10,.inl hp11,by omega,?_⟩
    refine⟨_,by rw[am hpsb];exact s11 _ _ e1,⟨fun x u e=>?_,_,ae,bR (.inl ⟨_,s11 _ _ hb10⟩) (oI _) ?_⟩,rfl⟩
    ·rw[am fun z=>by rw[z,hb0]at e;cases e];exact (s10.trans s11) x u e
    ·rw[et,List.flatMap_append]
     have e9:([so].flatMap (e7 rs))=e7 rs so:=by simp
     rw[e9,<-List.cons_append,List.map_append]
     exact jX (hd10.same s11) hd11
   ·rintro σ H10 ⟨v4,e1,⟨s10,xs,hb10,hd10⟩,rfl⟩
    rw[List.length_map,List.take_length]at hd10
    have hd10:DatVs K H10 xs ((aG rs).map PR.dat):=hd10
    have hpl:(aG rs).length≤50000:=by
     have:=fq r24 (aH rs)
     unfold aG
     rw[List.length_cons]
     omega
    have pok:=qk hR hF
    have sE:=sC.trans s10
    refine⟨b,xs,aG rs,rfl,SqL.of hb10,hd10,hpl,fun r hr=>(pok r hr).1,fun r hr=>(pok r hr).2,fun hder H11 s11=>?_,fun hno H11 s11=>qB hb2 hno H11 (sE.trans s11)⟩
    have sF:=sE.trans s11
    refine⟨a,rl,rs,rfl,sF.seq hS,hD.same sF,r1,by omega,fun q hq=>⟨(hF q hq).ls,(hF q hq).zs,(hF q hq).zp,fun p hp=>((hF q hq).lp p hp).1⟩,fun hrch H12 s12=>?_,fun hno H12 s12=>qI hb2 hder hno H12 (sF.trans s12)⟩
    exact qQ hb2 hder hrch H12 b xs (sF.trans s12) ((s11.trans s12) _ _ hb10) (hd10.same (s11.trans s12))
end
end K31
--@RAISES but law
namespace K31
open PySem PySem.Spec PyProof.Rows L2 Rg
section
variable {P:Program}{w:World}{K:PySem.W.Frag}{mg:Str->Option Value}{base:Heap}{C tS tN tT:Addr}
def sX (K:PySem.W.Frag):Sp:=fun vs H Q _=>∃(a:Addr) (ns:List Int) (k:Nat),vs=[.ref a,.int k]/\SqL K H a (ns.map V.int)/\Q (.int (ns.getD k 0)) H
abbrev st__law_cell_at:Stmt:=top 35
theorem dk:ax ["_law_script","_law_k"] ["_law_script","_law_k"] (ak st__law_cell_at):=⟨rfl,rfl,rfl,by decide +kernel,rfl,by decide +kernel,by decide +kernel⟩
theorem ro (R:Raw K mg "_law_cell_at" st__law_cell_at ["_law_script","_law_k"])(T:Txt K w mg tT):Def P w K mg base 1 "_law_cell_at" ["_law_script","_law_k"] (sX K):=by
 refine R.defJ dk (fun vs H Q E h=>?_) (fun f cdv A outer s H vs Q E hr h=>?_)
 ·obtain⟨a,ns,k,rfl,_⟩:=h
  rfl
 ·obtain⟨a,ns,k,rfl,hS,q⟩:=h
  have sc:=dk
  have hu:=hr.units
  refine⟨_,(ac (aZ (aA y6 (jn 1) (aM (eI (K:=K)) rfl T.n_len PySem.boot_len (aa (jn 0) af)))
  (ag (aQ (aO (aU hu (K:=K) (w:=w)) (jn 0) (jn 1))))
  aE)
  (ag (aQ ap))),?_⟩
  refine⟨_,.inl hS,?_⟩
  rw[List.length_map]
  show if decide ((k:Int)<(ns.length:Int))=true then _ else _
  refine bc (fun h=>?_) (fun h=>?_)
  ·have hk:k<ns.length:=by
    have:=of_decide_eq_true h
    omega
   refine .inl ⟨_,.int (ns.getD k 0),hS,aq ?_,q⟩
   rw[List.getElem?_map,List.getElem?_eq_getElem hk]
   simp[List.getD,hk]
  ·have hk:¬ k<ns.length:=fun z=>h (decide_eq_true (by omega))
   have e:ns.getD k 0=0:=by simp[List.getD,List.getElem?_eq_none (by omega:ns.length≤k)]
   rw[e]at q
   exact q
abbrev lettersL:List Nat:=("abcdefghijklmnopqrstuvwxyzABCXYZ0189 .+-*/<=>()[]{}!?_|&~":Str).cps.toList
def vB (x:Int):Nat:=lettersL.getD (x % 57).toNat 0
theorem kc:lettersL.length=57:=by decide +kernel
theorem AW (x:Int):mh lettersL (x % 57)=some (vB x):=by
 have h1:(x % 57).toNat<lettersL.length:=by rw[kc];omega
 have e:(((x % 57).toNat:Nat):Int)=x % 57:=by omega
 have key:=aq (xs:=lettersL) (List.getElem?_eq_getElem h1)
 rw[e]at key
 rw[key]
 unfold vB
 rw[List.getD,List.getElem?_eq_getElem h1]
 rfl
theorem nQ:∀i,i<57->∀j,j<57->lettersL.getD i 0=lettersL.getD j 0->i=j:=by decide +kernel
theorem yS {x y:Int}(h:vB x=vB y):x % 57=y % 57:=by
 have:=nQ (x % 57).toNat (by omega) (y % 57).toNat (by omega) h
 omega
def i5 (c:Int):Nat:=(1+c % 12).toNat
def eU (c:Int):Nat:=(c / 12 % (1+c % 12)).toNat
theorem nG (c:Int):((i5 c:Nat):Int)=1+c % 12/\1≤i5 c/\i5 c≤12:=by unfold i5;omega
theorem wH (c:Int):((eU c:Nat):Int)=c / 12 % (1+c % 12)/\eU c<i5 c:=by
 have h0:=Int.emod_nonneg (c / 12) (show 1+c % 12≠0 by omega)
 have h1:=Int.emod_lt_of_pos (c / 12) (show 0<1+c % 12 by omega)
 unfold eU i5
 omega
def mi (c:Int)(k j:Nat):Nat:=vB (c / 144+((j:Int)*(j:Int)+(k:Int)*(if j=eU c then 1 else 0)))
def au (c:Int)(k:Nat):List Nat:=(List.range (i5 c)).map (mi c k)
theorem gj (c:Int)(k:Nat):(au c k).length=i5 c:=by unfold au;simp
theorem f7 {c:Int}{k k':Nat}(hk:k<57)(hk':k'<57)(h:au c k=au c k'):k=k':=by
 have h1:=congrArg (fun l=>l[eU c]?) h
 unfold au at h1
 have hlt:=(wH c).2
 simp[hlt]at h1
 unfold mi at h1
 simp only[if_pos]at h1
 have:=yS h1
 omega
theorem cG (c:Int)(k:Nat):cY (au c k):=fun x hx=>by
 unfold au at hx
 obtain⟨j,_,rfl⟩:=List.mem_map.mp hx
 unfold mi vB
 have h2:lettersL.all (fun c=>decide (c<128))=true:=by decide +kernel
 rw[List.getD]
 cases e:lettersL[((c / 144+((j:Int)*(j:Int)+(k:Int)*(if j=eU c then 1 else 0))) % 57).toNat]? with
 | none=>decide
 | some y =>
  have:=of_decide_eq_true (List.all_eq_true.mp h2 y (List.mem_of_getElem? e))
  show y<0x110000
  omega
def nO (K:PySem.W.Frag):Sp:=fun vs H Q _=>∃(c:Int) (m:Nat),vs=[.int c,.int (m:Nat)]/\m≤20/\∀(H':Hp) (p:Addr),Same H H'->H p=none->H' p=some (.lst ((List.range m).map fun k=>V.str (S (au c k))))->Q (.ref p) H'
abbrev st__law_names:Stmt:=top 36
theorem eC:ax ["_law_cell","_law_many","_law_signs","_law_size","_law_at","_law_names_here","_law_k","_law_name","_law_j","_law_step"] ["_law_cell","_law_many"] (ak st__law_names):=⟨rfl,rfl,rfl,by decide +kernel,rfl,by decide +kernel,by decide +kernel⟩
theorem pT (R:Raw K mg "_law_names" st__law_names ["_law_cell","_law_many"])(T:Txt K w mg tT):Def P w K mg base 1 "_law_names" ["_law_cell","_law_many"] (nO K):=by
 refine R.defJ eC (fun vs H Q E h=>?_) (fun f cdv A outer s H vs Q E hr h=>?_)
 ·obtain⟨c,m,rfl,_⟩:=h
  rfl
 ·obtain⟨c,m,rfl,hm,q⟩:=h
  have sc:=eC
  have hu:=hr.units
  have hb:(1000000:Nat)<sizeLine:=by rw[sizeLine_eq];decide
  refine⟨_,(ac (ao (i:=2) sc.nd rfl (Or.inl rfl) eG)
  (ac (ao (i:=3) sc.nd rfl (Or.inl rfl) (aR (bv (K:=K)) ap (aR bO (jn 0) ap)))
  (ac (ao (i:=4) sc.nd rfl (Or.inl rfl) (aR bO (aR jm (jn 0) ap) (jn 3)))
  (ac (ao (i:=5) sc.nd rfl (Or.inl rfl) (bU af))
  (ac (aP PassesOwn.never rfl (de rfl T.n_range (aa (jn 1) af)) (ai (i:=6) sc.nd rfl (Or.inl rfl))
  (ac (ao (i:=7) sc.nd rfl (Or.inl rfl) eG)
  (ac (aP PassesOwn.never rfl (de rfl T.n_range (aa (jn 3) af)) (ai (i:=8) sc.nd rfl (Or.inl rfl))
  (ac (ao (i:=9) sc.nd rfl (Or.inl rfl) (aR (bv (K:=K)) (aR jB (jn 8) (jn 8)) (aR jB (jn 6) (bK zP rfl T.n_int boot_int (aa (jQ (bX hu (K:=K)) (jn 8) (jn 4)) af)))))
  (ag (ao (i:=7) sc.nd rfl (Or.inl rfl) (aR (bv (K:=K)) (jn 7) (aO (aU hu (K:=K) (w:=w)) (jn 2) (aR bO (aR (bv (K:=K)) (aR jm (jn 0) ap) (jn 9)) ap)))))))
  (ag (be (fU (K:=K) PySem.F.plainAttrs_list PySem.F.slot_list_append PySem.F.type_list_append cg (jn 5) (aa (jn 7) af)))))))
  (ag (aQ (jn 5)))))))),?_⟩
  refine⟨by decide,⟨by decide,by decide⟩,show (0:Int)<1+c % 12 by omega,?_⟩
  rw[<-(wH c).1]
  refine⟨(show 0≤sizeLine by decide),fun p hp=>?_⟩
  have s1:Same H (al H p (.lst [])):=ah hp
  have h1:al H p (.lst []) p=some (.lst []):=ae
  generalize al H p (.lst [])=H1 at s1 h1 ⊢
  refine⟨by omega,by omega,?_⟩
  refine cF (n:=((m:Nat):Int).toNat) (fun i σ H'=>∃(v5 v6 v7 v8:Option V),Same H H'/\H' p=some (.lst ((List.range i).map fun k=>V.str (S (au c k))))/\σ=[some (.int c),some (.int (m:Nat)),some (.str "abcdefghijklmnopqrstuvwxyzABCXYZ0189 .+-*/<=>()[]{}!?_|&~"),some (.int (1+c % 12)),some (.int (eU c:Nat)),some (.ref p),v5,v6,v7,v8]) ⟨none,none,none,none,s1,h1,rfl⟩ ?_ ?_
  ·rintro i σ H' hi ⟨v5,v6,v7,v8,s2,hp2,rfl⟩
   have esz:=(nG c).1
   have hsz:=(nG c).2
   refine⟨show -(2 ^ 62)≤1+c % 12 by omega,show 1+c % 12<2 ^ 62 by omega,?_⟩
   refine cF (n:=(1+c % 12).toNat) (fun j σ H2=>H2=H'/\∃(v7 v8:Option V),σ=[some (.int c),some (.int (m:Nat)),some (.str "abcdefghijklmnopqrstuvwxyzABCXYZ0189 .+-*/<=>()[]{}!?_|&~"),some (.int (1+c % 12)),some (.int (eU c:Nat)),some (.ref p),some (.int (i:Nat)),some (.str (S ((List.range j).map (mi c i)))),v7,v8])
    ⟨rfl,v7,v8,by simp;rfl⟩ ?_ ?_
   ·rintro j σ H2 hj ⟨rfl,v7,v8,rfl⟩
    have hj7:j<12:=by omega
    have put:∀st:Int,st=(j:Int)*(j:Int)+(i:Int)*(if j=eU c then 1 else 0)->∃o,mh lettersL ((c / 144+st) % 57)=some o/\S ((List.range j).map (mi c i))++S [o]=S ((List.range (j+1)).map (mi c i)):=fun st e=>by
     refine⟨vB (c / 144+st),AW _,?_⟩
     rw[Bo,List.range_succ,List.map_append]
     congr 2
     show [vB (c / 144+st)]=[mi c i j]
     unfold mi
     rw[e]
    have e0:(0:Int)+((j:Nat):Int)=(j:Int):=Int.zero_add _
    rw[e0]
    have key:=put ((j:Int)*(j:Int)+(i:Int)*(if (false^^decide (((j:Nat):Int)=((eU c:Nat):Int)))=true then 1 else 0)) (by
     rw[Bool.false_xor]
     by_cases hj:j=eU c
     ·rw[if_pos hj,if_pos (decide_eq_true (by omega))]
     ·rw[if_neg hj,if_neg (fun z=>hj (by have:=of_decide_eq_true z;omega))])
    obtain⟨o,eo,es⟩:=key
    refine⟨.inl ⟨by omega,by omega⟩,.inl ⟨by omega,by omega⟩,⟨by decide,by decide⟩,by decide,by decide +kernel,o,eo,by rw[jr,jr,List.length_map,List.length_range];simp;omega,?_⟩
    rw[es]
    exact⟨rfl,_,_,rfl⟩
   ·rintro σ H2 ⟨rfl,v7,v8,rfl⟩
    rw[show (1+c % 12).toNat=i5 c from rfl]
    refine⟨.inl ⟨rfl,_,SqL.of hp2⟩,_,hp2,by rw[List.length_map,List.length_range];omega,?_⟩
    refine⟨_,_,_,_,fun b u e=>?_,?_,rfl⟩
    ·rw[am fun z=>by rw[z,hp]at e;cases e];exact s2 b u e
    ·rw[ae,List.range_succ,List.map_append]
     rfl
  ·rintro σ H' ⟨v5,v6,v7,v8,s2,hp2,rfl⟩
   exact q H' p s2 hp (by simpa using hp2)
def bM (c k:Int):Int:=(((c % 2147483647*48271+69621*k+11) % 2147483629)*((c % 2147483647*48271+69621*k+11) % 2147483629)+k) % 2147483587
theorem qu (c k:Int):0≤bM c k/\bM c k<2147483587:=by unfold bM;omega
def nZ:Sp:=fun vs H Q _=>∃(c k:Int),vs=[.int c,.int k]/\0≤k/\k≤1000/\Q (.int (bM c k)) H
abbrev st__law_mixed:Stmt:=top 37
theorem eD:ax ["_law_cell","_law_k","_law_number"] ["_law_cell","_law_k"] (ak st__law_mixed):=⟨rfl,rfl,rfl,by decide +kernel,rfl,by decide +kernel,by decide +kernel⟩
theorem uZ (R:Raw K mg "_law_mixed" st__law_mixed ["_law_cell","_law_k"]):Def P w K mg base 1 "_law_mixed" ["_law_cell","_law_k"] nZ:=by
 refine R.defJ eD (fun vs H Q E h=>?_) (fun f cdv A outer s H vs Q E hr h=>?_)
 ·obtain⟨c,k,rfl,_⟩:=h
  rfl
 ·obtain⟨c,k,rfl,h0,h1,q⟩:=h
  have sc:=eD
  have hu:=hr.units
  refine⟨_,(ac (ao (i:=2) sc.nd rfl (Or.inl rfl) (aR bO (aR (bv (K:=K)) (aR (bv (K:=K)) (aR jB (aR bO (jn 0) ap) ap) (aR jB ap (jn 1))) ap) ap))
  (ag (aQ (aR bO (aR (bv (K:=K)) (aR jB (jn 2) (jn 2)) (jn 1)) ap)))),?_⟩
  refine⟨by decide,.inl ⟨by omega,by omega⟩,.inl ⟨by decide,by decide⟩,by decide,.inl ⟨by omega,by omega⟩,by decide,q⟩
end
end K31
--@RAISES but law
namespace K31
open PySem PySem.Spec PyProof.Rows L2 Rg
section
variable {P:Program}{w:World}{K:PySem.W.Frag}{mg:Str->Option Value}{base:Heap}{C tS tN tT:Addr}
def BS (c0:Int)(l:List Nat):Prop:=∃k,k<9/\l=au c0 k
theorem tV {c0:Int}{l:List Nat}(h:BS c0 l):cY l:=by obtain⟨k,_,rfl⟩:=h;exact cG _ _
def BW (x:Str):Prop:=x="left"\/x="right"\/x="none"
structure RlN (c0:Int)(q:Rl):Prop where
 so:∃k,k<3/\q.sort=au c0 k
 r0:0≤q.rank
 r9:q.rank≤99
 p1:1≤q.ps.length
 p8:q.ps.length≤8
 own:q.ps≠[q.sort]
 ps:∀p∈q.ps,BS c0 p
 sd:BW q.side
 tp:q.rank≤98\/(q.rank=99/\∃k,3≤k/\k<9/\q.ps=[au c0 k])
theorem vE (x:Int){i:Nat}(hi:i<57)(h:vB x=lettersL.getD i 0):x % 57=(i:Int):=by
 have:=nQ (x % 57).toNat (by omega) i hi h
 omega
theorem cR {c:Int}{k:Nat}{l:List Nat}(h:au c k=l)(j:Nat)(hj:j<l.length):l[j]?=some (mi c k j):=by
 have e:l.length=i5 c:=by rw[<-h];exact gj c k
 rw[<-h]
 unfold au
 rw[List.getElem?_map,List.getElem?_range (by omega)]
 rfl
theorem d4 {c:Int}{k j i:Nat}(hi:i<57)(h:lettersL.getD i 0=mi c k j):(c / 144+((j:Int)*(j:Int)+(if j=eU c then (k:Int) else 0))) % 57=(i:Int):=by
 have:=vE _ hi h.symm
 by_cases e:j=eU c
 ·rw[if_pos e]at this ⊢
  rw[Int.mul_one]at this
  exact this
 ·rw[if_neg e]at this ⊢
  rw[Int.mul_zero]at this
  exact this
theorem sk (c:Int)(k:Nat):au c k≠[101,110,100]:=fun h=>by
 have h0:=d4 (i:=4) (by decide) (show lettersL.getD 4 0=mi c k 0 from (by decide +kernel:lettersL.getD 4 0=101).trans (Option.some.inj (cR h 0 (by decide))))
 have h1:=d4 (i:=13) (by decide) (show lettersL.getD 13 0=mi c k 1 from (by decide +kernel:lettersL.getD 13 0=110).trans (Option.some.inj (cR h 1 (by decide))))
 have h2:=d4 (i:=3) (by decide) (show lettersL.getD 3 0=mi c k 2 from (by decide +kernel:lettersL.getD 3 0=100).trans (Option.some.inj (cR h 2 (by decide))))
 generalize c / 144=b at h0 h1 h2
 generalize eU c=a at h0 h1 h2
 split at h0<;>split at h1<;>split at h2<;>omega
theorem ni (c:Int)(k:Nat):au c k≠[115,116,114,97,121]:=fun h=>by
 have h0:=d4 (i:=18) (by decide) (show lettersL.getD 18 0=mi c k 0 from (by decide +kernel:lettersL.getD 18 0=115).trans (Option.some.inj (cR h 0 (by decide))))
 have h2:=d4 (i:=17) (by decide) (show lettersL.getD 17 0=mi c k 2 from (by decide +kernel:lettersL.getD 17 0=114).trans (Option.some.inj (cR h 2 (by decide))))
 have h3:=d4 (i:=0) (by decide) (show lettersL.getD 0 0=mi c k 3 from (by decide +kernel:lettersL.getD 0 0=97).trans (Option.some.inj (cR h 3 (by decide))))
 generalize c / 144=b at h0 h2 h3
 generalize eU c=a at h0 h2 h3
 split at h0<;>split at h2<;>split at h3<;>omega
theorem rB (c:Int)(k:Nat):au c k≠[]:=fun h=>by
 have e:=gj c k
 rw[h]at e
 have:=(nG c).2
 simp at e
 omega
theorem kQ (c:Int)(k:Nat):m9 (au c k)=false:=by
 have e1:(S (au c k):Str)≠"":=fun z=>rB c k (cK (z.trans (yc "")))
 have e2:(S (au c k):Str)≠"end":=fun z=>sk c k (cK (z.trans (yc "end")))
 have e3:(S (au c k):Str)≠"stray":=fun z=>ni c k (cK (z.trans (yc "stray")))
 unfold m9 vU
 simp only[List.any_cons,List.any_nil,Bool.or_eq_false_iff,and_true]
 exact⟨decide_eq_false (Ne.symm e1),decide_eq_false (Ne.symm e2),decide_eq_false (Ne.symm e3)⟩
theorem RlN.fine {c0:Int}{q:Rl}(h:RlN c0 q):lD q:=by
 have len:∀k,(au c0 k).length≤100:=fun k=>by rw[gj];have:=(nG c0).2;omega
 obtain⟨k,_,ek⟩:=h.so
 have hr0:=h.r0
 have hr9:=h.r9
 refine⟨(dX hr0 hr9).1,by rw[ek];exact cG _ _,by rw[ek];exact len _,?_,?_,fun p hp=>?_,by have:=h.p8;omega⟩
 ·rcases h.sd with e | e | e<;>rw[e]<;>decide +kernel
 ·rcases h.sd with e | e | e<;>rw[e]<;>decide +kernel
 ·obtain⟨j,_,e⟩:=h.ps p hp
  rw[e]
  exact⟨cG _ _,len _⟩
theorem RlN.okB {c0:Int}{q:Rl}(h:RlN c0 q):okB q=true:=by
 obtain⟨k,_,ek⟩:=h.so
 refine (bw q).mpr ⟨h.r0,h.r9,?_,h.p1,h.p8,by rw[ek];exact kQ _ _,?_,h.own⟩
 ·rcases h.sd with e | e | e<;>rw[e]<;>decide +kernel
 ·rw[Bool.eq_false_iff,Ne,List.any_eq_true]
  rintro⟨p,hp,z⟩
  obtain⟨j,_,e⟩:=h.ps p hp
  rw[e,kQ]at z
  cases z
theorem RlN.lay {c0:Int}{q:Rl}(h:RlN c0 q):q.dat.canLay0=true:=by
 have f:=h.fine
 unfold Rl.dat
 simp only[PyData.canLay0,PyData.canLayAll0,dy f.ls,f.sd,f6 fun p hp=>(f.lp p hp).1,Bool.and_self]
def tf (K:PySem.W.Frag):Sp:=fun vs H Q _=>∃(c c0:Int) (l:Addr) (few:Bool),vs=[.int c,.ref l,.bl few]/\SqL K H l ((List.range 9).map fun k=>V.str (S (au c0 k))) /\
 ∀H' t (q:Rl),Same H H'->DatV K H' (.ref t) q.dat->RlN c0 q->Q (.ref t) H'
abbrev st__law_rule:Stmt:=top 38
theorem fG:ax ["_law_cell","_law_names_here","_law_few","_law_sort","_law_number","_law_rank","_law_side","_law_many","_law_parts"] ["_law_cell","_law_names_here","_law_few"] (ak st__law_rule):=⟨rfl,rfl,rfl,by decide +kernel,rfl,by decide +kernel,by decide +kernel⟩
theorem re (R:Raw K mg "_law_rule" st__law_rule ["_law_cell","_law_names_here","_law_few"])(T:Txt K w mg tT)(D__law_mixed:Def P w K mg base 1 "_law_mixed" ["_law_cell","_law_k"] nZ):Def P w K mg base 2 "_law_rule" ["_law_cell","_law_names_here","_law_few"] (tf K):=by
 refine R.defJ fG (fun vs H Q E h=>?_) (fun f cdv A outer s H vs Q E hr h=>?_)
 ·obtain⟨c,c0,l,few,rfl,_⟩:=h
  rfl
 ·obtain⟨c,c0,l,few,rfl,hS,q⟩:=h
  have sc:=fG
  have hu:=hr.units
  have hb:(1000000:Nat)<sizeLine:=by rw[sizeLine_eq];decide
  have hm:=qu c 1
  have nm:∀i:Int,0≤i->i<9->((List.range 9).map fun k=>V.str (S (au c0 k)))[i.toNat]?=some (V.str (S (au c0 i.toNat))):=fun i h0 h1=>by
   rw[List.getElem?_map,List.getElem?_range (by omega)];rfl
  have at9:∀i:Int,0≤i->i<9->mh ((List.range 9).map fun k=>V.str (S (au c0 k))) i=some (V.str (S (au c0 i.toNat))):=fun i h0 h1=>by
   have:=aq (nm i h0 h1)
   rw[Int.toNat_of_nonneg h0]at this
   exact this
  obtain⟨u9,hP9,hq9⟩:∃u,qc (bN CX0 P w K mg base ["_law_cell","_law_names_here","_law_few","_law_sort","_law_number","_law_rank","_law_side","_law_many","_law_parts"] "_law_rule" (ak st__law_rule) f cdv A outer s H E).nox ((bp st__law_rule).drop 9) u /\
    ∀(H1:Hp) (rk:Int) (sd:Str) (vm:Option V) (pa:Addr) (ps:List (List Nat)),Same H H1->SqL K H1 pa (ps.map fun l=>V.str (S l))->RlN c0 ⟨au c0 (c % 3).toNat,rk,sd,ps⟩ ->
     u { nx:=fun _ H'=>Q .non H',rt:=Q } [some (.int c),some (.ref l),some (.bl few),some (.str (S (au c0 (c % 3).toNat))),some (.int (bM c 1)),some (.int rk),some (.str sd),vm,some (.ref pa)] H1:=by
   refine⟨_,(ag (aQ (cb (aa (jn 3) (aa (jn 5) (aa (jn 6) (aa (bK (oj (K:=K)) rfl T.n_tuple boot_tuple (aa (jn 8) af)) af))))))),?_⟩
   intro H1 rk sd vm pa ps s1 hpa ok
   refine⟨_,.inl ⟨hpa,fun t1 ht1=>⟨(show 4≤sizeLine by decide),fun t2 ht2=>?_⟩⟩⟩
   have s2:Same H1 (al H1 t1 (.tup (ps.map fun l=>V.str (S l)))):=ah ht1
   have h1:SqT K (al H1 t1 (.tup (ps.map fun l=>V.str (S l)))) t1 (ps.map fun l=>V.str (S l)):=SqT.of ae
   dsimp only at ht2 ⊢
   generalize al H1 t1 (.tup (ps.map fun l=>V.str (S l)))=H2 at s2 h1 ht2 ⊢
   refine q _ t2 ⟨au c0 (c % 3).toNat,rk,sd,ps⟩ ((s1.trans s2).trans (ah ht2)) ?_ ok
   exact .tuple (SqT.of ae) (.cons (.str _) (.cons (.int _) (.cons (.str _) (.cons (.tuple ((ah ht2).seqT h1) (e6 ps)) .nil))))
  obtain⟨u7,hP7,hq7⟩:∃u,qc (bN CX0 P w K mg base ["_law_cell","_law_names_here","_law_few","_law_sort","_law_number","_law_rank","_law_side","_law_many","_law_parts"] "_law_rule" (ak st__law_rule) f cdv A outer s H E).nox ((bp st__law_rule).drop 7) u /\
    ∀(H1:Hp) (rk:Int) (sd:Str) (mn:Int),Same H H1->0≤rk->rk≤98->1≤mn->mn≤8->BW sd ->
     u { nx:=fun _ H'=>Q .non H',rt:=Q } [some (.int c),some (.ref l),some (.bl few),some (.str (S (au c0 (c % 3).toNat))),some (.int (bM c 1)),some (.int rk),some (.str sd),some (.int mn),none] H1:=by
   refine⟨_,(ac (km (i:=8) (N:=["_law_k","_law_cell","_law_names_here"]) (cap:=[none,some 0,some 1]) rfl (CompScope.of rfl (by rfl)) (de rfl T.n_range (aa (jn 7) af)) (fun _ _ _ _=>(ai (i:=0) (show List.Nodup [("_law_k":Str),("_law_cell":Str),("_law_names_here":Str)] by decide +kernel) rfl (Or.inl rfl))) (fun _ _ _ _=>fw) (fun _ _ _ _=>(aO (aU hu (K:=K) (w:=w)) (jn 2) (aR bO (bg D__law_mixed (hr.mono (by decide)) rfl (aa (jn 1) (aa (aR (bv (K:=K)) ap (jn 0)) af))) ap))) sc.nd rfl rfl)
  (ac (aZ (aA (bX hu (K:=K)) (jn 8) (bU (aa (jn 3) af)))
  (ag (ao (i:=8) sc.nd rfl (Or.inl rfl) (bU (aa (aO (aU hu (K:=K) (w:=w)) (jn 1) (aR (bv (K:=K)) ap (aR bO (jn 4) ap))) af))))
  aE)
  hP9)),?_⟩
   intro H1 rk sd mn s1 h0 h9 m1 m8 hsd
   have hS1:=s1.seq hS
   refine⟨show -(2 ^ 62)≤mn by omega,show mn<2 ^ 62 by omega,?_⟩
   refine ib (n:=mn.toNat) (fun i ys σ' H'=>H'=H1/\∃(ks:List (List Nat)) (v:Option V),ks.length=i/\ys=ks.map (fun l=>V.str (S l))/\(∀k∈ks,BS c0 k)/\σ'=[v,some (.int c),some (.ref l)]) (by omega) ⟨rfl,[],none,rfl,rfl,(fun k hk=>by cases hk),rfl⟩
    (fun i ys σ' H' h=>by obtain⟨_,ks,v,e1,e2,_⟩:=h;rw[e2,List.length_map];omega) ?_ ?_
   ·rintro i ys σ' H' hi ⟨rfl,ks,v,hk,rfl,hlo,rfl⟩
    have hmx:=qu c (2+(0+(i:Nat):Int))
    refine⟨c,2+(0+(i:Nat):Int),rfl,by omega,by omega,by decide,.inl ⟨_,_,hS1,at9 (bM c (2+(0+(i:Nat):Int)) % 9) (by omega) (by omega),rfl,ks++[au c0 (bM c (2+(0+(i:Nat):Int)) % 9).toNat],_,by rw[List.length_append,hk];rfl,by rw[List.map_append];rfl,fun k hk'=>?_,rfl⟩⟩
    rcases List.mem_append.mp hk' with z | z
    ·exact hlo k z
    ·rw[List.mem_singleton.mp z];exact⟨_,by omega,rfl⟩
   ·rintro ys σ' H' ⟨rfl,ks,v,hk,rfl,hlo,rfl⟩ D hD
    have s2:Same H' (al H' D (.lst (ks.map fun l=>V.str (S l)))):=ah hD
    have h1:SqL K (al H' D (.lst (ks.map fun l=>V.str (S l)))) D (ks.map fun l=>V.str (S l)):=SqL.of ae
    generalize al H' D (.lst (ks.map fun l=>V.str (S l)))=H2 at s2 h1 ⊢
    refine⟨(show 1≤sizeLine by decide),fun p hp=>?_⟩
    have s3:Same H2 (al H2 p (.lst [V.str (S (au c0 (c % 3).toNat))])):=ah hp
    have h2:SqL K (al H2 p (.lst [V.str (S (au c0 (c % 3).toNat))])) p [V.str (S (au c0 (c % 3).toNat))]:=SqL.of ae
    generalize al H2 p (.lst [V.str (S (au c0 (c % 3).toNat))])=H3 at s3 h2 ⊢
    have lay1:=f6 fun k hk=>tV (hlo k hk)
    have lay2:=f6 (ks:=[au c0 (c % 3).toNat]) (fun k hk=>by rw[List.mem_singleton.mp hk];exact cG _ _)
    have deep:=kd ks
    refine⟨.list (ks.map fun k=>PyData.str (S k)),.list ([au c0 (c % 3).toNat].map fun k=>PyData.str (S k)),.list (s3.seq h1) (e6 ks),.list h2 (e6 [au c0 (c % 3).toNat]),by simp only[PyData.canLay0];exact lay1,by simp only[PyData.canLay0];exact lay2,by simp only[PyData.depth];omega,?_⟩
    show if (false^^PyData.eqv _ _)=true then _ else _
    rw[Bool.false_xor,PyData.eqv,m5]
    refine bc (fun h=>?_) (fun h=>?_)
    ·have hs3:=(s1.trans s2).trans s3
     have hm6:0≤3+bM c 1 % 6/\3+bM c 1 % 6<9:=by omega
     refine⟨by decide,.inl ⟨_,_,hs3.seq hS,at9 (3+bM c 1 % 6) hm6.1 hm6.2,(show 1≤sizeLine by decide),fun p2 hp2=>?_⟩⟩
     refine hq9 _ rk sd _ p2 [au c0 (3+bM c 1 % 6).toNat] (hs3.trans (ah hp2)) (SqL.of ae) ⟨⟨_,by omega,rfl⟩,h0,(show rk≤99 by omega),Nat.le_refl _,(show 1≤8 by decide),(fun z=>by have e:=f7 (by omega) (by omega) (List.cons.inj z).1;omega),(fun k hk=>by rw[List.mem_singleton.mp hk];exact⟨_,by omega,rfl⟩),hsd,.inl h9⟩
    ·exact hq9 _ rk sd _ D ks ((s1.trans s2).trans s3) (s3.seq h1) ⟨⟨_,by omega,rfl⟩,h0,(show rk≤99 by omega),(show 1≤ks.length by omega),(show ks.length≤8 by omega),(fun z=>h (beq_iff_eq.mpr z)),hlo,hsd,.inl h9⟩
  obtain⟨u4,hP4,hq4⟩:∃u,qc (bN CX0 P w K mg base ["_law_cell","_law_names_here","_law_few","_law_sort","_law_number","_law_rank","_law_side","_law_many","_law_parts"] "_law_rule" (ak st__law_rule) f cdv A outer s H E).nox ((bp st__law_rule).drop 4) u /\
    ∀(rk:Int),0≤rk->rk≤98->u { nx:=fun _ H'=>Q .non H',rt:=Q } [some (.int c),some (.ref l),some (.bl few),some (.str (S (au c0 (c % 3).toNat))),some (.int (bM c 1)),some (.int rk),none,none,none] H:=by
   refine⟨_,(ac (ao (i:=6) sc.nd rfl (Or.inl rfl) (aO (aU hu (K:=K) (w:=w)) (bU (aa eG (aa eG (aa eG af)))) (aR bO (aR jm (jn 4) ap) ap)))
  (ac (ao (i:=7) sc.nd rfl (Or.inl rfl) (aR (bv (K:=K)) ap (aR bO (aR jm (jn 4) ap) ap)))
  (ac (aZ (aA (bX hu (K:=K)) (aR bO (aR jm (jn 4) ap) ap) ap)
  (ag (ao (i:=7) sc.nd rfl (Or.inl rfl) (aR (bv (K:=K)) ap (aR bO (aR jm (jn 4) ap) ap))))
  aE)
  hP7))),?_⟩
   intro rk h0 h9
   refine⟨(show 3≤sizeLine by decide),fun p hp=>⟨⟨by decide,by decide⟩,by decide,?_⟩⟩
   have hx:∃x,mh [V.str "left",V.str "right",V.str "none"] (bM c 1 / 100 % 3)=some (V.str x)/\BW x:=by
    have:bM c 1 / 100 % 3=0\/bM c 1 / 100 % 3=1\/bM c 1 / 100 % 3=2:=by omega
    rcases this with z | z | z
    ·rw[z];exact⟨_,rfl,(.inl rfl)⟩
    ·rw[z];exact⟨_,rfl,(.inr (.inl rfl))⟩
    ·rw[z];exact⟨_,rfl,(.inr (.inr rfl))⟩
   obtain⟨x,hx,hsd⟩:=hx
   refine .inl ⟨_,.str x,SqL.of ae,hx,?_⟩
   refine⟨⟨by decide,by decide⟩,by decide,⟨by decide,by decide⟩,by decide,?_⟩
   show if (false^^decide (bM c 1 / 1200 % 8=5))=true then _ else _
   rw[Bool.false_xor]
   refine bc (fun h=>?_) (fun h=>?_)
   ·exact⟨⟨by decide,by decide⟩,by decide,hq7 _ rk x (5+bM c 1 / 9600 % 4) (ah hp) h0 h9 (by omega) (by omega) hsd⟩
   ·exact hq7 _ rk x (1+bM c 1 / 300 % 4) (ah hp) h0 h9 (by omega) (by omega) hsd
  refine⟨_,(ac (ao (i:=3) sc.nd rfl (Or.inl rfl) (aO (aU hu (K:=K) (w:=w)) (jn 1) (aR bO (jn 0) ap)))
  (ac (ao (i:=4) sc.nd rfl (Or.inl rfl) (bg D__law_mixed (hr.mono (by decide)) rfl (aa (jn 0) (aa ap af))))
  (ac (ao (i:=5) sc.nd rfl (Or.inl rfl) (aR bO (jn 4) ap))
  (ac (aZ (dA (K:=K) (jn 2))
  (ag (ao (i:=5) sc.nd rfl (Or.inl rfl) (aR jB (aR bO (jn 4) ap) ap)))
  aE)
  hP4)))),?_⟩
  refine⟨by decide,.inl ⟨_,_,hS,at9 (c % 3) (by omega) (by omega),?_⟩⟩
  refine⟨c,1,rfl,by decide,by decide,by decide,?_⟩
  refine⟨few,rfl,?_⟩
  show if few=true then _ else _
  refine bc (fun h=>?_) (fun h=>?_)
  ·exact⟨by decide,.inl ⟨by omega,by omega⟩,hq4 (bM c 1 % 3*33) (by omega) (by omega)⟩
  ·exact hq4 (bM c 1 % 99) (by omega) (by omega)
end
end K31
--@RAISES but law
namespace K31
open PySem PySem.Spec PyProof.Rows L2 Rg
section
variable {P:Program}{w:World}{K:PySem.W.Frag}{mg:Str->Option Value}{base:Heap}{C tS tN tT:Addr}
def aw (ks ms:List (List Nat)):List (List Nat):=ms.foldl bt ks
theorem kG (ks ms:List (List Nat))(m:List Nat):aw ks (ms++[m])=bt (aw ks ms) m:=by unfold aw;rw[List.foldl_append];rfl
theorem qt {ks:List (List Nat)}{m x:List Nat}:x∈bt ks m↔x∈ks\/x=m:=by
 unfold bt
 split
 ·rename_i hm
  constructor
  ·exact .inl
  ·rintro (h | h)
   ·exact h
   ·rw[h];exact hm
 ·rw[List.mem_append,List.mem_singleton]
theorem tK {ks:List (List Nat)}(h:ks.Nodup)(m:List Nat):(bt ks m).Nodup:=by
 unfold bt
 split
 ·exact h
 ·rename_i hm
  rw[List.nodup_append]
  refine⟨h,by simp,fun a ha b hb=>?_⟩
  rw[List.mem_singleton.mp hb]
  exact fun e=>hm (e▸ha)
theorem tM (ks:List (List Nat))(m:List Nat):ks.length≤(bt ks m).length:=by
 unfold bt
 split
 ·exact Nat.le_refl _
 ·rw[List.length_append];omega
theorem iD:∀(ms ks:List (List Nat)),(aw ks ms).length≤ks.length+ms.length
 | [],ks=>Nat.le_refl _
 | m::r,ks=>by
  have h1:=iD r (bt ks m)
  have h2:=kJ ks m
  show (aw (bt ks m) r).length≤_
  rw[List.length_cons]
  omega
theorem addAll_mem {x:List Nat}:∀{ms ks:List (List Nat)},x∈aw ks ms↔x∈ks\/x∈ms
 | [],ks=>by show x∈ks↔_;simp
 | m::r,ks=>by
  show x∈aw (bt ks m) r↔_
  rw[addAll_mem,qt,List.mem_cons,or_assoc]
theorem cN:∀{ms ks:List (List Nat)},ks.Nodup->(aw ks ms).Nodup
 | [],_,h=>h
 | m::r,ks,h=>cN (ms:=r) (tK h m)
theorem dU:∀(ms ks:List (List Nat)),ks.length≤(aw ks ms).length
 | [],ks=>Nat.le_refl _
 | m::r,ks=>Nat.le_trans (tM ks m) (dU r (bt ks m))
theorem oa {ks:List (List Nat)}{m:List Nat}(h:m∈ks):bt ks m=ks:=by unfold bt;rw[if_pos h]
theorem dH:∀{ms ks:List (List Nat)},(aw ks ms).length≤ks.length->∀x∈ms,x∈ks
 | [],_,_,x,hx=>by cases hx
 | m::r,ks,h,x,hx=>by
  have h1:=dU r (bt ks m)
  have h:(aw (bt ks m) r).length≤ks.length:=h
  have hm:m∈ks:=by
   by_cases z:m∈ks
   ·exact z
   ·have:(bt ks m).length=ks.length+1:=by unfold bt;rw[if_neg z,List.length_append];rfl
    omega
  rw[oa hm]at h
  rcases List.mem_cons.mp hx with e | e
  ·rw[e];exact hm
  ·exact dH h x e
theorem gc:∀{ms ks:List (List Nat)},(∀x∈ms,x∈ks)->aw ks ms=ks
 | [],_,_=>rfl
 | m::r,ks,h=>by
  show aw (bt ks m) r=ks
  rw[oa (h m List.mem_cons_self)]
  exact gc fun x hx=>h x (List.mem_cons_of_mem _ hx)
theorem ke (ks:List (List Nat)):(eR ks).length=ks.length:=by unfold eR;rw[List.length_map]
theorem qv {H:Hp}{a:Addr}{o:HO}(h:H a=some o):al H a o=H:=funext fun x=>by
 by_cases e:x=a
 ·rw[e,ae,h]
 ·rw[am e]
theorem xL {H:Hp}{d m:Addr}{o:HO}{xs:List V}(hne:d≠m)(h:SqL K H m xs):SqL K (al H d o) m xs:=by
 rcases h with (h | ⟨x,h⟩) | h
 ·exact .inl (.inl (by rw[am (Ne.symm hne)];exact h))
 ·exact .inl (.inr ⟨x,by rw[am (Ne.symm hne)];exact h⟩)
 ·exact .inr h
def n9 (K:PySem.W.Frag):Sp:=fun vs H Q _=>∃(d m:Addr) (ks ms:List (List Nat)),vs=[.ref d,.ref m]/\H d=some (.dK (eR ks))/\SqL K H m (ms.map fun l=>V.str (S l))/\d≠m/\ks.length+ms.length≤100000 /\
 Q (.bl (decide (ks.length<(aw ks ms).length))) (al H d (.dK (eR (aw ks ms))))
abbrev st_put_in:Stmt:=top 32
theorem jI:ax ["kinds","more","before","kind"] ["kinds","more"] (ak st_put_in):=⟨rfl,rfl,rfl,by decide +kernel,rfl,by decide +kernel,by decide +kernel⟩
theorem vg (R:Raw K mg "put_in" st_put_in ["kinds","more"])(T:Txt K w mg tT):Def P w K mg base 1 "put_in" ["kinds","more"] (n9 K):=by
 refine R.defJ jI (fun vs H Q E h=>?_) (fun f cdv A outer s H vs Q E hr h=>?_)
 ·obtain⟨d,m,ks,ms,rfl,_⟩:=h
  rfl
 ·obtain⟨d,m,ks,ms,rfl,hd,hS,hne,hl,q⟩:=h
  have sc:=jI
  have hu:=hr.units
  have hbg:(1000000:Nat)<sizeLine:=by rw[sizeLine_eq];decide
  refine⟨_,(ac (ao (i:=2) sc.nd rfl (Or.inl rfl) (aM (fR (K:=K) (P:=P) (w:=w)) rfl T.n_len PySem.boot_len (aa (jn 0) af)))
  (ac (aP PassesOwn.never rfl (aW (K:=K) (jn 1)) (ai (i:=3) sc.nd rfl (Or.inl rfl))
  (ag (gY hu (jn 0) (jn 3) eV)))
  (ag (aQ (jQ Ax (aM (fR (K:=K) (P:=P) (w:=w)) rfl T.n_len PySem.boot_len (aa (jn 0) af)) (jn 2)))))),?_⟩
  refine .inr (.inl ⟨d,_,rfl,hd,?_⟩)
  rw[ke]
  refine .inl ⟨⟨_,hS⟩,?_⟩
  refine aV (xs:=ms.map fun l=>V.str (S l)) (fun i σ H'=>∃v,H'=al H d (.dK (eR (aw ks (ms.take i))))/\σ=[some (.ref d),some (.ref m),some (.int (ks.length:Nat)),v]) ⟨none,by rw[show aw ks (ms.take 0)=ks from rfl,qv hd],rfl⟩ (fun i σ H' _ h=>by obtain⟨v,rfl,_⟩:=h;exact xL hne hS) ?_ ?_
  ·rintro i x σ H' hi ⟨v,rfl,rfl⟩
   rw[List.getElem?_map]at hi
   cases em:ms[i]? with
   | none=>rw[em]at hi;cases hi
   | some l =>
    rw[em]at hi
    have ex:x=V.str (S l):=(Option.some.inj hi).symm
    subst ex
    have et:ms.take (i+1)=ms.take i++[l]:=by rw[List.take_add_one,em];rfl
    have hal:=iD (ms.take i) ks
    rw[List.length_take]at hal
    refine⟨_,DPut.k (k:=.inr (S l)) ae (by rw[ke];omega),?_⟩
    exact⟨_,by rw[og,gR,et,kG],rfl⟩
  ·rintro σ H' ⟨v,rfl,rfl⟩
   rw[List.length_map,List.take_length]
   refine .inr (.inl ⟨d,_,rfl,ae,?_⟩)
   rw[ke]
   show Q (.bl (decide (((aw ks ms).length:Int)>((ks.length:Nat):Int)))) _
   rw[show decide (((aw ks ms).length:Int)>((ks.length:Nat):Int))=decide (ks.length<(aw ks ms).length) from decide_eq_decide.mpr (by omega)]
   exact q
end
end K31
--@RAISES but law
namespace K31
open PySem PySem.Spec PyProof.Rows L2 Rg
section
variable {P:Program}{w:World}{K:PySem.W.Frag}{mg:Str->Option Value}{base:Heap}{C tS tN tT:Addr}
def gk (t:Th):GK:=.inr (pK (cj t))
theorem mY {t u:Th}(h:gk t=gk u):t=u:=nK (mX (Sum.inr.inj h))
theorem bu {H:Hp}{t:Th}{b:Addr}(h:SqT K H b (pV (cj t))):KeyV K H (gk t) (.ref b):=⟨b,rfl,h⟩
abbrev dE:=Th×Addr×Addr
def aK (es:List dE):GV:=es.map fun e=>(gk e.1,V.ref e.2.1,V.ref e.2.2)
structure FI (P:Program)(w:World)(K:PySem.W.Frag)(H0 H:Hp)(d:Addr)(es:List dE)(kf:Th->List (List Nat))(ep:Nat):Prop where
 g:GAt P w K H d (aK es) ep
 v:∀e∈es,H e.2.2=some (.dK (eR (kf e.1)))
 nd:(es.map (·.2.2)).Nodup
 dd:∀e∈es,e.2.2≠d/\H0 e.2.2=none
 d0:H0 d=none
 s:Same H0 H
theorem FI.keys {H0 H:Hp}{d:Addr}{es:List dE}{kf:Th->List (List Nat)}{ep:Nat}(h:FI P w K H0 H d es kf ep):(es.map (·.1)).Nodup:=by
 have:=h.g.2.1
 unfold aK at this
 rw[List.map_map]at this
 have e:(es.map ((fun x:GK×V×V=>x.1)∘fun e:dE=>(gk e.1,V.ref e.2.1,V.ref e.2.2)))=(es.map (·.1)).map gk:=by rw[List.map_map];rfl
 rw[e]at this
 exact (List.pairwise_map.mp this).imp fun h e=>h (congrArg gk e)
theorem FI.grow {H0 H H':Hp}{d:Addr}{es:List dE}{kf:Th->List (List Nat)}{ep:Nat}(h:FI P w K H0 H d es kf ep)(s:Same H H'):FI P w K H0 H' d es kf ep :=
 ⟨h.g.same s,fun e he=>s _ _ (h.v e he),h.nd,h.dd,h.d0,h.s.trans s⟩
theorem ents_val:∀{es:List dE} {t:Th},(bW (aK es) (gk t)).isSome=true↔t∈es.map (·.1):=fun {es t}=>by
 rw[gval_mem]
 unfold aK
 rw[List.map_map]
 constructor
 ·intro h
  obtain⟨e,he,z⟩:=List.mem_map.mp h
  exact List.mem_map.mpr ⟨e,he,mY z⟩
 ·intro h
  obtain⟨e,he,z⟩:=List.mem_map.mp h
  exact List.mem_map.mpr ⟨e,he,by show gk e.1=gk t;rw[z]⟩
theorem bB:∀{es:List dE} {t:Th},t∈es.map (·.1)->∃e∈es,e.1=t/\bW (aK es) (gk t)=some (.ref e.2.2)
 | [],_,h=>by cases h
 | e::r,t,h=>by
  unfold aK bW
  rw[List.map_cons,List.find?_cons]
  by_cases z:e.1=t
  ·rw[decide_eq_true (by show gk e.1=gk t;rw[z])]
   exact⟨e,List.mem_cons_self,z,rfl⟩
  ·rw[decide_eq_false (fun y=>z (mY y))]
   have hr:t∈r.map (·.1):=by
    rcases List.mem_cons.mp h with y | y
    ·exact absurd y.symm z
    ·exact y
   obtain⟨e',he',z',v'⟩:=bB (es:=r) hr
   exact⟨e',List.mem_cons_of_mem _ he',z',v'⟩
theorem lx (es:List dE)(x:Str):bW (aK es) (.inl (.inr x))=none:=by
 unfold aK bW
 rw[Option.map_eq_none_iff,List.find?_eq_none]
 intro y hy z
 obtain⟨e,_,rfl⟩:=List.mem_map.mp hy
 have:gk e.1=.inl (.inr x):=of_decide_eq_true z
 cases this
def du (es:List dE)(t:Th)(k c:Addr):List dE:=if t∈es.map (·.1) then es.map fun e=>if e.1=t then (e.1,e.2.1,c) else e else es++[(t,k,c)]
theorem cC (es:List dE)(t:Th)(k c:Addr):cI (aK es) (gk t) (.ref k) (.ref c)=aK (du es t k c):=by
 unfold cI du
 by_cases h:t∈es.map (·.1)
 ·rw[if_pos h,if_pos (ents_val.mpr h)]
  unfold aK
  rw[List.map_map,List.map_map]
  refine List.map_congr_left fun e _=>?_
  show (if gk e.1=gk t then _ else _)=(_:GK×V×V)
  by_cases z:e.1=t
  ·rw[if_pos (congrArg gk z)]
   simp only[Function.comp,if_pos z]
  ·rw[if_neg (fun y=>z (mY y))]
   simp only[Function.comp,if_neg z]
 ·rw[if_neg h,if_neg (fun z=>h (ents_val.mp z))]
  unfold aK
  rw[List.map_append]
  rfl
theorem cL (es:List dE)(t:Th)(k c:Addr):(du es t k c).map (·.1)=if t∈es.map (·.1) then es.map (·.1) else es.map (·.1)++[t]:=by
 unfold du
 split
 ·rw[List.map_map]
  refine List.map_congr_left fun e _=>?_
  show (if e.1=t then (e.1,e.2.1,c) else e).1=e.1
  split<;>rfl
 ·rw[List.map_append];rfl
theorem bS {es:List dE}{t:Th}{k c:Addr}{e:dE}(h:e∈du es t k c):(e.1=t/\e.2.2=c)\/(e∈es/\e.1≠t):=by
 unfold du at h
 split at h
 ·obtain⟨x,hx,rfl⟩:=List.mem_map.mp h
  by_cases z:x.1=t
  ·rw[if_pos z];exact .inl ⟨z,rfl⟩
  ·rw[if_neg z];exact .inr ⟨hx,z⟩
 ·rename_i hn
  rcases List.mem_append.mp h with z | z
  ·exact .inr ⟨z,fun y=>hn (List.mem_map.mpr ⟨e,z,y⟩)⟩
  ·rw[List.mem_singleton.mp z];exact .inl ⟨rfl,rfl⟩
theorem ox {t:Th}{k c:Addr}:∀{es:List dE},(es.map (·.1)).Nodup->(es.map (·.2.2)).Nodup->(∀e∈es,e.2.2≠c)->((du es t k c).map (·.2.2)).Nodup:=fun {es} hk hn hc=>by
 unfold du
 split
 ·rw[List.map_map]
  rename_i ht
  clear ht
  induction es with
  | nil=>exact .nil
  | cons e r ih =>
   rw[List.map_cons,List.nodup_cons]at hk hn
   rw[List.map_cons,List.nodup_cons]
   refine⟨fun z=>?_,ih hk.2 hn.2 fun x hx=>hc x (List.mem_cons_of_mem _ hx)⟩
   obtain⟨x,hx,hxe⟩:=List.mem_map.mp z
   have hxe:(if x.1=t then (x.1,x.2.1,c) else x).2.2=(if e.1=t then (e.1,e.2.1,c) else e).2.2:=hxe
   by_cases z1:x.1=t<;>by_cases z2:e.1=t
   ·exact hk.1 (List.mem_map.mpr ⟨x,hx,z1.trans z2.symm⟩)
   ·rw[if_pos z1,if_neg z2]at hxe;exact hc e List.mem_cons_self hxe.symm
   ·rw[if_neg z1,if_pos z2]at hxe;exact hc x (List.mem_cons_of_mem _ hx) hxe
   ·rw[if_neg z1,if_neg z2]at hxe;exact hn.1 (List.mem_map.mpr ⟨x,hx,hxe⟩)
 ·rw[List.map_append,List.nodup_append]
  refine⟨hn,by simp,fun x hx y hy=>?_⟩
  obtain⟨e,he,rfl⟩:=List.mem_map.mp hx
  rw[List.mem_singleton.mp hy]
  exact hc e he
def ja (acc:List Th)(t:Th):List Th:=if t∈acc then acc else acc++[t]
def av (rows:List PR):List Th:=rows.foldl (fun acc r=>ja acc r.sym) []
theorem df (rows:List PR)(r:PR):av (rows++[r])=ja (av rows) r.sym:=by unfold av;rw[List.foldl_append];rfl
theorem cV (rows:List PR):∀i,(av (rows.take i)).length≤i
 | 0=>Nat.le_refl _
 | i+1=>by
  have ih:=cV rows i
  rw[List.take_add_one]
  cases rows[i]? with
  | none=>rw[show (none:Option PR).toList=[] from rfl,List.append_nil];omega
  | some r =>
   rw[show (some r).toList=[r] from rfl,df]
   unfold ja
   split
   ·omega
   ·rw[List.length_append,List.length_singleton];omega
def uM (P:Program)(w:World)(K:PySem.W.Frag):Sp:=fun vs H Q _=>∃(a:Addr) (xs:List V) (rows:List PR),vs=[.ref a]/\SqL K H a xs/\DatVs K H xs (rows.map PR.dat)/\rows.length≤50000 /\
 ∀H' d es ep,FI P w K H H' d es (fun _=>[]) ep->es.map (·.1)=av rows->Q (.ref d) H'
abbrev st_none_yet:Stmt:=top 30
theorem gG:ax ["plain","kinds","symbol","parts","rule"] ["plain"] (ak st_none_yet):=⟨rfl,rfl,rfl,by decide +kernel,rfl,by decide +kernel,by decide +kernel⟩
theorem yY (R:Raw K mg "none_yet" st_none_yet ["plain"])(T:Txt K w mg tT):Def P w K mg base 1 "none_yet" ["plain"] (uM P w K):=by
 refine R.defJ gG (fun vs H Q E h=>?_) (fun f cdv A outer s H vs Q E hr h=>?_)
 ·obtain⟨a,xs,rows,rfl,_⟩:=h
  rfl
 ·obtain⟨a,xs,rows,rfl,hS,hD,hl,q⟩:=h
  have sc:=gG
  have hu:=hr.units
  have hbg:(1000000:Nat)<sizeLine:=by rw[sizeLine_eq];decide
  have hxl:xs.length=rows.length:=by have:=hD.length;rw[List.length_map]at this;exact this
  have row:∀(i:Nat) (x:V),xs[i]?=some x->∃r t ts tp ys,rows[i]?=some r/\x=.ref t/\SqT K H t [.ref ts,.ref tp,.int r.no]/\SqT K H ts (pV (cj r.sym))/\SqT K H tp ys/\DatVs K H ys (r.ps.map bV):=fun i x hx=>by
   obtain⟨dd,hdd,hxd⟩:=hD.get hx
   rw[List.getElem?_map]at hdd
   cases ee:rows[i]? with
   | none=>rw[ee]at hdd;cases hdd
   | some r =>
    rw[ee]at hdd
    have ed:dd=r.dat:=(Option.some.inj hdd).symm
    subst ed
    obtain⟨t,ts,tp,ys,e,h1,h2,h3,h4⟩:=dJ hxd
    subst e
    exact⟨r,t,ts,tp,ys,rfl,rfl,h1,h2,h3,h4⟩
  refine⟨_,(ac (ao (i:=1) sc.nd rfl (Or.inl rfl) (gS (P:=P) (w:=w)))
  (ac (aP PassesOwn.never rfl (aW (K:=K) (jn 0)) (bD (K:=K) (n:=3) rfl (ar (ai (i:=2) sc.nd rfl (Or.inl rfl)) (ar (ai (i:=3) sc.nd rfl (Or.inl rfl)) (ar (ai (i:=4) sc.nd rfl (Or.inl rfl)) bo))))
  (ag (fA (K:=K) (P:=P) (w:=w) hu (jn 1) (jn 2) jW)))
  (ag (aQ (jn 1))))),?_⟩
  intro d hd0 hds
  refine .inl ⟨⟨_,(ah hd0).seq hS⟩,?_⟩
  refine aV (xs:=xs) (fun i σ H'=>∃(es:List dE) (ep:Nat) (v2 v3 v4:Option V),FI P w K H H' d es (fun _=>[]) ep/\es.map (·.1)=av (rows.take i)/\σ=[some (.ref a),some (.ref d),v2,v3,v4])
   ⟨[],0,none,none,none,⟨GAt.new hds,(fun e he=>nomatch he),.nil,(fun e he=>nomatch he),hd0,ah hd0⟩,rfl,rfl⟩ (fun i σ H' _ h=>by obtain⟨_,_,_,_,_,fi,_⟩:=h;exact fi.s.seq hS) ?_ ?_
  ·rintro i x σ H2 hx ⟨es,ep,v2,v3,v4,fi,hes,rfl⟩
   obtain⟨r,t,ts,tp,zs,hri,rfl,hT,hts,htp,hzs⟩:=row i x hx
   have hil:i<rows.length:=(List.getElem?_eq_some_iff.mp hri).1
   have et:rows.take (i+1)=rows.take i++[r]:=by rw[List.take_add_one,hri];rfl
   refine⟨t,_,rfl,fi.s.seqT hT,rfl,_,_,rfl,_,_,rfl,_,_,rfl,rfl,?_⟩
   intro c hc0
   have s3:Same H2 (al H2 c (.dK [])):=ah hc0
   have fi3:=fi.grow s3
   have h3:al H2 c (.dK []) c=some (.dK (eR [])):=ae
   have hcd:c≠d:=fun z=>by rw[z,fi.g.1]at hc0;cases hc0
   have hce:∀e∈es,e.2.2≠c:=fun e he z=>by have:=fi.v e he;rw[z,hc0]at this;cases this
   have hH0:H c=none:=by
    cases e:H c with
    | none=>rfl
    | some u=>have:=fi.s _ _ e;rw[hc0]at this;cases this
   generalize al H2 c (.dK [])=H3 at s3 fi3 h3 ⊢
   have hkl:(aK es).length≤i:=by
    have:=cV rows i
    rw[<-hes,List.length_map]at this
    unfold aK
    rw[List.length_map];exact this
   have hkey:=bu (fi3.s.seqT hts)
   refine⟨aK es,ep,gk r.sym,fi3.g,hkey,fun ep' _=>?_⟩
   have hg':=fi3.g.put (v:=.ref c) hkey (by omega) ep'
   rw[cC]at hg' ⊢
   refine⟨du es r.sym ts c,ep',_,_,_,⟨hg',fun e he=>?_,ox fi.keys fi.nd hce,fun e he=>?_,fi.d0,fun x u e=>?_⟩,?_,rfl⟩
   ·rcases bS he with⟨_,z⟩ | ⟨z,_⟩
    ·rw[z,am hcd];exact h3
    ·rw[am (fi.dd e z).1];exact fi3.v e z
   ·rcases bS he with⟨_,z⟩ | ⟨z,_⟩
    ·rw[z];exact⟨hcd,hH0⟩
    ·exact fi.dd e z
   ·rw[am fun z=>by rw[z,hd0]at e;cases e];exact fi3.s x u e
   ·rw[cL,hes,et,df];rfl
  ·rintro σ H2 ⟨es,ep,v2,v3,v4,fi,hes,rfl⟩
   rw[hxl,List.take_length]at hes
   exact q H2 d es ep fi hes
end
end K31
--@RAISES but law
namespace K31
open PySem PySem.Spec PyProof.Rows L2 Rg
section
variable {P:Program}{w:World}{K:PySem.W.Frag}{mg:Str->Option Value}{base:Heap}{C tS tN tT:Addr}
def cB (kf:Th->List (List Nat))(s:Sy):List (List Nat):=match s.2 with
 | none=>[s.1]
 | some m=>kf (s.1,m)
def pS (vf:Th->List Str)(s:Sy):List Str:=match s.2 with
 | none=>[S s.1]
 | some m=>vf (s.1,m)
theorem vT (kf:Th->List (List Nat))(s:Sy):(pS (fun t=>(kf t).map S) s).map V.str=(cB kf s).map fun l=>V.str (S l):=by
 obtain⟨l,o⟩:=s
 cases o with
 | none=>rfl
 | some m=>show ((kf (l,m)).map S).map V.str=_;rw[List.map_map];rfl
def uV (P:Program)(w:World)(K:PySem.W.Frag):Sp:=fun vs H Q _=>∃(d:Addr) (es:List dE) (vf:Th->List Str) (ep:Nat) (x:V) (s:Sy),vs=[.ref d,x]/\GAt P w K H d (aK es) ep/\(∀e∈es,(∃ks:List (List Nat),vf e.1=ks.map S/\H e.2.2=some (.dK (eR ks))/\ks.length≤100000)\/H e.2.2=some (.lst ((vf e.1).map V.str)))/\DatV K H x (bV s)/\(∀m,s.2=some m->(s.1,m)∈es.map (·.1)) /\
 ∀H' p,Same H H'->H p=none->H' p=some (.lst ((pS vf s).map V.str))->Q (.ref p) H'
abbrev st_firsts_of:Stmt:=top 31
theorem ft:ax ["firsts","part"] ["firsts","part"] (ak st_firsts_of):=⟨rfl,rfl,rfl,by decide +kernel,rfl,by decide +kernel,by decide +kernel⟩
theorem xt (R:Raw K mg "firsts_of" st_firsts_of ["firsts","part"])(T:Txt K w mg tT):Def P w K mg base 1 "firsts_of" ["firsts","part"] (uV P w K):=by
 refine R.defJ ft (fun vs H Q E h=>?_) (fun f cdv A outer s H vs Q E hr h=>?_)
 ·obtain⟨d,es,vf,ep,x,s,rfl,_⟩:=h
  rfl
 ·obtain⟨d,es,vf,ep,x,sy,rfl,g,hv0,hx,hin,q⟩:=h
  have sc:=ft
  have hu:=hr.units
  have hbg:(1000000:Nat)<sizeLine:=by rw[sizeLine_eq];decide
  refine⟨_,(ag (aQ (lI (aA (wz hu (K:=K) (P:=P) (w:=w)) (jn 1) (jn 0)) (bK (oN rfl (K:=K)) rfl T.n_list boot_list (aa (aO (fH hu (K:=K) (P:=P) (w:=w)) (jn 0) (jn 1)) af)) (bU (aa (jn 1) af))))),?_⟩
  rcases gh hx with⟨e1,rfl⟩ | ⟨m,p,e1,rfl,hp⟩
  ·refine .inl ⟨d,aK es,ep,.inl (.inr (S sy.1)),rfl,g,rfl,?_⟩
   rw[lx]
   refine⟨(show 1≤sizeLine by decide),fun p hp=>?_⟩
   exact q _ p (ah hp) hp (by rw[ae];unfold pS;rw[e1];rfl)
  ·have ht:=hin m e1
   have hkey:KeyV K H (gk (sy.1,m)) (.ref p):=bu hp
   refine .inl ⟨d,aK es,ep,gk (sy.1,m),rfl,g,hkey,?_⟩
   rw[ents_val.mpr ht]
   obtain⟨e,he,ee,hv⟩:=bB ht
   refine .inl ⟨d,aK es,ep,gk (sy.1,m),.ref e.2.2,rfl,g,hkey,hv,?_⟩
   have ef:pS vf sy=vf e.1:=by unfold pS;rw[e1,ee]
   rcases hv0 e he with⟨ks,ek,hd,hkl⟩ | hd
   ·refine .inl ⟨ks.map fun l=>(S l,.bl true),by rw[List.map_map];exact hd,by rw[List.length_map];exact hkl,fun p' hp'=>?_⟩
    exact q _ p' (ah hp') hp' (by rw[ae,List.map_map,ef,ek,List.map_map];rfl)
   ·refine .inr ⟨_,.inl (SqL.of hd),fun p' hp'=>?_⟩
    exact q _ p' (ah hp') hp' (by rw[ae,ef])
theorem rZ:∀{es:List dE},(es.map (·.1)).Nodup->∀{e e':dE},e∈es->e'∈es->e.1=e'.1->e=e'
 | [],_,_,_,h,_,_=>by cases h
 | x::r,hn,e,e',h,h',ee=>by
  rw[List.map_cons,List.nodup_cons]at hn
  rcases List.mem_cons.mp h with z | z<;>rcases List.mem_cons.mp h' with z' | z'
  ·rw[z,z']
  ·exact absurd (List.mem_map.mpr ⟨e',z',by rw[<-ee,z]⟩) hn.1
  ·exact absurd (List.mem_map.mpr ⟨e,z,by rw[ee,z']⟩) hn.1
  ·exact rZ hn.2 z z' ee
theorem rR:∀{es:List dE},(es.map (·.2.2)).Nodup->∀{e e':dE},e∈es->e'∈es->e.2.2=e'.2.2->e=e'
 | [],_,_,_,h,_,_=>by cases h
 | x::r,hn,e,e',h,h',ee=>by
  rw[List.map_cons,List.nodup_cons]at hn
  rcases List.mem_cons.mp h with z | z<;>rcases List.mem_cons.mp h' with z' | z'
  ·rw[z,z']
  ·exact absurd (List.mem_map.mpr ⟨e',z',by rw[<-ee,z]⟩) hn.1
  ·exact absurd (List.mem_map.mpr ⟨e,z,by rw[ee,z']⟩) hn.1
  ·exact rR hn.2 z z' ee
theorem FI.put {H0 H:Hp}{d:Addr}{es:List dE}{kf:Th->List (List Nat)}{ep:Nat}(h:FI P w K H0 H d es kf ep){e:dE}(he:e∈es)(ks:List (List Nat)) :
  FI P w K H0 (al H e.2.2 (.dK (eR ks))) d es (fun u=>if u=e.1 then ks else kf u) ep:=by
 have hd:=h.v e he
 refine⟨h.g.keeps (ph hd) (am (Ne.symm (h.dd e he).1)),fun e' he'=>?_,h.nd,h.dd,h.d0,fun x u z=>?_⟩
 ·by_cases y:e'.1=e.1
  ·have:=rZ h.keys he' he y
   subst this
   rw[ae,if_pos rfl]
  ·rw[am fun z=>y (by rw[rR h.nd he' he z]),if_neg y]
   exact h.v e' he'
 ·rw[am fun y=>by rw[y,(h.dd e he).2]at z;cases z];exact h.s x u z
inductive FK (rows:List PR):Th->List Nat->Prop
 | word {r:PR} {l:List Nat}:r∈rows->r.ps[0]?=some (l,none)->FK rows r.sym l
 | step {r:PR} {s:List Nat} {m:Int} {l:List Nat}:r∈rows->r.ps[0]?=some (s,some m)->FK rows (s,m) l->FK rows r.sym l
theorem FK.least {rows:List PR}{kf:Th->List (List Nat)}(hc:∀r∈rows,∀s,r.ps[0]?=some s->∀l∈cB kf s,l∈kf r.sym){t:Th}{l:List Nat}(h:FK rows t l):l∈kf t:=by
 induction h with
 | word hr hp=>exact hc _ hr _ hp _ (by unfold cB;exact List.mem_singleton.mpr rfl)
 | step hr hp _ ih=>exact hc _ hr _ hp _ (by unfold cB;exact ih)
theorem FK.of {rows:List PR}{kf:Th->List (List Nat)}(hk:∀t l,l∈kf t->FK rows t l){r:PR}(hr:r∈rows){s:Sy}(hs:r.ps[0]?=some s){l:List Nat}(h:l∈cB kf s):FK rows r.sym l:=by
 obtain⟨x,o⟩:=s
 cases o with
 | none=>rw[List.mem_singleton.mp h];exact .word hr hs
 | some m=>exact .step hr hs (hk _ _ h)
end
end K31
--@RAISES but law
namespace K31
open PySem PySem.Spec PyProof.Rows L2 Rg
section
variable {P:Program}{w:World}{K:PySem.W.Frag}{mg:Str->Option Value}{base:Heap}{C tS tN tT:Addr}
structure TD (P:Program)(w:World)(K:PySem.W.Frag)(H0 H:Hp)(d:Addr)(es:List dE)(ns:Th->List Str)(ep:Nat):Prop where
 g:GAt P w K H d (aK es) ep
 v:∀e∈es,H e.2.2=some (.lst ((ns e.1).map V.str))
 nd:(es.map (·.2.2)).Nodup
 dd:∀e∈es,e.2.2≠d/\H0 e.2.2=none
 d0:H0 d=none
 s:Same H0 H
theorem TD.keys {H0 H:Hp}{d:Addr}{es:List dE}{ns:Th->List Str}{ep:Nat}(h:TD P w K H0 H d es ns ep):(es.map (·.1)).Nodup:=by
 have:=h.g.2.1
 unfold aK at this
 rw[List.map_map]at this
 have e:(es.map ((fun x:GK×V×V=>x.1)∘fun e:dE=>(gk e.1,V.ref e.2.1,V.ref e.2.2)))=(es.map (·.1)).map gk:=by rw[List.map_map];rfl
 rw[e]at this
 exact (List.pairwise_map.mp this).imp fun h e=>h (congrArg gk e)
theorem TD.grow {H0 H H':Hp}{d:Addr}{es:List dE}{ns:Th->List Str}{ep:Nat}(h:TD P w K H0 H d es ns ep)(s:Same H H'):TD P w K H0 H' d es ns ep :=
 ⟨h.g.same s,fun e he=>s _ _ (h.v e he),h.nd,h.dd,h.d0,h.s.trans s⟩
theorem TD.put {H0 H:Hp}{d:Addr}{es:List dE}{ns:Th->List Str}{ep:Nat}(h:TD P w K H0 H d es ns ep){t:Th}{k c:Addr}{n:List Str}(hk:SqT K H k (pV (cj t)))(hc:H c=some (.lst (n.map V.str)))(hc0:H0 c=none)(hcd:c≠d)(hce:∀e∈es,e.2.2≠c)(hl:es.length<100000)(ep':Nat) :
  TD P w K H0 (al H d (cA P w d (aK (du es t k c)) ep')) d (du es t k c) (fun u=>if u=t then n else ns u) ep':=by
 have hg':=h.g.put (v:=.ref c) (bu hk) (by unfold aK;rw[List.length_map];exact hl) ep'
 rw[cC]at hg'
 refine⟨hg',fun e he=>?_,ox h.keys h.nd hce,fun e he=>?_,h.d0,fun x u e=>?_⟩
 ·rcases bS he with⟨z1,z⟩ | ⟨z,z1⟩
  ·rw[z,am hcd,z1,if_pos rfl];exact hc
  ·rw[am (h.dd e z).1,if_neg z1];exact h.v e z
 ·rcases bS he with⟨_,z⟩ | ⟨z,_⟩
  ·rw[z];exact⟨hcd,hc0⟩
  ·exact h.dd e z
 ·rw[am fun z=>by rw[z,h.d0]at e;cases e];exact h.s x u e
def vp (P:Program)(w:World)(K:PySem.W.Frag):Sp:=fun vs H Q _=>∃(H0:Hp) (d:Addr) (es:List dE) (kf:Th->List (List Nat)) (ep:Nat),vs=[.ref d]/\FI P w K H0 H d es kf ep/\es.length≤50000/\(∀t,(kf t).length<64) /\
 ∀H' d' es' ns ep',TD P w K H H' d' es' ns ep'->es'.map (·.1)=es.map (·.1)->(∀e∈es',(ns e.1).Perm ((kf e.1).map S)/\sortedS (ns e.1)=true)->Q (.ref d') H'
abbrev st_sorted_lists:Stmt:=top 33
theorem dj:ax ["kinds","told","symbol"] ["kinds"] (ak st_sorted_lists):=⟨rfl,rfl,rfl,by decide +kernel,rfl,by decide +kernel,by decide +kernel⟩
theorem xb (R:Raw K mg "sorted_lists" st_sorted_lists ["kinds"])(T:Txt K w mg tT):Def P w K mg base 1 "sorted_lists" ["kinds"] (vp P w K):=by
 refine R.defJ dj (fun vs H Q E h=>?_) (fun f cdv A outer s H vs Q E hr h=>?_)
 ·obtain⟨H0,d,es,kf,ep,rfl,_⟩:=h
  rfl
 ·obtain⟨H0,d,es,kf,ep,rfl,fi,hl,hkl,q⟩:=h
  have sc:=dj
  have hu:=hr.units
  have hbg:(1000000:Nat)<sizeLine:=by rw[sizeLine_eq];decide
  refine⟨_,(ac (ao (i:=1) sc.nd rfl (Or.inl rfl) (gS (P:=P) (w:=w)))
  (ac (aP PassesOwn.never rfl (hG (K:=K) (P:=P) (w:=w) (jn 0)) (ai (i:=2) sc.nd rfl (Or.inl rfl))
  (ag (fA (K:=K) (P:=P) (w:=w) hu (jn 1) (jn 2) (aM (tQ rfl) rfl T.n_sorted boot_sorted (aa (aO (fH hu (K:=K) (P:=P) (w:=w)) (jn 0) (jn 2)) af)))))
  (ag (aQ (jn 1))))),?_⟩
  intro d' hd0 hds
  have eks:(aK es).map (·.2.1)=es.map fun e=>V.ref e.2.1:=by unfold aK;rw[List.map_map];rfl
  refine⟨aK es,ep,(fi.grow (ah hd0)).g,?_⟩
  rw[eks]
  refine fE (fun i σ H'=>∃(es':List dE) (ns:Th->List Str) (ep':Nat) (v2:Option V),TD P w K H H' d' es' ns ep'/\es'.map (·.1)=(es.take i).map (·.1)/\(∀e∈es',(ns e.1).Perm ((kf e.1).map S)/\sortedS (ns e.1)=true)/\σ=[some (.ref d),some (.ref d'),v2])
   ⟨[],fun _=>[],0,none,⟨GAt.new hds,(fun e he=>nomatch he),.nil,(fun e he=>nomatch he),hd0,ah hd0⟩,rfl,(fun e he=>nomatch he),rfl⟩ (fun i σ H' _ h=>by obtain⟨_,_,_,_,td,_⟩:=h;exact⟨aK es,(fi.grow td.s).g,eks⟩) ?_ ?_
  ·rintro i x σ H2 hx ⟨es',ns,ep',v2,td,hes,hns,rfl⟩
   rw[List.getElem?_map]at hx
   cases ei:es[i]? with
   | none=>rw[ei]at hx;cases hx
   | some e =>
    rw[ei]at hx
    have ex:x=V.ref e.2.1:=(Option.some.inj hx).symm
    subst ex
    have me:=List.mem_of_getElem? ei
    have hil:i<es.length:=(List.getElem?_eq_some_iff.mp ei).1
    have fi2:=fi.grow td.s
    have hkey:KeyV K H2 (gk e.1) (.ref e.2.1):=fi2.g.2.2.2.2 (gk e.1,.ref e.2.1,.ref e.2.2) (List.mem_map.mpr ⟨e,me,rfl⟩)
    have hsq:SqT K H2 e.2.1 (pV (cj e.1)):=by obtain⟨b,eb,hb⟩:=hkey;cases eb;exact hb
    obtain⟨e2,me2,ee2,hv2⟩:=bB (es:=es) (t:=e.1) (List.mem_map.mpr ⟨e,me,rfl⟩)
    have eq2:=rZ fi.keys me2 me ee2
    rw[eq2]at hv2
    refine .inl ⟨d,aK es,ep,gk e.1,.ref e.2.2,rfl,fi2.g,hkey,hv2,?_⟩
    refine⟨(kf e.1).map fun l=>(S l,.bl true),by rw[List.map_map];exact fi2.v e me,by rw[List.length_map];exact hkl _,fun c n hc0 hpm hsr=>?_⟩
    rw[List.map_map]at hpm
    have s3:Same H2 (al H2 c (.lst (n.map V.str))):=ah hc0
    have td3:=td.grow s3
    have h3:al H2 c (.lst (n.map V.str)) c=some (.lst (n.map V.str)):=ae
    have hcd:c≠d':=fun z=>by rw[z,td.g.1]at hc0;cases hc0
    have hce:∀e∈es',e.2.2≠c:=fun e he z=>by have:=td.v e he;rw[z,hc0]at this;cases this
    have hH0:H c=none:=by
     cases e:H c with
     | none=>rfl
     | some u=>have:=td.s _ _ e;rw[hc0]at this;cases this
    generalize al H2 c (.lst (n.map V.str))=H3 at s3 td3 h3 ⊢
    have hel:es'.length=i:=by have:=congrArg List.length hes;rw[List.length_map,List.length_map,List.length_take]at this;omega
    refine⟨aK es',ep',gk e.1,td3.g,bu (s3.seqT hsq),fun ep2 _=>?_⟩
    rw[cC]
    have hnot:e.1∉es'.map (·.1):=fun z=>by
     rw[hes]at z
     have hn:=fi.keys
     have et:es.take (i+1)=es.take i++[e]:=by rw[List.take_add_one,ei];rfl
     have h4:(es.take (i+1)).map (·.1)=(es.take i).map (·.1)++[e.1]:=by rw[et,List.map_append];rfl
     have h5:((es.take (i+1)).map (·.1)).Nodup:=by rw[List.map_take];exact hn.sublist (List.take_sublist _ _)
     rw[h4,List.nodup_append]at h5
     exact h5.2.2 _ z _ (List.mem_singleton.mpr rfl) rfl
    refine⟨du es' e.1 e.2.1 c,_,ep2,_,td3.put (s3.seqT hsq) h3 hH0 hcd hce (by omega) ep2,?_,fun e' he'=>?_,rfl⟩
    ·rw[cL,if_neg hnot,hes,List.take_add_one,ei,List.map_append];rfl
    ·rcases bS he' with⟨z1,_⟩ | ⟨z,z1⟩
     ·rw[if_pos z1,z1]
      exact⟨hpm,hsr⟩
     ·rw[if_neg z1];exact hns e' z
  ·rintro σ H2 ⟨es',ns,ep',v2,td,hes,hns,rfl⟩
   rw[List.length_map,List.take_length]at hes
   exact q H2 d' es' ns ep' td hes hns
end
end K31
--@RAISES but law
namespace K31
open PySem PySem.Spec PyProof.Rows L2 Rg
section
variable {P:Program}{w:World}{K:PySem.W.Frag}{mg:Str->Option Value}{base:Heap}{C tS tN tT:Addr}
theorem qr {α:Type}{f g:α->Nat}(h:∀t,f t≤g t):∀S:List α,(S.map f).sum≤(S.map g).sum
 | []=>Nat.le_refl _
 | x::r=>by
  have:=qr h r
  have:=h x
  rw[List.map_cons,List.map_cons,List.sum_cons,List.sum_cons]
  omega
theorem mC {α:Type}{f g:α->Nat}(h:∀t,f t≤g t){t:α}(hlt:f t<g t):∀{S:List α},t∈S->(S.map f).sum<(S.map g).sum
 | [],ht=>by cases ht
 | x::r,ht=>by
  have h1:=qr h r
  have h2:=h x
  rw[List.map_cons,List.map_cons,List.sum_cons,List.sum_cons]
  rcases List.mem_cons.mp ht with e | e
  ·rw[e]at hlt;omega
  ·have:=mC h hlt e;omega
theorem mT {α:Type}{f:α->Nat}{B:Nat}(h:∀t,f t≤B):∀S:List α,(S.map f).sum≤S.length*B
 | []=>Nat.zero_le _
 | x::r=>by
  have h1:=mT h r
  have h2:=h x
  rw[List.map_cons,List.sum_cons,List.length_cons,Nat.add_mul]
  omega
theorem eK {α:Type}[DecidableEq α]:∀{l U:List α},l.Nodup->(∀x∈l,x∈U)->l.length≤U.length
 | [],_,_,_=>Nat.zero_le _
 | x::r,U,hn,h=>by
  rw[List.nodup_cons]at hn
  have hx:=h x List.mem_cons_self
  have:=eK (U:=U.erase x) hn.2 fun y hy=>(List.mem_erase_of_ne fun e:y=x=>hn.1 (e▸hy)).mpr (h y (List.mem_cons_of_mem _ hy))
  rw[List.length_erase_of_mem hx]at this
  have:=List.length_pos_of_mem hx
  rw[List.length_cons]
  omega
theorem lX:∀(rows:List PR) (acc:List Th) (t:Th),t∈rows.foldl (fun acc r=>ja acc r.sym) acc↔t∈acc\/∃r∈rows,r.sym=t
 | [],acc,t=>by simp
 | q::r,acc,t=>by
  rw[List.foldl_cons,lX r]
  have:t∈ja acc q.sym↔t∈acc\/q.sym=t:=by
   unfold ja
   split
   ·rename_i h
    constructor
    ·exact .inl
    ·rintro (z | z)
     ·exact z
     ·rw[<-z];exact h
   ·rw[List.mem_append,List.mem_singleton]
    constructor
    ·rintro (z | z)
     ·exact .inl z
     ·exact .inr z.symm
    ·rintro (z | z)
     ·exact .inl z
     ·exact .inr z.symm
  rw[this]
  constructor
  ·rintro ((z | z) | ⟨x,hx,z⟩)
   ·exact .inl z
   ·exact .inr ⟨q,List.mem_cons_self,z⟩
   ·exact .inr ⟨x,List.mem_cons_of_mem _ hx,z⟩
  ·rintro (z | ⟨x,hx,z⟩)
   ·exact .inl (.inl z)
   ·rcases List.mem_cons.mp hx with y | y
    ·rw[y]at z;exact .inl (.inr z)
    ·exact .inr ⟨x,y,z⟩
theorem mem_symsF {rows:List PR}{t:Th}:t∈av rows↔∃r∈rows,r.sym=t:=by unfold av;rw[lX];simp
theorem bj {H0 H:Hp}(s:Same H0 H){x:Addr}(h:H x=none):H0 x=none:=by
 cases e:H0 x with
 | none=>rfl
 | some u=>have:=s _ _ e;rw[h]at this;cases this
def An (P:Program)(w:World)(K:PySem.W.Frag):Sp:=fun vs H Q _=>∃(a:Addr) (xs:List V) (rows:List PR) (U:List (List Nat)),vs=[.ref a]/\SqL K H a xs/\DatVs K H xs (rows.map PR.dat)/\rows.length≤50000/\(∀r∈rows,1≤r.ps.length) /\
 (∀r∈rows,∀s m,r.ps[0]?=some (s,some m)->(s,m)∈av rows)/\(∀t l,FK rows t l->l∈U)/\U.length<64 /\
 ∀H' d es ns ep,TD P w K H H' d es ns ep->es.map (·.1)=av rows->(∀e∈es,sortedS (ns e.1)=true/\∃ks:List (List Nat),ks.Nodup/\(ns e.1).Perm (ks.map S)/\∀l,l∈ks↔FK rows e.1 l)->Q (.ref d) H'
abbrev st_first_kinds:Stmt:=top 28
theorem dL:ax ["plain","firsts","grown","symbol","parts","rule"] ["plain"] (ak st_first_kinds):=⟨rfl,rfl,rfl,by decide +kernel,rfl,by decide +kernel,by decide +kernel⟩
theorem xA (R:Raw K mg "first_kinds" st_first_kinds ["plain"])(T:Txt K w mg tT)(D_none_yet:Def P w K mg base 1 "none_yet" ["plain"] (uM P w K))(D_put_in:Def P w K mg base 1 "put_in" ["kinds","more"] (n9 K))(D_firsts_of:Def P w K mg base 1 "firsts_of" ["firsts","part"] (uV P w K))(D_sorted_lists:Def P w K mg base 1 "sorted_lists" ["kinds"] (vp P w K)):Def P w K mg base 2 "first_kinds" ["plain"] (An P w K):=by
 refine R.defJ dL (fun vs H Q E h=>?_) (fun f cdv A outer s H vs Q E hr h=>?_)
 ·obtain⟨a,xs,rows,U,rfl,_⟩:=h
  rfl
 ·obtain⟨a,xs,rows,U,rfl,hS,hD,hl,hps,hsy,hU,hU64,q⟩:=h
  have sc:=dL
  have hu:=hr.units
  have hbg:(1000000:Nat)<sizeLine:=by rw[sizeLine_eq];decide
  have hxl:xs.length=rows.length:=by have:=hD.length;rw[List.length_map]at this;exact this
  have row:∀(i:Nat) (x:V),xs[i]?=some x->∃r t ts tp ys,rows[i]?=some r/\x=.ref t/\SqT K H t [.ref ts,.ref tp,.int r.no]/\SqT K H ts (pV (cj r.sym))/\SqT K H tp ys/\DatVs K H ys (r.ps.map bV):=fun i x hx=>by
   obtain⟨dd,hdd,hxd⟩:=hD.get hx
   rw[List.getElem?_map]at hdd
   cases ee:rows[i]? with
   | none=>rw[ee]at hdd;cases hdd
   | some r =>
    rw[ee]at hdd
    have ed:dd=r.dat:=(Option.some.inj hdd).symm
    subst ed
    obtain⟨t,ts,tp,ys,e,h1,h2,h3,h4⟩:=dJ hxd
    exact⟨r,t,ts,tp,ys,rfl,e,h1,h2,h3,h4⟩
  refine⟨_,(ac (ao (i:=1) sc.nd rfl (Or.inl rfl) (bg D_none_yet (hr.mono (by decide)) rfl (aa (jn 0) af)))
  (ac (ao (i:=2) sc.nd rfl (Or.inl rfl) eV)
  (ac (cW PassesOwn.never (dA (K:=K) (jn 2))
  (ac (ao (i:=2) sc.nd rfl (Or.inl rfl) eV)
  (ag (aP PassesOwn.never rfl (aW (K:=K) (jn 0)) (bD (K:=K) (n:=3) rfl (ar (ai (i:=3) sc.nd rfl (Or.inl rfl)) (ar (ai (i:=4) sc.nd rfl (Or.inl rfl)) (ar (ai (i:=5) sc.nd rfl (Or.inl rfl)) bo))))
  (ag (ao (i:=2) sc.nd rfl (Or.inl rfl) (yA (bg D_put_in (hr.mono (by decide)) rfl (aa (aO (fH hu (K:=K) (P:=P) (w:=w)) (jn 1) (jn 3)) (aa (bg D_firsts_of (hr.mono (by decide)) rfl (aa (jn 1) (aa (aO (aU hu (K:=K) (w:=w)) (jn 4) ap) af))) af))) (tG (jn 2)))))))))
  (ag (aQ (bg D_sorted_lists (hr.mono (by decide)) rfl (aa (jn 1) af))))))),?_⟩
  refine⟨a,xs,rows,rfl,hS,hD,hl,fun H1 d es ep fi hes=>?_⟩
  obtain⟨N,eN⟩:∃N,N=(av rows).length*U.length:=⟨_,rfl⟩
  have bd:∀kf:Th->List (List Nat),((∀t,(kf t).Nodup)/\∀t l,l∈kf t->FK rows t l)->(∀t,(kf t).length≤U.length)/\((av rows).map fun t=>(kf t).length).sum≤N:=fun kf g=>by
   have h1:∀t,(kf t).length≤U.length:=fun t=>eK (g.1 t) fun x hx=>hU t x (g.2 t x hx)
   exact⟨h1,by rw[eN];exact mT h1 _⟩
  refine⟨fun m σ H'=>∃(kf:Th->List (List Nat)) (g:Bool) (v3 v4 v5:Option V),FI P w K H H' d es kf ep/\((∀t,(kf t).Nodup)/\∀t l,l∈kf t->FK rows t l)/\(g=true->m=N-((av rows).map fun t=>(kf t).length).sum+1)/\(g=false->m=0/\∀r∈rows,∀s,r.ps[0]?=some s->∀l∈cB kf s,l∈kf r.sym)/\σ=[some (.ref a),some (.ref d),some (.bl g),v3,v4,v5],
   ⟨_,fun _=>[],true,none,none,none,fi,⟨fun _=>.nil,fun t l h=>nomatch h⟩,fun _=>rfl,(fun z=>nomatch z),rfl⟩,?_⟩
  rintro m σ H2 ⟨kf,g,v3,v4,v5,fi2,gd,m1,m2,rfl⟩
  refine⟨g,rfl,?_⟩
  show if g=true then _ else _
  refine bc (fun hg=>?_) (fun hg=>?_)
  ·refine⟨_,fun σ' H' h=>h,?_⟩
   refine .inl ⟨⟨_,fi2.s.seq hS⟩,?_⟩
   refine aV (xs:=xs) (fun i σ H'=>∃(kf':Th->List (List Nat)) (g':Bool) (v3 v4 v5:Option V),FI P w K H H' d es kf' ep/\((∀t,(kf' t).Nodup)/\∀t l,l∈kf' t->FK rows t l)/\(g'=true->((av rows).map fun t=>(kf t).length).sum<((av rows).map fun t=>(kf' t).length).sum)/\(g'=false->kf'=kf/\∀(j:Nat) (r:PR) (s:Sy),j<i->rows[j]?=some r->r.ps[0]?=some s->∀l∈cB kf s,l∈kf r.sym)/\((av rows).map fun t=>(kf t).length).sum≤((av rows).map fun t=>(kf' t).length).sum/\σ=[some (.ref a),some (.ref d),some (.bl g'),v3,v4,v5])
    ⟨kf,false,v3,v4,v5,fi2,gd,(fun z=>nomatch z),(fun _=>⟨rfl,fun j r s hj=>absurd hj (Nat.not_lt_zero _)⟩),Nat.le_refl _,rfl⟩ (fun i σ H' _ h=>by obtain⟨_,_,_,_,_,fi3,_⟩:=h;exact fi3.s.seq hS) ?_ ?_
   ·rintro i x σ H3 hx ⟨kf',g',v3,v4,v5,fi3,gd3,g1,g2,g3,rfl⟩
    obtain⟨r,t,ts,tp,ys,hri,rfl,hT,hts,htp,hys⟩:=row i x hx
    have mr:r∈rows:=List.mem_of_getElem? hri
    have hyl:ys.length=r.ps.length:=by have:=hys.length;rw[List.length_map]at this;exact this
    have hp1:=hps r mr
    refine⟨t,_,rfl,fi3.s.seqT hT,rfl,_,_,rfl,_,_,rfl,_,_,rfl,rfl,?_⟩
    have hmem:r.sym∈es.map (·.1):=by rw[hes];exact mem_symsF.mpr ⟨r,mr,rfl⟩
    obtain⟨e,me,ee,hv⟩:=bB hmem
    refine .inl ⟨d,aK es,ep,gk r.sym,.ref e.2.2,rfl,fi3.g,bu (fi3.s.seqT hts),hv,?_⟩
    have hy0:ys[0]?=some (ys[0]'(by omega)):=List.getElem?_eq_getElem (by omega)
    generalize ys[0]'(by omega)=y at hy0
    obtain⟨dd,hdd,hyd⟩:=hys.get hy0
    rw[List.getElem?_map]at hdd
    cases es0:r.ps[0]? with
    | none=>rw[es0]at hdd;cases hdd
    | some sy =>
     rw[es0]at hdd
     have ed:dd=bV sy:=(Option.some.inj hdd).symm
     subst ed
     have b3:=(bd kf' gd3).1
     refine .inr ⟨_,y,fi3.s.seqT htp,aq hy0,?_⟩
     refine⟨d,es,fun t=>(kf' t).map S,ep,y,sy,rfl,fi3.g,(fun e he=>.inl ⟨kf' e.1,rfl,fi3.v e he,by have:=b3 e.1;omega⟩),hyd.same fi3.s,fun m hm=>?_,fun H4 p s4 hp0 hp4=>?_⟩
     ·rw[hes]
      exact hsy r mr sy.1 m (by rw[es0,<-hm])
     ·rw[vT]at hp4
      have fi4:=fi3.grow s4
      have hd4:=fi4.v e me
      rw[ee]at hd4
      have hfl:(cB kf' sy).length≤64:=by
       unfold cB
       split
       ·exact (show 1≤64 by decide)
       ·have:=b3 (sy.1,‹Int›);omega
      refine⟨e.2.2,p,kf' r.sym,cB kf' sy,rfl,hd4,SqL.of hp4,(fun z=>by have:=fi3.v e me;rw[z,hp0]at this;cases this),by have:=b3 r.sym;omega,?_⟩
      have fi5:=fi4.put me (aw (kf' r.sym) (cB kf' sy))
      have gd5:(∀t,((fun u=>if u=e.1 then aw (kf' r.sym) (cB kf' sy) else kf' u) t).Nodup)/\∀t l,l∈(fun u=>if u=e.1 then aw (kf' r.sym) (cB kf' sy) else kf' u) t->FK rows t l:=by
       refine⟨fun t=>?_,fun t l hl=>?_⟩
       ·dsimp only
        split
        ·exact cN (gd3.1 _)
        ·exact gd3.1 t
       ·dsimp only at hl
        split at hl
        ·rename_i z
         rw[z,ee]
         rcases addAll_mem.mp hl with y | y
         ·exact gd3.2 _ _ y
         ·exact FK.of gd3.2 mr es0 y
        ·exact gd3.2 t l hl
      by_cases hb:(kf' r.sym).length<(aw (kf' r.sym) (cB kf' sy)).length
      ·rw[decide_eq_true hb]
       have hle:∀t,(kf' t).length≤((fun u=>if u=e.1 then aw (kf' r.sym) (cB kf' sy) else kf' u) t).length:=fun t=>by
        dsimp only
        split
        ·rename_i z;rw[z,ee];exact dU _ _
        ·exact Nat.le_refl _
       have hlt:=mC (f:=fun t=>(kf' t).length) (g:=fun t=>((fun u=>if u=e.1 then aw (kf' r.sym) (cB kf' sy) else kf' u) t).length) hle (t:=r.sym) (by dsimp only;rw[if_pos ee.symm];exact hb) (mem_symsF.mpr ⟨r,mr,rfl⟩)
       exact⟨_,true,_,_,_,fi5,gd5,fun _=>Nat.lt_of_le_of_lt g3 hlt,(fun z=>nomatch z),Nat.le_of_lt (Nat.lt_of_le_of_lt g3 hlt),rfl⟩
      ·rw[decide_eq_false hb]
       have hall:=dH (Nat.le_of_not_lt hb)
       have eid:=gc hall
       have ekf:(fun u=>if u=e.1 then aw (kf' r.sym) (cB kf' sy) else kf' u)=kf':=funext fun u=>by
        rw[eid]
        by_cases z:u=e.1
        ·rw[if_pos z,z,ee]
        ·rw[if_neg z]
       rw[ekf]at fi5
       refine⟨kf',g',_,_,_,fi5,gd3,g1,fun z=>?_,g3,rfl⟩
       obtain⟨e9,g9⟩:=g2 z
       refine⟨e9,fun j r' s' hj hr' hs'=>?_⟩
       by_cases hji:j=i
       ·rw[hji,hri]at hr'
        have er:=Option.some.inj hr'
        subst er
        rw[es0]at hs'
        have e8:=Option.some.inj hs'
        subst e8
        rw[<-e9]
        exact hall
       ·exact g9 j r' s' (by omega) hr' hs'
   ·rintro σ H3 ⟨kf',g',v3,v4,v5,fi3,gd3,g1,g2,g3,rfl⟩
    have b2:=(bd kf gd).2
    have b3:=(bd kf' gd3).2
    have em:=m1 hg
    cases g' with
    | true =>
     have:=g1 rfl
     exact⟨_,by omega,kf',true,_,_,_,fi3,gd3,fun _=>rfl,(fun z=>nomatch z),rfl⟩
    | false =>
     obtain⟨e9,g9⟩:=g2 rfl
     subst e9
     refine⟨0,by omega,kf',false,_,_,_,fi3,gd3,(fun z=>nomatch z),fun _=>⟨rfl,fun r hr s hs=>?_⟩,rfl⟩
     obtain⟨k,hk,ek⟩:=List.mem_iff_getElem.mp hr
     exact g9 k r s (by omega) (by rw[List.getElem?_eq_getElem hk,ek]) hs
  ·have hg0:g=false:=by cases g with | true=>exact absurd rfl hg | false=>rfl
   have hcl:=(m2 hg0).2
   have b3:=(bd kf gd).1
   have hel:es.length≤50000:=by
    have h1:=cV rows rows.length
    rw[List.take_length,<-hes,List.length_map]at h1
    omega
   refine⟨H,d,es,kf,ep,rfl,fi2,hel,fun t=>by have:=b3 t;omega,fun H3 d' es' ns ep' td hes' hns=>?_⟩
   refine q H3 d' es' ns ep' ?_ (hes'.trans hes) fun e he=>⟨(hns e he).2,kf e.1,gd.1 _,(hns e he).1,fun l=>⟨gd.2 _ _,FK.least hcl⟩⟩
   exact⟨td.g,td.v,td.nd,fun e he=>⟨(td.dd e he).1,bj fi2.s (td.dd e he).2⟩,bj fi2.s td.d0,fi2.s.trans td.s⟩
end
end K31
namespace K31
open PySem PySem.Spec PyProof.Rows L2 Rg
theorem uJ {rs:List Rl}{q:Rl}{j:Nat}{p:List Nat}{x:Int}(h:x∈dQ rs q j p):x∈aj rs p:=(List.mem_filter.mp h).1
theorem jl {rs:List Rl}{n:Nat}{q:Rl}(h:rs[n]?=some q):⟨(q.sort,q.rank),bx rs q,(n:Nat)⟩∈aG rs:=by
 have mq:=List.mem_of_getElem? h
 refine List.mem_cons_of_mem _ (List.mem_flatMap.mpr ⟨q.sort,mem_sortsF.mpr ⟨q,mq,rfl⟩,?_⟩)
 have hr:q.rank∈br (aj rs q.sort):=mem_srtI.mpr (List.mem_map.mpr ⟨q,List.mem_filter.mpr ⟨mq,by simp⟩,rfl⟩)
 obtain⟨k,hk,ek⟩:=List.mem_iff_getElem.mp hr
 unfold e7 dv
 refine List.mem_flatMap.mpr ⟨k,List.mem_range.mpr hk,List.mem_append.mpr (.inl ?_)⟩
 unfold ce
 refine List.mem_flatMap.mpr ⟨n,List.mem_range.mpr (List.getElem?_eq_some_iff.mp h).1,?_⟩
 unfold lT
 rw[h]
 have e2:(br (aj rs q.sort)).getD k 0=q.rank:=by rw[List.getD,List.getElem?_eq_getElem hk];exact ek
 show _∈if q.sort=q.sort/\q.rank=(br (aj rs q.sort)).getD k 0 then _ else _
 rw[if_pos ⟨rfl,e2.symm⟩,e2]
 exact List.mem_singleton.mpr rfl
structure GR (c0:Int)(rs:List Rl):Prop where
 n1:1≤rs.length
 n23:rs.length≤23
 nm:∀q∈rs,RlN c0 q
 top:∀q∈rs,∃q'∈rs,q'.sort=q.sort/\q'.rank=99
 rch:∀q∈rs,kz rs q.sort
theorem GR.word {c0:Int}{rs:List Rl}(G:GR c0 rs){k:Nat}(h3:3≤k)(h9:k<9):aj rs (au c0 k)=[]:=by
 cases e:aj rs (au c0 k) with
 | nil=>rfl
 | cons x r =>
  have hx:x∈aj rs (au c0 k):=by rw[e];exact List.mem_cons_self
  obtain⟨q,hq,eq,_⟩:=cv hx
  obtain⟨j,hj,ej⟩:=(G.nm q hq).so
  have:=f7 (c:=c0) (by omega) (by omega) (ej.symm.trans eq)
  omega
theorem GR.has99 {c0:Int}{rs:List Rl}(G:GR c0 rs){p:List Nat}(h:aj rs p≠[]):(99:Int)∈aj rs p:=by
 cases e:aj rs p with
 | nil=>exact absurd e h
 | cons x r =>
  have hx:x∈aj rs p:=by rw[e];exact List.mem_cons_self
  rw[<-e]
  obtain⟨q,hq,eq,_⟩:=cv hx
  obtain⟨q',hq',es,er⟩:=G.top q hq
  exact List.mem_map.mpr ⟨q',List.mem_filter.mpr ⟨hq',by rw[es,eq];simp⟩,er⟩
theorem GR.fine {c0:Int}{rs:List Rl}(G:GR c0 rs):∀q∈rs,iK rs q=false:=fun q hq=>by
 rw[Bool.eq_false_iff]
 intro z
 unfold iK at z
 obtain⟨j,hj,hb⟩:=List.any_eq_true.mp z
 have hj:=List.mem_range.mp hj
 unfold lv at hb
 rw[Bool.and_eq_true,decide_eq_true_eq,decide_eq_true_eq]at hb
 obtain⟨h1,h2⟩:=hb
 rcases (G.nm q hq).tp with h | ⟨h,k,k3,k9,ek⟩
 ·have h99:=G.has99 h1
  have hlow:fP q j (q.ps.getD j [])≤99:=by
   have h0:=(G.nm q hq).r0
   unfold fP
   repeat' split
   all_goals omega
  have:(99:Int)∈dQ rs q j (q.ps.getD j []):=by
   unfold dQ
   exact List.mem_filter.mpr ⟨h99,decide_eq_true hlow⟩
  rw[h2]at this
  cases this
 ·rw[ek]at hj h1
  have hj0:j=0:=by have:j<1:=hj;omega
  subst hj0
  exact h1 (G.word k3 k9)
theorem xm (l:List Int):(br l).Pairwise (·≤·):=by
 unfold br
 have:=List.pairwise_mergeSort (le:=fun a b:Int=>decide (a≤b)) (fun a b c h1 h2=>decide_eq_true (Int.le_trans (of_decide_eq_true h1) (of_decide_eq_true h2))) (fun a b=>by
  rcases Int.le_total a b with h | h
  ·rw[decide_eq_true h];rfl
  ·rw[decide_eq_true h];exact Bool.or_true _) (fX l)
 exact this.imp fun h=>of_decide_eq_true h
theorem GR.last {c0:Int}{rs:List Rl}(G:GR c0 rs){s:List Nat}(h:aj rs s≠[]){k:Nat}(hk:k+1=(br (aj rs s)).length):(br (aj rs s)).getD k 0=99:=by
 have hkl:k<(br (aj rs s)).length:=by omega
 have h99:(99:Int)∈br (aj rs s):=mem_srtI.mpr (G.has99 h)
 obtain⟨j,hj,ej⟩:=List.mem_iff_getElem.mp h99
 have e:(br (aj rs s)).getD k 0=(br (aj rs s))[k]:=by rw[List.getD,List.getElem?_eq_getElem hkl];rfl
 have hle:(99:Int)≤(br (aj rs s))[k]:=by
  by_cases z:j=k
  ·subst z;rw[ej];exact Int.le_refl _
  ·have:=List.pairwise_iff_getElem.mp (xm (aj rs s)) j k hj hkl (by omega)
   rw[ej]at this;exact this
 have hge:(br (aj rs s))[k]≤99:=by
  obtain⟨q,hq,_,er⟩:=cv (mem_srtI.mp (List.getElem_mem hkl))
  rw[<-er];exact (G.nm q hq).r9
 rw[e];omega
theorem GR.der {c0:Int}{rs:List Rl}(G:GR c0 rs){s:List Nat}(h:aj rs s≠[]):∀(n k:Nat),k+n+1=(br (aj rs s)).length->Der (aG rs) (s,(br (aj rs s)).getD k 0)
 | 0,k,hk=>by
  rw[G.last h (by omega)]
  obtain⟨q,hq,es,er⟩:=cv (G.has99 h)
  obtain⟨n,hn,en⟩:=List.mem_iff_getElem.mp hq
  have hrow:=jl (rs:=rs) (n:=n) (q:=q) (by rw[List.getElem?_eq_getElem hn,en])
  have:=Der.mk (rows:=aG rs) _ hrow fun x hx m hm=>by
   rcases (G.nm q hq).tp with z | ⟨_,k,k3,k9,ek⟩
   ·rw[er]at z;exact absurd z (by decide)
   ·have hx:x∈bx rs q:=hx
    unfold bx at hx
    obtain⟨j,hj,rfl⟩:=List.mem_map.mp hx
    have hj:=List.mem_range.mp hj
    rw[ek]at hj
    have hj0:j=0:=by have:j<1:=hj;omega
    subst hj0
    unfold sw at hm
    rw[ek]at hm
    have hm:(if aj rs (au c0 k)=[] then none else some (mU (dQ rs q 0 (au c0 k))))=some m:=hm
    rw[if_pos (G.word k3 k9)]at hm
    cases hm
  rw[<-es,<-er]
  exact this
 | n+1,k,hk=>by
  have ih:=GR.der G h n (k+1) (by omega)
  have hk1:k+1<(br (aj rs s)).length:=by omega
  have e1:(br (aj rs s)).getD (k+1) 0=(br (aj rs s))[k+1]:=by rw[List.getD,List.getElem?_eq_getElem hk1];rfl
  rw[e1]at ih
  have hso:s∈aH rs:=by
   cases e:aj rs s with
   | nil=>exact absurd e h
   | cons x r =>
    obtain⟨q,hq,es,_⟩:=cv (show x∈aj rs s by rw[e];exact List.mem_cons_self)
    exact mem_sortsF.mpr ⟨q,hq,es⟩
  have hrow:(⟨(s,(br (aj rs s)).getD k 0),[(s,some (br (aj rs s))[k+1])],-1⟩:PR)∈aG rs:=by
   refine List.mem_cons_of_mem _ (List.mem_flatMap.mpr ⟨s,hso,?_⟩)
   unfold e7 dv
   refine List.mem_flatMap.mpr ⟨k,List.mem_range.mpr (by omega),List.mem_append.mpr (.inr ?_)⟩
   unfold wA
   rw[List.getElem?_eq_getElem hk1]
   exact List.mem_singleton.mpr rfl
  exact Der.mk _ hrow fun x hx m hm=>by
   rw[List.mem_singleton.mp hx]at hm ⊢
   cases hm
   exact ih
theorem GR.derR {c0:Int}{rs:List Rl}(G:GR c0 rs){s:List Nat}{r:Int}(h:r∈aj rs s):Der (aG rs) (s,r):=by
 obtain⟨k,hk,ek⟩:=List.mem_iff_getElem.mp (mem_srtI.mpr h)
 have:=G.der (s:=s) (fun z=>by rw[z]at h;cases h) ((br (aj rs s)).length-1-k) k (by omega)
 rw[List.getD,List.getElem?_eq_getElem hk]at this
 rw[<-ek]
 exact this
theorem GR.first {c0:Int}{rs:List Rl}(G:GR c0 rs):(br (aj rs (rs.getD 0 ⟨[],0,"",[]⟩).sort)).getD 0 0∈aj rs (rs.getD 0 ⟨[],0,"",[]⟩).sort:=by
 have h1:=G.n1
 have hm:rs.getD 0 ⟨[],0,"",[]⟩∈rs:=by rw[List.getD,List.getElem?_eq_getElem (by omega)];exact List.getElem_mem _
 generalize rs.getD 0 ⟨[],0,"",[]⟩=q at hm
 have hr:=fz hm
 have hp:0<(br (aj rs q.sort)).length:=List.length_pos_of_mem (mem_srtI.mpr hr)
 rw[List.getD,List.getElem?_eq_getElem hp]
 exact mem_srtI.mp (List.getElem_mem _)
theorem GR.derAll {c0:Int}{rs:List Rl}(G:GR c0 rs):∀r∈aG rs,Der (aG rs) r.sym:=fun r hr=>by
 rcases List.mem_cons.mp hr with e | h
 ·refine Der.mk r hr fun x hx m hm=>?_
  rw[e]at hx
  rw[List.mem_singleton.mp hx]at hm ⊢
  have hm:=Option.some.inj hm
  rw[<-hm]
  exact G.derR G.first
 ·obtain⟨s,_,h⟩:=List.mem_flatMap.mp h
  rcases cn h with⟨n,q,hq,_,e⟩ | ⟨a,b,ha,_,e⟩
  ·rw[e];exact G.derR (fz (List.mem_of_getElem? hq))
  ·rw[e];exact G.derR ha
theorem GR.syms {c0:Int}{rs:List Rl}(G:GR c0 rs):∀r∈aG rs,∀x∈r.ps,∀m,x.2=some m->(x.1,m)∈av (aG rs):=by
 have key:∀{s:List Nat} {m:Int},m∈aj rs s->(s,m)∈av (aG rs):=fun {s m} h=>by
  obtain⟨q,hq,es,er⟩:=cv h
  obtain⟨n,hn,en⟩:=List.mem_iff_getElem.mp hq
  exact mem_symsF.mpr ⟨_,jl (rs:=rs) (n:=n) (q:=q) (by rw[List.getElem?_eq_getElem hn,en]),by show (q.sort,q.rank)=(s,m);rw[es,er]⟩
 intro r hr x hx m hm
 rcases List.mem_cons.mp hr with e | h
 ·rw[e]at hx
  rw[List.mem_singleton.mp hx]at hm ⊢
  have hm:=Option.some.inj hm
  rw[<-hm]
  exact key G.first
 ·obtain⟨s,_,h⟩:=List.mem_flatMap.mp h
  rcases cn h with⟨n,q,hq,_,e⟩ | ⟨a,b,_,hb,e⟩
  ·rw[e]at hx
   have mq:=List.mem_of_getElem? hq
   have hx:x∈bx rs q:=hx
   obtain⟨j,hj,rfl⟩:=List.mem_map.mp hx
   unfold sw at hm ⊢
   dsimp only at hm ⊢
   split at hm
   ·cases hm
   ·rename_i hne
    have hm:=Option.some.inj hm
    rw[<-hm]
    refine key (uJ (rs:=rs) (q:=q) (j:=j) (lA fun z=>?_).1)
    have hg:=G.fine q mq
    unfold iK at hg
    have:=List.any_eq_false.mp hg j hj
    exact this (by unfold lv;rw[decide_eq_true hne,decide_eq_true z];rfl)
  ·rw[e]at hx
   rw[List.mem_singleton.mp hx]at hm ⊢
   have hm:=Option.some.inj hm
   rw[<-hm]
   exact key hb
theorem GR.rules {c0:Int}{rs:List Rl}(G:GR c0 rs):fj rs=true:=(bE rs).mpr ⟨G.n1,by have:=G.n23;omega,fun q hq=>(G.nm q hq).okB⟩
end K31
--@RAISES but law
namespace K31
open PySem PySem.Spec PyProof.Rows L2 Rg
section
variable {P:Program}{w:World}{K:PySem.W.Frag}{mg:Str->Option Value}{base:Heap}{C tS tN tT:Addr}
def zY (rs:List Rl)(R:List (List Nat)):Prop:=∀q∈rs,q.sort∈R->∀p∈q.ps,p∈R
theorem yO {rs:List Rl}{R:List (List Nat)}(h:zY rs R)(h0:∀q,rs[0]?=some q->q.sort∈R){x:List Nat}(d:kz rs x):x∈R:=by
 induction d with
 | first hq=>exact h0 _ hq
 | step hq _ hp ih=>exact h _ hq ih _ hp
def nS (S3 R:List (List Nat)):Nat:=(S3.filter fun s=>decide (s∈R)).length
theorem Ae (S3 R:List (List Nat)):nS S3 R≤S3.length:=List.length_filter_le _ _
theorem Bg {S3 R R':List (List Nat)}(h:∀x∈R,x∈R'){s:List Nat}(hs:s∈S3)(h1:s∈R')(h2:s∉R):nS S3 R<nS S3 R' :=
 ml (fun x hx=>decide_eq_true (h x (of_decide_eq_true hx))) (decide_eq_true h1) (decide_eq_false h2) S3 hs
theorem tR {rs:List Rl}{S3 R R':List (List Nat)}(hS:∀q∈rs,q.sort∈S3)(h:∀x∈R,x∈R')(hp:∀q∈rs,q.sort∈R->∀p∈q.ps,p∈R'):zY rs R'\/nS S3 R<nS S3 R':=by
 by_cases z:∃s∈S3,s∈R'/\s∉R
 ·obtain⟨s,h1,h2,h3⟩:=z
  exact .inr (Bg h h1 h2 h3)
 ·refine .inl fun q hq hs p hpq=>hp q hq ?_ p hpq
  by_cases y:q.sort∈R
  ·exact y
  ·exact absurd ⟨q.sort,hS q hq,hs,y⟩ z
theorem yx (ns:List Int){mo:Int}(h:mo=20):∃ms:List Int,gJ (ns.map V.int) (some 2) (some (2+mo))=ms.map V.int/\ms.length≤20:=by
 obtain⟨m,hm,e⟩:∃m:Nat,m≤22/\(2:Int)+mo=((m:Nat):Int):=⟨(2+mo).toNat,by omega,by omega⟩
 unfold gJ
 rw[show (2:Int)=((2:Nat):Int) from rfl]at *
 rw[e,HT.sIx_nat,HT.sIx_nat,List.length_map]
 refine⟨(ns.drop (min 2 ns.length)).take (min m ns.length-min 2 ns.length),by rw[List.map_take,List.map_drop],?_⟩
 rw[List.length_take]
 omega
theorem xR (q:Rl):qg q.dat:=by
 unfold Rl.dat
 refine .tuple fun d hd=>?_
 simp only[List.mem_cons,List.not_mem_nil,or_false]at hd
 rcases hd with rfl | rfl | rfl | rfl
 ·exact .str _
 ·exact .int _
 ·exact .str _
 ·refine .tuple fun d hd=>?_
  obtain⟨z,_,rfl⟩:=List.mem_map.mp hd
  exact .str _
theorem vL (rs:List Rl):∀d∈rs.map Rl.dat,qg d:=fun d hd=>by obtain⟨z,_,rfl⟩:=List.mem_map.mp hd;exact xR z
theorem lC {H:Hp}:∀{xs:List V} {ds:List PyData} (n:Nat),DatVs K H xs ds->DatVs K H (xs.take n) (ds.take n)
 | _,_,0,_=>.nil
 | _,_,_+1,.nil=>.nil
 | _,_,n+1,.cons h t=>.cons h (lC n t)
theorem kD {H:Hp}:∀{xs:List V} {ds:List PyData} (n:Nat),DatVs K H xs ds->DatVs K H (xs.drop n) (ds.drop n)
 | _,_,0,h=>h
 | _,_,_+1,.nil=>.nil
 | _,_,n+1,.cons _ t=>kD n t
theorem iE (l:List Nat)(acc:List (List Nat)):vU (V.str (S l)) (acc.map fun k=>V.str (S k))=decide (l∈acc):=by
 unfold vU
 rw[List.any_map,Bool.eq_iff_iff,List.any_eq_true,decide_eq_true_eq]
 constructor
 ·rintro⟨x,hx,e⟩
  have e2:(S x:Str)=S l:=by
   have:((S x:Str) == S l)=true:=e
   exact beq_iff_eq.mp this
  rw[<-cK e2];exact hx
 ·intro h
  exact⟨l,h,by show ((S l:Str) == S l)=true;simp⟩
theorem kh (ks:List (List Nat)):(ks.map fun k=>V.str (S k)).all cw=true:=by rw[List.all_map];simp[cw]
theorem mM {rs:List Rl}{R:List (List Nat)}(hin:∀x,kz rs x->x∈R){x:List Nat}(h:kz rs x):kz (rs.filter fun q=>decide (q.sort∈R)) x:=by
 induction h with
 | @first q hq =>
  refine .first ?_
  cases rs with
  | nil=>cases hq
  | cons y r =>
   have:y=q:=Option.some.inj hq
   subst this
   have hy:y.sort∈R:=hin _ (.first rfl)
   rw[List.filter_cons_of_pos (by simpa using hy)]
   rfl
 | @step q p hq hr hp ih=>exact .step (List.mem_filter.mpr ⟨hq,decide_eq_true (hin _ hr)⟩) ih hp
def AK (K:PySem.W.Frag):Sp:=fun vs H Q _=>∃(a:Addr) (ns:List Int),vs=[.ref a]/\SqL K H a (ns.map V.int)/\ns.length≤63 /\
 ∀H' p rl rs,Same H H'->H' p=some (.lst rl)->DatVs K H' rl (rs.map Rl.dat)->GR (ns.getD 0 0) rs->Q (.ref p) H'
abbrev st__law_rules:Stmt:=top 39
theorem eA:ax ["_law_script","_law_way","_law_names_here","_law_rules_here","_law_k","_law_at","_law_reached","_law_turn","_law_sort","_law_rank","_law_side","_law_parts"] ["_law_script"] (ak st__law_rules):=⟨rfl,rfl,rfl,by decide +kernel,rfl,by decide +kernel,by decide +kernel⟩
theorem wV (R:Raw K mg "_law_rules" st__law_rules ["_law_script"])(T:Txt K w mg tT)(D__law_cell_at:Def P w K mg base 1 "_law_cell_at" ["_law_script","_law_k"] (sX K))(D__law_names:Def P w K mg base 1 "_law_names" ["_law_cell","_law_many"] (nO K))(D__law_mixed:Def P w K mg base 1 "_law_mixed" ["_law_cell","_law_k"] nZ)
  (D__law_rule:Def P w K mg base 2 "_law_rule" ["_law_cell","_law_names_here","_law_few"] (tf K)):Def P w K mg base 3 "_law_rules" ["_law_script"] (AK K):=by
 refine R.defJ eA (fun vs H Q E h=>?_) (fun f cdv A outer s H vs Q E hr h=>?_)
 ·obtain⟨a,ns,rfl,_⟩:=h
  rfl
 ·obtain⟨a,ns,rfl,hS,hl,qq⟩:=h
  have sc:=eA
  have hu:=hr.units
  have hbg:(1000000:Nat)<sizeLine:=by rw[sizeLine_eq];decide
  refine⟨_,(ac (ao (i:=1) sc.nd rfl (Or.inr rfl) (bg D__law_cell_at (hr.mono (by decide)) rfl (aa (jn 0) (aa ap af))))
  (ac (ao (i:=2) sc.nd rfl (Or.inr rfl) (bg D__law_names (hr.mono (by decide)) rfl (aa (bg D__law_cell_at (hr.mono (by decide)) rfl (aa (jn 0) (aa ap af))) (aa ap af))))
  (ac (km (i:=3) (N:=["_law_cell","_law_names_here","_law_way"]) (cap:=[none,some 2,some 1]) rfl (CompScope.of rfl (by rfl)) (aW (K:=K) (n8 (wo (K:=K)) (jn 0) (j0 ap) (j0 ap))) (fun _ _ _ _=>(ai (i:=0) (show List.Nodup [("_law_cell":Str),("_law_names_here":Str),("_law_way":Str)] by decide +kernel) rfl (Or.inl rfl))) (fun _ _ _ _=>fw) (fun _ _ _ _=>(bg D__law_rule (hr.mono (by decide)) rfl (aa (jn 0) (aa (jn 1) (aa (jQ (bX hu (K:=K)) (aR bO (jn 2) ap) ap) af))))) sc.nd rfl rfl)
  (ac (aP PassesOwn.never rfl (de rfl T.n_range (aa ap af)) (ai (i:=4) sc.nd rfl (Or.inl rfl))
  (ac (ao (i:=5) sc.nd rfl (Or.inl rfl) (aR bO (bg D__law_mixed (hr.mono (by decide)) rfl (aa (jn 1) (aa (aR (bv (K:=K)) ap (jn 4)) af))) (aR (bv (K:=K)) (aM (eI (K:=K)) rfl T.n_len PySem.boot_len (aa (jn 3) af)) ap)))
  (ag (be (fU (K:=K) PySem.F.plainAttrs_list PySem.F.slot_list_insert PySem.F.type_list_insert rQ (jn 3) (aa (jn 5) (aa (cb (aa (aO (aU hu (K:=K) (w:=w)) (jn 2) (jn 4)) (aa ap (aa eG (aa (cb (aa (aO (aU hu (K:=K) (w:=w)) (jn 2) (aR (bv (K:=K)) ap (aR bO (bg D__law_mixed (hr.mono (by decide)) rfl (aa (jn 1) (aa (aR (bv (K:=K)) ap (jn 4)) af))) ap))) af)) af))))) af)))))))
  (ac (ao (i:=6) sc.nd rfl (Or.inr rfl) (bU (aa (aO (aU hu (K:=K) (w:=w)) (aO (aU hu (K:=K) (w:=w)) (jn 3) ap) ap) af)))
  (ac (aP PassesOwn.never rfl (de rfl T.n_range (aa ap af)) (ai (i:=7) sc.nd rfl (Or.inl rfl))
  (ag (aP PassesOwn.never rfl (aW (K:=K) (jn 3)) (bD (K:=K) (n:=4) rfl (ar (ai (i:=8) sc.nd rfl (Or.inl rfl)) (ar (ai (i:=9) sc.nd rfl (Or.inl rfl)) (ar (ai (i:=10) sc.nd rfl (Or.inl rfl)) (ar (ai (i:=11) sc.nd rfl (Or.inl rfl)) bo)))))
  (ag (aZ (aA (oG hu (K:=K) (P:=P) (w:=w)) (jn 8) (jn 6))
  (ag (be (fU (K:=K) PySem.F.plainAttrs_list PySem.F.slot_list_extend PySem.F.type_list_extend (cM (K:=K)) (jn 6) (aa (fS (N:=["_law_part","_law_reached"]) (cap:=[none,some 6]) rfl (CompScope.of rfl (by rfl)) (aW (K:=K) (jn 11)) (fun _ _ _ _=>(ai (i:=0) (show List.Nodup [("_law_part":Str),("_law_reached":Str)] by decide +kernel) rfl (Or.inl rfl))) (fun _ _ _ _=>(fK (aA (cS hu (K:=K) (P:=P) (w:=w)) (jn 0) (jn 1)))) (fun _ _ _ _=>(jn 0))) af))))
  aE)))))
  (ag (aQ (fS (N:=["_law_rule_here","_law_reached"]) (cap:=[none,some 6]) rfl (CompScope.of rfl (by rfl)) (aW (K:=K) (jn 3)) (fun _ _ _ _=>(ai (i:=0) (show List.Nodup [("_law_rule_here":Str),("_law_reached":Str)] by decide +kernel) rfl (Or.inl rfl))) (fun _ _ _ _=>(fK (aA (oG hu (K:=K) (P:=P) (w:=w)) (aO (aU hu (K:=K) (w:=w)) (jn 0) ap) (jn 1)))) (fun _ _ _ _=>(jn 0))))))))))),?_⟩
  obtain⟨wy,ewy⟩:∃wy,wy=ns.getD 1 0:=⟨_,rfl⟩
  obtain⟨c0,ec0⟩:∃c0,c0=ns.getD 0 0:=⟨_,rfl⟩
  rw[<-ec0]at qq
  refine⟨a,ns,1,rfl,hS,?_⟩
  rw[<-ewy]
  refine⟨a,ns,0,rfl,hS,?_⟩
  rw[<-ec0]
  refine⟨c0,9,rfl,by decide,fun H2 l s12 hl0 hl1=>?_⟩
  obtain⟨ms,em,hml⟩:=yx ns (mo:=20) rfl
  refine .inl ⟨_,s12.seq hS,fun p3 hp3=>?_⟩
  rw[show (22:Int)=2+20 from rfl,em]
  have s3:Same H2 (al H2 p3 (.lst (ms.map V.int))):=ah hp3
  have h3:SqL K (al H2 p3 (.lst (ms.map V.int))) p3 (ms.map V.int):=SqL.of ae
  generalize al H2 p3 (.lst (ms.map V.int))=H3 at s3 h3 ⊢
  refine .inl ⟨⟨_,h3⟩,?_⟩
  have hN3:SqL K H3 l ((List.range 9).map fun k=>V.str (S (au c0 k))):=SqL.of (s3 _ _ hl1)
  refine cQ (xs:=ms.map V.int) (fun i us σ' H'=>Same H3 H'/\(∃rs:List Rl,DatVs K H' us (rs.map Rl.dat)/\(∀q∈rs,RlN c0 q)/\rs.length=i)/\∃v,σ'=[v,some (.ref l),some (.int wy)]) (by rw[List.length_map];omega) ⟨Same.refl _,⟨[],.nil,(fun q hq=>nomatch hq),rfl⟩,none,rfl⟩
   (fun i us σ' H' h=>by obtain⟨_,⟨ws,h1,_,h2⟩,_⟩:=h;have:=h1.length;rw[List.length_map]at this;omega) (fun i us σ' H' h=>h.1.seq h3) ?_ ?_
  ·rintro i x us σ' H' hx ⟨s4,⟨rs,hd4,hN4,hrs⟩,v,rfl⟩
   rw[List.getElem?_map]at hx
   obtain⟨c,_,rfl⟩:=Option.map_eq_some_iff.mp hx
   refine⟨by decide,?_⟩
   refine⟨c,c0,l,_,rfl,s4.seq hN3,fun H5 t q5 s5 hd5 hN5=>?_⟩
   refine⟨s4.trans s5,⟨rs++[q5],?_,fun q hq=>?_,by rw[List.length_append,hrs];rfl⟩,_,rfl⟩
   ·rw[List.map_append]
    exact DatVs.snoc hd5 (hd4.same s5)
   ·rcases List.mem_append.mp hq with z | z
    ·exact hN4 q z
    ·rw[List.mem_singleton.mp z];exact hN5
  ·rintro us σ' H' ⟨s4,⟨rs,hd4,hN4,hrs⟩,v,rfl⟩ b hb0
   rw[List.length_map]at hrs
   have s4b:Same H' (al H' b (.lst us)):=ah hb0
   have hb4:al H' b (.lst us) b=some (.lst us):=ae
   have hd4b:=hd4.same s4b
   generalize al H' b (.lst us)=H4 at s4b hb4 hd4b ⊢
   refine⟨by decide,by decide,?_⟩
   refine cF (n:=((3:Int)).toNat) (fun k σ H5=>∃(v5 v6:Option V) (rl:List V) (rs:List Rl),Same H' H5/\H5 b=some (.lst rl)/\DatVs K H5 rl (rs.map Rl.dat)/\(∀q∈rs,RlN c0 q)/\rs.length≤20+k/\(∀j,j<k->∃q∈rs,q.sort=au c0 j/\q.rank=99)/\σ=[some (.ref a),some (.int wy),some (.ref l),some (.ref b),v5,v6,none,none,none,none,none,none])
    ⟨none,none,us,rs,s4b,hb4,hd4b,hN4,by omega,(fun j hj=>absurd hj (Nat.not_lt_zero _)),rfl⟩ ?_ ?_
   ·rintro k σ H5 hk ⟨v5,v6,rl,rs5,s5,hb5,hd5,hN5,hl5,h15,rfl⟩
    have hk3:k<3:=hk
    rw[show (0:Int)+((k:Nat):Int)=((k:Nat):Int) from Int.zero_add _]
    have hrl:rl.length=rs5.length:=by have:=hd5.length;rw[List.length_map]at this;exact this
    have hl5l:=s5 _ _ (s4 _ _ (s3 _ _ hl1))
    refine⟨wy,9+((k:Nat):Int),rfl,by omega,by omega,_,.inl (SqL.of hb5),?_⟩
    refine⟨by omega,.inl ⟨rfl,_,SqL.of hb5⟩,?_⟩
    have hnm:∀j:Nat,j<9->mh ((List.range 9).map fun k=>V.str (S (au c0 k))) ((j:Nat):Int)=some (V.str (S (au c0 j))):=fun j hj=>aq (by rw[List.getElem?_map,List.getElem?_range hj];rfl)
    refine .inl ⟨_,.str (S (au c0 k)),SqL.of hl5l,hnm k (by omega),?_⟩
    refine⟨wy,5+((k:Nat):Int),rfl,by omega,by omega,by decide,?_⟩
    obtain⟨m6,hm6,em6⟩:∃m6:Nat,m6<6/\(3:Int)+bM wy (5+((k:Nat):Int)) % 6=((3+m6:Nat):Int):=⟨(bM wy (5+((k:Nat):Int)) % 6).toNat,by omega,by omega⟩
    refine .inl ⟨_,.str (S (au c0 (3+m6))),SqL.of hl5l,by rw[em6];exact hnm _ (by omega),?_⟩
    refine⟨(show 1≤sizeLine by decide),fun p6 hp6=>⟨(show 4≤sizeLine by decide),fun p7 hp7=>?_⟩⟩
    dsimp only at hp7 ⊢
    have z6:Same H5 (al H5 p6 (.tup [V.str (S (au c0 (3+m6)))])):=ah hp6
    have k6:SqT K (al H5 p6 (.tup [V.str (S (au c0 (3+m6)))])) p6 [V.str (S (au c0 (3+m6)))]:=SqT.of ae
    generalize al H5 p6 (.tup [V.str (S (au c0 (3+m6)))])=H6 at z6 k6 hp7 ⊢
    have z7:Same H6 (al H6 p7 (.tup [V.str (S (au c0 k)),V.int 99,V.str "none",.ref p6])):=ah hp7
    have k7:DatV K (al H6 p7 (.tup [V.str (S (au c0 k)),V.int 99,V.str "none",.ref p6])) (.ref p7) (Rl.dat ⟨au c0 k,99,"none",[au c0 (3+m6)]⟩) :=
     .tuple (SqT.of ae) (.cons (.str _) (.cons (.int _) (.cons (.str _) (.cons (.tuple (z7.seqT k6) (.cons (.str _) .nil)) .nil))))
    generalize al H6 p7 (.tup [V.str (S (au c0 k)),V.int 99,V.str "none",.ref p6])=H7 at z7 k7 ⊢
    have s57:=z6.trans z7
    have hb7:=s57 _ _ hb5
    obtain⟨at_,hat_,eat⟩:∃at_:Nat,at_≤rl.length/\bM wy (9+((k:Nat):Int)) % (((rl.length:Nat):Int)+1)=((at_:Nat):Int):=by
     have h1:=Int.emod_nonneg (bM wy (9+((k:Nat):Int))) (show ((rl.length:Nat):Int)+1≠0 by omega)
     have h2:=Int.emod_lt_of_pos (bM wy (9+((k:Nat):Int))) (show 0<((rl.length:Nat):Int)+1 by omega)
     exact⟨(bM wy (9+((k:Nat):Int)) % (((rl.length:Nat):Int)+1)).toNat,by omega,by omega⟩
    rw[eat]
    refine⟨rl,hb7,by omega,by omega,by omega,?_⟩
    rw[Int.toNat_natCast]
    have hdN:=hd5.same s57
    refine⟨_,_,_,rs5.take at_++(⟨au c0 k,99,"none",[au c0 (3+m6)]⟩:Rl)::rs5.drop at_,fun x u e=>?_,ae,bR (.inl ⟨_,hb7⟩) (vL _) ?_,fun q hq=>?_,?_,fun j hj=>?_,rfl⟩
    ·rw[am fun z=>by rw[z,hb0]at e;cases e];exact s57 _ _ (s5 x u e)
    ·rw[List.map_append,List.map_cons,List.map_take,List.map_drop]
     exact jX (lC at_ hdN) (.cons k7 (kD at_ hdN))
    ·rcases List.mem_append.mp hq with z | z
     ·exact hN5 q (List.mem_of_mem_take z)
     ·rcases List.mem_cons.mp z with z | z
      ·rw[z]
       exact⟨⟨k,hk3,rfl⟩,(show (0:Int)≤99 by decide),Int.le_refl _,Nat.le_refl _,(show 1≤8 by decide),(fun z=>by have e:=f7 (by omega) (by omega) (List.cons.inj z).1;omega),(fun p hp=>by rw[List.mem_singleton.mp hp];exact⟨_,by omega,rfl⟩),.inr (.inr rfl),.inr ⟨rfl,_,by omega,by omega,rfl⟩⟩
      ·exact hN5 q (List.mem_of_mem_drop z)
    ·rw[List.length_append,List.length_cons,List.length_take,List.length_drop];omega
    ·by_cases z:j=k
     ·exact⟨_,List.mem_append.mpr (.inr List.mem_cons_self),by rw[z],rfl⟩
     ·obtain⟨q,hq,h9⟩:=h15 j (by omega)
      refine⟨q,?_,h9⟩
      rw[<-List.take_append_drop at_ rs5]at hq
      rcases List.mem_append.mp hq with y | y
      ·exact List.mem_append.mpr (.inl y)
      ·exact List.mem_append.mpr (.inr (List.mem_cons_of_mem _ y))
   ·rintro σ H5 ⟨u5,u6,rl,rs5,s5,hb5,hd5,hN5,hl5,h15,rfl⟩
    have hl5:rs5.length≤20+3:=hl5
    have h15:∀j,j<3->∃q∈rs5,q.sort=au c0 j/\q.rank=99:=h15
    have hSb:SqL K H5 b rl:=SqL.of hb5
    have hrl:rl.length=rs5.length:=by have:=hd5.length;rw[List.length_map]at this;exact this
    have r1:1≤rs5.length:=by obtain⟨q,hq,_⟩:=h15 0 (by decide);exact List.length_pos_of_mem hq
    have r24:rs5.length≤24:=by omega
    have hps:∀q∈rs5,q.ps.length≤100/\q.dat.canLay0=true:=fun q hq=>⟨by have:=(hN5 q hq).p8;omega,(hN5 q hq).lay⟩
    obtain⟨S3,hS3,hss⟩:∃S3:List (List Nat),S3.length≤3/\∀q∈rs5,q.sort∈S3:=⟨[au c0 0,au c0 1,au c0 2],Nat.le_refl _,fun q hq=>by
     obtain⟨k,hk,e⟩:=(hN5 q hq).so
     rw[e]
     have:k=0\/k=1\/k=2:=by omega
     rcases this with rfl | rfl | rfl<;>simp⟩
    have rul:∀(n:Nat) (x:V),rl[n]?=some x->∃(q:Rl) (t tp:Addr),rs5[n]?=some q/\x=.ref t/\DatV K H5 (.ref t) q.dat/\SqT K H5 t [.str (S q.sort),.int q.rank,.str q.side,.ref tp]/\SqT K H5 tp (q.ps.map fun l=>V.str (S l)):=fun n x hx=>by
     obtain⟨dd,hdd,hxd⟩:=hd5.get hx
     rw[List.getElem?_map]at hdd
     cases ee:rs5[n]? with
     | none=>rw[ee]at hdd;cases hdd
     | some g =>
      rw[ee]at hdd
      have ed:dd=g.dat:=(Option.some.inj hdd).symm
      subst ed
      obtain⟨t,tp,e,hT,hTp⟩:=cZ hxd
      subst e
      exact⟨g,t,tp,rfl,rfl,hxd,hT,hTp⟩
    have hn0:rl[0]?=some (rl[0]'(by omega)):=List.getElem?_eq_getElem (by omega)
    obtain⟨q0,t0,tp0,hq0,ex0,_,hT0,_⟩:=rul 0 _ hn0
    rw[ex0]at hn0
    have mq0:=List.mem_of_getElem? hq0
    refine .inl ⟨_,.ref t0,hSb,aq hn0,.inr ⟨_,.str (S q0.sort),hT0,aq (j:=0) rfl,⟨(show 1≤sizeLine by decide),fun rb hr0=>?_⟩⟩⟩
    have s1:Same H5 (al H5 rb (.lst [V.str (S q0.sort)])):=ah hr0
    have h1:al H5 rb (.lst [V.str (S q0.sort)]) rb=some (.lst ([q0.sort].map fun l=>V.str (S l))):=ae
    generalize al H5 rb (.lst [V.str (S q0.sort)])=H1 at s1 h1 ⊢
    refine⟨by decide,by decide,?_⟩
    refine cF (n:=((3:Int)).toNat) (fun j σ H'=>∃(R:List (List Nat)) (v2 v3 v4 v5 v6:Option V),Same H5 H'/\H' rb=some (.lst (R.map fun l=>V.str (S l)))/\(∀x∈R,kz rs5 x)/\q0.sort∈R/\R.length≤1+2400*j/\(zY rs5 R\/j<nS S3 R)/\σ=[some (.ref a),some (.int wy),some (.ref l),some (.ref b),u5,u6,some (.ref rb),v2,v3,v4,v5,v6])
     ⟨[q0.sort],none,none,none,none,none,s1,h1,(fun x hx=>by rw[List.mem_singleton.mp hx];exact .first hq0),List.mem_cons_self,Nat.le_refl _,.inr (List.length_pos_of_mem (List.mem_filter.mpr ⟨hss q0 mq0,decide_eq_true List.mem_cons_self⟩)),rfl⟩ ?_ ?_
    ·rintro j σ H2 hj ⟨R,v2,v3,v4,v5,v6,s2,hb2,hch,hfst,hRl,hcl,rfl⟩
     have hj3:j<3:=hj
     refine .inl ⟨⟨_,s2.seq hSb⟩,?_⟩
     refine aV (xs:=rl) (fun i σ H'=>∃(R':List (List Nat)) (v2 v3 v4 v5 v6:Option V),Same H5 H'/\H' rb=some (.lst (R'.map fun l=>V.str (S l)))/\(∀x∈R',kz rs5 x)/\(∀x∈R,x∈R')/\R'.length≤1+2400*j+100*i/\(∀(k:Nat) (q:Rl),k<i->rs5[k]?=some q->q.sort∈R->∀p∈q.ps,p∈R')/\(zY rs5 R->∀x∈R',x∈R)/\σ=[some (.ref a),some (.int wy),some (.ref l),some (.ref b),u5,u6,some (.ref rb),v2,v3,v4,v5,v6])
      ⟨R,_,v3,v4,v5,v6,s2,hb2,hch,(fun x hx=>hx),by omega,(fun k q hk=>absurd hk (Nat.not_lt_zero _)),(fun _ x hx=>hx),rfl⟩ (fun i σ H' _ h=>by obtain⟨_,_,_,_,_,_,s3,_⟩:=h;exact s3.seq hSb) ?_ ?_
     ·rintro i x σ H3 hi ⟨R',v2,v3,v4,v5,v6,s3,hb3,hch3,hin3,hl3,hpr3,hcl3,rfl⟩
      have hil:i<rs5.length:=by have:=(List.getElem?_eq_some_iff.mp hi).1;omega
      obtain⟨g,t,tp,hgi,rfl,_,hT,hTp⟩:=rul i x hi
      have mg1:=List.mem_of_getElem? hgi
      have hg8:=(hps g mg1).1
      refine⟨t,_,rfl,s3.seqT hT,rfl,_,_,rfl,_,_,rfl,_,_,rfl,_,_,rfl,rfl,?_⟩
      refine .inr (.inl ⟨_,.inl (SqL.of hb3),rfl,kh R',?_⟩)
      rw[iE]
      show if (false^^decide (g.sort∈R'))=true then _ else _
      rw[Bool.false_xor]
      refine bc (fun h=>?_) (fun h=>?_)
      ·have hgin:=of_decide_eq_true h
       refine⟨.inl ⟨rfl,_,SqL.of hb3⟩,.inr ⟨⟨_,s3.seqT hTp⟩,?_⟩⟩
       refine i0 (K:=K) (xs:=g.ps.map fun l=>V.str (S l)) (fun k us σ' H'=>H'=H3/\(∃ws:List (List Nat),us=ws.map (fun l=>V.str (S l))/\(∀p∈g.ps.take k,p∈R'\/p∈ws)/\(∀p∈ws,p∈g.ps/\p∉R')/\ws.length≤k)/\∃v,σ'=[v,some (.ref rb)]) (by rw[List.length_map];omega) ⟨rfl,⟨[],rfl,(fun p hp=>nomatch hp),(fun p hp=>nomatch hp),Nat.le_refl _⟩,none,rfl⟩
        (fun k us σ' H' h=>by obtain⟨_,⟨ws,h1,_,_,h2⟩,_⟩:=h;rw[h1,List.length_map];exact h2) (fun k us σ' H' h=>by rw[h.1];exact s3.seqT hTp) ?_ ?_
       ·rintro k y us σ' H' hy ⟨rfl,⟨ws,rfl,hw2,hw3,hw4⟩,v,rfl⟩
        rw[List.getElem?_map]at hy
        cases es:g.ps[k]? with
        | none=>rw[es]at hy;cases hy
        | some p =>
         rw[es]at hy
         have ey:y=V.str (S p):=(Option.some.inj hy).symm
         subst ey
         have et:g.ps.take (k+1)=g.ps.take k++[p]:=by rw[List.take_add_one,es];rfl
         refine .inr (.inl ⟨_,.inl (SqL.of hb3),rfl,kh R',?_⟩)
         rw[iE]
         show if (true^^decide (p∈R'))=true then _ else _
         refine bc (fun h=>?_) (fun h=>?_)
         ·have hnot:p∉R':=fun z=>by rw[decide_eq_true z]at h;exact absurd h (by decide)
          refine⟨rfl,⟨ws++[p],by rw[List.map_append];rfl,fun x hx=>?_,fun x hx=>?_,by rw[List.length_append,List.length_singleton];omega⟩,_,rfl⟩
          ·rw[et]at hx
           rcases List.mem_append.mp hx with z | z
           ·exact (hw2 x z).imp id fun y=>List.mem_append.mpr (.inl y)
           ·exact .inr (List.mem_append.mpr (.inr z))
          ·rcases List.mem_append.mp hx with z | z
           ·exact hw3 x z
           ·rw[List.mem_singleton.mp z];exact⟨List.mem_of_getElem? es,hnot⟩
         ·have hin:p∈R':=by
           by_cases z:p∈R'
           ·exact z
           ·rw[decide_eq_false z]at h;exact absurd rfl h
          refine⟨rfl,⟨ws,rfl,fun x hx=>?_,hw3,by omega⟩,_,rfl⟩
          rw[et]at hx
          rcases List.mem_append.mp hx with z | z
          ·exact hw2 x z
          ·rw[List.mem_singleton.mp z];exact .inl hin
       ·rintro us σ' H' ⟨rfl,⟨ws,rfl,hw2,hw3,hw4⟩,v,rfl⟩ D hD2
        rw[List.length_map,List.take_length]at hw2
        rw[List.length_map]at hw4
        have s4:Same H' (al H' D (.lst (ws.map fun l=>V.str (S l)))):=ah hD2
        have h4:al H' D (.lst (ws.map fun l=>V.str (S l))) D=some (.lst (ws.map fun l=>V.str (S l))):=ae
        generalize al H' D (.lst (ws.map fun l=>V.str (S l)))=H4 at s4 h4 ⊢
        have hb4:=s4 _ _ hb3
        refine⟨_,_,hb4,.inl h4,by rw[List.length_map,List.length_map];omega,?_⟩
        refine⟨R'++ws,_,_,_,_,_,fun x u e=>?_,by rw[ae,List.map_append],fun x hx=>?_,fun x hx=>List.mem_append.mpr (.inl (hin3 x hx)),by rw[List.length_append];omega,fun k q' hk hq' hs p hp=>?_,fun cl x hx=>?_,rfl⟩
        ·rw[am fun z=>by rw[z,hr0]at e;cases e];exact (s3.trans s4) x u e
        ·rcases List.mem_append.mp hx with z | z
         ·exact hch3 x z
         ·exact .step mg1 (hch3 _ hgin) (hw3 x z).1
        ·by_cases hki:k=i
         ·rw[hki,hgi]at hq'
          have er:=Option.some.inj hq'
          subst er
          exact List.mem_append.mpr (hw2 p hp)
         ·exact List.mem_append.mpr (.inl (hpr3 k q' (by omega) hq' hs p hp))
        ·rcases List.mem_append.mp hx with z | z
         ·exact hcl3 cl x z
         ·have:x∈R:=cl g mg1 (hcl3 cl _ hgin) x (hw3 x z).1
          exact this
      ·have hgn:g.sort∉R':=fun z=>h (decide_eq_true z)
       refine⟨R',_,_,_,_,_,s3,hb3,hch3,hin3,by omega,fun k q' hk hq' hs p hp=>?_,hcl3,rfl⟩
       by_cases hki:k=i
       ·rw[hki,hgi]at hq'
        have er:=Option.some.inj hq'
        subst er
        exact absurd (hin3 _ hs) hgn
       ·exact hpr3 k q' (by omega) hq' hs p hp
     ·rintro σ H3 ⟨R',v2,v3,v4,v5,v6,s3,hb3,hch3,hin3,hl3,hpr3,hcl3,rfl⟩
      refine⟨R',_,_,_,_,_,s3,hb3,hch3,hin3 _ hfst,by omega,?_,rfl⟩
      have hall:∀q∈rs5,q.sort∈R->∀p∈q.ps,p∈R':=fun q hq hs p hp=>by
       obtain⟨k,hk,ek⟩:=List.mem_iff_getElem.mp hq
       exact hpr3 k q (by omega) (by rw[List.getElem?_eq_getElem hk,ek]) hs p hp
      rcases hcl with cl | lt
      ·exact .inl fun q hq hs p hp=>hin3 _ (cl q hq (hcl3 cl _ hs) p hp)
      ·rcases tR hss hin3 hall with z | z
       ·exact .inl z
       ·exact .inr (by omega)
    ·rintro σ H2 ⟨R,v2,v3,v4,v5,v6,s2,hb2,hch,hfst,hRl,hcl,rfl⟩
     have hRl:R.length≤1+2400*3:=hRl
     have cl:zY rs5 R:=by
      rcases hcl with z | z
      ·exact z
      ·have:=Ae S3 R
       have z:3<nS S3 R:=z
       omega
     have mem:∀x,kz rs5 x->x∈R:=fun x hx=>yO cl (fun q hq=>by rw[hq0]at hq;cases hq;exact hfst) hx
     refine .inl ⟨⟨_,s2.seq hSb⟩,?_⟩
     refine cQ (xs:=rl) (fun i us σ' H'=>H'=H2/\DatVs K H2 us (((rs5.take i).filter fun q=>decide (q.sort∈R)).map Rl.dat)/\∃v,σ'=[v,some (.ref rb)]) (by omega) ⟨rfl,.nil,none,rfl⟩
      (fun i us σ' H' h=>by obtain⟨_,h1,_⟩:=h;have:=h1.length;rw[List.length_map]at this;have h9:=List.length_filter_le (fun q:Rl=>decide (q.sort∈R)) (rs5.take i);rw[List.length_take]at h9;omega) (fun i us σ' H' h=>by rw[h.1];exact s2.seq hSb) ?_ ?_
     ·rintro i x us σ' H' hx ⟨rfl,hw1,v,rfl⟩
      obtain⟨g,t,tp,hgi,rfl,hgd,hT,hTp⟩:=rul i x hx
      have et:rs5.take (i+1)=rs5.take i++[g]:=by rw[List.take_add_one,hgi];rfl
      refine .inr ⟨_,.str (S g.sort),s2.seqT hT,aq (j:=0) rfl,.inr (.inl ⟨_,.inl (SqL.of hb2),rfl,kh R,?_⟩)⟩
      rw[iE]
      show if (false^^decide (g.sort∈R))=true then _ else _
      rw[Bool.false_xor]
      refine bc (fun h=>?_) (fun h=>?_)
      ·refine⟨rfl,?_,_,rfl⟩
       rw[et,List.filter_append,List.filter_cons_of_pos (by exact h),List.filter_nil,List.map_append]
       exact DatVs.snoc (hgd.same s2) hw1
      ·refine⟨rfl,?_,_,rfl⟩
       rw[et,List.filter_append,List.filter_cons_of_neg (by exact h),List.filter_nil,List.append_nil]
       exact hw1
     ·rintro us σ' H' ⟨rfl,hw1,v,rfl⟩ D hD2
      rw[hrl,List.take_length]at hw1
      have s9:=ah (o:=.lst us) hD2
      refine qq _ D us (rs5.filter fun q=>decide (q.sort∈R)) ((((((s12.trans s3).trans s4).trans s5).trans s2).trans s9)) ae (hw1.same s9) ⟨?_,?_,fun q hq=>hN5 q (List.mem_filter.mp hq).1,fun q hq=>?_,fun q hq=>?_⟩
      ·exact List.length_pos_of_mem (List.mem_filter.mpr ⟨mq0,decide_eq_true hfst⟩)
      ·have:=List.length_filter_le (fun q:Rl=>decide (q.sort∈R)) rs5;omega
      ·obtain⟨h1,h2⟩:=List.mem_filter.mp hq
       obtain⟨k,hk,ek⟩:=(hN5 q h1).so
       obtain⟨q',hq',e1,e2⟩:=h15 k hk
       have e3:q'.sort=q.sort:=e1.trans ek.symm
       exact⟨q',List.mem_filter.mpr ⟨hq',by rw[e3];exact h2⟩,e3,e2⟩
      ·obtain⟨h1,h2⟩:=List.mem_filter.mp hq
       exact mM mem (hch _ (of_decide_eq_true h2))
end
end K31
--@RAISES but law
namespace K31
open PySem PySem.Spec PyProof.Rows L2 Rg
section
variable {P:Program}{w:World}{K:PySem.W.Frag}{mg:Str->Option Value}{base:Heap}{C tS tN tT:Addr}
def cD:List Nat:=[101,110,100]
def cH:Th:=([],0)
def FS (rows:List PR)(sy:Sy)(l:List Nat):Prop:=match sy.2 with
 | none=>l=sy.1
 | some m=>FK rows (sy.1,m) l
inductive NK (rows:List PR):Th->List Nat->Prop
 | top:NK rows cH cD
 | mid {r:PR} {i:Nat} {s:List Nat} {m:Int} {sy:Sy} {l:List Nat}:r∈rows->r.ps[i]?=some (s,some m)->r.ps[i+1]?=some sy->FS rows sy l->NK rows (s,m) l
 | last {r:PR} {i:Nat} {s:List Nat} {m:Int} {l:List Nat}:r∈rows->r.ps[i]?=some (s,some m)->i+1=r.ps.length->NK rows r.sym l->NK rows (s,m) l
def KsQ (Pr:List Nat->Prop)(n:List Str):Prop:=sortedS n=true/\∃ks:List (List Nat),ks.Nodup/\n.Perm (ks.map S)/\∀l,l∈ks↔Pr l
theorem xO {n:List Str}:(∀x∈n,∃l,x=S l)->∃ks:List (List Nat),n=ks.map S:=by
 induction n with
 | nil=>exact fun _=>⟨[],rfl⟩
 | cons x r ih =>
  intro h
  obtain⟨l,el⟩:=h x List.mem_cons_self
  obtain⟨ks,ek⟩:=ih fun y hy=>h y (List.mem_cons_of_mem _ hy)
  exact⟨l::ks,by rw[List.map_cons,el,ek]⟩
theorem KsQ.list {Pr:List Nat->Prop}{n:List Str}(h:KsQ Pr n):∃ks:List (List Nat),n=ks.map S/\(∀l,l∈ks↔Pr l)/\ks.Nodup:=by
 obtain⟨_,ks,nd,pm,mk⟩:=h
 obtain⟨k2,e2⟩:=xO (n:=n) fun x hx=>by
  obtain⟨l,_,e⟩:=List.mem_map.mp (pm.mem_iff.mp hx)
  exact⟨l,e.symm⟩
 have h3:(k2.map S).Nodup:=by rw[<-e2];exact pm.nodup_iff.mpr (List.pairwise_map.mpr (nd.imp fun h e=>h (cK e)))
 refine⟨k2,e2,fun l=>?_,(List.pairwise_map.mp h3).imp fun h e=>h (congrArg S e)⟩
 rw[<-mk]
 have h1:S l∈n↔l∈k2:=by
  rw[e2]
  exact⟨fun z=>by obtain⟨x,hx,e⟩:=List.mem_map.mp z;rw[<-cK e];exact hx,fun z=>List.mem_map.mpr ⟨l,z,rfl⟩⟩
 have h2:S l∈n↔l∈ks:=by
  rw[pm.mem_iff]
  exact⟨fun z=>by obtain⟨x,hx,e⟩:=List.mem_map.mp z;rw[<-cK e];exact hx,fun z=>List.mem_map.mpr ⟨l,z,rfl⟩⟩
 exact h1.symm.trans h2
def d8 (nf kf:Th->List (List Nat))(r:PR)(i:Nat):List (List Nat):=if i+1=r.ps.length then kf r.sym else match r.ps[i+1]? with
 | none=>[]
 | some sy=>cB nf sy
def yL (nf kf:Th->List (List Nat))(r:PR)(i:Nat):Prop:=∀s m,r.ps[i]?=some (s,some m)->∀l∈d8 nf kf r i,l∈kf (s,m)
theorem sJ {rows:List PR}{nf:Th->List (List Nat)}(hn:∀t,t∈av rows->∀l,l∈nf t↔FK rows t l){sy:Sy}(hs:∀m,sy.2=some m->(sy.1,m)∈av rows)(l:List Nat):l∈cB nf sy↔FS rows sy l:=by
 obtain⟨x,o⟩:=sy
 cases o with
 | none=>exact List.mem_singleton
 | some m=>exact hn (x,m) (hs m rfl) l
theorem NK.least {rows:List PR}{nf kf:Th->List (List Nat)}(hn:∀t,t∈av rows->∀l,l∈nf t↔FK rows t l)(hsy:∀r∈rows,∀x∈r.ps,∀m,x.2=some m->(x.1,m)∈av rows)(ht:cD∈kf cH)(hc:∀r∈rows,∀i,yL nf kf r i){t:Th}{l:List Nat}(h:NK rows t l):l∈kf t:=by
 induction h with
 | top=>exact ht
 | @mid r i s m sy l hr hi hj hf =>
  refine hc r hr i s m hi l ?_
  have hlt:=(List.getElem?_eq_some_iff.mp hj).1
  unfold d8
  rw[if_neg (by omega),hj]
  exact (sJ hn (hsy r hr sy (List.mem_of_getElem? hj)) l).mpr hf
 | @last r i s m l hr hi hl _ ih =>
  refine hc r hr i s m hi l ?_
  unfold d8
  rw[if_pos hl]
  exact ih
theorem NK.of {rows:List PR}{nf kf:Th->List (List Nat)}(hn:∀t,t∈av rows->∀l,l∈nf t↔FK rows t l)(hsy:∀r∈rows,∀x∈r.ps,∀m,x.2=some m->(x.1,m)∈av rows)(hk:∀t l,l∈kf t->NK rows t l){r:PR}(hr:r∈rows){i:Nat}{s:List Nat}{m:Int}(hi:r.ps[i]?=some (s,some m)){l:List Nat}(h:l∈d8 nf kf r i):NK rows (s,m) l:=by
 unfold d8 at h
 split at h
 ·rename_i hl;exact .last hr hi hl (hk _ _ h)
 ·split at h
  ·cases h
  ·rename_i sy hj
   exact .mid hr hi hj ((sJ hn (hsy r hr sy (List.mem_of_getElem? hj)) l).mp h)
def sm (rows:List PR)(kf:Th->List (List Nat)):Nat:=((av rows).map fun t=>(kf t).length).sum
structure Bx (rows:List PR)(kf:Th->List (List Nat)):Prop where
 nd:∀t,(kf t).Nodup
 of:∀t l,l∈kf t->NK rows t l
 top:cD∈kf cH
structure PIv (rows:List PR)(kf kf':Th->List (List Nat))(g':Bool)(C:Prop):Prop where
 gd:Bx rows kf'
 up:g'=true->sm rows kf<sm rows kf'
 st:g'=false->kf'=kf/\C
 le:sm rows kf≤sm rows kf'
theorem PIv.weak {rows:List PR}{kf kf':Th->List (List Nat)}{g':Bool}{C C':Prop}(h:PIv rows kf kf' g' C)(hc:C->C'):PIv rows kf kf' g' C' :=
 ⟨h.gd,h.up,fun z=>⟨(h.st z).1,hc (h.st z).2⟩,h.le⟩
theorem PIv.step {rows:List PR}{kf kf':Th->List (List Nat)}{g':Bool}{C C':Prop}(h:PIv rows kf kf' g' C){t:Th}(ht:t∈av rows){bs:List (List Nat)}(hb:∀l∈bs,NK rows t l)(hc:kf'=kf->C->(∀l∈bs,l∈kf' t)->C') :
  ((kf' t).length<(aw (kf' t) bs).length->PIv rows kf (fun u=>if u=t then aw (kf' t) bs else kf' u) true C')/\(¬ (kf' t).length<(aw (kf' t) bs).length->(fun u=>if u=t then aw (kf' t) bs else kf' u)=kf'/\PIv rows kf kf' g' C'):=by
 refine⟨fun hlt=>?_,fun hlt=>?_⟩
 ·have hle:∀u,(kf' u).length≤((fun u=>if u=t then aw (kf' t) bs else kf' u) u).length:=fun u=>by
   dsimp only
   split
   ·rename_i z;rw[z];exact dU _ _
   ·exact Nat.le_refl _
  have hsm:sm rows kf'<sm rows (fun u=>if u=t then aw (kf' t) bs else kf' u):=mC (f:=fun t=>(kf' t).length) (g:=fun u=>((fun u=>if u=t then aw (kf' t) bs else kf' u) u).length) hle (t:=t) (by dsimp only;rw[if_pos rfl];exact hlt) ht
  have:=h.le
  refine⟨⟨fun u=>?_,fun u l hl=>?_,?_⟩,fun _=>by omega,(fun z=>nomatch z),by omega⟩
  ·split
   ·exact cN (h.gd.nd _)
   ·exact h.gd.nd u
  ·split at hl
   ·rename_i z
    rw[z]
    rcases addAll_mem.mp hl with y | y
    ·exact h.gd.of _ _ y
    ·exact hb l y
   ·exact h.gd.of u l hl
  ·split
   ·rename_i z;exact addAll_mem.mpr (.inl (by rw[<-z];exact h.gd.top))
   ·exact h.gd.top
 ·have hall:=dH (Nat.le_of_not_lt hlt)
  have eid:=gc hall
  refine⟨funext fun u=>?_,h.gd,h.up,fun z=>⟨(h.st z).1,hc (h.st z).1 (h.st z).2 hall⟩,h.le⟩
  rw[eid]
  by_cases z:u=t
  ·rw[if_pos z,z]
  ·rw[if_neg z]
def AS (P:Program)(w:World)(K:PySem.W.Frag):Sp:=fun vs H Q _=>∃(a:Addr) (xs:List V) (rows:List PR) (U:List (List Nat)),vs=[.ref a]/\SqL K H a xs/\DatVs K H xs (rows.map PR.dat)/\rows.length≤50000/\(∀r∈rows,1≤r.ps.length) /\
 (∀r∈rows,∀x∈r.ps,∀m,x.2=some m->(x.1,m)∈av rows)/\cH∈av rows/\(∀t l,FK rows t l->l∈U)/\(∀t l,NK rows t l->l∈U)/\U.length<64 /\
 ∀H' d es ns ep,TD P w K H H' d es ns ep->es.map (·.1)=av rows->(∀e∈es,KsQ (NK rows e.1) (ns e.1))->Q (.ref d) H'
abbrev st_next_kinds:Stmt:=top 29
theorem eJ:ax ["plain","firsts","nexts","grown","symbol","parts","rule","place","part","last","behind"] ["plain"] (ak st_next_kinds):=⟨rfl,rfl,rfl,by decide +kernel,rfl,by decide +kernel,by decide +kernel⟩
theorem wU (R:Raw K mg "next_kinds" st_next_kinds ["plain"])(T:Txt K w mg tT)(D_first_kinds:Def P w K mg base 2 "first_kinds" ["plain"] (An P w K))(D_none_yet:Def P w K mg base 1 "none_yet" ["plain"] (uM P w K))(D_put_in:Def P w K mg base 1 "put_in" ["kinds","more"] (n9 K))(D_firsts_of:Def P w K mg base 1 "firsts_of" ["firsts","part"] (uV P w K))(D_sorted_lists:Def P w K mg base 1 "sorted_lists" ["kinds"] (vp P w K)):Def P w K mg base 3 "next_kinds" ["plain"] (AS P w K):=by
 refine R.defJ eJ (fun vs H Q E h=>?_) (fun f cdv A outer s H vs Q E hr h=>?_)
 ·obtain⟨a,xs,rows,U,rfl,_⟩:=h
  rfl
 ·obtain⟨a,xs,rows,U,rfl,hS,hD,hl,hps,hsy,htop,hU,hV,hU64,q⟩:=h
  have sc:=eJ
  have hu:=hr.units
  have hbg:(1000000:Nat)<sizeLine:=by rw[sizeLine_eq];decide
  have hxl:xs.length=rows.length:=by have:=hD.length;rw[List.length_map]at this;exact this
  have row:∀(i:Nat) (x:V),xs[i]?=some x->∃r t ts tp ys,rows[i]?=some r/\x=.ref t/\SqT K H t [.ref ts,.ref tp,.int r.no]/\SqT K H ts (pV (cj r.sym))/\SqT K H tp ys/\DatVs K H ys (r.ps.map bV):=fun i x hx=>by
   obtain⟨dd,hdd,hxd⟩:=hD.get hx
   rw[List.getElem?_map]at hdd
   cases ee:rows[i]? with
   | none=>rw[ee]at hdd;cases hdd
   | some r =>
    rw[ee]at hdd
    have ed:dd=r.dat:=(Option.some.inj hdd).symm
    subst ed
    obtain⟨t,ts,tp,ys,e,h1,h2,h3,h4⟩:=dJ hxd
    exact⟨r,t,ts,tp,ys,rfl,e,h1,h2,h3,h4⟩
  refine⟨_,(ac (ao (i:=1) sc.nd rfl (Or.inl rfl) (bg D_first_kinds (hr.mono (by decide)) rfl (aa (jn 0) af)))
  (ac (ao (i:=2) sc.nd rfl (Or.inl rfl) (bg D_none_yet (hr.mono (by decide)) rfl (aa (jn 0) af)))
  (ac (gY hu (aO (fH hu (K:=K) (P:=P) (w:=w)) (jn 2) (eY (v:=.ref _) rfl T.g_TOP rfl)) (xh rfl T.g_END) eV)
  (ac (ao (i:=3) sc.nd rfl (Or.inl rfl) eV)
  (ac (cW PassesOwn.never (dA (K:=K) (jn 3))
  (ac (ao (i:=3) sc.nd rfl (Or.inl rfl) eV)
  (ag (aP PassesOwn.never rfl (aW (K:=K) (jn 0)) (bD (K:=K) (n:=3) rfl (ar (ai (i:=4) sc.nd rfl (Or.inl rfl)) (ar (ai (i:=5) sc.nd rfl (Or.inl rfl)) (ar (ai (i:=6) sc.nd rfl (Or.inl rfl)) bo))))
  (ag (aP PassesOwn.never rfl (kS (K:=K) rfl T.n_enumerate (aa (jn 5) af)) (bD (K:=K) (n:=2) rfl (ar (ai (i:=7) sc.nd rfl (Or.inl rfl)) (ar (ai (i:=8) sc.nd rfl (Or.inl rfl)) bo)))
  (ag (aZ (aA (wz hu (K:=K) (P:=P) (w:=w)) (jn 8) (jn 2))
  (ac (ao (i:=9) sc.nd rfl (Or.inl rfl) (jQ (bX hu (K:=K)) (jn 7) (aR oH (aM (fR (K:=K) (P:=P) (w:=w)) rfl T.n_len PySem.boot_len (aa (jn 5) af)) ap)))
  (ac (ao (i:=10) sc.nd rfl (Or.inl rfl) (lI (dA (K:=K) (jn 9)) (bK (oN rfl (K:=K)) rfl T.n_list boot_list (aa (aO (fH hu (K:=K) (P:=P) (w:=w)) (jn 2) (jn 4)) af)) (bg D_firsts_of (hr.mono (by decide)) rfl (aa (jn 1) (aa (aO (aU hu (K:=K) (w:=w)) (jn 5) (aR (bv (K:=K)) (jn 7) ap)) af)))))
  (ag (ao (i:=3) sc.nd rfl (Or.inl rfl) (yA (bg D_put_in (hr.mono (by decide)) rfl (aa (aO (fH hu (K:=K) (P:=P) (w:=w)) (jn 2) (jn 8)) (aa (jn 10) af))) (tG (jn 3)))))))
  aE))))))))
  (ag (aQ (bg D_sorted_lists (hr.mono (by decide)) rfl (aa (jn 2) af))))))))),?_⟩
  refine⟨a,xs,rows,U,rfl,hS,hD,hl,hps,(fun r hr s m h=>hsy r hr (s,some m) (List.mem_of_getElem? h) m rfl),hU,hU64,fun H0 d1 es1 ns1 ep1 td1 hes1 hks1=>?_⟩
  have s0:=td1.s
  refine⟨a,xs,rows,rfl,s0.seq hS,hD.same s0,hl,fun H1 d es ep fi hes=>?_⟩
  obtain⟨nf,hnf⟩:∃nf:Th->List (List Nat),∀t∈av rows,ns1 t=(nf t).map S/\(∀l,l∈nf t↔FK rows t l)/\(nf t).Nodup:=by
   classical
   refine⟨fun t=>if h:∃ks:List (List Nat),ns1 t=ks.map S/\(∀l,l∈ks↔FK rows t l)/\ks.Nodup then h.choose else [],fun t ht=>?_⟩
   rw[<-hes1]at ht
   obtain⟨e,he,ee⟩:=List.mem_map.mp ht
   have h:=KsQ.list (Pr:=FK rows e.1) (hks1 e he)
   rw[ee]at h
   dsimp only
   rw[dif_pos h]
   exact h.choose_spec
  have hn2:∀t,t∈av rows->∀l,l∈nf t↔FK rows t l:=fun t ht=>(hnf t ht).2.1
  have hte:cH∈es.map (·.1):=by rw[hes];exact htop
  obtain⟨e0,me0,ee0,hv0⟩:=bB hte
  refine .inl ⟨d,aK es,ep,gk cH,.ref e0.2.2,rfl,fi.g,bu (T.k_TOP H1),hv0,?_⟩
  refine⟨_,DPut.k (k:=.inr (S cD)) (fi.v e0 me0) (show 0+1≤sizeLine by omega),?_⟩
  rw[gR,show bt [] cD=[cD] from rfl]
  have fi0:=fi.put me0 [cD]
  rw[ee0]at fi0
  generalize al H1 e0.2.2 (.dK (eR [cD]))=H2 at fi0 ⊢
  clear hv0 fi hks1
  obtain⟨N,eN⟩:∃N,N=(av rows).length*U.length:=⟨_,rfl⟩
  have bd:∀kf:Th->List (List Nat),Bx rows kf->(∀t,(kf t).length≤U.length)/\sm rows kf≤N:=fun kf g=>by
   have h1:∀t,(kf t).length≤U.length:=fun t=>eK (g.nd t) fun x hx=>hV t x (g.of t x hx)
   exact⟨h1,by rw[eN];exact mT h1 _⟩
  have gd0:Bx rows (fun u=>if u=cH then [cD] else []):=by
   refine⟨fun u=>?_,fun u l h=>?_,?_⟩
   ·split
    ·simp
    ·exact .nil
   ·split at h
    ·rename_i z;rw[List.mem_singleton.mp h,z];exact .top
    ·cases h
   ·rw[if_pos rfl];exact List.mem_singleton.mpr rfl
  refine⟨fun m σ H'=>∃(kf:Th->List (List Nat)) (g:Bool) (v4 v5 v6 v7 v8 v9 v10:Option V),FI P w K H0 H' d es kf ep/\Bx rows kf/\(g=true->m=N-sm rows kf+1)/\(g=false->m=0/\∀r∈rows,∀i,yL nf kf r i)/\σ=[some (.ref a),some (.ref d1),some (.ref d),some (.bl g),v4,v5,v6,v7,v8,v9,v10],
   ⟨_,_,true,none,none,none,none,none,none,none,fi0,gd0,fun _=>rfl,(fun z=>nomatch z),rfl⟩,?_⟩
  rintro m σ H3 ⟨kf,g,v4,v5,v6,v7,v8,v9,v10,fi3,gd3,m1,m2,rfl⟩
  refine⟨g,rfl,?_⟩
  show if g=true then _ else _
  refine bc (fun hg=>?_) (fun hg=>?_)
  ·refine⟨_,fun σ' H' h=>h,?_⟩
   refine .inl ⟨⟨_,(s0.trans fi3.s).seq hS⟩,?_⟩
   refine aV (xs:=xs) (fun i σ H'=>∃(kf':Th->List (List Nat)) (g':Bool) (v4 v5 v6 v7 v8 v9 v10:Option V),FI P w K H0 H' d es kf' ep/\PIv rows kf kf' g' (∀(j:Nat) (r:PR),j<i->rows[j]?=some r->∀k,yL nf kf r k)/\σ=[some (.ref a),some (.ref d1),some (.ref d),some (.bl g'),v4,v5,v6,v7,v8,v9,v10])
    ⟨kf,false,v4,v5,v6,v7,v8,v9,v10,fi3,⟨gd3,(fun z=>nomatch z),(fun _=>⟨rfl,fun j r hj=>absurd hj (Nat.not_lt_zero _)⟩),Nat.le_refl _⟩,rfl⟩ (fun i σ H' _ h=>by obtain⟨_,_,_,_,_,_,_,_,_,fi4,_⟩:=h;exact (s0.trans fi4.s).seq hS) ?_ ?_
   ·rintro i x σ H4 hx ⟨kf',g',v4,v5,v6,v7,v8,v9,v10,fi4,pi4,rfl⟩
    obtain⟨r,t,ts,tp,ys,hri,rfl,hT,hts,htp,hys⟩:=row i x hx
    have mr:r∈rows:=List.mem_of_getElem? hri
    have hyl:ys.length=r.ps.length:=by have:=hys.length;rw[List.length_map]at this;exact this
    refine⟨t,_,rfl,(s0.trans fi4.s).seqT hT,rfl,_,_,rfl,_,_,rfl,_,_,rfl,rfl,?_⟩
    refine⟨⟨_,(s0.trans fi4.s).seqT htp⟩,?_⟩
    refine jo (xs:=ys) (fun k σ H'=>∃(kf':Th->List (List Nat)) (g':Bool) (v7 v8 v9 v10:Option V),FI P w K H0 H' d es kf' ep/\PIv rows kf kf' g' ((∀(j:Nat) (r:PR),j<i->rows[j]?=some r->∀k,yL nf kf r k)/\∀k',k'<k->yL nf kf r k')/\σ=[some (.ref a),some (.ref d1),some (.ref d),some (.bl g'),some (.ref ts),some (.ref tp),some (.int r.no),v7,v8,v9,v10])
     ⟨kf',g',v7,v8,v9,v10,fi4,pi4.weak fun z=>⟨z,fun k' hk=>absurd hk (Nat.not_lt_zero _)⟩,rfl⟩ (fun k σ H' _ h=>by obtain⟨_,_,_,_,_,_,fi5,_⟩:=h;exact (s0.trans fi5.s).seqT htp) ?_ ?_
    ·clear kf' g' fi4 pi4 v4 v5 v6 v7 v8 v9 v10
     rintro k y σ H4 hy ⟨kf',g',v7,v8,v9,v10,fi4,pi4,rfl⟩ T0 hT0
     obtain⟨dd,hdd,hyd⟩:=hys.get hy
     rw[List.getElem?_map]at hdd
     cases es0:r.ps[k]? with
     | none=>rw[es0]at hdd;cases hdd
     | some sy =>
      rw[es0]at hdd
      have ed:dd=bV sy:=(Option.some.inj hdd).symm
      subst ed
      have hkl:k<r.ps.length:=(List.getElem?_eq_some_iff.mp es0).1
      have s5:Same H4 (al H4 T0 (.tup [.int (k:Nat),y])):=ah hT0
      refine⟨T0,_,rfl,SqT.of ae,rfl,_,_,rfl,_,_,rfl,rfl,?_⟩
      generalize al H4 T0 (.tup [.int (k:Nat),y])=H5 at s5 ⊢
      have fi5:=fi4.grow s5
      have s05:=s0.trans fi5.s
      have b5:=(bd kf' pi4.gd).1
      rcases gh (hyd.same s05) with⟨e1,rfl⟩ | ⟨m',p,e1,rfl,hp⟩
      ·refine .inl ⟨d,aK es,ep,.inl (.inr (S sy.1)),rfl,fi5.g,rfl,?_⟩
       rw[lx]
       refine⟨kf',g',_,_,_,_,fi5,pi4.weak fun z=>⟨z.1,fun k' hk'=>?_⟩,rfl⟩
       by_cases hkk:k'=k
       ·intro s m hsm
        rw[hkk,es0]at hsm
        rw[Option.some.inj hsm]at e1
        cases e1
       ·exact z.2 k' (by omega)
      ·have esy:sy=(sy.1,some m'):=Prod.ext rfl e1
       have hsm:r.ps[k]?=some (sy.1,some m'):=by rw[es0,<-esy]
       have htS:=hsy r mr sy (List.mem_of_getElem? es0) m' e1
       have ht:(sy.1,m')∈es.map (·.1):=by rw[hes];exact htS
       have hkey:KeyV K H5 (gk (sy.1,m')) (.ref p):=bu hp
       refine .inl ⟨d,aK es,ep,gk (sy.1,m'),rfl,fi5.g,hkey,?_⟩
       rw[ents_val.mpr ht]
       obtain⟨e,me,ee,hv⟩:=bB ht
       refine .inr (.inr ⟨ys,.inr (s05.seqT htp),?_⟩)
       have stp:=pi4.step (C':=(∀(j:Nat) (r:PR),j<i->rows[j]?=some r->∀k,yL nf kf r k)/\∀k',k'<k+1->yL nf kf r k') htS (bs:=d8 nf kf' r k) (fun l hl=>NK.of hn2 hsy pi4.gd.of mr hsm hl) fun ek c hall=>⟨c.1,fun k' hk'=>by
        by_cases hkk:k'=k
        ·rw[hkk]
         intro s m hs l hl
         rw[hsm]at hs
         have:=Option.some.inj hs
         rw[Prod.mk.injEq]at this
         rw[<-this.1,<-Option.some.inj this.2,<-ek]
         exact hall l (by rw[ek];exact hl)
        ·exact c.2 k' (by omega)⟩
       have hbl:(d8 nf kf' r k).length≤1000:=by
        unfold d8
        split
        ·have:=b5 r.sym;omega
        ·split
         ·exact Nat.zero_le _
         ·rename_i s2 hs2
          obtain⟨x2,o2⟩:=s2
          cases o2 with
          | none=>exact (show 1≤1000 by decide)
          | some m2 =>
           have h2:(x2,m2)∈av rows:=hsy r mr (x2,some m2) (List.mem_of_getElem? hs2) m2 rfl
           show (nf (x2,m2)).length≤1000
           have:=eK (hnf _ h2).2.2 fun l hl=>hU _ l ((hn2 _ h2 l).mp hl)
           omega
       refine⟨_,rfl,?_⟩
       show if (false^^decide (((k:Nat):Int)=((ys.length:Nat):Int)-1))=true then _ else _
       rw[Bool.false_xor]
       refine bc (fun hlast=>?A) (fun hlast=>?B)
       case' A =>
        have hla:k+1=r.ps.length:=by have:=of_decide_eq_true hlast;omega
        have ebe:d8 nf kf' r k=kf' r.sym:=by unfold d8;rw[if_pos hla]
        have hrm:r.sym∈es.map (·.1):=by rw[hes];exact mem_symsF.mpr ⟨r,mr,rfl⟩
        obtain⟨e2,me2,ee2,hv2⟩:=bB hrm
        have hd2:=fi5.v e2 me2
        rw[ee2]at hd2
        refine .inl ⟨d,aK es,ep,gk r.sym,.ref e2.2.2,rfl,fi5.g,bu (s05.seqT hts),hv2,?_⟩
        refine .inl ⟨(kf' r.sym).map fun l=>(S l,.bl true),by rw[List.map_map];exact hd2,by rw[List.length_map];have:=b5 r.sym;omega,fun p6 hp6=>?_⟩
        have s6:Same H5 (al H5 p6 (.lst (((kf' r.sym).map fun l=>(S l,V.bl true)).map fun kv=>V.str kv.1))):=ah hp6
        have h6:al H5 p6 (.lst (((kf' r.sym).map fun l=>(S l,V.bl true)).map fun kv=>V.str kv.1)) p6=some (.lst ((d8 nf kf' r k).map fun l=>V.str (S l))):=by rw[ae,List.map_map,ebe];rfl
        generalize al H5 p6 (.lst (((kf' r.sym).map fun l=>(S l,V.bl true)).map fun kv=>V.str kv.1))=H6 at s6 h6 ⊢
        clear ebe hrm hv2 hd2
       case' B =>
        have hla:k+1<r.ps.length:=by
         by_cases z:k+1<r.ps.length
         ·exact z
         ·exact absurd (decide_eq_true (by omega)) hlast
        have es2:r.ps[k+1]?=some r.ps[k+1]:=List.getElem?_eq_getElem hla
        generalize r.ps[k+1]=s2 at es2
        have ebe:d8 nf kf' r k=cB nf s2:=by unfold d8;rw[if_neg (by omega),es2]
        have hy2:ys[k+1]?=some (ys[k+1]'(by omega)):=List.getElem?_eq_getElem (by omega)
        generalize ys[k+1]'(by omega)=y2 at hy2
        obtain⟨dd2,hdd2,hyd2⟩:=hys.get hy2
        rw[List.getElem?_map,es2]at hdd2
        have ed2:dd2=bV s2:=(Option.some.inj hdd2).symm
        subst ed2
        have td5:=td1.grow fi5.s
        have hs2:∀m,s2.2=some m->(s2.1,m)∈av rows:=hsy r mr s2 (List.mem_of_getElem? es2)
        have efs:(pS ns1 s2).map V.str=(cB nf s2).map fun l=>V.str (S l):=by
         obtain⟨x2,o2⟩:=s2
         cases o2 with
         | none=>rfl
         | some m2=>show (ns1 (x2,m2)).map V.str=_;rw[(hnf _ (hs2 m2 rfl)).1,List.map_map];rfl
        refine .inr ⟨_,y2,s05.seqT htp,aq (j:=k+1) hy2,?_⟩
        refine⟨d1,es1,ns1,ep1,y2,s2,rfl,td5.g,(fun e he=>.inr (td5.v e he)),hyd2.same s05,fun m hm=>by rw[hes1];exact hs2 m hm,fun H6 p6 s6 hp6 h6=>?_⟩
        rw[efs,<-ebe]at h6
        clear ebe efs hs2 td5 hyd2
       all_goals
        have fi6:=fi5.grow s6
        have hd6:=fi6.v e me
        rw[ee]at hd6
        have hkey6:KeyV K H6 (gk (sy.1,m')) (.ref p):=bu (s6.seqT hp)
        refine .inl ⟨d,aK es,ep,gk (sy.1,m'),.ref e.2.2,rfl,fi6.g,hkey6,hv,?_⟩
        refine⟨e.2.2,p6,kf' (sy.1,m'),d8 nf kf' r k,rfl,hd6,SqL.of h6,(fun z=>by have:=fi5.v e me;rw[z,hp6]at this;cases this),by have:=b5 (sy.1,m');omega,?_⟩
        have fi7:=fi6.put me (aw (kf' (sy.1,m')) (d8 nf kf' r k))
        rw[ee]at fi7
        by_cases hb:(kf' (sy.1,m')).length<(aw (kf' (sy.1,m')) (d8 nf kf' r k)).length
        ·rw[decide_eq_true hb]
         exact⟨_,true,_,_,_,_,fi7,stp.1 hb,rfl⟩
        ·rw[decide_eq_false hb]
         have h8:=stp.2 hb
         rw[h8.1]at fi7
         exact⟨_,g',_,_,_,_,fi7,h8.2,rfl⟩
    ·rintro σ H5 ⟨kf2,g2,w7,w8,w9,w10,fi5,pi5,rfl⟩
     refine⟨kf2,g2,_,_,_,_,_,_,_,fi5,pi5.weak fun z j r' hj hr' k=>?_,rfl⟩
     by_cases hji:j=i
     ·rw[hji,hri]at hr'
      have er:=Option.some.inj hr'
      subst er
      by_cases hk:k<ys.length
      ·exact z.2 k hk
      ·intro s m hsm
       have:=(List.getElem?_eq_some_iff.mp hsm).1
       omega
     ·exact z.1 j r' (by omega) hr' k
   ·rintro σ H4 ⟨kf',g',v4,v5,v6,v7,v8,v9,v10,fi4,pi4,rfl⟩
    have b2:=(bd kf gd3).2
    have b3:=(bd kf' pi4.gd).2
    have em:=m1 hg
    cases g' with
    | true =>
     have:=pi4.up rfl
     exact⟨_,by omega,kf',true,_,_,_,_,_,_,_,fi4,pi4.gd,fun _=>rfl,(fun z=>nomatch z),rfl⟩
    | false =>
     obtain⟨e9,g9⟩:=pi4.st rfl
     subst e9
     refine⟨0,by omega,kf',false,_,_,_,_,_,_,_,fi4,pi4.gd,(fun z=>nomatch z),fun _=>⟨rfl,fun r hr k=>?_⟩,rfl⟩
     obtain⟨j,hj,ej⟩:=List.mem_iff_getElem.mp hr
     exact g9 j r (by omega) (by rw[List.getElem?_eq_getElem hj,ej]) k
  ·have hg0:g=false:=by cases g with | true=>exact absurd rfl hg | false=>rfl
   have hcl:=(m2 hg0).2
   have b3:=(bd kf gd3).1
   have hel:es.length≤50000:=by
    have h1:=cV rows rows.length
    rw[List.take_length,<-hes,List.length_map]at h1
    omega
   refine⟨H0,d,es,kf,ep,rfl,fi3,hel,fun t=>by have:=b3 t;omega,fun H4 d' es' ns ep' td hes' hns=>?_⟩
   have s3:=s0.trans fi3.s
   refine q H4 d' es' ns ep' ?_ (hes'.trans hes) fun e he=>⟨(hns e he).2,kf e.1,gd3.nd _,(hns e he).1,fun l=>⟨gd3.of _ _,NK.least hn2 hsy gd3.top hcl⟩⟩
   exact⟨td.g,td.v,td.nd,fun e he=>⟨(td.dd e he).1,bj s3 (td.dd e he).2⟩,bj s3 td.d0,s3.trans td.s⟩
end
end K31
namespace L2
open PySem PySem.Spec PyProof.Rows
theorem nH {X:Cx}{K:PySem.W.Frag}(hu:X.A.units+64<cLine)(hK:X.K=K:=by rfl):Irr (bq X (compareOp .Eq) (zM K)):=by
 subst hK
 exact .mk (mm hu)
end L2
--@RAISES but law
namespace K31
open PySem PySem.Spec PyProof.Rows L2 Rg
section
variable {P:Program}{w:World}{K:PySem.W.Frag}{mg:Str->Option Value}{base:Heap}{C tS tN tT:Addr}
structure wR (r:PR):Prop where
 l1:cY r.sym.1
 lp:∀s∈r.ps,cY s.1
theorem fh {s:Sy}(h:cY s.1):(bV s).canLay0=true:=by
 obtain⟨l,o⟩:=s
 cases o with
 | none=>show (PyData.str (S l)).canLay0=true;simp only[PyData.canLay0];exact dy h
 | some r=>exact iF (p:=(S l,r)) (dy h)
theorem oM:∀{l:List Sy},(∀s∈l,cY s.1)->PyData.canLayAll0 (l.map bV)=true
 | [],_=>by simp only[List.map_nil,PyData.canLayAll0]
 | s::r,h=>by
  rw[List.map_cons]
  simp only[PyData.canLayAll0,fh (h s List.mem_cons_self),oM fun x hx=>h x (List.mem_cons_of_mem _ hx),Bool.and_self]
theorem ze {r:PR}(h:wR r):r.dat.canLay0=true:=by
 unfold PR.dat
 have h1:=iF (p:=cj r.sym) (dy h.l1)
 simp only[PyData.canLay0,PyData.canLayAll0,h1,oM h.lp,Bool.and_self]
theorem oB:∀{l:List PR},(∀r∈l,wR r)->PyData.canLayAll0 (l.map PR.dat)=true
 | [],_=>by simp only[List.map_nil,PyData.canLayAll0]
 | s::r,h=>by
  rw[List.map_cons]
  simp only[PyData.canLayAll0,ze (h s List.mem_cons_self),oB fun x hx=>h x (List.mem_cons_of_mem _ hx),Bool.and_self]
theorem oR {rs:List Rl}(h1:1≤rs.length)(hF:∀q∈rs,lD q):∀r∈aG rs,wR r:=fun r hr=>by
 have so:∀s∈aH rs,cY s:=fun s hs=>by
  obtain⟨q,hq,e⟩:=mem_sortsF.mp hs
  rw[<-e];exact (hF q hq).ls
 rcases List.mem_cons.mp hr with e | hr
 ·rw[e]
  refine⟨(fun c hc=>nomatch hc),fun s hs=>?_⟩
  rw[List.mem_singleton.mp hs]
  refine (hF _ ?_).ls
  rw[List.getD,List.getElem?_eq_getElem (by omega)]
  exact List.getElem_mem _
 ·obtain⟨s,hs,h⟩:=List.mem_flatMap.mp hr
  rcases cn h with⟨n,q,hq,_,e⟩ | ⟨a,b,ha,_,e⟩
  ·have f:=hF q (List.mem_of_getElem? hq)
   rw[e]
   refine⟨f.ls,fun x hx=>?_⟩
   obtain⟨j,hj,rfl⟩:=List.mem_map.mp hx
   have hj:=List.mem_range.mp hj
   show cY (q.ps.getD j [])
   rw[List.getD,List.getElem?_eq_getElem hj]
   exact (f.lp _ (List.getElem_mem _)).1
  ·rw[e]
   refine⟨so s hs,fun x hx=>?_⟩
   rw[List.mem_singleton.mp hx]
   exact so s hs
def dm (t:Th):Sy:=(t.1,some t.2)
theorem ky {t u:Th}(h:dm t=dm u):t=u:=by
 unfold dm at h
 rw[Prod.mk.injEq]at h
 exact Prod.ext h.1 (Option.some.inj h.2)
def pd (s:Sy):Str×Option Int:=(S s.1,s.2)
theorem nN {s u:Sy}(h:pd s=pd u):s=u:=by
 unfold pd at h
 rw[Prod.mk.injEq]at h
 exact Prod.ext (cK h.1) h.2
theorem jN (s:Sy):bV s=qD (pd s):=by
 obtain⟨l,o⟩:=s
 cases o<;>rfl
theorem qz (F:List Sy):F.map bV=(F.map pd).map qD:=by rw[List.map_map];exact List.map_congr_left fun s _=>jN s
theorem nB (F:List Sy)(s:Sy):decide (pd s∈F.map pd)=decide (s∈F):=by
 refine decide_eq_decide.mpr ⟨fun h=>?_,fun h=>List.mem_map.mpr ⟨s,h,rfl⟩⟩
 obtain⟨u,hu,e⟩:=List.mem_map.mp h
 rw[<-nN e];exact hu
theorem iu (s u:Sy):PyData.eqv (bV s) (bV u)=decide (s=u):=by
 rw[jN,jN,se]
 exact decide_eq_decide.mpr ⟨nN,fun e=>by rw[e]⟩
theorem hJ (s:Sy):(bV s).depth≤4:=by rw[jN];exact oz _
theorem wm {F:List Sy}{s:Sy}(hs:cY s.1)(h:∀u∈F,cY u.1):∀q∈pd s::F.map pd,PyData.strOk q.1=true:=fun q hq=>by
 rcases List.mem_cons.mp hq with e | e
 ·rw[e];exact dy hs
 ·obtain⟨u,hu,rfl⟩:=List.mem_map.mp e
  exact dy (h u hu)
theorem iT {H:Hp}{a:Addr}{t:Th}(h:SqT K H a (pV (cj t))):DatV K H (.ref a) (bV (dm t)):=qo h
inductive jb (rows:List PR)(tr yl:PR->Option Sy)(s0:Sy):Sy->Prop
 | refl:jb rows tr yl s0 s0
 | step {r:PR} {u v:Sy}:r∈rows->jb rows tr yl s0 u->tr r=some u->yl r=some v->jb rows tr yl s0 v
def AB (rows:List PR)(tr yl:PR->Option Sy)(F:List Sy)(u:Sy):Prop:=∀r∈rows,tr r=some u->∀v,yl r=some v->v∈F
theorem sT {rows:List PR}{tr yl:PR->Option Sy}{s0:Sy}{F:List Sy}(h0:s0∈F)(hc:∀u∈F,AB rows tr yl F u){u:Sy}(h:jb rows tr yl s0 u):u∈F:=by
 induction h with
 | refl=>exact h0
 | step hr _ ht hy ih=>exact hc _ ih _ hr ht _ hy
theorem hZ {rows:List PR}{tr yl:PR->Option Sy}{s0:Sy}{F:List Sy}(nd:F.Nodup)(hF:∀u∈F,jb rows tr yl s0 u):F.length≤rows.length+1:=by
 have h1:=eK (U:=s0::rows.filterMap yl) nd fun u hu=>by
  cases hF u hu with
  | refl=>exact List.mem_cons_self
  | step hr _ _ hy=>exact List.mem_cons_of_mem _ (List.mem_filterMap.mpr ⟨_,hr,hy⟩)
 have h2:=List.length_filterMap_le yl rows
 rw[List.length_cons]at h1
 omega
def qh (r:PR):Option Sy:=some (dm r.sym)
def qf (r:PR):Option Sy:=r.ps[0]?
theorem yJ {rows:List PR}{t:Th}{s:Sy}(h:jb rows qh qf (dm t) s):∀l,FS rows s l->FK rows t l:=by
 induction h with
 | refl=>exact fun l h=>h
 | @step r u s hr _ ht hp ih =>
  intro l hl
  have ht:=Option.some.inj ht
  subst ht
  obtain⟨x,o⟩:=s
  cases o with
  | none=>have hl:l=x:=hl;rw[hl];exact ih x (FK.word hr hp)
  | some m=>exact ih l (FK.step hr hp hl)
theorem zo {rows:List PR}{s0:Sy}{t:Th}{l:List Nat}(h:FK rows t l):jb rows qh qf s0 (dm t)->jb rows qh qf s0 (l,none):=by
 induction h with
 | @word r l hr hp=>exact fun z=>.step hr z rfl hp
 | @step r s m l hr hp _ ih=>exact fun z=>ih (.step hr z rfl hp)
def AC (K:PySem.W.Frag):Sp:=fun vs H Q _=>∃(a b:Addr) (xs:List V) (rows:List PR) (t:Th),vs=[.ref a,.ref b]/\SqL K H a xs/\DatVs K H xs (rows.map PR.dat)/\rows.length≤50000/\(∀r∈rows,1≤r.ps.length)/\(∀r∈rows,wR r)/\SqT K H b (pV (cj t))/\cY t.1 /\
 ∀H' p (ms:List (List Nat)),Same H H'->H p=none->H' p=some (.lst (ms.map fun l=>V.str (S l)))->ms.Nodup->(∀l,l∈ms↔FK rows t l)->Q (.ref p) H'
abbrev st__law_beginning:Stmt:=top 40
theorem cm:ax ["_law_plain","_law_symbol","_law_found","_law_at","_law_left","_law_parts","_law_rule_here"] ["_law_plain","_law_symbol"] (ak st__law_beginning):=⟨rfl,rfl,rfl,by decide +kernel,rfl,by decide +kernel,by decide +kernel⟩
theorem zj (R:Raw K mg "_law_beginning" st__law_beginning ["_law_plain","_law_symbol"])(T:Txt K w mg tT):Def P w K mg base 1 "_law_beginning" ["_law_plain","_law_symbol"] (AC K):=by
 refine R.defJ cm (fun vs H Q E h=>?_) (fun f cdv A outer s H vs Q E hr h=>?_)
 ·obtain⟨a,b,xs,rows,t,rfl,_⟩:=h
  rfl
 ·obtain⟨a,b,xs,rows,t,rfl,hS,hD,hl,hps,hlw,hb,hbl,q⟩:=h
  have sc:=cm
  have hu:=hr.units
  have hbg:(1000000:Nat)<sizeLine:=by rw[sizeLine_eq];decide
  have hxl:xs.length=rows.length:=by have:=hD.length;rw[List.length_map]at this;exact this
  have row:∀(i:Nat) (x:V),xs[i]?=some x->∃r t ts tp ys,rows[i]?=some r/\x=.ref t/\SqT K H t [.ref ts,.ref tp,.int r.no]/\SqT K H ts (pV (cj r.sym))/\SqT K H tp ys/\DatVs K H ys (r.ps.map bV):=fun i x hx=>by
   obtain⟨dd,hdd,hxd⟩:=hD.get hx
   rw[List.getElem?_map]at hdd
   cases ee:rows[i]? with
   | none=>rw[ee]at hdd;cases hdd
   | some r =>
    rw[ee]at hdd
    have ed:dd=r.dat:=(Option.some.inj hdd).symm
    subst ed
    obtain⟨t,ts,tp,ys,e,h1,h2,h3,h4⟩:=dJ hxd
    exact⟨r,t,ts,tp,ys,rfl,e,h1,h2,h3,h4⟩
  refine⟨_,(ac (ao (i:=2) sc.nd rfl (Or.inl rfl) (bU (aa (jn 1) af)))
  (ac (ao (i:=3) sc.nd rfl (Or.inl rfl) ap)
  (ac (cW PassesOwn.never (aA y6 (jn 3) (aM (eI (K:=K)) rfl T.n_len PySem.boot_len (aa (jn 2) af)))
  (ac (aP PassesOwn.never rfl (aW (K:=K) (jn 0)) (bD (K:=K) (n:=3) rfl (ar (ai (i:=4) sc.nd rfl (Or.inl rfl)) (ar (ai (i:=5) sc.nd rfl (Or.inl rfl)) (ar (ai (i:=6) sc.nd rfl (Or.inl rfl)) bo))))
  (ag (aZ (jc (fg (aA (nH hu (K:=K)) (jn 4) (aO (aU hu (K:=K) (w:=w)) (jn 2) (jn 3))) (dh (aA (ll hu (K:=K)) (aO (aU hu (K:=K) (w:=w)) (jn 5) ap) (jn 2)))))
  (ag (be (fU (K:=K) PySem.F.plainAttrs_list PySem.F.slot_list_append PySem.F.type_list_append cg (jn 2) (aa (aO (aU hu (K:=K) (w:=w)) (jn 5) ap) af))))
  aE)))
  (ag (ao (i:=3) sc.nd rfl (Or.inl rfl) (aR (bv (K:=K)) (jn 3) ap)))))
  (ag (aQ (fS (N:=["_law_kind"]) (cap:=[none]) rfl (CompScope.of rfl (by rfl)) (aW (K:=K) (jn 2)) (fun _ _ _ _=>(ai (i:=0) (show List.Nodup [("_law_kind":Str)] by decide +kernel) rfl (Or.inl rfl))) (fun _ _ _ _=>(fK (gi (aM (iQ (K:=K)) rfl T.n_isinstance boot_isinstance (aa (jn 0) (aa (iA (v:=.ty "str") rfl T.n_str boot_str rfl) af)))))) (fun _ _ _ _=>(jn 0)))))))),?_⟩
  refine⟨(show 1≤sizeLine by decide),fun p hp0=>?_⟩
  have s1:Same H (al H p (.lst [V.ref b])):=ah hp0
  have h1:al H p (.lst [V.ref b]) p=some (.lst [V.ref b]):=ae
  have d1:DatVs K (al H p (.lst [V.ref b])) [V.ref b] ([dm t].map bV):=.cons (iT (s1.seqT hb)) .nil
  generalize al H p (.lst [V.ref b])=H1 at s1 h1 d1 ⊢
  obtain⟨s0,es0⟩:∃s0,s0=dm t:=⟨_,rfl⟩
  have hl0:cY s0.1:=by rw[es0];exact hbl
  rw[<-es0]at d1
  obtain⟨N,eN⟩:∃N,N=rows.length+1:=⟨_,rfl⟩
  refine⟨fun m σ H'=>∃(F:List Sy) (ys:List V) (at_:Nat) (v4 v5 v6:Option V),m=N-at_/\Same H H'/\H' p=some (.lst ys)/\DatVs K H' ys (F.map bV)/\F.Nodup/\(∀u∈F,jb rows qh qf s0 u/\cY u.1)/\s0∈F/\at_≤F.length/\(∀(k:Nat) (u:Sy),k<at_->F[k]?=some u->AB rows qh qf F u)/\σ=[some (.ref a),some (.ref b),some (.ref p),some (.int (at_:Nat)),v4,v5,v6],
   ⟨_,[s0],[V.ref b],0,none,none,none,rfl,s1,h1,d1,by simp,(fun u hu=>by rw[List.mem_singleton.mp hu];exact⟨.refl,hl0⟩),List.mem_cons_self,Nat.zero_le _,(fun k u hk=>absurd hk (Nat.not_lt_zero _)),rfl⟩,?_⟩
  rintro m σ H2 ⟨F,ys,at_,v4,v5,v6,rfl,s2,hp2,hd2,nd,hF,htF,hat,hcl,rfl⟩
  have hyl:ys.length=F.length:=by have:=hd2.length;rw[List.length_map]at this;exact this
  have hFN:F.length≤N:=by rw[eN];exact hZ nd fun u hu=>(hF u hu).1
  refine⟨_,.inl (SqL.of hp2),?_⟩
  show if decide (((at_:Nat):Int)<((ys.length:Nat):Int))=true then _ else _
  refine bc (fun h=>?_) (fun h=>?_)
  ·have hlt:at_<F.length:=by have:=of_decide_eq_true h;omega
   have hu0:F[at_]?=some F[at_]:=List.getElem?_eq_getElem hlt
   generalize F[at_]=u at hu0
   have mu:=List.mem_of_getElem? hu0
   refine⟨_,fun σ' H' h=>h,?_⟩
   refine .inl ⟨⟨_,s2.seq hS⟩,?_⟩
   refine aV (xs:=xs) (fun i σ H'=>∃(F' G:List Sy) (ys:List V) (v4 v5 v6:Option V),F'=F++G/\Same H H'/\H' p=some (.lst ys)/\DatVs K H' ys (F'.map bV)/\F'.Nodup/\(∀u∈F',jb rows qh qf s0 u/\cY u.1)/\(∀(j:Nat) (r:PR),j<i->rows[j]?=some r->qh r=some u->∀v,qf r=some v->v∈F')/\σ=[some (.ref a),some (.ref b),some (.ref p),some (.int (at_:Nat)),v4,v5,v6])
    ⟨F,[],ys,v4,v5,v6,(List.append_nil _).symm,s2,hp2,hd2,nd,hF,(fun j r hj=>absurd hj (Nat.not_lt_zero _)),rfl⟩ (fun i σ H' _ h=>by obtain⟨_,_,_,_,_,_,_,s3,_⟩:=h;exact s3.seq hS) ?_ ?_
   ·rintro i x σ H3 hx ⟨F',G,ys,v4,v5,v6,eF,s3,hp3,hd3,nd3,hF3,hc3,rfl⟩
    obtain⟨r,t',ts,tp,zs,hri,rfl,hT,hts,htp,hzs⟩:=row i x hx
    have mr:r∈rows:=List.mem_of_getElem? hri
    have hzl:zs.length=r.ps.length:=by have:=hzs.length;rw[List.length_map]at this;exact this
    have hp1:=hps r mr
    have lw:=hlw r mr
    have hyl3:ys.length=F'.length:=by have:=hd3.length;rw[List.length_map]at this;exact this
    have hFN3:F'.length≤N:=by rw[eN];exact hZ nd3 fun u hu=>(hF3 u hu).1
    refine⟨t',_,rfl,s3.seqT hT,rfl,_,_,rfl,_,_,rfl,_,_,rfl,rfl,?_⟩
    have hu3:F'[at_]?=some u:=by rw[eF,List.getElem?_append_left hlt];exact hu0
    have hl3:at_<ys.length:=by have:=(List.getElem?_eq_some_iff.mp hu3).1;omega
    have hy3:ys[at_]?=some ys[at_]:=List.getElem?_eq_getElem hl3
    generalize ys[at_]=y at hy3
    obtain⟨dd,hdd,hyd⟩:=hd3.get hy3
    rw[List.getElem?_map,hu3]at hdd
    have ed:dd=bV u:=(Option.some.inj hdd).symm
    subst ed
    have keep:¬ (qh r=some u/\∃v,qf r=some v/\v∉F')->∃(F'' G:List Sy) (ys:List V) (w4 w5 w6:Option V),F''=F++G/\Same H H3/\H3 p=some (.lst ys)/\DatVs K H3 ys (F''.map bV)/\F''.Nodup/\(∀u∈F'',jb rows qh qf s0 u/\cY u.1)/\(∀(j:Nat) (r:PR),j<i+1->rows[j]?=some r->qh r=some u->∀v,qf r=some v->v∈F'')/\[some (.ref a),some (.ref b),some (.ref p),some (.int (at_:Nat)),some (.ref ts),some (.ref tp),some (.int r.no)]=[some (.ref a),some (.ref b),some (.ref p),some (.int (at_:Nat)),w4,w5,w6]:=fun z =>
     ⟨F',G,ys,_,_,_,eF,s3,hp3,hd3,nd3,hF3,fun j r' hj hr' e v hv=>by
      by_cases hji:j=i
      ·rw[hji,hri]at hr'
       have er:=Option.some.inj hr'
       subst er
       by_cases y:v∈F'
       ·exact y
       ·exact absurd ⟨e,v,hv,y⟩ z
      ·exact hc3 j r' (by omega) hr' e v hv,rfl⟩
    have hz0:zs[0]?=some (zs[0]'(by omega)):=List.getElem?_eq_getElem (by omega)
    generalize zs[0]'(by omega)=z0 at hz0
    obtain⟨dd,hdd,hzd⟩:=hzs.get hz0
    rw[List.getElem?_map]at hdd
    cases eP:r.ps[0]? with
    | none=>rw[eP]at hdd;cases hdd
    | some sy =>
     rw[eP]at hdd
     have ed:dd=bV sy:=(Option.some.inj hdd).symm
     subst ed
     have hly:cY sy.1:=lw.lp sy (List.mem_of_getElem? eP)
     have eGv:qf r=some sy:=eP
     refine .inl ⟨_,y,SqL.of hp3,aq hy3,?_⟩
     refine⟨_,_,iT (s3.seqT hts),hyd,fh (s:=dm r.sym) lw.l1,fh (hF u mu).2,by have:=hJ u;omega,?_⟩
     show if PyData.eqv _ _=true then _ else _
     rw[iu]
     refine bc (fun h=>?_) (fun h=>?_)
     ·have eu:qh r=some u:=congrArg some (of_decide_eq_true h)
      refine .inr ⟨_,z0,s3.seqT htp,aq hz0,.inl ⟨ys,F'.map pd,pd sy,SqL.of hp3,by rw[<-qz];exact hd3,by rw[<-jN];exact hzd.same s3,wm hly fun u hu=>(hF3 u hu).2,?_⟩⟩
      rw[nB]
      show if (true^^decide (sy∈F'))=true then _ else _
      refine bc (fun h2=>?_) (fun h2=>?_)
      ·have hnot:sy∉F':=fun z=>by rw[decide_eq_true z]at h2;exact absurd h2 (by decide)
       refine⟨.inl ⟨rfl,_,SqL.of hp3⟩,.inr ⟨_,z0,s3.seqT htp,aq hz0,ys,hp3,by omega,?_⟩⟩
       refine⟨F'++[sy],G++[sy],ys++[z0],_,_,_,by rw[eF,List.append_assoc],fun x u e=>?_,ae,?_,?_,fun v hv=>?_,fun j r' hj hr' e v hv=>?_,rfl⟩
       ·rw[am fun z=>by rw[z,hp0]at e;cases e];exact s3 x u e
       ·refine bR (.inl ⟨_,hp3⟩) (fun d hd=>by obtain⟨z,_,rfl⟩:=List.mem_map.mp hd;exact gb z) ?_
        rw[List.map_append]
        exact DatVs.snoc (hzd.same s3) hd3
       ·rw[List.nodup_append]
        refine⟨nd3,by simp,fun x hx y hy=>?_⟩
        rw[List.mem_singleton.mp hy]
        exact fun e=>hnot (e▸hx)
       ·rcases List.mem_append.mp hv with z | z
        ·exact hF3 v z
        ·rw[List.mem_singleton.mp z]
         exact⟨.step mr (hF u mu).1 eu eGv,hly⟩
       ·by_cases hji:j=i
        ·rw[hji,hri]at hr'
         have er:=Option.some.inj hr'
         subst er
         rw[eGv]at hv
         rw[<-Option.some.inj hv]
         exact List.mem_append.mpr (.inr (List.mem_singleton.mpr rfl))
        ·exact List.mem_append.mpr (.inl (hc3 j r' (by omega) hr' e v hv))
      ·have hin:sy∈F':=by
        by_cases z:sy∈F'
        ·exact z
        ·rw[decide_eq_false z]at h2;exact absurd rfl h2
       exact keep fun⟨_,v,hv,hn⟩=>by
        rw[eGv]at hv
        rw[<-Option.some.inj hv]at hn
        exact hn hin
     ·exact keep fun⟨e,_⟩=>h (decide_eq_true (Option.some.inj e))
   ·rintro σ H3 ⟨F',G,ys,v4,v5,v6,eF,s3,hp3,hd3,nd3,hF3,hc3,rfl⟩
    have hsub:∀v∈F,v∈F':=fun v hv=>by rw[eF];exact List.mem_append.mpr (.inl hv)
    refine⟨N-(at_+1),by omega,F',ys,at_+1,_,_,_,rfl,s3,hp3,hd3,nd3,hF3,hsub _ htF,by rw[eF,List.length_append];omega,fun k v hk hv=>?_,by rfl⟩
    by_cases hka:k=at_
    ·rw[hka,eF,List.getElem?_append_left hlt,hu0]at hv
     have ev:=Option.some.inj hv
     subst ev
     intro r hr e v hv
     obtain⟨j,hj,ej⟩:=List.mem_iff_getElem.mp hr
     exact hc3 j r (by omega) (by rw[List.getElem?_eq_getElem hj,ej]) e v hv
    ·rw[eF,List.getElem?_append_left (by omega)]at hv
     exact fun r hr e v' hv'=>hsub _ (hcl k v (by omega) hv r hr e v' hv')
  ·have hge:at_=F.length:=by have:¬ ((at_:Nat):Int)<((ys.length:Nat):Int):=fun z=>h (decide_eq_true z);omega
   have hall:∀u∈F,AB rows qh qf F u:=fun u hu=>by
    obtain⟨k,hk,ek⟩:=List.mem_iff_getElem.mp hu
    exact hcl k u (by omega) (by rw[List.getElem?_eq_getElem hk,ek])
   refine .inl ⟨⟨_,SqL.of hp2⟩,?_⟩
   refine cQ (xs:=ys) (fun j us σ' H'=>H'=H2/\(∃ms:List (List Nat),us=ms.map (fun l=>V.str (S l))/\ms.Nodup/\(∀l,l∈ms↔∃k,k<j/\F[k]?=some (l,none))/\ms.length≤j)/\∃v,σ'=[v]) (by omega) ⟨rfl,⟨[],rfl,.nil,(fun x=>⟨fun z=>(nomatch z),fun⟨k,hk,_⟩=>absurd hk (Nat.not_lt_zero _)⟩),Nat.le_refl _⟩,none,rfl⟩
    (fun j us σ' H' h=>by obtain⟨_,⟨ms,h1,_,_,h2⟩,_⟩:=h;rw[h1,List.length_map];exact h2) (fun j us σ' H' h=>by rw[h.1];exact SqL.of hp2) ?_ ?_
   ·rintro j y us' σ' H' hy ⟨rfl,⟨ms,rfl,hmn,hm2,hm3⟩,v,rfl⟩
    obtain⟨dd,hdd,hyd⟩:=hd2.get hy
    rw[List.getElem?_map]at hdd
    cases ej:F[j]? with
    | none=>rw[ej]at hdd;cases hdd
    | some sy =>
     rw[ej]at hdd
     have ed:dd=bV sy:=(Option.some.inj hdd).symm
     subst ed
     rcases gh hyd with⟨e1,rfl⟩ | ⟨m,pz,e1,rfl,hpz⟩
     ·refine⟨"str",true,.str _,rfl,?_⟩
      have esy:F[j]?=some (sy.1,none):=by rw[ej,<-e1]
      have hnin:sy.1∉ms:=fun z=>by
       obtain⟨k,hk,ek⟩:=(hm2 _).mp z
       have:=(List.getElem?_inj (List.getElem?_eq_some_iff.mp ek).1 nd).mp (ek.trans esy.symm)
       omega
      refine⟨rfl,⟨ms++[sy.1],by rw[List.map_append];rfl,?_,fun l=>?_,by rw[List.length_append,List.length_singleton];omega⟩,_,rfl⟩
      ·rw[List.nodup_append]
       refine⟨hmn,by simp,fun x hx y hy=>?_⟩
       rw[List.mem_singleton.mp hy]
       exact fun e=>hnin (e▸hx)
      rw[List.mem_append,List.mem_singleton,hm2]
      constructor
      ·rintro (⟨k,h1,h2⟩ | e)
       ·exact⟨k,by omega,h2⟩
       ·rw[e];exact⟨j,by omega,esy⟩
      ·rintro⟨k,h1,h2⟩
       by_cases hkj:k=j
       ·rw[hkj,ej]at h2
        exact .inr (by rw[Option.some.inj h2])
       ·exact .inl ⟨k,by omega,h2⟩
     ·refine⟨"tuple",false,.tuple hpz,rfl,?_⟩
      refine⟨rfl,⟨ms,rfl,hmn,fun l=>?_,by omega⟩,_,rfl⟩
      rw[hm2]
      constructor
      ·rintro⟨k,h1,h2⟩
       exact⟨k,by omega,h2⟩
      ·rintro⟨k,h1,h2⟩
       by_cases hkj:k=j
       ·rw[hkj,ej]at h2
        rw[Option.some.inj h2]at e1
        cases e1
       ·exact⟨k,by omega,h2⟩
   ·rintro us' σ' H' ⟨rfl,⟨ms,rfl,hmn,hm2,hm3⟩,v,rfl⟩ D7 hD7
    refine q _ D7 ms (s2.trans (ah hD7)) (bj s2 hD7) ae hmn fun l=>?_
    rw[hm2]
    constructor
    ·rintro⟨k,_,hk⟩
     have:=(hF _ (List.mem_of_getElem? hk)).1
     rw[es0]at this
     exact yJ this l rfl
    ·intro hk
     have h8:=zo (s0:=s0) hk (by rw[es0];exact .refl)
     obtain⟨k,hk,ek⟩:=List.mem_iff_getElem.mp (sT htF hall h8)
     exact⟨k,by omega,by rw[List.getElem?_eq_getElem hk,ek]⟩
end
end K31
--@RAISES but law
namespace K31
open PySem PySem.Spec PyProof.Rows L2 Rg
section
variable {P:Program}{w:World}{K:PySem.W.Frag}{mg:Str->Option Value}{base:Heap}{C tS tN tT:Addr}
def mP (r:PR):Option Sy:=r.ps[r.ps.length-1]?
def qi (r:PR):Option Sy:=some (dm r.sym)
def Ar (K:PySem.W.Frag):Sp:=fun vs H Q _=>∃(a b:Addr) (xs:List V) (rows:List PR) (t:Th),vs=[.ref a,.ref b]/\SqL K H a xs/\DatVs K H xs (rows.map PR.dat)/\rows.length≤50000/\(∀r∈rows,1≤r.ps.length)/\(∀r∈rows,wR r)/\SqT K H b (pV (cj t))/\cY t.1 /\
 ∀H' p ys (F:List Sy),Same H H'->H p=none->H' p=some (.lst ys)->DatVs K H' ys (F.map bV)->(∀u,u∈F↔jb rows mP qi (dm t) u)->F.Nodup->Q (.ref p) H'
abbrev st__law_owners:Stmt:=top 41
theorem dG:ax ["_law_plain","_law_symbol","_law_found","_law_at","_law_left","_law_parts","_law_rule_here"] ["_law_plain","_law_symbol"] (ak st__law_owners):=⟨rfl,rfl,rfl,by decide +kernel,rfl,by decide +kernel,by decide +kernel⟩
theorem yh (R:Raw K mg "_law_owners" st__law_owners ["_law_plain","_law_symbol"])(T:Txt K w mg tT):Def P w K mg base 1 "_law_owners" ["_law_plain","_law_symbol"] (Ar K):=by
 refine R.defJ dG (fun vs H Q E h=>?_) (fun f cdv A outer s H vs Q E hr h=>?_)
 ·obtain⟨a,b,xs,rows,t,rfl,_⟩:=h
  rfl
 ·obtain⟨a,b,xs,rows,t,rfl,hS,hD,hl,hps,hlw,hb,hbl,q⟩:=h
  have sc:=dG
  have hu:=hr.units
  have hbg:(1000000:Nat)<sizeLine:=by rw[sizeLine_eq];decide
  have hxl:xs.length=rows.length:=by have:=hD.length;rw[List.length_map]at this;exact this
  have row:∀(i:Nat) (x:V),xs[i]?=some x->∃r t ts tp ys,rows[i]?=some r/\x=.ref t/\SqT K H t [.ref ts,.ref tp,.int r.no]/\SqT K H ts (pV (cj r.sym))/\SqT K H tp ys/\DatVs K H ys (r.ps.map bV):=fun i x hx=>by
   obtain⟨dd,hdd,hxd⟩:=hD.get hx
   rw[List.getElem?_map]at hdd
   cases ee:rows[i]? with
   | none=>rw[ee]at hdd;cases hdd
   | some r =>
    rw[ee]at hdd
    have ed:dd=r.dat:=(Option.some.inj hdd).symm
    subst ed
    obtain⟨t,ts,tp,ys,e,h1,h2,h3,h4⟩:=dJ hxd
    exact⟨r,t,ts,tp,ys,rfl,e,h1,h2,h3,h4⟩
  refine⟨_,(ac (ao (i:=2) sc.nd rfl (Or.inl rfl) (bU (aa (jn 1) af)))
  (ac (ao (i:=3) sc.nd rfl (Or.inl rfl) ap)
  (ac (cW PassesOwn.never (aA y6 (jn 3) (aM (eI (K:=K)) rfl T.n_len PySem.boot_len (aa (jn 2) af)))
  (ac (aP PassesOwn.never rfl (aW (K:=K) (jn 0)) (bD (K:=K) (n:=3) rfl (ar (ai (i:=4) sc.nd rfl (Or.inl rfl)) (ar (ai (i:=5) sc.nd rfl (Or.inl rfl)) (ar (ai (i:=6) sc.nd rfl (Or.inl rfl)) bo))))
  (ag (aZ (jc (fg (aA (nH hu (K:=K)) (aO (aU hu (K:=K) (w:=w)) (jn 5) (aR oH (aM (eI (K:=K)) rfl T.n_len PySem.boot_len (aa (jn 5) af)) ap)) (aO (aU hu (K:=K) (w:=w)) (jn 2) (jn 3))) (dh (aA (ll hu (K:=K)) (jn 4) (jn 2)))))
  (ag (be (fU (K:=K) PySem.F.plainAttrs_list PySem.F.slot_list_append PySem.F.type_list_append cg (jn 2) (aa (jn 4) af))))
  aE)))
  (ag (ao (i:=3) sc.nd rfl (Or.inl rfl) (aR (bv (K:=K)) (jn 3) ap)))))
  (ag (aQ (jn 2)))))),?_⟩
  refine⟨(show 1≤sizeLine by decide),fun p hp0=>?_⟩
  have s1:Same H (al H p (.lst [V.ref b])):=ah hp0
  have h1:al H p (.lst [V.ref b]) p=some (.lst [V.ref b]):=ae
  have d1:DatVs K (al H p (.lst [V.ref b])) [V.ref b] ([dm t].map bV):=.cons (iT (s1.seqT hb)) .nil
  generalize al H p (.lst [V.ref b])=H1 at s1 h1 d1 ⊢
  obtain⟨s0,es0⟩:∃s0,s0=dm t:=⟨_,rfl⟩
  have hl0:cY s0.1:=by rw[es0];exact hbl
  rw[<-es0]at d1
  obtain⟨N,eN⟩:∃N,N=rows.length+1:=⟨_,rfl⟩
  refine⟨fun m σ H'=>∃(F:List Sy) (ys:List V) (at_:Nat) (v4 v5 v6:Option V),m=N-at_/\Same H H'/\H' p=some (.lst ys)/\DatVs K H' ys (F.map bV)/\F.Nodup/\(∀u∈F,jb rows mP qi s0 u/\cY u.1)/\s0∈F/\at_≤F.length/\(∀(k:Nat) (u:Sy),k<at_->F[k]?=some u->AB rows mP qi F u)/\σ=[some (.ref a),some (.ref b),some (.ref p),some (.int (at_:Nat)),v4,v5,v6],
   ⟨_,[s0],[V.ref b],0,none,none,none,rfl,s1,h1,d1,by simp,(fun u hu=>by rw[List.mem_singleton.mp hu];exact⟨.refl,hl0⟩),List.mem_cons_self,Nat.zero_le _,(fun k u hk=>absurd hk (Nat.not_lt_zero _)),rfl⟩,?_⟩
  rintro m σ H2 ⟨F,ys,at_,v4,v5,v6,rfl,s2,hp2,hd2,nd,hF,htF,hat,hcl,rfl⟩
  have hyl:ys.length=F.length:=by have:=hd2.length;rw[List.length_map]at this;exact this
  have hFN:F.length≤N:=by rw[eN];exact hZ nd fun u hu=>(hF u hu).1
  refine⟨_,.inl (SqL.of hp2),?_⟩
  show if decide (((at_:Nat):Int)<((ys.length:Nat):Int))=true then _ else _
  refine bc (fun h=>?_) (fun h=>?_)
  ·have hlt:at_<F.length:=by have:=of_decide_eq_true h;omega
   have hu0:F[at_]?=some F[at_]:=List.getElem?_eq_getElem hlt
   generalize F[at_]=u at hu0
   have mu:=List.mem_of_getElem? hu0
   refine⟨_,fun σ' H' h=>h,?_⟩
   refine .inl ⟨⟨_,s2.seq hS⟩,?_⟩
   refine aV (xs:=xs) (fun i σ H'=>∃(F' G:List Sy) (ys:List V) (v4 v5 v6:Option V),F'=F++G/\Same H H'/\H' p=some (.lst ys)/\DatVs K H' ys (F'.map bV)/\F'.Nodup/\(∀u∈F',jb rows mP qi s0 u/\cY u.1)/\(∀(j:Nat) (r:PR),j<i->rows[j]?=some r->mP r=some u->∀v,qi r=some v->v∈F')/\σ=[some (.ref a),some (.ref b),some (.ref p),some (.int (at_:Nat)),v4,v5,v6])
    ⟨F,[],ys,v4,v5,v6,(List.append_nil _).symm,s2,hp2,hd2,nd,hF,(fun j r hj=>absurd hj (Nat.not_lt_zero _)),rfl⟩ (fun i σ H' _ h=>by obtain⟨_,_,_,_,_,_,_,s3,_⟩:=h;exact s3.seq hS) ?_ ?_
   ·rintro i x σ H3 hx ⟨F',G,ys,v4,v5,v6,eF,s3,hp3,hd3,nd3,hF3,hc3,rfl⟩
    obtain⟨r,t',ts,tp,zs,hri,rfl,hT,hts,htp,hzs⟩:=row i x hx
    have mr:r∈rows:=List.mem_of_getElem? hri
    have hzl:zs.length=r.ps.length:=by have:=hzs.length;rw[List.length_map]at this;exact this
    have hp1:=hps r mr
    have lw:=hlw r mr
    have hyl3:ys.length=F'.length:=by have:=hd3.length;rw[List.length_map]at this;exact this
    have hFN3:F'.length≤N:=by rw[eN];exact hZ nd3 fun u hu=>(hF3 u hu).1
    refine⟨t',_,rfl,s3.seqT hT,rfl,_,_,rfl,_,_,rfl,_,_,rfl,rfl,?_⟩
    have hu3:F'[at_]?=some u:=by rw[eF,List.getElem?_append_left hlt];exact hu0
    have hl3:at_<ys.length:=by have:=(List.getElem?_eq_some_iff.mp hu3).1;omega
    have hy3:ys[at_]?=some ys[at_]:=List.getElem?_eq_getElem hl3
    generalize ys[at_]=y at hy3
    obtain⟨dd,hdd,hyd⟩:=hd3.get hy3
    rw[List.getElem?_map,hu3]at hdd
    have ed:dd=bV u:=(Option.some.inj hdd).symm
    subst ed
    have keep:¬ (mP r=some u/\∃v,qi r=some v/\v∉F')->∃(F'' G:List Sy) (ys:List V) (w4 w5 w6:Option V),F''=F++G/\Same H H3/\H3 p=some (.lst ys)/\DatVs K H3 ys (F''.map bV)/\F''.Nodup/\(∀u∈F'',jb rows mP qi s0 u/\cY u.1)/\(∀(j:Nat) (r:PR),j<i+1->rows[j]?=some r->mP r=some u->∀v,qi r=some v->v∈F'')/\[some (.ref a),some (.ref b),some (.ref p),some (.int (at_:Nat)),some (.ref ts),some (.ref tp),some (.int r.no)]=[some (.ref a),some (.ref b),some (.ref p),some (.int (at_:Nat)),w4,w5,w6]:=fun z =>
     ⟨F',G,ys,_,_,_,eF,s3,hp3,hd3,nd3,hF3,fun j r' hj hr' e v hv=>by
      by_cases hji:j=i
      ·rw[hji,hri]at hr'
       have er:=Option.some.inj hr'
       subst er
       by_cases y:v∈F'
       ·exact y
       ·exact absurd ⟨e,v,hv,y⟩ z
      ·exact hc3 j r' (by omega) hr' e v hv,rfl⟩
    have hz0:zs[zs.length-1]?=some (zs[zs.length-1]'(by omega)):=List.getElem?_eq_getElem (by omega)
    generalize zs[zs.length-1]'(by omega)=z0 at hz0
    have hzi:mh zs (((zs.length:Nat):Int)-1)=some z0:=by rw[show ((zs.length:Nat):Int)-1=((zs.length-1:Nat):Int) by omega];exact aq hz0
    obtain⟨dd,hdd,hzd⟩:=hzs.get hz0
    rw[List.getElem?_map]at hdd
    cases eP:r.ps[zs.length-1]? with
    | none=>rw[eP]at hdd;cases hdd
    | some sy =>
     rw[eP]at hdd
     have ed:dd=bV sy:=(Option.some.inj hdd).symm
     subst ed
     have hly:cY sy.1:=lw.lp sy (List.mem_of_getElem? eP)
     have eTr:mP r=some sy:=by unfold mP;rw[<-hzl];exact eP
     have hsd:DatV K H3 (.ref ts) (bV (dm r.sym)):=iT (s3.seqT hts)
     refine⟨zs,.inr (s3.seqT htp),.inr ⟨zs,z0,s3.seqT htp,hzi,.inl ⟨_,y,SqL.of hp3,aq hy3,?_⟩⟩⟩
     refine⟨_,_,hzd.same s3,hyd,fh hly,fh (hF u mu).2,by have:=hJ u;omega,?_⟩
     show if PyData.eqv _ _=true then _ else _
     rw[iu]
     refine bc (fun h=>?_) (fun h=>?_)
     ·have eu:mP r=some u:=by rw[eTr,of_decide_eq_true h]
      refine .inl ⟨ys,F'.map pd,pd (dm r.sym),SqL.of hp3,by rw[<-qz];exact hd3,by rw[<-jN];exact hsd,wm lw.l1 fun u hu=>(hF3 u hu).2,?_⟩
      rw[nB]
      show if (true^^decide (dm r.sym∈F'))=true then _ else _
      refine bc (fun h2=>?_) (fun h2=>?_)
      ·have hnot:dm r.sym∉F':=fun z=>by rw[decide_eq_true z]at h2;exact absurd h2 (by decide)
       refine⟨.inl ⟨rfl,_,SqL.of hp3⟩,ys,hp3,by omega,?_⟩
       refine⟨F'++[dm r.sym],G++[dm r.sym],ys++[.ref ts],_,_,_,by rw[eF,List.append_assoc],fun x u e=>?_,ae,?_,?_,fun v hv=>?_,fun j r' hj hr' e v hv=>?_,rfl⟩
       ·rw[am fun z=>by rw[z,hp0]at e;cases e];exact s3 x u e
       ·refine bR (.inl ⟨_,hp3⟩) (fun d hd=>by obtain⟨z,_,rfl⟩:=List.mem_map.mp hd;exact gb z) ?_
        rw[List.map_append]
        exact DatVs.snoc hsd hd3
       ·rw[List.nodup_append]
        refine⟨nd3,by simp,fun x hx y hy=>?_⟩
        rw[List.mem_singleton.mp hy]
        exact fun e=>hnot (e▸hx)
       ·rcases List.mem_append.mp hv with z | z
        ·exact hF3 v z
        ·rw[List.mem_singleton.mp z]
         exact⟨.step mr (hF u mu).1 eu rfl,lw.l1⟩
       ·by_cases hji:j=i
        ·rw[hji,hri]at hr'
         have er:=Option.some.inj hr'
         subst er
         rw[<-Option.some.inj hv]
         exact List.mem_append.mpr (.inr (List.mem_singleton.mpr rfl))
        ·exact List.mem_append.mpr (.inl (hc3 j r' (by omega) hr' e v hv))
      ·have hin:dm r.sym∈F':=by
        by_cases z:dm r.sym∈F'
        ·exact z
        ·rw[decide_eq_false z]at h2;exact absurd rfl h2
       exact keep fun⟨_,v,hv,hn⟩=>by
        rw[<-Option.some.inj hv]at hn
        exact hn hin
     ·exact keep fun⟨e,_⟩=>h (decide_eq_true (Option.some.inj (eTr.symm.trans e)))
   ·rintro σ H3 ⟨F',G,ys,v4,v5,v6,eF,s3,hp3,hd3,nd3,hF3,hc3,rfl⟩
    have hsub:∀v∈F,v∈F':=fun v hv=>by rw[eF];exact List.mem_append.mpr (.inl hv)
    refine⟨N-(at_+1),by omega,F',ys,at_+1,_,_,_,rfl,s3,hp3,hd3,nd3,hF3,hsub _ htF,by rw[eF,List.length_append];omega,fun k v hk hv=>?_,by rfl⟩
    by_cases hka:k=at_
    ·rw[hka,eF,List.getElem?_append_left hlt,hu0]at hv
     have ev:=Option.some.inj hv
     subst ev
     intro r hr e v hv
     obtain⟨j,hj,ej⟩:=List.mem_iff_getElem.mp hr
     exact hc3 j r (by omega) (by rw[List.getElem?_eq_getElem hj,ej]) e v hv
    ·rw[eF,List.getElem?_append_left (by omega)]at hv
     exact fun r hr e v' hv'=>hsub _ (hcl k v (by omega) hv r hr e v' hv')
  ·have hge:at_=F.length:=by have:¬ ((at_:Nat):Int)<((ys.length:Nat):Int):=fun z=>h (decide_eq_true z);omega
   have hall:∀u∈F,AB rows mP qi F u:=fun u hu=>by
    obtain⟨k,hk,ek⟩:=List.mem_iff_getElem.mp hu
    exact hcl k u (by omega) (by rw[List.getElem?_eq_getElem hk,ek])
   exact q H2 p ys F s2 hp0 hp2 hd2 (fun u=>⟨fun z=>by rw[<-es0];exact (hF u z).1,fun z=>sT htF hall (by rw[es0];exact z)⟩) nd
end
end K31
--@RAISES but law
namespace K31
open PySem PySem.Spec PyProof.Rows L2 Rg
section
variable {P:Program}{w:World}{K:PySem.W.Frag}{mg:Str->Option Value}{base:Heap}{C tS tN tT:Addr}
def yZ (rows:List PR)(t:Th)(r:PR)(k:Nat)(l:List Nat):Prop:=∃sy,r.ps[k]?=some (dm t)/\r.ps[k+1]?=some sy/\FS rows sy l
def RB (rows:List PR)(t:Th)(l:List Nat):Prop:=∃r∈rows,∃k,yZ rows t r k l
def A5 (P:Program)(w:World)(K:PySem.W.Frag):Sp:=fun vs H Q _=>∃(H0:Hp) (a d b:Addr) (xs:List V) (rows:List PR) (es:List dE) (ns:Th->List Str) (ep:Nat) (t:Th),vs=[.ref a,.ref d,.ref b]/\SqL K H a xs/\DatVs K H xs (rows.map PR.dat)/\rows.length≤4000/\(∀r∈rows,1≤r.ps.length/\r.ps.length≤8)/\(∀r∈rows,wR r) /\
 (∀r∈rows,∀x∈r.ps,∀m,x.2=some m->(x.1,m)∈av rows)/\TD P w K H0 H d es ns ep/\es.map (·.1)=av rows/\(∀u∈av rows,∃ks:List (List Nat),ns u=ks.map S/\ks.length≤10/\∀l,l∈ks↔FK rows u l)/\SqT K H b (pV (cj t))/\cY t.1 /\
 ∀H' p (ms:List (List Nat)),Same H H'->H p=none->H' p=some (.lst (ms.map fun l=>V.str (S l)))->ms.length≤70*rows.length->(∀l,l∈ms↔RB rows t l)->Q (.ref p) H'
abbrev st__law_right_behind:Stmt:=top 42
theorem bT:ax ["_law_plain","_law_begins","_law_symbol","_law_found","_law_left","_law_parts","_law_rule_here","_law_place"] ["_law_plain","_law_begins","_law_symbol"] (ak st__law_right_behind):=⟨rfl,rfl,rfl,by decide +kernel,rfl,by decide +kernel,by decide +kernel⟩
theorem zi (R:Raw K mg "_law_right_behind" st__law_right_behind ["_law_plain","_law_begins","_law_symbol"])(T:Txt K w mg tT):Def P w K mg base 1 "_law_right_behind" ["_law_plain","_law_begins","_law_symbol"] (A5 P w K):=by
 refine R.defJ bT (fun vs H Q E h=>?_) (fun f cdv A outer s H vs Q E hr h=>?_)
 ·obtain⟨H0,a,d,b,xs,rows,es,ns,ep,t,rfl,_⟩:=h
  rfl
 ·obtain⟨H0,a,d,b,xs,rows,es,ns,ep,t,rfl,hS,hD,hl,hps,hlw,hsy,td,hes,hns,hb,hbl,q⟩:=h
  have sc:=bT
  have hu:=hr.units
  have hbg:(1000000:Nat)<sizeLine:=by rw[sizeLine_eq];decide
  have hxl:xs.length=rows.length:=by have:=hD.length;rw[List.length_map]at this;exact this
  have row:∀(i:Nat) (x:V),xs[i]?=some x->∃r t ts tp ys,rows[i]?=some r/\x=.ref t/\SqT K H t [.ref ts,.ref tp,.int r.no]/\SqT K H ts (pV (cj r.sym))/\SqT K H tp ys/\DatVs K H ys (r.ps.map bV):=fun i x hx=>by
   obtain⟨dd,hdd,hxd⟩:=hD.get hx
   rw[List.getElem?_map]at hdd
   cases ee:rows[i]? with
   | none=>rw[ee]at hdd;cases hdd
   | some r =>
    rw[ee]at hdd
    have ed:dd=r.dat:=(Option.some.inj hdd).symm
    subst ed
    obtain⟨t,ts,tp,ys,e,h1,h2,h3,h4⟩:=dJ hxd
    exact⟨r,t,ts,tp,ys,rfl,e,h1,h2,h3,h4⟩
  refine⟨_,(ac (ao (i:=3) sc.nd rfl (Or.inl rfl) (bU af))
  (ac (aP PassesOwn.never rfl (aW (K:=K) (jn 0)) (bD (K:=K) (n:=3) rfl (ar (ai (i:=4) sc.nd rfl (Or.inl rfl)) (ar (ai (i:=5) sc.nd rfl (Or.inl rfl)) (ar (ai (i:=6) sc.nd rfl (Or.inl rfl)) bo))))
  (ag (aP PassesOwn.never rfl (de rfl T.n_range (aa (aR oH (aM (fR (K:=K) (P:=P) (w:=w)) rfl T.n_len PySem.boot_len (aa (jn 5) af)) ap) af)) (ai (i:=7) sc.nd rfl (Or.inl rfl))
  (ag (aZ (jc (fg (aA (nH hu (K:=K)) (aO (aU hu (K:=K) (w:=w)) (jn 5) (jn 7)) (jn 2)) (dh (gi (aM (iQ (K:=K)) rfl T.n_isinstance boot_isinstance (aa (aO (aU hu (K:=K) (w:=w)) (jn 5) (aR (bv (K:=K)) (jn 7) ap)) (aa (iA (v:=.ty "str") rfl T.n_str boot_str rfl) af)))))))
  (ag (be (fU (K:=K) PySem.F.plainAttrs_list PySem.F.slot_list_append PySem.F.type_list_append cg (jn 3) (aa (aO (aU hu (K:=K) (w:=w)) (jn 5) (aR (bv (K:=K)) (jn 7) ap)) af))))
  (ag (aZ (aA (nH hu (K:=K)) (aO (aU hu (K:=K) (w:=w)) (jn 5) (jn 7)) (jn 2))
  (ag (be (fU (K:=K) PySem.F.plainAttrs_list PySem.F.slot_list_extend PySem.F.type_list_extend (cM (K:=K)) (jn 3) (aa (aO (fH hu (K:=K) (P:=P) (w:=w)) (jn 1) (aO (aU hu (K:=K) (w:=w)) (jn 5) (aR (bv (K:=K)) (jn 7) ap))) af))))
  aE)))))))
  (ag (aQ (jn 3))))),?_⟩
  refine⟨(show 0≤sizeLine by omega),fun p hp0=>?_⟩
  have s1:Same H (al H p (.lst [])):=ah hp0
  have h1:al H p (.lst []) p=some (.lst (([]:List (List Nat)).map fun l=>V.str (S l))):=ae
  generalize al H p (.lst [])=H1 at s1 h1 ⊢
  refine .inl ⟨⟨_,s1.seq hS⟩,?_⟩
  refine aV (xs:=xs) (fun i σ H'=>∃(ms:List (List Nat)) (v4 v5 v6 v7:Option V),Same H H'/\H' p=some (.lst (ms.map fun l=>V.str (S l)))/\ms.length≤70*i/\(∀l,l∈ms↔∃j r k,j<i/\rows[j]?=some r/\yZ rows t r k l)/\σ=[some (.ref a),some (.ref d),some (.ref b),some (.ref p),v4,v5,v6,v7])
   ⟨[],none,none,none,none,s1,h1,Nat.zero_le _,(fun l=>⟨fun z=>(nomatch z),fun⟨j,_,_,hj,_⟩=>absurd hj (Nat.not_lt_zero _)⟩),rfl⟩ (fun i σ H' _ h=>by obtain⟨_,_,_,_,_,s2,_⟩:=h;exact s2.seq hS) ?_ ?_
  ·rintro i x σ H2 hx ⟨ms,v4,v5,v6,v7,s2,hp2,hml,hmm,rfl⟩
   obtain⟨r,t',ts,tp,zs,hri,rfl,hT,hts,htp,hzs⟩:=row i x hx
   have mr:r∈rows:=List.mem_of_getElem? hri
   have hil:i<rows.length:=(List.getElem?_eq_some_iff.mp hri).1
   have hzl:zs.length=r.ps.length:=by have:=hzs.length;rw[List.length_map]at this;exact this
   have hp1:=hps r mr
   have lw:=hlw r mr
   refine⟨t',_,rfl,s2.seqT hT,rfl,_,_,rfl,_,_,rfl,_,_,rfl,rfl,?_⟩
   refine .inr (.inr ⟨zs,.inr (s2.seqT htp),?_⟩)
   refine⟨(show -(2 ^ 62)≤((zs.length:Nat):Int)-1 by omega),(show ((zs.length:Nat):Int)-1<2 ^ 62 by omega),?_⟩
   refine cF (n:=(((zs.length:Nat):Int)-1).toNat) (fun k σ H'=>∃(ms:List (List Nat)) (v7:Option V),Same H H'/\H' p=some (.lst (ms.map fun l=>V.str (S l)))/\ms.length≤70*i+10*k/\(∀l,l∈ms↔(∃j r k,j<i/\rows[j]?=some r/\yZ rows t r k l)\/∃k',k'<k/\yZ rows t r k' l)/\σ=[some (.ref a),some (.ref d),some (.ref b),some (.ref p),some (.ref ts),some (.ref tp),some (.int r.no),v7])
    ⟨ms,v7,s2,hp2,hml,(fun l=>by rw[hmm];exact⟨.inl,fun z=>by rcases z with z | ⟨k',hk,_⟩;exact z;exact absurd hk (Nat.not_lt_zero _)⟩),rfl⟩ ?_ ?_
   ·clear hp2 hml hmm ms v4 v5 v6 v7
    rintro k σ H3 hk ⟨ms,v7,s3,hp3,hml,hmm,rfl⟩
    have hk1:k+1<r.ps.length:=by omega
    have e0:r.ps[k]?=some (r.ps[k]'(by omega)):=List.getElem?_eq_getElem (by omega)
    have e1:r.ps[k+1]?=some r.ps[k+1]:=List.getElem?_eq_getElem hk1
    generalize r.ps[k]'(by omega)=u at e0
    generalize r.ps[k+1]=sy at e1
    have y0:zs[k]?=some (zs[k]'(by omega)):=List.getElem?_eq_getElem (by omega)
    have y1:zs[k+1]?=some (zs[k+1]'(by omega)):=List.getElem?_eq_getElem (by omega)
    generalize zs[k]'(by omega)=z0 at y0
    generalize zs[k+1]'(by omega)=z1 at y1
    obtain⟨dd,hdd,hd0⟩:=hzs.get y0
    rw[List.getElem?_map,e0]at hdd
    have ed:=(Option.some.inj hdd).symm
    subst ed
    obtain⟨dd,hdd,hd1⟩:=hzs.get y1
    rw[List.getElem?_map,e1]at hdd
    have ed:=(Option.some.inj hdd).symm
    subst ed
    have step:∀ns':List (List Nat),(∀l,l∈ns'↔yZ rows t r k l)->∀l,l∈ms++ns'↔(∃j r k,j<i/\rows[j]?=some r/\yZ rows t r k l)\/∃k',k'<k+1/\yZ rows t r k' l:=fun ns' hn l=>by
     rw[List.mem_append,hmm,hn]
     constructor
     ·rintro ((z | ⟨k',h1,h2⟩) | z)
      ·exact .inl z
      ·exact .inr ⟨k',by omega,h2⟩
      ·exact .inr ⟨k,by omega,z⟩
     ·rintro (z | ⟨k',h1,h2⟩)
      ·exact .inl (.inl z)
      ·by_cases hkk:k'=k
       ·rw[hkk]at h2;exact .inr h2
       ·exact .inl (.inr ⟨k',by omega,h2⟩)
    rw[Int.zero_add]
    have same3:∀{o:HO},Same H (al H3 p o):=fun {o} x u e=>by
     rw[am fun z=>by rw[z,hp0]at e;cases e];exact s3 x u e
    refine .inr ⟨_,z0,s3.seqT htp,aq y0,?_⟩
    have hA:=hd0.same s3
    have hB:DatV K H3 (.ref b) (bV (dm t)):=iT (s3.seqT hb)
    have l1:=fh (lw.lp u (List.mem_of_getElem? e0))
    have l2:(bV (dm t)).canLay0=true:=fh (s:=dm t) hbl
    have dp:min (bV u).depth (bV (dm t)).depth≤60:=by have:=hJ u;omega
    refine⟨_,_,hA,hB,l1,l2,dp,?_⟩
    show if PyData.eqv _ _=true then _ else _
    rw[iu]
    refine bc (fun h=>?_) (fun h=>?_)
    ·have eu:=of_decide_eq_true h
     rw[eu]at e0
     refine .inr ⟨_,z1,s3.seqT htp,aq (j:=k+1) y1,?_⟩
     rcases gh hd1 with⟨ey,rfl⟩ | ⟨m,pz,ey,rfl,hpz⟩
     ·refine⟨"str",true,.str _,rfl,?_⟩
      refine⟨.inl ⟨rfl,_,SqL.of hp3⟩,.inr ⟨_,_,s3.seqT htp,aq (j:=k+1) y1,_,hp3,by rw[List.length_map];omega,?_⟩⟩
      refine⟨ms++[sy.1],_,same3,by rw[ae,List.map_append];rfl,by rw[List.length_append,List.length_singleton];omega,step [sy.1] fun l=>?_,rfl⟩
      rw[List.mem_singleton]
      constructor
      ·intro z;exact⟨sy,e0,e1,by unfold FS;rw[ey];exact z⟩
      ·rintro⟨s',_,h2,h3⟩
       rw[e1]at h2
       have:=Option.some.inj h2
       subst this
       unfold FS at h3
       rw[ey]at h3
       exact h3
     ·refine⟨"tuple",false,.tuple (s3.seqT hpz),rfl,?_⟩
      refine .inr ⟨_,z0,s3.seqT htp,aq y0,?_⟩
      refine⟨_,_,hA,hB,l1,l2,dp,?_⟩
      show if PyData.eqv _ _=true then _ else _
      rw[iu,if_pos h]
      have hin:=hsy r mr sy (List.mem_of_getElem? e1) m ey
      have ht:(sy.1,m)∈es.map (·.1):=by rw[hes];exact hin
      obtain⟨e,me,ee,hv⟩:=bB ht
      obtain⟨ks,ek,hkl,hkm⟩:=hns _ hin
      have td3:=td.grow s3
      have hd3:=td3.v e me
      rw[ee,ek,List.map_map]at hd3
      refine⟨.inl ⟨rfl,_,SqL.of hp3⟩,.inr ⟨_,_,s3.seqT htp,aq (j:=k+1) y1,.inl ⟨d,aK es,ep,gk (sy.1,m),.ref e.2.2,rfl,td3.g,bu (s3.seqT hpz),hv,_,_,hp3,.inl hd3,by rw[List.length_map,List.length_map];omega,?_⟩⟩⟩
      refine⟨ms++ks,_,same3,by rw[ae,List.map_append];rfl,by rw[List.length_append];omega,step ks fun l=>?_,rfl⟩
      rw[hkm]
      constructor
      ·intro z;exact⟨sy,e0,e1,by unfold FS;rw[ey];exact z⟩
      ·rintro⟨s',_,h2,h3⟩
       rw[e1]at h2
       have:=Option.some.inj h2
       subst this
       unfold FS at h3
       rw[ey]at h3
       exact h3
    ·refine .inr ⟨_,z0,s3.seqT htp,aq y0,?_⟩
     refine⟨_,_,hA,hB,l1,l2,dp,?_⟩
     show if PyData.eqv _ _=true then _ else _
     rw[iu,if_neg h]
     refine⟨ms,_,s3,hp3,by omega,fun l=>?_,rfl⟩
     have:=step [] (fun l=>⟨fun z=>(nomatch z),fun⟨s',h1,_⟩=>by rw[e0]at h1;exact absurd (decide_eq_true (Option.some.inj h1)) h⟩) l
     rw[List.append_nil]at this
     exact this
   ·rintro σ H3 ⟨ms,v7,s3,hp3,hml,hmm,rfl⟩
    refine⟨ms,_,_,_,_,s3,hp3,by omega,fun l=>?_,rfl⟩
    rw[hmm]
    constructor
    ·rintro (⟨j,r',k,hj,hr',z⟩ | ⟨k',hk,z⟩)
     ·exact⟨j,r',k,by omega,hr',z⟩
     ·exact⟨i,r,k',by omega,hri,z⟩
    ·rintro⟨j,r',k,hj,hr',z⟩
     by_cases hji:j=i
     ·rw[hji,hri]at hr'
      have er:=Option.some.inj hr'
      subst er
      obtain⟨sy,h1,h2,h3⟩:=z
      have:=(List.getElem?_eq_some_iff.mp h2).1
      exact .inr ⟨k,by omega,sy,h1,h2,h3⟩
     ·exact .inl ⟨j,r',k,by omega,hr',z⟩
  ·rintro σ H2 ⟨ms,v4,v5,v6,v7,s2,hp2,hml,hmm,rfl⟩
   refine q H2 p ms s2 hp0 hp2 (by omega) fun l=>?_
   rw[hmm]
   constructor
   ·rintro⟨j,r,k,_,hr,z⟩
    exact⟨r,List.mem_of_getElem? hr,k,z⟩
   ·rintro⟨r,hr,k,z⟩
    obtain⟨j,hj,ej⟩:=List.mem_iff_getElem.mp hr
    exact⟨j,r,k,by omega,by rw[List.getElem?_eq_getElem hj,ej],z⟩
end
end K31
--@RAISES but law
namespace K31
open PySem PySem.Spec PyProof.Rows L2 Rg
section
variable {P:Program}{w:World}{K:PySem.W.Frag}{mg:Str->Option Value}{base:Heap}{C tS tN tT:Addr}
theorem tH:∀(ms acc:List (List Nat)),(ms.map S).foldl step_dedup (acc.map S)=(aw acc ms).map S
 | [],_=>rfl
 | m::r,acc=>by
  have e:step_dedup (acc.map S) (S m)=(bt acc m).map S:=by
   unfold step_dedup bt
   by_cases h:m∈acc
   ·rw[if_pos h,if_pos]
    rw[List.any_map,List.any_eq_true]
    exact⟨m,h,by show ((S m:Str) == S m)=true;simp⟩
   ·rw[if_neg h,if_neg]
    ·rw[List.map_append];rfl
    ·rw[List.any_map,List.any_eq_true]
     rintro⟨x,hx,e⟩
     have e:((S x:Str) == S m)=true:=e
     rw[cK (beq_iff_eq.mp e)]at hx
     exact h hx
  rw[List.map_cons,List.foldl_cons,e]
  exact tH r (bt acc m)
def Ay (rows:List PR)(u:Th)(l:List Nat):Prop:=(u=cH/\l=cD)\/RB rows u l
theorem pM {rows:List PR}{tr yl:PR->Option Sy}{a b c:Sy}(h1:jb rows tr yl a b)(h2:jb rows tr yl b c):jb rows tr yl a c:=by
 induction h2 with
 | refl=>exact h1
 | step hr _ ht hy ih=>exact .step hr ih ht hy
theorem sY {rows:List PR}{t:Th}{v:Sy}(h:jb rows mP qi (dm t) v):∃u,v=dm u/\(u=t\/u∈av rows):=by
 cases h with
 | refl=>exact⟨t,rfl,.inl rfl⟩
 | @step r _ _ hr _ _ hy=>exact⟨r.sym,(Option.some.inj hy).symm,.inr (mem_symsF.mpr ⟨r,hr,rfl⟩)⟩
theorem xQ {rows:List PR}{u:Th}{l:List Nat}(h:Ay rows u l):NK rows u l:=by
 rcases h with⟨rfl,rfl⟩ | ⟨r,hr,k,sy,h1,h2,h3⟩
 ·exact .top
 ·exact .mid hr h1 h2 h3
theorem wO {rows:List PR}{t:Th}{v:Sy}(h:jb rows mP qi (dm t) v):∀u l,v=dm u->NK rows u l->NK rows t l:=by
 induction h with
 | refl=>exact fun u l e hn=>by rw[ky e];exact hn
 | @step r x v hr hx ht hy ih =>
  intro u l e hn
  obtain⟨w,ew,_⟩:=sY hx
  have e2:dm r.sym=dm u:=(Option.some.inj hy).trans e
  rw[<-ky e2]at hn
  refine ih w l ew ?_
  rw[ew]at ht
  have hlt:=(List.getElem?_eq_some_iff.mp ht).1
  exact .last (i:=r.ps.length-1) hr ht (by omega) hn
theorem yq {rows:List PR}{t:Th}{l:List Nat}:NK rows t l↔∃u,jb rows mP qi (dm t) (dm u)/\Ay rows u l:=by
 constructor
 ·intro h
  induction h with
  | top=>exact⟨_,.refl,.inl ⟨rfl,rfl⟩⟩
  | @mid r i s m sy l hr hi hj hf=>exact⟨_,.refl,.inr ⟨r,hr,i,sy,hi,hj,hf⟩⟩
  | @last r i s m l hr hi hl _ ih =>
   obtain⟨u,hc,hb⟩:=ih
   refine⟨u,pM (.step hr .refl ?_ rfl) hc,hb⟩
   show r.ps[r.ps.length-1]?=some (s,some m)
   rw[<-hl]
   exact hi
 ·rintro⟨u,hc,hb⟩
  exact wO hc u l rfl (xQ hb)
def Ck (rows:List PR)(u:Th)(n:List Str):Prop:=∃ks:List (List Nat),n=ks.map S/\ks.length≤10/\∀l,l∈ks↔FK rows u l
def Bf (P:Program)(w:World)(K:PySem.W.Frag):Sp:=fun vs H Q _=>∃(a:Addr) (xs:List V) (rows:List PR) (U:List (List Nat)),vs=[.ref a]/\SqL K H a xs/\DatVs K H xs (rows.map PR.dat)/\rows.length≤4000/\(∀r∈rows,1≤r.ps.length/\r.ps.length≤8)/\(∀r∈rows,wR r) /\
 (∀r∈rows,∀x∈r.ps,∀m,x.2=some m->(x.1,m)∈av rows)/\cH∈av rows/\(av rows).length≤50/\(∀t l,FK rows t l->l∈U)/\(∀t l,NK rows t l->l∈U)/\U.length≤10 /\
 ∀H' d es ns ep,TD P w K H H' d es ns ep->es.map (·.1)=av rows->(∀e∈es,KsQ (NK rows e.1) (ns e.1))->Q (.ref d) H'
abbrev st__law_due:Stmt:=top 43
theorem gH:ax ["_law_plain","_law_begins","_law_left","_law_parts","_law_rule_here","_law_behind","_law_symbol","_law_due_here","_law_kinds","_law_owner"] ["_law_plain"] (ak st__law_due):=⟨rfl,rfl,rfl,by decide +kernel,rfl,by decide +kernel,by decide +kernel⟩
theorem yw (R:Raw K mg "_law_due" st__law_due ["_law_plain"])(T:Txt K w mg tT)(D__law_beginning:Def P w K mg base 1 "_law_beginning" ["_law_plain","_law_symbol"] (AC K))(D__law_owners:Def P w K mg base 1 "_law_owners" ["_law_plain","_law_symbol"] (Ar K))(D__law_right_behind:Def P w K mg base 1 "_law_right_behind" ["_law_plain","_law_begins","_law_symbol"] (A5 P w K)):Def P w K mg base 2 "_law_due" ["_law_plain"] (Bf P w K):=by
 refine R.defJ gH (fun vs H Q E h=>?_) (fun f cdv A outer s H vs Q E hr h=>?_)
 ·obtain⟨a,xs,rows,U,rfl,_⟩:=h
  rfl
 ·obtain⟨a,xs,rows,U,rfl,hS,hD,hl,hps,hlw,hsy,htop,hs50,hU,hV,hU10,q⟩:=h
  have sc:=gH
  have hu:=hr.units
  have hbg:(16777215:Nat)<sizeLine:=by rw[sizeLine_eq];decide
  have lowS:∀u∈av rows,cY u.1:=fun u hu=>by obtain⟨r,hr,e⟩:=mem_symsF.mp hu;rw[<-e];exact (hlw r hr).l1
  have hxl:xs.length=rows.length:=by have:=hD.length;rw[List.length_map]at this;exact this
  have row:∀(i:Nat) (x:V),xs[i]?=some x->∃r t ts tp ys,rows[i]?=some r/\x=.ref t/\SqT K H t [.ref ts,.ref tp,.int r.no]/\SqT K H ts (pV (cj r.sym))/\SqT K H tp ys/\DatVs K H ys (r.ps.map bV):=fun i x hx=>by
   obtain⟨dd,hdd,hxd⟩:=hD.get hx
   rw[List.getElem?_map]at hdd
   cases ee:rows[i]? with
   | none=>rw[ee]at hdd;cases hdd
   | some r =>
    rw[ee]at hdd
    have ed:dd=r.dat:=(Option.some.inj hdd).symm
    subst ed
    obtain⟨t,ts,tp,ys,e,h1,h2,h3,h4⟩:=dJ hxd
    exact⟨r,t,ts,tp,ys,rfl,e,h1,h2,h3,h4⟩
  refine⟨_,(ac (ao (i:=1) sc.nd rfl (Or.inl rfl) (gS (P:=P) (w:=w)))
  (ac (aP PassesOwn.never rfl (aW (K:=K) (jn 0)) (bD (K:=K) (n:=3) rfl (ar (ai (i:=2) sc.nd rfl (Or.inl rfl)) (ar (ai (i:=3) sc.nd rfl (Or.inl rfl)) (ar (ai (i:=4) sc.nd rfl (Or.inl rfl)) bo))))
  (ag (aZ (aA (sV hu (K:=K) (P:=P) (w:=w)) (jn 2) (jn 1))
  (ag (fA (K:=K) (P:=P) (w:=w) hu (jn 1) (jn 2) (bg D__law_beginning (hr.mono (by decide)) rfl (aa (jn 0) (aa (jn 2) af)))))
  aE)))
  (ac (ao (i:=5) sc.nd rfl (Or.inl rfl) (qp (K:=K) (P:=P) (w:=w) hu (cb (aa eG (aa ap af))) (bU (aa eG af))))
  (ac (aP PassesOwn.never rfl (hG (K:=K) (P:=P) (w:=w) (jn 1)) (ai (i:=6) sc.nd rfl (Or.inl rfl))
  (ag (fA (K:=K) (P:=P) (w:=w) hu (jn 5) (jn 6) (aR (bv (K:=K)) (uf (K:=K) (P:=P) (w:=w) hu (jn 5) (jn 6) (bU af)) (bg D__law_right_behind (hr.mono (by decide)) rfl (aa (jn 0) (aa (jn 1) (aa (jn 6) af))))))))
  (ac (ao (i:=7) sc.nd rfl (Or.inl rfl) (gS (P:=P) (w:=w)))
  (ac (aP PassesOwn.never rfl (hG (K:=K) (P:=P) (w:=w) (jn 1)) (ai (i:=6) sc.nd rfl (Or.inl rfl))
  (ac (ao (i:=8) sc.nd rfl (Or.inl rfl) (bU af))
  (ac (aP PassesOwn.never rfl (aW (K:=K) (bg D__law_owners (hr.mono (by decide)) rfl (aa (jn 0) (aa (jn 6) af)))) (ai (i:=9) sc.nd rfl (Or.inl rfl))
  (ag (be (fU (K:=K) PySem.F.plainAttrs_list PySem.F.slot_list_extend PySem.F.type_list_extend (cM (K:=K)) (jn 8) (aa (aO (fH hu (K:=K) (P:=P) (w:=w)) (jn 5) (jn 9)) af)))))
  (ag (fA (K:=K) (P:=P) (w:=w) hu (jn 7) (jn 6) (aM (ur rfl (P:=P) (w:=w)) rfl T.n_sorted boot_sorted (aa (bK (yF rfl (K:=K) (P:=P) (w:=w)) rfl T.n_set boot_set (aa (jn 8) af)) af)))))))
  (ag (aQ (jn 7))))))))),?_⟩
  intro d hd0 hds
  refine .inl ⟨⟨_,(ah hd0).seq hS⟩,?_⟩
  refine aV (xs:=xs) (fun i σ H'=>∃(es:List dE) (ns:Th->List Str) (ep:Nat) (v2 v3 v4:Option V),TD P w K H H' d es ns ep/\es.map (·.1)=av (rows.take i)/\(∀e∈es,Ck rows e.1 (ns e.1))/\σ=[some (.ref a),some (.ref d),v2,v3,v4,none,none,none,none,none])
   ⟨[],fun _=>[],0,none,none,none,⟨GAt.new hds,(fun e he=>nomatch he),.nil,(fun e he=>nomatch he),hd0,ah hd0⟩,rfl,(fun e he=>nomatch he),rfl⟩ (fun i σ H' _ h=>by obtain⟨_,_,_,_,_,_,td,_⟩:=h;exact td.s.seq hS) ?_ ?_
  ·rintro i x σ H2 hx ⟨es,ns,ep,v2,v3,v4,td,hes,hns,rfl⟩
   obtain⟨r,t',ts,tp,zs,hri,rfl,hT,hts,htp,hzs⟩:=row i x hx
   have mr:r∈rows:=List.mem_of_getElem? hri
   have hil:i<rows.length:=(List.getElem?_eq_some_iff.mp hri).1
   have et:rows.take (i+1)=rows.take i++[r]:=by rw[List.take_add_one,hri];rfl
   refine⟨t',_,rfl,td.s.seqT hT,rfl,_,_,rfl,_,_,rfl,_,_,rfl,rfl,?_⟩
   have hkey:=bu (td.s.seqT hts)
   refine .inl ⟨d,aK es,ep,gk r.sym,rfl,td.g,hkey,?_⟩
   show if (true^^(bW (aK es) (gk r.sym)).isSome)=true then _ else _
   refine bc (fun h=>?_) (fun h=>?_)
   ·refine⟨a,ts,xs,rows,r.sym,rfl,td.s.seq hS,hD.same td.s,by omega,(fun r hr=>(hps r hr).1),hlw,td.s.seqT hts,(hlw r mr).l1,fun H3 c ms s3 hc0 h3 hmn hmk=>?_⟩
    have td3:=td.grow s3
    have h3:H3 c=some (.lst ((ms.map S).map V.str)):=by rw[h3,List.map_map];rfl
    have hcd:c≠d:=fun z=>by rw[z,td.g.1]at hc0;cases hc0
    have hce:∀e∈es,e.2.2≠c:=fun e he z=>by have:=td.v e he;rw[z,hc0]at this;cases this
    have hH0:H c=none:=bj td.s hc0
    have hts3:SqT K H3 ts (pV (cj r.sym)):=td3.s.seqT hts
    have hel:es.length≤i:=by have:=cV rows i;rw[<-hes,List.length_map]at this;exact this
    refine⟨aK es,ep,gk r.sym,td3.g,bu hts3,fun ep2 _=>?_⟩
    rw[cC]
    refine⟨du es r.sym ts c,_,ep2,_,_,_,td3.put hts3 h3 hH0 hcd hce (by omega) ep2,?_,fun e' he'=>?_,rfl⟩
    ·rw[cL,hes,et,df];rfl
    ·rcases bS he' with⟨z1,_⟩ | ⟨z,z1⟩
     ·rw[if_pos z1,z1]
      have:=eK hmn fun l hl=>hU r.sym l ((hmk l).mp hl)
      exact⟨ms,rfl,by omega,hmk⟩
     ·rw[if_neg z1];exact hns e' z
   ·have hin:r.sym∈es.map (·.1):=by
     by_cases z:r.sym∈es.map (·.1)
     ·exact z
     ·cases e:(bW (aK es) (gk r.sym)).isSome with
      | true=>exact ents_val.mp e
      | false=>rw[e]at h;exact absurd rfl h
    refine⟨es,ns,ep,_,_,_,td,?_,hns,rfl⟩
    rw[et,df,<-hes]
    unfold ja
    rw[if_pos hin]
  ·rintro σ H2 ⟨es,ns,ep,v2,v3,v4,td,hes,hns,rfl⟩
   rw[hxl,List.take_length]at hes
   have ndS:(av rows).Nodup:=by rw[<-hes];exact td.keys
   have hns2:∀u∈av rows,Ck rows u (ns u):=fun u hu=>by
    rw[<-hes]at hu
    obtain⟨e,he,ee⟩:=List.mem_map.mp hu
    have:=hns e he
    rw[ee]at this
    exact this
   have eks:(aK es).map (·.2.1)=es.map fun e=>V.ref e.2.1:=by unfold aK;rw[List.map_map];rfl
   have keyAt:∀{H':Hp} {i:Nat} {g:dE},Same H2 H'->es[i]?=some g->SqT K H' g.2.1 (pV (cj g.1))/\(av rows)[i]?=some g.1/\g.1∈av rows:=fun {H' i g} s' hg=>by
    have mg1:=List.mem_of_getElem? hg
    obtain⟨b,eb,hb⟩:KeyV K H' (gk g.1) (.ref g.2.1):=(td.grow s').g.2.2.2.2 (gk g.1,.ref g.2.1,.ref g.2.2) (List.mem_map.mpr ⟨g,mg1,rfl⟩)
    cases eb
    exact⟨hb,by rw[<-hes,List.getElem?_map,hg];rfl,by rw[<-hes];exact List.mem_map.mpr ⟨g,mg1,rfl⟩⟩
   have tk:∀{i:Nat} {g:Th},(av rows)[i]?=some g->(g∉(av rows).take i)/\∀u,u∈(av rows).take (i+1)↔u∈(av rows).take i\/u=g:=fun {i g} hg=>by
    have e1:(av rows).take (i+1)=(av rows).take i++[g]:=by rw[List.take_add_one,hg];rfl
    have h5:=ndS.sublist (List.take_sublist (i+1) (av rows))
    rw[e1,List.nodup_append]at h5
    exact⟨fun z=>h5.2.2 _ z _ (List.mem_singleton.mpr rfl) rfl,fun u=>by rw[e1,List.mem_append,List.mem_singleton]⟩
   intro d2 hd2 hd2s
   have sA:Same H2 (al H2 d2 (cA P w d2 [] 0)):=ah hd2
   have gA:GAt P w K (al H2 d2 (cA P w d2 [] 0)) d2 [] 0:=GAt.new hd2s
   generalize al H2 d2 (cA P w d2 [] 0)=HA at sA gA ⊢
   refine⟨(show 2≤sizeLine by omega),fun kT hkT=>?_⟩
   have sB:Same HA (al HA kT (.tup [.str "",.int 0])):=ah hkT
   have hkB:SqT K (al HA kT (.tup [.str "",.int 0])) kT (pV (cj cH)):=SqT.of ae
   generalize al HA kT (.tup [.str "",.int 0])=HB at sB hkB ⊢
   refine⟨(show 1≤sizeLine by omega),fun cT hcT=>?_⟩
   have sC:Same HB (al HB cT (.lst [.str "end"])):=ah hcT
   have hcC:al HB cT (.lst [.str "end"]) cT=some (.lst (([cD].map S).map V.str)):=ae
   generalize al HB cT (.lst [.str "end"])=HC at sC hcC ⊢
   have sAC:=(sA.trans sB).trans sC
   have gC:=(gA.same sB).same sC
   have hkC:=sC.seqT hkB
   refine⟨gk cH,gC,bu hkC,fun epT=>?_⟩
   have td0:TD P w K H2 HC d2 [] (fun _=>[]) 0:=⟨gC,(fun e he=>nomatch he),.nil,(fun e he=>nomatch he),hd2,sAC⟩
   have hcd:cT≠d2:=fun z=>by rw[z,(gA.same sB).1]at hcT;cases hcT
   have tdT:=td0.put hkC hcC (bj (sA.trans sB) hcT) hcd (fun e he=>nomatch he) (show 0<100000 by decide) epT
   have ePE:du [] cH kT cT=[(cH,kT,cT)]:=by unfold du;rw[if_neg (fun z=>nomatch z)];rfl
   rw[ePE]at tdT
   show y4 _ _ _ _ (al HC d2 (cA P w d2 (aK [(cH,kT,cT)]) epT))
   generalize al HC d2 (cA P w d2 (aK [(cH,kT,cT)]) epT)=HD at tdT ⊢
   clear td0 ePE gC hkC hcC sAC gA sA sB sC hkB hkT hcT hcd
   refine⟨aK es,ep,(td.grow tdT.s).g,?_⟩
   rw[eks]
   refine fE (fun i σ H'=>∃(es2:List dE) (ns2:Th->List Str) (ep2:Nat) (v6:Option V),TD P w K H2 H' d2 es2 ns2 ep2/\(∀u,u∈es2.map (·.1)↔u=cH\/u∈(av rows).take i)/\es2.length≤1+i/\(∀e∈es2,∃ks:List (List Nat),ns2 e.1=ks.map S/\ks.length≤280001/\(e.1∈(av rows).take i\/ks.length≤1)/\∀l,l∈ks↔(e.1=cH/\l=cD)\/(e.1∈(av rows).take i/\RB rows e.1 l))/\σ=[some (.ref a),some (.ref d),v2,v3,v4,some (.ref d2),v6,none,none,none])
    ⟨_,_,_,none,tdT,(fun u=>by simp),Nat.le_refl _,(fun e he=>by
     rw[List.mem_singleton.mp he]
     refine⟨[cD],by rw[if_pos rfl],by decide,.inr (by decide),fun l=>?_⟩
     rw[List.mem_singleton,List.take_zero]
     constructor
     ·exact fun z=>.inl ⟨rfl,z⟩
     ·rintro (z | ⟨z,_⟩)
      ·exact z.2
      ·cases z),rfl⟩ (fun i σ H' _ h=>by obtain⟨_,_,_,_,t2,_⟩:=h;exact⟨aK es,(td.grow t2.s).g,eks⟩) ?_ ?_
   ·rintro i x σ H3 hx ⟨es2,ns2,ep2,v6,t2,hk2,hl2,hv2,rfl⟩
    rw[List.getElem?_map]at hx
    cases ei:es[i]? with
    | none=>rw[ei]at hx;cases hx
    | some g =>
     rw[ei]at hx
     have ex:x=V.ref g.2.1:=(Option.some.inj hx).symm
     subst ex
     obtain⟨hk3,hgi,hgm⟩:=keyAt t2.s ei
     obtain⟨hnt,htk⟩:=tk hgi
     have hil:i<(av rows).length:=(List.getElem?_eq_some_iff.mp hgi).1
     refine⟨⟨_,_,t2.g⟩,(show 0≤sizeLine by omega),fun c0 hc0=>?_⟩
     have s4:Same H3 (al H3 c0 (.lst [])):=ah hc0
     have h4:al H3 c0 (.lst []) c0=some (.lst ((([]:List (List Nat)).map S).map V.str)):=ae
     generalize al H3 c0 (.lst [])=H4 at s4 h4 ⊢
     have t4:=t2.grow s4
     refine⟨aK es2,ep2,gk g.1,t4.g,bu (s4.seqT hk3),?_⟩
     obtain⟨c1,ks0,hval,hc1,hl0,hm0⟩:∃(c1:Addr) (ks0:List (List Nat)),(bW (aK es2) (gk g.1)).getD (.ref c0)=.ref c1/\H4 c1=some (.lst ((ks0.map S).map V.str))/\ks0.length≤1/\∀l,l∈ks0↔(g.1=cH/\l=cD):=by
      by_cases hin:g.1∈es2.map (·.1)
      ·obtain⟨e,me,ee,hv⟩:=bB hin
       obtain⟨ks,ek,_,hor,hkm⟩:=hv2 e me
       rw[ee]at hor hkm ek
       have h9:=t4.v e me
       rw[ee,ek]at h9
       refine⟨e.2.2,ks,by rw[hv];rfl,h9,hor.resolve_left hnt,fun l=>?_⟩
       rw[hkm]
       exact⟨fun z=>z.resolve_right fun y=>hnt y.1,.inl⟩
      ·have hn:bW (aK es2) (gk g.1)=none:=by
        cases e:bW (aK es2) (gk g.1) with
        | none=>rfl
        | some u=>exact absurd (ents_val.mp (by rw[e];rfl)) hin
       refine⟨c0,[],by rw[hn];rfl,h4,by decide,fun l=>⟨fun z=>(nomatch z),fun z=>absurd ((hk2 _).mpr (.inl z.1)) hin⟩⟩
     rw[hval]
     have s24:=t2.s.trans s4
     refine⟨H,a,d,g.2.1,xs,rows,es,ns,ep,g.1,rfl,(td.s.trans s24).seq hS,hD.same (td.s.trans s24),hl,hps,hlw,hsy,td.grow s24,hes,hns2,s4.seqT hk3,lowS _ hgm,fun H5 p5 ms s5 hp5 h5 hml hmk=>?_⟩
     have h5:H5 p5=some (.lst ((ms.map S).map V.str)):=by rw[h5,List.map_map];rfl
     refine .inl ⟨_,_,s5 _ _ hc1,h5,by simp only[List.length_map];omega,fun p6 hp6=>?_⟩
     rw[<-List.map_append,<-List.map_append]
     have s6:Same H5 (al H5 p6 (.lst (((ks0++ms).map S).map V.str))):=ah hp6
     have h6:al H5 p6 (.lst (((ks0++ms).map S).map V.str)) p6=some (.lst (((ks0++ms).map S).map V.str)):=ae
     generalize al H5 p6 (.lst (((ks0++ms).map S).map V.str))=H6 at s6 h6 ⊢
     have t5:=t4.grow s5
     have t6:=t5.grow s6
     have hk6:=(s4.trans (s5.trans s6)).seqT hk3
     have hcd:p6≠d2:=fun z=>by rw[z,t5.g.1]at hp6;cases hp6
     have hce:∀e∈es2,e.2.2≠p6:=fun e he z=>by have:=t5.v e he;rw[z,hp6]at this;cases this
     refine⟨aK es2,ep2,gk g.1,t6.g,bu hk6,fun ep3 _=>?_⟩
     rw[cC]
     refine⟨du es2 g.1 g.2.1 p6,_,ep3,_,t6.put hk6 h6 (bj t5.s hp6) hcd hce (by omega) ep3,fun u=>?_,?_,fun e' he'=>?_,rfl⟩
     ·rw[cL,htk]
      split
      ·rename_i z
       rw[hk2]
       constructor
       ·rintro (y | y)
        ·exact .inl y
        ·exact .inr (.inl y)
       ·rintro (y | y | y)
        ·exact .inl y
        ·exact .inr y
        ·rw[y];exact (hk2 _).mp z
      ·rw[List.mem_append,hk2,List.mem_singleton,or_assoc]
     ·unfold du
      split
      ·rw[List.length_map];omega
      ·rw[List.length_append,List.length_singleton];omega
     ·rcases bS he' with⟨z1,_⟩ | ⟨z,z1⟩
      ·rw[if_pos z1,z1]
       refine⟨ks0++ms,rfl,by rw[List.length_append];omega,.inl ((htk _).mpr (.inr rfl)),fun l=>?_⟩
       rw[List.mem_append,hm0,hmk]
       constructor
       ·rintro (y | y)
        ·exact .inl y
        ·exact .inr ⟨(htk _).mpr (.inr rfl),y⟩
       ·rintro (y | y)
        ·exact .inl y
        ·exact .inr y.2
      ·rw[if_neg z1]
       obtain⟨ks,ek,h1,h2,h3⟩:=hv2 e' z
       refine⟨ks,ek,h1,h2.imp_left fun y=>(htk _).mpr (.inl y),fun l=>?_⟩
       rw[h3]
       constructor
       ·rintro (y | y)
        ·exact .inl y
        ·exact .inr ⟨(htk _).mpr (.inl y.1),y.2⟩
       ·rintro (y | y)
        ·exact .inl y
        ·exact .inr ⟨((htk _).mp y.1).resolve_right z1,y.2⟩
   ·rintro σ H3 ⟨es2,ns2,ep2,v6,t2,hk2,hl2,hv2,rfl⟩
    have hlen:es.length=(av rows).length:=by rw[<-hes,List.length_map]
    rw[List.length_map,hlen,List.take_length]at hk2
    simp only[List.length_map,hlen,List.take_length]at hv2
    have hbe:∀v∈av rows,∃e∈es2,e.1=v/\bW (aK es2) (gk v)=some (.ref e.2.2)/\∃ks:List (List Nat),ns2 v=ks.map S/\ks.length≤280001/\∀l,l∈ks↔Ay rows v l:=fun v hv=>by
     obtain⟨e,me,ee,hval⟩:=bB ((hk2 v).mpr (.inr hv))
     obtain⟨ks,ek,h1,_,h3⟩:=hv2 e me
     rw[ee]at ek h3
     refine⟨e,me,ee,hval,ks,ek,h1,fun l=>?_⟩
     rw[h3]
     unfold Ay
     constructor
     ·rintro (y | y)
      ·exact .inl y
      ·exact .inr y.2
     ·rintro (y | y)
      ·exact .inl y
      ·exact .inr ⟨hv,y⟩
    clear hk2 hv2
    intro d3 hd3 hd3s
    have td30:TD P w K H3 (al H3 d3 (cA P w d3 [] 0)) d3 [] (fun _=>[]) 0:=⟨GAt.new hd3s,(fun e he=>nomatch he),.nil,(fun e he=>nomatch he),hd3,ah hd3⟩
    generalize al H3 d3 (cA P w d3 [] 0)=HE at td30 ⊢
    refine⟨aK es,ep,(td.grow (t2.s.trans td30.s)).g,?_⟩
    rw[eks]
    refine fE (fun i σ H'=>∃(es3:List dE) (ns3:Th->List Str) (ep3:Nat) (v6 v8 v9:Option V),TD P w K H3 H' d3 es3 ns3 ep3/\es3.map (·.1)=(av rows).take i/\(∀e∈es3,KsQ (NK rows e.1) (ns3 e.1))/\σ=[some (.ref a),some (.ref d),v2,v3,v4,some (.ref d2),v6,some (.ref d3),v8,v9])
     ⟨[],_,_,v6,none,none,td30,rfl,(fun e he=>nomatch he),rfl⟩ (fun i σ H' _ h=>by obtain⟨_,_,_,_,_,_,t3,_⟩:=h;exact⟨aK es,(td.grow (t2.s.trans t3.s)).g,eks⟩) ?_ ?_
    ·rintro i x σ H4 hx ⟨es3,ns3,ep3,v6,v8,v9,t3,hk3,hv3,rfl⟩
     rw[List.getElem?_map]at hx
     cases ei:es[i]? with
     | none=>rw[ei]at hx;cases hx
     | some g =>
      rw[ei]at hx
      have ex:x=V.ref g.2.1:=(Option.some.inj hx).symm
      subst ex
      have s24:=t2.s.trans t3.s
      obtain⟨hkg,hgi,hgm⟩:=keyAt s24 ei
      obtain⟨hnt,htk⟩:=tk hgi
      refine⟨(show 0≤sizeLine by omega),fun p8 hp8=>?_⟩
      have s5:Same H4 (al H4 p8 (.lst [])):=ah hp8
      have h5:al H4 p8 (.lst []) p8=some (.lst ((([]:List (List Nat)).map S).map V.str)):=ae
      generalize al H4 p8 (.lst [])=H5 at s5 h5 ⊢
      have s05:=td.s.trans (s24.trans s5)
      refine⟨a,g.2.1,xs,rows,g.1,rfl,s05.seq hS,hD.same s05,by omega,(fun r hr=>(hps r hr).1),hlw,s5.seqT hkg,lowS _ hgm,fun H6 p6 ys F s6 hp6 h6 hd6 hF hFn=>?_⟩
      have hF2:∀u∈F,∃v∈av rows,u=dm v:=fun u hu=>by
       obtain⟨v,ev,h⟩:=sY ((hF u).mp hu)
       refine⟨v,?_,ev⟩
       rcases h with h | h
       ·rw[h];exact hgm
       ·exact h
      have hFl:F.length≤50:=by
       have:=eK (U:=(av rows).map dm) hFn fun u hu=>by obtain⟨v,hv,e⟩:=hF2 u hu;exact List.mem_map.mpr ⟨v,hv,e.symm⟩
       rw[List.length_map]at this
       omega
      have h86:=s6 _ _ h5
      have hpp:p6≠p8:=fun z=>by rw[z,h5]at hp6;cases hp6
      have hyl:ys.length=F.length:=by have:=hd6.length;rw[List.length_map]at this;exact this
      have same8:∀{o:HO},Same H4 (al H6 p8 o):=fun {o} x u e=>by
       rw[am fun z=>by rw[z,hp8]at e;cases e];exact s6 x u (s5 x u e)
      have hdw:∀{o:HO},DatVs K (al H6 p8 o) ys (F.map bV):=fun {o}=>bR (.inl ⟨_,h86⟩) (fun d hd=>by obtain⟨z,_,rfl⟩:=List.mem_map.mp hd;exact gb z) hd6
      refine .inl ⟨⟨_,SqL.of h6⟩,?_⟩
      refine aV (xs:=ys) (fun j σ H'=>∃(ks:List (List Nat)) (v9:Option V),H'=al H6 p8 (.lst ((ks.map S).map V.str))/\ks.length≤280001*j/\(∀l,l∈ks↔∃j' v,j'<j/\F[j']?=some (dm v)/\Ay rows v l)/\σ=[some (.ref a),some (.ref d),v2,v3,v4,some (.ref d2),some (.ref g.2.1),some (.ref d3),some (.ref p8),v9])
       ⟨[],v9,by rw[qv h86],Nat.zero_le _,(fun l=>⟨fun z=>(nomatch z),fun⟨_,_,hj,_⟩=>absurd hj (Nat.not_lt_zero _)⟩),rfl⟩ (fun j σ H' _ h=>by obtain⟨_,_,rfl,_⟩:=h;exact SqL.of (by rw[am hpp];exact h6)) ?_ ?_
      ·rintro j y σ H7 hy ⟨ks,v9,rfl,hkl,hkm,rfl⟩
       obtain⟨dd,hdd,hyd⟩:=hdw.get hy
       rw[List.getElem?_map]at hdd
       cases ej:F[j]? with
       | none=>rw[ej]at hdd;cases hdd
       | some u =>
        rw[ej]at hdd
        have ed:=(Option.some.inj hdd).symm
        subst ed
        obtain⟨v,hv,ev⟩:=hF2 u (List.mem_of_getElem? ej)
        subst ev
        rcases gh hyd with⟨e1,_⟩ | ⟨m,pz,e1,rfl,hpz⟩
        ·cases e1
        ·have e1:=Option.some.inj e1
         subst e1
         obtain⟨e,me,ee,hval,k2,ek2,hl2,hm2⟩:=hbe v hv
         have t7:=t2.grow (t3.s.trans (same8 (o:=.lst ((ks.map S).map V.str))))
         have hl7:=t7.v e me
         rw[ee,ek2]at hl7
         have hjl:j<F.length:=(List.getElem?_eq_some_iff.mp ej).1
         refine⟨.inl ⟨rfl,_,SqL.of ae⟩,.inl ⟨d2,aK es2,ep2,gk v,.ref e.2.2,rfl,t7.g,bu hpz,hval,_,_,ae,.inl hl7,by simp only[List.length_map];omega,?_⟩⟩
         refine⟨ks++k2,_,by rw[og,List.map_append,List.map_append],by rw[List.length_append];omega,fun l=>?_,rfl⟩
         rw[List.mem_append,hkm,hm2]
         constructor
         ·rintro (⟨j',v',h1,h2,h3⟩ | z)
          ·exact⟨j',v',by omega,h2,h3⟩
          ·exact⟨j,v,by omega,ej,z⟩
         ·rintro⟨j',v',h1,h2,h3⟩
          by_cases hjj:j'=j
          ·rw[hjj,ej]at h2
           rw[<-ky (Option.some.inj h2)]at h3
           exact .inr h3
          ·exact .inl ⟨j',v',by omega,h2,h3⟩
      ·rintro σ H7 ⟨ks,v9,rfl,hkl,hkm,rfl⟩
       have t7:=t3.grow (same8 (o:=.lst ((ks.map S).map V.str)))
       have h7:al H6 p8 (.lst ((ks.map S).map V.str)) p8=some (.lst ((ks.map S).map V.str)):=ae
       generalize al H6 p8 (.lst ((ks.map S).map V.str))=H7 at t7 h7 ⊢
       have hks:∀l,l∈ks↔NK rows g.1 l:=fun l=>by
        rw[hkm,yq]
        constructor
        ·rintro⟨j',v,_,h2,h3⟩
         exact⟨v,(hF _).mp (List.mem_of_getElem? h2),h3⟩
        ·rintro⟨v,h2,h3⟩
         obtain⟨j',hj',ej'⟩:=List.mem_iff_getElem.mp ((hF _).mpr h2)
         exact⟨j',v,by omega,by rw[List.getElem?_eq_getElem hj',ej'],h3⟩
       have eds:js (ks.map S)=(aw [] ks).map S:=tH ks []
       have ndk:(aw [] ks).Nodup:=cN .nil
       have mk:∀l,l∈aw [] ks↔NK rows g.1 l:=fun l=>by rw[addAll_mem,<-hks];simp
       have hkl:(aw [] ks).length≤10:=Nat.le_trans (eK ndk fun l hl=>hV g.1 l ((mk l).mp hl)) hU10
       refine⟨ks.map S,SqL.of h7,by rw[eds,List.length_map];omega,fun p9 o9 hp9 hy9=>?_⟩
       have s8:Same H7 (al H7 p9 (.frz o9 ir)):=ah hp9
       have t8:=t7.grow s8
       have k8:Kn (al H7 p9 (.frz o9 ir)) p9 o9:=ae
       generalize al H7 p9 (.frz o9 ir)=H8 at s8 t8 k8 ⊢
       refine⟨o9,js (ks.map S),k8,hy9,by rw[eds,List.length_map];omega,fun c n hc0 hpm hsr=>?_⟩
       rw[eds]at hpm
       have s9:Same H8 (al H8 c (.lst (n.map V.str))):=ah hc0
       have t9:=t8.grow s9
       have h9:al H8 c (.lst (n.map V.str)) c=some (.lst (n.map V.str)):=ae
       have hcd:c≠d3:=fun z=>by rw[z,t8.g.1]at hc0;cases hc0
       have hce:∀e∈es3,e.2.2≠c:=fun e he z=>by have:=t8.v e he;rw[z,hc0]at this;cases this
       have hH0:H3 c=none:=bj t8.s hc0
       generalize al H8 c (.lst (n.map V.str))=H9 at s9 t9 h9 ⊢
       have hk9:=(keyAt (t2.s.trans t9.s) ei).1
       have hel:es3.length≤50:=by have:=congrArg List.length hk3;rw[List.length_map,List.length_take]at this;omega
       refine⟨aK es3,ep3,gk g.1,t9.g,bu hk9,fun ep4 _=>?_⟩
       rw[cC]
       refine⟨du es3 g.1 g.2.1 c,_,ep4,_,_,_,t9.put hk9 h9 hH0 hcd hce (by omega) ep4,?_,fun e' he'=>?_,rfl⟩
       ·rw[cL,hk3,if_neg hnt,List.take_add_one,hgi];rfl
       ·rcases bS he' with⟨z1,_⟩ | ⟨z,z1⟩
        ·rw[if_pos z1,z1]
         exact⟨hsr,_,ndk,hpm,mk⟩
        ·rw[if_neg z1];exact hv3 e' z
    ·rintro σ H4 ⟨es3,ns3,ep3,v6,v8,v9,t3,hk3,hv3,rfl⟩
     rw[List.length_map,hlen,List.take_length]at hk3
     have s3:=td.s.trans t2.s
     exact q H4 d3 es3 ns3 ep3 ⟨t3.g,t3.v,t3.nd,fun e he=>⟨(t3.dd e he).1,bj s3 (t3.dd e he).2⟩,bj s3 t3.d0,s3.trans t3.s⟩ hk3 hv3
end
end K31
--@RAISES but law
namespace K31
open PySem PySem.Spec PyProof.Rows L2 Rg
theorem DefX.toDef {P:Program}{w:World}{K:PySem.W.Frag}{mg:Str->Option Value}{base:Heap}{k:Nat}{x:Str}{ps:List Str}{sp:Sp}(D:DefX P w K mg base k x ps sp):Def P w K mg base k x ps (fun vs H Q _=>sp vs H Q E0):=by
 obtain⟨f,fd,h1,h2,h3,h4,F⟩:=D.ex
 refine⟨f,fd,h1,h2,h3,h4,⟨fun vs H Q E h=>F.len vs H Q E0 h,fun A outer s H args us vs Q E hr e0 hb hv h=>?_⟩⟩
 refine codeAny_mono (F.run A outer s H args us vs Q E0 hr e0 hb hv h) fun r s' hq=>?_
 cases r with
 | error e=>obtain⟨_,_,_,_,_,_,_,_,_,_,_,_,hE⟩:=hq;exact hE.elim
 | ok fl=>cases fl<;>exact hq
section
variable {P:Program}{w:World}{K:PySem.W.Frag}{mg:Str->Option Value}{base:Heap}{CF CB CI CN tS tN tT:Addr}
def B3 (a b:Str):Prop:=a.cps.toList≤b.cps.toList
theorem n5:∀(p:Str) (l:List Str),risingS p l=true->(p::l).Pairwise B3
 | p,[],_=>by simp
 | p,x::r,h=>by
  unfold risingS at h
  rw[Bool.and_eq_true]at h
  have ih:=n5 x r h.2
  have h1:B3 p x:=by
   have:=h.1
   rw[ltCps_eq,Bool.not_eq_true',decide_eq_false_iff_not]at this
   exact this
  rw[List.pairwise_cons]
  refine⟨fun y hy=>?_,ih⟩
  rcases List.mem_cons.mp hy with e | e
  ·rw[e];exact h1
  ·exact List.le_trans h1 ((List.pairwise_cons.mp ih).1 y e)
theorem jg:∀{l:List Str},sortedS l=true->l.Pairwise B3
 | [],_=>.nil
 | x::r,h=>n5 x r h
theorem uP {a b:Str}(h:a.cps.toList=b.cps.toList):a=b:=by
 obtain⟨a⟩:=a
 obtain⟨b⟩:=b
 have:a=b:=Array.toList_inj.mp h
 rw[this]
theorem Ba {Pr:List Nat->Prop}{a b:List Str}(h1:KsQ Pr a)(h2:KsQ Pr b):a=b:=by
 obtain⟨sa,ka,na,pa,ma⟩:=h1
 obtain⟨sb,kb,nb,pb,mb⟩:=h2
 have pk:ka.Perm kb:=(List.perm_ext_iff_of_nodup na nb).mpr fun l=>(ma l).trans (mb l).symm
 exact List.Perm.eq_of_pairwise (fun x y _ _ h1 h2=>uP (List.le_antisymm h1 h2)) (jg sa) (jg sb) ((pa.trans (pk.map S)).trans pb.symm)
theorem nF:∀{ns:List Str},(∀y∈ns,PyData.strOk y=true)->PyData.canLayAll0 (ns.map PyData.str)=true
 | [],_=>by simp only[List.map_nil,PyData.canLayAll0]
 | x::r,h=>by
  rw[List.map_cons]
  simp only[PyData.canLayAll0,PyData.canLay0,h x List.mem_cons_self,nF fun y hy=>h y (List.mem_cons_of_mem _ hy),Bool.and_self]
theorem ku {H:Hp}:∀ns:List Str,DatVs K H (ns.map V.str) (ns.map PyData.str)
 | []=>.nil
 | x::r=>.cons (.str x) (ku r)
theorem lU:∀ns:List Str,PyData.depthAll (ns.map PyData.str)≤2
 | []=>by simp only[List.map_nil,PyData.depthAll];omega
 | x::r=>by
  have h2:=lU r
  rw[List.map_cons]
  simp only[PyData.depthAll,PyData.depth]
  omega
theorem o8 (p:Str×Int):(pD p).depth≤4:=by
 unfold pD
 simp only[PyData.depth,PyData.depthAll]
 omega
theorem lm:∀l:List Sy,PyData.depthAll (l.map bV)≤5
 | []=>by simp only[List.map_nil,PyData.depthAll];omega
 | q::r=>by
  have h1:=hJ q
  have h2:=lm r
  rw[List.map_cons]
  simp only[PyData.depthAll]
  omega
theorem vJ (r:PR):r.dat.depth≤8:=by
 unfold PR.dat
 have h1:=o8 (cj r.sym)
 have h2:=lm r.ps
 simp only[PyData.depth,PyData.depthAll]
 omega
theorem lN:∀rs:List PR,PyData.depthAll (rs.map PR.dat)≤9
 | []=>by simp only[List.map_nil,PyData.depthAll];omega
 | q::r=>by
  have h1:=vJ q
  have h2:=lN r
  rw[List.map_cons]
  simp only[PyData.depthAll]
  omega
theorem jH:∀(rs:List Rl) (acc:List (List Nat)),rs.foldl (fun acc q=>bt acc q.sort) acc=aw acc (rs.map Rl.sort)
 | [],_=>rfl
 | q::r,acc=>jH r (bt acc q.sort)
theorem GR.sorts3 {c0:Int}{rs:List Rl}(G:GR c0 rs):(aH rs).length≤3:=by
 have nd:(aH rs).Nodup:=by unfold aH;rw[jH];exact cN .nil
 refine eK (U:=[au c0 0,au c0 1,au c0 2]) nd fun x hx=>?_
 obtain⟨q,hq,e⟩:=mem_sortsF.mp hx
 obtain⟨k,hk,ek⟩:=(G.nm q hq).so
 rw[<-e,ek]
 have:k=0\/k=1\/k=2:=by omega
 rcases this with rfl | rfl | rfl<;>simp
theorem GR.rows {c0:Int}{rs:List Rl}(G:GR c0 rs):(aG rs).length≤4000:=by
 have h1:=fq (rs:=rs) (by have:=G.n23;omega) (aH rs)
 have h2:=G.sorts3
 unfold aG
 rw[List.length_cons]
 omega
theorem GR.ps {c0:Int}{rs:List Rl}(G:GR c0 rs):∀r∈aG rs,1≤r.ps.length:=fun r hr=>by
 rcases List.mem_cons.mp hr with e | hr
 ·rw[e];exact Nat.le_refl 1
 ·obtain⟨s,hs,h2⟩:=List.mem_flatMap.mp hr
  rcases cn h2 with⟨n,q,hq,_,e⟩ | ⟨a,b,ha,_,e⟩
  ·rw[e]
   show 1≤(bx rs q).length
   rw[bZ]
   exact (G.nm q (List.mem_of_getElem? hq)).p1
  ·rw[e];exact Nat.le_refl 1
theorem GR.ps8 {c0:Int}{rs:List Rl}(G:GR c0 rs):∀r∈aG rs,1≤r.ps.length/\r.ps.length≤8:=fun r hr=>by
 refine⟨G.ps r hr,?_⟩
 rcases List.mem_cons.mp hr with e | hr
 ·rw[e];exact (show 1≤8 by decide)
 ·obtain⟨s,hs,h2⟩:=List.mem_flatMap.mp hr
  rcases cn h2 with⟨n,q,hq,_,e⟩ | ⟨a,b,ha,_,e⟩
  ·rw[e]
   show (bx rs q).length≤8
   rw[bZ]
   exact (G.nm q (List.mem_of_getElem? hq)).p8
  ·rw[e];exact (show 1≤8 by decide)
theorem vH {acc:List Th}(h:acc.Nodup)(t:Th):(ja acc t).Nodup:=by
 unfold ja
 split
 ·exact h
 ·rename_i hm
  rw[List.nodup_append]
  refine⟨h,by simp,fun a ha b hb=>?_⟩
  rw[List.mem_singleton.mp hb]
  exact fun e=>hm (e▸ha)
theorem nD:∀(rows:List PR) {acc:List Th},acc.Nodup->(rows.foldl (fun acc r=>ja acc r.sym) acc).Nodup
 | [],_,h=>h
 | r::l,_,h=>nD l (vH h r.sym)
theorem GR.few {c0:Int}{rs:List Rl}(G:GR c0 rs):(av (aG rs)).length≤50:=by
 have h:=eK (U:=cH::rs.map fun q=>(q.sort,q.rank)) (nD (aG rs) .nil) fun u hu=>by
  obtain⟨r,hr,e⟩:=mem_symsF.mp hu
  rcases List.mem_cons.mp hr with er | hr
  ·rw[<-e,er];exact List.mem_cons_self
  ·obtain⟨s,hs,h2⟩:=List.mem_flatMap.mp hr
   refine List.mem_cons_of_mem _ (List.mem_map.mpr ?_)
   rcases cn h2 with⟨n,q,hq,_,er⟩ | ⟨a,b,ha,_,er⟩
   ·exact⟨q,List.mem_of_getElem? hq,by rw[<-e,er]⟩
   ·obtain⟨q,hq,e1,e2⟩:=cv ha
    exact⟨q,hq,by rw[<-e,er,e1,e2]⟩
 have:=G.n23
 rw[List.length_cons,List.length_map]at h
 exact Nat.le_trans h (by omega)
theorem GR.wordAt {c0:Int}{rs:List Rl}(G:GR c0 rs){r:PR}(hr:r∈aG rs){l:List Nat}(hx:(l,none)∈r.ps):l∈(List.range 9).map (au c0):=by
 rcases List.mem_cons.mp hr with e | hr
 ·rw[e]at hx;rcases List.mem_cons.mp hx with z | z
  ·cases z
  ·cases z
 ·obtain⟨s,hs,h2⟩:=List.mem_flatMap.mp hr
  rcases cn h2 with⟨n,q,hq,_,e⟩ | ⟨a,b,ha,_,e⟩
  ·rw[e]at hx
   have hx:(l,none)∈bx rs q:=hx
   obtain⟨j,hj,ej⟩:=List.mem_map.mp hx
   have hj:=List.mem_range.mp hj
   have el:q.ps.getD j []=l:=congrArg Prod.fst ej
   obtain⟨k,hk,ek⟩:=(G.nm q (List.mem_of_getElem? hq)).ps (q.ps.getD j []) (by rw[List.getD,List.getElem?_eq_getElem hj];exact List.getElem_mem _)
   rw[<-el,ek]
   exact List.mem_map.mpr ⟨k,List.mem_range.mpr hk,rfl⟩
  ·rw[e]at hx;rcases List.mem_cons.mp hx with z | z
   ·cases z
   ·cases z
theorem GR.words {c0:Int}{rs:List Rl}(G:GR c0 rs){t:Th}{l:List Nat}(h:FK (aG rs) t l):l∈(List.range 9).map (au c0):=by
 induction h with
 | @word r l hr hp=>exact G.wordAt hr (List.mem_of_getElem? hp)
 | step _ _ _ ih=>exact ih
theorem GR.wordsN {c0:Int}{rs:List Rl}(G:GR c0 rs){t:Th}{l:List Nat}(h:NK (aG rs) t l):l∈cD::(List.range 9).map (au c0):=by
 induction h with
 | top=>exact List.mem_cons_self
 | @mid r i s m sy l hr hi hj hf =>
  refine List.mem_cons_of_mem _ ?_
  obtain⟨x,o⟩:=sy
  cases o with
  | none=>have hf:l=x:=hf;rw[hf];exact G.wordAt hr (List.mem_of_getElem? hj)
  | some m=>exact G.words hf
 | last _ _ _ _ ih=>exact ih
def spLaw (K:PySem.W.Frag):Sp:=fun vs H Q _=>∃(a:Addr) (ns:List Int),vs=[.ref a]/\SqL K H a (ns.map V.int)/\ns.length≤63/\∀H',Q (.bl true) H'
abbrev st_law:Stmt:=top 44
theorem rJ:ax ["_law_script","_law_plain","_law_kept","_law_due_here","_law_found","_law_symbol","_law_kinds"] ["_law_script"] (ak st_law):=⟨rfl,rfl,rfl,by decide +kernel,rfl,by decide +kernel,by decide +kernel⟩
theorem uS (R:Raw K mg "law" st_law ["_law_script"])(T:Txt K w mg tT)(D__law_rules:Def P w K mg base 3 "_law_rules" ["_law_script"] (AK K))(D_plain_rules:Def P w K mg base 4 "plain_rules" ["rules"] (fun vs H Q _=>xr K CF CB CI vs H Q E0))(D__law_due:Def P w K mg base 2 "_law_due" ["_law_plain"] (Bf P w K))(D_next_kinds:Def P w K mg base 3 "next_kinds" ["plain"] (AS P w K)):Def P w K mg base 5 "law" ["_law_script"] (spLaw K):=by
 refine R.defJ rJ (fun vs H Q E h=>?_) (fun f cdv A outer s H vs Q E hr h=>?_)
 ·obtain⟨a,ns,rfl,_⟩:=h
  rfl
 ·obtain⟨a,ns,rfl,hS,hl,qq⟩:=h
  have sc:=rJ
  have hu:=hr.units
  have hbg:(1000000:Nat)<sizeLine:=by rw[sizeLine_eq];decide
  refine⟨_,(ac (ao (i:=1) sc.nd rfl (Or.inl rfl) (bg D_plain_rules (hr.mono (by decide)) rfl (aa (bg D__law_rules (hr.mono (by decide)) rfl (aa (jn 0) af)) af)))
  (ac (ao (i:=2) sc.nd rfl (Or.inl rfl) (bK (rg (K:=K)) rfl T.n_list boot_list (aa (jn 1) af)))
  (ac (ao (i:=3) sc.nd rfl (Or.inl rfl) (bg D__law_due (hr.mono (by decide)) rfl (aa (jn 2) af)))
  (ac (ao (i:=4) sc.nd rfl (Or.inl rfl) (bg D_next_kinds (hr.mono (by decide)) rfl (aa (jn 1) af)))
  (ac (aZ (jc (oi (eZ (gi (aM (yi (K:=K) (P:=P) (w:=w)) rfl T.n_isinstance boot_isinstance (aa (jn 4) (aa (iA (v:=.ty "dict") rfl T.n_dict boot_dict rfl) af))))) (oi (aA (yR hu (K:=K)) (aM (fR (K:=K) (P:=P) (w:=w)) rfl T.n_len PySem.boot_len (aa (jn 4) af)) (aM (fR (K:=K) (P:=P) (w:=w)) rfl T.n_len PySem.boot_len (aa (jn 3) af))) (mt (aA (yR hu (K:=K)) (jn 1) (jn 2))))))
  (ag (aQ eV))
  aE)
  (ac (aP PassesOwn.never rfl (hG (K:=K) (P:=P) (w:=w) (jn 3)) (ai (i:=5) sc.nd rfl (Or.inl rfl))
  (ac (ao (i:=6) sc.nd rfl (Or.inl rfl) (y8 (K:=K) (P:=P) (w:=w) hu (jn 4) (jn 5)))
  (ag (aZ (jc (oi (eZ (gi (aM (iQ (K:=K)) rfl T.n_isinstance boot_isinstance (aa (jn 6) (aa (iA (v:=.ty "list") rfl T.n_list boot_list rfl) af))))) (mt (aA (yR hu (K:=K)) (jn 6) (aO (fH hu (K:=K) (P:=P) (w:=w)) (jn 3) (jn 5))))))
  (ag (aQ eV))
  aE))))
  (ag (aQ eV)))))))),?_⟩
  refine⟨a,ns,rfl,hS,hl,fun H1 b rl rs s1 hb1 hd1 G=>?_⟩
  obtain⟨c0,ec0⟩:∃c0,c0=ns.getD 0 0:=⟨_,rfl⟩
  rw[<-ec0]at G
  have hF:∀q∈rs,lD q:=fun q hq=>(G.nm q hq).fine
  refine⟨b,rl,rs,rfl,SqL.of hb1,hd1,G.rules,hF,?_,?_,?_,fun _ _ _ H2 p xs s2 hp hd2=>?_⟩
  ·exact fun⟨q,hq,e⟩=>by rw[G.fine q hq]at e;cases e
  ·exact fun _ ⟨r,hr,e⟩=>absurd (G.derAll r hr) e
  ·exact fun _ _ ⟨q,hq,e⟩=>absurd (G.rch q hq) e
  have hrows:=G.rows
  have hps:=G.ps8
  have hlw:=oR G.n1 hF
  have hsy:=G.syms
  have h50:=G.few
  have htop:cH∈av (aG rs):=mem_symsF.mpr ⟨_,List.mem_cons_self,rfl⟩
  have hU:∀t l,FK (aG rs) t l->l∈cD::(List.range 9).map (au c0):=fun t l h=>List.mem_cons_of_mem _ (G.words h)
  have hV:∀t l,NK (aG rs) t l->l∈cD::(List.range 9).map (au c0):=fun t l h=>G.wordsN h
  have hU10:(cD::(List.range 9).map (au c0)).length≤10:=by rw[List.length_cons,List.length_map,List.length_range];decide
  have hlow:∀l∈cD::(List.range 9).map (au c0),cY l:=fun l hl=>by
   rcases List.mem_cons.mp hl with e | e
   ·rw[e];exact (show cY [101,110,100] by unfold cY;decide)
   ·obtain⟨k,_,rfl⟩:=List.mem_map.mp e;exact cG _ _
  generalize cD::(List.range 9).map (au c0)=U at hU hV hU10 hlow
  generalize aG rs=rows at hd2 hrows hps hlw hsy hU hV h50 htop
  have hstr:∀{t:Th} {n:List Str},KsQ (NK rows t) n->∀y∈n,PyData.strOk y=true:=fun {t n} h y hy=>by
   obtain⟨_,ks,_,pm,mk⟩:=h
   obtain⟨l,hl,rfl⟩:=List.mem_map.mp (pm.mem_iff.mp hy)
   exact dy (hlow l (hV t l ((mk l).mp hl)))
  have lay:(PyData.list (rows.map PR.dat)).canLay0=true:=by simp only[PyData.canLay0];exact oB hlw
  have deep:(PyData.list (rows.map PR.dat)).depth≤60:=by have:=lN rows;simp only[PyData.depth];omega
  refine⟨xs,.inl (SqL.of hp),fun c hc0=>?_⟩
  have s3:Same H2 (al H2 c (.lst xs)):=ah hc0
  have hc3:al H2 c (.lst xs) c=some (.lst xs):=ae
  generalize al H2 c (.lst xs)=H3 at s3 hc3 ⊢
  have hp3:=s3 _ _ hp
  have hd3:=hd2.same s3
  refine⟨c,xs,rows,U,rfl,SqL.of hc3,hd3,hrows,hps,hlw,hsy,htop,h50,hU,hV,hU10,fun H4 e fs ms eq te hes hks=>?_⟩
  have s34:=te.s
  refine⟨p,xs,rows,U,rfl,SqL.of (s34 _ _ hp3),hd3.same s34,by omega,(fun r hr=>(hps r hr).1),hsy,htop,hU,hV,by omega,fun H5 d es ns5 ep td hes5 hks5=>?_⟩
  have te:=te.grow td.s
  have s35:=s34.trans td.s
  have hke:es.map (·.1)=fs.map (·.1):=hes5.trans hes.symm
  have hnm:∀x∈fs,ns5 x.1=ms x.1:=fun x hx=>by
   have hm:x.1∈es.map (·.1):=by rw[hke];exact List.mem_map.mpr ⟨x,hx,rfl⟩
   obtain⟨e',he',ee⟩:=List.mem_map.mp hm
   have:=hks5 e' he'
   rw[ee]at this
   exact Ba this (hks x hx)
  have hok:∀x∈fs,∀y∈ms x.1,PyData.strOk y=true:=fun x hx=>hstr (hks x hx)
  have hlen:es.length=fs.length:=by have:=congrArg List.length hke;rw[List.length_map,List.length_map]at this;exact this
  refine .inl ⟨d,aK es,ep,"dict",true,rfl,td.g,rfl,?_⟩
  refine .inl ⟨d,aK es,ep,rfl,td.g,.inl ⟨e,aK fs,eq,rfl,te.g,?_⟩⟩
  show if (true^^decide (((aK es).length:Int)=((aK fs).length:Int)))=true then _ else _
  rw[show (aK es).length=(aK fs).length by unfold aK;rw[List.length_map,List.length_map,hlen],decide_eq_true rfl]
  refine⟨_,_,.list (SqL.of (s35 _ _ hp3)) (hd3.same s35),.list (SqL.of (s35 _ _ hc3)) (hd3.same s35),lay,lay,by omega,?_⟩
  rw[SeqAt.eqv_refl _ lay]
  have eks:(aK fs).map (·.2.1)=fs.map fun e=>V.ref e.2.1:=by unfold aK;rw[List.map_map];rfl
  refine⟨aK fs,eq,te.g,?_⟩
  rw[eks]
  refine fE (fun i σ H'=>∃(v5 v6:Option V),H'=H5/\σ=[some (.ref a),some (.ref p),some (.ref c),some (.ref e),some (.ref d),v5,v6]) ⟨none,none,rfl,rfl⟩ (fun i σ H' _ h=>by obtain⟨_,_,rfl,_⟩:=h;exact⟨aK fs,te.g,eks⟩) ?_ ?_
  ·rintro i x σ H6 hx ⟨v5,v6,rfl,rfl⟩
   rw[List.getElem?_map]at hx
   cases ei:fs[i]? with
   | none=>rw[ei]at hx;cases hx
   | some g =>
    rw[ei]at hx
    have ex:x=V.ref g.2.1:=(Option.some.inj hx).symm
    subst ex
    have mg1:=List.mem_of_getElem? ei
    have hkey:KeyV K H6 (gk g.1) (.ref g.2.1):=te.g.2.2.2.2 (gk g.1,.ref g.2.1,.ref g.2.2) (List.mem_map.mpr ⟨g,mg1,rfl⟩)
    obtain⟨g1,mg2,eg1,hv1⟩:=bB (es:=es) (t:=g.1) (by rw[hke];exact List.mem_map.mpr ⟨g,mg1,rfl⟩)
    obtain⟨g2,mg3,eg2,hv2⟩:=bB (es:=fs) (t:=g.1) (List.mem_map.mpr ⟨g,mg1,rfl⟩)
    have l1:=td.v g1 mg2
    have l2:=te.v g2 mg3
    rw[eg1,hnm g mg1]at l1
    rw[eg2]at l2
    refine⟨⟨aK es,ep,td.g⟩,aK es,ep,gk g.1,td.g,hkey,?_⟩
    rw[hv1]
    refine⟨"list",true,.list (SqL.of l1),rfl,?_⟩
    refine .inl ⟨e,aK fs,eq,gk g.1,.ref g2.2.2,rfl,te.g,hkey,hv2,?_⟩
    have lay:(PyData.list ((ms g.1).map PyData.str)).canLay0=true:=by simp only[PyData.canLay0];exact nF (hok g mg1)
    have deep:(PyData.list ((ms g.1).map PyData.str)).depth≤60:=by have:=lU (ms g.1);simp only[PyData.depth];omega
    refine⟨_,_,.list (SqL.of l1) (ku _),.list (SqL.of l2) (ku _),lay,lay,by omega,?_⟩
    rw[SeqAt.eqv_refl _ lay]
    exact⟨_,_,rfl,rfl⟩
  ·rintro σ H6 ⟨v5,v6,rfl,rfl⟩
   exact qq _
theorem law_of (R0:Raw K mg "check_rules" st_check_rules ["rules"])(R1:Raw K mg "check_rule" st_check_rule ["sort","rank","side","parts"])(R2:Raw K mg "ranks_of" st_ranks_of ["rules","sort"])(R3:Raw K mg "floor_of" st_floor_of ["rules","number","place"])(R4:Raw K mg "rank_above" st_rank_above ["ranks","rank"])(R5:Raw K mg "plain_rules" st_plain_rules ["rules"])(R6:Raw K mg "symbols_of" st_symbols_of ["rules","number"])(R7:Raw K mg "sorts_of" st_sorts_of ["rules"])(R8:Raw K mg "plain_of_sort" st_plain_of_sort ["rules","parts","sort"])(R9:Raw K mg "check_fruitful" st_check_fruitful ["plain"])(R10:Raw K mg "check_reached" st_check_reached ["rules"])(R11:Raw K mg "first_kinds" st_first_kinds ["plain"])(R12:Raw K mg "next_kinds" st_next_kinds ["plain"])(R13:Raw K mg "none_yet" st_none_yet ["plain"])(R14:Raw K mg "firsts_of" st_firsts_of ["firsts","part"])(R15:Raw K mg "put_in" st_put_in ["kinds","more"])(R16:Raw K mg "sorted_lists" st_sorted_lists ["kinds"])(R17:Raw K mg "_law_cell_at" st__law_cell_at ["_law_script","_law_k"])(R18:Raw K mg "_law_names" st__law_names ["_law_cell","_law_many"])(R19:Raw K mg "_law_mixed" st__law_mixed ["_law_cell","_law_k"])(R20:Raw K mg "_law_rule" st__law_rule ["_law_cell","_law_names_here","_law_few"])(R21:Raw K mg "_law_rules" st__law_rules ["_law_script"])(R22:Raw K mg "_law_beginning" st__law_beginning ["_law_plain","_law_symbol"])(R23:Raw K mg "_law_owners" st__law_owners ["_law_plain","_law_symbol"])(R24:Raw K mg "_law_right_behind" st__law_right_behind ["_law_plain","_law_begins","_law_symbol"])(R25:Raw K mg "_law_due" st__law_due ["_law_plain"])(R26:Raw K mg "law" st_law ["_law_script"])(T:Txt K w mg tT)(TR:TxR mg)(TN:TxN K mg tS tN CN)(TF:TxF K mg CF)(TB:TxB K mg CB)(TI:TxI K mg CI):Def P w K mg base 5 "law" ["_law_script"] (spLaw K) :=
 have Dr:Def P w K mg base 1 "ranks_of" ["rules","sort"] (fL K):=oS R2 TR
 have Dx:DefX P w K mg base 4 "plain_rules" ["rules"] (xr K CF CB CI):=yB R5 T (vn R0 TN (x5 R1 TN)) (uF R6 T (o0 R3 T Dr (oV R4 TF))) Dr (py R7 T) (uh R8 T Dr) (yX R9 TB) (yu R10 TI)
 have Dm:Def P w K mg base 1 "_law_mixed" ["_law_cell","_law_k"] nZ:=uZ R19
 have Dn:Def P w K mg base 1 "none_yet" ["plain"] (uM P w K):=yY R13 T
 have Dp:Def P w K mg base 1 "put_in" ["kinds","more"] (n9 K):=vg R15 T
 have Df:Def P w K mg base 1 "firsts_of" ["firsts","part"] (uV P w K):=xt R14 T
 have Ds:Def P w K mg base 1 "sorted_lists" ["kinds"] (vp P w K):=xb R16 T
 uS R26 T (wV R21 T (ro R17 T) (pT R18 T) Dm (re R20 T Dm)) (DefX.toDef Dx) (yw R25 T (zj R22 T) (yh R23 T) (zi R24 T)) (wU R12 T (xA R11 T Dn Dp Df Ds) Dn Dp Df Ds)
end
structure Cls (K:PySem.W.Frag)(mg:Str->Option Value)(CF CB CI CN:Addr):Prop where
 c_NoFloor:mg "NoFloor"=some (.ref CF)
 c_Barren:mg "Barren"=some (.ref CB)
 c_Idle:mg "Idle"=some (.ref CI)
 c_NoRule:mg "NoRule"=some (.ref CN)
 x_NoFloor:PySem.W.excIn K CF eO "ValueError.__new__"=true
 x_Barren:PySem.W.excIn K CB eO "ValueError.__new__"=true
 x_Idle:PySem.W.excIn K CI eO "ValueError.__new__"=true
 x_NoRule:PySem.W.excIn K CN eO "ValueError.__new__"=true
theorem cls_mk {K:PySem.W.Frag}{mg:Str->Option Value}{h:Heap}{CF CB CI CN:Addr}(X:K.In h)(G:h.Ns mainGlobals mg)
  (aF:PySem.W.nsIn K mainGlobals "NoFloor"=some (some (.ref CF))) (aB:PySem.W.nsIn K mainGlobals "Barren"=some (some (.ref CB))) (aI:PySem.W.nsIn K mainGlobals "Idle"=some (some (.ref CI))) (aN:PySem.W.nsIn K mainGlobals "NoRule"=some (some (.ref CN))) (z1F:PySem.W.excIn K CF eO "ValueError.__new__"=true) (z1B:PySem.W.excIn K CB eO "ValueError.__new__"=true) (z1I:PySem.W.excIn K CI eO "ValueError.__new__"=true) (z1N:PySem.W.excIn K CN eO "ValueError.__new__"=true):∃CF CB CI CN,Cls K mg CF CB CI CN :=
 ⟨CF,CB,CI,CN,⟨PySem.W.mg_of X G aF,PySem.W.mg_of X G aB,PySem.W.mg_of X G aI,PySem.W.mg_of X G aN,z1F,z1B,z1I,z1N⟩⟩
end K31
open PySem PySem.W PyProof.Rows
namespace PySem.W.Fast
def tw11114088159345861715:Nat:=0
def tw12738754330707011362:Nat:=0
def tw15237460751845195467:Nat:=0
def tw18297688208526010173:Nat:=0
def tw10489661996352286642:Nat:=0
def tw5901921507255784752:Nat:=0
def tw18347328270749631172:Nat:=0
def tw2519562777379488853:Nat:=0
def tw15983276237649617427:Nat:=0
def tw16287196757051959365:Nat:=0
def tw2006571424337265614:Nat:=0
def tw14793135964132758620:Nat:=0
def tw17624351325017971731:Nat:=0
def tw18160067659072516415:Nat:=0
def tw2026644081161880758:Nat:=0
def tw17618952001537615892:Nat:=0
def tw18144993003263635205:Nat:=0
def tw14769689648385298942:Nat:=0
def tw8862509327044492846:Nat:=0
def tw3870223536799957902:Nat:=0
def tw9932235907698886777:Nat:=0
def tw11312009976508025268:Nat:=0
def tw4748800646258037693:Nat:=0
def tw7748130133762626721:Nat:=0
def tw4397887595327467821:Nat:=0
def tw3089976008585614393:Nat:=0
def tw41592326770192131:Nat:=0
def tw12307064423942747991:Nat:=0
def tw12461578156629527524:Nat:=0
def tw17765391265125475763:Nat:=0
def tw9138851145695181133:Nat:=0
def tw4184533299347133802:Nat:=0
def tw1766852032817072280:Nat:=0
def tw611289165114373831:Nat:=0
def tw1434797556277962818:Nat:=0
def tw3559517288019943432:Nat:=0
def tw9450364514037430091:Nat:=0
def tw993238106251629267:Nat:=0
def tw14601167496838332735:Nat:=0
def tw7585506694160992740:Nat:=0
def tw13271870087443135784:Nat:=0
def tw9603221065029235112:Nat:=0
def tw8829567058677443794:Nat:=0
def tw2452522806130238459:Nat:=0
def tw11662471688172761166:Nat:=0
def tw4594581688439688992:Nat:=0
def tw5498319152263534301:Nat:=0
def tw4264061165765040011:Nat:=0
def tw15065663658880257752:Nat:=0
def tw9995282386184444549:Nat:=0
def tw11193562859423500355:Nat:=0
def tw4295891107997741042:Nat:=0
def tw16930089513462400307:Nat:=0
def tw5282203783038205106:Nat:=0
def tw7471552073886685357:Nat:=0
def tw5484850820117512557:Nat:=0
def tw8641287296356428687:Nat:=0
def tw5327543905457429012:Nat:=0
def tw10709568448691423:Nat:=0
def tw5600420147880748292:Nat:=0
def tw5868100817843405753:Nat:=0
def tw3220943024218024772:Nat:=0
def tw12632746644838228261:Nat:=0
def tw9370872569679797117:Nat:=0
def tw9676420750455715339:Nat:=0
def tw12145936628935545833:Nat:=0
def tw3238439729046669221:Nat:=0
def tw10994039835258247474:Nat:=0
def tw17649551725909489852:Nat:=0
def tw16369013162043904553:Nat:=0
def tw10231338312164944140:Nat:=0
def tw3694688847506813947:Nat:=0
def tw7245557876450354727:Nat:=0
def tw18237492878245687510:Nat:=0
def tw9123482711265035097:Nat:=0
def tw2368796786766991645:Nat:=0
def tw12827361427114701298:Nat:=0
def tw12791569674307380275:Nat:=0
def tw8665404843318336730:Nat:=0
def tw1612498596164500777:Nat:=0
def tw16108127886434027200:Nat:=0
def tw2843105314020300043:Nat:=0
def tw11704977195313787879:Nat:=0
def tw1297501817019266546:Nat:=0
def tw8587275331746739664:Nat:=0
def tw15015216129697659751:Nat:=0
def tw15582295987898522153:Nat:=0
def tw17398569696740058619:Nat:=0
def tw509878532448151219:Nat:=0
def tw6237325714959128865:Nat:=0
def tw7308897911367618137:Nat:=0
def tw10528742481953831684:Nat:=0
def tw6276062136656559086:Nat:=0
def tw9780982025628690430:Nat:=0
def tw17412764151173509324:Nat:=0
def tw14954214928896317757:Nat:=0
def tw15360303995143601501:Nat:=0
def tw17930952810448627167:Nat:=0
def tw7859402585065260121:Nat:=0
def tw674082087879872296:Nat:=0
def tw17854643339746400569:Nat:=0
def tw6461790957073385861:Nat:=0
def tw1768224459786500880:Nat:=0
def tw9730153432322577760:Nat:=0
def tw205910044691614221:Nat:=0
def tw12535394416073190601:Nat:=0
def tw1657600836251120958:Nat:=0
def tw15728800702595125669:Nat:=0
def tw4628276719448226455:Nat:=0
def tw10236709602918057724:Nat:=0
def tw17488041708814737016:Nat:=0
def tw12331402667586614559:Nat:=0
def tw7819573067309775813:Nat:=0
def tw12545684873293798880:Nat:=0
def tw9645117137559481560:Nat:=0
def tw14126625054807636558:Nat:=0
def tw8800330904123340482:Nat:=0
def tw1148510905993634001:Nat:=0
def tw1048583446086777575:Nat:=0
def tw15417569123511778873:Nat:=0
def tw521840222303953987:Nat:=0
def tw4052612570546334048:Nat:=0
def tw7364378265415052748:Nat:=0
def tw4369862713078786193:Nat:=0
def tw1525211462623819186:Nat:=0
def tw8114733300824743526:Nat:=0
def tw13640862786197765808:Nat:=0
def tw13942018415288581861:Nat:=0
def tw1376223224063749494:Nat:=0
def tw1737476438147014006:Nat:=0
def tw6576013437951701454:Nat:=0
def tw13323793569333955950:Nat:=0
def tw14989805431245540358:Nat:=0
def tw13771497903035309213:Nat:=0
def tw7204636757052398586:Nat:=0
def tw14296501440269242316:Nat:=0
def tw13673230246117707620:Nat:=0
def tw11474901690127080619:Nat:=0
def tw10137527450299977116:Nat:=0
def tw15275887573415612537:Nat:=0
def tw9542076023908781369:Nat:=0
def tw2299050767751384314:Nat:=0
def tw4476099307985861036:Nat:=0
def tw16515724765301334870:Nat:=0
def tw17780908531783350624:Nat:=0
def tw5837507413142696526:Nat:=0
def tw3010696109620009540:Nat:=0
def tw5667211606351290510:Nat:=0
def tw1762083581302502268:Nat:=0
def tw4681255402200298771:Nat:=0
def tw8272001933096651594:Nat:=0
def tw13512387127024087075:Nat:=0
def tw17004864503843510048:Nat:=0
def tw10280639151734240908:Nat:=0
def tw14824722161907320734:Nat:=0
def tw7840107728303403695:Nat:=0
def tw17333812120627003896:Nat:=0
def tw4888695816678340646:Nat:=0
def tw955338211870259667:Nat:=0
def tw457770439373731378:Nat:=0
def tw3859646946909254302:Nat:=0
def tw5105788581624830801:Nat:=0
def tw411047632572690604:Nat:=0
def tw2903534140623190727:Nat:=0
def tw15376633184065039251:Nat:=0
def tw2663790513245185628:Nat:=0
def tw11513886534505049538:Nat:=0
def tw3751184031656632081:Nat:=0
def tw1700055781533771333:Nat:=0
def tw16433334994285758119:Nat:=0
def tw11081141763269921561:Nat:=0
def tw18169905376168724803:Nat:=0
def tw4755335459570903854:Nat:=0
def tw11833184183362504109:Nat:=0
def tw15206316642662042590:Nat:=0
def tw758433463067218475:Nat:=0
def tw8845513903052156847:Nat:=0
def tw8787476371840477846:Nat:=0
def tw16868314153484795095:Nat:=0
def tw2568298762146282662:Nat:=0
def tw17521284540331646158:Nat:=0
def tw11361171649781370422:Nat:=0
def tw13715295880460327349:Nat:=0
def tw13431607976650625669:Nat:=0
def tw15267853118732628844:Nat:=0
def tw16396136906602030532:Nat:=0
def tw2821919737039390040:Nat:=0
def tw2287661205206003866:Nat:=0
def tw11505379690078311792:Nat:=0
def tw7404448857348977088:Nat:=0
def tw14011803563579863954:Nat:=0
def tw8411230151601874341:Nat:=0
def tw14523132580768596010:Nat:=0
def tw3557245365978602350:Nat:=0
def tw657491752951359252:Nat:=0
def tw15182233408112410051:Nat:=0
def tw13049339039541156704:Nat:=0
def tw16154906809937021439:Nat:=0
def tw2677033236039769562:Nat:=0
def tw5729466836186581461:Nat:=0
def tw8720393550108154538:Nat:=0
def tw4924382084425948441:Nat:=0
def tw9560875902156143227:Nat:=0
def tw17603814504285286104:Nat:=0
def tw15348168160991281162:Nat:=0
def tw9087770924422480377:Nat:=0
def tw16075905071577249585:Nat:=0
def tw6105793879017285011:Nat:=0
def tw4105830592580521611:Nat:=0
def tw1833245172654842858:Nat:=0
def tw14188977030162465680:Nat:=0
def tw3973889714045826163:Nat:=0
def tw10518262926732338127:Nat:=0
def tw6309493533220973571:Nat:=0
def tw13337350795336125800:Nat:=0
def tw6091415611870341253:Nat:=0
def tw13625664379910430303:Nat:=0
def tw6164419507872864784:Nat:=0
def tw11384134957359005083:Nat:=0
def tw13234792936342443832:Nat:=0
def tw8611846767229405830:Nat:=0
def tw17601729217257682019:Nat:=0
def tw8449804298522132770:Nat:=0
def tw5467720653419825552:Nat:=0
def tw11548814630391556396:Nat:=0
def tw2505722093601458519:Nat:=0
def tw13142968883762754572:Nat:=0
def tw12438246915269158152:Nat:=0
def tw11504125063754578240:Nat:=0
def tw5944544386465838188:Nat:=0
def tw12725686334601863328:Nat:=0
def tw17842714698121643264:Nat:=0
def tw4486182704632404605:Nat:=0
def tw13928786806257543195:Nat:=0
def tw11878258112223303996:Nat:=0
def tw4492674134458687158:Nat:=0
def tw9458141264072037172:Nat:=0
def tw7966429381943988727:Nat:=0
def tw14026949852682224118:Nat:=0
def tw7082191683853701390:Nat:=0
def tw363408772998848175:Nat:=0
def tw17039128409254897783:Nat:=0
def tw5007839391441743242:Nat:=0
def tw2930669771125381493:Nat:=0
end PySem.W.Fast
namespace L2
theorem BH {p:List Value->Prop}(h:Unit->p []):∀us,us.length=0->p us:=fun us e=>by rw[List.length_eq_zero_iff.mp e];exact h ()
theorem ofLen1 {p:List Value->Prop}(h:∀a,p [a]):∀us,us.length=1->p us:=fun us e=>by obtain⟨a,rfl⟩:=List.length_eq_one_iff.mp e;exact h a
theorem ofLen2 {p:List Value->Prop}(h:∀a b,p [a,b]):∀us,us.length=2->p us:=fun us e=>match us with
 | []=>by cases e
 | a::r=>ofLen1 (p:=fun z=>p (a::z)) (h a) r (Nat.succ.inj e)
theorem ofLen3 {p:List Value->Prop}(h:∀a b c,p [a,b,c]):∀us,us.length=3->p us:=fun us e=>match us with
 | []=>by cases e
 | a::r=>ofLen2 (p:=fun z=>p (a::z)) (h a) r (Nat.succ.inj e)
theorem ofLen4 {p:List Value->Prop}(h:∀a b c d,p [a,b,c,d]):∀us,us.length=4->p us:=fun us e=>match us with
 | []=>by cases e
 | a::r=>ofLen3 (p:=fun z=>p (a::z)) (h a) r (Nat.succ.inj e)
theorem xF {p:List Value->Prop}(h:∀a b c d e,p [a,b,c,d,e]):∀us,us.length=5->p us:=fun us e=>match us with
 | []=>by cases e
 | a::r=>ofLen4 (p:=fun z=>p (a::z)) (h a) r (Nat.succ.inj e)
theorem xy {p:List Value->Prop}(h:∀a b c d e f,p [a,b,c,d,e,f]):∀us,us.length=6->p us:=fun us e=>match us with
 | []=>by cases e
 | a::r=>xF (p:=fun z=>p (a::z)) (h a) r (Nat.succ.inj e)
theorem yg {p:List Value->Prop}(h:∀a b c d e f g,p [a,b,c,d,e,f,g]):∀us,us.length=7->p us:=fun us e=>match us with
 | []=>by cases e
 | a::r=>xy (p:=fun z=>p (a::z)) (h a) r (Nat.succ.inj e)
theorem BO {p:List Value->Prop}(h:∀a b c d e f g h,p [a,b,c,d,e,f,g,h]):∀us,us.length=8->p us:=fun us e=>match us with
 | []=>by cases e
 | a::r=>yg (p:=fun z=>p (a::z)) (h a) r (Nat.succ.inj e)
end L2
set_option maxRecDepth 100000 in
set_option maxHeartbeats 0 in
theorem PySem.Challenge.cw_regrowth_k31_next_kinds_holds : PySem.Challenge.rw_regrowth_k31_next_kinds.Holds := by
 w_on;o_law;k_head;(case hw=>w_witness2)
 k_fill
 refine L2.walk_ofK (l:=PySem.Challenge.rw_regrowth_k31_next_kinds) (n:=63) (k:=5) (x:="_law_script") (CX:=L2.CX0) (sp:=K31.spLaw) rfl (by decide) rfl ⟨rfl,by decide,by decide,rfl⟩ (fun w h Y=>PySem.W.kIn_of Y) ?F ?S ?C
 case F =>
  intro w mg fa h KX G hmg
  have R0:L2.Raw (L2.KOf KX) mg "check_rules" K31.st_check_rules ["rules"]:=by
   dsimp only[L2.KOf]
   refine' L2.Raw.mk' KX G ?a0 ?l0 ?c0 ?k0 ?b0
   (case a0=>k_is)
   (case l0=>k_is)
   (case c0=>k_is)
   (case k0=>k_is)
   exact L2.ofLen1 fun _=>rfl
  have R1:L2.Raw (L2.KOf KX) mg "check_rule" K31.st_check_rule ["sort","rank","side","parts"]:=by
   dsimp only[L2.KOf]
   refine' L2.Raw.mk' KX G ?a1 ?l1 ?c1 ?k1 ?b1
   (case a1=>k_is)
   (case l1=>k_is)
   (case c1=>k_is)
   (case k1=>k_is)
   exact L2.ofLen4 fun _ _ _ _=>rfl
  have R2:L2.Raw (L2.KOf KX) mg "ranks_of" K31.st_ranks_of ["rules","sort"]:=by
   dsimp only[L2.KOf]
   refine' L2.Raw.mk' KX G ?a2 ?l2 ?c2 ?k2 ?b2
   (case a2=>k_is)
   (case l2=>k_is)
   (case c2=>k_is)
   (case k2=>k_is)
   exact L2.ofLen2 fun _ _=>rfl
  have R3:L2.Raw (L2.KOf KX) mg "floor_of" K31.st_floor_of ["rules","number","place"]:=by
   dsimp only[L2.KOf]
   refine' L2.Raw.mk' KX G ?a3 ?l3 ?c3 ?k3 ?b3
   (case a3=>k_is)
   (case l3=>k_is)
   (case c3=>k_is)
   (case k3=>k_is)
   exact L2.ofLen3 fun _ _ _=>rfl
  have R4:L2.Raw (L2.KOf KX) mg "rank_above" K31.st_rank_above ["ranks","rank"]:=by
   dsimp only[L2.KOf]
   refine' L2.Raw.mk' KX G ?a4 ?l4 ?c4 ?k4 ?b4
   (case a4=>k_is)
   (case l4=>k_is)
   (case c4=>k_is)
   (case k4=>k_is)
   exact L2.ofLen2 fun _ _=>rfl
  have R5:L2.Raw (L2.KOf KX) mg "plain_rules" K31.st_plain_rules ["rules"]:=by
   dsimp only[L2.KOf]
   refine' L2.Raw.mk' KX G ?a5 ?l5 ?c5 ?k5 ?b5
   (case a5=>k_is)
   (case l5=>k_is)
   (case c5=>k_is)
   (case k5=>k_is)
   exact L2.ofLen1 fun _=>rfl
  have R6:L2.Raw (L2.KOf KX) mg "symbols_of" K31.st_symbols_of ["rules","number"]:=by
   dsimp only[L2.KOf]
   refine' L2.Raw.mk' KX G ?a6 ?l6 ?c6 ?k6 ?b6
   (case a6=>k_is)
   (case l6=>k_is)
   (case c6=>k_is)
   (case k6=>k_is)
   exact L2.ofLen2 fun _ _=>rfl
  have R7:L2.Raw (L2.KOf KX) mg "sorts_of" K31.st_sorts_of ["rules"]:=by
   dsimp only[L2.KOf]
   refine' L2.Raw.mk' KX G ?a7 ?l7 ?c7 ?k7 ?b7
   (case a7=>k_is)
   (case l7=>k_is)
   (case c7=>k_is)
   (case k7=>k_is)
   exact L2.ofLen1 fun _=>rfl
  have R8:L2.Raw (L2.KOf KX) mg "plain_of_sort" K31.st_plain_of_sort ["rules","parts","sort"]:=by
   dsimp only[L2.KOf]
   refine' L2.Raw.mk' KX G ?a8 ?l8 ?c8 ?k8 ?b8
   (case a8=>k_is)
   (case l8=>k_is)
   (case c8=>k_is)
   (case k8=>k_is)
   exact L2.ofLen3 fun _ _ _=>rfl
  have R9:L2.Raw (L2.KOf KX) mg "check_fruitful" K31.st_check_fruitful ["plain"]:=by
   dsimp only[L2.KOf]
   refine' L2.Raw.mk' KX G ?a9 ?l9 ?c9 ?k9 ?b9
   (case a9=>k_is)
   (case l9=>k_is)
   (case c9=>k_is)
   (case k9=>k_is)
   exact L2.ofLen1 fun _=>rfl
  have R10:L2.Raw (L2.KOf KX) mg "check_reached" K31.st_check_reached ["rules"]:=by
   dsimp only[L2.KOf]
   refine' L2.Raw.mk' KX G ?a10 ?l10 ?c10 ?k10 ?b10
   (case a10=>k_is)
   (case l10=>k_is)
   (case c10=>k_is)
   (case k10=>k_is)
   exact L2.ofLen1 fun _=>rfl
  have R11:L2.Raw (L2.KOf KX) mg "first_kinds" K31.st_first_kinds ["plain"]:=by
   dsimp only[L2.KOf]
   refine' L2.Raw.mk' KX G ?a11 ?l11 ?c11 ?k11 ?b11
   (case a11=>k_is)
   (case l11=>k_is)
   (case c11=>k_is)
   (case k11=>k_is)
   exact L2.ofLen1 fun _=>rfl
  have R12:L2.Raw (L2.KOf KX) mg "next_kinds" K31.st_next_kinds ["plain"]:=by
   dsimp only[L2.KOf]
   refine' L2.Raw.mk' KX G ?a12 ?l12 ?c12 ?k12 ?b12
   (case a12=>k_is)
   (case l12=>k_is)
   (case c12=>k_is)
   (case k12=>k_is)
   exact L2.ofLen1 fun _=>rfl
  have R13:L2.Raw (L2.KOf KX) mg "none_yet" K31.st_none_yet ["plain"]:=by
   dsimp only[L2.KOf]
   refine' L2.Raw.mk' KX G ?a13 ?l13 ?c13 ?k13 ?b13
   (case a13=>k_is)
   (case l13=>k_is)
   (case c13=>k_is)
   (case k13=>k_is)
   exact L2.ofLen1 fun _=>rfl
  have R14:L2.Raw (L2.KOf KX) mg "firsts_of" K31.st_firsts_of ["firsts","part"]:=by
   dsimp only[L2.KOf]
   refine' L2.Raw.mk' KX G ?a14 ?l14 ?c14 ?k14 ?b14
   (case a14=>k_is)
   (case l14=>k_is)
   (case c14=>k_is)
   (case k14=>k_is)
   exact L2.ofLen2 fun _ _=>rfl
  have R15:L2.Raw (L2.KOf KX) mg "put_in" K31.st_put_in ["kinds","more"]:=by
   dsimp only[L2.KOf]
   refine' L2.Raw.mk' KX G ?a15 ?l15 ?c15 ?k15 ?b15
   (case a15=>k_is)
   (case l15=>k_is)
   (case c15=>k_is)
   (case k15=>k_is)
   exact L2.ofLen2 fun _ _=>rfl
  have R16:L2.Raw (L2.KOf KX) mg "sorted_lists" K31.st_sorted_lists ["kinds"]:=by
   dsimp only[L2.KOf]
   refine' L2.Raw.mk' KX G ?a16 ?l16 ?c16 ?k16 ?b16
   (case a16=>k_is)
   (case l16=>k_is)
   (case c16=>k_is)
   (case k16=>k_is)
   exact L2.ofLen1 fun _=>rfl
  have R17:L2.Raw (L2.KOf KX) mg "_law_cell_at" K31.st__law_cell_at ["_law_script","_law_k"]:=by
   dsimp only[L2.KOf]
   refine' L2.Raw.mk' KX G ?a17 ?l17 ?c17 ?k17 ?b17
   (case a17=>k_is)
   (case l17=>k_is)
   (case c17=>k_is)
   (case k17=>k_is)
   exact L2.ofLen2 fun _ _=>rfl
  have R18:L2.Raw (L2.KOf KX) mg "_law_names" K31.st__law_names ["_law_cell","_law_many"]:=by
   dsimp only[L2.KOf]
   refine' L2.Raw.mk' KX G ?a18 ?l18 ?c18 ?k18 ?b18
   (case a18=>k_is)
   (case l18=>k_is)
   (case c18=>k_is)
   (case k18=>k_is)
   exact L2.ofLen2 fun _ _=>rfl
  have R19:L2.Raw (L2.KOf KX) mg "_law_mixed" K31.st__law_mixed ["_law_cell","_law_k"]:=by
   dsimp only[L2.KOf]
   refine' L2.Raw.mk' KX G ?a19 ?l19 ?c19 ?k19 ?b19
   (case a19=>k_is)
   (case l19=>k_is)
   (case c19=>k_is)
   (case k19=>k_is)
   exact L2.ofLen2 fun _ _=>rfl
  have R20:L2.Raw (L2.KOf KX) mg "_law_rule" K31.st__law_rule ["_law_cell","_law_names_here","_law_few"]:=by
   dsimp only[L2.KOf]
   refine' L2.Raw.mk' KX G ?a20 ?l20 ?c20 ?k20 ?b20
   (case a20=>k_is)
   (case l20=>k_is)
   (case c20=>k_is)
   (case k20=>k_is)
   exact L2.ofLen3 fun _ _ _=>rfl
  have R21:L2.Raw (L2.KOf KX) mg "_law_rules" K31.st__law_rules ["_law_script"]:=by
   dsimp only[L2.KOf]
   refine' L2.Raw.mk' KX G ?a21 ?l21 ?c21 ?k21 ?b21
   (case a21=>k_is)
   (case l21=>k_is)
   (case c21=>k_is)
   (case k21=>k_is)
   exact L2.ofLen1 fun _=>rfl
  have R22:L2.Raw (L2.KOf KX) mg "_law_beginning" K31.st__law_beginning ["_law_plain","_law_symbol"]:=by
   dsimp only[L2.KOf]
   refine' L2.Raw.mk' KX G ?a22 ?l22 ?c22 ?k22 ?b22
   (case a22=>k_is)
   (case l22=>k_is)
   (case c22=>k_is)
   (case k22=>k_is)
   exact L2.ofLen2 fun _ _=>rfl
  have R23:L2.Raw (L2.KOf KX) mg "_law_owners" K31.st__law_owners ["_law_plain","_law_symbol"]:=by
   dsimp only[L2.KOf]
   refine' L2.Raw.mk' KX G ?a23 ?l23 ?c23 ?k23 ?b23
   (case a23=>k_is)
   (case l23=>k_is)
   (case c23=>k_is)
   (case k23=>k_is)
   exact L2.ofLen2 fun _ _=>rfl
  have R24:L2.Raw (L2.KOf KX) mg "_law_right_behind" K31.st__law_right_behind ["_law_plain","_law_begins","_law_symbol"]:=by
   dsimp only[L2.KOf]
   refine' L2.Raw.mk' KX G ?a24 ?l24 ?c24 ?k24 ?b24
   (case a24=>k_is)
   (case l24=>k_is)
   (case c24=>k_is)
   (case k24=>k_is)
   exact L2.ofLen3 fun _ _ _=>rfl
  have R25:L2.Raw (L2.KOf KX) mg "_law_due" K31.st__law_due ["_law_plain"]:=by
   dsimp only[L2.KOf]
   refine' L2.Raw.mk' KX G ?a25 ?l25 ?c25 ?k25 ?b25
   (case a25=>k_is)
   (case l25=>k_is)
   (case c25=>k_is)
   (case k25=>k_is)
   exact L2.ofLen1 fun _=>rfl
  have R26:L2.Raw (L2.KOf KX) mg "law" K31.st_law ["_law_script"]:=by
   dsimp only[L2.KOf]
   refine' L2.Raw.mk' KX G ?a26 ?l26 ?c26 ?k26 ?b26
   (case a26=>k_is)
   (case l26=>k_is)
   (case c26=>k_is)
   (case k26=>k_is)
   exact L2.ofLen1 fun _=>rfl
  have n_all:mg "all"=none:=PySem.W.mg_none_of KX G (by k_is)
  have n_any:mg "any"=none:=PySem.W.mg_none_of KX G (by k_is)
  have n_bool:mg "bool"=none:=PySem.W.mg_none_of KX G (by k_is)
  have n_dict:mg "dict"=none:=PySem.W.mg_none_of KX G (by k_is)
  have n_enumerate:mg "enumerate"=none:=PySem.W.mg_none_of KX G (by k_is)
  have n_int:mg "int"=none:=PySem.W.mg_none_of KX G (by k_is)
  have n_isinstance:mg "isinstance"=none:=PySem.W.mg_none_of KX G (by k_is)
  have n_len:mg "len"=none:=PySem.W.mg_none_of KX G (by k_is)
  have n_list:mg "list"=none:=PySem.W.mg_none_of KX G (by k_is)
  have n_min:mg "min"=none:=PySem.W.mg_none_of KX G (by k_is)
  have n_range:mg "range"=none:=PySem.W.mg_none_of KX G (by k_is)
  have n_set:mg "set"=none:=PySem.W.mg_none_of KX G (by k_is)
  have n_sorted:mg "sorted"=none:=PySem.W.mg_none_of KX G (by k_is)
  have n_str:mg "str"=none:=PySem.W.mg_none_of KX G (by k_is)
  have n_tuple:mg "tuple"=none:=PySem.W.mg_none_of KX G (by k_is)
  have n_zip:mg "zip"=none:=PySem.W.mg_none_of KX G (by k_is)
  have g_NO_RULE:∃t,mg "NO_RULE"=some (.int (-1) t):=by
   refine' L2.int_mk KX G ?aNO_RULE
   (case aNO_RULE=>k_is)
  have g_MOST_RULES:∃t,mg "MOST_RULES"=some (.int 24 t):=by
   refine' L2.int_mk KX G ?aMOST_RULES
   (case aMOST_RULES=>k_is)
  have g_MOST_RANK:∃t,mg "MOST_RANK"=some (.int 99 t):=by
   refine' L2.int_mk KX G ?aMOST_RANK
   (case aMOST_RANK=>k_is)
  have g_MOST_PARTS:∃t,mg "MOST_PARTS"=some (.int 8 t):=by
   refine' L2.int_mk KX G ?aMOST_PARTS
   (case aMOST_PARTS=>k_is)
  have g_END:∃t,mg "END"=some (.str "end" t):=by
   refine' L2.str_mk KX G ?aEND
   (case aEND=>k_is)
  have g_TOP:∃t,mg "TOP"=some (.ref t)/\∀H,L2.SqT (L2.KOf KX) H t [.str "",.int (0)]:=by
   dsimp only[L2.KOf]
   refine' L2.tup_mk KX G ?aTOP ?lTOP ?zTOP ?vTOP
   (case aTOP=>k_is)
   (case lTOP=>k_is)
   (case zTOP=>decide)
   (case vTOP=>exact .cons ⟨_,rfl⟩ (.cons ⟨_,rfl⟩ .nil))
  obtain⟨a_TOP,g_TOP,k_TOP⟩:=g_TOP
  have g_SIDES:∃t,mg "SIDES"=some (.ref t)/\∀H,L2.SqT (L2.KOf KX) H t [.str "left",.str "right",.str "none"]:=by
   dsimp only[L2.KOf]
   refine' L2.tup_mk KX G ?aSIDES ?lSIDES ?zSIDES ?vSIDES
   (case aSIDES=>k_is)
   (case lSIDES=>k_is)
   (case zSIDES=>decide)
   (case vSIDES=>exact .cons ⟨_,rfl⟩ (.cons ⟨_,rfl⟩ (.cons ⟨_,rfl⟩ .nil)))
  obtain⟨a_SIDES,g_SIDES,k_SIDES⟩:=g_SIDES
  have g_NO_NAMES:∃t,mg "NO_NAMES"=some (.ref t)/\∀H,L2.SqT (L2.KOf KX) H t [.str "",.str "end",.str "stray"]:=by
   dsimp only[L2.KOf]
   refine' L2.tup_mk KX G ?aNO_NAMES ?lNO_NAMES ?zNO_NAMES ?vNO_NAMES
   (case aNO_NAMES=>k_is)
   (case lNO_NAMES=>k_is)
   (case zNO_NAMES=>decide)
   (case vNO_NAMES=>exact .cons ⟨_,rfl⟩ (.cons ⟨_,rfl⟩ (.cons ⟨_,rfl⟩ .nil)))
  obtain⟨a_NO_NAMES,g_NO_NAMES,k_NO_NAMES⟩:=g_NO_NAMES
  have T2:∃CF CB CI CN,K31.Cls (L2.KOf KX) mg CF CB CI CN:=by
   dsimp only[L2.KOf]
   refine' K31.cls_mk KX G  ?aF ?aB ?aI ?aN ?z1F ?z1B ?z1I ?z1N
   (case aF=>k_is)
   (case aB=>k_is)
   (case aI=>k_is)
   (case aN=>k_is)
   (case z1F=>first | k_exc | rfl | decide)
   (case z1B=>first | k_exc | rfl | decide)
   (case z1I=>first | k_exc | rfl | decide)
   (case z1N=>first | k_exc | rfl | decide)
  obtain⟨CF,CB,CI,CN,T2⟩:=T2
  have T:K31.Txt (L2.KOf KX) w mg a_TOP:=⟨n_set,n_sorted,n_len,n_list,n_tuple,n_int,n_str,n_bool,n_min,n_all,n_zip,n_range,n_enumerate,n_isinstance,n_dict,g_NO_RULE,g_TOP,g_END,k_TOP⟩
  have TR:K31.TxR mg:=⟨n_set,n_sorted⟩
  have TN:K31.TxN (L2.KOf KX) mg a_SIDES a_NO_NAMES CN:=⟨n_len,n_any,g_MOST_RULES,g_MOST_RANK,g_MOST_PARTS,g_SIDES,g_NO_NAMES,k_SIDES,k_NO_NAMES,T2.c_NoRule,T2.x_NoRule⟩
  have TF:K31.TxF (L2.KOf KX) mg CF:=⟨T2.c_NoFloor,T2.x_NoFloor⟩
  have TB:K31.TxB (L2.KOf KX) mg CB:=⟨T2.c_Barren,T2.x_Barren,n_all,n_isinstance,n_str⟩
  have TI:K31.TxI (L2.KOf KX) mg CI:=⟨T2.c_Idle,T2.x_Idle⟩
  obtain⟨f,fd,hf,Fu,hb⟩:=R26.ex
  have e0:=hmg.symm.trans hf
  cases e0
  refine⟨fd,fun s u=>?_,fun base kb nb=>(K31.law_of R0 R1 R2 R3 R4 R5 R6 R7 R8 R9 R10 R11 R12 R13 R14 R15 R16 R17 R18 R19 R20 R21 R22 R23 R24 R25 ⟨⟨_,fd,hf,Fu,hb⟩⟩ T TR TN TF TB TI).at hf Fu.lk⟩
  exact .of_eq (hb [u] rfl)
 case S=>exact fun K H a ns hl hO hS=>⟨a,ns,rfl,hS,hl,fun _=>rfl⟩
 case C=>exact fun _ _ _ _ z=>z
