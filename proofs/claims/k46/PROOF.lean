import PyProof.Rows.All
import Wide.All
import OpenK.AllK
import Wide.FinOn
import Lean
import PyProof.EqAt
import PyProof.EqKinds
import PyProof.TupleCall
import PyProof.ZipIter
import PyProof.Rows.ZipGen
import OpenK.KRaise
import OpenK.KOwn
import PyProof.ExcClass3
import PyProof.ExcBaseAll.ValueError
import PyProof.FString
import PyProof.FString4
import PyProof.StrLawsRepr
import PyProof.NsDelKeeps
import PyProof.Rows.Catch
import PyProof.ExcArgsOwn
import PyProof.ExcAttrAll.ValueError
import OpenK.KDescr
import KE.KIsAll
import PyProof.EnumMake
import PyProof.Rows.EnumRows
import PyProof.Rows.SeqMore2
import KE.KDictList
import PyProof.Rows.SortStr
import PyProof.ExcInit
import PyProof.StrLawsChain
import PyProof.StrBlockI
import PyProof.StrBlock2
import PyProof.Rows.StrInSeq3
import KE.KUnpack
import PyProof.NeKinds
import KE.RegKIsAll
import PySem.Challenge.RW_regrowth_k46_changes_that_fit
namespace Rg
end Rg
set_option Elab.async false
set_option linter.all false
set_option maxRecDepth 100000
namespace L2
open PySem PySem.Spec PyProof.Rows
abbrev cK:=Sum Int Str
def eD:cK->Value->Bool
 | .inl k,v=>Value.isInt k v
 | .inr x,v=>Value.isStrOf x v
def yF (w:World):cK->Int
 | .inl k=>hashInt k
 | .inr x=>hashStr w x
theorem aC:∀{k:cK} {v:Value},eD k v=true->(∃i t,k=Sum.inl i/\v=Value.int i t)\/(∃x t,k=Sum.inr x/\v=Value.str x t)
 | .inl i,v,h=>by
  obtain⟨t,e⟩:=Value.isInt_shape (k:=i) (v:=v) h
  exact .inl ⟨i,t,rfl,e⟩
 | .inr x,v,h=>by
  obtain⟨t,e⟩:=Value.isStrOf_shape (x:=x) (v:=v) h
  exact .inr ⟨x,t,rfl,e⟩
theorem ix (i:Int)(t:Tok):eD (.inl i) (.int i t)=true:=by simp[eD,Value.isInt]
theorem dS (x:Str)(t:Tok):eD (.inr x) (.str x t)=true:=by simp[eD,Value.isStrOf]
theorem uQ (a b:Int):decide ((Sum.inl a:cK)=Sum.inl b)=(a == b):=by
 by_cases e:a=b
 ·subst e;simp
 ·have h:¬ (Sum.inl a:cK)=Sum.inl b:=fun q=>e (Sum.inl.inj q)
  rw[decide_eq_false h]
  exact (beq_eq_false_iff_ne.mpr e).symm
theorem vM (a b:Str):decide ((Sum.inr a:cK)=Sum.inr b)=decide (a=b):=by
 by_cases e:a=b
 ·subst e;simp
 ·have h:¬ (Sum.inr a:cK)=Sum.inr b:=fun q=>e (Sum.inr.inj q)
  rw[decide_eq_false h,decide_eq_false e]
theorem vO (a:Int)(b:Str):decide ((Sum.inl a:cK)=Sum.inr b)=false:=decide_eq_false (fun q=>nomatch q)
theorem wt (a:Str)(b:Int):decide ((Sum.inr a:cK)=Sum.inl b)=false:=decide_eq_false (fun q=>nomatch q)
def aE (prog:Program)(w:World):PySem.KeyKind prog w cK where
 is:=eD
 hash:=yF w
 inj:=fun v a b ha hb=>by
  rcases aC ha with⟨i,t,rfl,rfl⟩ | ⟨x,t,rfl,rfl⟩
  ·rcases aC hb with⟨j,u,rfl,e⟩ | ⟨y,u,rfl,e⟩
   ·injection e with e1 _;rw[e1]
   ·exact nomatch e
  ·rcases aC hb with⟨j,u,rfl,e⟩ | ⟨y,u,rfl,e⟩
   ·exact nomatch e
   ·injection e with e1 _;rw[e1]
 byValue:=fun k v h=>by
  rcases aC h with⟨i,t,rfl,rfl⟩ | ⟨x,t,rfl,rfl⟩<;>rfl
 pyHash:=fun hv h=>by
  rcases aC hv with⟨i,t,rfl,rfl⟩ | ⟨x,t,rfl,rfl⟩
  ·exact wpAny_pyHash_int h
  ·exact wpAny_pyHash_str h
 eqBool:=fun hu hv h=>by
  rcases aC hu with⟨i,t,rfl,rfl⟩ | ⟨x,t,rfl,rfl⟩
  ·rcases aC hv with⟨j,u,rfl,rfl⟩ | ⟨y,u,rfl,rfl⟩
   ·rw[uQ]at h;exact wpAny_eqBool_int h
   ·rw[vO]at h;exact SeqAt.EqAt.int_str i t y u _ _ _ _ h
  ·rcases aC hv with⟨j,u,rfl,rfl⟩ | ⟨y,u,rfl,rfl⟩
   ·rw[wt]at h;exact SeqAt.EqAt.str_int x t j u _ _ _ _ h
   ·rw[vM]at h;exact wpAny_eqBool_str h
 «strs»:=fun k x t v h=>by
  rcases aC h with⟨i,u,rfl,e⟩ | ⟨y,u,rfl,e⟩
  ·exact nomatch e
  ·injection e with e1 _
   subst e1
   cases v<;>rfl
theorem jy (prog:Program)(w:World)(i:Int)(t:Tok):(aE prog w).is (.inl i) (.int i t)=true:=ix i t
theorem jt (prog:Program)(w:World)(x:Str)(t:Tok):(aE prog w).is (.inr x) (.str x t)=true:=dS x t
end L2
namespace L2
open PySem PySem.Spec PyProof.Rows
inductive V where
 | non | bl (b:Bool) | int (i:Int) | str (x:Str) | byt (b:Array UInt8) | flt (b:UInt64) | ref (a:Addr) | ty (n:String)
 deriving DecidableEq
def RelV:V->Value->Prop
 | .non,u=>u=Value.none
 | .bl b,u=>u=Value.bool b
 | .int i,u=>∃t,u=Value.int i t
 | .str x,u=>∃t,u=Value.str x t
 | .byt b,u=>∃t,u=Value.bytes b t
 | .flt b,u=>∃t,u=Value.float b t
 | .ref a,u=>u=Value.ref a
 | .ty n,u=>u=Value.type n
abbrev Vals:List V->List Value->Prop:=Paired RelV
theorem Vals.length {xs:List V}{us:List Value}(r:Vals xs us):xs.length=us.length:=Paired.length r
theorem Vals.get:∀{xs:List V} {us:List Value} {i:Nat} {x:V},Vals xs us->xs[i]?=some x->∃u,us[i]?=some u/\RelV x u
 | _,_,_,_,.nil,e=>by simp at e
 | _,_,0,_,.cons r _,e=>by simp at e;subst e;exact⟨_,rfl,r⟩
 | _,_,i+1,x,.cons _ t,e=>by
  obtain⟨u,h1,h2⟩:=Vals.get (i:=i) (x:=x) t (by simpa using e)
  exact⟨u,by simpa using h1,h2⟩
theorem Vals.set {x:V}{u:Value}(r:RelV x u):∀{xs:List V} {us:List Value} (i:Nat),Vals xs us->Vals (xs.set i x) (us.set i u)
 | _,_,_,.nil=>.nil
 | _,_,0,.cons _ t=>.cons r t
 | _,_,i+1,.cons q t=>.cons q (Vals.set r i t)
theorem Vals.append:∀{xs ys:List V} {us ws:List Value},Vals xs us->Vals ys ws->Vals (xs++ys) (us++ws)
 | _,_,_,_,.nil,s=>s
 | _,_,_,_,.cons r t,s=>.cons r (Vals.append t s)
theorem Vals.take:∀{xs:List V} {us:List Value} (n:Nat),Vals xs us->Vals (xs.take n) (us.take n)
 | _,_,0,_=>.nil
 | _,_,_+1,.nil=>.nil
 | _,_,n+1,.cons r t=>.cons r (Vals.take n t)
theorem Vals.drop:∀{xs:List V} {us:List Value} (n:Nat),Vals xs us->Vals (xs.drop n) (us.drop n)
 | _,_,0,r=>r
 | _,_,_+1,.nil=>.nil
 | _,_,n+1,.cons _ t=>Vals.drop n t
def RelO:Option V->Option Value->Prop
 | some v,some u=>RelV v u
 | none,none=>True
 | _,_=>False
def KV {κ:Type}:List (κ×V)->List (κ×Value)->Prop:=Paired fun (p:κ×V) (q:κ×Value)=>p.1=q.1/\RelV p.2 q.2
def kV:cK->V
 | .inl i=>.int i
 | .inr x=>.str x
inductive HO where
 /-- a list -/
 | lst (xs:List V)
 /-- a tuple (never changes) -/
 | tup (xs:List V)
 /-- a dict whose keys are ints and texts;one whose keys are tuples of ints and texts (the empty one is both) -/
 | dK (kvs:List (cK×V)) | dT (kvs:List (List cK×V))
 /-- a set of ints: its members,its size -/
 | set (S:Int->Bool) (n:Nat)
 /-- an instance of the class at C,its dict at dx,its attributes -/
 | ins (C dx:Addr) (fs:List (Str×V))
 /-- the dict of the instance at x -/
 | own (x:Addr)
 /-- the dict of an exception -/
 | xd (fs:List (Str×V))
 /-- a bound method,f of x -/
 | met (f x:Addr)
 /-- a range object lo,lo+1,.. below hi -/
 | rng (lo hi:Int)
 /-- a thing that is known to the object (the script;a dict while a loop walks it): read,never written while it is so -/
 | frz (o:Obj) (u:HO)
 /-- a code object's table -/
 | tbl (ps:Array Value)
 /-- any other thing,by what is true of its one object (a def of one's own: SetO a S n:=HO.ext fun h=>..) -/
 | ext (φ:Heap->Prop)
abbrev Hp:=Addr->Option HO
def upd (H:Hp)(a:Addr)(o:HO):Hp:=fun b=>if b=a then some o else H b
theorem ae {H:Hp}{a:Addr}{o:HO}:upd H a o a=some o:=by unfold upd;rw[if_pos rfl]
theorem ag {H:Hp}{a b:Addr}{o:HO}(h:b≠a):upd H a o b=H b:=by unfold upd;rw[if_neg h]
theorem av {H:Hp}{a b:Addr}{o:HO}(h:H a=some o)(h':H b=none):a≠b:=by
 intro e;subst e;rw[h]at h';cases h'
section
variable (P:Program)(w:World)
def ObjOk (H:Hp)(h:Heap)(a:Addr):HO->Prop
 | .lst xs=>xs.length≤sizeLine/\∃(its:List Value) (n:Nat),Vals xs its/\h.get? a=some { cls:=.type "list",data:=.seq its.toArray n }
 | .tup xs=>xs.length≤sizeLine/\∃its:List Value,Vals xs its/\IsTup h a its.toArray
 | .dK kvs=>kvs.length≤sizeLine/\(a == sysModules)=false/\∃vs,KV kvs vs/\h.DictOf (aE P w) a vs
 | .dT kvs=>kvs.length≤sizeLine/\(a == sysModules)=false/\∃xs:List (List cK×Addr×Value),
   Paired (fun (p:List cK×V) (q:List cK×Addr×Value)=>p.1=q.1/\H q.2.1=some (.tup (p.1.map kV))/\RelV p.2 q.2.2) kvs xs /\
   ∃o es ep,h.get? a=some o/\o.ExactDict/\o.data=.dict es ep/\es.toList=xs.map (entryOfKey (tupleKind (aE P w)))/\(xs.map (·.1)).Nodup
 | .set S n=>h.SetOf (intKind P w) a S n
 | .ins C dx fs=>H dx=some (.own a)/\fs.length≤1000/\dx≠a/\h.get? a=some (PySem.W.instObj C dx) /\
   ∃mA,h.Ns1 dx mA/\(∀f,RelO (fs.lookup f) (mA f))/\PySem.Within mA (fs.map (·.1))
 | .own _=>∃o,h.get? a=some o
 | .xd fs=>∃mA,h.Ns1 a mA/\∀f,RelO (fs.lookup f) (mA f)
 | .rng lo hi=>∃t u v,h.get? a=some { cls:=.type "range",data:=.fields #[.int lo t,.int hi u,.int 1 v] }
 | .frz o u=>h.get? a=some o/\ObjOk H h a u
 | .tbl ps=>h.get? a=some { cls:=.none,data:=.fields ps }
 | .met f x=>h.get? a=some (PySem.W.methodObj (.ref f) (.ref x))
 | .ext φ=>φ h/\(∃o,h.get? a=some o)/\∀h1 h2:Heap,φ h1->(∀o,h1.get? a=some o->h2.get? a=some o)->φ h2
def HOk (H:Hp)(h:Heap):Prop:=∀a o,H a=some o->ObjOk P w H h a o
end
section
variable {P:Program}{w:World}{H H':Hp}{h h':Heap}{a:Addr}{o:HO}
theorem ObjOk.lt (x:ObjOk P w H h a o):a<h.objs.size:=by
 cases o with
 | lst xs=>obtain⟨_,_,_,_,e⟩:=x;exact Heap.lt_size e
 | tup xs=>obtain⟨_,_,_,p⟩:=x;exact p.lt
 | dK kvs=>obtain⟨_,_,_,_,o,_,_,e,_⟩:=x;exact Heap.lt_size e
 | dT kvs=>obtain⟨_,_,_,_,o,_,_,e,_⟩:=x;exact Heap.lt_size e
 | set S n=>obtain⟨o,_,_,_,e,_⟩:=x;exact Heap.lt_size e
 | ins C dx fs=>obtain⟨_,_,_,e,_⟩:=x;exact Heap.lt_size e
 | own y=>obtain⟨_,e⟩:=x;exact Heap.lt_size e
 | xd fs=>obtain⟨_,⟨_,_,_,e,_⟩,_⟩:=x;exact Heap.lt_size e
 | rng lo hi=>obtain⟨_,_,_,e⟩:=x;exact Heap.lt_size e
 | frz ob u=>obtain⟨e,_⟩:=x;exact Heap.lt_size e
 | tbl ps=>exact Heap.lt_size (show h.get? a=some _ from x)
 | met f y=>exact Heap.lt_size (show h.get? a=some _ from x)
 | ext φ=>obtain⟨_,⟨_,e⟩,_⟩:=x;exact Heap.lt_size e
theorem Paired.mapP {α β:Type}{F G:α->β->Prop}:∀{l₁:List α} {l₂:List β},Paired F l₁ l₂->(∀a b,F a b->G a b)->Paired G l₁ l₂
 | _,_,.nil,_=>.nil
 | _,_,.cons r t,f=>.cons (f _ _ r) (Paired.mapP t f)
theorem ObjOk.stay (x:ObjOk P w H h a o)(k:∀b u,(b=a\/H b=some (.own a))->h.get? b=some u->h'.get? b=some u)
  (ho:∀b,H b=some (.own a)->H' b=some (.own a)) (ht:∀b xs,H b=some (.tup xs)->H' b=some (.tup xs)):ObjOk P w H' h' a o:=by
 induction o with
 | lst xs=>obtain⟨z,its,n,r,e⟩:=x;exact⟨z,its,n,r,k _ _ (.inl rfl) e⟩
 | tup xs=>obtain⟨z,its,r,ob,e,c⟩:=x;exact⟨z,its,r,ob,k _ _ (.inl rfl) e,c⟩
 | dK kvs=>obtain⟨z,y,vs,r,ob,es,ep,e,c⟩:=x;exact⟨z,y,vs,r,ob,es,ep,k _ _ (.inl rfl) e,c⟩
 | dT kvs =>
  obtain⟨z,y,xs,r,ob,es,ep,e,c⟩:=x
  exact⟨z,y,xs,Paired.mapP r fun p q z=>⟨z.1,ht _ _ z.2.1,z.2.2⟩,ob,es,ep,k _ _ (.inl rfl) e,c⟩
 | set S n=>obtain⟨ob,es,ep,t,e,c⟩:=x;exact⟨ob,es,ep,t,k _ _ (.inl rfl) e,c⟩
 | ins C dx fs =>
  obtain⟨d,z,ne,e,mA,⟨od,es,ep,e2,c⟩,r⟩:=x
  exact⟨ho _ d,z,ne,k _ _ (.inl rfl) e,mA,⟨od,es,ep,k _ _ (.inr d) e2,c⟩,r⟩
 | own y=>obtain⟨ob,e⟩:=x;exact⟨ob,k _ _ (.inl rfl) e⟩
 | xd fs=>obtain⟨mA,⟨od,es,ep,e,c⟩,r⟩:=x;exact⟨mA,⟨od,es,ep,k _ _ (.inl rfl) e,c⟩,r⟩
 | rng lo hi=>obtain⟨t,u,v,e⟩:=x;exact⟨t,u,v,k _ _ (.inl rfl) e⟩
 | frz ob u ih=>obtain⟨e,q⟩:=x;exact⟨k _ _ (.inl rfl) e,ih q⟩
 | tbl ps =>
  have e:h.get? a=some { cls:=.none,data:=.fields ps }:=x
  show h'.get? a=some { cls:=.none,data:=.fields ps }
  exact k a _ (.inl rfl) e
 | met f y =>
  have e:h.get? a=some (PySem.W.methodObj (.ref f) (.ref y)):=x
  show h'.get? a=some (PySem.W.methodObj (.ref f) (.ref y))
  exact k a _ (.inl rfl) e
 | ext φ=>obtain⟨p,⟨o,e⟩,st⟩:=x;exact⟨st _ _ p fun o q=>k _ _ (.inl rfl) q,⟨o,k _ _ (.inl rfl) e⟩,st⟩
theorem HOk.lt (x:HOk P w H h)(e:H a=some o):a<h.objs.size:=(x a o e).lt
theorem HOk.fresh (x:HOk P w H h)(e:h.objs.size≤a):H a=none:=by
 cases q:H a with
 | none=>rfl
 | some u=>exact absurd (Nat.lt_of_lt_of_le (x.lt q) e) (Nat.lt_irrefl _)
theorem HOk.kept (x:HOk P w H h)(k:∀b u,h.get? b=some u->h'.get? b=some u):HOk P w H h':=fun a o e =>
 (x a o e).stay (fun b u _ q=>k b u q) (fun _ q=>q) fun _ _ q=>q
theorem HOk.laid (x:HOk P w H h)(k:∀b u,h.get? b=some u->h'.get? b=some u)(hp:h.objs.size≤a)(new:ObjOk P w (upd H a o) h' a o):HOk P w (upd H a o) h':=fun b u e=>by
 have hn:=x.fresh hp
 by_cases hb:b=a
 ·subst hb;rw[ae]at e;cases e;exact new
 ·rw[ag hb]at e
  exact (x b u e).stay (fun c v _ q=>k c v q) (fun c q=>by rw[ag (av q hn)];exact q) fun c xs q=>by rw[ag (av q hn)];exact q
end
def Rd (H:Hp)(a:Addr)(u:HO):Prop:=H a=some u\/∃o,H a=some (.frz o u)
theorem Rd.ok {P:Program}{w:World}{H:Hp}{h:Heap}{a:Addr}{u:HO}(r:Rd H a u)(x:HOk P w H h):ObjOk P w H h a u:=by
 rcases r with r | ⟨o,r⟩
 ·exact x a u r
 ·obtain⟨_,q⟩:=x a _ r
  exact q
def yo:Option HO->Prop
 | some (.lst _)=>True
 | some (.dK _)=>True
 | some (.dT _)=>True
 | some (.set _ _)=>True
 | some (.ins _ _ _)=>True
 | some (.ext _)=>True
 | _=>False
section
variable {P:Program}{w:World}{H:Hp}{h h':Heap}{x e:Addr}{o':HO}
theorem HOk.write (ok:HOk P w H h)(mu:yo (H x))(he:e=x\/H e=some (.own x))(k:∀b u,b≠e->h.get? b=some u->h'.get? b=some u)(heo:∃u,h'.get? e=some u)
  (new:ObjOk P w (upd H x o') h' x o'):HOk P w (upd H x o') h':=fun b u q=>by
 have nown:∀c y,H c=some (.own y)->c≠x:=fun c y r z=>by subst z;rw[r]at mu;exact mu
 have ntup:∀c xs,H c=some (.tup xs)->c≠x:=fun c xs r z=>by subst z;rw[r]at mu;exact mu
 by_cases hb:b=x
 ·subst hb;rw[ae]at q;cases q;exact new
 ·rw[ag hb]at q
  by_cases hbe:b=e
  ·have q':H b=some (.own x):=by
    rcases he with z | z
    ·exact absurd (hbe.trans z) hb
    ·rw[hbe];exact z
   rw[q]at q';cases q'
   obtain⟨v,hv⟩:=heo
   exact⟨v,by rw[hbe];exact hv⟩
  ·refine (ok b u q).stay (fun c v hc r=>k c v ?_ r) (fun c r=>by rw[ag (nown c b r)];exact r) fun c xs r=>by rw[ag (ntup c xs r)];exact r
   rcases hc with rfl | hc
   ·exact hbe
   ·rintro rfl
    rcases he with z | z
    ·exact nown c b hc z
    ·rw[hc]at z;cases z;exact hb rfl
end
structure Un (fs ex:List Addr)(H H':Hp)(h h':Heap):Prop where
 keep:∀b o,h.get? b=some o->H b=none->b∉fs->b∉ex->h'.get? b=some o
 slot:∀b o,h.get? b=some o->H b=none->b∈fs->b∉ex->∃sl,h'.get? b=some { o with slots:=sl }
 free:∀b o,h.get? b=some o->H b=none->b∉ex->H' b=none
 there:∀b o,h.get? b=some o->b∉ex->∃o',h'.get? b=some o'
 tups:∀b xs,H b=some (.tup xs)->H' b=some (.tup xs)
 frzs:∀b o u,H b=some (.frz o u)->H' b=some (.frz o u)
 tbls:∀b ps,H b=some (.tbl ps)->∃more,H' b=some (.tbl (ps++more))
section
variable {fs fs' ex ex':List Addr}{H H1 H2:Hp}{h h1 h2 h':Heap}{a x e:Addr}{o:HO}
theorem Un.any (u:Un fs ex H H1 h h1){b:Addr}{ob:Obj}(q:h.get? b=some ob)(n:H b=none)(hx:b∉ex):∃sl,h1.get? b=some { ob with slots:=sl }:=by
 by_cases hb:b∈fs
 ·exact u.slot b ob q n hb hx
 ·exact⟨ob.slots,u.keep b ob q n hb hx⟩
theorem Un.kept (k:∀b u,h.get? b=some u->h'.get? b=some u):Un fs ex H H h h' :=
 ⟨fun b ob q _ _ _=>k b ob q,fun b ob q _ _ _=>⟨ob.slots,k b ob q⟩,fun _ _ _ n _=>n,fun b ob q _=>⟨ob,k b ob q⟩,fun _ _ q=>q,fun _ _ _ q=>q,fun _ ps q=>⟨#[],by rw[q];simp⟩⟩
theorem Un.refl:Un fs ex H H h h:=Un.kept fun _ _ q=>q
theorem Un.laid (k:∀b u,h.get? b=some u->h'.get? b=some u)(hp:h.objs.size≤a)(hn:H a=none):Un fs ex H (upd H a o) h h' where
 keep:=fun b u q _ _ _=>k b u q
 slot:=fun b u q _ _ _=>⟨u.slots,k b u q⟩
 free:=fun b u q n _=>by rw[ag (Nat.ne_of_lt (Nat.lt_of_lt_of_le (Heap.lt_size q) hp))];exact n
 there:=fun b u q _=>⟨u,k b u q⟩
 tups:=fun b xs q=>by rw[ag (av q hn)];exact q
 frzs:=fun b u xs q=>by rw[ag (av q hn)];exact q
 tbls:=fun b ps q=>⟨#[],by rw[ag (av q hn),q];simp⟩
theorem Un.write (mu:yo (H x))(he:e=x\/H e=some (.own x))(k:∀b u,b≠e->h.get? b=some u->h'.get? b=some u)(heo:∃u,h'.get? e=some u):Un fs ex H (upd H x o) h h':=by
 have hx:∀b,H b=none->b≠x:=fun b n z=>by subst z;rw[n]at mu;exact mu
 have hb:∀b,H b=none->b≠e:=fun b n z=>by
  subst z
  rcases he with r | r
  ·exact hx b n r
  ·rw[n]at r;cases r
 have hm:∀b u,H b=some u->¬ yo (some u)->b≠x:=fun b u q nm z=>by subst z;rw[q]at mu;exact nm mu
 refine⟨fun b u q n _ _=>k b u (hb b n) q,fun b u q n _ _=>⟨u.slots,k b u (hb b n) q⟩,fun b u q n _=>by rw[ag (hx b n)];exact n,fun b u q _=>?_,
  fun b xs q=>by rw[ag (hm b _ q fun z=>z)];exact q,fun b u xs q=>by rw[ag (hm b _ q fun z=>z)];exact q,fun b ps q=>⟨#[],by rw[ag (hm b _ q fun z=>z),q];simp⟩⟩
 by_cases hbe:b=e
 ·subst hbe;exact heo
 ·exact⟨u,k b u hbe q⟩
end
def yz (h:Heap)(H:Hp):List Addr:=(List.range h.objs.size).filter fun a=>(H a).isSome
def hU (h:Heap)(H:Hp):Heap:=PySem.W.hideAll h (yz h H)
theorem mT (h:Heap)(H:Hp):(hU h H).objs.size=h.objs.size:=PySem.W.hideAll_size _ _
theorem pE {h:Heap}{H:Hp}{b:Addr}{o:Obj}(e:h.get? b=some o)(n:H b=none):(hU h H).get? b=some o :=
 PySem.W.hideAll_get _ e fun hm=>by
  have q:(H b).isSome=true:=(List.mem_filter.mp hm).2
  rw[n]at q;simp at q
theorem sN {h:Heap}{H:Hp}{b:Addr}{o:Obj}(e:(hU h H).get? b=some o):h.get? b=some o/\H b=none:=by
 have e':h.get? b=some o:=PySem.W.of_hideAll (yz h H) e
 refine⟨e',?_⟩
 cases q:H b with
 | none=>rfl
 | some x =>
  have hm:b∈yz h H:=List.mem_filter.mpr ⟨List.mem_range.mpr (Heap.lt_size e'),by simp[q]⟩
  have z:(hU h H).get? b=none:=PySem.W.hideAll_none (yz h H) hm
  rw[z]at e;cases e
def su (g h:Heap)(L:Addr):List (Addr×Obj):=(List.range h.objs.size).filterMap fun a=>if a=L\/(g.get? a).isSome=true then none else (h.get? a).map fun o=>(a,o)
def rest (g h:Heap)(L d:Addr):List (Addr×Obj):=(su g h L).filter fun p=>decide (p.1≠d)
end L2
namespace L2
open PySem PySem.Spec PyProof.Rows
structure Mod (K:PySem.W.Frag)(mg:Str->Option Value)(base:Heap):Prop where
 kin:K.In base
 glob:base.Ns mainGlobals mg
 blt:∃mb,base.Ns builtinsNs mb/\∀x:Str,x≠"__name__"->mb x=bootBuiltins x
 nolimit:base.NoLimit
structure Cx where
 prog:Program
 w:World
 K:PySem.W.Frag
 mg:Str->Option Value
 base:Heap
 A:Around
 N:List Str
 s₀:Shared
 H₀:Hp
 env:Env
 outer:List Env
 stack:List Env
 ex:List Addr
 fn:Str->Bool
 calm:Bool
 pn:List (Addr×Obj)
 xe:Value->Shared->Prop
def cu (l:List Env):List Addr:=l.filterMap (·.frame)
abbrev Cx.fs (X:Cx):List Addr:=cu X.outer
def sx (sc:Scope)(x:Str):Prop:=sc.names.lookup x=some .local\/sc.names.lookup x=some .cell\/sc.names.lookup x=some .free
def pM (sc:Scope)(x:Str):Prop:=sc.names.lookup x=some .local\/sc.names.lookup x=some .cell
def zg (env:Env)(h:Heap)(m:Str->Option Value)(x:Str)(u:Value):Prop :=
 (env.kindOf x=some .local/\m x=some u)\/((env.kindOf x=some .cell\/env.kindOf x=some .free)/\∃c,env.cells.lookup x=some c/\h.IsCell c (some u))
structure Cx.Ok (X:Cx):Prop where
 mod:Mod X.K X.mg X.base
 kind:X.env.scope.kind=.function
 glob:X.env.globals=mainGlobals
 blt:X.env.builtins=builtinsNs
 above:X.s₀.heap.objs.size≤X.env.locals
 inj:∀x y c,X.env.cells.lookup x=some c->X.env.cells.lookup y=some c->x=y
 has:∀x,(X.env.kindOf x=some .cell\/X.env.kindOf x=some .free)->∃c,X.env.cells.lookup x=some c
 cab:∀x c,X.fn x=true->X.env.cells.lookup x=some c->X.s₀.heap.objs.size≤c
 hd:X.calm=true->X.A.handled=none
 frames:X.A.frames=some X.stack
 stk:X.stack=X.outer\/(X.stack=X.env::X.outer/\X.env.frame=some X.env.locals)
 exf:∀b∈X.ex,b≠X.env.locals/\∀x c,X.env.cells.lookup x=some c->c≠b
 bs:∀b o,X.base.get? b=some o->X.s₀.heap.get? b=some o/\X.H₀ b=none
 bsz:X.base.objs.size≤X.s₀.heap.objs.size
 noex:∀b o,X.base.get? b=some o->b∉X.ex
 exfs:∀b∈X.ex,b∉X.fs
 funs:X.s₀.heap.FunFrames X.base X.outer
 frf:∀b∈X.fs,X.H₀ b=none
structure Inv (X:Cx)(pins:List (Addr×Obj))(σ:List (Option V))(H:Hp)(s:Shared):Prop where
 ok:X.Ok
 os:s.os=X.s₀.os
 bare:AllBare s.gens
 base:Un X.fs X.ex X.H₀ H X.s₀.heap s.heap
 loc:∃m,s.heap.Ns X.env.locals m/\∀(i:Nat) (x:Str) (v:V),X.N[i]?=some x->σ[i]?=some (some v)->sx X.env.scope x->∃u,RelV v u/\zg X.env s.heap m x u
 cell:∀x c,X.env.cells.lookup x=some c->∃v,s.heap.IsCell c v
 free:H X.env.locals=none
 freeC:∀x c,X.env.cells.lookup x=some c->H c=none
 pin:∀p∈X.pn++pins,s.heap.get? p.1=some p.2/\H p.1=none/\p.1≠X.env.locals/\p.1∉X.fs/\∀v,p.2.data≠.cell v
 hok:HOk X.prog X.w H s.heap
 len:σ.length=X.N.length
section
variable {X:Cx}{pins:List (Addr×Obj)}{σ:List (Option V)}{H H':Hp}{s:Shared}{h':Heap}
theorem Cx.Ok.nofr (ok:X.Ok){b:Addr}{o:Obj}(e:X.base.get? b=some o):b∉X.fs:=fun hb=>by
 have:=(ok.funs.mem hb).1
 rw[e]at this;cases this
theorem Inv.bs (I:Inv X pins σ H s):∀b o,X.base.get? b=some o->s.heap.get? b=some o/\H b=none:=fun b o e =>
 ⟨I.base.keep b o (I.ok.bs b o e).1 (I.ok.bs b o e).2 (I.ok.nofr e) (I.ok.noex b o e),I.base.free b o (I.ok.bs b o e).1 (I.ok.bs b o e).2 (I.ok.noex b o e)⟩
theorem Inv.bk (I:Inv X pins σ H s):∀b o,X.base.get? b=some o->s.heap.get? b=some o:=fun b o e=>(I.bs b o e).1
theorem Inv.mod (I:Inv X pins σ H s):Mod X.K X.mg X.base:=I.ok.mod
theorem Inv.kIn (I:Inv X pins σ H s):X.K.In s.heap:=I.ok.mod.kin.keeps I.bk
theorem Inv.nolimit (I:Inv X pins σ H s):s.heap.NoLimit:=I.ok.mod.nolimit.keeps I.bk
theorem Inv.fr (I:Inv X pins σ H s):∃m,Fr X.base X.env.locals s.heap m :=
 let ⟨m,hn,_⟩:=I.loc
 ⟨m,hn,I.bk,Nat.le_trans I.ok.bsz I.ok.above⟩
theorem Inv.lt (I:Inv X pins σ H s):X.env.locals<s.heap.objs.size:=let ⟨_,hn,_⟩:=I.loc;hn.lt
theorem Inv.sz (I:Inv X pins σ H s):X.s₀.heap.objs.size≤s.heap.objs.size:=Nat.le_trans I.ok.above (Nat.le_of_lt I.lt)
theorem Inv.nofs (I:Inv X pins σ H s){a:Addr}(h:s.heap.objs.size≤a):a∉X.fs:=fun hb=>by
 obtain⟨_,o,ho,_⟩:=I.ok.funs.mem hb
 exact absurd (Nat.lt_of_lt_of_le (Heap.lt_size ho) (Nat.le_trans I.sz h)) (Nat.lt_irrefl _)
theorem Inv.cne (I:Inv X pins σ H s):∀x c,X.env.cells.lookup x=some c->c≠X.env.locals:=fun x c e z=>by
 obtain⟨v,o,ho,hd⟩:=I.cell x c e
 obtain⟨m,⟨o',es,ep,ho',hd',_⟩,_⟩:=I.loc
 rw[z,ho']at ho;cases ho;rw[hd']at hd;cases hd
theorem Inv.funs (I:Inv X pins σ H s):s.heap.FunFrames X.base X.outer:=by
 have all:∀(l:List Env),(∀b∈cu l,b∈X.fs)->X.s₀.heap.FunFrames X.base l->s.heap.FunFrames X.base l:=by
  intro l
  induction l with
  | nil=>intro _ _;trivial
  | cons env r ih =>
   intro hs hl
   obtain⟨hk,⟨L,o,hf,hn,ho,hd⟩,hr⟩:=hl
   have hL:L∈X.fs:=hs L (by unfold cu;rw[List.filterMap_cons,hf];exact List.mem_cons_self)
   obtain⟨sl,e⟩:=I.base.slot L o ho (I.ok.frf L hL) hL fun z=>I.ok.exfs L z hL
   exact⟨hk,⟨L,_,hf,hn,e,hd⟩,ih (fun b hb=>hs b (by unfold cu;rw[List.filterMap_cons,hf];exact List.mem_cons_of_mem _ hb)) hr⟩
 exact all X.outer (fun _ hb=>hb) I.ok.funs
theorem Inv.stack (I:Inv X pins σ H s):s.heap.FunFrames X.base X.stack:=by
 rcases I.ok.stk with e | ⟨e,hf⟩
 ·rw[e];exact I.funs
 ·rw[e]
  obtain⟨m,hn,_⟩:=I.loc
  refine .cons (by rw[I.ok.kind];decide) hf hn ?_ I.funs
  exact Heap.get?_none_of_le (Nat.le_trans I.ok.bsz I.ok.above)
theorem Inv.stkSub (I:Inv X pins σ H s):∀b∈cu X.stack,b∈X.env.locals::X.fs:=fun b hb=>by
 rcases I.ok.stk with e | ⟨e,hf⟩
 ·rw[e]at hb;exact List.mem_cons_of_mem _ hb
 ·rw[e]at hb
  unfold cu at hb
  rw[List.filterMap_cons,hf]at hb
  exact hb
theorem Inv.stkFree (I:Inv X pins σ H s):∀b∈cu X.stack,H b=none:=fun b hb=>by
 rcases List.mem_cons.mp (I.stkSub b hb) with e | hb
 ·rw[e];exact I.free
 ·obtain⟨_,o,ho,_⟩:=I.ok.funs.mem hb
  exact I.base.free b o ho (I.ok.frf b hb) fun z=>I.ok.exfs b z hb
theorem Inv.step {g':Array GenState}{t':Nat}{d':Drawn}{ch:List Addr}(I:Inv X pins σ H s)
  (hch:∀b∈ch,(b∈X.ex\/X.s₀.heap.objs.size≤b)/\b≠X.env.locals/\(∀x c,X.env.cells.lookup x=some c->c≠b)/\∀p∈X.pn++pins,p.1≠b)
  (keep:∀b o,b≠X.env.locals->b∉X.fs->b∉ch->s.heap.get? b=some o->H b=none->h'.get? b=some o)
  (slot:∀b o,b≠X.env.locals->b∈X.fs->b∉ch->s.heap.get? b=some o->H b=none->∃sl,h'.get? b=some { o with slots:=sl }) (free:∀b o,b∉ch->s.heap.get? b=some o->H b=none->H' b=none)
  (there:∀b o,b∉ch->s.heap.get? b=some o->∃o',h'.get? b=some o')
  (tups:∀b xs,H b=some (.tup xs)->H' b=some (.tup xs)) (frzs:∀b o u,H b=some (.frz o u)->H' b=some (.frz o u)) (tbls:∀b ps,H b=some (.tbl ps)->∃more,H' b=some (.tbl (ps++more)))
  (ns:∀m,s.heap.Ns X.env.locals m->h'.Ns X.env.locals m) (hok:HOk X.prog X.w H' h') (hg:AllBare g') :
  Inv X pins σ H' { s with heap:=h',gens:=g',drawn:=d',toks:=t' }:=by
 have neL:∀b o,X.s₀.heap.get? b=some o->b≠X.env.locals:=fun b o e=>Nat.ne_of_lt (Nat.lt_of_lt_of_le (Heap.lt_size e) I.ok.above)
 have neC:∀b o,X.s₀.heap.get? b=some o->b∉X.ex->b∉ch:=fun b o e hx hb=>by
  rcases (hch b hb).1 with z | z
  ·exact hx z
  ·exact absurd (Nat.lt_of_lt_of_le (Heap.lt_size e) z) (Nat.lt_irrefl _)
 have cellK:∀x c,X.env.cells.lookup x=some c->∀v,s.heap.IsCell c v->h'.IsCell c v:=fun x c e v ⟨o,ho,hd⟩=>by
  have nch:c∉ch:=fun z=>(hch c z).2.2.1 x c e rfl
  by_cases hc:c∈X.fs
  ·obtain⟨sl,q⟩:=slot c o (I.cne x c e) hc nch ho (I.freeC x c e)
   exact⟨_,q,hd⟩
  ·exact⟨o,keep c o (I.cne x c e) hc nch ho (I.freeC x c e),hd⟩
 refine⟨I.ok,I.os,hg,⟨fun b o e n hb hx=>?_,fun b o e n hb hx=>?_,fun b o e n hx=>?_,fun b o e hx=>?_,fun b xs e=>tups b xs (I.base.tups b xs e),fun b o xs e=>frzs b o xs (I.base.frzs b o xs e),fun b ps e=>?_⟩,?_,fun x c e=>?_,?_,fun x c e=>?_,fun p hp=>?_,hok,I.len⟩
 ·exact keep b o (neL b o e) hb (neC b o e hx) (I.base.keep b o e n hb hx) (I.base.free b o e n hx)
 ·obtain⟨sl,e1⟩:=I.base.slot b o e n hb hx
  obtain⟨sl',e2⟩:=slot b _ (neL b o e) hb (neC b o e hx) e1 (I.base.free b o e n hx)
  exact⟨sl',e2⟩
 ·obtain⟨o',e1⟩:=I.base.there b o e hx
  exact free b o' (neC b o e hx) e1 (I.base.free b o e n hx)
 ·obtain⟨o',e1⟩:=I.base.there b o e hx
  exact there b o' (neC b o e hx) e1
 ·obtain⟨m1,e1⟩:=I.base.tbls b ps e
  obtain⟨m2,e2⟩:=tbls b _ e1
  exact⟨m1++m2,by rw[e2,Array.append_assoc]⟩
 ·obtain⟨m,hn,hl⟩:=I.loc
  refine⟨m,ns m hn,fun i x v e1 e2 e3=>?_⟩
  obtain⟨u,r,l⟩:=hl i x v e1 e2 e3
  refine⟨u,r,?_⟩
  rcases l with l | ⟨k,c,e,z⟩
  ·exact .inl l
  ·exact .inr ⟨k,c,e,cellK x c e _ z⟩
 ·obtain⟨v,z⟩:=I.cell x c e
  exact⟨v,cellK x c e v z⟩
 ·obtain⟨m,⟨o,_,_,ho,_⟩,_⟩:=I.loc
  exact free _ o (fun z=>(hch _ z).2.1 rfl) ho I.free
 ·obtain⟨v,o,ho,hd⟩:=I.cell x c e
  exact free c o (fun z=>(hch c z).2.2.1 x c e rfl) ho (I.freeC x c e)
 ·obtain⟨e,n,ne,nf,d⟩:=I.pin p hp
  have nch:p.1∉ch:=fun z=>(hch p.1 z).2.2.2 p hp rfl
  exact⟨keep p.1 p.2 ne nf nch e n,free p.1 p.2 nch e n,ne,nf,d⟩
theorem Inv.un {t':Nat}(I:Inv X pins σ H s)(u:Un X.fs [] H H' s.heap h')(hok:HOk X.prog X.w H' h'):Inv X pins σ H' { s with heap:=h',toks:=t' }:=by
 obtain⟨m,⟨o,es,ep,ho,r⟩,_⟩:=id I.loc
 obtain⟨sl,hL⟩:=u.any ho I.free (by simp)
 exact I.step (g':=s.gens) (d':=s.drawn) (ch:=[]) (fun _ z=>nomatch z) (fun b o _ hb _ e n=>u.keep b o e n hb (by simp)) (fun b o _ hb _ e n=>u.slot b o e n hb (by simp)) (fun b o _ e n=>u.free b o e n (by simp)) (fun b o _ e=>u.there b o e (by simp)) u.tups u.frzs u.tbls (fun m' hm=>by
  obtain⟨o',es',ep',ho',r'⟩:=hm
  rw[ho]at ho';cases ho'
  exact⟨_,es',ep',hL,r'⟩) hok I.bare
theorem Inv.call {g':Array GenState}{t':Nat}{d':Drawn}{ch:List Addr}(I:Inv X pins σ H s)(u:Un (cu X.stack) ch H H' s.heap h')(hok:HOk X.prog X.w H' h')(hg:AllBare g')
  (hch:∀b∈ch,(b∈X.ex\/X.s₀.heap.objs.size≤b)/\b≠X.env.locals/\(∀x c,X.env.cells.lookup x=some c->c≠b)/\∀p∈X.pn++pins,p.1≠b) :
  Inv X pins σ H' { s with heap:=h',gens:=g',drawn:=d',toks:=t' }:=by
 obtain⟨m,⟨o,es,ep,ho,r⟩,_⟩:=id I.loc
 obtain⟨sl,hL⟩:=u.any ho I.free fun z=>(hch _ z).2.1 rfl
 exact I.step (ch:=ch) hch (fun b o hL hb hc e n=>u.keep b o e n (fun z=>(List.mem_cons.mp (I.stkSub b z)).elim hL hb) hc) (fun b o _ _ hc e n=>u.any e n hc) (fun b o hc e n=>u.free b o e n hc) (fun b o hc e=>u.there b o e hc) u.tups u.frzs u.tbls (fun m' hm=>by
  obtain⟨o',es',ep',ho',r'⟩:=hm
  rw[ho]at ho';cases ho'
  exact⟨_,es',ep',hL,r'⟩) hok hg
theorem Inv.turned {t':Nat}{it:Addr}(I:Inv X pins σ H s)(k:∀b o,b≠it->s.heap.get? b=some o->h'.get? b=some o)(hn:H it=none)(hL:it≠X.env.locals)
  (h1:it∈X.ex\/X.s₀.heap.objs.size≤it) (h2:∀x c,X.env.cells.lookup x=some c->c≠it) (h3:∀p∈X.pn++pins,p.1≠it):Inv X pins σ H { s with heap:=h',toks:=t' }:=by
 have nit:∀b u,H b=some u->b≠it:=fun b u e z=>by rw[z,hn]at e;cases e
 refine I.step (g':=s.gens) (d':=s.drawn) (ch:=[it]) (fun b hb=>?_) (fun b o _ _ hc e _=>k b o (fun z=>hc (by simp[z])) e) (fun b o _ _ hc e _=>⟨o.slots,k b o (fun z=>hc (by simp[z])) e⟩) (fun _ _ _ _ n=>n)
  (fun b o hc e=>⟨o,k b o (fun z=>hc (by simp[z])) e⟩) (fun _ _ e=>e) (fun _ _ _ e=>e) (fun b ps e=>⟨#[],by rw[e];simp⟩) (fun m hm=>?_) (fun b u e=>?_) I.bare
 ·have e:b=it:=by simpa using hb
  subst e
  exact⟨h1,hL,h2,h3⟩
 ·obtain⟨o,es,ep,ho,r⟩:=hm
  exact⟨o,es,ep,k _ o (Ne.symm hL) ho,r⟩
 ·refine (I.hok b u e).stay (fun c v hc q=>k c v ?_ q) (fun _ q=>q) fun _ _ q=>q
  rcases hc with z | z
  ·rw[z];exact nit b u e
  ·exact nit c _ z
theorem Inv.tok (I:Inv X pins σ H s)(t:Nat):Inv X pins σ H { s with toks:=t }:=I.un (h':=s.heap) (t':=t) Un.refl I.hok
theorem Inv.kept {t':Nat}(I:Inv X pins σ H s)(k:∀b u,s.heap.get? b=some u->h'.get? b=some u):Inv X pins σ H { s with heap:=h',toks:=t' }:=I.un (Un.kept k) (I.hok.kept k)
theorem Inv.laid {a:Addr}{o:HO}{t':Nat}(I:Inv X pins σ H s)(k:∀b u,s.heap.get? b=some u->h'.get? b=some u)(hp:s.heap.objs.size≤a)(new:ObjOk X.prog X.w (upd H a o) h' a o) :
  Inv X pins σ (upd H a o) { s with heap:=h',toks:=t' }:=I.un (Un.laid k hp (I.hok.fresh hp)) (I.hok.laid k hp new)
theorem Inv.write {x e:Addr}{o:HO}{t':Nat}(I:Inv X pins σ H s)(mu:yo (H x))(he:e=x\/H e=some (.own x))(k:∀b u,b≠e->s.heap.get? b=some u->h'.get? b=some u)(heo:∃u,h'.get? e=some u)
  (new:ObjOk X.prog X.w (upd H x o) h' x o):Inv X pins σ (upd H x o) { s with heap:=h',toks:=t' }:=I.un (Un.write mu he k heo) (I.hok.write mu he k heo new)
theorem Inv.pins_of {pins':List (Addr×Obj)}(I:Inv X pins σ H s)(h:∀p∈pins',s.heap.get? p.1=some p.2/\H p.1=none/\p.1≠X.env.locals/\p.1∉X.fs/\∀v,p.2.data≠.cell v):Inv X pins' σ H s :=
 ⟨I.ok,I.os,I.bare,I.base,I.loc,I.cell,I.free,I.freeC,fun p hp=>(List.mem_append.mp hp).elim (fun z=>I.pin p (List.mem_append_left _ z)) (h p),I.hok,I.len⟩
theorem eI {N:List Str}(hN:N.Nodup){i j:Nat}{x:Str}(a:N[i]?=some x)(b:N[j]?=some x):i=j:=by
 obtain⟨h1,e1⟩:=List.getElem?_eq_some_iff.mp a
 obtain⟨h2,e2⟩:=List.getElem?_eq_some_iff.mp b
 exact (List.getElem_inj hN).mp (e1.trans e2.symm)
theorem h9 {M:Model}{A:Around}{E:Value->Shared->Prop}{i:Nat}{x:Str}{v:V}{u:Value}{Q:Unit->Shared->Prop}(I:Inv X pins σ H s)(hN:X.N.Nodup)(hi:X.N[i]?=some x)(hx:pM X.env.scope x)(r:RelV v u)
  (h:∀s',Inv X pins (σ.set i (some v)) H s'->(∃a,Heap.SameBut a s.heap s'.heap/\(a=X.env.locals\/X.env.cells.lookup x=some a))->Q () s') (hf:X.fn x=true\/X.env.scope.names.lookup x=some .local:=by first | exact .inl rfl | exact .inr rfl | assumption):wpAny M A (storeName X.env x u) Q E s:=by
 obtain⟨m,hn,hl⟩:=id I.loc
 have hcls:(X.env.scope.kind == .class||(X.env.scope.kind == .module&&X.env.locals != X.env.globals))=false:=by rw[I.ok.kind];rfl
 have hiσ:i<σ.length:=by rw[I.len];exact (List.getElem?_eq_some_iff.mp hi).1
 have cne:=I.cne
 have tracked:∀{a:Addr} {h':Heap},(∃o,s.heap.get? a=some o/\H a=none)->Heap.SameBut a s.heap h'->HOk X.prog X.w H h':=fun {a h'} ha hs b ob e=>by
  obtain⟨_,_,hfree⟩:=ha
  refine (I.hok b ob e).stay (fun c w' hc q=>(hs.2 c ?_).trans q) (fun _ q=>q) fun _ _ q=>q
  rintro rfl
  rcases hc with rfl | hc
  ·rw[hfree]at e;cases e
  ·rw[hfree]at hc;cases hc
 rcases hx with hk | hk
 ·refine wpAny_storeName_local hk hn (fun h' hn' hs=>?_) hcls
  obtain⟨oL,_,_,hoL,_⟩:=id hn
  refine h _ ⟨I.ok,I.os,I.bare,⟨fun b o e n hb hx=>?_,fun b o e n hb hx=>?_,I.base.free,fun b o e hx=>?_,I.base.tups,I.base.frzs,I.base.tbls⟩,⟨_,hn',fun j y v' e1 e2 e3=>?_⟩,fun y c e=>?_,I.free,I.freeC,fun p hp=>?_,tracked ⟨oL,hoL,I.free⟩ hs,by simpa using I.len⟩ ⟨_,hs,.inl rfl⟩
  ·exact (hs.2 b (Nat.ne_of_lt (Nat.lt_of_lt_of_le (Heap.lt_size e) I.ok.above))).trans (I.base.keep b o e n hb hx)
  ·obtain⟨sl,e1⟩:=I.base.slot b o e n hb hx
   exact⟨sl,(hs.2 b (Nat.ne_of_lt (Nat.lt_of_lt_of_le (Heap.lt_size e) I.ok.above))).trans e1⟩
  ·obtain⟨o',e1⟩:=I.base.there b o e hx
   exact⟨o',(hs.2 b (Nat.ne_of_lt (Nat.lt_of_lt_of_le (Heap.lt_size e) I.ok.above))).trans e1⟩
  ·by_cases hj:j=i
   ·subst hj
    rw[hi]at e1;cases e1
    rw[List.getElem?_set_self hiσ]at e2
    cases e2
    exact⟨u,r,.inl ⟨hk,by simp⟩⟩
   ·rw[List.getElem?_set_ne (Ne.symm hj)]at e2
    obtain⟨u',r',q⟩:=hl j y v' e1 e2 e3
    refine⟨u',r',?_⟩
    rcases q with⟨k,e⟩ | ⟨k,c,e,z⟩
    ·refine .inl ⟨k,?_⟩
     have:y≠x:=fun e=>hj (eI hN e1 (e▸hi))
     simp[this,e]
    ·exact .inr ⟨k,c,e,z.sameBut hs (cne y c e)⟩
  ·obtain⟨w',z⟩:=I.cell y c e
   exact⟨w',z.sameBut hs (cne y c e)⟩
  ·obtain⟨e,n,ne,nf,d⟩:=I.pin p hp
   exact⟨(hs.2 p.1 ne).trans e,n,ne,nf,d⟩
 ·have hfn:X.fn x=true:=by
   rcases hf with z | z
   ·exact z
   ·rw[z]at hk;cases hk
  obtain⟨c,hc⟩:=I.ok.has x (.inl hk)
  obtain⟨w',z⟩:=I.cell x c hc
  refine wpAny_storeName_cell I.ok.kind hk hc z (fun h' hc' hs=>?_)
  obtain⟨oc,hoc,hocd⟩:=id z
  refine h { s with heap:=h' } ⟨I.ok,I.os,I.bare,⟨fun b o e n hb hx=>?_,fun b o e n hb hx=>?_,I.base.free,fun b o e hx=>?_,I.base.tups,I.base.frzs,I.base.tbls⟩,⟨m,hn.sameBut hs (Ne.symm (cne x c hc)),fun j y v' e1 e2 e3=>?_⟩,fun y c' e=>?_,I.free,I.freeC,fun p hp=>?_,tracked ⟨oc,hoc,I.freeC x c hc⟩ hs,by simpa using I.len⟩ ⟨c,hs,.inr hc⟩
  ·exact (hs.2 b (Nat.ne_of_lt (Nat.lt_of_lt_of_le (Heap.lt_size e) (I.ok.cab x c hfn hc)))).trans (I.base.keep b o e n hb hx)
  ·obtain⟨sl,e1⟩:=I.base.slot b o e n hb hx
   exact⟨sl,(hs.2 b (Nat.ne_of_lt (Nat.lt_of_lt_of_le (Heap.lt_size e) (I.ok.cab x c hfn hc)))).trans e1⟩
  ·obtain⟨o',e1⟩:=I.base.there b o e hx
   exact⟨o',(hs.2 b (Nat.ne_of_lt (Nat.lt_of_lt_of_le (Heap.lt_size e) (I.ok.cab x c hfn hc)))).trans e1⟩
  ·by_cases hj:j=i
   ·subst hj
    rw[hi]at e1;cases e1
    rw[List.getElem?_set_self hiσ]at e2
    cases e2
    exact⟨u,r,.inr ⟨.inl hk,c,hc,hc'⟩⟩
   ·rw[List.getElem?_set_ne (Ne.symm hj)]at e2
    obtain⟨u',r',q⟩:=hl j y v' e1 e2 e3
    refine⟨u',r',?_⟩
    rcases q with q | ⟨k,c',e,z'⟩
    ·exact .inl q
    ·refine .inr ⟨k,c',e,z'.sameBut hs ?_⟩
     rintro rfl
     exact hj (eI hN e1 (I.ok.inj _ _ _ e hc▸hi))
  ·by_cases hcc:c'=c
   ·subst hcc;exact⟨_,hc'⟩
   ·obtain⟨w2,z2⟩:=I.cell y c' e
    exact⟨w2,z2.sameBut hs hcc⟩
  ·obtain⟨e,n,ne,nf,d⟩:=I.pin p hp
   refine⟨(hs.2 p.1 ?_).trans e,n,ne,nf,d⟩
   intro q
   rw[q,hoc]at e
   have q':oc=p.2:=Option.some.inj e
   exact d w' (by rw[<-q'];exact hocd)
theorem cb {M:Model}{A:Around}{E:Value->Shared->Prop}{i:Nat}{x:Str}{v:V}{u:Value}{Q:Unit->Shared->Prop}(I:Inv X pins σ H s)(hN:X.N.Nodup)(hi:X.N[i]?=some x)(hx:pM X.env.scope x)(r:RelV v u)
  (h:∀s',Inv X pins (σ.set i (some v)) H s'->Q () s') (hf:X.fn x=true\/X.env.scope.names.lookup x=some .local:=by first | exact .inl rfl | exact .inr rfl | assumption):wpAny M A (storeName X.env x u) Q E s :=
 h9 I hN hi hx r (fun s' I' _=>h s' I') hf
theorem Inv.call' {s':Shared}{ch:List Addr}(I:Inv X pins σ H s)(ho:s'.os=s.os)(u:Un (cu X.stack) ch H H' s.heap s'.heap)(hok:HOk X.prog X.w H' s'.heap)(hg:AllBare s'.gens)
  (hch:∀b∈ch,(b∈X.ex\/X.s₀.heap.objs.size≤b)/\b≠X.env.locals/\(∀x c,X.env.cells.lookup x=some c->c≠b)/\∀p∈X.pn++pins,p.1≠b):Inv X pins σ H' s':=by
 obtain⟨h',g',d',t',o'⟩:=s'
 have e:o'=s.os:=ho
 subst e
 exact I.call (g':=g') (t':=t') (d':=d') u hok hg hch
end
abbrev XK:=Value->Option Addr->Hp->Prop
abbrev St:=List (Option V)
abbrev VK:=V->Hp->Prop
abbrev TE:=St->Hp->VK->Prop
abbrev TT:=St->Hp->(Bool->Hp->Prop)->Prop
abbrev TA:=St->Hp->(List V->Hp->Prop)->Prop
structure gP where
 nx:St->Hp->Prop
 rt:VK
 bk:St->Hp->Prop:=fun _ _=>False
 ct:St->Hp->Prop:=fun _ _=>False
abbrev TS:=gP->St->Hp->Prop
def EP (X:Cx)(pins:List (Addr×Obj))(σ:St)(Q:VK)(u:Value)(s':Shared):Prop:=∃v H',Inv X pins σ H' s'/\RelV v u/\Q v H'
def TP (X:Cx)(pins:List (Addr×Obj))(σ:St)(Q:Bool->Hp->Prop)(b:Bool)(s':Shared):Prop:=∃H',Inv X pins σ H' s'/\Q b H'
def AP (X:Cx)(pins:List (Addr×Obj))(σ:St)(Q:List V->Hp->Prop)(us:List Value)(s':Shared):Prop:=∃vs H',Inv X pins σ H' s'/\Vals vs us/\Q vs H'
def SP (X:Cx)(pins:List (Addr×Obj))(D:gP)(f:Flow)(s':Shared):Prop :=
 match f with
 | .next=>∃σ' H',Inv X pins σ' H' s'/\D.nx σ' H'
 | .brk=>∃σ' H',Inv X pins σ' H' s'/\D.bk σ' H'
 | .cont=>∃σ' H',Inv X pins σ' H' s'/\D.ct σ' H'
 | .ret u=>∃v σ' H',Inv X pins σ' H' s'/\RelV v u/\D.rt v H'
def PE (X:Cx)(e:Expr)(t:TE):Prop :=
 ∀(pins:List (Addr×Obj)) (s:Shared) (σ:St) (H:Hp) (Q:VK),Inv X pins σ H s->t σ H Q->wpAny (model X.prog X.w) X.A (eval e X.env) (EP X pins σ Q) X.xe s
def PT (X:Cx)(e:Expr)(t:TT):Prop :=
 ∀(pins:List (Addr×Obj)) (s:Shared) (σ:St) (H:Hp) (Q:Bool->Hp->Prop),Inv X pins σ H s->t σ H Q->wpAny (model X.prog X.w) X.A (isTrue e X.env (eval e X.env)) (TP X pins σ Q) X.xe s
def PW (X:Cx)(e:Expr)(t:TT):Prop :=
 ∀(whole:Sem Value) (pins:List (Addr×Obj)) (s:Shared) (σ:St) (H:Hp) (Q:Bool->Hp->Prop),Inv X pins σ H s->t σ H Q->wpAny (model X.prog X.w) X.A (isTrue e X.env whole) (TP X pins σ Q) X.xe s
theorem PW.pt {X:Cx}{e:Expr}{t:TT}(h:PW X e t):PT X e t:=h _
def PA (X:Cx)(es:List Expr)(t:TA):Prop :=
 ∀(pos:Pos) (pins:List (Addr×Obj)) (s:Shared) (σ:St) (H:Hp) (Q:List V->Hp->Prop),Inv X pins σ H s->t σ H Q->wpAny (model X.prog X.w) X.A (spliced (backTo pos (starEach es X.env))) (AP X pins σ Q) X.xe s
def PS (X:Cx)(st:Stmt)(t:TS):Prop :=
 ∀(pins:List (Addr×Obj)) (s:Shared) (σ:St) (H:Hp) (D:gP),Inv X pins σ H s->t D σ H->wpAny (model X.prog X.w) X.A (exec st X.env) (SP X pins D) X.xe s
def PSs (X:Cx)(st:List Stmt)(t:TS):Prop :=
 ∀(pins:List (Addr×Obj)) (s:Shared) (σ:St) (H:Hp) (D:gP),Inv X pins σ H s->t D σ H->wpAny (model X.prog X.w) X.A (execs st X.env) (SP X pins D) X.xe s
theorem aS {α:Type}{t:Sem α}{Q Q':α->Shared->Prop}{M:Model}{A:Around}{E:Value->Shared->Prop}{s:Shared}(h:wpAny M A t Q E s)(hQ:∀a s,Q a s->Q' a s):wpAny M A t Q' E s:=wpAny_mono h hQ fun _ _ x=>x
end L2
namespace L2
open PySem PySem.Spec PyProof.Rows
section
variable {X:Cx}
def uG (i:Nat):TE:=fun σ H Q=>∃v,σ[i]?=some (some v)/\Q v H
def tC (v:V):TE:=fun _ H Q=>Q v H
theorem kI {i:Nat}{x:Str}{pos:Pos}(hN:X.N[i]?=some x)(hv:sx X.env.scope x)(hd:(x == ("__debug__":Str))=false:=by decide)(hcd:(x == ("__classdict__":Str))=false:=by decide):PE X (.Name x pos) (uG i):=by
 intro pins s σ H Q I h
 obtain⟨v,e,h⟩:=h
 obtain⟨m,hn,hl⟩:=I.loc
 obtain⟨u,r,l⟩:=hl i x v hN e hv
 have fin:EP X pins σ Q u s:=⟨v,H,I,r,h⟩
 rcases l with⟨hk,hm⟩ | ⟨hk,c,hc,hcell⟩
 ·exact wpAny_Name (wpAny_loadName_local I.ok.kind hk hn hm fin) hd
 ·rcases hk with hk | hk
  ·exact wpAny_Name (wpAny_loadName_cell I.ok.kind hk hc hcell fin) hd
  ·exact wpAny_Name (wpAny_loadName_free I.ok.kind hk hc hcell fin hcd) hd
theorem uZ {i j pos}:PE X (.Constant (.int i) j pos) (tC (.int i)):=fun _ _ _ H _ I h=>wpAny_Constant_int ⟨.int i,H,I.tok _,⟨_,rfl⟩,h⟩
theorem yn {b j pos}:PE X (.Constant (.bool b) j pos) (tC (.bl b)):=fun _ _ _ H _ I h=>Constant_bool ⟨.bl b,H,I,rfl,h⟩
theorem vz {j pos}:PE X (.Constant .none j pos) (tC .non):=fun _ _ _ H _ I h=>Constant_none ⟨.non,H,I,rfl,h⟩
theorem wC {x j pos}:PE X (.Constant (.str x) j pos) (tC (.str x)):=fun _ _ _ H _ I h=>Calls.Constant_str ⟨.str x,H,I.tok _,⟨_,rfl⟩,h⟩
def Gl (X:Cx)(x:Str):Prop:=X.env.kindOf x=some .globalImplicit
theorem cU {E:Value->Shared->Prop}{pins:List (Addr×Obj)}{s:Shared}{σ:St}{H:Hp}{x:Str}{u:Value}{pos:Pos}{Q:Value->Shared->Prop}(I:Inv X pins σ H s)(hg:Gl X x)(hm:X.mg x=some u)(h:Q u s)
  (hd:(x == ("__debug__":Str))=false:=by decide):wpAny (model X.prog X.w) X.A (eval (.Name x pos) X.env) Q E s :=
 Calls.Name_function_global I.ok.kind hg (Calls.loadGlobal_global (by rw[I.ok.glob];exact I.mod.glob.keeps I.bk) hm h) hd
theorem gq {E:Value->Shared->Prop}{pins:List (Addr×Obj)}{s:Shared}{σ:St}{H:Hp}{x:Str}{u:Value}{pos:Pos}{Q:Value->Shared->Prop}(I:Inv X pins σ H s)(hg:Gl X x)(hm:X.mg x=none)(hv:bootBuiltins x=some u)(h:Q u s)
  (hn:x≠"__name__":=by decide) (hd:(x == ("__debug__":Str))=false:=by decide):wpAny (model X.prog X.w) X.A (eval (.Name x pos) X.env) Q E s:=by
 obtain⟨mb,h1,h2⟩:=I.mod.blt
 exact Calls.Name_function_global I.ok.kind hg (Calls.loadGlobal_builtin (by rw[I.ok.glob];exact I.mod.glob.keeps I.bk) hm (by rw[I.ok.blt];exact h1.keeps I.bk) ((h2 x hn).trans hv) h) hd
theorem sI {x:Str}{v:V}{u:Value}{pos:Pos}(hg:Gl X x)(hm:X.mg x=some u)(r:RelV v u)(hd:(x == ("__debug__":Str))=false:=by decide):PE X (.Name x pos) (tC v) :=
 fun _ _ _ H _ I h=>cU I hg hm ⟨v,H,I,r,h⟩ hd
theorem rL {x:Str}{v:V}{u:Value}{pos:Pos}(hg:Gl X x)(hm:X.mg x=none)(hv:bootBuiltins x=some u)(r:RelV v u)(hn:x≠"__name__":=by decide)(hd:(x == ("__debug__":Str))=false:=by decide):PE X (.Name x pos) (tC v) :=
 fun _ _ _ H _ I h=>gq I hg hm hv ⟨v,H,I,r,h⟩ hn hd
variable {a b:Expr}{ta tb:TE}{pos:Pos}
def tB (t:TE):TT:=fun σ H Q=>t σ H fun x H1=>∃c,x=.bl c/\Q c H1
theorem wj {e:Expr}{t:TE}(h:PE X e t)(he:∀whole,isTrue e X.env whole=(do let v<-whole;standAt e.pos;holding [v] (truthy v)):=by intro _;rfl):PT X e (tB t):=by
 intro pins s σ H Q I hw
 refine isTrue_plain (aS (h pins s σ H _ I hw) fun v s1 ⟨x,H1,I1,r1,q1⟩=>?_) (he _)
 obtain⟨d,rfl,q⟩:=q1
 cases r1
 exact wpAny_truthy_bool ⟨H1,I1,q⟩
variable {tA tB':TT}{rest:List Expr}
def yp (t u:TT):TT:=fun σ H Q=>t σ H fun c H1=>if c=true then u σ H1 Q else Q false H1
def zo (t u:TT):TT:=fun σ H Q=>t σ H fun c H1=>if c=true then Q true H1 else u σ H1 Q
def wU (t:TT):TT:=fun σ H Q=>t σ H fun c H1=>Q (!c) H1
theorem qR (ha:PT X a tA):PW X (.BoolOp .And [a] pos) tA:=by
 intro wh pins s σ H Q I h
 refine isTrue_and (aS (ha pins s σ H Q I h) fun c s1 e=>?_)
 cases c with
 | true=>exact isTrue_and_nil e
 | false=>exact e
theorem vX (ha:PT X a tA):PW X (.BoolOp .Or [a] pos) tA:=by
 intro wh pins s σ H Q I h
 refine isTrue_or (aS (ha pins s σ H Q I h) fun c s1 e=>?_)
 cases c with
 | false=>exact isTrue_or_nil e
 | true=>exact e
theorem vK (ha:PT X a tA)(hb:PW X (.BoolOp .And (b::rest) pos) tB'):PW X (.BoolOp .And (a::b::rest) pos) (yp tA tB'):=by
 intro wh pins s σ H Q I h
 refine isTrue_and (aS (ha pins s σ H _ I h) fun c s1 ⟨H1,I1,q1⟩=>?_)
 cases c with
 | true=>exact hb wh pins s1 σ H1 Q I1 q1
 | false=>exact⟨H1,I1,q1⟩
theorem xI (ha:PT X a tA)(hb:PW X (.BoolOp .Or (b::rest) pos) tB'):PW X (.BoolOp .Or (a::b::rest) pos) (zo tA tB'):=by
 intro wh pins s σ H Q I h
 refine isTrue_or (aS (ha pins s σ H _ I h) fun c s1 ⟨H1,I1,q1⟩=>?_)
 cases c with
 | true=>exact⟨H1,I1,q1⟩
 | false=>exact hb wh pins s1 σ H1 Q I1 q1
theorem vy (ha:PT X a tA):PT X (.UnaryOp .Not a pos) (wU tA):=by
 intro pins s σ H Q I h
 exact isTrue_not (ha pins s σ H (fun c H1=>Q (!c) H1) I h)
def qh (ta tb:TE):TE:=fun σ H Q=>ta σ H fun x H1=>∃c,x=.bl c/\if c=true then tb σ H1 Q else Q (.bl false) H1
def pH (ta:TE):TE:=fun σ H Q=>ta σ H fun x H1=>∃c,x=.bl c/\Q (.bl (!c)) H1
theorem u1 {op}{t:TE}(h:PE X a t):PE X (.BoolOp op [a] pos) t:=fun pins s σ H Q I hw=>BoolOp_one (h pins s σ H Q I hw)
theorem vf (ha:PE X a ta)(hb:PE X (.BoolOp .And (b::rest) pos) tb):PE X (.BoolOp .And (a::b::rest) pos) (qh ta tb):=by
 intro pins s σ H Q I h
 refine BoolOp_and (aS (ha pins s σ H _ I h) fun v s1 ⟨x,H1,I1,r1,q1⟩=>?_)
 obtain⟨c,rfl,q1⟩:=q1
 cases r1
 refine wpAny_truthy_bool ?_
 cases c with
 | true=>exact hb pins s1 σ H1 Q I1 q1
 | false=>exact⟨.bl false,H1,I1,rfl,q1⟩
theorem vp (ha:PE X a ta):PE X (.UnaryOp .Not a pos) (pH ta):=by
 intro pins s σ H Q I h
 refine UnaryOp_ (aS (ha pins s σ H _ I h) fun v s1 ⟨x,H1,I1,r1,q1⟩=>?_)
 obtain⟨c,rfl,q1⟩:=q1
 cases r1
 exact not_of (wpAny_truthy_bool ⟨.bl (!c),H1,I1,rfl,q1⟩)
end
end L2
namespace L2
open PySem PySem.Spec PyProof.Rows
def SqL (K:PySem.W.Frag)(H:Hp)(a:Addr)(xs:List V):Prop :=
 Rd H a (.lst xs) \/
  ∃(o:Obj) (its:Array Value) (n:Nat),K.lookup a=some o/\o.cls=.type "list"/\o.dict=none/\o.data=.seq its n/\its.size≤sizeLine/\Vals xs its.toList
def SqT (K:PySem.W.Frag)(H:Hp)(a:Addr)(xs:List V):Prop :=
 Rd H a (.tup xs) \/
  ∃(o:Obj) (its:Array Value) (n:Nat),K.lookup a=some o/\o.cls=.type "tuple"/\o.data=.seq its n/\its.size≤sizeLine/\Vals xs its.toList
def yW:Value->Option V
 | .none=>some .non
 | .bool b=>some (.bl b)
 | .int i _=>some (.int i)
 | .str x _=>some (.str x)
 | .bytes b _=>some (.byt b)
 | .float b _=>some (.flt b)
 | .ref a=>some (.ref a)
 | .type n=>some (.ty n)
 | _=>none
theorem RelV.abs {x:V}{u:Value}(r:RelV x u):yW u=some x:=by
 cases x with
 | non=>cases r;rfl
 | bl _=>cases r;rfl
 | int _=>obtain⟨t,rfl⟩:=r;rfl
 | str _=>obtain⟨t,rfl⟩:=r;rfl
 | byt _=>obtain⟨t,rfl⟩:=r;rfl
 | flt _=>obtain⟨t,rfl⟩:=r;rfl
 | ref _=>cases r;rfl
 | ty _=>cases r;rfl
theorem RelV.inj {x y:V}{u:Value}(r:RelV x u)(q:RelV y u):x=y:=Option.some.inj (r.abs.symm.trans q.abs)
theorem Vals.inj:∀{xs ys:List V} {us:List Value},Vals xs us->Vals ys us->xs=ys
 | _,_,_,.nil,.nil=>rfl
 | _,_,_,.cons r t,.cons r' t'=>by rw[r.inj r',Vals.inj t t']
section
variable {X:Cx}{pins:List (Addr×Obj)}{σ:St}{H:Hp}{s:Shared}{a:Addr}{xs ys:List V}
theorem SqL.of {K:PySem.W.Frag}(h:H a=some (.lst xs)):SqL K H a xs:=.inl (.inl h)
theorem SqT.of {K:PySem.W.Frag}(h:H a=some (.tup xs)):SqT K H a xs:=.inl (.inl h)
theorem Inv.list (I:Inv X pins σ H s)(h:SqL X.K H a xs):∃its:List Value,Vals xs its/\PlainL s.heap a its.toArray/\xs.length≤sizeLine:=by
 rcases h with h | ⟨o,its,n,hk,hc,hd,hs,hz,r⟩
 ·obtain⟨z,its,n,r,e⟩:=h.ok I.hok
  exact⟨its,r,⟨_,n,e,rfl,rfl,rfl⟩,z⟩
 ·refine⟨its.toList,r,⟨o,n,I.kIn a o hk,hc,hd,by simpa using hs⟩,?_⟩
  have e:=r.length
  simp only[Array.length_toList]at e
  omega
theorem Inv.tuple (I:Inv X pins σ H s)(h:SqT X.K H a xs):∃its:List Value,Vals xs its/\IsTup s.heap a its.toArray/\xs.length≤sizeLine:=by
 rcases h with h | ⟨o,its,n,hk,hc,hs,hz,r⟩
 ·obtain⟨z,its,r,p⟩:=h.ok I.hok
  exact⟨its,r,p,z⟩
 ·refine⟨its.toList,r,⟨o,I.kIn a o hk,hc,n,by simpa using hs⟩,?_⟩
  have e:=r.length
  simp only[Array.length_toList]at e
  omega
theorem Inv.list_inj (I:Inv X pins σ H s)(h:SqL X.K H a xs)(h':SqL X.K H a ys):xs=ys:=by
 obtain⟨its,r,⟨o,n,e,_,_,d⟩,_⟩:=I.list h
 obtain⟨its',r',⟨o',n',e',_,_,d'⟩,_⟩:=I.list h'
 rw[e]at e';cases e'
 rw[d]at d'
 injection d' with d1 _
 have:its=its':=by simpa using congrArg Array.toList d1
 subst this
 exact r.inj r'
theorem Inv.tuple_inj (I:Inv X pins σ H s)(h:SqT X.K H a xs)(h':SqT X.K H a ys):xs=ys:=by
 obtain⟨its,r,⟨o,e,_,n,d⟩,_⟩:=I.tuple h
 obtain⟨its',r',⟨o',e',_,n',d'⟩,_⟩:=I.tuple h'
 rw[e]at e';cases e'
 rw[d]at d'
 injection d' with d1 _
 have:its=its':=by simpa using congrArg Array.toList d1
 subst this
 exact r.inj r'
end
abbrev Cx.wish (X:Cx)(E:Value->Shared->Prop):Cx:={ X with xe:=E }
abbrev Cx.nox (X:Cx):Cx:=X.wish fun _ _=>False
theorem Cx.Ok.wish {X:Cx}(ok:X.Ok)(E:Value->Shared->Prop):(X.wish E).Ok :=
 ⟨ok.mod,ok.kind,ok.glob,ok.blt,ok.above,ok.inj,ok.has,ok.cab,ok.hd,ok.frames,ok.stk,ok.exf,ok.bs,ok.bsz,ok.noex,ok.exfs,ok.funs,ok.frf⟩
theorem Cx.Ok.unwish {X:Cx}{E:Value->Shared->Prop}(ok:(X.wish E).Ok):X.Ok :=
 ⟨ok.mod,ok.kind,ok.glob,ok.blt,ok.above,ok.inj,ok.has,ok.cab,ok.hd,ok.frames,ok.stk,ok.exf,ok.bs,ok.bsz,ok.noex,ok.exfs,ok.funs,ok.frf⟩
section
variable {X:Cx}{pins:List (Addr×Obj)}{σ:St}{H:Hp}{s:Shared}{E:Value->Shared->Prop}
theorem Inv.wish (I:Inv X pins σ H s)(E:Value->Shared->Prop):Inv (X.wish E) pins σ H s:=⟨I.ok.wish E,I.os,I.bare,I.base,I.loc,I.cell,I.free,I.freeC,I.pin,I.hok,I.len⟩
theorem Inv.unwish (I:Inv (X.wish E) pins σ H s):Inv X pins σ H s:=⟨I.ok.unwish,I.os,I.bare,I.base,I.loc,I.cell,I.free,I.freeC,I.pin,I.hok,I.len⟩
theorem SP.unwish {D:gP}{f:Flow}{s':Shared}(h:SP (X.wish E) pins D f s'):SP X pins D f s':=by
 cases f with
 | next=>obtain⟨σ',H',I,q⟩:=h;exact⟨σ',H',I.unwish,q⟩
 | brk=>obtain⟨σ',H',I,q⟩:=h;exact⟨σ',H',I.unwish,q⟩
 | cont=>obtain⟨σ',H',I,q⟩:=h;exact⟨σ',H',I.unwish,q⟩
 | ret u=>obtain⟨v,σ',H',I,r,q⟩:=h;exact⟨v,σ',H',I.unwish,r,q⟩
theorem PSs.nox {st:List Stmt}{t:TS}(h:PSs X.nox st t):PSs X st t:=fun pins s σ H D I hw =>
 wpAny_mono (h pins s σ H D (I.wish _) hw) (fun _ _ q=>q.unwish) fun _ _ z=>False.elim z
end
section
variable {X:Cx}{st:Stmt}{rest:List Stmt}{t u:TS}{e:Expr}{te:TE}{pos:Pos}
def tU:TS:=fun D σ H=>D.nx σ H
def yr (t u:TS):TS:=fun D σ H=>t { D with nx:=u D } σ H
theorem sf:PSs X [] tU:=fun _ _ σ H _ I h=>wpAny_execs_nil ⟨σ,H,I,h⟩
theorem pO (h1:PS X st t)(h2:PSs X rest u):PSs X (st::rest) (yr t u):=by
 intro pins s σ H D I h
 refine wpAny_execs_cons (aS (h1 pins s σ H { D with nx:=u D } I h) fun f s1 q=>?_)
 cases f with
 | next =>
  obtain⟨σ',H',I',q⟩:=q
  exact h2 pins s1 σ' H' D I' q
 | ret v=>exact q
 | brk=>exact q
 | cont=>exact q
theorem tD (h1:PS X st t):PSs X [st] t:=by
 intro pins s σ H D I h
 refine wpAny_execs_cons (aS (h1 pins s σ H D I h) fun f s1 q=>?_)
 cases f with
 | next=>exact wpAny_execs_nil q
 | ret v=>exact q
 | brk=>exact q
 | cont=>exact q
theorem Inv.quiet {pins:List (Addr×Obj)}{σ:St}{H:Hp}{s:Shared}(I:Inv X pins σ H s):interactive X.env=false:=by simp[interactive,I.ok.kind]
def qG (te:TE):TS:=fun D σ H=>te σ H fun _ H1=>D.nx σ H1
theorem rR (he:PE X e te)(hs:swapsWith e none pos.line X.env=pure false:=by rfl):PS X (.Expr e pos) (qG te):=by
 intro pins s σ H D I h
 exact wpAny_Expr_any (aS (he pins s σ H _ I h) fun v s1 ⟨x,H1,I1,r1,q1⟩=>⟨σ,H1,I1,q1⟩) I.quiet hs
def xF (te:TE):TS:=fun D σ H=>te σ H D.rt
theorem u2 (he:PE X e te):PS X (.Return (some e) pos) (xF te):=by
 intro pins s σ H D I h
 exact wpAny_Return_some (aS (he pins s σ H _ I h) fun v s1 ⟨x,H1,I1,r1,q1⟩=>⟨x,σ,H1,I1,r1,q1⟩)
def yc (c:TT)(t u:TS):TS:=fun D σ H=>c σ H fun b H1=>if b=true then t D σ H1 else u D σ H1
theorem yg {c:Expr}{a b:List Stmt}{tc:TT}(hc:PT X c tc)(ha:PSs X a t)(hb:PSs X b u):PS X (.If c a b pos) (yc tc t u):=by
 intro pins s σ H D I h
 refine wpAny_If (aS (hc pins s σ H _ I h) fun d s1 ⟨H1,I1,q1⟩=>?_)
 cases d with
 | true=>exact ha pins s1 σ H1 D I1 q1
 | false=>exact hb pins s1 σ H1 D I1 q1
end
abbrev TG:=V->St->Hp->(St->Hp->Prop)->Prop
abbrev nK:=List V->St->Hp->(St->Hp->Prop)->Prop
def PG (X:Cx)(target:Expr)(t:TG):Prop :=
 ∀(pins:List (Addr×Obj)) (s:Shared) (σ:St) (H:Hp) (v:V) (u:Value) (Q:St->Hp->Prop),Inv X pins σ H s->RelV v u->t v σ H Q ->
  wpAny (model X.prog X.w) X.A (assign target X.env u) (fun _ s'=>∃σ' H',Inv X pins σ' H' s'/\Q σ' H') X.xe s
def wH (X:Cx)(ts:List Expr)(t:nK):Prop :=
 ∀(pins:List (Addr×Obj)) (s:Shared) (σ:St) (H:Hp) (vs:List V) (us:List Value) (Q:St->Hp->Prop),Inv X pins σ H s->Vals vs us->t vs σ H Q ->
  wpAny (model X.prog X.w) X.A (assignInOrder ((assignEach ts X.env).map (·.2)) us) (fun _ s'=>∃σ' H',Inv X pins σ' H' s'/\Q σ' H') X.xe s
abbrev vw:=V->V->V->Hp->(Hp->Prop)->Prop
def xQ (X:Cx)(t:vw):Prop :=
 ∀(pins:List (Addr×Obj)) (s:Shared) (σ:St) (H:Hp) (o i v:V) (ov iv u:Value) (Q:Hp->Prop),Inv X pins σ H s->RelV o ov->RelV i iv->RelV v u->t o i v H Q ->
  wpAny (model X.prog X.w) X.A (setItem ov iv u) (fun _ s'=>∃H',Inv X pins σ H' s'/\Q H') X.xe s
abbrev uF:=V->V->Hp->VK->Prop
def xU (X:Cx)(op:Operator)(t:uF):Prop :=
 ∀(pins:List (Addr×Obj)) (s:Shared) (σ:St) (H:Hp) (x y:V) (v u:Value) (Q:VK),Inv X pins σ H s->RelV x v->RelV y u->t x y H Q ->
  wpAny (model X.prog X.w) X.A (inplaceOp op v u) (EP X pins σ Q) X.xe s
section
variable {X:Cx}{pos:Pos}
def lz (i:Nat):TG:=fun v σ H Q=>Q (σ.set i (some v)) H
theorem qQ {i:Nat}{x:Str}(hN:X.N.Nodup)(hi:X.N[i]?=some x)(hx:pM X.env.scope x)(hf:X.fn x=true\/X.env.scope.names.lookup x=some .local:=by first | exact .inl rfl | exact .inr rfl | assumption):PG X (.Name x pos) (lz i):=by
 intro pins s σ H v u Q I r h
 exact wpAny_assign_Name (cb I hN hi hx r (fun s' I'=>⟨_,H,I',h⟩) hf)
def xS:nK:=fun vs σ H Q=>vs=[]/\Q σ H
def ul (t:TG)(u:nK):nK:=fun vs σ H Q=>∃v r,vs=v::r/\t v σ H fun σ' H'=>u r σ' H' Q
theorem rO:wH X [] xS:=by
 intro pins s σ H vs us Q I r h
 obtain⟨e,h⟩:=h
 subst e
 cases r
 exact assignInOrder_nil ⟨σ,H,I,h⟩
theorem qI {e:Expr}{es:List Expr}{t:TG}{u:nK}(h1:PG X e t)(h2:wH X es u)
  (hs:(assignEach (e::es) X.env).map (·.2)=assign e X.env::(assignEach es X.env).map (·.2):=by rfl):wH X (e::es) (ul t u):=by
 intro pins s σ H vs us Q I r h
 obtain⟨v,vr,e1,h⟩:=h
 subst e1
 cases r with
 | cons r rr =>
  rw[hs]
  refine assignInOrder_cons (aS (h1 pins s σ H _ _ _ I r h) fun _ s1 ⟨σ1,H1,I1,q1⟩=>?_)
  exact h2 pins s1 σ1 H1 _ _ Q I1 rr q1
def wq (K:PySem.W.Frag)(n:Nat)(t:nK):TG:=fun v σ H Q=>∃a xs,v=.ref a/\SqT K H a xs/\xs.length=n/\t xs σ H Q
theorem uP {es:List Expr}{k:Nat}{t:nK}{n:Nat}(hc:X.calm=true)(h:wH X es t)
  (hn:(assignEach es X.env).length=n:=by rfl) (hst:(assignEach es X.env).findIdx? (·.1)=none:=by rfl):PG X (.Tuple es k pos) (wq X.K n t):=by
 intro pins s σ H v u Q I r hw
 obtain⟨a,xs,e1,hq,hl,hw⟩:=hw
 subst e1
 cases r
 obtain⟨its,rv,ht,hz⟩:=I.tuple hq
 refine assign_Tuple_tuple (I.ok.hd hc) ht (by simp[hn,<-hl,rv.length]) hst fun h' hx=>?_
 have I1:Inv X pins σ H { s with heap:=h' }:=I.kept (t':=s.toks) fun b o e=>hx b o (Nat.ne_of_lt (Heap.lt_size e)) e
 exact h pins _ σ H xs _ Q I1 (by simpa using rv) hw
def gSub (to ti:TE)(t:vw):TG:=fun v σ H Q=>to σ H fun o H1=>ti σ H1 fun i H2=>t o i v H2 fun H3=>Q σ H3
theorem vI {o i:Expr}{to ti:TE}{t:vw}(ho:PE X o to)(hi:PE X i ti)(hs:xQ X t)
  (ha:∀v,assign (.Subscript o i pos) X.env v=(do
   let ov<-holding [v] (eval o X.env)
   let iv<-holding [v,ov] (eval i X.env)
   standAt pos
   holding [v,ov,iv] (setItem ov iv v)
   release [v,ov,iv] []):=by intro _;rfl):PG X (.Subscript o i pos) (gSub to ti t):=by
 intro pins s σ H v u Q I r h
 rw[ha]
 refine wpAny_bind (wpAny_holding (aS (ho pins s σ H _ I h) fun ov s1 ⟨x,H1,I1,r1,q1⟩=>?_))
 refine wpAny_bind (wpAny_holding (aS (hi pins s1 σ H1 _ I1 q1) fun iv s2 ⟨y,H2,I2,r2,q2⟩=>?_))
 refine wpAny_bind (wpAny_standAt (wpAny_bind (wpAny_holding (aS (hs pins s2 σ H2 x y v ov iv u _ I2 r1 r2 r q2) fun _ s3 ⟨H3,I3,q3⟩=>?_))))
 exact wpAny_release ⟨σ,H3,I3,q3⟩
def qO (te:TE)(g:TG):TS:=fun D σ H=>te σ H fun x H1=>g x σ H1 D.nx
theorem wz {tg e:Expr}{te:TE}{g:TG}(he:PE X e te)(hg:PG X tg g)(hs:swapsWithSole [tg] e pos.line X.env=pure false:=by rfl)(hw:swappedStores [tg] e X.env=pure none:=by rfl)
  (h1:(assignEach [tg] X.env).map (·.2)=[assign tg X.env]:=by rfl):PS X (.Assign [tg] e pos) (qO te g):=by
 intro pins s σ H D I h
 refine wpAny_Assign_stores (aS (he pins s σ H _ I h) fun v s1 ⟨x,H1,I1,r1,q1⟩=>?_) hs hw
 rw[h1]
 exact aS (hg pins s1 σ H1 x v _ I1 r1 q1) fun _ s2 q=>q
theorem uO {i:Nat}{x:Str}{e:Expr}{te:TE}{pos':Pos}(hN:X.N.Nodup)(hi:X.N[i]?=some x)(hx:pM X.env.scope x)(he:PE X e te)(hs:swapsWith e (some (.Name x pos')) pos.line X.env=pure false:=by rfl)(hf:X.fn x=true\/X.env.scope.names.lookup x=some .local:=by first | exact .inl rfl | exact .inr rfl | assumption) :
  PS X (.Assign [.Name x pos'] e pos) (qO te (lz i)):=by
 intro pins s σ H D I h
 refine wpAny_Assign_Name (aS (he pins s σ H _ I h) fun v s1 ⟨y,H1,I1,r1,q1⟩=>?_) hs
 exact cb I1 hN hi hx r1 (fun s2 I2=>⟨_,H1,I2,q1⟩) hf
def wV (i:Nat)(te:TE)(ti:uF):TS:=fun D σ H=>∃x,σ[i]?=some (some x)/\te σ H fun y H1=>ti x y H1 fun z H2=>D.nx (σ.set i (some z)) H2
theorem uL {i:Nat}{x:Str}{e:Expr}{te:TE}{op:Operator}{ti:uF}{pos':Pos}(hN:X.N.Nodup)(hi:X.N[i]?=some x)(hx:pM X.env.scope x)(he:PE X e te)(ho:xU X op ti)(hf:X.fn x=true\/X.env.scope.names.lookup x=some .local:=by first | exact .inl rfl | exact .inr rfl | assumption) :
  PS X (.AugAssign (.Name x pos') op e pos) (wV i te ti):=by
 intro pins s σ H D I h
 obtain⟨v,e1,h⟩:=h
 obtain⟨m,hn,hl⟩:=I.loc
 have vis:sx X.env.scope x:=by rcases hx with k | k;exact .inl k;exact .inr (.inl k)
 obtain⟨u,r,l⟩:=hl i x v hi e1 vis
 refine wpAny_AugAssign_Name ?_
 have go:wpAny (model X.prog X.w) X.A (eval e X.env) (fun w s₂=>wpAny (model X.prog X.w) X.A (inplaceOp op u w) (fun r s₃=>wpAny (model X.prog X.w) X.A (storeName X.env x r) (fun _=>SP X pins D .next) X.xe s₃) X.xe s₂) X.xe s:=by
  refine aS (he pins s σ H _ I h) fun w s1 ⟨y,H1,I1,r1,q1⟩=>?_
  refine aS (ho pins s1 σ H1 v y u w _ I1 r r1 q1) fun z s2 ⟨zv,H2,I2,r2,q2⟩=>?_
  exact cb I2 hN hi hx r2 (fun s3 I3=>⟨_,H2,I3,q2⟩) hf
 rcases l with⟨hk,hm⟩ | ⟨hk,c,hc,hcell⟩
 ·exact wpAny_loadName_local I.ok.kind hk hn hm go
 ·rcases hk with hk | hk
  ·exact wpAny_loadName_cell I.ok.kind hk hc hcell go
  ·rcases hx with k | k
   ·have:X.env.scope.names.lookup x=some .free:=hk
    rw[k]at this;cases this
   ·have:X.env.scope.names.lookup x=some .free:=hk
    rw[k]at this;cases this
end
section
variable {X:Cx}{pos:Pos}
def qp (c:TT)(tb:TS):TS:=fun D σ H=>∃W:Nat->St->Hp->Prop,(∃m,W m σ H)/\∀m σ H,W m σ H ->
 c σ H fun b H1=>if b=true then ∃N:St->Hp->Prop,(∀σ' H',N σ' H'->∃m',m'<m/\W m' σ' H')/\tb { D with nx:=N,ct:=N,bk:=D.nx } σ H1 else D.nx σ H1
theorem pb {c:Expr}{body:List Stmt}{tc:TT}{tb:TS}(hp:PassesOwn (model X.prog X.w) X.A X.env X.xe)(hc:PT X c tc)(hb:PSs X body tb):PS X (.While c body [] pos) (qp tc tb):=by
 intro pins s σ H D I h
 obtain⟨W,⟨m0,w0⟩,turn⟩:=h
 refine wpAny_While (codeAny_whileLoop (fun n s'=>∃σ' H',Inv X pins σ' H' s'/\W n σ' H') ?_ m0 ⟨σ,H,I,w0⟩)
 rintro n s1 ⟨σ1,H1,I1,w1⟩
 refine wpAny_passesOwn hp (aS (hc pins s1 σ1 H1 _ I1 (turn n σ1 H1 w1)) fun b s2 ⟨H2,I2,q2⟩=>?_)
 cases b with
 | true =>
  obtain⟨N,hN,q2⟩:=q2
  rw[if_pos rfl]
  refine wpAny_passesOwn hp (aS (hb pins s2 σ1 H2 _ I2 q2) fun f s3 q3=>?_)
  cases f with
  | next =>
   obtain⟨σ3,H3,I3,n3⟩:=q3
   obtain⟨m',hm,w3⟩:=hN σ3 H3 n3
   exact⟨m',hm,σ3,H3,I3,w3⟩
  | cont =>
   obtain⟨σ3,H3,I3,n3⟩:=q3
   obtain⟨m',hm,w3⟩:=hN σ3 H3 n3
   exact⟨m',hm,σ3,H3,I3,w3⟩
  | brk=>exact q3
  | ret v=>exact q3
 | false =>
  rw[if_neg Bool.false_ne_true]
  exact wpAny_execs_nil ⟨σ1,H2,I2,q2⟩
end
structure It where
 go:Nat->Hp->Prop
 yld:Nat->Hp->V->Hp->Prop
 stop:Nat->Hp->Prop
def fj (X:Cx)(pins:List (Addr×Obj))(H:Hp)(b:Addr):Prop :=
 H b=none/\b≠X.env.locals/\b∉X.fs/\(b∈X.ex\/X.s₀.heap.objs.size≤b)/\(∀x c,X.env.cells.lookup x=some c->c≠b)/\∀p∈X.pn++pins,p.1≠b
theorem Inv.fpOk {X:Cx}{pins:List (Addr×Obj)}{σ:St}{H H':Hp}{s:Shared}{b:Addr}(I:Inv X pins σ H s)(hb:s.heap.objs.size≤b)(hn:H' b=none):fj X pins H' b:=by
 refine⟨hn,Nat.ne_of_gt (Nat.lt_of_lt_of_le I.lt hb),I.nofs hb,.inr (Nat.le_trans I.sz hb),fun x c e z=>?_,fun p hp z=>?_⟩
 ·obtain⟨v,q⟩:=I.cell x c e
  exact absurd (Nat.lt_of_lt_of_le q.lt (by rw[z];exact hb)) (Nat.lt_irrefl _)
 ·exact absurd (Nat.lt_of_lt_of_le (Heap.lt_size (I.pin p hp).1) (by rw[z];exact hb)) (Nat.lt_irrefl _)
structure kJ (P:Program)(w:World)(K:PySem.W.Frag)(tg:Expr)(J:It)(fp:List Addr)(it:Addr)(tn:Nat->Heap->Prop):Prop where
 mem:it∈fp
 obj:∀i h,tn i h->∀b∈fp,∃o,h.get? b=some o/\∀v,o.data≠.cell v
 keep:∀i h h',tn i h->(∀b∈fp,∀o,h.get? b=some o->h'.get? b=some o)->tn i h'
 item:∀(X:Cx),X.prog=P->X.w=w->X.K=K->X.calm=true->∀(i:Nat) (pins:List (Addr×Obj)) (s:Shared) (σ:St) (H:Hp) (E:Value->Shared->Prop),Inv X pins σ H s->(∀b∈fp,fj X pins H b)->tn i s.heap->J.go i H ->
  wpAny (model P w) X.A (pyNext (.ref it)) (fun r s1=>∃u,r=some u /\
   wpAny (model P w) X.A (letOwnedTupleGo tg (.ref it) u) (fun _ s2=>∃x H',Inv X pins σ H' s2/\RelV x u/\J.yld i H x H'/\tn (i+1) s2.heap/\∀b∈fp,H' b=none) E s1) E s
 done:∀(X:Cx),X.prog=P->X.w=w->X.K=K->X.calm=true->∀(i:Nat) (pins:List (Addr×Obj)) (s:Shared) (σ:St) (H:Hp) (E:Value->Shared->Prop),Inv X pins σ H s->(∀b∈fp,fj X pins H b)->tn i s.heap->J.stop i H ->
  wpAny (model P w) X.A (pyNext (.ref it)) (fun r s1=>r=none/\Inv X pins σ H s1) E s
 self:∀(A:Around) (i:Nat) (s:Shared) (Q:Value->Shared->Prop) (E:Value->Shared->Prop),tn i s.heap->Q (.ref it) s->wpAny (model P w) A (pyIter (.ref it)) Q E s
abbrev TI:=St->Hp->(It->Hp->Prop)->Prop
def zm (X:Cx)(pins:List (Addr×Obj))(σ:St)(tg:Expr)(R:It->Hp->Prop)(itv:Value)(s2:Shared):Prop :=
 ∃(it:Addr) (fp:List Addr) (tn:Nat->Heap->Prop) (J:It) (H':Hp),itv=.ref it/\Inv X pins σ H' s2/\kJ X.prog X.w X.K tg J fp it tn/\tn 0 s2.heap/\(∀b∈fp,fj X pins H' b)/\R J H'
def PI (X:Cx)(tg iter:Expr)(wi:TI):Prop :=
 ∀(pins:List (Addr×Obj)) (s:Shared) (σ:St) (H:Hp) (R:It->Hp->Prop),Inv X pins σ H s->wi σ H R ->
  wpAny (model X.prog X.w) X.A (eval iter X.env) (fun v s1=>wpAny (model X.prog X.w) X.A (pyIter v) (zm X pins σ tg R) X.xe s1) X.xe s
theorem lP {M:Model}{A:Around}{E:Value->Shared->Prop}{s:Shared}{tg:Expr}{it:Addr}{u:Value}{o:Obj}{n:String}{vs:Array Value}{Q:Unit->Shared->Prop}(ho:s.heap.get? it=some o)(hc:o.cls=.type n)(hd:o.data=.fields vs)
  (hn:["enumerate","zip","dict_itemiterator","dict_reverseitemiterator","odict_iterator","itertools.zip_longest","itertools.pairwise"].contains n=false) (hQ:Q () s):wpAny M A (letOwnedTupleGo tg (.ref it) u) Q E s:=by
 unfold letOwnedTupleGo
 cases tg<;>first
  | exact wpAny_pure hQ
  | (cases u<;>first
    | exact wpAny_pure hQ
    | (refine wpAny_bind (wpAny_load ho ?_)
       rw[hc,hd]
       show wpAny M A (if (["enumerate","zip","dict_itemiterator","dict_reverseitemiterator","odict_iterator","itertools.zip_longest","itertools.pairwise"].contains n&&vs[0]? == some (rawInt _))=true then _ else _) Q E s
       rw[if_neg (by intro h;rw[hn,Bool.false_and]at h;cases h)]
       exact wpAny_pure hQ))
def wO (K:PySem.W.Frag)(a:Addr):It :=
 ⟨fun i H=>∃xs x,SqL K H a xs/\xs[i]?=some x,fun i H x H'=>H'=H/\∀xs,SqL K H a xs->xs[i]?=some x,fun i H=>∃xs,SqL K H a xs/\xs.length≤i⟩
def xg (K:PySem.W.Frag)(a:Addr):It :=
 ⟨fun i H=>∃xs x,SqT K H a xs/\xs[i]?=some x,fun i H x H'=>H'=H/\∀xs,SqT K H a xs->xs[i]?=some x,fun i H=>∃xs,SqT K H a xs/\xs.length≤i⟩
def tV (lo:Int)(n:Nat):It:=⟨fun i _=>i<n,fun i H x H'=>H'=H/\x=.int (lo+i),fun i _=>n≤i⟩
theorem nN {P:Program}{w:World}{K:PySem.W.Frag}{tg:Expr}(a it:Addr):kJ P w K tg (wO K a) [it] it (fun i h=>h.IsListIter it a i) where
 mem:=by simp
 obj:=fun i h st b hb=>by
  have e:b=it:=by simpa using hb
  subst e
  obtain⟨o,e,c,d⟩:=st
  exact⟨o,e,fun v z=>by rw[d]at z;cases z⟩
 keep:=fun i h h' st k=>st.at fun o e=>k it (by simp) o e
 item:=by
  intro X hP hw hK hc i pins s σ H E I hf st hg
  subst hP hw hK
  obtain⟨xs,x,hq,hx⟩:=hg
  obtain⟨its,rv,p,hz⟩:=I.list hq
  obtain⟨u,hu,ru⟩:=rv.get hx
  obtain⟨f0,f1,f2,f3,f4,f5⟩:=hf it (by simp)
  refine wpAny_pyNext_list_item st p.isList (x:=u) (by simpa using hu) fun h' st' sb=>?_
  have I1:Inv X pins σ H { s with heap:=h' }:=I.turned (t':=s.toks) (fun b o hb e=>(sb.2 b hb).trans e) f0 f1 f3 f4 f5
  obtain⟨o,e,c,d⟩:=id st'
  exact⟨u,rfl,lP (s:={ s with heap:=h' }) e c d (by decide) ⟨x,H,I1,ru,⟨rfl,fun ys hy=>by rw[I.list_inj hy hq];exact hx⟩,st',fun b hb=>(hf b hb).1⟩⟩
 done:=by
  intro X hP hw hK hc i pins s σ H E I hf st hg
  subst hP hw hK
  obtain⟨xs,hq,hx⟩:=hg
  obtain⟨its,rv,p,hz⟩:=I.list hq
  obtain⟨f0,f1,f2,f3,f4,f5⟩:=hf it (by simp)
  have hl:=rv.length
  exact wpAny_pyNext_list_end (I.ok.hd hc) st p.isList (by simp;omega) fun h' eb=>⟨rfl,I.turned (t':=s.toks) (fun b o hb e=>eb b o hb e) f0 f1 f3 f4 f5⟩
 self:=fun _ _ _ _ _ st h=>wpAny_pyIter_listiter st h
theorem kN {P:Program}{w:World}{K:PySem.W.Frag}{tg:Expr}(a it:Addr):kJ P w K tg (xg K a) [it] it (fun i h=>h.IsTupleIter it a i) where
 mem:=by simp
 obj:=fun i h st b hb=>by
  have e:b=it:=by simpa using hb
  subst e
  obtain⟨o,e,c,d⟩:=st
  exact⟨o,e,fun v z=>by rw[d]at z;cases z⟩
 keep:=fun i h h' st k=>st.at fun o e=>k it (by simp) o e
 item:=by
  intro X hP hw hK hc i pins s σ H E I hf st hg
  subst hP hw hK
  obtain⟨xs,x,hq,hx⟩:=hg
  obtain⟨its,rv,p,hz⟩:=I.tuple hq
  obtain⟨u,hu,ru⟩:=rv.get hx
  obtain⟨f0,f1,f2,f3,f4,f5⟩:=hf it (by simp)
  refine wpAny_pyNext_tuple_item st (show s.heap.IsTuple a its.toArray from p) (x:=u) (by simpa using hu) fun h' st' sb=>?_
  have I1:Inv X pins σ H { s with heap:=h' }:=I.turned (t':=s.toks) (fun b o hb e=>(sb.2 b hb).trans e) f0 f1 f3 f4 f5
  obtain⟨o,e,c,d⟩:=id st'
  exact⟨u,rfl,lP (s:={ s with heap:=h' }) e c d (by decide) ⟨x,H,I1,ru,⟨rfl,fun ys hy=>by rw[I.tuple_inj hy hq];exact hx⟩,st',fun b hb=>(hf b hb).1⟩⟩
 done:=by
  intro X hP hw hK hc i pins s σ H E I hf st hg
  subst hP hw hK
  obtain⟨xs,hq,hx⟩:=hg
  obtain⟨its,rv,p,hz⟩:=I.tuple hq
  obtain⟨f0,f1,f2,f3,f4,f5⟩:=hf it (by simp)
  have hl:=rv.length
  exact wpAny_pyNext_tuple_end (I.ok.hd hc) st (show s.heap.IsTuple a its.toArray from p) (by simp;omega) fun h' eb=>⟨rfl,I.turned (t':=s.toks) (fun b o hb e=>eb b o hb e) f0 f1 f3 f4 f5⟩
 self:=fun _ _ _ _ _ st h=>wpAny_pyIter_tupleiter st h
theorem kQ {P:Program}{w:World}{K:PySem.W.Frag}{tg:Expr}(it:Addr)(lo:Int)(n:Nat):kJ P w K tg (tV lo n) [it] it (fun i h=>IsRangeIter h it (lo+(i:Nat)*1) ((n:Int)-(i:Nat)) 1) where
 mem:=by simp
 obj:=fun i h st b hb=>by
  have e:b=it:=by simpa using hb
  subst e
  exact⟨_,st,fun v z=>by
   have z':Data.fields _=Data.cell v:=z
   cases z'⟩
 keep:=fun i h h' st k=>k it (by simp) _ st
 item:=by
  intro X hP hw hK hc i pins s σ H E I hf st hg
  subst hP hw hK
  obtain⟨f0,f1,f2,f3,f4,f5⟩:=hf it (by simp)
  have W:=Walks.range (prog:=X.prog) (w:=X.w) (I.ok.hd hc) it lo 1 n
  refine W.item i s _ _ hg st fun v h' tk hv st' kk=>?_
  obtain⟨t,rfl⟩:=hv
  have I1:Inv X pins σ H { s with heap:=h',toks:=tk }:=I.turned (fun b o hb e=>kk b o (by simpa using hb) e) f0 f1 f3 f4 f5
  refine⟨_,rfl,lP (s:={ s with heap:=h',toks:=tk }) (n:="range_iterator") st' rfl rfl (by decide) ⟨.int (lo+i),H,I1,⟨t,?_⟩,⟨rfl,rfl⟩,st',fun b hb=>(hf b hb).1⟩⟩
  rw[Int.mul_one]
 done:=by
  intro X hP hw hK hc i pins s σ H E I hf st hg
  subst hP hw hK
  obtain⟨f0,f1,f2,f3,f4,f5⟩:=hf it (by simp)
  exact wpAny_pyNext_range_end (I.ok.hd hc) st (by have:n≤i:=hg;omega) fun h' eb=>⟨rfl,I.turned (t':=s.toks) (fun b o hb e=>eb b o hb e) f0 f1 f3 f4 f5⟩
 self:=fun _ _ _ _ _ st h=>wpAny_pyIter_rangeiter st h
end L2
namespace L2
open PySem PySem.Spec PyProof.Rows
section
variable {X:Cx}{tg:Expr}
theorem pj {pins:List (Addr×Obj)}{σ:St}{H:Hp}{s:Shared}{R:It->Hp->Prop}{E:Value->Shared->Prop}{lo hi:Int}{t u v:Tok}{tk:Nat}(I:Inv X pins σ H s)(h1:-(2 ^ 62)≤lo)(h2:lo<2 ^ 62)(h3:-(2 ^ 62)≤hi)(h4:hi<2 ^ 62)
  (q:R (tV lo (hi-lo).toNat) H):wpAny (model X.prog X.w) X.A (pyIter (.ref s.heap.objs.size)) (zm X pins σ tg R) E { s with heap:=s.heap.push { cls:=.type "range",data:=.fields #[.int lo t,.int hi u,.int 1 v] },toks:=tk }:=by
 refine wpAny_pyIter_range (IsRange.new ..) (small_one h1 h2 h3 h4) ?_
 have I1:Inv X pins σ H { s with heap:=s.heap.push { cls:=.type "range",data:=.fields #[.int lo t,.int hi u,.int 1 v] },toks:=tk }:=I.kept fun b o e=>Heap.get?_push_of_some _ e
 refine⟨(s.heap.push { cls:=.type "range",data:=.fields #[.int lo t,.int hi u,.int 1 v] }).objs.size,[(s.heap.push { cls:=.type "range",data:=.fields #[.int lo t,.int hi u,.int 1 v] }).objs.size],_,_,H,rfl,
  I1.kept (t':=tk) fun b o e=>Heap.get?_push_of_some _ e,kQ _ lo (hi-lo).toNat,?_,fun b hb=>?_,q⟩
 ·have e1:lo+((0:Nat):Int)*1=lo:=by simp
  have e2:(((hi-lo).toNat:Nat):Int)-((0:Nat):Int)=Builtin.Range.rangeSize lo hi 1:=by rw[rangeSize_one];split<;>omega
  show IsRangeIter _ _ (lo+((0:Nat):Int)*1) ((((hi-lo).toNat:Nat):Int)-((0:Nat):Int)) 1
  rw[e1,e2]
  exact Heap.get?_push_size _ rfl
 ·have e:b=(s.heap.push { cls:=.type "range",data:=.fields #[.int lo t,.int hi u,.int 1 v] }).objs.size:=by simpa using hb
  subst e
  exact I1.fpOk (Nat.le_refl _) (I1.hok.fresh (Nat.le_refl _))
def o9 (ta:TA):TI:=fun σ H R=>ta σ H fun vs H1=>∃j:Int,vs=[.int j]/\-(2 ^ 62)≤j/\j<2 ^ 62/\R (tV 0 j.toNat) H1
theorem nO {a:Expr}{ta:TA}{p pos:Pos}(hg:Gl X "range")(hm:X.mg "range"=none)(ha:PA X [a] ta)(hs:starEach [a] X.env=[(false,eval a X.env)]:=by rfl):PI X tg (.Call (.Name "range" p) [a] [] pos) (o9 ta):=by
 intro pins s σ H R I h
 refine Call_ (gq I hg hm boot_range (PyProof.Rows.callWith_type1 (aS (ha pos pins s σ H _ I h) fun us s1 ⟨vs,H1,I1,r1,q1⟩=>?_) hs rfl))
 obtain⟨j,e,q1,q2,q⟩:=q1
 subst e
 cases r1 with
 | cons r rr =>
  cases rr
  obtain⟨t,rfl⟩:=r
  exact call_range_1 (pj I1 (by omega) (by omega) q1 q2 (by simpa using q))
def xh (wi:TI)(g:TG)(tb:TS):TS:=fun D σ H=>wi σ H fun J H1=>∃W:Nat->Nat->St->Hp->Prop,(∃m,W 0 m σ H1)/\∀i m σ H,W i m σ H ->
 (J.stop i H/\D.nx σ H)\/(J.go i H/\∃N:St->Hp->Prop,(∀σ' H',N σ' H'->∃m',m'<m/\W (i+1) m' σ' H')/\∀x H',J.yld i H x H'->g x σ H' fun σ2 H2=>tb { D with nx:=N,ct:=N,bk:=D.nx } σ2 H2)
def gI (fp:List Addr)(h:Heap):List (Addr×Obj):=fp.filterMap fun b=>(h.get? b).map fun o=>(b,o)
theorem cT {fp:List Addr}{h:Heap}{b:Addr}{o:Obj}(hb:b∈fp)(e:h.get? b=some o):(b,o)∈gI fp h:=List.mem_filterMap.mpr ⟨b,hb,by rw[e];rfl⟩
theorem nA {fp:List Addr}{h:Heap}{p:Addr×Obj}(hp:p∈gI fp h):p.1∈fp/\h.get? p.1=some p.2:=by
 obtain⟨b,hb,e⟩:=List.mem_filterMap.mp hp
 cases q:h.get? b with
 | none=>rw[q]at e;cases e
 | some o =>
  rw[q]at e
  have e':(b,o)=p:=Option.some.inj e
  subst e'
  exact⟨hb,q⟩
theorem Inv.pinned {pins:List (Addr×Obj)}{σ:St}{H:Hp}{s:Shared}{fp:List Addr}(I:Inv X pins σ H s)(hf:∀b∈fp,fj X pins H b)(ho:∀b∈fp,∃o,s.heap.get? b=some o/\∀v,o.data≠.cell v):Inv X (pins++gI fp s.heap) σ H s :=
 I.pins_of fun p hp=>(List.mem_append.mp hp).elim (fun z=>I.pin p (List.mem_append_right _ z)) fun z=>by
  obtain⟨hb,e⟩:=nA z
  obtain⟨f0,f1,f2,_⟩:=hf p.1 hb
  obtain⟨o,e',d⟩:=ho p.1 hb
  rw[e]at e';cases e'
  exact⟨e,f0,f1,f2,d⟩
theorem Inv.unpinned {pins pl:List (Addr×Obj)}{σ:St}{H:Hp}{s:Shared}(I:Inv X (pins++pl) σ H s):Inv X pins σ H s:=I.pins_of fun p hp=>I.pin p (List.mem_append_right _ (List.mem_append_left _ hp))
theorem wd {iter:Expr}{body:List Stmt}{wi:TI}{g:TG}{tb:TS}{pos:Pos}(hp:PassesOwn (model X.prog X.w) X.A X.env X.xe)(hc:X.calm=true)(hi:PI X tg iter wi)(hg:PG X tg g)(hb:PSs X body tb)
  (hs:∀x,foldedSetIterable iter X.env x=pure x:=by intro _;rfl):PS X (.For tg iter body [] pos) (xh wi g tb):=by
 intro pins s σ H D I h
 refine wpAny_For (aS (hi pins s σ H _ I h) fun v s1 h1=>aS h1 fun itv s2 h2=>?_) hs
 obtain⟨it,fp,tn,J,H2,e,I2,T,st2,f2,W,⟨m0,w0⟩,turn⟩:=h2
 subst e
 have stat:∀{H':Hp},(∀b∈fp,H' b=none)->∀b∈fp,fj X pins H' b:=fun hn b hb=>⟨hn b hb,(f2 b hb).2⟩
 refine codeAny_forLoop_any (fun n s'=>∃i σ' H',Inv X pins σ' H' s'/\tn i s'.heap/\(∀b∈fp,H' b=none)/\W i n σ' H') ?_ m0 ⟨0,σ,H2,I2,st2,fun b hb=>(f2 b hb).1,w0⟩
 rintro n s3 ⟨i,σ3,H3,I3,st3,fr3,w3⟩
 rcases turn i n σ3 H3 w3 with⟨stop,qn⟩ | ⟨go,N,hN,step⟩
 ·refine wpAny_passesOwn hp (aS (T.done X rfl rfl rfl hc i pins s3 σ3 H3 X.xe I3 (stat fr3) st3 stop) fun r s4 ⟨hr,I4⟩=>?_)
  subst hr
  exact wpAny_execs_nil ⟨σ3,H3,I4,qn⟩
 ·refine wpAny_passesOwn hp (aS (T.item X rfl rfl rfl hc i pins s3 σ3 H3 X.xe I3 (stat fr3) st3 go) fun r s4 ⟨u,hr,h4⟩=>?_)
  subst hr
  refine wpAny_passesOwn hp (aS h4 fun _ s5 ⟨x,H5,I5,r5,y5,st5,fr5⟩=>?_)
  have I5':=I5.pinned (stat fr5) (T.obj _ _ st5)
  refine wpAny_passesOwn hp (aS (hg _ s5 σ3 H5 x u _ I5' r5 (step x H5 y5)) fun _ s6 ⟨σ6,H6,I6,q6⟩=>?_)
  refine wpAny_passesOwn hp (aS (hb _ s6 σ6 H6 _ I6 q6) fun f s7 q7=>?_)
  have again:∀{σ7:St} {H7:Hp},Inv X (pins++gI fp s5.heap) σ7 H7 s7->N σ7 H7->∃m,m<n/\∃i σ' H',Inv X pins σ' H' s7/\tn i s7.heap/\(∀b∈fp,H' b=none)/\W i m σ' H':=fun {σ7 H7} I7 n7=>by
   obtain⟨m',hm,w7⟩:=hN σ7 H7 n7
   refine⟨m',hm,i+1,σ7,H7,I7.unpinned,T.keep _ _ _ st5 fun b hb o e=>(I7.pin (b,o) (List.mem_append_right _ (List.mem_append_right _ (cT hb e)))).1,fun b hb=>?_,w7⟩
   obtain⟨o,e,d⟩:=T.obj _ _ st5 b hb
   exact (I7.pin (b,o) (List.mem_append_right _ (List.mem_append_right _ (cT hb e)))).2.1
  cases f with
  | next=>obtain⟨σ7,H7,I7,n7⟩:=q7;exact again I7 n7
  | cont=>obtain⟨σ7,H7,I7,n7⟩:=q7;exact again I7 n7
  | brk=>obtain⟨σ7,H7,I7,q7⟩:=q7;exact⟨σ7,H7,I7.unpinned,q7⟩
  | ret v=>obtain⟨x7,σ7,H7,I7,r7,q7⟩:=q7;exact⟨x7,σ7,H7,I7.unpinned,r7,q7⟩
end
theorem jJ {K:PySem.W.Frag}{a:Addr}{xs:List V}{g:TG}{tb:TS}{D:gP}{σ:St}{H:Hp}(Pv:Nat->St->Hp->Prop)(h0:Pv 0 σ H)(hl:∀i σ H,i≤xs.length->Pv i σ H->SqL K H a xs)
  (hs:∀i x σ H,xs[i]?=some x->Pv i σ H->g x σ H fun σ2 H2=>tb { D with nx:=Pv (i+1),ct:=Pv (i+1),bk:=D.nx } σ2 H2) (hd:∀σ H,Pv xs.length σ H->D.nx σ H) :
  ∃W:Nat->Nat->St->Hp->Prop,(∃m,W 0 m σ H)/\∀i m σ H,W i m σ H ->
   ((wO K a).stop i H/\D.nx σ H)\/((wO K a).go i H/\∃N:St->Hp->Prop,(∀σ' H',N σ' H'->∃m',m'<m/\W (i+1) m' σ' H')/\∀x H',(wO K a).yld i H x H'->g x σ H' fun σ2 H2=>tb { D with nx:=N,ct:=N,bk:=D.nx } σ2 H2):=by
 refine⟨fun i m σ H=>m=xs.length-i/\i≤xs.length/\Pv i σ H,⟨xs.length,by simp,Nat.zero_le _,h0⟩,?_⟩
 rintro i m σ H ⟨rfl,hi,p⟩
 have q:=hl i σ H hi p
 by_cases hlt:i<xs.length
 ·refine .inr ⟨⟨xs,xs[i],q,by simp[hlt]⟩,Pv (i+1),fun σ' H' p'=>⟨xs.length-(i+1),by omega,rfl,hlt,p'⟩,fun x H' y=>?_⟩
  obtain⟨e,y⟩:=y
  subst e
  exact hs i x σ _ (y xs q) p
 ·have e:i=xs.length:=by omega
  subst e
  exact .inl ⟨⟨xs,q,Nat.le_refl _⟩,hd σ H p⟩
theorem tK {K:PySem.W.Frag}{a:Addr}{xs:List V}{g:TG}{tb:TS}{D:gP}{σ:St}{H:Hp}(Pv:Nat->St->Hp->Prop)(h0:Pv 0 σ H)(hl:∀i σ H,i≤xs.length->Pv i σ H->SqT K H a xs)
  (hs:∀i x σ H,xs[i]?=some x->Pv i σ H->g x σ H fun σ2 H2=>tb { D with nx:=Pv (i+1),ct:=Pv (i+1),bk:=D.nx } σ2 H2) (hd:∀σ H,Pv xs.length σ H->D.nx σ H) :
  ∃W:Nat->Nat->St->Hp->Prop,(∃m,W 0 m σ H)/\∀i m σ H,W i m σ H ->
   ((xg K a).stop i H/\D.nx σ H)\/((xg K a).go i H/\∃N:St->Hp->Prop,(∀σ' H',N σ' H'->∃m',m'<m/\W (i+1) m' σ' H')/\∀x H',(xg K a).yld i H x H'->g x σ H' fun σ2 H2=>tb { D with nx:=N,ct:=N,bk:=D.nx } σ2 H2):=by
 refine⟨fun i m σ H=>m=xs.length-i/\i≤xs.length/\Pv i σ H,⟨xs.length,by simp,Nat.zero_le _,h0⟩,?_⟩
 rintro i m σ H ⟨rfl,hi,p⟩
 have q:=hl i σ H hi p
 by_cases hlt:i<xs.length
 ·refine .inr ⟨⟨xs,xs[i],q,by simp[hlt]⟩,Pv (i+1),fun σ' H' p'=>⟨xs.length-(i+1),by omega,rfl,hlt,p'⟩,fun x H' y=>?_⟩
  obtain⟨e,y⟩:=y
  subst e
  exact hs i x σ _ (y xs q) p
 ·have e:i=xs.length:=by omega
  subst e
  exact .inl ⟨⟨xs,q,Nat.le_refl _⟩,hd σ H p⟩
theorem dP {lo:Int}{n:Nat}{g:TG}{tb:TS}{D:gP}{σ:St}{H:Hp}(Pv:Nat->St->Hp->Prop)(h0:Pv 0 σ H)
  (hs:∀i σ H,i<n->Pv i σ H->g (.int (lo+i)) σ H fun σ2 H2=>tb { D with nx:=Pv (i+1),ct:=Pv (i+1),bk:=D.nx } σ2 H2) (hd:∀σ H,Pv n σ H->D.nx σ H) :
  ∃W:Nat->Nat->St->Hp->Prop,(∃m,W 0 m σ H)/\∀i m σ H,W i m σ H ->
   ((tV lo n).stop i H/\D.nx σ H)\/((tV lo n).go i H/\∃N:St->Hp->Prop,(∀σ' H',N σ' H'->∃m',m'<m/\W (i+1) m' σ' H')/\∀x H',(tV lo n).yld i H x H'->g x σ H' fun σ2 H2=>tb { D with nx:=N,ct:=N,bk:=D.nx } σ2 H2):=by
 refine⟨fun i m σ H=>m=n-i/\i≤n/\Pv i σ H,⟨n,by simp,Nat.zero_le _,h0⟩,?_⟩
 rintro i m σ H ⟨rfl,hi,p⟩
 by_cases hlt:i<n
 ·refine .inr ⟨hlt,Pv (i+1),fun σ' H' p'=>⟨n-(i+1),by omega,rfl,hlt,p'⟩,fun x H' y=>?_⟩
  obtain⟨e,y⟩:=y
  subst e y
  exact hs i σ _ hlt p
 ·have e:i=n:=by omega
  subst e
  exact .inl ⟨Nat.le_refl _,hd σ H p⟩
end L2
namespace L2
open PySem PySem.Spec PyProof.Rows
abbrev R2:=V->V->Hp->VK->Prop
def bo (X:Cx)(f:Value->Value->Sem Value)(r:R2):Prop :=
 ∀(pins:List (Addr×Obj)) (s:Shared) (σ:St) (H:Hp) (x y:V) (v u:Value) (Q:VK),Inv X pins σ H s->RelV x v->RelV y u->r x y H Q ->
  wpAny (model X.prog X.w) X.A (f v u) (EP X pins σ Q) X.xe s
def yE (X:Cx)(f:Value->Sem Value)(r:V->Hp->VK->Prop):Prop :=
 ∀(pins:List (Addr×Obj)) (s:Shared) (σ:St) (H:Hp) (x:V) (v:Value) (Q:VK),Inv X pins σ H s->RelV x v->r x H Q ->
  wpAny (model X.prog X.w) X.A (f v) (EP X pins σ Q) X.xe s
def bU (X:Cx)(f:Value)(r:List V->Hp->VK->Prop):Prop :=
 ∀(pins:List (Addr×Obj)) (s:Shared) (σ:St) (H:Hp) (xs:List V) (us:List Value) (Q:VK),Inv X pins σ H s->Vals xs us->r xs H Q ->
  wpAny (model X.prog X.w) X.A (call f us) (EP X pins σ Q) X.xe s
def pf (r:R2)(ta tb:TE):TE:=fun σ H Q=>ta σ H fun x H1=>tb σ H1 fun y H2=>r x y H2 Q
def zk (r:V->Hp->VK->Prop)(ta:TE):TE:=fun σ H Q=>ta σ H fun x H1=>r x H1 Q
def rI (C:Int->Int->Prop)(g:Int->Int->V):R2:=fun x y H Q=>∃i j,x=.int i/\y=.int j/\C i j/\Q (g i j) H
def tN (g:Int->Int->V):R2:=fun x y H Q=>∃i j,x=.int i/\y=.int j/\Q (g i j) H
def rU (g:Int->V):V->Hp->VK->Prop:=fun x H Q=>∃i,x=.int i/\Q (g i) H
section
variable {X:Cx}{a b c:Expr}{ta tb tc:TE}{pos:Pos}
theorem uY (ha:PE X a ta)(hb:PE X b tb){pins:List (Addr×Obj)}{s:Shared}{σ:St}{H:Hp}{R:V->V->Hp->Prop}(I:Inv X pins σ H s)
  (h:ta σ H fun x H1=>tb σ H1 fun y H2=>R x y H2) {Q:Value->Shared->Prop} {f:Value->Value->Sem Value}
  (hf:∀v u s2 x y H2,Inv X pins σ H2 s2->RelV x v->RelV y u->R x y H2->wpAny (model X.prog X.w) X.A (f v u) Q X.xe s2) :
  wpAny (model X.prog X.w) X.A (eval a X.env) (fun v s₁=>wpAny (model X.prog X.w) X.A (eval b X.env) (fun u s₂=>wpAny (model X.prog X.w) X.A (f v u) Q X.xe s₂) X.xe s₁) X.xe s:=by
 refine aS (ha pins s σ H _ I h) fun v s1 ⟨x,H1,I1,r1,q1⟩=>?_
 refine aS (hb pins s1 σ H1 _ I1 q1) fun u s2 ⟨y,H2,I2,r2,q2⟩=>?_
 exact hf v u s2 x y H2 I2 r1 r2 q2
theorem yw {op:Operator}{r:R2}(ho:bo X (binaryOp op) r)(ha:PE X a ta)(hb:PE X b tb):PE X (.BinOp a op b pos) (pf r ta tb):=by
 intro pins s σ H Q I h
 exact wpAny_BinOp (uY ha hb I h fun v u s2 x y H2 I2 rx ry q=>ho pins s2 σ H2 x y v u Q I2 rx ry q)
theorem xm {op:UnaryOp}{r:V->Hp->VK->Prop}(ho:yE X (unaryOp op) r)(ha:PE X a ta):PE X (.UnaryOp op a pos) (zk r ta):=by
 intro pins s σ H Q I h
 exact UnaryOp_ (aS (ha pins s σ H _ I h) fun v s1 ⟨x,H1,I1,r1,q1⟩=>ho pins s1 σ H1 x v Q I1 r1 q1)
theorem yA {f:Value->Value->Sem Value}{C:Int->Int->Prop}{g:Int->Int->Int}
  (rule:∀(i j:Int) (t u:Tok) (s:Shared) (Q:Value->Shared->Prop) (E:Value->Shared->Prop),C i j->Q (.int (g i j) s.toks) { s with toks:=s.toks+1 }->wpAny (model X.prog X.w) X.A (f (.int i t) (.int j u)) Q E s) :
  bo X f (rI C fun i j=>.int (g i j)):=by
 intro pins s σ H x y v u Q I rx ry h
 obtain⟨i,j,rfl,rfl,hc,q⟩:=h
 obtain⟨t,rfl⟩:=rx
 obtain⟨t',rfl⟩:=ry
 exact rule i j t t' s _ _ hc ⟨.int (g i j),H,I.tok _,⟨_,rfl⟩,q⟩
theorem we {f:Value->Value->Sem Value}{g:Int->Int->Int}
  (rule:∀(i j:Int) (t u:Tok) (s:Shared) (Q:Value->Shared->Prop) (E:Value->Shared->Prop),Q (.int (g i j) s.toks) { s with toks:=s.toks+1 }->wpAny (model X.prog X.w) X.A (f (.int i t) (.int j u)) Q E s) :
  bo X f (tN fun i j=>.int (g i j)):=by
 intro pins s σ H x y v u Q I rx ry h
 obtain⟨i,j,rfl,rfl,q⟩:=h
 obtain⟨t,rfl⟩:=rx
 obtain⟨t',rfl⟩:=ry
 exact rule i j t t' s _ _ ⟨.int (g i j),H,I.tok _,⟨_,rfl⟩,q⟩
theorem qP {f:Value->Value->Sem Value}{g:Int->Int->Bool}
  (rule:∀(i j:Int) (t u:Tok) (s:Shared) (Q:Value->Shared->Prop) (E:Value->Shared->Prop),Q (.bool (g i j)) s->wpAny (model X.prog X.w) X.A (f (.int i t) (.int j u)) Q E s) :
  bo X f (tN fun i j=>.bl (g i j)):=by
 intro pins s σ H x y v u Q I rx ry h
 obtain⟨i,j,rfl,rfl,q⟩:=h
 obtain⟨t,rfl⟩:=rx
 obtain⟨t',rfl⟩:=ry
 exact rule i j t t' s _ _ ⟨.bl (g i j),H,I,rfl,q⟩
def yh (i j:Int):Prop:=0<j/\j<1073741824
def xp (i j:Int):Prop:=0≤j/\j≤1000000/\i.natAbs<2 ^ 64
def CMul (i j:Int):Prop:=(-(2 ^ 64)<i/\i<2 ^ 64)\/(-(2 ^ 64)<j/\j<2 ^ 64)
theorem CMul.ok {i j:Int}(h:CMul i j):IntMulOk i j:=by
 rcases h with⟨h1,h2⟩ | ⟨h1,h2⟩
 ·exact .of_left (intBits_le_64 h1 h2)
 ·exact .of_right (intBits_le_64 h1 h2)
theorem vA:bo X (binaryOp .Add) (tN fun i j=>.int (i+j)):=we fun _ _ _ _ _ _ _ q=>add_int q
theorem wn:bo X (binaryOp .Sub) (tN fun i j=>.int (i-j)):=we fun _ _ _ _ _ _ _ q=>sub_int q
theorem wf:bo X (binaryOp .Mult) (rI CMul fun i j=>.int (i*j)):=yA fun _ _ _ _ _ _ _ hc q=>mul_int q hc.ok
theorem sj:bo X (binaryOp .FloorDiv) (rI yh fun i j=>.int (i / j)):=yA fun i j _ _ _ _ _ hc q=>by
 have h1:(0:Int)<j:=hc.1
 have h2:j<1073741824:=hc.2
 exact floordiv_int (by omega) (by rw[Int.fdiv_eq_ediv_of_nonneg i (by omega)];exact q) (.inl (PyProof.noPylong_small (by omega)))
theorem wm:bo X (binaryOp .Mod) (rI (fun _ j=>0<j) fun i j=>.int (i % j)):=yA fun i j _ _ _ _ _ hc q=>by
 have h1:(0:Int)<j:=hc
 exact mod_int' (by omega) (by rw[Int.fmod_eq_emod_of_nonneg i (by omega)];exact q)
theorem uS:bo X (binaryOp .Pow) (rI xp fun i j=>.int (i ^ j.toNat)):=yA fun _ _ _ _ _ _ _ hc q=>pow_int_small hc.1 hc.2.1 hc.2.2 q
theorem rJ:bo X (inplaceOp .Add) (tN fun i j=>.int (i+j)):=we fun _ _ _ _ _ _ _ q=>iadd_int q
theorem zB {f:Value->Sem Value}{g:Int->Int}
  (rule:∀(i:Int) (t:Tok) (s:Shared) (Q:Value->Shared->Prop) (E:Value->Shared->Prop),Q (.int (g i) s.toks) { s with toks:=s.toks+1 }->wpAny (model X.prog X.w) X.A (f (.int i t)) Q E s) :
  yE X f (rU fun i=>.int (g i)):=by
 intro pins s σ H x v Q I rx h
 obtain⟨i,rfl,q⟩:=h
 obtain⟨t,rfl⟩:=rx
 exact rule i t s _ _ ⟨.int (g i),H,I.tok _,⟨_,rfl⟩,q⟩
theorem vC:yE X (unaryOp .USub) (rU fun i=>.int (-i)):=zB fun _ _ _ _ _ q=>neg_int q
end
def xX:V->V->Bool
 | .non,.non=>true | .non,.int _=>true | .int _,.non=>true | .non,.bl _=>true | .bl _,.non=>true | .non,.str _=>true | .str _,.non=>true
 | .int _,.int _=>true | .bl _,.bl _=>true | .str _,.str _=>true | .byt _,.byt _=>true
 | .int _,.str _=>true | .str _,.int _=>true | .bl _,.str _=>true | .str _,.bl _=>true
 | _,_=>false
def zt:R2:=fun x y H Q=>xX x y=true/\Q (.bl (decide (x=y))) H
def zq:R2:=fun x y H Q=>xX x y=true/\Q (.bl (!decide (x=y))) H
theorem lE {i j:Int}:decide (V.int i=V.int j)=(i == j):=by
 rw[Bool.eq_iff_iff]
 simp
theorem oU {i j:Bool}:decide (V.bl i=V.bl j)=(i == j):=by
 rw[Bool.eq_iff_iff]
 simp
theorem lL {i j:Str}:decide (V.str i=V.str j)=(i == j):=by
 rw[Bool.eq_iff_iff]
 simp
theorem lH {i j:Array UInt8}:decide (V.byt i=V.byt j)=(i.toList == j.toList):=by
 rw[Bool.eq_iff_iff]
 cases i
 cases j
 simp
section
variable {X:Cx}{a b c:Expr}{ta tb tc:TE}{pos:Pos}
theorem ax {pins:List (Addr×Obj)}{σ:St}{H:Hp}{s:Shared}{Q:VK}{k k':Bool}(I:Inv X pins σ H s)(q:Q (.bl k) H)(e:k=k'):EP X pins σ Q (.bool k') s:=by
 subst e
 exact⟨.bl k,H,I,rfl,q⟩
theorem qa:bo X (compareOp .Eq) zt:=by
 intro pins s σ H x y v u Q I rx ry h
 obtain⟨hs,q⟩:=h
 cases x with
 | non =>
  cases rx
  cases y with
  | non=>cases ry;exact PySem.EqNone.eq_none_none (ax I q (by simp))
  | bl j=>cases ry;exact PySem.EqNone.eq_none_bool (ax I q (by simp))
  | int j=>obtain⟨t',rfl⟩:=ry;exact PySem.EqNone.eq_none_int (ax I q (by simp))
  | str j=>obtain⟨t',rfl⟩:=ry;exact PySem.EqNone.eq_none_str (ax I q (by simp))
  | _=>exact absurd (show false=true from hs) Bool.false_ne_true
 | bl i =>
  cases rx
  cases y with
  | non=>cases ry;exact PySem.EqNone.eq_bool_none (ax I q (by simp))
  | bl j=>cases ry;exact eq_bool (ax I q oU)
  | str j=>obtain⟨t',rfl⟩:=ry;exact PySem.EqMixed.eq_bool_str (ax I q (by simp))
  | _=>exact absurd (show false=true from hs) Bool.false_ne_true
 | int i =>
  obtain⟨t,rfl⟩:=rx
  cases y with
  | non=>cases ry;exact PySem.EqNone.eq_int_none (ax I q (by simp))
  | int j=>obtain⟨t',rfl⟩:=ry;exact eq_int (ax I q lE)
  | str j=>obtain⟨t',rfl⟩:=ry;exact PySem.EqMixed.eq_int_str (ax I q (by simp))
  | _=>exact absurd (show false=true from hs) Bool.false_ne_true
 | str i =>
  obtain⟨t,rfl⟩:=rx
  cases y with
  | non=>cases ry;exact PySem.EqNone.eq_str_none (ax I q (by simp))
  | bl j=>cases ry;exact PySem.EqMixed.eq_str_bool (ax I q (by simp))
  | int j=>obtain⟨t',rfl⟩:=ry;exact PySem.EqMixed.eq_str_int (ax I q (by simp))
  | str j=>obtain⟨t',rfl⟩:=ry;exact eq_str (ax I q lL)
  | _=>exact absurd (show false=true from hs) Bool.false_ne_true
 | byt i =>
  obtain⟨t,rfl⟩:=rx
  cases y with
  | byt j=>obtain⟨t',rfl⟩:=ry;exact PySem.W.eq_bytes (ax I q lH)
  | _=>exact absurd (show false=true from hs) Bool.false_ne_true
 | _=>cases y<;>exact absurd (show false=true from hs) Bool.false_ne_true
theorem qj:bo X (compareOp .NotEq) zq:=by
 intro pins s σ H x y v u Q I rx ry h
 obtain⟨hs,q⟩:=h
 cases x with
 | non =>
  cases rx
  cases y with
  | non=>cases ry;exact PySem.EqNone.ne_none_none (ax I q (by simp))
  | bl j=>cases ry;exact PySem.EqNone.ne_none_bool (ax I q (by simp))
  | int j=>obtain⟨t',rfl⟩:=ry;exact PySem.EqNone.ne_none_int (ax I q (by simp))
  | str j=>obtain⟨t',rfl⟩:=ry;exact PySem.EqNone.ne_none_str (ax I q (by simp))
  | _=>exact absurd (show false=true from hs) Bool.false_ne_true
 | bl i =>
  cases rx
  cases y with
  | non=>cases ry;exact PySem.EqNone.ne_bool_none (ax I q (by simp))
  | bl j=>cases ry;exact ne_bool (ax I q (congrArg not oU))
  | str j=>obtain⟨t',rfl⟩:=ry;exact PySem.EqMixed.ne_bool_str (ax I q (by simp))
  | _=>exact absurd (show false=true from hs) Bool.false_ne_true
 | int i =>
  obtain⟨t,rfl⟩:=rx
  cases y with
  | non=>cases ry;exact PySem.EqNone.ne_int_none (ax I q (by simp))
  | int j=>obtain⟨t',rfl⟩:=ry;exact ne_int (ax I q (congrArg not lE))
  | str j=>obtain⟨t',rfl⟩:=ry;exact PySem.EqMixed.ne_int_str (ax I q (by simp))
  | _=>exact absurd (show false=true from hs) Bool.false_ne_true
 | str i =>
  obtain⟨t,rfl⟩:=rx
  cases y with
  | non=>cases ry;exact PySem.EqNone.ne_str_none (ax I q (by simp))
  | bl j=>cases ry;exact PySem.EqMixed.ne_str_bool (ax I q (by simp))
  | int j=>obtain⟨t',rfl⟩:=ry;exact PySem.EqMixed.ne_str_int (ax I q (by simp))
  | str j=>obtain⟨t',rfl⟩:=ry;exact ne_str (ax I q (congrArg not lL))
  | _=>exact absurd (show false=true from hs) Bool.false_ne_true
 | byt i =>
  obtain⟨t,rfl⟩:=rx
  cases y with
  | byt j=>obtain⟨t',rfl⟩:=ry;exact PySem.W.ne_bytes (ax I q (congrArg not lH))
  | _=>exact absurd (show false=true from hs) Bool.false_ne_true
 | _=>cases y<;>exact absurd (show false=true from hs) Bool.false_ne_true
theorem xB:bo X (compareOp .Lt) (tN fun i j=>.bl (decide (i<j))):=qP fun _ _ _ _ _ _ _ q=>lt_int q
theorem yd:bo X (compareOp .LtE) (tN fun i j=>.bl (decide (i≤j))):=qP fun _ _ _ _ _ _ _ q=>le_int q
theorem wX:bo X (compareOp .Gt) (tN fun i j=>.bl (decide (j<i))):=qP fun _ _ _ _ _ _ _ q=>gt_int q
theorem xq:bo X (compareOp .GtE) (tN fun i j=>.bl (decide (j≤i))):=qP fun _ _ _ _ _ _ _ q=>ge_int q
theorem ms:bo X (compareOp .Lt) (fun x y H Q=>∃i j,x=.str i/\y=.str j/\Q (.bl (decide (i.cps.toList<j.cps.toList))) H):=by
 intro pins s σ H x y v u Q I rx ry h
 obtain⟨i,j,rfl,rfl,q⟩:=h
 obtain⟨t,rfl⟩:=rx
 obtain⟨t',rfl⟩:=ry
 exact lt_str (ax I q rfl)
theorem mB:bo X (compareOp .In) (fun x y H Q=>∃i j,x=.str i/\y=.str j/\Q (.bl (!(Builtin.Str.occurrences j i 0 j.length 1).isEmpty)) H):=by
 intro pins s σ H x y v u Q I rx ry h
 obtain⟨i,j,rfl,rfl,q⟩:=h
 obtain⟨t,rfl⟩:=rx
 obtain⟨t',rfl⟩:=ry
 exact in_str (ax I q rfl)
theorem wA:bo X (compareOp .Is) (fun x y H Q=>y=.non/\Q (.bl (decide (x=.non))) H):=by
 intro pins s σ H x y v u Q I rx ry h
 obtain⟨rfl,q⟩:=h
 cases ry
 refine is_none_gen (ax I q ?_)
 cases x<;>first
  | (cases rx;rfl)
  | (obtain⟨t,rfl⟩:=rx;rfl)
theorem si:bo X (compareOp .IsNot) (fun x y H Q=>y=.non/\Q (.bl (!decide (x=.non))) H):=by
 intro pins s σ H x y v u Q I rx ry h
 obtain⟨rfl,q⟩:=h
 cases ry
 refine isnot_none_gen (ax I q ?_)
 cases x<;>first
  | (cases rx;rfl)
  | (obtain⟨t,rfl⟩:=rx;rfl)
theorem kz (b:Expr){op:CmpOp}(h:op≠.In:=by decide)(h2:op≠.NotIn:=by decide):behindInMarks op b=false:=by
 have e1:(op == CmpOp.In)=false:=by cases op<;>first | rfl | exact absurd rfl h
 have e2:(op == CmpOp.NotIn)=false:=by cases op<;>first | rfl | exact absurd rfl h2
 cases b<;>simp[behindInMarks,e1,e2]
theorem rX {op:CmpOp}{r:R2}(ho:bo X (compareOp op) r)(ha:PE X a ta)(hb:PE X b tb)(hm:behindInMarks op b=false):PE X (.Compare a [op] [b] pos) (pf r ta tb):=by
 intro pins s σ H Q I h
 exact wpAny_Compare1 (uY ha hb I h fun v u s2 x y H2 I2 rx ry q=>ho pins s2 σ H2 x y v u Q I2 rx ry q) hm
def lD (t:TE):TT:=fun σ H Q=>t σ H fun x H'=>∃k,x=.bl k/\Q k H'
theorem sq {op:CmpOp}{r:R2}(ho:bo X (compareOp op) r)(ha:PE X a ta)(hb:PE X b tb)(hm:behindInMarks op b=false):PT X (.Compare a [op] [b] pos) (lD (pf r ta tb)):=by
 intro pins s σ H Q I h
 refine wpAny_isTrue_Compare1 (aS (ha pins s σ H _ I h) fun v s1 ⟨x,H1,I1,r1,q1⟩=>aS (hb pins s1 σ H1 _ I1 q1) fun u s2 ⟨y,H2,I2,r2,q2⟩ =>
  aS (ho pins s2 σ H2 x y v u _ I2 r1 r2 q2) fun c s3 ⟨z,H3,I3,r3,k,e,q3⟩=>?_) hm
 subst e
 cases r3
 exact wpAny_truthy_bool ⟨H3,I3,q3⟩
def iD (r r':R2)(ta tb tc:TE):TE:=fun σ H Q=>ta σ H fun x H1=>tb σ H1 fun y H2=>r x y H2 fun z H3=>∃k,z=.bl k /\
 (if k=true then tc σ H3 fun w' H4=>r' y w' H4 Q else Q (.bl false) H3)
theorem oK {op op':CmpOp}{r r':R2}(ho:bo X (compareOp op) r)(ho':bo X (compareOp op') r')(ha:PE X a ta)(hb:PE X b tb)(hc:PE X c tc)
  (hm:lastMarks [op,op'] [b,c]=false:=by with_unfolding_all rfl):PT X (.Compare a [op,op'] [b,c] pos) (lD (iD r r' ta tb tc)):=by
 intro pins s σ H Q I h
 refine isTrue_chain (aS (ha pins s σ H _ I h) fun v s1 ⟨x,H1,I1,r1,q1⟩=>test_link (aS (hb pins s1 σ H1 _ I1 q1) fun u s2 ⟨y,H2,I2,r2,q2⟩ =>
  aS (ho pins s2 σ H2 x y v u _ I2 r1 r2 q2) fun d s3 ⟨z,H3,I3,r3,k,e,q3⟩=>?_)) hm
 subst e
 cases r3
 refine wpAny_truthy_bool ?_
 cases k with
 | false =>
  obtain⟨k',e',q'⟩:=q3
  cases e'
  exact ite_ff ⟨H3,I3,q'⟩
 | true =>
  refine ite_tt (test_last (aS (hc pins s3 σ H3 _ I3 q3) fun w' s4 ⟨z',H4,I4,r4,q4⟩=>aS (ho' pins s4 σ H4 y z' u w' _ I4 r2 r4 q4) fun d' s5 ⟨z2,H5,I5,r5,k2,e2,q5⟩=>?_))
  subst e2
  cases r5
  exact wpAny_truthy_bool ⟨H5,I5,q5⟩
theorem eW:(sizeLine:Nat)<2 ^ 63:=by rw[sizeLine_eq];decide
theorem kq:bo X (binaryOp .Add) (fun x y H Q=>∃i j,x=.str i/\y=.str j/\i.length+j.length≤sizeLine/\Q (.str (i++j)) H):=by
 intro pins s σ H x y v u Q I rx ry h
 obtain⟨i,j,rfl,rfl,hz,q⟩:=h
 obtain⟨t,rfl⟩:=rx
 obtain⟨t',rfl⟩:=ry
 exact add_str (fun t' tk=>⟨.str (i++j),H,I.tok _,⟨_,rfl⟩,q⟩) hz
theorem jL:bo X (inplaceOp .Add) (fun x y H Q=>∃i j,x=.str i/\y=.str j/\i.length+j.length≤sizeLine/\Q (.str (i++j)) H):=by
 intro pins s σ H x y v u Q I rx ry h
 obtain⟨i,j,rfl,rfl,hz,q⟩:=h
 obtain⟨t,rfl⟩:=rx
 obtain⟨t',rfl⟩:=ry
 exact iadd_str (fun t' tk=>⟨.str (i++j),H,I.tok _,⟨_,rfl⟩,q⟩) hz
theorem eV {x:V}{us:List Value}(r:Vals [x] us):∃u,us=[u]/\RelV x u:=by
 cases r with
 | cons r1 r2=>cases r2;exact⟨_,rfl,r1⟩
theorem pQ {x y:V}{us:List Value}(r:Vals [x,y] us):∃u w',us=[u,w']/\RelV x u/\RelV y w':=by
 cases r with
 | cons r1 r2 =>
  cases r2 with
  | cons r3 r4=>cases r4;exact⟨_,_,rfl,r1,r3⟩
theorem iq:bU X (.type "int") (fun xs H Q=>(∃i,xs=[.int i]/\Q (.int i) H)\/∃k,xs=[.bl k]/\Q (.int (if k then 1 else 0)) H):=by
 intro pins s σ H xs us Q I r h
 rcases h with⟨i,rfl,q⟩ | ⟨k,rfl,q⟩
 ·obtain⟨u,rfl,t,rfl⟩:=eV r
  exact call_int_int ⟨.int i,H,I,⟨_,rfl⟩,q⟩
 ·obtain⟨u,rfl,r1⟩:=eV r
  cases r1
  exact call_int_bool ⟨.int (if k then 1 else 0),H,I.tok _,⟨_,rfl⟩,q⟩
end
end L2
namespace L2
open PySem PySem.Spec PyProof.Rows
structure ObjM (h:Heap)(x dx C:Addr)(mA:Str->Option Value):Prop where
 obj:h.get? x=some (PySem.W.instObj C dx)
 ns:h.Ns1 dx mA
 ne:dx≠x
theorem mU {h:Heap}{dx:Addr}{mA:Str->Option Value}(n:h.Ns1 dx mA):∃od,h.get? dx=some od/\∀name,PySem.W.lookIn name od=some (mA name):=by
 obtain⟨o,es,ep,ho,hd,hk,_,hm⟩:=n
 refine⟨o,ho,fun name=>?_⟩
 have e:=hm name
 unfold nsFind findBy at e
 rw[<-Array.find?_toList]at e
 unfold PySem.W.lookIn
 rw[hd]
 dsimp only
 split
 ·rename_i y q
  rw[q]at e
  exact congrArg some e
 ·rename_i q
  rw[q]at e
  have a:es.toList.any (·.refKey)=false:=by
   rw[List.any_eq_false]
   intro y hy
   obtain⟨z,t,hkey⟩:=hk y (Array.mem_toList_iff.mp hy)
   simp[DictEntry.refKey,hkey]
  have a':¬ es.toList.any (·.refKey)=true:=by rw[a];exact Bool.false_ne_true
  rw[if_neg a']
  exact congrArg some e
theorem ObjM.look {h:Heap}{x dx C:Addr}{mA:Str->Option Value}(I:ObjM h x dx C mA):∃od,PySem.W.InstAt h x (PySem.W.instObj C dx) C (some od)/\∀name,PySem.W.lookIn name od=some (mA name) :=
 let ⟨od,ho,hl⟩:=mU I.ns
 ⟨od,⟨I.obj,rfl,rfl,ho⟩,hl⟩
section
variable {prog:Program}{w:World}{A:Around}{E:Value->Shared->Prop}{s:Shared}{K:PySem.W.Frag}{x dx C f:Addr}{mA:Str->Option Value}{name:Str}{v:Value}
theorem rY {expr:Bool}{Q:Value->Shared->Prop}(X:K.In s.heap)(I:ObjM s.heap x dx C mA)(hg:PySem.W.plainGet K C name=true)(hh:PySem.W.hasDictIn K C=true)
  (ha:PySem.W.findIn K (.ref C) name=some none) (hv:mA name=some v) (hv':PySem.W.handedIn v=true) (h:Q v { s with toks:=s.toks+1 }) :
  wpAny (model prog w) A (getAttr (.ref x) name expr) Q E s:=by
 obtain⟨od,J,hl⟩:=I.look
 exact PySem.W.get_value X J (PySem.W.plainGet_of hg).1 (PySem.W.findObj_own hh ha rfl (by rw[hl,hv])) hv' h
theorem qm {pl:Sem Bool}{Q:Value×List Value->Shared->Prop}(X:K.In s.heap)(I:ObjM s.heap x dx C mA)(hg:PySem.W.plainGet K C name=true)
  (hf:PySem.W.findIn K (.ref C) name=some (some (.ref f))) (ht:PySem.W.isFn K (.ref f)=true) (hv:mA name=none) (h:Q (.ref f,[.ref x]) s) :
  wpAny (model prog w) A (getMethod (.ref x) name pl) Q E s:=by
 obtain⟨od,J,hl⟩:=I.look
 exact PySem.W.method_fn X J (PySem.W.plainGet_of hg).1 (PySem.W.plainGet_of hg).2 hf (beq_iff_eq.mp ht) (by show (PySem.W.lookIn name od).map (·.isSome)=some false;rw[hl,hv];rfl) h
theorem tE {ns:List Str}{Q:Unit->Shared->Prop}(X:K.In s.heap)(I:ObjM s.heap x dx C mA)
  (hs:PySem.W.findIn K (.ref C) "__setattr__"=some (some (.builtin "object.__setattr__"))) (hp:PySem.W.plainOver K C=true) (ht:PySem.W.takerIn K C name=some none) (hh:PySem.W.hasDictIn K C=true)
  (hw:PySem.Within mA ns) (hsz:ns.length≤sizeLine)
  (h:∀h',ObjM h' x dx C (fun y=>if y=name then some v else mA y)->Heap.SameBut dx s.heap h'->Q () { s with heap:=h',toks:=s.toks+2 }) :
  wpAny (model prog w) A (setAttr (.ref x) name v) Q E s:=by
 obtain⟨od,J,hl⟩:=I.look
 refine PySem.W.set_plain X J hs (PySem.W.osa_open (s:={ s with toks:=s.toks+1 }) (r:=none) X J hp ht fun b=>?_)
 obtain⟨cd,hc,hd'⟩:=PySem.W.any_some hh
 have hx:s.heap.get? x=some ⟨.ref C,some dx,.plain,#[]⟩:=I.obj
 refine wpAny_bind (wpAny_pure (wpAny_bind (wpAny_bind (wpAny_loadPart hx (wpAny_bind (PySem.W.Looks.here (s:={ s with toks:=s.toks+1 }) (PySem.W.looks_clsIn X hc) ?_))))))
 rw[hd']
 refine wpAny_pure (a:=some dx) (wpAny_bind (wpAny_pure (wpAny_bind ?_)))
 refine wpAny_nsSet1 (s:={ s with toks:=s.toks+1 }) I.ns fun h' hn2 hs2=>?_
 obtain⟨oD,esD,epD,hoD,hdD,hcD⟩:=hn2.count (PySem.Within.cons name v hw)
 refine wpAny_bind (wpAny_lookBehind hoD (by rw[hdD];exact pastItsLine_dict (Nat.le_trans hcD (by rw[List.length_cons];omega))) ?_)
 exact wpAny_pure (h _ ⟨(hs2.2 _ (Ne.symm I.ne)).trans I.obj,hn2,I.ne⟩ hs2)
theorem px {R:Result->Shared->Prop}{vs:List Value}{kw:List (Str×Value)}(X:K.In s.heap)(hm:PySem.W.makesIn K C=true)
  (hi:PySem.W.findIn K (.ref C) "__init__"=some (some (.ref f))) (hf:PySem.W.typeIn K (.ref f)=some (.type "function"))
  (h:codeAny (model prog w) (A.under (.builtin "type.__call__" ⟨.ref C::vs,kw⟩)) (.call (.ref f) ⟨.ref (s.heap.objs.size+1)::vs,kw⟩) (PySem.W.InitBack (s.heap.objs.size+1) R)
   { s with heap:=(s.heap.push PySem.W.emptyDict).push (PySem.W.instObj C s.heap.objs.size) }) :
  codeAny (model prog w) A (.call (.ref C) ⟨vs,kw⟩) R s:=by
 obtain⟨hh,g,d,t,os⟩:=s
 exact PySem.W.make_core (PySem.W.makes_of X hm) (PySem.W.looks_findIn X hi) (fun self=>PySem.W.bind_fn X self hf) (.inl rfl) h
end
def aX (f:Str)(v:V):List (Str×V)->List (Str×V)
 | []=>[(f,v)]
 | (g,x)::r=>if g=f then (g,v)::r else (g,x)::aX f v r
theorem fw (f g:Str)(v:V):∀fs:List (Str×V),(aX f v fs).lookup g=if g=f then some v else fs.lookup g
 | []=>by
  show List.lookup g [(f,v)]=_
  by_cases h:g=f
  ·have hb:(g == f)=true:=beq_iff_eq.mpr h
   simp only[List.lookup,hb,if_pos h]
  ·have hb:(g == f)=false:=beq_eq_false_iff_ne.mpr h
   simp only[List.lookup,hb,if_neg h]
 | (k,x)::r=>by
  have ih:=fw f g v r
  rw[show aX f v ((k,x)::r)=(if k=f then (k,v)::r else (k,x)::aX f v r) from rfl]
  by_cases hk:k=f
  ·rw[if_pos hk]
   by_cases h:g=k
   ·have hb:(g == k)=true:=beq_iff_eq.mpr h
    simp only[List.lookup,hb,if_pos (h.trans hk)]
   ·have hb:(g == k)=false:=beq_eq_false_iff_ne.mpr h
    simp only[List.lookup,hb,if_neg (fun e:g=f=>h (e.trans hk.symm))]
  ·rw[if_neg hk]
   by_cases h:g=k
   ·have hb:(g == k)=true:=beq_iff_eq.mpr h
    simp only[List.lookup,hb,if_neg (fun e:g=f=>hk (h.symm.trans e))]
   ·have hb:(g == k)=false:=beq_eq_false_iff_ne.mpr h
    simp only[List.lookup,hb]
    exact ih
theorem eY (f:Str)(v:V):∀fs:List (Str×V),f∈(aX f v fs).map (·.1)/\∀g,g∈fs.map (·.1)->g∈(aX f v fs).map (·.1)
 | []=>⟨by simp[aX],fun g h=>by simp at h⟩
 | (k,x)::r=>by
  obtain⟨i1,i2⟩:=eY f v r
  rw[show aX f v ((k,x)::r)=(if k=f then (k,v)::r else (k,x)::aX f v r) from rfl]
  by_cases hk:k=f
  ·rw[if_pos hk]
   subst hk
   exact⟨by simp,fun g h=>by simpa using h⟩
  ·rw[if_neg hk]
   refine⟨?_,fun g h=>?_⟩
   ·rw[List.map_cons]
    exact List.mem_cons_of_mem _ i1
   ·rw[List.map_cons]at h ⊢
    rcases List.mem_cons.mp h with e | e
    ·exact List.mem_cons.mpr (.inl e)
    ·exact List.mem_cons_of_mem _ (i2 g e)
theorem ft (f:Str)(v:V):∀fs:List (Str×V),(aX f v fs).length≤fs.length+1
 | []=>by simp[aX]
 | (k,x)::r=>by
  have ih:=ft f v r
  rw[show aX f v ((k,x)::r)=(if k=f then (k,v)::r else (k,x)::aX f v r) from rfl]
  by_cases hk:k=f
  ·rw[if_pos hk,List.length_cons,List.length_cons];omega
  ·rw[if_neg hk,List.length_cons,List.length_cons];omega
theorem RelO.some_of {v:V}{o:Option Value}(r:RelO (some v) o):∃u,o=some u/\RelV v u:=by
 cases o with
 | none=>exact (show False from r).elim
 | some u=>exact⟨u,rfl,r⟩
theorem RelO.none_of {o:Option Value}(r:RelO none o):o=none:=by
 cases o with
 | none=>rfl
 | some u=>exact (show False from r).elim
theorem hZ {v:V}{u:Value}(r:RelV v u):PySem.W.handedIn u=true:=by
 cases v with
 | non=>cases (show u=Value.none from r);rfl
 | bl b=>cases (show u=Value.bool b from r);rfl
 | int i=>obtain⟨t,e⟩:=(show ∃t,u=Value.int i t from r);cases e;rfl
 | str x=>obtain⟨t,e⟩:=(show ∃t,u=Value.str x t from r);cases e;rfl
 | byt b=>obtain⟨t,e⟩:=(show ∃t,u=Value.bytes b t from r);cases e;rfl
 | flt b=>obtain⟨t,e⟩:=(show ∃t,u=Value.float b t from r);cases e;rfl
 | ref a=>cases (show u=Value.ref a from r);rfl
 | ty n=>cases (show u=Value.type n from r);rfl
section
variable {P:Program}{w:World}{H H':Hp}{h h':Heap}{a C dx:Addr}{fs fs':List (Str×V)}
theorem fM (hok:HOk P w H h)(e:H a=some (.ins C dx fs)):∃mA,ObjM h a dx C mA/\(∀f,RelO (fs.lookup f) (mA f))/\PySem.Within mA (fs.map (·.1))/\fs.length≤1000/\H dx=some (.own a):=by
 obtain⟨d,z,ne,ob,mA,n,r,q⟩:=(show ObjOk P w H h a (.ins C dx fs) from hok a _ e)
 exact⟨mA,⟨ob,n,ne⟩,r,q,z,d⟩
end
structure Cls (K:PySem.W.Frag)(C:Addr):Prop where
 pg:PySem.W.plainGet K C Str.empty=true
 hd:PySem.W.hasDictIn K C=true
 po:PySem.W.plainOver K C=true
 sa:PySem.W.findIn K (.ref C) "__setattr__"=some (some (.builtin "object.__setattr__"))
theorem Cls.get {K:PySem.W.Frag}{C:Addr}(c:Cls K C)(f:Str):PySem.W.plainGet K C f=true:=c.pg
def NoAttr (K:PySem.W.Frag)(C:Addr)(f:Str):Prop:=PySem.W.findIn K (.ref C) f=some none
theorem NoAttr.taker {K:PySem.W.Frag}{C:Addr}{f:Str}(n:NoAttr K C f):PySem.W.takerIn K C f=some none:=by
 unfold PySem.W.takerIn
 rw[show PySem.W.findIn K (.ref C) f=some none from n]
 rfl
structure zC (K:PySem.W.Frag)(C:Addr)(f:Str)(v:V)(u:Value):Prop where
 at_:PySem.W.findIn K (.ref C) f=some (some u)
 rel:RelV v u
 get:PySem.W.specialIn K u "__get__"=some none
 cp:PySem.W.copiedNames.contains f=false
structure tm (K:PySem.W.Frag)(C:Addr)(m:Str)(f:Addr):Prop where
 at_:PySem.W.findIn K (.ref C) m=some (some (.ref f))
 fn:PySem.W.isFn K (.ref f)=true
 kp:PySem.W.keepIn K (.ref f)=true
section
variable {X:Cx}{pins:List (Addr×Obj)}{σ:St}{H:Hp}{s:Shared}{a C dx:Addr}{fs:List (Str×V)}{f:Str}{v:V}{A:Around}{E:Value->Shared->Prop}
theorem lb {b:Bool}{Q:Value->Shared->Prop}(I:Inv X pins σ H s)(e:H a=some (.ins C dx fs))(c:Cls X.K C)(n:NoAttr X.K C f)(l:fs.lookup f=some v)
  (h:∀u s',Inv X pins σ H s'->RelV v u->Q u s'):wpAny (model X.prog X.w) A (getAttr (.ref a) f b) Q E s:=by
 obtain⟨mA,O,r,_,_,_⟩:=fM I.hok e
 obtain⟨u,hu,ru⟩:=RelO.some_of (v:=v) (o:=mA f) (by rw[<-l];exact r f)
 exact rY I.kIn O (c.get f) c.hd n hu (hZ ru) (h u _ (I.tok _) ru)
theorem em {m:Str}{g:Addr}{pl:Sem Bool}{Q:Value×List Value->Shared->Prop}(I:Inv X pins σ H s)(e:H a=some (.ins C dx fs))(c:Cls X.K C)(k:tm X.K C m g)(l:fs.lookup m=none)
  (h:Q (.ref g,[.ref a]) s):wpAny (model X.prog X.w) A (getMethod (.ref a) m pl) Q E s:=by
 obtain⟨mA,O,r,_,_,_⟩:=fM I.hok e
 have hn:mA m=none:=RelO.none_of (by rw[<-l];exact r m)
 exact qm I.kIn O (c.get m) k.at_ k.fn hn h
theorem kD {y:V}{u:Value}{Q:Unit->Shared->Prop}(I:Inv X pins σ H s)(e:H a=some (.ins C dx fs))(c:Cls X.K C)(n:NoAttr X.K C f)(hl:fs.length<1000)(ry:RelV y u)
  (h:∀s',Inv X pins σ (upd H a (.ins C dx (aX f y fs))) s'->Q () s'):wpAny (model X.prog X.w) A (setAttr (.ref a) f u) Q E s:=by
 obtain⟨mA,O,r,wi,_,ho⟩:=fM I.hok e
 have hz:(fs.map (·.1)).length≤sizeLine:=by rw[List.length_map,sizeLine_eq];omega
 refine tE I.kIn O c.sa c.po n.taker c.hd wi hz fun h' O' sb=>h _ ?_
 have hd:∃o,h'.get? dx=some o:=let ⟨o,_,_,e',_⟩:=O'.ns;⟨o,e'⟩
 refine I.write (x:=a) (e:=dx) (by rw[e];exact True.intro) (.inr ho) (fun b q hb z=>(sb.2 b hb).trans z) hd ?_
 refine⟨by rw[ag O.ne];exact ho,?_,O.ne,O'.obj,_,O'.ns,fun g=>?_,fun g hg=>?_⟩
 ·have:=ft f y fs;omega
 ·show RelO ((aX f y fs).lookup g) (if g=f then some u else mA g)
  rw[fw]
  by_cases q:g=f
  ·rw[if_pos q,if_pos q];exact ry
  ·rw[if_neg q,if_neg q];exact r g
 ·by_cases q:g=f
  ·rw[q];exact (eY f y fs).1
  ·refine (eY f y fs).2 g (wi g fun z=>hg ?_)
   show (if g=f then some u else mA g)=none
   rw[if_neg q];exact z
theorem Inv.made (I:Inv X pins σ H s):Inv X pins σ (upd (upd H s.heap.objs.size (.own (s.heap.objs.size+1))) (s.heap.objs.size+1) (.ins C s.heap.objs.size []))
  { s with heap:=(s.heap.push PySem.W.emptyDict).push (PySem.W.instObj C s.heap.objs.size) }:=by
 have e1:(s.heap.push PySem.W.emptyDict).get? s.heap.objs.size=some PySem.W.emptyDict:=Heap.get?_push_size s.heap rfl
 have e2:((s.heap.push PySem.W.emptyDict).push (PySem.W.instObj C s.heap.objs.size)).get? (s.heap.objs.size+1)=some (PySem.W.instObj C s.heap.objs.size):=by
  have:=Heap.get?_push_size (s.heap.push PySem.W.emptyDict) (o:=PySem.W.instObj C s.heap.objs.size) rfl
  rwa [Heap.size_push]at this
 have e3:(s.heap.push PySem.W.emptyDict).Ns s.heap.objs.size (fun _=>none):=⟨PySem.W.emptyDict,#[],_,e1,rfl,(fun e he=>absurd he (by simp)),fun _=>rfl⟩
 have I1:=I.laid (a:=s.heap.objs.size) (o:=.own (s.heap.objs.size+1)) (h':=s.heap.push PySem.W.emptyDict) (t':=s.toks) (fun b u q=>Heap.get?_push_of_some _ q) (Nat.le_refl _) ⟨_,e1⟩
 refine I1.laid (a:=s.heap.objs.size+1) (o:=.ins C s.heap.objs.size []) (t':=s.toks) (fun b u q=>Heap.get?_push_of_some _ q) (Nat.le_of_eq (Heap.size_push _ _)) ?_
 have ne:s.heap.objs.size≠s.heap.objs.size+1:=Nat.ne_of_lt (Nat.lt_succ_self _)
 refine⟨by rw[ag ne,ae],Nat.zero_le _,ne,e2,fun _=>none,(Heap.Ns1.of_empty e3).at fun o q=>Heap.get?_push_of_some _ q,fun _=>True.intro,fun y hy=>absurd rfl hy⟩
theorem lG {prog:Program}{w:World}{env:Env}{e:Expr}{f:Str}{pos:Pos}{s:Shared}{Q:Value->Shared->Prop}(hb:attributeBase e f env (eval e env)=eval e env)
  (h:wpAny (model prog w) A (eval e env) (fun o s₁=>wpAny (model prog w) A (getAttr o f true) Q E s₁) E s):wpAny (model prog w) A (eval (.Attribute e f pos) env) Q E s :=
 Attribute_any_ h (by rw[arm_eval_Attribute,hb])
end
section
variable {X:Cx}{o e value:Expr}{f:Str}{pos pos' tpos:Pos}{ta tv:TE}
end
section
variable {X:Cx}{pins:List (Addr×Obj)}{σ:St}{H:Hp}{s:Shared}{A:Around}{E:Value->Shared->Prop}{Q:Value->Shared->Prop}{c:Value}{b:Bool}
inductive fE (K:PySem.W.Frag)(H:Hp):V->Value->Prop where
 | non:fE K H .non (.type "NoneType")
 | bl (x:Bool):fE K H (.bl x) (.type "bool")
 | int (i:Int):fE K H (.int i) (.type "int")
 | str (x:Str):fE K H (.str x) (.type "str")
 | flt (x:UInt64):fE K H (.flt x) (.type "float")
 | lst {a:Addr} {xs:List V} (e:H a=some (.lst xs)):fE K H (.ref a) (.type "list")
 | frz {a:Addr} {o:Obj} {xs:List V} (e:H a=some (.frz o (.lst xs))):fE K H (.ref a) (.type "list")
 | tup {a:Addr} {xs:List V} (e:H a=some (.tup xs)):fE K H (.ref a) (.type "tuple")
 | dK {a:Addr} {kvs:List (cK×V)} (e:H a=some (.dK kvs)):fE K H (.ref a) (.type "dict")
 | dT {a:Addr} {kvs:List (List cK×V)} (e:H a=some (.dT kvs)):fE K H (.ref a) (.type "dict")
 | ins {a C dx:Addr} {fs:List (Str×V)} (e:H a=some (.ins C dx fs)) (cl:Cls K C) (ha:PySem.W.findIn K (.ref C) "__class__"=some (some (.builtin "object.__class__")))
   (hn:PySem.W.specialIn K (.builtin "object.__class__") "__get__"=some (some (.builtin "getset_descriptor.__get__"))) (htk:PySem.W.takesIn K (.builtin "object.__class__")=some true)
   (hm:PySem.W.mroIn K C (.type "object")=some true):fE K H (.ref a) (.ref C)
theorem dU {x:V}{u t:Value}(I:Inv X pins σ H s)(rx:RelV x u)(ty:fE X.K H x t)(e:PySem.W.kitOne X.K t c=some b)(h:∀tk,Q (.bool b) { s with toks:=tk }) :
  wpAny (model X.prog X.w) A (call (.builtin "isinstance") [u,c]) Q E s:=by
 cases ty with
 | non=>cases (show u=Value.none from rx);exact PySem.W.kia_one PySem.W.kitx_none I.kIn True.intro e (fun z=>nomatch z) h
 | bl y=>cases (show u=Value.bool y from rx);exact PySem.W.kia_one PySem.W.kitx_bool I.kIn True.intro e (fun z=>nomatch z) h
 | int i=>obtain⟨t,q⟩:=(show ∃t,u=Value.int i t from rx);cases q;exact PySem.W.kia_one PySem.W.kitx_int I.kIn True.intro e (fun z=>nomatch z) h
 | str y=>obtain⟨t,q⟩:=(show ∃t,u=Value.str y t from rx);cases q;exact PySem.W.kia_one PySem.W.kitx_str I.kIn True.intro e (fun z=>nomatch z) h
 | flt y=>obtain⟨t,q⟩:=(show ∃t,u=Value.float y t from rx);cases q;exact PySem.W.kia_one PySem.W.kitx_float I.kIn True.intro e (fun z=>nomatch z) h
 | @lst a xs ea =>
  cases (show u=Value.ref a from rx)
  obtain⟨_,_,n,_,h1⟩:=(show ObjOk X.prog X.w H s.heap a (.lst xs) from I.hok a _ ea)
  exact PySem.W.kia_one PySem.W.kitx_list I.kIn ⟨_,h1,rfl⟩ e (fun z=>nomatch z) h
 | @frz a ob xs ea =>
  cases (show u=Value.ref a from rx)
  obtain⟨_,_,_,n,_,h1⟩:=(show ObjOk X.prog X.w H s.heap a (.frz ob (.lst xs)) from I.hok a _ ea)
  exact PySem.W.kia_one PySem.W.kitx_list I.kIn ⟨_,h1,rfl⟩ e (fun z=>nomatch z) h
 | @tup a xs ea =>
  cases (show u=Value.ref a from rx)
  obtain⟨_,_,_,p⟩:=(show ObjOk X.prog X.w H s.heap a (.tup xs) from I.hok a _ ea)
  obtain⟨o,h1,h2,_⟩:=p
  exact PySem.W.kia_one PySem.W.kitx_tuple I.kIn ⟨o,h1,h2⟩ e (fun z=>nomatch z) h
 | @dK a kvs ea =>
  cases (show u=Value.ref a from rx)
  obtain⟨_,_,vs,_,p⟩:=(show ObjOk X.prog X.w H s.heap a (.dK kvs) from I.hok a _ ea)
  obtain⟨o,es,ep,h1,h2,_⟩:=p
  exact PySem.W.kia_one PySem.W.kitx_dict I.kIn ⟨o,h1,h2.1⟩ e (fun z=>nomatch z) h
 | @dT a kvs ea =>
  cases (show u=Value.ref a from rx)
  obtain⟨_,_,xs,_,o,es,ep,h1,h2,_⟩:=(show ObjOk X.prog X.w H s.heap a (.dT kvs) from I.hok a _ ea)
  exact PySem.W.kia_one PySem.W.kitx_dict I.kIn ⟨o,h1,h2.1⟩ e (fun z=>nomatch z) h
 | @ins a C dx fs ea cl ha hn htk hm =>
  cases (show u=Value.ref a from rx)
  obtain⟨mA,O,_⟩:=fM I.hok ea
  obtain⟨od,J,_⟩:=O.look
  exact PySem.W.kia_one (PySem.W.kitx_own (cl.get _) cl.hd ha hn htk hm) I.kIn J e (fun z=>nomatch z) h
end
end L2
namespace L2
open PySem PySem.Spec PyProof.Rows
structure Room (k:Nat)(A:Around):Prop where
 hd:A.handled=none
 dp:A.depth+3*k+5<recursionLimit
 un:A.units+16*k+200<cLine
 gd:A.guards=some []
theorem Room.mono {j k:Nat}{A:Around}(r:Room k A)(h:j≤k):Room j A:=⟨r.hd,by have:=r.dp;omega,by have:=r.un;omega,r.gd⟩
theorem Room.deeper {k:Nat}{A:Around}(r:Room (k+1) A)(env:Env):Room k (A.deeper env) :=
 ⟨r.hd,by have:=r.dp;show A.depth+1+3*k+5<_;omega,by have:=r.un;show A.units+3+16*k+200<_;omega,r.gd⟩
theorem kH {A:Around}{C:Addr}{us:List Value}{kw:List (Str×Value)}:(A.under (.builtin "type.__call__" ⟨.ref C::us,kw⟩)).depth=A.depth+1:=by
 first | rfl | simp[Around.under,Code.weight,Code.isCreation,Code.isGuard,Code.isCaller,Code.frames,Code.isFrame,guardIds]
theorem ke {A:Around}{C:Addr}{us:List Value}{kw:List (Str×Value)}:(A.under (.builtin "type.__call__" ⟨.ref C::us,kw⟩)).units=A.units+1:=by
 first | rfl | simp[Around.under,Code.cUnits,Code.frames,Code.isFrame]
theorem Room.make {k:Nat}{A:Around}(r:Room (k+1) A)(C:Addr)(us:List Value)(kw:List (Str×Value)):Room k (A.under (.builtin "type.__call__" ⟨.ref C::us,kw⟩)) :=
 ⟨r.hd,by have:=r.dp;rw[kH];omega,by have:=r.un;rw[ke];omega,by first | exact r.gd | (show pushGuards (Code.guards _) A.guards=_;rw[r.gd];rfl) | simp[Around.under,pushGuards,Code.guards,Code.isGuard,guardIds,r.gd]⟩
theorem Room.depth {k:Nat}{A:Around}(r:Room k A):A.depth<recursionLimit:=by have:=r.dp;omega
theorem Room.units {k:Nat}{A:Around}(r:Room k A):A.units+64<cLine:=by have:=r.un;omega
def vq:TA:=fun _ H Q=>Q [] H
def jI (ta:TE)(tr:TA):TA:=fun σ H Q=>ta σ H fun x H1=>tr σ H1 fun xs H2=>Q (x::xs) H2
section
variable {X:Cx}{e:Expr}{es:List Expr}{te:TE}{t:TA}{pos:Pos}
theorem vT:PA X [] vq:=fun _ _ _ _ H Q I h=>Calls.spliced_nil ⟨[],H,I,.nil,h⟩
theorem rG (ha:PE X e te)(hr:PA X es t)(hs:starEach (e::es) X.env=(false,eval e X.env)::starEach es X.env:=by rfl):PA X (e::es) (jI te t):=by
 intro pos pins s σ H Q I h
 rw[hs]
 show wpAny _ _ (spliced ((false,eval e X.env)::backTo pos (starEach es X.env))) _ _ s
 refine Calls.spliced_cons (aS (ha pins s σ H _ I h) fun u s1 ⟨x,H1,I1,r1,q1⟩=>?_)
 exact aS (hr pos pins s1 σ H1 _ I1 q1) fun us s2 ⟨xs,H2,I2,r2,q2⟩=>⟨x::xs,H2,I2,.cons r1 r2,q2⟩
def wZ (t:TA):TE:=fun σ H Q=>t σ H fun xs H1=>xs.length≤sizeLine/\∀p,H1 p=none->Q (.ref p) (upd H1 p (.tup xs))
def w4 (t:TA):TE:=fun σ H Q=>t σ H fun xs H1=>xs.length≤sizeLine/\∀p,H1 p=none->Q (.ref p) (upd H1 p (.lst xs))
theorem wc {x1}(h:PA X es t):PE X (.Tuple es x1 pos) (wZ t):=by
 intro pins s σ H Q I hq
 refine wpAny_Tuple_spliced (aS (h pos pins s σ H _ I hq) fun us s1 ⟨xs,H1,I1,r,z,q⟩=>⟨by rw[<-r.length];exact z,?_⟩)
 have hf:H1 s1.heap.objs.size=none:=I1.hok.fresh (Nat.le_refl _)
 refine⟨.ref s1.heap.objs.size,upd H1 s1.heap.objs.size (.tup xs),I1.laid (t':=s1.toks) (fun b u e=>Heap.get?_push_of_some _ e) (Nat.le_refl _) ?_,rfl,q _ hf⟩
 exact⟨z,us,r,⟨_,Heap.get?_push_size _ rfl,rfl,_,rfl⟩⟩
theorem wg (h:PA X es t):PE X (.List es pos) (w4 t):=by
 intro pins s σ H Q I hq
 refine wpAny_List_spliced (aS (h pos pins s σ H _ I hq) fun us s1 ⟨xs,H1,I1,r,z,q⟩=>⟨by rw[<-r.length];exact z,?_⟩)
 have hf:H1 s1.heap.objs.size=none:=I1.hok.fresh (Nat.le_refl _)
 refine⟨.ref s1.heap.objs.size,upd H1 s1.heap.objs.size (.lst xs),I1.laid (t':=s1.toks) (fun b u e=>Heap.get?_push_of_some _ e) (Nat.le_refl _) ?_,rfl,q _ hf⟩
 exact⟨z,us,0,r,Heap.get?_push_size _ rfl⟩
end
abbrev Sp:=List V->Hp->VK->XK->Prop
abbrev nY:=List Env->Hp->Shared->XK->Value->Shared->Prop
structure Env0 (P:Program)(w:World)(K:PySem.W.Frag)(mg:Str->Option Value)(base:Heap)(A:Around)(outer:List Env)(s:Shared)(H:Hp):Prop where
 frames:A.frames=some outer
 mod:Mod K mg base
 bs:∀b o,base.get? b=some o->s.heap.get? b=some o/\H b=none
 bsz:base.objs.size≤s.heap.objs.size
 funs:s.heap.FunFrames base outer
 frf:∀b∈cu outer,H b=none
 hok:HOk P w H s.heap
 bare:AllBare s.gens
def CE (outer:List Env)(P:Program)(w:World)(H:Hp)(s:Shared)(Q:VK)(u:Value)(s':Shared):Prop :=
 ∃v H',s'.os=s.os/\AllBare s'.gens/\Un (cu outer) [] H H' s.heap s'.heap/\HOk P w H' s'.heap/\RelV v u/\Q v H'
def CR (CX:nY)(outer:List Env)(P:Program)(w:World)(H:Hp)(s:Shared)(Q:VK)(E:XK)(r:Result)(s':Shared):Prop :=
 match r with
 | .ok (.ret u)=>CE outer P w H s Q u s'
 | .ok _=>False
 | .error e=>CX outer H s E e s'
structure dE (P:Program)(w:World)(K:PySem.W.Frag)(mg:Str->Option Value)(base:Heap)(CX:nY)(k:Nat)(f:Addr)(fd:FuncData)(ps:List Str)(sp:Sp):Prop where
 len:∀vs H Q E,sp vs H Q E->vs.length=ps.length
 run:∀(A:Around) (outer:List Env) (s:Shared) (H:Hp) (args:Args) (us:List Value) (vs:List V) (Q:VK) (E:XK),Room k A->Env0 P w K mg base A outer s H->BindsTo s fd args (ps.zip us)->Vals vs us->sp vs H Q E ->
  codeAny (model P w) A (.call (.ref f) args) (CR CX outer P w H s Q E) s
theorem Env0.make {P:Program}{w:World}{K:PySem.W.Frag}{mg:Str->Option Value}{base:Heap}{A:Around}{outer:List Env}{s:Shared}{H:Hp}(e:Env0 P w K mg base A outer s H)(C:Addr)(us:List Value)(kw:List (Str×Value)) :
  Env0 P w K mg base (A.under (.builtin "type.__call__" ⟨.ref C::us,kw⟩)) outer s H:=⟨by first | exact e.frames | (simpa[Around.under,Code.envs,Code.isFrame,pushEnvs] using e.frames),e.mod,e.bs,e.bsz,e.funs,e.frf,e.hok,e.bare⟩
section
variable {X:Cx}{pins:List (Addr×Obj)}{σ:St}{H:Hp}{s s':Shared}
theorem Inv.env0 (I:Inv X pins σ H s):Env0 X.prog X.w X.K X.mg X.base X.A X.stack s H :=
 ⟨I.ok.frames,I.ok.mod,I.bs,Nat.le_trans I.ok.bsz I.sz,I.stack,I.stkFree,I.hok,I.bare⟩
theorem Inv.after {Q:VK}{u:Value}(I:Inv X pins σ H s)(h:CE X.stack X.prog X.w H s Q u s'):EP X pins σ Q u s':=by
 obtain⟨v,H',os,bare,un,hok,r,q⟩:=h
 obtain⟨hh,g,d,t,os'⟩:=s'
 obtain rfl:os'=s.os:=os
 exact⟨v,H',I.call (h':=hh) (g':=g) (d':=d) (t':=t) (ch:=[]) un hok bare (fun b z=>absurd z (by simp)),r,q⟩
end
def yl (sp:Sp)(dvs:List V)(E:XK)(t:TA):TE:=fun σ H Q=>t σ H fun vs H1=>sp (vs++dvs) H1 Q E
def tT (C:Addr)(sp:Sp)(dvs:List V)(E:XK)(t:TA):TE:=fun σ H Q=>t σ H fun vs H1=>∀x dx,H1 x=none->H1 dx=none->dx≠x ->
 sp (.ref x::(vs++dvs)) (upd (upd H1 dx (.own x)) x (.ins C dx [])) (fun v H2=>v=.non/\Q (.ref x) H2) E
def Binds (K:PySem.W.Frag)(fd:FuncData)(ps:List Str)(ds:List Value):Prop :=
 ∀(s:Shared) (us:List Value),K.In s.heap->(us++ds).length=ps.length->BindsTo s fd ⟨us,[]⟩ (ps.zip (us++ds))
theorem Binds.all {K:PySem.W.Frag}{fd:FuncData}{ps:List Str}(h:∀us:List Value,us.length=ps.length->bindArgs fd ⟨us,[]⟩=pure (ps.zip us)):Binds K fd ps []:=fun s us _ hl=>by
 rw[List.append_nil]at hl ⊢
 exact .of_eq (h us hl)
def ck (CX:nY)(X:Cx)(E:XK):Prop:=∀(pins:List (Addr×Obj)) (σ:St) (H:Hp) (s:Shared) (e:Value) (s':Shared),Inv X pins σ H s->CX X.stack H s E e s'->X.xe e s'
section
variable {X:Cx}{CX:nY}{k:Nat}{f C:Addr}{fd:FuncData}{ps:List Str}{sp:Sp}{dvs:List V}{ds:List Value}{E:XK}{x m:Str}{p pos apos:Pos}{e o:Expr}{es:List Expr}{ta:TE}{t:TA}
theorem iG {pins:List (Addr×Obj)}{σ:St}{H:Hp}{s:Shared}{Q:VK}{us:List Value}{vs:List V}(F:dE X.prog X.w X.K X.mg X.base CX k f fd ps sp)(hr:Room k X.A)(hb:Binds X.K fd ps ds)(hd:Vals dvs ds)(hx:ck CX X E)
  (I:Inv X pins σ H s) (r:Vals vs us) (h:sp (vs++dvs) H Q E):wpAny (model X.prog X.w) X.A (call (.ref f) us) (EP X pins σ Q) X.xe s:=by
 have r2:Vals (vs++dvs) (us++ds):=r.append hd
 have hl:(us++ds).length=ps.length:=by rw[<-r2.length];exact F.len _ _ _ _ h
 refine wpAny_call (codeAny_mono (F.run X.A X.stack s H ⟨us,[]⟩ (us++ds) (vs++dvs) Q E hr I.env0 (hb s us I.kIn hl) r2 h) fun r s' hq=>?_)
 cases r with
 | error e=>exact hx pins σ H s e s' I hq
 | ok fl =>
  cases fl with
  | ret u=>exact I.after hq
  | next=>exact False.elim hq
  | brk=>exact False.elim hq
  | cont=>exact False.elim hq
theorem lf (F:dE X.prog X.w X.K X.mg X.base CX k f fd ps sp)(hr:Room k X.A)(hg:Gl X x)(hm:X.mg x=some (.ref f))(hk:PySem.W.keepIn X.K (.ref f)=true)(hb:Binds X.K fd ps ds)(hd:Vals dvs ds)(hx:ck CX X E)
  (ha:PA X (e::es) t) (hdb:(x == ("__debug__":Str))=false:=by decide) (he:starEach (e::es) X.env=(false,eval e X.env)::starEach es X.env:=by rfl) (hpl:(backTo pos (starEach es X.env)).any (·.1)=false:=by rfl) :
  PE X (.Call (.Name x p) (e::es) [] pos) (yl sp dvs E t):=by
 intro pins s σ H Q I h
 refine wpAny_Call_Name_kw (cU I hg hm ?_ hdb)
 refine PySem.W.callWith_K (h₀:=X.base) I.ok.mod.kin hk (aS (ha pos pins s σ H _ I h) fun us s1 ⟨vs,H1,I1,r,q⟩=>⟨I1.kIn,?_⟩) he hpl
 exact iG F hr hb hd hx I1 r q
structure Mk (K:PySem.W.Frag)(C f:Addr):Prop where
 makes:PySem.W.makesIn K C=true
 init:PySem.W.findIn K (.ref C) "__init__"=some (some (.ref f))
 fn:PySem.W.isFn K (.ref f)=true
 kp:PySem.W.keepIn K (.ref C)=true
theorem qq {pins:List (Addr×Obj)}{σ:St}{H:Hp}{s:Shared}{Q:VK}{us:List Value}{vs:List V}(M:Mk X.K C f)(F:dE X.prog X.w X.K X.mg X.base CX k f fd ps sp)(hr:Room (k+1) X.A)(hb:Binds X.K fd ps ds)(hd:Vals dvs ds)
  (hx:ck CX X E) (I:Inv X pins σ H s) (r:Vals vs us)
  (h:∀x dx,H x=none->H dx=none->dx≠x->sp (.ref x::(vs++dvs)) (upd (upd H dx (.own x)) x (.ins C dx [])) (fun v H2=>v=.non/\Q (.ref x) H2) E) :
  wpAny (model X.prog X.w) X.A (call (.ref C) us) (EP X pins σ Q) X.xe s:=by
 have hq:=h (s.heap.objs.size+1) s.heap.objs.size (I.hok.fresh (Nat.le_succ _)) (I.hok.fresh (Nat.le_refl _)) (Nat.ne_of_lt (Nat.lt_succ_self _))
 have I2:=Inv.made (C:=C) I
 have r2:Vals (V.ref (s.heap.objs.size+1)::(vs++dvs)) (Value.ref (s.heap.objs.size+1)::(us++ds)):=.cons rfl (r.append hd)
 have hl:(Value.ref (s.heap.objs.size+1)::us++ds).length=ps.length:=by
  have e:=r2.length
  rw[F.len _ _ _ _ hq]at e
  exact e.symm
 refine wpAny_call (px (f:=f) I.kIn M.makes M.init (beq_iff_eq.mp M.fn) (codeAny_mono (F.run _ X.stack _ _ ⟨Value.ref (s.heap.objs.size+1)::us,[]⟩ (Value.ref (s.heap.objs.size+1)::(us++ds)) _ _ E (hr.make C us [])
  (I2.env0.make C us []) (hb _ (Value.ref (s.heap.objs.size+1)::us) I2.kIn hl) r2 hq) fun r s' hq'=>?_))
 cases r with
 | error e=>exact hx pins σ _ _ e s' I2 hq'
 | ok fl =>
  cases fl with
  | ret u =>
   obtain⟨v,H',I3,rv,ev,q3⟩:=I2.after hq'
   subst ev
   exact⟨rv,⟨V.ref (s.heap.objs.size+1),H',I3,rfl,q3⟩⟩
  | next=>exact False.elim hq'
  | brk=>exact False.elim hq'
  | cont=>exact False.elim hq'
theorem rj (M:Mk X.K C f)(F:dE X.prog X.w X.K X.mg X.base CX k f fd ps sp)(hr:Room (k+1) X.A)(hg:Gl X x)(hm:X.mg x=some (.ref C))(hb:Binds X.K fd ps ds)(hd:Vals dvs ds)(hx:ck CX X E)
  (ha:PA X (e::es) t) (hdb:(x == ("__debug__":Str))=false:=by decide) (he:starEach (e::es) X.env=(false,eval e X.env)::starEach es X.env:=by rfl) (hpl:(backTo pos (starEach es X.env)).any (·.1)=false:=by rfl) :
  PE X (.Call (.Name x p) (e::es) [] pos) (tT C sp dvs E t):=by
 intro pins s σ H Q I h
 refine wpAny_Call_Name_kw (cU I hg hm ?_ hdb)
 refine PySem.W.callWith_K (h₀:=X.base) I.ok.mod.kin M.kp (aS (ha pos pins s σ H _ I h) fun us s1 ⟨vs,H1,I1,r,q⟩=>⟨I1.kIn,?_⟩) he hpl
 exact qq M F hr hb hd hx I1 r q
end
section
variable {X:Cx}{CX:nY}{k:Nat}{f C:Addr}{fd:FuncData}{ps ks:List Str}{sp:Sp}{E:XK}{x m:Str}{p pos apos kpos:Pos}{e o:Expr}{es:List Expr}{kws:List Keyword}{te ta:TE}{t tk:TA}{nm:Option Str}
structure yX (K:PySem.W.Frag)(fd:FuncData)(ps ks:List Str)(g:List Value->List Value->List Value)(gV:List V->List V->List V):Prop where
 to:∀(s:Shared) (us ws:List Value),K.In s.heap->(g us ws).length=ps.length->BindsTo s fd ⟨us,ks.zip ws⟩ (ps.zip (g us ws))
 rel:∀{vs:List V} {us:List Value} {zs:List V} {ws:List Value},Vals vs us->Vals zs ws->Vals (gV vs zs) (g us ws)
variable {g:List Value->List Value->List Value}{gV:List V->List V->List V}
end
structure ar (N P:List Str)(sc:Scope):Prop where
 kind:sc.kind=.function
 co:sc.isCoroutine=false
 gen:sc.isGenerator=false
 nd:N.Nodup
 pre:N.take P.length=P
 par:∀x∈P,sc.names.lookup x=some .local\/sc.names.lookup x=some .cell
 nofree:∀y∈sc.names,y.2≠.free
theorem io {kindOf:Str->Option NameKind}{x:Str}:∀{binds:List (Str×Value)} {m:Str->Option Value},(∀v,(x,v)∉binds)->bindL kindOf binds m x=m x
 | [],_,_=>rfl
 | (n,v)::r,m,h=>by
  unfold bindL
  rw[io fun w hw=>h w (List.mem_cons_of_mem _ hw)]
  split
  ·have:x≠n:=by rintro rfl;exact h v List.mem_cons_self
   simp[this]
  ·rfl
theorem ik {kindOf:Str->Option NameKind}{x:Str}:∀{binds:List (Str×Value)} {m:Str->Option Value},(∀v,(x,v)∉binds)->bindC kindOf binds m x=m x
 | [],_,_=>rfl
 | (n,v)::r,m,h=>by
  unfold bindC
  rw[ik fun w hw=>h w (List.mem_cons_of_mem _ hw)]
  split
  ·rfl
  ·have:x≠n:=by rintro rfl;exact h v List.mem_cons_self
   simp[this]
theorem ii {kindOf:Str->Option NameKind}{x:Str}{v:Value}:∀{P:List Str} {vs:List Value} {i:Nat} {m:Str->Option Value},P.Nodup->P[i]?=some x->vs[i]?=some v->kindOf x=some .local ->
  bindL kindOf (P.zip vs) m x=some v
 | [],_,_,_,_,h,_,_=>by simp at h
 | _::_,[],_,_,_,_,h,_=>by simp at h
 | p::P,w::vs,0,m,nd,h1,h2,hk=>by
  simp at h1 h2;subst h1;subst h2
  show bindL kindOf ((p,w)::P.zip vs) m p=_
  unfold bindL
  rw[io fun v hv=>(List.nodup_cons.mp nd).1 (List.of_mem_zip hv).1,if_pos hk]
  simp
 | p::P,w::vs,i+1,m,nd,h1,h2,hk=>by
  show bindL kindOf ((p,w)::P.zip vs) m x=_
  unfold bindL
  exact ii (i:=i) (List.nodup_cons.mp nd).2 (by simpa using h1) (by simpa using h2) hk
theorem ie {kindOf:Str->Option NameKind}{x:Str}{v:Value}:∀{P:List Str} {vs:List Value} {i:Nat} {m:Str->Option Value},P.Nodup->P[i]?=some x->vs[i]?=some v->kindOf x≠some .local ->
  bindC kindOf (P.zip vs) m x=some v
 | [],_,_,_,_,h,_,_=>by simp at h
 | _::_,[],_,_,_,_,h,_=>by simp at h
 | p::P,w::vs,0,m,nd,h1,h2,hk=>by
  simp at h1 h2;subst h1;subst h2
  show bindC kindOf ((p,w)::P.zip vs) m p=_
  unfold bindC
  rw[ik fun v hv=>(List.nodup_cons.mp nd).1 (List.of_mem_zip hv).1,if_neg hk]
  simp
 | p::P,w::vs,i+1,m,nd,h1,h2,hk=>by
  show bindC kindOf ((p,w)::P.zip vs) m x=_
  unfold bindC
  exact ie (i:=i) (List.nodup_cons.mp nd).2 (by simpa using h1) (by simpa using h2) hk
def start (N:List Str)(vs:List V):St:=vs.map some++List.replicate (N.length-vs.length) none
def aQ (CX:nY)(P:Program)(w:World)(K:PySem.W.Frag)(mg:Str->Option Value)(base:Heap)(N:List Str)(qual:Str)(scope:Scope)(f:Addr)(cd:Value)(A:Around)(outer:List Env)(s:Shared)(H:Hp)(E:XK):Cx where
 prog:=P
 w:=w
 K:=K
 mg:=mg
 base:=base
 A:=A.deeper (envOfC qual scope s.heap.objs.size f cd)
 N:=N
 s₀:=s
 H₀:=H
 env:=envOfC qual scope s.heap.objs.size f cd
 outer:=outer
 stack:=envOfC qual scope s.heap.objs.size f cd::outer
 ex:=[]
 calm:=true
 fn:=fun _=>true
 pn:=[]
 xe:=fun e s'=>wpAny (model P w) (A.deeper (envOfC qual scope s.heap.objs.size f cd)) (leaving (envOfC qual scope s.heap.objs.size f cd) e) (fun _ s''=>CX outer H s E e s'') (fun e' s''=>CX outer H s E e' s'') s'
theorem j0 {sc:Scope}{n:Nat}{x:Str}(h:sc.names.lookup x=some .cell):∃c,(cellsFrom n sc.names []).lookup x=some c:=by
 have q:=PySem.W.cellsFrom_some sc.names n [] (.inl h)
 exact Option.isSome_iff_exists.mp q
theorem mC {CX:nY}{P:Program}{w:World}{K:PySem.W.Frag}{mg:Str->Option Value}{base:Heap}{N ps:List Str}{qual:Str}{scope:Scope}{f:Addr}{cd:Value}{A:Around}{outer:List Env}{s s1:Shared}{H:Hp}{E:XK}{us:List Value}{vs:List V}
  (S:ar N ps scope) (hd:A.handled=none) (e0:Env0 P w K mg base A outer s H) (hl:vs.length=ps.length) (r:Vals vs us)
  (x:InCallC s s.heap.objs.size (bindL (envOfC qual scope s.heap.objs.size f cd).kindOf (ps.zip us) fun _=>none) (cellsFrom (s.heap.objs.size+1) scope.names []) (bindC (envOfC qual scope s.heap.objs.size f cd).kindOf (ps.zip us) fun _=>none) s1) :
  Inv (aQ CX P w K mg base N qual scope f cd A outer s H E) [] (start N vs) H s1:=by
 have hpl:ps.length≤N.length:=by have:=congrArg List.length S.pre;rw[List.length_take]at this;omega
 obtain⟨h1,tk,rfl,hk⟩:=x.done
 have noA:∀b:Addr,b∉(aQ CX P w K mg base N qual scope f cd A outer s H E).ex:=fun b z=>absurd (show b∈([]:List Addr) from z) (by simp)
 refine⟨⟨e0.mod,S.kind,rfl,rfl,Nat.le_refl _,fun y z c h1 h2=>?_,fun y hy=>?_,fun y c _ h=>?_,fun _=>hd,Around.frames_deeper e0.frames,.inr ⟨rfl,rfl⟩,fun b z=>absurd z (noA b),e0.bs,e0.bsz,fun b _ _=>noA b,fun b z=>absurd z (noA b),e0.funs,e0.frf⟩,
  rfl,e0.bare,Un.kept hk,⟨_,x.toInCall.ns,fun i y v h1 h2 h3=>?_⟩,fun y c h=>⟨_,x.cell y c h⟩,e0.hok.fresh (Nat.le_refl _),fun y c h=>?_,fun p hp=>absurd (show p∈([]:List (Addr×Obj)) from hp) (by simp),e0.hok.kept hk,?_⟩
 ·exact name_of_addr x.apart (PySem.mem_of_lookup h1) (PySem.mem_of_lookup h2)
 ·have hy:scope.names.lookup y=some .cell\/scope.names.lookup y=some .free:=hy
  rcases hy with hy | hy
  ·exact j0 hy
  ·exact absurd rfl (S.nofree _ (PySem.mem_of_lookup hy))
 ·exact Nat.le_of_lt (x.above y c (PySem.mem_of_lookup h))
 ·have hi:i<vs.length:=by
   unfold start at h2
   by_cases hi:i<vs.length
   ·exact hi
   ·rw[List.getElem?_append_right (by simpa using hi)]at h2
    rw[List.getElem?_replicate]at h2
    split at h2<;>cases h2
  have ha:vs[i]?=some v:=by
   unfold start at h2
   rw[List.getElem?_append_left (by simpa using hi),List.getElem?_map]at h2
   cases e:vs[i]? with
   | none=>rw[e]at h2;cases h2
   | some a=>rw[e]at h2;cases h2;rfl
  obtain⟨u,hu,rv⟩:=r.get ha
  have hp:ps[i]?=some y:=by
   rw[<-S.pre,List.getElem?_take_of_lt (by omega)];exact h1
  have ndP:ps.Nodup:=by rw[<-S.pre];exact S.nd.sublist (List.take_sublist _ _)
  refine⟨u,rv,?_⟩
  rcases S.par y (List.mem_of_getElem? hp) with k | k
  ·exact .inl ⟨k,ii ndP hp hu k⟩
  ·obtain⟨c,e⟩:=j0 (n:=s.heap.objs.size+1) k
   refine .inr ⟨.inl k,c,e,?_⟩
   have q:=x.cell y c e
   rw[ie ndP hp hu (by show scope.names.lookup y≠_;rw[k];decide)]at q
   exact q
 ·exact e0.hok.fresh (Nat.le_of_lt (x.above y c (PySem.mem_of_lookup h)))
 ·unfold start
  show _=N.length
  rw[List.length_append,List.length_map,List.length_replicate]
  omega
theorem lS {CX:nY}{P:Program}{w:World}{K:PySem.W.Frag}{mg:Str->Option Value}{base:Heap}{k:Nat}{f:Addr}{name qual:Str}{params:Arguments}{body:List Stmt}{scope:Scope}{dV kV doc pm cdv ct oc:Value}{an od:Option Addr}
  {osl:Array (Option Value)} {N ps:List Str} {sp:Sp} (lk:K.lookup f=some ⟨oc,od,.func (PySem.W.fnOf name qual params body scope dV kV doc pm an cdv ct),osl⟩) (hcd:PySem.W.codeIn K cdv qual=true) (S:ar N ps scope)
  (len:∀vs H Q E,sp vs H Q E->vs.length=ps.length)
  (hbody:∀(A:Around) (outer:List Env) (s:Shared) (H:Hp) (vs:List V) (Q:VK) (E:XK),Room k (A.deeper (envOfC qual scope s.heap.objs.size f cdv))->sp vs H Q E ->
   ∃t,PSs (aQ CX P w K mg base N qual scope f cdv A outer s H E) body t/\t { nx:=fun _ H'=>Q .non H',rt:=Q } (start N vs) H) :
  dE P w K mg base CX (k+1) f (PySem.W.fnOf name qual params body scope dV kV doc pm an cdv ct) ps sp:=by
 refine⟨len,fun A outer s H args us vs Q E hr e0 hb r hsp=>?_⟩
 have hl:=len _ _ _ _ hsp
 have KX:K.In s.heap:=e0.mod.kin.keeps fun b o e=>(e0.bs b o e).1
 have lim:s.heap.NoLimit:=e0.mod.nolimit.keeps fun b o e=>(e0.bs b o e).1
 have hkind:∀y∈ps.zip us,scope.names.lookup y.1=some .local\/(scope.names.lookup y.1=some .cell/\((cellsFrom (s.heap.objs.size+1) scope.names []).lookup y.1).isSome=true):=fun⟨n,v⟩ hy=>by
  rcases S.par n (List.of_mem_zip hy).1 with q | q
  ·exact .inl q
  ·exact .inr ⟨q,PySem.W.cellsFrom_some _ _ _ (.inl q)⟩
 refine codeAny_call_function hr.depth (KX _ _ lk) rfl S.co S.gen rfl (PySem.W.codeRec_of KX hcd) (hb _ _ _ _ ?_)
 refine wpAny_newFunctionEnv_cells S.kind hkind fun env he s1 x=>?_
 subst he
 refine⟨lim.keeps x.toInCall.keep,codeAny_func ?_⟩
 obtain⟨t,ht,hq⟩:=hbody A outer s H vs Q E (hr.deeper _) hsp
 have I:Inv (aQ CX P w K mg base N qual scope f cdv A outer s H E) [] (start N vs) H s1:=mC S hr.hd e0 hl r x
 refine wpAny_mono (ht [] s1 (start N vs) H _ I hq) (fun fl s' hs=>?_) fun e s' hs=>hs
 have fin:∀{σ':St} {H':Hp} {v:V} {u:Value},Inv (aQ CX P w K mg base N qual scope f cdv A outer s H E) [] σ' H' s'->RelV v u->Q v H'->CE outer P w H s Q u s' :=
  fun {σ' H' v u} J rv q=>⟨v,H',J.os,J.bare,J.base,J.hok,rv,q⟩
 cases fl with
 | ret u =>
  obtain⟨v,σ',H',J,rv,q⟩:=hs
  exact fin J rv q
 | next =>
  obtain⟨σ',H',J,q⟩:=hs
  exact fin (v:=V.non) (u:=Value.none) J rfl q
 | brk =>
  obtain⟨_,_,_,q⟩:=hs
  exact False.elim q
 | cont =>
  obtain⟨_,_,_,q⟩:=hs
  exact False.elim q
end L2
namespace L2
open PySem PySem.Spec PyProof.Rows
section
variable {X:Cx}{x:Str}{p pos:Pos}{e:Expr}{es:List Expr}{t:TA}{id T:String}{r:List V->Hp->VK->Prop}
def wG (r:List V->Hp->VK->Prop)(t:TA):TE:=fun σ H Q=>t σ H fun vs H1=>r vs H1 Q
theorem pX (hc:bU X (.builtin id) r)(hg:Gl X x)(hm:X.mg x=none)(hv:bootBuiltins x=some (.builtin id))(ha:PA X (e::es) t)(hn:x≠"__name__":=by decide)(hdb:(x == ("__debug__":Str))=false:=by decide)
  (he:starEach (e::es) X.env=(false,eval e X.env)::starEach es X.env:=by rfl) (hpl:(backTo pos (starEach es X.env)).any (·.1)=false:=by rfl):PE X (.Call (.Name x p) (e::es) [] pos) (wG r t):=by
 intro pins s σ H Q I h
 refine wpAny_Call_Name_kw (gq I hg hm hv ?_ hn hdb)
 exact PyProof.Rows.callWith_builtin1 (aS (ha pos pins s σ H _ I h) fun us s1 ⟨vs,H1,I1,r1,q1⟩=>hc pins s1 σ H1 vs us Q I1 r1 q1) he hpl
theorem nC (hc:bU X (.type T) r)(hg:Gl X x)(hm:X.mg x=none)(hv:bootBuiltins x=some (.type T))(ha:PA X (e::es) t)(hn:x≠"__name__":=by decide)(hdb:(x == ("__debug__":Str))=false:=by decide)
  (he:starEach (e::es) X.env=(false,eval e X.env)::starEach es X.env:=by rfl) (hpl:(backTo pos (starEach es X.env)).any (·.1)=false:=by rfl):PE X (.Call (.Name x p) (e::es) [] pos) (wG r t):=by
 intro pins s σ H Q I h
 refine wpAny_Call_Name_kw (gq I hg hm hv ?_ hn hdb)
 exact PyProof.Rows.callWith_type1 (aS (ha pos pins s σ H _ I h) fun us s1 ⟨vs,H1,I1,r1,q1⟩=>hc pins s1 σ H1 vs us Q I1 r1 q1) he hpl
end
end L2
namespace HT
open PySem PyProof.Rows
section
open PySem.SeqAt
open PySem.AutoSeq1 (wpAny_loadPart')
open PySem.MeetsSeq PySem.MeetsSeq2 PySem.MeetsSeq3
end
section
variable {prog:Program}{w:World}{A:Around}{E:Value->Shared->Prop}{s:Shared}
theorem cat_tup {t b:Addr}{vs ws:List Value}{Q:Value->Shared->Prop}(ht:IsTup s.heap t vs.toArray)(hb:IsTup s.heap b ws.toArray)(hv:vs≠[])
  (h1:ws=[]->Q (.ref t) s) (h2:ws≠[]->Q (.ref s.heap.objs.size) { s with heap:=s.heap.push { cls:=.type "tuple",data:=.seq (vs++ws).toArray } })
  (hsz:vs.length+ws.length≤sizeLine):wpAny (model prog w) A (binaryOp .Add (.ref t) (.ref b)) Q E s:=by
 obtain⟨⟨cls,dd,data,sl⟩,ho,hc,n,hd⟩:=id ht
 obtain⟨⟨cls2,dd2,data2,sl2⟩,ho2,hc2,n2,hd2⟩:=id hb
 simp only at hc hd hc2 hd2
 subst hc hd hc2 hd2
 have e:vs.toArray++ws.toArray=(vs++ws).toArray:=by simp
 by_cases hw:ws=[]
 ·exact concat_meets ⟨_,ho,rfl⟩ ⟨_,ho2,rfl⟩ noFill_tuple_add seq_tuple_add PySem.F.slot_tuple_add PySem.F.entry_tuple_add (PySem.F.args_tuple_add_2 _ _)
   (tuple_addW1 t b vs.toArray ws.toArray n n2 dd dd2 sl sl2 (by simpa using hv) (by simp[hw])) ⟨ho,ho2,h1 hw⟩
 ·refine concat_meets ⟨_,ho,rfl⟩ ⟨_,ho2,rfl⟩ noFill_tuple_add seq_tuple_add PySem.F.slot_tuple_add PySem.F.entry_tuple_add (PySem.F.args_tuple_add_2 _ _)
   (tuple_addW2 t b vs.toArray ws.toArray n n2 dd dd2 sl sl2 (by simpa using hv) (by simpa using hw) (by rw[List.size_toArray,List.size_toArray];exact hsz)) ⟨ho,ho2,?_⟩
  rw[e]
  exact h2 hw
def sIx (n d:Nat):Option Int->Nat
 | none=>d
 | some v=>if v<0 then (v+(n:Int)).toNat else min v.toNat n
theorem sIx_none (n d:Nat):sIx n d none=d:=rfl
theorem sIx_nat (n d k:Nat):sIx n d (some (k:Int))=min k n:=by
 show (if (k:Int)<0 then ((k:Int)+(n:Int)).toNat else min (k:Int).toNat n)=min k n
 rw[if_neg (by omega),Int.toNat_natCast]
theorem wF (n d:Nat)(hd:d≤n)(o:Option Int):sIx n d o≤n:=by
 cases o with
 | none=>exact hd
 | some v =>
  show (if v<0 then (v+(n:Int)).toNat else min v.toNat n)≤n
  by_cases hv:v<0
  ·rw[if_pos hv];omega
  ·rw[if_neg hv];exact Nat.min_le_right _ _
theorem lY (v:Int)(n d:Nat):(if v<0 then max (v+(n:Int)) 0 else min v (n:Int))=((sIx n d (some v):Nat):Int):=by
 show (if v<0 then max (v+(n:Int)) 0 else min v (n:Int))=(((if v<0 then (v+(n:Int)).toNat else min v.toNat n):Nat):Int)
 by_cases hv:v<0
 ·simp only[if_pos hv];omega
 ·simp only[if_neg hv];omega
theorem ku (lo hi:Option Int)(n:Nat):Builtin.Slice.sliceAdjust lo hi 1 (n:Int)=(((sIx n 0 lo:Nat):Int),((sIx n n hi:Nat):Int)):=by
 have h1:¬ ((1:Int)<0):=by omega
 unfold Builtin.Slice.sliceAdjust
 simp only[h1,if_false]
 refine Prod.ext ?_ ?_
 ·cases lo with
  | none=>rfl
  | some v=>exact lY v n 0
 ·cases hi with
  | none=>rfl
  | some v=>exact lY v n n
theorem kK (i j:Nat):Builtin.Slice.slicePlaces (i:Int) (j:Int) 1=j-i:=by
 unfold Builtin.Slice.slicePlaces
 have h1:(1:Int)>0:=by omega
 simp only[h1,if_true,Int.ediv_one]
 split<;>omega
theorem gH {v:Value}{o:Option Int}{Q:Option Int->Shared->Prop}(p:IsPart v o)(h:Q o s):wpAny (model prog w) A (Builtin.Slice.slicePartIndex v) Q E s:=by
 cases p with
 | none=>exact slicePart_none h
 | int i t=>exact slicePart_int h
theorem e6 {sl:Addr}{vl vu:Value}{lo hi:Option Int}{n:Nat}{Q:Int×Int×Nat->Shared->Prop}(hs:s.heap.IsSliceOf sl vl vu .none)(pl:IsPart vl lo)(pu:IsPart vu hi)
  (h:Q (((sIx n 0 lo:Nat):Int),1,sIx n n hi-sIx n 0 lo) s):wpAny (model prog w) A (Builtin.Slice.sliceApplied (.ref sl) (pure (n:Int))) Q E s:=by
 obtain⟨os,hos,hcs,hds⟩:=id hs
 unfold Builtin.Slice.sliceApplied Builtin.Slice.sliceFields
 refine wpAny_bind (wpAny_bind (wpAny_field hos hds (x:=vl) rfl (wpAny_bind (wpAny_field hos hds (x:=vu) rfl (wpAny_bind (wpAny_field hos hds (x:=.none) rfl (wpAny_pure ?_)))))))
 refine wpAny_bind (slicePart_none ?_)
 show wpAny _ _ (if ((1:Int) == 0)=true then _ else _) _ _ s
 rw[if_neg (by decide)]
 refine wpAny_bind (gH pl (wpAny_bind (gH pu (wpAny_bind (wpAny_pure ?_)))))
 show wpAny _ _ (match Builtin.Slice.sliceAdjust lo hi 1 (n:Int) with | (lo,hi)=>pure (lo,(1:Int),Builtin.Slice.slicePlaces lo hi 1)) _ _ s
 rw[ku lo hi n]
 show wpAny _ _ (pure (((sIx n 0 lo:Nat):Int),(1:Int),Builtin.Slice.slicePlaces ((sIx n 0 lo:Nat):Int) ((sIx n n hi:Nat):Int) 1)) _ _ s
 rw[kK]
 exact wpAny_pure h
theorem ow (xs:Array Value)(i k:Nat):((List.range k).filterMap fun (m:Nat)=>xs[((i:Int)+(m:Int)*1).toNat]?).toArray=((xs.toList.drop i).take k).toArray:=by
 have e:(fun (m:Nat)=>xs[((i:Int)+(m:Int)*1).toNat]?)=fun m=>xs[i+m]?:=by
  funext m
  have:((i:Int)+(m:Int)*1).toNat=i+m:=by omega
  rw[this]
 rw[e]
 have:=pick_run xs i k
 rw[List.filterMap_map]at this
 have e2:((fun x=>xs[x]?)∘fun x=>i+x)=fun m=>xs[i+m]?:=rfl
 rw[e2]at this
 rw[this]
theorem getItem_tuple_cut {t sl:Addr}{items:Array Value}{vl vu:Value}{lo hi:Option Int}{Q:Value->Shared->Prop}(ht:IsTup s.heap t items)(hs:s.heap.IsSliceOf sl vl vu .none)(pl:IsPart vl lo)(pu:IsPart vu hi)
  (hw:¬ (sIx items.size 0 lo=0/\sIx items.size items.size hi=items.size))
  (h:Q (.ref s.heap.objs.size) { s with heap:=s.heap.push { cls:=.type "tuple",data:=.seq ((items.toList.drop (sIx items.size 0 lo)).take (sIx items.size items.size hi-sIx items.size 0 lo)).toArray } })
  (hsz:items.size≤sizeLine):wpAny (model prog w) A (getItem (.ref t) (.ref sl)) Q E s:=by
 have htake:sizeOk (.seq ((items.toList.drop (sIx items.size 0 lo)).take (sIx items.size items.size hi-sIx items.size 0 lo)).toArray):=by
  show ((items.toList.drop (sIx items.size 0 lo)).take (sIx items.size items.size hi-sIx items.size 0 lo)).toArray.size≤sizeLine
  rw[List.size_toArray,List.length_take,List.length_drop,Array.length_toList]
  omega
 have hj:sIx items.size items.size hi≤items.size:=wF _ _ (Nat.le_refl _) hi
 obtain⟨os,hos,hcs,hds⟩:=id hs
 have hTs:s.TypeIs (.ref sl) "slice":=⟨os,hos,hcs⟩
 unfold getItem
 try with_reducible refine wpAny_holding ?_
 first | refine wpAny_bind (wpAny_pure ?_) | skip
 refine wpAny_bind (wpAny_sequenceKey ht.typeIs (by decide) ?_)
 refine wpAny_bind (wpAny_callSpecial?_slot (name:=Str.ofString "__getitem__") ht.typeIs PyProof.Rows.slot_tuple_getitem
  (wpAny_call_entry PyProof.Rows.slot_tuple_getitem ht.typeIs entry_tuple_getitem ?_ (args_tuple_getitem _ _)))
 show wpAny _ _ (Builtin.Tuple.tupleItemsOf (.ref t)>>=_) _ _ s
 refine wpAny_bind (tupleItemsOf_ ht ?_)
 refine wpAny_bind (wpAny_typeOf hTs ?_)
 rw[if_pos (by decide)]
 refine wpAny_bind (e6 hs pl pu ?_)
 have hno:¬ ((((sIx items.size 0 lo:Nat):Int) == 0&&(1:Int) == 1&&(sIx items.size items.size hi-sIx items.size 0 lo) == items.size)=true):=by
  intro q
  rw[Bool.and_eq_true,Bool.and_eq_true]at q
  have q1:((sIx items.size 0 lo:Nat):Int)=0:=eq_of_beq q.1.1
  have q2:sIx items.size items.size hi-sIx items.size 0 lo=items.size:=eq_of_beq q.2
  exact hw ⟨by omega,by omega⟩
 show wpAny _ _ (if (((sIx items.size 0 lo:Nat):Int) == 0&&(1:Int) == 1&&(sIx items.size items.size hi-sIx items.size 0 lo) == items.size)=true then _ else _) _ _ s
 rw[if_neg hno,ow]
 first
  | exact wpAny_bind (m:=Builtin.Tuple.tupleExact _) (wpAny_newObj_type (wpAny_pure ⟨_,rfl,wpAny_pure h⟩) htake)
  | exact wpAny_bind (m:=Builtin.Tuple.tupleExact _) (wpAny_newObj_type (wpAny_bind (wpAny_pure (wpAny_pure ⟨_,rfl,wpAny_pure h⟩))) htake)
  | exact wpAny_bind (wpAny_bind (m:=Builtin.Tuple.tupleExact _) (wpAny_newObj_type (wpAny_pure (wpAny_pure ⟨_,rfl,wpAny_pure h⟩)) htake))
  | exact wpAny_bind (wpAny_bind (m:=Builtin.Tuple.tupleExact _) (wpAny_newObj_type (wpAny_pure ⟨_,rfl,wpAny_pure h⟩) htake))
end
end HT
namespace L2
open PySem PySem.Spec PyProof.Rows
abbrev TO:=St->Hp->(Option Int->Hp->Prop)->Prop
def PO (X:Cx)(e:Option Expr)(t:TO):Prop :=
 ∀(pins:List (Addr×Obj)) (s:Shared) (σ:St) (H:Hp) (Q:Option Int->Hp->Prop),Inv X pins σ H s->t σ H Q ->
  wpAny (model X.prog X.w) X.A (evalPart e X.env) (fun u s'=>∃o H',Inv X pins σ H' s'/\IsPart u o/\Q o H') X.xe s
def lB:TO:=fun _ H Q=>Q none H
def qC (t:TE):TO:=fun σ H Q=>t σ H fun x H1=>∃i,x=.int i/\Q (some i) H1
section
variable {X:Cx}{e:Expr}{te:TE}{lo hi:Option Expr}{tl th:TO}{pos p2:Pos}
theorem qS:PO X none lB:=by
 intro pins s σ H Q I h
 rw[evalPart_none]
 exact wpAny_pure ⟨none,H,I,.none,h⟩
theorem qZ (h:PE X e te):PO X (some e) (qC te):=by
 intro pins s σ H Q I hw
 rw[evalPart_some]
 refine aS (h pins s σ H _ I hw) fun u s1 ⟨x,H1,I1,r1,q1⟩=>?_
 obtain⟨i,rfl,q⟩:=q1
 obtain⟨t,rfl⟩:=r1
 exact⟨some i,H1,I1,.int i t,q⟩
def wK (X:Cx)(r:V->Option Int->Option Int->Hp->VK->Prop):Prop :=
 ∀(pins:List (Addr×Obj)) (s:Shared) (σ:St) (H:Hp) (x:V) (v vl vu:Value) (lo hi:Option Int) (sl:Addr) (Q:VK),Inv X pins σ H s->RelV x v->s.heap.IsSliceOf sl vl vu .none->IsPart vl lo->IsPart vu hi->r x lo hi H Q ->
  ∃T id,typeLookup (.type T) "__getitem__"=pure (some (.builtin id))/\s.TypeIs v T/\wpAny (model X.prog X.w) X.A (getItem v (.ref sl)) (EP X pins σ Q) X.xe s
def zh (r:V->Option Int->Option Int->Hp->VK->Prop)(te:TE)(tl th:TO):TE:=fun σ H Q=>te σ H fun x H1=>tl σ H1 fun l H2=>th σ H2 fun u H3=>r x l u H3 Q
theorem oE {r:V->Option Int->Option Int->Hp->VK->Prop}(hr:wK X r)(he:PE X e te)(hl:PO X lo tl)(hu:PO X hi th):PE X (.Subscript e (.Slice lo hi none p2) pos) (zh r te tl th):=by
 intro pins s σ H Q I h
 refine Subscript_ (aS (he pins s σ H _ I h) fun v s1 ⟨x,H1,I1,r1,q1⟩=>?_)
 refine wpAny_Slice (aS (hl pins s1 σ H1 _ I1 q1) fun vl s2 ⟨l,H2,I2,pl,q2⟩=>aS (hu pins s2 σ H2 _ I2 q2) fun vu s3 ⟨u,H3,I3,pu,q3⟩=>?_)
 rw[evalPart_none]
 refine wpAny_pure ?_
 have I4:Inv X pins σ H3 { s3 with heap:=s3.heap.push { cls:=.type "slice",data:=.fields #[vl,vu,.none] } }:=I3.kept (t':=s3.toks) fun b ob q=>Heap.get?_push_of_some _ q
 obtain⟨T,id,hT,ht,hg⟩:=hr pins { s3 with heap:=s3.heap.push { cls:=.type "slice",data:=.fields #[vl,vu,.none] } } σ H3 x v vl vu l u s3.heap.objs.size Q I4 r1 (Heap.IsSliceOf.new ..) pl pu q3
 show wpAny (model X.prog X.w) X.A (subscriptTail e (.Slice lo hi none p2) v (.ref s3.heap.objs.size)) (EP X pins σ Q) X.xe { s3 with heap:=s3.heap.push { cls:=.type "slice",data:=.fields #[vl,vu,.none] } }
 exact tail_any (ops:=[.ref s3.heap.objs.size,v]) ht hT hg (by with_unfolding_all rfl)
def e9 (xs:List V)(lo hi:Option Int):List V:=(xs.drop (HT.sIx xs.length 0 lo)).take (HT.sIx xs.length xs.length hi-HT.sIx xs.length 0 lo)
theorem fz (xs:List V)(lo hi:Option Int):(e9 xs lo hi).length≤xs.length:=by
 unfold e9
 rw[List.length_take,List.length_drop]
 omega
def yL (K:PySem.W.Frag):V->Option Int->Option Int->Hp->VK->Prop:=fun x lo hi H Q=>∃a xs,x=.ref a/\SqT K H a xs /\
 ¬ (HT.sIx xs.length 0 lo=0/\HT.sIx xs.length xs.length hi=xs.length)/\∀p,H p=none->Q (.ref p) (upd H p (.tup (e9 xs lo hi)))
theorem wa:wK X (yL X.K):=by
 intro pins s σ H x v vl vu lo hi sl Q I rx hs pl pu h
 obtain⟨a,xs,rfl,hx,hw,q⟩:=h
 cases rx
 obtain⟨its,r,ht,hz⟩:=I.tuple hx
 have hlen:its.toArray.size=xs.length:=by rw[List.size_toArray];exact r.length.symm
 refine⟨"tuple",_,PyProof.Rows.slot_tuple_getitem.lookup,ht.typeIs,?_⟩
 refine HT.getItem_tuple_cut ht hs pl pu (by rw[hlen];exact hw) ?_ (by rw[hlen];exact hz)
 rw[hlen]
 refine⟨.ref s.heap.objs.size,_,I.laid (t':=s.toks) (o:=.tup (e9 xs lo hi)) (fun b ob q=>Heap.get?_push_of_some _ q) (Nat.le_refl _) ?_,rfl,q _ (I.hok.fresh (Nat.le_refl _))⟩
 exact⟨Nat.le_trans (fz xs lo hi) hz,_,(r.drop (HT.sIx xs.length 0 lo)).take (HT.sIx xs.length xs.length hi-HT.sIx xs.length 0 lo),IsTup.new _ _⟩
def w8 (K:PySem.W.Frag):R2:=fun x y H Q=>∃a b xs ys,x=.ref a/\y=.ref b/\SqT K H a xs/\SqT K H b ys/\xs≠[]/\xs.length+ys.length≤sizeLine /\
 (ys=[]->Q (.ref a) H)/\(ys≠[]->∀p,H p=none->Q (.ref p) (upd H p (.tup (xs++ys))))
theorem Vals.nil_iff {xs:List V}{us:List Value}(r:Vals xs us):us=[]↔xs=[]:=by
 cases r with
 | nil=>simp
 | cons _ _=>simp
theorem s0:bo X (binaryOp .Add) (w8 X.K):=by
 intro pins s σ H x y v u Q I rx ry h
 obtain⟨a,b,xs,ys,rfl,rfl,ha,hb,hx,hz,q1,q2⟩:=h
 cases rx
 cases ry
 obtain⟨its,r1,p1,_⟩:=I.tuple ha
 obtain⟨its2,r2,p2,_⟩:=I.tuple hb
 refine HT.cat_tup p1 p2 (fun z=>hx (r1.nil_iff.mp z)) (fun z=>⟨.ref a,H,I,rfl,q1 (r2.nil_iff.mp z)⟩) (fun z=>?_) (by rw[<-r1.length,<-r2.length];exact hz)
 refine⟨.ref s.heap.objs.size,_,I.laid (t':=s.toks) (o:=.tup (xs++ys)) (fun b ob q=>Heap.get?_push_of_some _ q) (Nat.le_refl _) ?_,rfl,q2 (fun w=>z (r2.nil_iff.mpr w)) _ (I.hok.fresh (Nat.le_refl _))⟩
 exact⟨by rw[List.length_append];exact hz,_,r1.append r2,IsTup.new _ _⟩
end
end L2
namespace L2
open PySem PySem.Spec PyProof.Rows
def qu (n:Nat)(i:Int):Option Nat:=if 0≤i then (if i<n then some i.toNat else none) else if -(n:Int)≤i then some (i+n).toNat else none
def j3 {α:Type}(xs:List α)(i:Int):Option α:=(qu xs.length i).bind fun j=>xs[j]?
theorem lX {n:Nat}{i:Int}{j:Nat}(h:qu n i=some j):seqIndex? i n=some j/\j<n/\-(n:Int)≤i/\i<n:=by
 unfold qu at h
 by_cases h0:0≤i
 ·rw[if_pos h0]at h
  by_cases h1:i<n
  ·rw[if_pos h1]at h
   have e:i.toNat=j:=Option.some.inj h
   exact⟨by rw[seqIndex_of h0 h1,e],by omega,by omega,h1⟩
  ·rw[if_neg h1]at h;cases h
 ·rw[if_neg h0]at h
  by_cases h1:-(n:Int)≤i
  ·rw[if_pos h1]at h
   have e:(i+n).toNat=j:=Option.some.inj h
   exact⟨by rw[seqIndex_neg (by omega) h1,e],by omega,h1,by omega⟩
  ·rw[if_neg h1]at h;cases h
theorem iZ {α:Type}{xs:List α}{i:Int}{v:α}(h:j3 xs i=some v):∃j,seqIndex? i xs.length=some j/\xs[j]?=some v/\j<xs.length/\-(xs.length:Int)≤i/\i<xs.length:=by
 unfold j3 at h
 cases e:qu xs.length i with
 | none=>rw[e]at h;cases h
 | some j =>
  rw[e]at h
  obtain⟨h1,h2,h3,h4⟩:=lX e
  exact⟨j,h1,h,h2,h3,h4⟩
theorem aG {α:Type}{xs:List α}{j:Nat}{v:α}(h:xs[j]?=some v):j3 xs (j:Int)=some v:=by
 have hj:j<xs.length:=(List.getElem?_eq_some_iff.mp h).1
 have e:qu xs.length (j:Int)=some j:=by
  unfold qu
  rw[if_pos (by omega),if_pos (by omega)];simp
 unfold j3;rw[e];exact h
theorem jk {α:Type}(xs:List α)(v:α):j3 (xs++[v]) (-1)=some v:=by
 have hl:(xs++[v]).length=xs.length+1:=by simp
 have e:qu (xs++[v]).length (-1)=some xs.length:=by
  unfold qu
  rw[hl,if_neg (by decide),if_pos (by omega)]
  congr 1
  omega
 unfold j3
 rw[e]
 show (xs++[v])[xs.length]?=some v
 simp
def lN (b:Expr):Prop:=∀o i,subscripted b false o i=operate [o,i] (getItem o i)
def tq (X:Cx)(r:R2):Prop :=
 ∀(value slice:Expr) (pins:List (Addr×Obj)) (s:Shared) (σ:St) (H:Hp) (x y:V) (v u:Value) (Q:VK),Inv X pins σ H s->RelV x v->RelV y u->r x y H Q ->
  subscripted slice false v u=operate [v,u] (getItem v u)->wpAny (model X.prog X.w) X.A (subscriptTail value slice v u) (EP X pins σ Q) X.xe s
def nZ (X:Cx)(id:String)(r:V->List V->Hp->VK->Prop):Prop :=
 ∀(pins:List (Addr×Obj)) (s:Shared) (σ:St) (H:Hp) (x:V) (xs:List V) (v:Value) (us:List Value) (Q:VK),Inv X pins σ H s->RelV x v->Vals xs us->r x xs H Q ->
  wpAny (model X.prog X.w) X.A (call (.builtin id) (v::us)) (EP X pins σ Q) X.xe s
section
variable {X:Cx}{a b:Expr}{ta tb:TE}{pos:Pos}
theorem xN {r:R2}(hr:tq X r)(ha:PE X a ta)(hb:PE X b tb)(hs:lN b):PE X (.Subscript a b pos) (pf r ta tb):=by
 intro pins s σ H Q I h
 exact Subscript_ (uY ha hb I h fun v u s2 x y H2 I2 rx ry q=>hr a b pins s2 σ H2 x y v u Q I2 rx ry q (hs _ _))
def yJ (K:PySem.W.Frag):R2:=fun x y H Q=>∃p xs i v,x=.ref p/\y=.int i/\SqL K H p xs/\j3 xs i=some v/\Q v H
def zf (K:PySem.W.Frag):R2:=fun x y H Q=>∃p xs i v,x=.ref p/\y=.int i/\SqT K H p xs/\j3 xs i=some v/\Q v H
def yV:R2:=fun x y H Q=>∃z i c,x=.str z/\y=.int i/\z.length≤sizeLine/\j3 z.cps.toList i=some c/\Q (.str ⟨#[c]⟩) H
theorem tF:tq X (yJ X.K):=by
 intro value slice pins s σ H x y v u Q I rx ry h hs
 obtain⟨p,xs,i,z,rfl,rfl,hq,he,q⟩:=h
 cases rx
 obtain⟨t,rfl⟩:=ry
 obtain⟨its,r,pl,hz⟩:=I.list hq
 obtain⟨j,h1,h2,h3,h4,h5⟩:=iZ he
 obtain⟨w,ew,rw'⟩:=r.get h2
 have hl:=r.length
 have hn:=eW
 have fin:EP X pins σ Q w s:=⟨z,H,I,rw',q⟩
 by_cases h0:0≤i
 ·have hj:i.toNat=j:=by
   rw[seqIndex_of h0 h5]at h1
   exact Option.some.inj h1
  exact item_listR pl.isList h0 (by omega) (by rw[hj];simpa using ew) fin hs
 ·have hj:(i+(its.toArray.size:Int)).toNat=j:=by
   rw[seqIndex_neg (by omega) h4]at h1
   rw[List.size_toArray,<-hl]
   exact Option.some.inj h1
  exact subscriptTail_builtinR (x:=w) pl.isList.typeIs slot_list_getitem.lookup
   (wpAny_getItem_list_neg (Q:=fun r s'=>r=w/\EP X pins σ Q r s') pl.isList (by omega) (by rw[List.size_toArray]<;>omega) (by omega) (by rw[hj];simpa using ew) ⟨rfl,fin⟩) hs
theorem uN:tq X (zf X.K):=by
 intro value slice pins s σ H x y v u Q I rx ry h hs
 obtain⟨p,xs,i,z,rfl,rfl,hq,he,q⟩:=h
 cases rx
 obtain⟨t,rfl⟩:=ry
 obtain⟨its,r,pl,hz⟩:=I.tuple hq
 obtain⟨j,h1,h2,h3,h4,h5⟩:=iZ he
 obtain⟨w,ew,rw'⟩:=r.get h2
 have hl:=r.length
 have hn:=eW
 have fin:EP X pins σ Q w s:=⟨z,H,I,rw',q⟩
 exact subscriptTail_builtinR (x:=w) pl.typeIs slot_tuple_getitem.lookup
  (getItem_tuple (j:=j) (Q:=fun r s'=>r=w/\EP X pins σ Q r s') pl (by omega) (by omega) (by rw[List.size_toArray,<-hl];exact h1) (by simpa using ew) ⟨rfl,fin⟩) hs
theorem uJ:tq X yV:=by
 intro value slice pins s σ H x y v u Q I rx ry h hs
 obtain⟨z,i,c,rfl,rfl,hz,he,q⟩:=h
 obtain⟨t,rfl⟩:=rx
 obtain⟨t',rfl⟩:=ry
 obtain⟨j,h1,h2,h3,h4,h5⟩:=iZ he
 have hl:z.cps.toList.length=z.length:=by simp[Str.length]
 rw[hl]at h1 h4 h5
 have hn:=eW
 exact tail_any (typeIs_str s z t) slot_str_getitem.lookup (getItem_str (c:=c) (by
  have e1:decide (i < -(2 ^ 63:Int))=false:=decide_eq_false (by omega)
  have e2:decide (i≥2 ^ 63)=false:=decide_eq_false (by omega)
  rw[e1,e2,Bool.or_false]) (by rw[h1];simpa using h2) ⟨.str ⟨#[c]⟩,H,I.tok _,⟨_,rfl⟩,q⟩) hs
theorem kB (its:List Value)(n j:Nat)(u:Value):Obj.mapSeq (·.setIfInBounds j u) { cls:=.type "list",data:=.seq its.toArray n }={ cls:=.type "list",data:=.seq (its.set j u).toArray n }:=by
 simp[Obj.mapSeq]
theorem Inv.lst {pins:List (Addr×Obj)}{σ:St}{H:Hp}{s:Shared}{p:Addr}{xs:List V}(I:Inv X pins σ H s)(h:H p=some (.lst xs)) :
  ∃(its:List Value) (n:Nat),Vals xs its/\s.heap.get? p=some { cls:=.type "list",data:=.seq its.toArray n }/\xs.length≤sizeLine:=by
 obtain⟨z,its,n,r,e⟩:=I.hok p _ h
 exact⟨its,n,r,e,z⟩
theorem Inv.lstUpd {pins:List (Addr×Obj)}{σ:St}{H:Hp}{s:Shared}{p:Addr}{xs ys:List V}{its its':List Value}{n n':Nat}{f:Obj->Obj}(I:Inv X pins σ H s)(h:H p=some (.lst xs))
  (ho:s.heap.get? p=some { cls:=.type "list",data:=.seq its.toArray n }) (hf:f { cls:=.type "list",data:=.seq its.toArray n }={ cls:=.type "list",data:=.seq its'.toArray n' }) (r:Vals ys its') (hz:ys.length≤sizeLine) (t:Nat) :
  Inv X pins σ (upd H p (.lst ys)) { s with heap:=s.heap.update p f,toks:=t }:=by
 have e:(s.heap.update p f).get? p=some { cls:=.type "list",data:=.seq its'.toArray n' }:=by
  rw[Heap.get?_update_self f ho (by rw[hf]<;>rfl),hf]
 refine I.write (x:=p) (e:=p) (by rw[h];trivial) (.inl rfl) (fun b u hb q=>(Heap.get?_update_other _ _ (Ne.symm hb)).trans q) ⟨_,e⟩ ?_
 exact⟨hz,its',n',r,e⟩
def uv:V->V->V->Hp->(Hp->Prop)->Prop:=fun o i v H Q=>∃p xs k j,o=.ref p/\i=.int k/\H p=some (.lst xs)/\qu xs.length k=some j/\Q (upd H p (.lst (xs.set j v)))
theorem pe:xQ X uv:=by
 intro pins s σ H o i v ov iv u Q I ro ri rv h
 obtain⟨p,xs,k,j,rfl,rfl,hp,hj,q⟩:=h
 cases ro
 obtain⟨t,rfl⟩:=ri
 obtain⟨its,n,r,ho,hz⟩:=I.lst hp
 obtain⟨h1,h2,h3,h4⟩:=lX hj
 have hl:=r.length
 have hn:=eW
 have I':Inv X pins σ (upd H p (.lst (xs.set j v))) { s with heap:=s.heap.update p (Obj.mapSeq (·.setIfInBounds j u)) } :=
  I.lstUpd hp ho (kB its n j u) (r.set rv j) (by rw[List.length_set];exact hz) s.toks
 by_cases h0:0≤k
 ·have hk:k.toNat=j:=by
   rw[seqIndex_of h0 h4]at h1
   exact Option.some.inj h1
  exact PySem.W.ki_setAt ho h0 (by omega) (by rw[List.size_toArray,<-hl];exact h4) (by rw[hk];exact⟨_,I',q⟩)
 ·have hk:(k+(its.toArray.size:Int)).toNat=j:=by
   rw[seqIndex_neg (by omega) h3]at h1
   rw[List.size_toArray,<-hl]
   exact Option.some.inj h1
  exact PySem.W.ki_setBack ho (by omega) (by rw[List.size_toArray,<-hl];exact h3) (by omega) (by rw[hk];exact⟨_,I',q⟩)
theorem i7 (lo hi:Option Int)(n:Nat):(sliceBounds lo hi none n).1=((HT.sIx n 0 lo:Nat):Int)/\(sliceBounds lo hi none n).2.1=((HT.sIx n n hi:Nat):Int)/\(sliceBounds lo hi none n).2.2=1:=by
 refine⟨?_,?_,rfl⟩
 ·cases lo with
  | none=>simp[sliceBounds,HT.sIx]
  | some i =>
   simp only[sliceBounds,HT.sIx,Option.getD_none,show (1:Int)>0 by decide,if_true]
   by_cases h:i<0
   ·simp only[h,if_true]<;>omega
   ·simp only[h,if_false]<;>omega
 ·cases hi with
  | none=>simp[sliceBounds,HT.sIx]
  | some i =>
   simp only[sliceBounds,HT.sIx,Option.getD_none,show (1:Int)>0 by decide,if_true]
   by_cases h:i<0
   ·simp only[h,if_true]<;>omega
   ·simp only[h,if_false]<;>omega
theorem g8 (its:List Value)(lo hi:Option Int):slicePick its.toArray lo hi none=((its.drop (HT.sIx its.length 0 lo)).take (HT.sIx its.length its.length hi-HT.sIx its.length 0 lo)).toArray:=by
 obtain⟨h1,h2,h3⟩:=i7 lo hi its.toArray.size
 unfold slicePick
 rw[h1,h2,h3]
 simp only[sliceRange_one,pick_run,List.size_toArray]<;>rfl
def yC (K:PySem.W.Frag):V->Option Int->Option Int->Hp->VK->Prop:=fun x lo hi H Q=>∃a xs,x=.ref a/\SqL K H a xs/\∀p,H p=none->Q (.ref p) (upd H p (.lst (e9 xs lo hi)))
theorem sP:wK X (yC X.K):=by
 intro pins s σ H x v vl vu lo hi sl Q I rx hs pl pu h
 obtain⟨a,xs,rfl,hx,q⟩:=h
 cases rx
 obtain⟨its,r,ht,hz⟩:=I.list hx
 have hlen:=r.length
 refine⟨"list",_,slot_list_getitem.lookup,ht.isList.typeIs,?_⟩
 refine wpAny_getItem_list_slice ht.isList hs pl pu .none (by simp) ?_ (by rw[List.size_toArray]<;>omega)
 rw[g8,<-hlen]
 refine⟨.ref s.heap.objs.size,_,I.laid (t':=s.toks) (o:=.lst (e9 xs lo hi)) (fun b ob q=>Heap.get?_push_of_some _ q) (Nat.le_refl _) ?_,rfl,q _ (I.hok.fresh (Nat.le_refl _))⟩
 exact⟨Nat.le_trans (fz xs lo hi) hz,_,0,(r.drop (HT.sIx xs.length 0 lo)).take (HT.sIx xs.length xs.length hi-HT.sIx xs.length 0 lo),Heap.get?_push_size _ rfl⟩
def dq:V->Bool
 | .non=>true
 | .bl _=>true
 | .int _=>true
 | .str _=>true
 | _=>false
def qJ:V->V->Bool
 | .non,.non=>true
 | .bl a,.bl b=>a == b
 | .bl a,.int b=>(if a then 1 else 0) == b
 | .int a,.bl b=>a == (if b then 1 else 0)
 | .int a,.int b=>a == b
 | .str a,.str b=>a == b
 | _,_=>false
theorem u4 {A:Around}{s:Shared}{y x:V}{u v:Value}(ry:RelV y u)(rx:RelV x v)(fy:dq y=true)(fx:dq x=true):SeqAt.EqAt A s u v (qJ y x):=by
 cases y with
 | non =>
  cases ry
  cases x with
  | non=>cases rx;exact SeqAt.EqAt.same _
  | bl b=>cases rx;exact SeqAt.EqAt.none_bool b
  | int b=>obtain⟨t,rfl⟩:=rx;exact SeqAt.EqAt.none_int b t
  | str b=>obtain⟨t,rfl⟩:=rx;exact SeqAt.EqAt.none_str b t
  | _=>exact absurd (show false=true from fx) Bool.false_ne_true
 | bl a =>
  cases ry
  cases x with
  | non=>cases rx;exact SeqAt.EqAt.bool_none a
  | bl b=>cases rx;exact SeqAt.EqAt.bool_bool a b
  | int b=>obtain⟨t,rfl⟩:=rx;exact SeqAt.EqAt.bool_int a b t
  | str b=>obtain⟨t,rfl⟩:=rx;exact SeqAt.EqAt.bool_str a b t
  | _=>exact absurd (show false=true from fx) Bool.false_ne_true
 | int a =>
  obtain⟨t',rfl⟩:=ry
  cases x with
  | non=>cases rx;exact SeqAt.EqAt.int_none a t'
  | bl b=>cases rx;exact SeqAt.EqAt.int_bool a t' b
  | int b=>obtain⟨t,rfl⟩:=rx;exact SeqAt.EqAt.int_int a t' b t
  | str b=>obtain⟨t,rfl⟩:=rx;exact SeqAt.EqAt.int_str a t' b t
  | _=>exact absurd (show false=true from fx) Bool.false_ne_true
 | str a =>
  obtain⟨t',rfl⟩:=ry
  cases x with
  | non=>cases rx;exact SeqAt.EqAt.str_none a t'
  | bl b=>cases rx;exact SeqAt.EqAt.str_bool a t' b
  | int b=>obtain⟨t,rfl⟩:=rx;exact SeqAt.EqAt.str_int a t' b t
  | str b=>obtain⟨t,rfl⟩:=rx;exact SeqAt.EqAt.str_str a t' b t
  | _=>exact absurd (show false=true from fx) Bool.false_ne_true
 | _=>exact absurd (show false=true from fy) Bool.false_ne_true
def tH (x:V)(u:Value):Bool:=match u with
 | .none=>qJ .non x
 | .bool b=>qJ (.bl b) x
 | .int i _=>qJ (.int i) x
 | .str z _=>qJ (.str z) x
 | _=>false
theorem pW {x y:V}{u:Value}(r:RelV y u)(f:dq y=true):tH x u=qJ y x:=by
 cases y with
 | non=>cases r;rfl
 | bl b=>cases r;rfl
 | int i=>obtain⟨t,rfl⟩:=r;rfl
 | str z=>obtain⟨t,rfl⟩:=r;rfl
 | _=>exact absurd (show false=true from f) Bool.false_ne_true
theorem iO {x:V}:∀{xs:List V} {us:List Value},Vals xs us->xs.all dq=true->us.any (tH x)=xs.any fun y=>qJ y x
 | _,_,.nil,_=>rfl
 | y::xs,u::us,.cons r t,f=>by
  rw[List.all_cons,Bool.and_eq_true]at f
  rw[List.any_cons,List.any_cons,pW r f.1,iO t f.2]
theorem gS {A:Around}{s:Shared}{x:V}{v:Value}(rx:RelV x v)(fx:dq x=true):∀{xs:List V} {us:List Value},Vals xs us->xs.all dq=true->∀u∈us,SeqAt.EqAt A s u v (tH x u)
 | _,_,.nil,_=>fun u hu=>by cases hu
 | y::xs,u::us,.cons r t,f=>fun u' hu=>by
  rw[List.all_cons,Bool.and_eq_true]at f
  rcases List.mem_cons.mp hu with rfl | hu
  ·rw[pW r f.1];exact u4 r rx f.1 fx
  ·exact gS rx fx t f.2 u' hu
def xV (x:V)(xs:List V):Bool:=xs.any fun y=>qJ y x
def zw (K:PySem.W.Frag)(neg:Bool):R2:=fun x y H Q=>∃p xs,y=.ref p/\(SqL K H p xs\/SqT K H p xs)/\dq x=true/\xs.all dq=true/\Q (.bl (if neg then !xV x xs else xV x xs)) H
theorem mz:bo X (compareOp .In) (zw X.K false):=by
 intro pins s σ H x y v u Q I rx ry h
 obtain⟨p,xs,rfl,hq,fx,fs,q⟩:=h
 cases ry
 rcases hq with hq | hq
 ·obtain⟨its,r,pl,hz⟩:=I.list hq
  refine SeqAt.in_listAt (tH x) pl.isList (fun w hw=>gS rx fx r fs w (by simpa using hw)) ⟨.bl _,H,I,rfl,?_⟩
  rw[show its.toArray.any (tH x)=its.any (tH x) by simp,iO r fs]
  exact q
 ·obtain⟨its,r,pl,hz⟩:=I.tuple hq
  refine SeqAt.in_tupleAt (tH x) pl (fun w hw=>gS rx fx r fs w (by simpa using hw)) ⟨.bl _,H,I,rfl,?_⟩
  rw[show its.toArray.any (tH x)=its.any (tH x) by simp,iO r fs]
  exact q
theorem iK:bU X (.builtin "len") (fun xs H Q=>∃p ys,xs=[.ref p]/\(SqL X.K H p ys\/SqT X.K H p ys)/\Q (.int ys.length) H):=by
 intro pins s σ H xs us Q I r h
 obtain⟨p,ys,rfl,hq,q⟩:=h
 obtain⟨u,rfl,rx⟩:=eV r
 cases rx
 have hn:=eW
 rcases hq with hq | hq
 ·obtain⟨its,r',pl,hz⟩:=I.list hq
  have hlen:=r'.length
  exact Calls.call_len_list pl.isList (by simp only[List.size_toArray]<;>omega) ⟨.int ys.length,H,I.tok _,⟨s.toks+1,by rw[List.size_toArray,hlen]⟩,q⟩
 ·obtain⟨its,r',pl,hz⟩:=I.tuple hq
  have hlen:=r'.length
  exact len_tuple pl (by simp only[List.size_toArray]<;>omega) ⟨.int ys.length,H,I.tok _,⟨s.toks+1,by rw[List.size_toArray,hlen]⟩,q⟩
theorem iM:bU X (.builtin "len") (fun xs H Q=>∃z,xs=[.str z]/\z.length≤sizeLine/\Q (.int z.length) H):=by
 intro pins s σ H xs us Q I r h
 obtain⟨z,rfl,hz,q⟩:=h
 obtain⟨u,rfl,t,rfl⟩:=eV r
 have hn:=eW
 exact len_str (by omega) ⟨.int z.length,H,I.tok _,⟨_,rfl⟩,q⟩
def yY (K:PySem.W.Frag)(T:String)(x:V)(H:Hp):Prop:=match x with
 | .str _=>T="str"
 | .int _=>T="int"
 | .ref p=>(T="list"/\∃xs,SqL K H p xs)\/(T="tuple"/\∃o,K.lookup p=some o/\o.cls=.type "tuple"/\o.dict=none) \/
   (T="dict"/\((∃kvs,H p=some (.dK kvs))\/∃kvs,H p=some (.dT kvs)))\/(T="set"/\∃S n,H p=some (.set S n))
 | _=>False
theorem qy {pins:List (Addr×Obj)}{σ:St}{H:Hp}{s:Shared}{T:String}{x:V}{v:Value}(I:Inv X pins σ H s)(r:RelV x v)(ty:yY X.K T x H) :
  s.TypeIs v T/\∀a,v=.ref a->∃ob,s.heap.get? a=some ob/\ob.dict=none:=by
 cases x with
 | str z =>
  obtain⟨t,rfl⟩:=r
  cases (show T="str" from ty)
  exact⟨typeIs_str s z t,fun _ e=>nomatch e⟩
 | int i =>
  obtain⟨t,rfl⟩:=r
  cases (show T="int" from ty)
  exact⟨typeIs_int s i t,fun _ e=>nomatch e⟩
 | ref p =>
  cases r
  rcases ty with⟨rfl,xs,hq⟩ | ⟨rfl,o,hk,hc,hd⟩ | ⟨rfl,hk⟩ | ⟨rfl,S,n,hk⟩
  ·obtain⟨its,_,pl,_⟩:=I.list hq
   refine⟨pl.isList.typeIs,fun a e=>?_⟩
   cases e
   obtain⟨o,n,e,c,hd,_⟩:=pl
   exact⟨o,e,hd⟩
  ·refine⟨⟨o,I.kIn p o hk,hc⟩,fun a e=>?_⟩
   cases e
   exact⟨o,I.kIn _ o hk,hd⟩
  ·have z:∃o,s.heap.get? p=some o/\o.ExactDict:=by
    rcases hk with⟨kvs,hk⟩ | ⟨kvs,hk⟩
    ·obtain⟨_,_,_,_,o,_,_,e,ex,_⟩:=I.hok p _ hk
     exact⟨o,e,ex⟩
    ·obtain⟨_,_,_,_,o,_,_,e,ex,_⟩:=I.hok p _ hk
     exact⟨o,e,ex⟩
   obtain⟨o,e,ex⟩:=z
   refine⟨⟨o,e,ex.1⟩,fun a e2=>?_⟩
   cases e2
   exact⟨o,e,ex.2.1⟩
  ·obtain⟨o,_,_,_,e,ex,_⟩:=I.hok p _ hk
   refine⟨⟨o,e,ex.1⟩,fun a e2=>?_⟩
   cases e2
   exact⟨o,e,ex.2.1⟩
 | _=>exact False.elim ty
def vh (K:PySem.W.Frag)(T:String)(r:V->List V->Hp->VK->Prop)(to:TE):TE:=fun σ H Q=>to σ H fun x H1=>yY K T x H1/\r x [] H1 Q
def yK (K:PySem.W.Frag)(T:String)(r:V->List V->Hp->VK->Prop)(to:TE)(t:TA):TE:=fun σ H Q=>to σ H fun x H1=>yY K T x H1/\t σ H1 fun xs H2=>r x xs H2 Q
variable {o e:Expr}{es:List Expr}{to:TE}{t:TA}{name:Str}{apos cpos:Pos}{T id:String}{r:V->List V->Hp->VK->Prop}
theorem wv (pa:PlainAttrs T)(slot:Slot T name id)(hty:typeOf (.builtin id)=pure (.type "method_descriptor"))(hm:nZ X id r)(ho:PE X o to)
  (hbase:attributeBase o name X.env (eval o X.env)=eval o X.env:=by rfl) (hline:(apos.endLine == cpos.line)=true:=by rfl):PE X (.Call (.Attribute o name apos) [] [] cpos) (vh X.K T r to):=by
 intro pins s σ H Q I h
 refine wpAny_Call_method0_late hbase hline (aS (ho pins s σ H _ I h) fun v s1 ⟨x,H1,I1,r1,ty,q1⟩=>?_)
 obtain⟨h1,h2⟩:=qy I1 r1 ty
 exact⟨T,id,pa,slot,hty,h1,h2,Calls.callWith_builtin rfl (PySem.evalArgs_none (hm pins s1 σ H1 x [] v [] Q I1 r1 .nil q1))⟩
theorem x9 (pa:PlainAttrs T)(slot:Slot T name id)(hty:typeOf (.builtin id)=pure (.type "method_descriptor"))(hm:nZ X id r)(ho:PE X o to)(ha:PA X (e::es) t)
  (hbase:attributeBase o name X.env (eval o X.env)=eval o X.env:=by rfl)
  (hfew:((backTo cpos (starEach (e::es) X.env)).all (fun x=>!x.1)&&(backToKw cpos (keywordEach [] X.env)).all (fun x=>x.1.isSome)
   && decide ((e::es).length+([]:List Keyword).length+(if ([]:List Keyword).isEmpty then 0 else 1)<30))=true:=by rfl)
  (hline:(apos.endLine == cpos.line)=true:=by rfl) (hs:starEach (e::es) X.env=(false,eval e X.env)::starEach es X.env:=by rfl) (hplain:(backTo cpos (starEach es X.env)).any (·.1)=false:=by rfl) :
  PE X (.Call (.Attribute o name apos) (e::es) [] cpos) (yK X.K T r to t):=by
 intro pins s σ H Q I h
 refine wpAny_Call_method_late hbase hfew hline rfl (aS (ho pins s σ H _ I h) fun v s1 ⟨x,H1,I1,r1,ty,q1⟩=>?_)
 obtain⟨h1,h2⟩:=qy I1 r1 ty
 refine⟨T,id,pa,slot,hty,h1,h2,?_⟩
 have hA:=ha cpos pins s1 σ H1 _ I1 q1
 rw[hs]at hA ⊢
 refine Calls.callWith_builtin (by show (false||(backTo cpos (starEach es X.env)).any (·.1))=false;rw[hplain]<;>rfl) (Calls.evalArgs_plain ?_)
 exact aS hA fun us s2 ⟨vs,H2,I2,r2,q2⟩=>hm pins s2 σ H2 x vs v us Q I2 r1 r2 q2
end
end L2
namespace L2
open PySem PySem.Spec PyProof.Rows
def yP (X:Cx)(id:String)(r:V->List V->Hp->VK->Prop):Prop :=
 ∀(pins:List (Addr×Obj)) (s:Shared) (σ:St) (H:Hp) (x:V) (xs:List V) (v:Value) (us:List Value) (Q:VK),Inv X pins σ H s->RelV x v->Vals xs us->r x xs H Q ->
  wpAny (model X.prog X.w) X.A (call (.builtin id) (v::us)) (EP X pins σ Q) X.xe s
theorem Vals.one:∀{x:V} {us:List Value},Vals [x] us->∃u,us=[u]/\RelV x u
 | _,_,.cons r .nil=>⟨_,rfl,r⟩
theorem Vals.zero:∀{us:List Value},Vals [] us->us=[]
 | _,.nil=>rfl
theorem Vals.dropLast {xs:List V}{us:List Value}(h:Vals xs us):Vals xs.dropLast us.dropLast:=by
 induction h with
 | nil=>exact .nil
 | cons r t ih =>
  cases t with
  | nil=>exact .nil
  | cons q t'=>exact .cons r ih
theorem Vals.eraseIdx:∀{xs:List V} {us:List Value} (i:Nat),Vals xs us->Vals (xs.eraseIdx i) (us.eraseIdx i)
 | _,_,_,.nil=>.nil
 | _,_,0,.cons _ t=>t
 | _,_,i+1,.cons r t=>.cons r (Vals.eraseIdx i t)
theorem Vals.reverse {xs:List V}{us:List Value}(h:Vals xs us):Vals xs.reverse us.reverse:=by
 induction h with
 | nil=>exact .nil
 | cons r t ih=>rw[List.reverse_cons,List.reverse_cons];exact Vals.append ih (.cons r .nil)
theorem Vals.rep {xs:List V}{us:List Value}(h:Vals xs us):∀k:Nat,Vals (List.replicate k xs).flatten (List.replicate k us).flatten
 | 0=>.nil
 | k+1=>by
  rw[List.replicate_succ,List.replicate_succ,List.flatten_cons,List.flatten_cons]
  exact Vals.append h (Vals.rep h k)
theorem kA {α:Type}(l:List α):l.eraseIdx (l.length-1)=l.dropLast:=by
 induction l with
 | nil=>rfl
 | cons a r ih =>
  cases r with
  | nil=>rfl
  | cons b r =>
   have e:(a::b::r).length-1=((b::r).length-1)+1:=by
    have h1:(a::b::r).length=r.length+2:=rfl
    have h2:(b::r).length=r.length+1:=rfl
    omega
   rw[e,List.eraseIdx_cons_succ,ih]
   all_goals rfl
theorem h8 (its:List Value):∀(k:Nat) (acc:List Value),
  List.foldl (fun x1 x2=>x1++x2) acc.toArray (List.replicate k its.toArray)=(acc++(List.replicate k its).flatten).toArray
 | 0,acc=>by simp
 | k+1,acc=>by
  have e:acc.toArray++its.toArray=(acc++its).toArray:=by simp
  have e2:(acc++its)++(List.replicate k its).flatten=acc++(List.replicate (k+1) its).flatten:=by
   rw[List.replicate_succ,List.flatten_cons,List.append_assoc]
  rw[<-e2,<-h8 its k (acc++its),<-e,List.replicate_succ,List.foldl_cons]
section
variable {X:Cx}{pins:List (Addr×Obj)}{σ:St}{H:Hp}{s:Shared}{l b:Addr}{xs ys zs:List V}
theorem Inv.lset {its its':List Value}{n:Nat}{f:Array Value->Array Value}{t':Nat}(I:Inv X pins σ H s)(hH:H l=some (.lst xs))
  (e:s.heap.get? l=some { cls:=.type "list",data:=.seq its.toArray n }) (hf:f its.toArray=its'.toArray) (hv:Vals ys its') (hz:ys.length≤sizeLine) :
  Inv X pins σ (upd H l (.lst ys)) { s with heap:=s.heap.update l (Obj.mapSeq f),toks:=t' }:=by
 have q:=PySem.IsL.update e f
 rw[hf]at q
 refine I.write (x:=l) (e:=l) (by rw[hH];exact trivial) (.inl rfl) (fun b' u hb hu=>(Heap.get?_update_other s.heap (Obj.mapSeq f) (Ne.symm hb)).trans hu) ⟨_,q⟩ ?_
 exact⟨hz,its',_,hv,q⟩
theorem Inv.lnew {its:List Value}{t':Nat}(I:Inv X pins σ H s)(hv:Vals ys its)(hz:ys.length≤sizeLine) :
  Inv X pins σ (upd H s.heap.objs.size (.lst ys)) { s with heap:=s.heap.push { cls:=.type "list",data:=.seq its.toArray },toks:=t' } :=
 I.laid (fun _ _ q=>Heap.get?_push_of_some _ q) (Nat.le_refl _) ⟨hz,its,0,hv,Heap.get?_push_size _ rfl⟩
theorem Inv.fresh (I:Inv X pins σ H s):H s.heap.objs.size=none:=I.hok.fresh (Nat.le_refl _)
theorem Inv.lstM (I:Inv X pins σ H s)(hH:H l=some (.lst xs)):xs.length≤sizeLine/\∃(its:List Value) (n:Nat),Vals xs its/\xs.length=its.length/\s.heap.get? l=some { cls:=.type "list",data:=.seq its.toArray n }:=by
 obtain⟨z,its,n,r,e⟩:=I.hok l _ hH
 exact⟨z,its,n,r,r.length,e⟩
theorem ju {n:Nat}(h:n≤sizeLine):Builtin.List.listTooLong n=false:=by
 unfold Builtin.List.listTooLong
 exact decide_eq_false (by omega)
end
section
variable {X:Cx}
def qT:V->List V->Hp->VK->Prop:=fun x vs H Q=>∃l xs y,x=.ref l/\vs=[y]/\H l=some (.lst xs)/\xs.length<sizeLine/\Q .non (upd H l (.lst (xs++[y])))
theorem nu:yP X "list.append" qT:=by
 intro pins s σ H x vs v us Q I rx rv h
 obtain⟨l,xs,y,rfl,rfl,hH,hz,q⟩:=h
 cases rx
 obtain⟨u,rfl,ru⟩:=rv.one
 obtain⟨z,its,n,r,hl,e⟩:=I.lstM hH
 refine call_meets F.slot_list_append ⟨_,e,rfl⟩ F.entry_list_append (F.args_list_append_2 _ _) (PySem.list_append l its.toArray n u (by rw[List.size_toArray];omega)) ⟨e,?_⟩
 refine⟨.non,_,I.lset (its':=its++[u]) hH e (by simp) (r.append (.cons ru .nil)) ?_,rfl,q⟩
 rw[List.length_append,List.length_singleton]
 omega
def rf:V->List V->Hp->VK->Prop:=fun x vs H Q=>∃l b xs zs,x=.ref l/\vs=[.ref b]/\H l=some (.lst xs)/\H b=some (.lst zs)/\xs.length+zs.length≤sizeLine/\Q .non (upd H l (.lst (xs++zs)))
theorem mO:yP X "list.extend" rf:=by
 intro pins s σ H x vs v us Q I rx rv h
 obtain⟨l,b,xs,zs,rfl,rfl,hH,hB,hz,q⟩:=h
 cases rx
 obtain⟨u,rfl,ru⟩:=rv.one
 cases ru
 obtain⟨z,its,n,r,hl,e⟩:=I.lstM hH
 obtain⟨z2,its2,n2,r2,hl2,e2⟩:=I.lstM hB
 have hsz:its.toArray.size+its2.toArray.size≤sizeLine:=by rw[List.size_toArray,List.size_toArray];omega
 have hlong:¬ (!its.toArray.isEmpty&&Builtin.List.listTooLong (its.toArray.size+its2.toArray.size))=true:=by
  rw[ju hsz,Bool.and_false]
  exact Bool.false_ne_true
 refine call_meets F.slot_list_extend ⟨_,e,rfl⟩ F.entry_list_extend (F.args_list_extend_2 _ _)
  (AutoSeq1.list_extend_list_list_0 l its.toArray n b its2.toArray n2 hlong (by rw[List.size_toArray];omega) (by omega)) ⟨e,e2,?_⟩
 refine⟨.non,_,I.lset (its':=its++its2) hH e (by simp) (r.append r2) ?_,rfl,q⟩
 rw[List.length_append]
 omega
def yZ:V->List V->Hp->VK->Prop:=fun x vs H Q=>∃l xs y,x=.ref l/\vs=[]/\H l=some (.lst xs)/\xs[xs.length-1]?=some y/\Q y (upd H l (.lst xs.dropLast))
theorem u5:yP X "list.pop" yZ:=by
 intro pins s σ H x vs v us Q I rx rv h
 obtain⟨l,xs,y,rfl,rfl,hH,hy,q⟩:=h
 cases rx
 have hus:=rv.zero
 subst hus
 obtain⟨z,its,n,r,hl,e⟩:=I.lstM hH
 obtain⟨u,hu,ru⟩:=r.get hy
 have hy':its.toArray[its.toArray.size-1]?=some u:=by
  show its.toArray[its.length-1]?=some u
  rw[<-Array.getElem?_toList,<-hl]
  exact hu
 refine call_meets F.slot_list_pop ⟨_,e,rfl⟩ F.entry_list_pop (F.args_list_pop_1 _) (MeetsSeq.list_pop_last l its.toArray n u hy' (by rw[List.size_toArray];omega)) ⟨e,?_⟩
 refine⟨y,_,I.lset (its':=its.dropLast) hH e ?_ r.dropLast ?_,ru,q⟩
 ·show its.toArray.eraseIdxIfInBounds (its.toArray.size-1)=its.dropLast.toArray
  rw[List.size_toArray,List.eraseIdxIfInBounds_toArray,kA]
 ·rw[List.length_dropLast]
  omega
def y6:R2:=fun x y H Q=>∃l b xs zs,x=.ref l/\y=.ref b/\H l=some (.lst xs)/\H b=some (.lst zs)/\xs.length+zs.length≤sizeLine/\∀p,H p=none->Q (.ref p) (upd H p (.lst (xs++zs)))
theorem vi:bo X (binaryOp .Add) y6:=by
 intro pins s σ H x y v u Q I rx ry h
 obtain⟨l,b,xs,zs,rfl,rfl,hH,hB,hz,q⟩:=h
 cases rx
 cases ry
 obtain⟨z,its,n,r,hl,e⟩:=I.lstM hH
 obtain⟨z2,its2,n2,r2,hl2,e2⟩:=I.lstM hB
 refine PySem.P.add_list e e2 ?_ (by rw[List.size_toArray,List.size_toArray];omega)
 have ea:its.toArray++its2.toArray=(its++its2).toArray:=by simp
 rw[ea]
 exact⟨.ref _,_,I.lnew (t':=s.toks) (r.append r2) (by rw[List.length_append];omega),rfl,q _ I.fresh⟩
def yS:R2:=fun x y H Q=>∃l k xs,x=.ref l/\y=.int k/\H l=some (.lst xs)/\-(2 ^ 63)≤k/\k<2 ^ 63/\xs.length*k.toNat≤sizeLine /\
 ∀p,H p=none->Q (.ref p) (upd H p (.lst (List.replicate k.toNat xs).flatten))
theorem rT {α:Type}(xs:List α)(k:Nat):(List.replicate k xs).flatten.length=k*xs.length:=by
 induction k with
 | zero=>simp
 | succ k ih=>rw[List.replicate_succ,List.flatten_cons,List.length_append,ih,Nat.succ_mul,Nat.add_comm]
theorem u3:bo X (binaryOp .Mult) yS:=by
 intro pins s σ H x y v u Q I rx ry h
 obtain⟨l,k,xs,rfl,rfl,hH,h1,h2,hz,q⟩:=h
 cases rx
 obtain⟨t,rfl⟩:=ry
 obtain⟨z,its,n,r,hl,e⟩:=I.lstM hH
 have hlen:its.toArray.size*k.toNat≤sizeLine:=by rw[List.size_toArray,<-hl];exact hz
 have hcap:¬ its.toArray.size*k.toNat>(2 ^ 63-1) / 8:=by
  have:(sizeLine:Nat)≤(2 ^ 63-1) / 8:=by decide
  omega
 have hfit:¬ (!Builtin.List.listFitsIndex k)=true:=by
  rw[fitsIndex_both h1 h2]
  exact Bool.false_ne_true
 have hlong:¬ Builtin.List.listTooLong (its.toArray.size*k.toNat)=true:=by
  rw[ju hlen]
  exact Bool.false_ne_true
 have hnew:List.foldl (fun x1 x2=>x1++x2) #[] (List.replicate (if its.toArray.isEmpty=true then 0 else k.toNat) its.toArray)=(List.replicate k.toNat its).flatten.toArray:=by
  have f0:∀m:Nat,List.foldl (fun x1 x2=>x1++x2) #[] (List.replicate m its.toArray)=(List.replicate m its).flatten.toArray:=fun m=>by
   have:=h8 its m []
   rw[List.nil_append]at this
   exact this
  rw[f0]
  cases its with
  | nil=>simp
  | cons a r'=>rw[if_neg (by simp)]
 refine wpAny_binaryOp_repeat_ref (T:="list") (U:="int") (by decide) ⟨_,e,rfl⟩ (fun s'=>typeIs_int s' k t) noFill_list_mul F.fills_int_mul F.slot_int_rmul repeat_list F.slot_int_index.lookup
  (call_meets F.slot_int_rmul (typeIs_int s k t) F.entry_int_rmul (F.args_int_rmul_2 _ _) (int___rmul___int_list k t l its.toArray n)
   ⟨e,rfl,⟨_,e,rfl⟩,call_meets F.slot_list_mul ⟨_,e,rfl⟩ F.entry_list_mul (F.args_list_mul_2 _ _) (AutoListH.list___mul___list_int_3 l its.toArray n k t hfit hcap hlong) ⟨e,?_⟩⟩)
 rw[hnew]
 exact⟨.ref _,_,I.lnew (t':=s.toks) (r.rep k.toNat) (by rw[rT,Nat.mul_comm];exact hz),rfl,q _ I.fresh⟩
end
section
variable {prog:Program}{w:World}{A:Around}{E:Value->Shared->Prop}{s:Shared}
end
section
variable {X:Cx}
end
end L2
namespace L2
open PySem PySem.Spec PyProof.Rows
section
variable {κ:Type}[DecidableEq κ]
def gX (kvs:List (κ×V))(k:κ):Option V:=(kvs.find? fun kv=>decide (kv.1=k)).map (·.2)
theorem jC {p:κ×V}{r:List (κ×V)}{k:κ}(e:p.1=k):gX (p::r) k=some p.2:=by simp[gX,List.find?_cons,e]
theorem jQ {p:κ×V}{r:List (κ×V)}{k:κ}(e:¬ p.1=k):gX (p::r) k=gX r k:=by simp[gX,List.find?_cons,e]
theorem RelO.getD {o:Option V}{u:Option Value}{d:V}{d':Value}(r:RelO o u)(rd:RelV d d'):RelV (o.getD d) (u.getD d'):=by
 cases o with
 | none=>cases u with
  | none=>exact rd
  | some _=>exact (show False from r).elim
 | some _=>cases u with
  | none=>exact (show False from r).elim
  | some _=>exact r
theorem KV.val {kvs:List (κ×V)}{vs:List (κ×Value)}(r:KV kvs vs)(k:κ):RelO (gX kvs k) (valueAt vs k):=by
 unfold KV at r
 induction r with
 | nil=>exact True.intro
 | @cons p q ps qs h t ih =>
  obtain⟨h1,h2⟩:=h
  by_cases e:p.1=k
  ·have e':q.1=k:=h1.symm.trans e
   have b:valueAt (q::qs) k=some q.2:=by simp[valueAt,List.find?_cons,e']
   rw[jC e,b];exact h2
  ·have e':¬ q.1=k:=fun z=>e (h1.trans z)
   have b:valueAt (q::qs) k=valueAt qs k:=by simp[valueAt,List.find?_cons,e']
   rw[jQ e,b];exact ih
theorem KV.keys {kvs:List (κ×V)}{vs:List (κ×Value)}(r:KV kvs vs):kvs.map (·.1)=vs.map (·.1):=by
 unfold KV at r
 induction r with
 | nil=>rfl
 | cons h t ih=>rw[List.map_cons,List.map_cons,ih,h.1]
theorem KV.length {kvs:List (κ×V)}{vs:List (κ×Value)}(r:KV kvs vs):kvs.length=vs.length:=Paired.length r
end
theorem tQ {P:Program}{w:World}{k:cK}{u:Value}(r:RelV (kV k) u):(aE P w).is k u=true:=by
 cases k with
 | inl i=>obtain⟨t,e⟩:=(show ∃t,u=Value.int i t from r);subst e;exact jy P w i t
 | inr x=>obtain⟨t,e⟩:=(show ∃t,u=Value.str x t from r);subst e;exact jt P w x t
theorem fe {P:Program}{w:World}:∀{ks:List cK} {us:List Value},Vals (ks.map kV) us->ItemsAre (aE P w) ks us
 | [],_,r=>by rw[List.map_nil]at r;cases r;exact .nil
 | k::ks,_,r=>by
  rw[List.map_cons]at r
  cases r with
  | cons h t=>exact .cons (tQ h) (fe t)
abbrev KT (H:Hp):List (List cK×V)->List (List cK×Addr×Value)->Prop:=Paired fun p q=>p.1=q.1/\H q.2.1=some (.tup (p.1.map kV))/\RelV p.2 q.2.2
theorem KT.val {H:Hp}{kvs:List (List cK×V)}{xs:List (List cK×Addr×Value)}(r:KT H kvs xs)(k:List cK):RelO (gX kvs k) ((atKey xs k).map (·.2)):=by
 induction r with
 | nil=>exact True.intro
 | @cons p q ps qs h t ih =>
  obtain⟨h1,_,h2⟩:=h
  by_cases e:p.1=k
  ·have e':q.1=k:=h1.symm.trans e
   have b:atKey (q::qs) k=some q.2:=by simp[atKey,List.find?_cons,e']
   rw[jC e,b];exact h2
  ·have e':¬ q.1=k:=fun z=>e (h1.trans z)
   have b:atKey (q::qs) k=atKey qs k:=by simp[atKey,List.find?_cons,e']
   rw[jQ e,b];exact ih
section
variable {P:Program}{w:World}{H:Hp}{h:Heap}{a:Addr}
theorem uk {u:HO}(ok:HOk P w H h)(e:Rd H a u):ObjOk P w H h a u:=e.ok ok
theorem oJ {kvs:List (cK×V)}(ok:HOk P w H h)(e:Rd H a (.dK kvs)):kvs.length≤sizeLine/\(a == sysModules)=false/\∃vs,KV kvs vs/\h.DictOf (aE P w) a vs :=
 show ObjOk P w H h a (.dK kvs) from uk ok e
theorem wR {kvs:List (cK×V)}(ok:HOk P w H h)(e:H a=some (.dK kvs)):kvs.length≤sizeLine/\(a == sysModules)=false/\∃vs,KV kvs vs/\h.DictOf (aE P w) a vs:=oJ ok (.inl e)
theorem oG {ks:List cK}(ok:HOk P w H h)(e:H a=some (.tup (ks.map kV))):(tupleKind (aE P w)).is h ks a:=by
 obtain⟨_,its,r,o,h1,h2,n,h3⟩:=(show ObjOk P w H h a (.tup (ks.map kV)) from ok a _ e)
 exact⟨o,its.toArray,n,h1,h2,h3,by simpa using fe r⟩
theorem xK {kvs:List (List cK×V)}(ok:HOk P w H h)(e:Rd H a (.dT kvs)):kvs.length≤sizeLine/\(a == sysModules)=false /\
  ∃xs,KT H kvs xs/\h.DictOfH (tupleKind (aE P w)) a xs:=by
 obtain⟨z,y,xs,r,o,es,ep,h1,h2,h3,h4,h5⟩:=(show ObjOk P w H h a (.dT kvs) from uk ok e)
 refine⟨z,y,xs,r,o,es,ep,h1,h2,h3,h4,fun x hx=>?_,h5⟩
 have all:∀{l:List (List cK×V)} {m:List (List cK×Addr×Value)},KT H l m->∀x∈m,(tupleKind (aE P w)).is h x.1 x.2.1:=by
  intro l m q
  induction q with
  | nil=>intro x hx;exact nomatch hx
  | @cons p q ps qs hq t ih =>
   intro x hx
   rcases List.mem_cons.mp hx with e | hx
   ·subst e
    exact oG ok (by rw[<-hq.1];exact hq.2.1)
   ·exact ih x hx
 exact all r x hx
end
def yQ (H:Hp)(a:Addr)(y:V)(r:Option V):Prop :=
 (∃kvs k,Rd H a (.dK kvs)/\y=kV k/\r=gX kvs k)\/∃kvs k b,Rd H a (.dT kvs)/\y=.ref b/\H b=some (.tup (k.map kV))/\r=gX kvs k
section
variable {X:Cx}{pins:List (Addr×Obj)}{σ:St}{H:Hp}{s:Shared}{a:Addr}{y v:V}{u r:Value}{o:Option V}{A:Around}{E:Value->Shared->Prop}
theorem Inv.big (I:Inv X pins σ H s):sysModules<s.heap.objs.size:=by
 have h:mainGlobals<s.heap.objs.size:=(I.mod.glob.keeps I.bk).lt
 exact Nat.lt_trans (by decide) h
theorem nD {Q:Value->Shared->Prop}(hu:A.units+1<cLine)(I:Inv X pins σ H s)(g:yQ H a y (some v))(ry:RelV y u)(h:∀w' s',Inv X pins σ H s'->RelV v w'->Q w' s') :
  wpAny (model X.prog X.w) A (getItem (.ref a) u) Q E s:=by
 rcases g with⟨kvs,k,e,ey,l⟩ | ⟨kvs,k,b,e,ey,eb,l⟩
 ·subst ey
  obtain⟨z,hd,vs,rel,dd⟩:=oJ I.hok e
  obtain⟨w',hw,rw'⟩:=RelO.some_of (v:=v) (o:=valueAt vs k) (by rw[l];exact rel.val k)
  exact wpAny_getItem_of (tQ ry) dd.mapOf hw (h w' _ (I.tok _) rw')
 ·subst ey
  cases (show u=Value.ref b from ry)
  obtain⟨z,hd,xs,rel,dd⟩:=xK I.hok e
  obtain⟨w',hw,rw'⟩:=RelO.some_of (v:=v) (o:=(atKey xs k).map (·.2)) (by rw[l];exact rel.val k)
  obtain⟨p,hp,hp2⟩:=Option.map_eq_some_iff.mp hw
  refine wpAny_getItem_heap (tupleKind_room_in1 hu) (oG I.hok eb) dd hp ?_
  rw[hp2]
  exact h w' _ (I.tok _) rw'
theorem lw {h':Heap}{t':Nat}{ob:HO}(I:Inv X pins σ H s)(mu:yo (H a))(hs:Heap.SameBut a s.heap h')(he:∃q,h'.get? a=some q)(new:ObjOk X.prog X.w (upd H a ob) h' a ob) :
  Inv X pins σ (upd H a ob) { s with heap:=h',toks:=t' } :=
 I.write (x:=a) (e:=a) mu (.inl rfl) (fun b q hb z=>(hs.2 b hb).trans z) he new
end
section
variable {X:Cx}{pins:List (Addr×Obj)}{σ:St}{H:Hp}{s:Shared}{a:Addr}{kvs:List (cK×V)}{k:cK}{u:Value}{A:Around}{E:Value->Shared->Prop}
theorem xM {Q:Value->Shared->Prop}(I:Inv X pins σ H s)(e:Rd H a (.dK kvs))(h:∀t s',Inv X pins σ H s'->Q (.int kvs.length t) s'):wpAny (model X.prog X.w) A (call (.builtin "len") [.ref a]) Q E s:=by
 obtain⟨z,hd,vs,rel,dd⟩:=oJ I.hok e
 refine call_len_dict hd dd (by rw[<-rel.length];rw[sizeLine_eq]at z;omega) ?_
 rw[<-rel.length]
 exact h _ _ (I.tok _)
end
section
variable {X:Cx}{o i e value:Expr}{pos pos' tpos:Pos}{td ty tv:TE}
end
section
variable {X:Cx}{pos:Pos}
end
structure M1 (X:Cx)(o:Expr)(m:Str)(apos:Pos)(e:Expr)(cpos:Pos):Prop where
 base:attributeBase o m X.env (eval o X.env)=eval o X.env
 few:((backTo cpos (starEach [e] X.env)).all (fun x=>!x.1)&&(backToKw cpos (keywordEach [] X.env)).all (fun x=>x.1.isSome)
  && decide (([e]:List Expr).length+([]:List Keyword).length+(if ([]:List Keyword).isEmpty then 0 else 1)<30))=true
 line:(apos.endLine == cpos.line)=true
 trees:backTo cpos (starEach [e] X.env)=[(false,eval e X.env)]
structure M2 (X:Cx)(o:Expr)(m:Str)(apos:Pos)(e f:Expr)(cpos:Pos):Prop where
 base:attributeBase o m X.env (eval o X.env)=eval o X.env
 few:((backTo cpos (starEach [e,f] X.env)).all (fun x=>!x.1)&&(backToKw cpos (keywordEach [] X.env)).all (fun x=>x.1.isSome)
  && decide (([e,f]:List Expr).length+([]:List Keyword).length+(if ([]:List Keyword).isEmpty then 0 else 1)<30))=true
 line:(apos.endLine == cpos.line)=true
 trees:backTo cpos (starEach [e,f] X.env)=[(false,eval e X.env),(false,eval f X.env)]
def IsD (H:Hp)(a:Addr):Prop:=(∃kvs,Rd H a (.dK kvs))\/∃kvs,Rd H a (.dT kvs)
section
variable {X:Cx}{pins:List (Addr×Obj)}{σ:St}{H:Hp}{s:Shared}{a:Addr}{y d:V}{u r:Value}{o:Option V}{A:Around}{E:Value->Shared->Prop}
end
section
variable {X:Cx}{o e f:Expr}{apos cpos:Pos}{td ty tx:TE}
end
section
variable {X:Cx}{pins:List (Addr×Obj)}{σ:St}{H:Hp}{s:Shared}{a:Addr}{kvs:List (cK×V)}{A:Around}{E:Value->Shared->Prop}
end
section
variable {X:Cx}{pins:List (Addr×Obj)}{σ:St}{H:Hp}{s:Shared}{a:Addr}{y:V}{u:Value}{A:Around}{E:Value->Shared->Prop}
end
end L2
namespace Att
open PySem PySem.W PySem.Calls PyProof.Rows
theorem fH {P:Params}{h:Heap}:∀(ns:List Int) (vs:List Value),WellAll P h vs (ns.map WData.int)->IntsAre vs ns:=by
 intro ns
 induction ns with
 | nil =>
  intro vs w
  rw[List.map_nil]at w
  cases w
  exact .nil
 | cons n ns ih =>
  intro vs w
  rw[List.map_cons]at w
  cases w with
  | cons a b =>
   cases a
   exact .cons _ _ (ih _ b)
theorem mi {l:OpenLaw}{n:Nat}(hn:l.most=some n){P:Params}{h:Heap}{args:List WData}{vals:List Value}
  (hpre:l.row.toRowW.claim.pre args=true) (hwl:WellAll P h vals args) :
  ∃a vs ns,vals=[Value.ref a]/\args=[WData.list (ns.map WData.int)]/\h.get? a=some { cls:=.type "list",data:=.seq vs.toArray }/\IntsAre vs ns/\ns.length≤n:=by
 have hsh:WShape.hasAll [] args [.list .int]=true:=(pre_splitW hpre).1
 have hc:l.pre.holds [] { args:=args }=true:=(pre_splitW hpre).2
 obtain⟨d,r,rfl,h1,h2⟩:=hasAllW_cons hsh
 obtain rfl:=hasAllW_nil h2
 obtain⟨xs,rfl,h3⟩:=hasW_list h1
 obtain⟨ns,rfl⟩:=items_int h3
 have hlen:ns.length≤n:=by
  unfold OpenLaw.pre at hc
  have h4:(WTm.not (.lt (.lit (.int (n:Int))) (.len (.arg 0)))).holds [] { args:=[.list (ns.map .int)] }=true:=by
   have h4:=(holds_andW hc).1
   rw[hn]at h4
   exact h4
  have h5:=condW_of h4 (w_not (w_lt w_lit (w_len_list (w_arg rfl))))
  rw[List.length_map]at h5
  refine Nat.le_of_not_lt fun q=>?_
  have q':(n:Int)<((ns.length:Nat):Int):=by omega
  first
   | (rw[decide_eq_true q']at h5;exact absurd h5 (by decide))
   | (simp at h5;omega)
 cases hwl with
 | cons w1 w2 =>
  cases w2
  cases w1 with
  | list ho hall=>exact⟨_,_,ns,rfl,rfl,ho,fH ns _ hall,hlen⟩
theorem nV (l:OpenLaw)(args:List WData):l.row.toRowW.claim.post args (.bool true) args=true :=
 postW_of (r:=l.row.toRowW) (X:=(true == true))
  (show WShape.has [] (.bool true) .bool=true by first | rfl | decide | simp[WShape.has,WShape.arms,WShape.armsAll])
  (show (WTm.eq .res (.lit (.bool true))).value [] { args:=args,res:=some (.bool true),after:=args }=some (.bool (true == true)) from w_eq_bool (w_res rfl) w_lit) rfl
theorem attach_call {l:OpenLaw}{n:Nat}{q:Program}{loose:List Str}{XP:(Str->Option Value)->Heap->Prop}{YP:World->Heap->Prop}{d:DefRec}
  (hn:l.most=some n) (hdf:d.params.defaults=[])
  (call:∀(w:World) (s₀ s₁:Shared) (mg mb:Str->Option Value) (fa:Addr) (o:Obj) (pm cd doc:Value) (a:Addr) (vs:List Value) (ns:List Int),
   Ground q loose [] XP w s₀ mg mb s₁.heap->YP w s₁.heap ->
   s₁.heap.get? fa=some o->o.data=.func (docDef d.name d.params d.body d.scope pm cd doc)->s₁.heap.CodeRec cd d.name->mg d.name=some (.ref fa) ->
   s₁.heap.get? a=some { cls:=.type "list",data:=.seq vs.toArray }->IntsAre vs ns->ns.length≤n->s₁.gens=#[] ->
   codeAny (model l.prog w) callerA (.call (.ref fa) ⟨[.ref a],[]⟩) (fun r s'=>r=.ok (.ret (.bool true))/\OldK s₁.heap s'.heap/\s'.os=s₁.os/\AllBare s'.gens) s₁) :
  WalkO q loose XP YP l.row.toRowW d [] (fun f vs=>PySem.call f vs):=by
 intro w s₀ s₁ mg mb G Y fa o pm cd doc dV kV ho hd hcd hD hmg hg args vals as hpre hlay hrd hwl hlo
 obtain rfl:dV=.none:=Dflts.none hD hdf
 obtain rfl:kV=.none:=Dflts.noKw hD
 obtain⟨a,vs,ns,rfl,rfl,hobj,hints,hlen⟩:=mi hn hpre hwl
 refine enter_call (codeAny_mono (call w s₀ s₁ mg mb fa o pm cd doc a vs ns G Y ho (fd_plain hd) hcd hmg hobj hints hlen hg) fun r s' hq=>?_)
 obtain⟨rfl,h2,h3,h4⟩:=hq
 exact⟨.inl ⟨.bool true,.bool true,[],rfl,fun _=>rfl,.bool true,nV l _,fun _=>⟨List.Pairwise.nil,fun _ hm=>(nomatch hm)⟩⟩,h2,h3,h4⟩
section
variable {prog:Program}{w:World}{A:Around}{E:Value->Shared->Prop}{s:Shared}{K:Frag}
end
end Att
namespace L2
open PySem PySem.Spec PyProof.Rows
theorem ip:∀{vs:List Value} {ns:List Int},IntsAre vs ns->Vals (ns.map V.int) vs
 | _,_,.nil=>.nil
 | _,_,.cons n t h=>.cons ⟨t,rfl⟩ (ip h)
end L2
namespace L2
open PySem PySem.Spec PyProof.Rows
abbrev KOf {K:PySem.W.Frag}{h:Heap}(_:K.In h):PySem.W.Frag:=K
end L2
namespace L2
open PySem PySem.Spec PyProof.Rows
def bn (s:Stmt):Arguments:=match s with
 | .FunctionDef _ a _ _ _ _ _ _ _ _=>a
 | _=>{ posonlyargs:=[],args:=[],vararg:=none,kwonlyargs:=[],kw_defaults:=[],kwarg:=none,defaults:=[] }
def ay (s:Stmt):List Stmt:=match s with
 | .FunctionDef _ _ b _ _ _ _ _ _ _=>b
 | _=>[]
def ah (s:Stmt):Scope:=match s with
 | .FunctionDef _ _ _ _ _ _ sc _ _ _=>sc
 | _=>{ kind:=.function,names:=[],isGenerator:=false,isCoroutine:=false }
abbrev CX0:nY:=fun _ _ _ _ _ _=>False
abbrev E0:XK:=fun _ _ _=>False
theorem jT {X:Cx}:ck CX0 X E0:=fun _ _ _ _ _ _ _ h=>h.elim
structure Fun (K:PySem.W.Frag)(x qual:Str)(st:Stmt)(f:Addr)(fd:FuncData):Prop where
 ex:∃(oc:Value) (od:Option Addr) (kV doc pm:Value) (an:Option Addr) (cdv ct:Value) (osl:Array (Option Value)),
  fd=PySem.W.fnOf x qual (bn st) (ay st) (ah st) .none kV doc pm an cdv ct/\K.lookup f=some ⟨oc,od,.func fd,osl⟩/\PySem.W.codeIn K cdv qual=true
 kp:PySem.W.keepIn K (.ref f)=true
section
variable {P:Program}{w:World}{K:PySem.W.Frag}{mg:Str->Option Value}{base:Heap}
theorem Fun.ok {x qual:Str}{st:Stmt}{f:Addr}{fd:FuncData}{N ps:List Str}{k:Nat}{sp:Sp}(F:Fun K x qual st f fd)(S:ar N ps (ah st))(len:∀vs H Q E,sp vs H Q E->vs.length=ps.length)
  (hbody:∀(cdv:Value) (A:Around) (outer:List Env) (s:Shared) (H:Hp) (vs:List V) (Q:VK) (E:XK),Room k (A.deeper (envOfC qual (ah st) s.heap.objs.size f cdv))->sp vs H Q E ->
   ∃t,PSs (aQ CX0 P w K mg base N qual (ah st) f cdv A outer s H E).nox (ay st) t/\t { nx:=fun _ H'=>Q .non H',rt:=Q } (start N vs) H):dE P w K mg base CX0 (k+1) f fd ps sp:=by
 obtain⟨oc,od,kV,doc,pm,an,cdv,ct,osl,rfl,lk,hcd⟩:=F.ex
 refine lS lk hcd S len fun A outer s H vs Q E hr hsp=>?_
 obtain⟨t,h,q⟩:=hbody cdv A outer s H vs Q E hr hsp
 exact⟨t,h.nox,q⟩
theorem Fun.binds {x qual:Str}{st:Stmt}{f:Addr}{fd:FuncData}{ps:List Str}(F:Fun K x qual st f fd)
  (h:∀(kV doc pm:Value) (an:Option Addr) (cdv ct:Value) (us:List Value),us.length=ps.length->bindArgs (PySem.W.fnOf x qual (bn st) (ay st) (ah st) .none kV doc pm an cdv ct) ⟨us,[]⟩=pure (ps.zip us)):Binds K fd ps []:=by
 obtain⟨oc,od,kV,doc,pm,an,cdv,ct,osl,rfl,lk,hcd⟩:=F.ex
 exact .all (h kV doc pm an cdv ct)
theorem pz {x qual:Str}{st:Stmt}{f:Addr}{oc:Value}{od an:Option Addr}{osl:Array (Option Value)}{kV doc pm cdv ct:Value}(l:K.lookup f=some ⟨oc,od,.func (PySem.W.fnOf x qual (bn st) (ay st) (ah st) .none kV doc pm an cdv ct),osl⟩)
  (c:PySem.W.codeIn K cdv qual=true) (k:PySem.W.keepIn K (.ref f)=true):Fun K x qual st f (PySem.W.fnOf x qual (bn st) (ay st) (ah st) .none kV doc pm an cdv ct):=⟨⟨oc,od,kV,doc,pm,an,cdv,ct,osl,rfl,l,c⟩,k⟩
end
section
variable {X:Cx}
theorem pv (i:Nat){x:Str}{pos:Pos}(hN:X.N[i]?=some x:=by rfl)(hv:sx X.env.scope x:=by first | exact Or.inl rfl | exact Or.inr (Or.inl rfl) | exact Or.inr (Or.inr rfl))(hd:(x == ("__debug__":Str))=false:=by decide)
  (hcd:(x == ("__classdict__":Str))=false:=by decide):PE X (.Name x pos) (uG i):=kI hN hv hd hcd
theorem mI:bU X (.builtin "len") (fun xs H Q=>∃a kvs,xs=[V.ref a]/\H a=some (.dK kvs)/\Q (.int kvs.length) H):=by
 intro pins s σ H xs us Q I r h
 obtain⟨a,kvs,rfl,ha,q⟩:=h
 obtain⟨u,rfl,ru⟩:=eV r
 cases ru
 exact xM I (.inl ha) fun t s' I'=>⟨.int kvs.length,H,I',⟨t,rfl⟩,q⟩
end
theorem dW {c A B:Prop}[Decidable c](h1:c->A)(h2:¬ c->B):if c then A else B:=by
 by_cases h:c
 ·rw[if_pos h]
  exact h1 h
 ·rw[if_neg h]
  exact h2 h
def Same (H H':Hp):Prop:=∀b o,H b=some o->H' b=some o
theorem Same.refl (H:Hp):Same H H:=fun _ _ h=>h
theorem Same.trans {H H1 H2:Hp}(a:Same H H1)(b:Same H1 H2):Same H H2:=fun c o h=>b c o (a c o h)
theorem Same.free {H H':Hp}(e:Same H H'){l:Addr}(h:H' l=Option.none):H l=Option.none:=by
 cases q:H l with
 | none=>rfl
 | some o =>
  rw[e l o q]at h
  cases h
theorem Same.seq {K:PySem.W.Frag}{H H':Hp}{a:Addr}{xs:List V}(e:Same H H')(h:SqL K H a xs):SqL K H' a xs:=by
 rcases h with (h | ⟨o,h⟩) | h
 ·exact .inl (.inl (e _ _ h))
 ·exact .inl (.inr ⟨o,e _ _ h⟩)
 ·exact .inr h
section
variable {κ:Type}[DecidableEq κ]
end
end L2
set_option maxHeartbeats 4000000
namespace L2
open PySem PySem.Spec PyProof.Rows
def az (env:Env):List (Str×NameKind)->List (Str×Addr)->List (Str×Addr)
 | [],acc=>acc
 | (n,k)::r,acc=>if k == .free then (match env.cells.lookup n with
   | some c=>az env r ((n,c)::acc)
   | none=>az env r acc) else az env r acc
theorem bH {env:Env}:∀{names:List (Str×NameKind)} {acc:List (Str×Addr)},(∀n c,acc.lookup n=some c->env.cells.lookup n=some c) ->
  ∀n c,(az env names acc).lookup n=some c->env.cells.lookup n=some c
 | [],acc,h,n,c,e=>h n c e
 | (x,k)::r,acc,h,n,c,e=>by
  unfold az at e
  split at e
  ·split at e
   ·rename_i cx hx
    refine bH (fun y d q=>?_) n c e
    rw[List.lookup_cons]at q
    cases hb:y == x with
    | true=>rw[hb]at q;cases q;rw[beq_iff_eq.mp hb];exact hx
    | false=>rw[hb]at q;exact h y d q
   ·exact bH h n c e
  ·exact bH h n c e
theorem cS {env:Env}:∀{names:List (Str×NameKind)} {acc:List (Str×Addr)} {n:Str},(acc.lookup n).isSome=true->((az env names acc).lookup n).isSome=true
 | [],_,_,h=>h
 | (x,k)::r,acc,n,h=>by
  unfold az
  split
  ·split
   ·refine cS ?_
    rw[List.lookup_cons]
    cases n == x with
    | true=>rfl
    | false=>exact h
   ·exact cS h
  ·exact cS h
theorem bL {env:Env}:∀{names:List (Str×NameKind)} {acc:List (Str×Addr)} {n:Str} {c:Addr},(n,NameKind.free)∈names->env.cells.lookup n=some c->((az env names acc).lookup n).isSome=true
 | [],_,_,_,h,_=>nomatch h
 | (x,k)::r,acc,n,c,h,e=>by
  rcases List.mem_cons.mp h with q | q
  ·cases q
   unfold az
   rw[if_pos (by rfl),e]
   refine cS ?_
   rw[List.lookup_cons,beq_self_eq_true]
   rfl
  ·unfold az
   split
   ·split
    ·exact bL q e
    ·exact bL q e
   ·exact bL q e
theorem cJ {scope:Scope}{env:Env}(h:∀y∈scope.names,y.2=.free->∃c,env.cells.lookup y.1=some c):closureFor scope env=pure (az env scope.names []):=by
 simp only[closureFor]
 have go:∀(names:List (Str×NameKind)) (acc:List (Str×Addr)),(∀y∈names,y.2=.free->∃c,env.cells.lookup y.1=some c) ->
   (forIn names acc (fun x cs=>if (x.2 == NameKind.free)=true then (do let a<-cellOf env x.1;pure (ForInStep.yield ((x.1,a)::cs))) else pure (ForInStep.yield cs)):Sem (List (Str×Addr)))=pure (az env names acc):=by
  intro names
  induction names with
  | nil=>intro acc _;rfl
  | cons p r ih =>
   intro acc hh
   obtain⟨n,k⟩:=p
   rw[List.forIn_cons]
   unfold az
   by_cases hk:(k == NameKind.free)=true
   ·obtain⟨c,hc⟩:=hh (n,k) List.mem_cons_self (by simpa using hk)
    have hc':env.cells.lookup n=some c:=hc
    rw[if_pos hk,if_pos hk,hc']
    have e:cellOf env n=pure c:=by unfold cellOf;rw[hc']
    simp only[e,pure_bind]
    exact ih _ fun y hy=>hh y (List.mem_cons_of_mem _ hy)
   ·rw[if_neg hk,if_neg hk]
    simp only[pure_bind]
    exact ih _ fun y hy=>hh y (List.mem_cons_of_mem _ hy)
 have:=go scope.names [] h
 simpa using this
theorem cg {env:Env}:∀{names:List (Str×NameKind)} {x:Str},
  (names.map fun (n,k)=>if (k == NameKind.free&&env.scope.kind == .function&&env.kindOf n == some .cell) then (n,NameKind.cell) else (n,k)).lookup x =
   (names.lookup x).map fun k=>if (k == NameKind.free&&env.scope.kind == .function&&env.kindOf x == some .cell) then NameKind.cell else k
 | [],_=>rfl
 | (n,k)::r,x=>by
  have ih:=@cg env r x
  rw[List.map_cons]
  show List.lookup x ((if (k == NameKind.free&&env.scope.kind == .function&&env.kindOf n == some .cell)=true then (n,NameKind.cell) else (n,k))::_)=_
  cases hx:x == n with
  | true =>
   have e:x=n:=beq_iff_eq.mp hx
   subst e
   by_cases hc:(k == NameKind.free&&env.scope.kind == .function&&env.kindOf x == some .cell)=true
   ·rw[if_pos hc,List.lookup_cons,List.lookup_cons,hx]
    simp only[Option.map_some,hc,if_true]
   ·rw[if_neg hc,List.lookup_cons,List.lookup_cons,hx]
    simp only[Option.map_some]
    rw[if_neg hc]
  | false =>
   by_cases hc:(k == NameKind.free&&env.scope.kind == .function&&env.kindOf n == some .cell)=true
   ·rw[if_pos hc,List.lookup_cons,List.lookup_cons,hx];exact ih
   ·rw[if_neg hc,List.lookup_cons,List.lookup_cons,hx];exact ih
theorem m9 {prog:Program}{w:World}{A:Around}{R:Result->Shared->Prop}{s:Shared}{elt target iter:Expr}{ifs:List Expr}{scope:Scope}{pos:Pos}{it acc:Value}{env:Env}(I:Nat->Shared->Prop)
  (turn:∀n s,I n s->wpAny (model prog w) A (pyNext it) (fun r s₁=>match r with
   | none=>R (.ok .next) s₁
   | some v=>wpAny (model prog w) A (letOwnedTupleGo target it v) (fun _ s₁'=>wpAny (model prog w) A (assign target env v) (fun _ s₂ =>
     wpAny (model prog w) A (forIn ifs true fun c r=>if r=true then do let ok<-isTrue c env (eval c env);pure (ForInStep.yield ok) else pure (ForInStep.yield r)) (fun ok s₃ =>
      if ok=true then wpAny (model prog w) A (eval elt env) (fun x s₄ =>
       wpAny (model prog w) A (call (.builtin "list.append") [acc,x]) (fun _ s₅=>∃m,m<n/\I m s₅) (notedBy (model prog w) A env fun e s'=>R (.error e) s') s₄) (notedBy (model prog w) A env fun e s'=>R (.error e) s') s₃
      else ∃m,m<n/\I m s₃) (notedBy (model prog w) A env fun e s'=>R (.error e) s') s₂) (notedBy (model prog w) A env fun e s'=>R (.error e) s') s₁') (notedBy (model prog w) A env fun e s'=>R (.error e) s') s₁) (notedBy (model prog w) A env fun e s'=>R (.error e) s') s)
  (n:Nat) (h:I n s) :
  codeAny (model prog w) A (.compLoop (.ListComp elt [⟨target,iter,ifs,0⟩] scope pos) 0 it acc env) R s:=by
 refine codeAny_loop rfl I (fun n s hI=>?_) n h
 show wpAny _ A ((compTurn (.ListComp elt [⟨target,iter,ifs,0⟩] scope pos) 0 it acc env).onRaise (fun x=>do noteFrame x env;theTreesLotGoes x)) _ _ s
 refine wpAny_noted ?_
 rw[compTurn_list]
 refine wpAny_bind (wpAny_standAt (wpAny_bind (wpAny_mono (turn n s hI) (fun r s₁ h₁=>?_) fun _ _ h'=>h')))
 cases r with
 | none=>exact wpAny_pure h₁
 | some v =>
  refine wpAny_bind (wpAny_mono h₁ (fun _ s₁' h₁'=>?_) fun _ _ h'=>h')
  refine wpAny_bind (wpAny_mono h₁' (fun _ s₂ h₂=>wpAny_bind (wpAny_mono h₂ (fun ok s₃ h₃=>?_) fun _ _ h'=>h')) fun _ _ h'=>h')
  cases ok with
  | false=>exact wpAny_pure ⟨rfl,h₃⟩
  | true =>
   exact wpAny_bind (wpAny_bind (wpAny_mono h₃ (fun x s₄ h₄=>wpAny_bind (wpAny_mono h₄ (fun _ s₅ h₅=>wpAny_pure (wpAny_pure ⟨rfl,h₅⟩)) fun _ _ h'=>h')) fun _ _ h'=>h'))
def hV (cap:List (Option Nat))(σ:St):St:=cap.map fun o=>o.bind fun i=>(σ[i]?).join
def aM (X:Cx)(N:List Str)(scope:Scope)(C:Addr)(s:Shared)(H:Hp)(ex:List Addr):Cx where
 prog:=X.prog
 w:=X.w
 K:=X.K
 mg:=X.mg
 base:=X.base
 A:=X.A
 N:=N
 s₀:=s
 H₀:=H
 env:=compEnvC scope (az X.env scope.names []) C X.env
 outer:=X.stack
 stack:=X.stack
 ex:=ex
 fn:=fun _=>false
 calm:=X.calm
 pn:=[]
 xe:=fun _ _=>False
structure CompScope (X:Cx)(N:List Str)(cap:List (Option Nat))(scope:Scope):Prop where
 kind:scope.kind=.function
 nocell:∀y∈scope.names,y.2≠.cell
 loc:∀y∈scope.names,y.2=.local->scope.names.lookup y.1=some .local
 fre:∀y∈scope.names,y.2=.free->X.env.scope.names.lookup y.1=some .cell\/X.env.scope.names.lookup y.1=some .free
 nd:N.Nodup
 len:cap.length=N.length
 cap:∀(j i:Nat),cap[j]?=some (some i)->∃y,N[j]?=some y/\X.N[i]?=some y/\scope.names.lookup y=some .free
def lV (outer:List (Str×NameKind))(N0 N:List Str)(cap:List (Option Nat))(names:List (Str×NameKind)):Bool :=
 names.all (fun y=>y.2 != .cell&&(y.2 != .local||names.lookup y.1 == some .local)&&(y.2 != .free||outer.lookup y.1 == some .cell||outer.lookup y.1 == some .free)) &&
 decide N.Nodup&&cap.length == N.length &&
 (List.range cap.length).all fun j=>match cap[j]? with
  | some (some i)=>(match N[j]? with
   | some y=>N0[i]? == some y&&names.lookup y == some .free
   | none=>false)
  | _=>true
theorem CompScope.of {X:Cx}{N:List Str}{cap:List (Option Nat)}{scope:Scope}(hk:scope.kind=.function)(h:lV X.env.scope.names X.N N cap scope.names=true):CompScope X N cap scope:=by
 unfold lV at h
 simp only[Bool.and_eq_true,List.all_eq_true,decide_eq_true_eq,beq_iff_eq]at h
 obtain⟨⟨⟨h1,h2⟩,h3⟩,h4⟩:=h
 refine⟨hk,fun y hy e=>?_,fun y hy e=>?_,fun y hy e=>?_,h2,h3,fun j i e=>?_⟩
 ·have:=(h1 y hy).1.1
  rw[e]at this
  exact absurd this (by decide)
 ·have:=(h1 y hy).1.2
  rw[e]at this
  simpa using this
 ·have:=(h1 y hy).2
  rw[e]at this
  simpa using this
 ·have hj:j<cap.length:=(List.getElem?_eq_some_iff.mp e).1
  have:=h4 j (List.mem_range.mpr hj)
  rw[e]at this
  dsimp only at this
  cases q:N[j]? with
  | none=>rw[q]at this;exact absurd this Bool.false_ne_true
  | some y =>
   rw[q]at this
   simp only[Bool.and_eq_true,beq_iff_eq]at this
   exact⟨y,rfl,this.1,this.2⟩
theorem hJ {cap:List (Option Nat)}{σ:St}{j:Nat}{v:V}(h:(hV cap σ)[j]?=some (some v)):∃i,cap[j]?=some (some i)/\σ[i]?=some (some v):=by
 unfold hV at h
 rw[List.getElem?_map]at h
 cases e:cap[j]? with
 | none=>rw[e]at h;cases h
 | some o =>
  rw[e]at h
  cases o with
  | none=>simp at h
  | some i =>
   refine⟨i,rfl,?_⟩
   simp only[Option.map_some,Option.bind_some,Option.some.injEq]at h
   cases q:σ[i]? with
   | none=>rw[q]at h;simp at h
   | some z=>rw[q]at h;simp at h;rw[h]
theorem qz {X:Cx}{pins:List (Addr×Obj)}{σ:St}{H:Hp}{s:Shared}{N:List Str}{cap:List (Option Nat)}{scope:Scope}{ex:List Addr}{h₁:Heap}{tk:Nat}{C:Addr}(S:CompScope X N cap scope)(I:Inv X pins σ H s)(hC:s.heap.objs.size≤C)
  (hns:h₁.Ns C (fun _=>none)) (hk:∀b o,s.heap.get? b=some o->h₁.get? b=some o) (hex:∀b∈ex,b<s.heap.objs.size/\fj X pins H b) :
  Inv (aM X N scope C s H ex) [] (hV cap σ) H { s with heap:=h₁,toks:=tk }:=by
 have hcl:∀n c,(az X.env scope.names []).lookup n=some c->X.env.cells.lookup n=some c:=bH (fun n c e=>by simp at e)
 have cne:∀x c,(az X.env scope.names []).lookup x=some c->c<s.heap.objs.size:=fun x c e=>by
  obtain⟨v,q⟩:=I.cell x c (hcl x c e)
  exact q.lt
 have nob:∀b o,X.base.get? b=some o->b∉ex:=fun b o e hb=>by
  obtain⟨hlt,f0,f1,f2,f3,f4,f5⟩:=hex b hb
  rcases f3 with z | z
  ·exact I.ok.noex b o e z
  ·exact absurd (Nat.lt_of_lt_of_le (Heap.lt_size e) (Nat.le_trans I.ok.bsz z)) (Nat.lt_irrefl _)
 refine⟨⟨I.ok.mod,?_,I.ok.glob,I.ok.blt,hC,fun x y c h1 h2=>I.ok.inj x y c (hcl x c h1) (hcl y c h2),fun x hx=>?_,fun x c hf _=>?_,I.ok.hd,I.ok.frames,.inl rfl,fun b hb=>?_,fun b o e=>I.bs b o e,Nat.le_trans I.ok.bsz I.sz,nob,fun b hb=>?_,I.stack,I.stkFree⟩,
  rfl,I.bare,Un.kept hk,⟨_,hns,fun j y v h1 h2 h3=>?_⟩,fun x c e=>?_,I.hok.fresh hC,fun x c e=>?_,fun p hp=>absurd (show p∈([]:List (Addr×Obj)) from hp) (by simp),I.hok.kept hk,?_⟩
 ·exact S.kind
 ·have hx:(relabel scope X.env).names.lookup x=some .cell\/(relabel scope X.env).names.lookup x=some .free:=hx
  unfold relabel at hx
  simp only[cg]at hx
  cases q:scope.names.lookup x with
  | none=>rw[q]at hx;simp at hx
  | some k =>
   have hm:=PySem.mem_of_lookup q
   have hkf:k=.free:=by
    rw[q]at hx
    simp only[Option.map_some,Option.some.injEq]at hx
    by_cases z:(k == NameKind.free&&X.env.scope.kind == .function&&X.env.kindOf x == some .cell)=true
    ·have:(k == NameKind.free)=true:=by
      rw[Bool.and_eq_true,Bool.and_eq_true]at z
      exact z.1.1
     exact beq_iff_eq.mp this
    ·rw[if_neg z]at hx
     rcases hx with hx | hx
     ·exact absurd hx (S.nocell _ hm)
     ·exact hx
   subst hkf
   obtain⟨c,hc⟩:=I.ok.has x (S.fre _ hm rfl)
   exact Option.isSome_iff_exists.mp (bL hm hc)
 ·exact absurd (show false=true from hf) Bool.false_ne_true
 ·obtain⟨hlt,_⟩:=hex b hb
  refine⟨Nat.ne_of_lt (Nat.lt_of_lt_of_le hlt hC),fun x c e z=>?_⟩
  exact (hex b hb).2.2.2.2.2.1 x c (hcl x c e) z
 ·intro hb2
  rcases List.mem_cons.mp (I.stkSub b hb2) with e | e
  ·exact (hex b hb).2.2.1 e
  ·exact (hex b hb).2.2.2.1 e
 ·obtain⟨i,e1,e2⟩:=hJ h2
  obtain⟨y',e3,e4,e5⟩:=S.cap j i e1
  rw[show N[j]?=some y from h1]at e3
  cases e3
  obtain⟨m,_,hl⟩:=I.loc
  have hm:=PySem.mem_of_lookup e5
  have hv:sx X.env.scope y:=by
   rcases S.fre _ hm rfl with z | z
   ·exact .inr (.inl z)
   ·exact .inr (.inr z)
  obtain⟨u,r,l⟩:=hl i y v e4 e2 hv
  refine⟨u,r,.inr ⟨?_,?_⟩⟩
  ·show (relabel scope X.env).names.lookup y=some .cell\/(relabel scope X.env).names.lookup y=some .free
   unfold relabel
   simp only[cg,e5,Option.map_some,Option.some.injEq]
   split
   ·exact .inl rfl
   ·exact .inr rfl
  ·rcases l with⟨hk2,_⟩ | ⟨_,c,hc,hcell⟩
   ·rcases S.fre _ hm rfl with z | z
    ·rw[show X.env.kindOf y=some .cell from z]at hk2;cases hk2
    ·rw[show X.env.kindOf y=some .free from z]at hk2;cases hk2
   ·refine⟨c,?_,hcell.keeps hk⟩
    obtain⟨c',hc'⟩:=Option.isSome_iff_exists.mp (bL (acc:=[]) hm hc)
    have:=hcl y c' hc'
    rw[hc]at this
    cases this
    exact hc'
 ·obtain⟨v,q⟩:=I.cell x c (hcl x c e)
  exact⟨v,q.keeps hk⟩
 ·exact I.freeC x c (hcl x c e)
 ·show (hV cap σ).length=N.length
  unfold hV
  rw[List.length_map]
  exact S.len
def qA (J:It)(cap:List (Option Nat))(g:TG)(tc:TT)(te:TE)(Q:Addr->Hp->Prop)(σ:St)(H:Hp):Prop :=
 ∃W:Nat->Nat->List V->St->Hp->Prop,(∃m,W 0 m [] (hV cap σ) H)/\∀i m ys σ' H',W i m ys σ' H' ->
  (J.stop i H'/\ys.length≤sizeLine/\∀D,H' D=none->Q D (upd H' D (.lst ys)))\/(J.go i H'/\ys.length<sizeLine/\∃N:List V->St->Hp->Prop,(∀ys2 σ2 H2,N ys2 σ2 H2->∃m',m'<m/\W (i+1) m' ys2 σ2 H2) /\
   ∀x H2,J.yld i H' x H2->g x σ' H2 fun σ3 H3=>tc σ3 H3 fun b H4=>if b=true then te σ3 H4 fun y H5=>N (ys++[y]) σ3 H5 else N ys σ3 H4)
def lO (cap:List (Option Nat))(wi:TI)(g:TG)(tc:TT)(te:TE)(Q:Addr->Hp->Prop):St->Hp->Prop:=fun σ H=>wi σ H fun J H1=>qA J cap g tc te Q σ H1
def ur:TT:=fun _ H Q=>Q true H
def wI (X:Cx)(ifs:List Expr)(t:TT):Prop :=
 ∀(pins:List (Addr×Obj)) (s:Shared) (σ:St) (H:Hp) (Q:Bool->Hp->Prop),Inv X pins σ H s->t σ H Q ->
  wpAny (model X.prog X.w) X.A (forIn ifs true fun c r=>if r=true then do let ok<-isTrue c X.env (eval c X.env);pure (ForInStep.yield ok) else pure (ForInStep.yield r)) (TP X pins σ Q) X.xe s
theorem sV {X:Cx}:wI X [] ur:=fun pins s σ H Q I h=>wpAny_tests_nil ⟨H,I,h⟩
theorem rM {X:Cx}{c:Expr}{t:TT}(h:PT X c t):wI X [c] t:=fun pins s σ H Q I hw=>wpAny_tests_one (h pins s σ H Q I hw)
theorem HOk.add {P:Program}{w:World}{H:Hp}{h:Heap}{a:Addr}{o:HO}(x:HOk P w H h)(hn:H a=none)(new:ObjOk P w (upd H a o) h a o):HOk P w (upd H a o) h:=fun b u e=>by
 by_cases hb:b=a
 ·subst hb;rw[ae]at e;cases e;exact new
 ·rw[ag hb]at e
  exact (x b u e).stay (fun c v _ q=>q) (fun c q=>by rw[ag (av q hn)];exact q) fun c xs q=>by rw[ag (av q hn)];exact q
theorem Un.add {fs ex:List Addr}{H H1:Hp}{h h1:Heap}{a:Addr}{o:HO}(u:Un fs ex H H1 h h1)(ha:h.objs.size≤a)(hn:H1 a=none):Un fs ex H (upd H1 a o) h h1 where
 keep:=u.keep
 slot:=u.slot
 free:=fun b ob q n hx=>by rw[ag (Nat.ne_of_lt (Nat.lt_of_lt_of_le (Heap.lt_size q) ha))];exact u.free b ob q n hx
 there:=u.there
 tups:=fun b xs q=>by
  have q':=u.tups b xs q
  rw[ag (av q' hn)];exact q'
 frzs:=fun b ob xs q=>by
  have q':=u.frzs b ob xs q
  rw[ag (av q' hn)];exact q'
 tbls:=fun b ps q=>by
  obtain⟨m,q'⟩:=u.tbls b ps q
  exact⟨m,by rw[ag (av q' hn)];exact q'⟩
abbrev jF (its:List Value)(k:Nat):Obj:={ cls:=.type "list",data:=.seq its.toArray k }
theorem gi {X:Cx}{pins:List (Addr×Obj)}{σ:St}{H:Hp}{s:Shared}{N:List Str}{cap:List (Option Nat)}{scope:Scope}{elt target iter:Expr}{ifs:List Expr}{pos:Pos}{g:TG}{tc:TT}{te:TE}{J:It}{fp:List Addr}{it:Addr}{tn:Nat->Heap->Prop}
  {Q:Addr->Hp->Prop} {RR:Value->Addr->Result->Shared->Prop} {E:Value->Shared->Prop} (hc:X.calm=true) (S:CompScope X N cap scope) (I:Inv X pins σ H s) (T:kJ X.prog X.w X.K target J fp it tn) (st:tn 0 s.heap) (fo:∀b∈fp,fj X pins H b)
  (hg:∀C s₀ H₀,PG (aM X N scope C s₀ H₀ fp) target g) (ht:∀C s₀ H₀,wI (aM X N scope C s₀ H₀ fp) ifs tc) (he:∀C s₀ H₀,PE (aM X N scope C s₀ H₀ fp) elt te)
  (h:qA J cap g tc te Q σ H)
  (hRR:∀D C s' H',Inv X pins σ H' s'->Q D H'->(∃m,s'.heap.Ns C m)->H' C=none->X.s₀.heap.objs.size≤C->C≠X.env.locals->(∀x c,X.env.cells.lookup x=some c->c≠C)->(∀p∈X.pn++pins,p.1≠C)->RR (.ref D) C (.ok .next) s') :
  wpAny (model X.prog X.w) X.A (newList []) (fun acc s₃=>wpAny (model X.prog X.w) X.A (newFunctionEnv scope X.env.globals (az X.env scope.names []) [] X.env.qual none .none (some X.env)) (fun cenv s₄ =>
   codeAny (model X.prog X.w) X.A (.compStart (.ListComp elt [⟨target,iter,ifs,0⟩] scope pos) 0 (.ref it) acc { cenv with scope:=relabel scope X.env }) (RR acc cenv.locals) s₄) E s₃) E s:=by
 have hfr:∀a,s.heap.objs.size≤a->H a=none:=fun a ha=>I.hok.fresh ha
 obtain⟨W,⟨m0,w0⟩,turn⟩:=h
 have fol:∀b∈fp,b<s.heap.objs.size:=fun b hb=>by
  obtain⟨o,ho,_⟩:=T.obj 0 _ st b hb
  exact Heap.lt_size ho
 have clt:∀x c,X.env.cells.lookup x=some c->c<s.heap.objs.size:=fun x c e=>by
  obtain⟨v,q⟩:=I.cell x c e
  exact q.lt
 refine wpAny_newObj_type (wpAny_newFunctionEnv S.nocell (by intro y hy;simp at hy) (fun h₁ hns₁ hsb₁=>?_) S.kind)
 dsimp only at hns₁ hsb₁ ⊢
 generalize hD:s.heap.objs.size=D at *
 generalize hH3:s.heap.push { cls:=.type "list",data:=.seq ([]:List Value).toArray }=H3 at *
 have hC:H3.objs.size=D+1:=by rw[<-hH3,Heap.size_push,hD]
 have keep3:∀b o,s.heap.get? b=some o->H3.get? b=some o:=fun b o e=>by rw[<-hH3];exact Heap.get?_push_of_some _ e
 have keep4:∀b o,H3.get? b=some o->h₁.get? b=some o:=fun b o e=>hsb₁.extBut b o (Nat.ne_of_lt (Heap.lt_size e)) (Heap.get?_push_of_some _ e)
 have D4:h₁.get? D=some (jF [] 0):=keep4 _ _ (by rw[<-hH3,<-hD];exact Heap.get?_push_size _ rfl)
 generalize hCC:H3.objs.size=C at *
 have hDC:D<C:=by omega
 have hDC':D≤C:=Nat.le_of_lt hDC
 have hL:X.env.locals<D:=by rw[<-hD];exact I.lt
 have I4:Inv (aM X N scope C s H fp) [] (hV cap σ) H { s with heap:=h₁,toks:=s.toks+([]:List (Str×Value)).length } :=
  qz S I (by omega) hns₁ (fun b o e=>keep4 b o (keep3 b o e)) fun b hb=>⟨by rw[hD];exact fol b hb,fo b hb⟩
 have fp4:∀{H':Hp} {ob:Obj},(∀b∈fp,H' b=none)->∀b∈fp,fj (aM X N scope C s H fp) [(D,ob)] H' b:=fun {H' ob} hn b hb=>by
  obtain⟨f0,f1,f2,f3,f4,f5⟩:=fo b hb
  have hlt:=fol b hb
  refine⟨hn b hb,?_,fun z=>?_,.inl hb,fun x c e=>f4 x c (bH (fun n c e=>by simp at e) x c e),fun p hp=>?_⟩
  ·exact Nat.ne_of_lt (Nat.lt_of_lt_of_le hlt hDC')
  ·rcases List.mem_cons.mp (I.stkSub b z) with e | e
   ·exact f1 e
   ·exact f2 e
  ·have hp':p∈[(D,ob)]:=hp
   rw[List.mem_singleton.mp hp']
   exact Nat.ne_of_gt hlt
 have st4:tn 0 h₁:=T.keep _ _ _ st fun b hb o e=>keep4 b o (keep3 b o e)
 have nfs:D∉(aM X N scope C s H fp).fs:=fun z=>by
  rcases List.mem_cons.mp (I.stkSub D z) with e | e
  ·exact Nat.ne_of_gt hL e
  ·exact I.nofs (Nat.le_of_eq hD) e
 have pinD:∀{σ':St} {H':Hp} {s':Shared} {ob:Obj},Inv (aM X N scope C s H fp) [] σ' H' s'->H' D=none->s'.heap.get? D=some ob->(∀v,ob.data≠.cell v)->Inv (aM X N scope C s H fp) [(D,ob)] σ' H' s':=fun {σ' H' s' ob} J hn e nc =>
  J.pins_of fun p hp=>by
   rw[List.mem_singleton.mp hp]
   exact⟨e,hn,Nat.ne_of_lt hDC,nfs,nc⟩
 have loop:∀s₄:Shared,s₄={ s with heap:=h₁,toks:=s.toks+([]:List (Str×Value)).length } ->
   codeAny (model X.prog X.w) X.A (.compLoop (.ListComp elt [⟨target,iter,ifs,0⟩] scope pos) 0 (.ref it) (.ref D) (compEnvC scope (az X.env scope.names []) C X.env)) (RR (.ref D) C) s₄:=by
  rintro s₄ rfl
  refine m9 (fun n s'=>∃i ys its k σ' H',Inv (aM X N scope C s H fp) [(D,jF its k)] σ' H' s'/\Vals ys its/\tn i s'.heap/\(∀b∈fp,H' b=none)/\W i n ys σ' H') ?_ m0
   ⟨0,[],[],0,_,_,pinD I4 (hfr D (Nat.le_refl _)) D4 (fun v z=>by cases z),.nil,st4,fun b hb=>(fo b hb).1,w0⟩
  rintro n s5 ⟨i,ys,its,k,σ5,H5,I5,rv5,st5,fr5,w5⟩
  have hpin:=I5.pin (D,jF its k) (List.mem_append_right _ List.mem_cons_self)
  rcases turn i n ys σ5 H5 w5 with⟨stop,hz,q⟩ | ⟨go,hz,NN,hNN,step⟩
  ·refine aS (T.done (aM X N scope C s H fp) rfl rfl rfl hc i _ s5 σ5 H5 _ I5 (fp4 fr5) st5 stop) fun r s6 ⟨hr,I6⟩=>?_
   subst hr
   have p6:=I6.pin (D,jF its k) (List.mem_append_right _ List.mem_cons_self)
   have I7:Inv X pins σ (upd H5 D (.lst ys)) s6:=I.call' (ch:=fp) I6.os (I6.base.add (Nat.le_of_eq hD) p6.2.1) (I6.hok.add p6.2.1 ⟨hz,its,k,rv5,p6.1⟩) I6.bare fun b hb=>by
    obtain⟨f0,f1,f2,f3,f4,f5⟩:=fo b hb
    exact⟨f3,f1,f4,f5⟩
   obtain⟨m6,hn6,_⟩:=I6.loc
   refine hRR _ C s6 _ I7 (q D p6.2.1) ⟨m6,hn6⟩ ?_ ?_ ?_ ?_ ?_
   ·rw[ag (Nat.ne_of_gt hDC)];exact I6.free
   ·exact Nat.le_trans (by rw[<-hD];exact I.sz) hDC'
   ·exact Nat.ne_of_gt (Nat.lt_of_lt_of_le hL hDC')
   ·intro x c e z
    exact Nat.ne_of_lt (Nat.lt_of_lt_of_le (clt x c e) hDC') z
   ·intro p hp z
    have h6:=Heap.lt_size (I.pin p hp).1
    rw[hD]at h6
    exact Nat.ne_of_lt (Nat.lt_of_lt_of_le h6 hDC') z
  ·refine aS (T.item (aM X N scope C s H fp) rfl rfl rfl hc i _ s5 σ5 H5 _ I5 (fp4 fr5) st5 go) fun r s6 ⟨u,hr,h6⟩=>?_
   subst hr
   refine aS h6 fun _ s7 ⟨x,H7,I7,r7,y7,st7,fr7⟩=>?_
   have I7':=I7.pinned (fp4 fr7) (T.obj _ _ st7)
   have kept:∀{σ8:St} {H8:Hp} {s8:Shared},Inv (aM X N scope C s H fp) ([(D,jF its k)]++gI fp s7.heap) σ8 H8 s8->tn (i+1) s8.heap/\∀b∈fp,H8 b=none:=fun {σ8 H8 s8} I8 =>
    ⟨T.keep _ _ _ st7 fun b hb o e=>(I8.pin (b,o) (List.mem_append_right _ (List.mem_append_right _ (cT hb e)))).1,fun b hb=>by
     obtain⟨o,e,d⟩:=T.obj _ _ st7 b hb
     exact (I8.pin (b,o) (List.mem_append_right _ (List.mem_append_right _ (cT hb e)))).2.1⟩
   refine wpAny_mono (hg C s H _ s7 σ5 H7 x u _ I7' r7 (step x H7 y7)) (fun _ s8 ⟨σ8,H8,I8,q8⟩=>?_) fun _ _ f=>f.elim
   refine wpAny_mono (ht C s H _ s8 σ8 H8 _ I8 q8) (fun ok s9 ⟨H9,I9,q9⟩=>?_) fun _ _ f=>f.elim
   cases ok with
   | false =>
    rw[if_neg Bool.false_ne_true]at q9 ⊢
    obtain⟨m',hm,w9⟩:=hNN _ _ _ q9
    exact⟨m',hm,i+1,ys,its,k,σ8,H9,I9.unpinned,rv5,(kept I9).1,(kept I9).2,w9⟩
   | true =>
    rw[if_pos rfl]at q9 ⊢
    refine wpAny_mono (he C s H _ s9 σ8 H9 _ I9 q9) (fun y s10 ⟨yv,H10,I10,r10,n10⟩=>?_) fun _ _ f=>f.elim
    obtain⟨m',hm,w10⟩:=hNN _ _ _ n10
    obtain⟨k10,f10⟩:=kept I10
    have p10:=I10.pin (D,jF its k) (List.mem_append_right _ (List.mem_append_left _ List.mem_cons_self))
    have hlen:=rv5.length
    refine wpAny_list_append_plain (hsz:=by rw[List.size_toArray];omega) (show s10.heap.PlainList D its.toArray from ⟨k,p10.1⟩) fun h11 hl11 hsb11=>?_
    obtain⟨k11,e11⟩:=hl11
    have J0:Inv (aM X N scope C s H fp) [] σ8 H10 s10:=I10.pins_of fun p hp=>nomatch hp
    have J1:Inv (aM X N scope C s H fp) [] σ8 H10 { s10 with heap:=h11 }:=J0.turned (t':=s10.toks) (fun b o hb e=>hsb11.extBut b o hb e) p10.2.1 (Nat.ne_of_lt hDC) (.inr (Nat.le_of_eq hD)) (fun x c e z=>Nat.ne_of_lt (clt x c (bH (fun n c e=>by simp at e) x c e)) z) fun p hp=>nomatch (show p∈([]:List (Addr×Obj)) from hp)
    have e12:h11.get? D=some (jF (its++[y]) k11):=by rw[e11];simp[jF]
    refine⟨m',hm,i+1,ys++[yv],its++[y],k11,σ8,H10,pinD J1 p10.2.1 e12 (fun v z=>by cases z),rv5.append (.cons r10 .nil),?_,f10,w10⟩
    exact T.keep _ _ _ k10 fun b hb o e=>hsb11.extBut b o (Nat.ne_of_lt (fol b hb)) e
 refine codeAny_compStart_list (loop _ ?_) (T.self X.A 0 _ _ _ ?_ (loop _ ?_))
 ·rfl
 ·exact st4
 ·rfl
theorem rh {X:Cx}{N:List Str}{cap:List (Option Nat)}{scope:Scope}{elt target iter:Expr}{ifs:List Expr}{pos:Pos}{wi:TI}{g:TG}{tc:TT}{te:TE}(hc:X.calm=true)(S:CompScope X N cap scope)(hi:PI X target iter wi)
  (hg:∀C s₀ H₀ ex,PG (aM X N scope C s₀ H₀ ex) target g) (ht:∀C s₀ H₀ ex,wI (aM X N scope C s₀ H₀ ex) ifs tc) (he:∀C s₀ H₀ ex,PE (aM X N scope C s₀ H₀ ex) elt te)
  (hs:∀x,foldedSetIterable iter X.env x=pure x:=by intro _;rfl) :
  PE X (.ListComp elt [⟨target,iter,ifs,0⟩] scope pos) (fun σ H Q=>lO cap wi g tc te (fun D H'=>Q (.ref D) H') σ H):=by
 intro pins s σ H Q I h
 have hclos:closureFor scope X.env=pure (az X.env scope.names []):=cJ fun y hy hf=>I.ok.has y.1 (S.fre y hy hf)
 rw[eval_ListComp]
 refine wpAny_comprehension_free (use:=none) rfl hs hclos S.kind S.loc (aS (hi pins s σ H _ I h) fun xv s1 h1=>aS h1 fun itv s2 h2=>?_)
 obtain⟨it,fp,tn,J,H2,e,I2,T,st2,f2,q2⟩:=h2
 subst e
 refine gi (RR:=fun acc C=>compPost (model X.prog X.w) X.A X.xe none (EP X pins σ Q) acc C) hc S I2 T st2 f2 (fun C s₀ H₀=>hg C s₀ H₀ fp) (fun C s₀ H₀=>ht C s₀ H₀ fp) (fun C s₀ H₀=>he C s₀ H₀ fp) q2 ?_
 intro D C s' H' I' q ⟨m,hn⟩ hf hsz hL hcell hpin
 refine⟨m,hn,fun h' hsb=>⟨.ref D,H',?_,rfl,q⟩⟩
 exact I'.turned (t':=s'.toks) (fun b o hb e=>hsb.extBut b o hb e) hf hL (.inr hsz) hcell hpin
theorem sw {X:Cx}{N:List Str}{cap:List (Option Nat)}{scope:Scope}{elt target iter:Expr}{ifs:List Expr}{pos pos' spos:Pos}{wi:TI}{g:TG}{tc:TT}{te:TE}{i:Nat}{x:Str}(hc:X.calm=true)(S:CompScope X N cap scope)(hi:PI X target iter wi)
  (hg:∀C s₀ H₀ ex,PG (aM X N scope C s₀ H₀ ex) target g) (ht:∀C s₀ H₀ ex,wI (aM X N scope C s₀ H₀ ex) ifs tc) (he:∀C s₀ H₀ ex,PE (aM X N scope C s₀ H₀ ex) elt te)
  (hN:X.N.Nodup) (hix:X.N[i]?=some x) (hx:X.env.scope.names.lookup x=some .local) (hsw:swapsWith (.ListComp elt [⟨target,iter,ifs,0⟩] scope pos) (some (.Name x pos')) spos.line X.env=pure true:=by rfl)
  (hs:∀x,foldedSetIterable iter X.env x=pure x:=by intro _;rfl) :
  PS X (.Assign [.Name x pos'] (.ListComp elt [⟨target,iter,ifs,0⟩] scope pos) spos) (fun D σ H=>lO cap wi g tc te (fun d H'=>D.nx (σ.set i (some (.ref d))) H') σ H):=by
 intro pins s σ H D I h
 have hclos:closureFor scope X.env=pure (az X.env scope.names []):=cJ fun y hy hf=>I.ok.has y.1 (S.fre y hy hf)
 rw[exec_Assign_Name_used _ _ _ _ hsw]
 refine wpAny_bind (wpAny_standAt (wpAny_bind ?_))
 show wpAny _ X.A (do let _<-comprehension (.ListComp elt [⟨target,iter,ifs,0⟩] scope pos) scope X.env _ (newList []) false (eval iter X.env) (some (assign (.Name x pos') X.env))) _ _ s
 refine wpAny_bind (wpAny_mono (wpAny_comprehension_free (use:=some (assign (.Name x pos') X.env)) (Q:=fun _ s'=>SP X pins D .next s') rfl hs hclos S.kind S.loc
  (aS (hi pins s σ H _ I h) fun xv s1 h1=>aS h1 fun itv s2 h2=>?_)) (fun _ s' hq=>wpAny_pure (wpAny_pure hq)) fun _ _ e=>e)
 obtain⟨it,fp,tn,J,H2,e,I2,T,st2,f2,q2⟩:=h2
 subst e
 refine gi (RR:=fun acc C=>compPost (model X.prog X.w) X.A X.xe (some (assign (.Name x pos') X.env)) (fun _ s'=>SP X pins D .next s') acc C) hc S I2 T st2 f2 (fun C s₀ H₀=>hg C s₀ H₀ fp) (fun C s₀ H₀=>ht C s₀ H₀ fp) (fun C s₀ H₀=>he C s₀ H₀ fp) q2 ?_
 intro d C s' H' I' q ⟨m,hn⟩ hf hsz hL hcell hpin
 show wpAny _ X.A (assign (.Name x pos') X.env (.ref d)) _ _ s'
 refine wpAny_assign_Name (h9 I' hN hix (.inl hx) (show RelV (.ref d) (.ref d) from rfl) (fun s'' I'' ⟨a,hsb,ha⟩=>?_) (.inr hx))
 have hCa:C≠a:=by
  rcases ha with z | z
  ·rw[z];exact hL
  ·exact fun w=>hcell x a z w.symm
 refine⟨m,hn.sameBut hsb hCa,fun h' hsb'=>⟨_,H',?_,q⟩⟩
 exact I''.turned (t':=s''.toks) (fun b o hb e=>hsb'.extBut b o hb e) hf hL (.inr hsz) hcell hpin
end L2
namespace L2
open PySem PySem.Spec PyProof.Rows
def zl (x:Str):It:=⟨fun i _=>i<x.cps.size,fun i H v H'=>H'=H/\∃c,x.cps[i]?=some c/\v=.str ⟨#[c]⟩,fun i _=>i=x.cps.size⟩
theorem jH {P:Program}{w:World}{K:PySem.W.Frag}{tg:Expr}(ty:String)(it:Addr)(x:Str)(t:Tok)
  (hw:∀A':Around,A'.handled=none->Walks P w A' it [it] [it] x.cps.size (SignAt x) (fun i h=>h.IsStrIter it ty x t i))
  (hself:∀(A:Around) (i:Nat) (s:Shared) (Q:Value->Shared->Prop) (E:Value->Shared->Prop),s.heap.IsStrIter it ty x t i->Q (.ref it) s->wpAny (model P w) A (pyIter (.ref it)) Q E s)
  (hn:["enumerate","zip","dict_itemiterator","dict_reverseitemiterator","odict_iterator","itertools.zip_longest","itertools.pairwise"].contains ty=false) :
  kJ P w K tg (zl x) [it] it (fun i h=>h.IsStrIter it ty x t i) where
 mem:=by simp
 obj:=fun i h st b hb=>by
  have e:b=it:=by simpa using hb
  subst e
  obtain⟨o,e,c,d⟩:=st
  exact⟨o,e,fun v z=>by rw[d]at z;cases z⟩
 keep:=fun i h h' st k=>let ⟨o,e,r⟩:=st;⟨o,k it (by simp) o e,r⟩
 item:=by
  intro X hP hw' hK hc i pins s σ H E I hf st hg
  subst hP hw' hK
  obtain⟨f0,f1,f2,f3,f4,f5⟩:=hf it (by simp)
  refine (hw X.A (I.ok.hd hc)).item i s _ _ hg st fun v h' tk hv st' kk=>?_
  obtain⟨c,u,hc',rfl⟩:=hv
  have I1:Inv X pins σ H { s with heap:=h',toks:=tk }:=I.turned (fun b o hb e=>kk b o (by simpa using hb) e) f0 f1 f3 f4 f5
  obtain⟨o,e,cc,d⟩:=id st'
  exact⟨_,rfl,lP (s:={ s with heap:=h',toks:=tk }) e cc d hn ⟨.str ⟨#[c]⟩,H,I1,⟨u,rfl⟩,⟨rfl,c,hc',rfl⟩,st',fun b hb=>(hf b hb).1⟩⟩
 done:=by
  intro X hP hw' hK hc i pins s σ H E I hf st hg
  subst hP hw' hK
  obtain⟨f0,f1,f2,f3,f4,f5⟩:=hf it (by simp)
  have hg':i=x.cps.size:=hg
  subst hg'
  exact (hw X.A (I.ok.hd hc)).done s _ _ st fun h' tk kk=>⟨rfl,I.turned (fun b o hb e=>kk b o (by simpa using hb) e) f0 f1 f3 f4 f5⟩
 self:=hself
section
variable {X:Cx}
theorem nz:bo X (compareOp .LtE) (fun x y H Q=>∃i j,x=.str i/\y=.str j/\Q (.bl (!decide (j.cps.toList<i.cps.toList))) H):=by
 intro pins s σ H x y v u Q I r1 r2 h
 obtain⟨i,j,rfl,rfl,q⟩:=h
 obtain⟨t,rfl⟩:=r1
 obtain⟨t',rfl⟩:=r2
 exact PySem.P.le_str ⟨.bl _,H,I,rfl,q⟩
theorem kF:bo X (binaryOp .Mult) (fun x y H Q=>∃z n,x=.str z/\y=.int n/\MulOk z n/\Q (.str (Txt.mul z n)) H):=by
 intro pins s σ H x y v u Q I r1 r2 h
 obtain⟨z,n,rfl,rfl,ok,q⟩:=h
 obtain⟨t,rfl⟩:=r1
 obtain⟨t',rfl⟩:=r2
 exact SB.mul ok fun t' k=>⟨.str _,H,I.tok k,⟨t',rfl⟩,q⟩
def yM:V->Option Int->Option Int->Hp->VK->Prop:=fun x lo hi H Q=>∃z,x=.str z/\z.length≤sizeLine/\Q (.str (Txt.slice z lo hi)) H
theorem vm:wK X yM:=by
 intro pins s σ H x v vl vu lo hi sl Q I rx hs pl pu h
 obtain⟨z,rfl,hz,q⟩:=h
 obtain⟨t,rfl⟩:=rx
 refine⟨"str",_,F.slot_str_getitem.lookup,typeIs_str _ _ _,?_⟩
 have fin:∀t' k,EP X pins σ Q (.str (Txt.slice z lo hi) t') { s with toks:=k }:=fun t' k=>⟨.str _,H,I.tok k,⟨t',rfl⟩,q⟩
 cases pl with
 | none =>
  cases pu with
  | none=>exact wpAny_getItem_str_slice (l:=none) (u:=none) (st:=none) hs rfl (post_val_or_str ⟨Nat.le_trans (Txt.slice_le z _ _) hz,fin⟩)
  | int j uj=>exact wpAny_getItem_str_slice (l:=none) (u:=some (j,uj)) (st:=none) hs rfl (post_val_or_str ⟨Nat.le_trans (Txt.slice_le z _ _) hz,fin⟩)
 | int i ui =>
  cases pu with
  | none=>exact wpAny_getItem_str_slice (l:=some (i,ui)) (u:=none) (st:=none) hs rfl (post_val_or_str ⟨Nat.le_trans (Txt.slice_le z _ _) hz,fin⟩)
  | int j uj=>exact wpAny_getItem_str_slice (l:=some (i,ui)) (u:=some (j,uj)) (st:=none) hs rfl (post_val_or_str ⟨Nat.le_trans (Txt.slice_le z _ _) hz,fin⟩)
end
mutual
inductive DatV (K:PySem.W.Frag)(H:Hp):V->PyData->Prop
 | none:DatV K H .non .none
 | bool (b:Bool):DatV K H (.bl b) (.bool b)
 | int (i:Int):DatV K H (.int i) (.int i)
 | str (x:Str):DatV K H (.str x) (.str x)
 | list {a:Addr} {xs:List V} {ds:List PyData}:SqL K H a xs->DatVs K H xs ds->DatV K H (.ref a) (.list ds)
 | tuple {a:Addr} {xs:List V} {ds:List PyData}:SqT K H a xs->DatVs K H xs ds->DatV K H (.ref a) (.tuple ds)
inductive DatVs (K:PySem.W.Frag)(H:Hp):List V->List PyData->Prop
 | nil:DatVs K H [] []
 | cons {x:V} {xs:List V} {d:PyData} {ds:List PyData}:DatV K H x d->DatVs K H xs ds->DatVs K H (x::xs) (d::ds)
end
theorem Same.seqT {K:PySem.W.Frag}{H H':Hp}{a:Addr}{xs:List V}(e:Same H H')(h:SqT K H a xs):SqT K H' a xs:=by
 rcases h with (h | ⟨o,h⟩) | h
 ·exact .inl (.inl (e _ _ h))
 ·exact .inl (.inr ⟨o,e _ _ h⟩)
 ·exact .inr h
mutual
theorem DatV.same {K:PySem.W.Frag}{H H':Hp}(e:Same H H'):∀{x:V} {d:PyData},DatV K H x d->DatV K H' x d
 | _,_,.none=>.none
 | _,_,.bool b=>.bool b
 | _,_,.int i=>.int i
 | _,_,.str x=>.str x
 | _,_,.list h hs=>.list (e.seq h) (DatVs.same e hs)
 | _,_,.tuple h hs=>.tuple (e.seqT h) (DatVs.same e hs)
theorem DatVs.same {K:PySem.W.Frag}{H H':Hp}(e:Same H H'):∀{xs:List V} {ds:List PyData},DatVs K H xs ds->DatVs K H' xs ds
 | _,_,.nil=>.nil
 | _,_,.cons h hs=>.cons (DatV.same e h) (DatVs.same e hs)
end
mutual
theorem DatV.reads {X:Cx}{pins:List (Addr×Obj)}{σ:St}{H:Hp}{s:Shared}(I:Inv X pins σ H s):∀{x:V} {d:PyData} {u:Value},DatV X.K H x d->RelV x u->∃as,Reads s.heap u d as
 | _,_,_,.none,r=>by cases r;exact⟨_,.none⟩
 | _,_,_,.bool b,r=>by cases r;exact⟨_,.bool b⟩
 | _,_,_,.int i,r=>by obtain⟨t,rfl⟩:=r;exact⟨_,.int i t⟩
 | _,_,_,.str x,r=>by obtain⟨t,rfl⟩:=r;exact⟨_,.str x t⟩
 | _,_,_,.list h hs,r=>by
  cases r
  obtain⟨its,rv,⟨o,n,h1,h2,h3,h4⟩,hz⟩:=I.list h
  obtain⟨as,ra⟩:=DatVs.reads I hs rv
  exact⟨_,.list h1 h2 h4 ra⟩
 | _,_,_,.tuple h hs,r=>by
  cases r
  obtain⟨its,rv,⟨o,h1,h2,n,h4⟩,hz⟩:=I.tuple h
  obtain⟨as,ra⟩:=DatVs.reads I hs rv
  exact⟨_,.tuple h1 h2 h4 ra⟩
theorem DatVs.reads {X:Cx}{pins:List (Addr×Obj)}{σ:St}{H:Hp}{s:Shared}(I:Inv X pins σ H s):∀{xs:List V} {ds:List PyData} {us:List Value},DatVs X.K H xs ds->Vals xs us->∃as,ReadsAll s.heap us ds as
 | _,_,_,.nil,r=>by cases r;exact⟨_,.nil⟩
 | _,_,_,.cons h hs,r=>by
  cases r with
  | cons r1 r2 =>
   obtain⟨as,ra⟩:=DatV.reads I h r1
   obtain⟨bs,rb⟩:=DatVs.reads I hs r2
   exact⟨_,.cons ra rb⟩
end
def yU (K:PySem.W.Frag):R2:=fun x y H Q=>∃da db,DatV K H x da/\DatV K H y db/\da.canLay0=true/\db.canLay0=true/\min da.depth db.depth≤60/\Q (.bl (PyData.eqv da db)) H
def yI (K:PySem.W.Frag):R2:=fun x y H Q=>∃da db,DatV K H x da/\DatV K H y db/\da.canLay0=true/\db.canLay0=true/\min da.depth db.depth≤60/\Q (.bl (!PyData.eqv da db)) H
theorem wD {X:Cx}(hu:X.A.units+64<cLine):bo X (compareOp .Eq) (yU X.K):=by
 intro pins s σ H x y v u Q I rx ry h
 obtain⟨da,db,h1,h2,l1,l2,hd,q⟩:=h
 obtain⟨as,ra⟩:=h1.reads I rx
 obtain⟨bs,rb⟩:=h2.reads I ry
 exact SeqAt.compareEq_reads ra rb l1 l2 (by omega) ⟨.bl _,H,I,rfl,q⟩
theorem vW {X:Cx}(hu:X.A.units+64<cLine):bo X (compareOp .NotEq) (yI X.K):=by
 intro pins s σ H x y v u Q I rx ry h
 obtain⟨da,db,h1,h2,l1,l2,hd,q⟩:=h
 obtain⟨as,ra⟩:=h1.reads I rx
 obtain⟨bs,rb⟩:=h2.reads I ry
 exact SeqAt.compareNe_reads ra rb l1 l2 (by omega) ⟨.bl _,H,I,rfl,q⟩
end L2
namespace L2
open PySem PySem.Spec PyProof.Rows
structure KTab (K:PySem.W.Frag)(w:World)(a:Addr)(kvs:List (Str×V)):Prop where
 ex:∃es n,K.lookup a=some ⟨.type "dict",none,.dict es n,#[]⟩/\PySem.W.KeysLit w.params es.toList/\Paired (fun (p:Str×V) (e:DictEntry)=>(∃t,e.key=.str p.1 t)/\RelV p.2 e.val) kvs es.toList
 lo:(a == sysModules)=false
theorem kC {kvs:List (Str×V)}{es:List DictEntry}(r:Paired (fun (p:Str×V) (e:DictEntry)=>(∃t,e.key=.str p.1 t)/\RelV p.2 e.val) kvs es)(x:Str):RelO (kvs.lookup x) (findBy Value.isStrOf es.toArray x):=by
 unfold findBy
 rw[List.find?_toArray]
 induction r with
 | nil=>exact True.intro
 | @cons p e ps qs h t ih =>
  obtain⟨⟨tk,hk⟩,hv⟩:=h
  rw[List.lookup_cons,List.find?_cons,hk]
  by_cases q:x=p.1
  ·subst q
   simp only[beq_self_eq_true]
   have:Value.isStrOf p.1 (.str p.1 tk)=true:=by simp[Value.isStrOf]
   rw[this]
   exact hv
  ·have h1:(x == p.1)=false:=by simpa using q
   have h2:Value.isStrOf x (.str p.1 tk)=false:=by
    simp only[Value.isStrOf]
    simpa using fun z=>q z.symm
   rw[h1,h2]
   exact ih
theorem KTab.map {X:Cx}{pins:List (Addr×Obj)}{σ:St}{H:Hp}{s:Shared}{a:Addr}{kvs:List (Str×V)}(T:KTab X.K X.w a kvs)(I:Inv X pins σ H s) :
  ∃f:Str->Option Value,s.heap.MapOf (strKind X.prog X.w) a f/\∀x,RelO (kvs.lookup x) (f x):=by
 obtain⟨es,n,hl,hk,r⟩:=T.ex
 refine⟨_,PySem.W.mapOf_K (prog:=X.prog) I.kIn hl hk,fun x=>?_⟩
 have:=kC r x
 simpa using this
section
variable {X:Cx}{o e f:Expr}{apos cpos pos:Pos}{td ty tx:TE}
theorem MapOf.dict {h:Heap}{P:Program}{w:World}{a:Addr}{f:Str->Option Value}(m:h.MapOf (strKind P w) a f):∀b,Value.ref a=.ref b->∃ob,h.get? b=some ob/\ob.dict=none:=fun b q=>by
 cases q
 obtain⟨ob,_,_,h1,h2,_⟩:=m
 exact⟨ob,h1,h2.2.1⟩
def yH (K:PySem.W.Frag)(w:World):R2:=fun x y H Q=>∃a kvs k v,x=.ref a/\y=.str k/\KTab K w a kvs/\kvs.lookup k=some v/\Q v H
theorem rS:tq X (yH X.K X.w):=by
 intro value slice pins s σ H x y v u Q I rx ry h hs
 obtain⟨a,kvs,k,z,rfl,rfl,T,hl,q⟩:=h
 cases rx
 obtain⟨t,rfl⟩:=ry
 obtain⟨f2,m2,r2⟩:=T.map I
 obtain⟨w',hw,rw'⟩:=RelO.some_of (v:=z) (o:=f2 k) (by rw[<-hl];exact r2 k)
 exact tail_any m2.typeIs slot_dict_getitem.lookup (wpAny_getItem_of (strKind_is X.prog X.w k t) m2 hw ⟨z,H,I.tok _,rw',q⟩) hs
end
end L2
namespace L2
open PySem PySem.Spec PyProof.Rows
section
variable {X:Cx}{a b c e o:Expr}{ta tb tc te:TE}{pos p:Pos}
def gZ (i:Nat):TE:=fun σ H Q=>match σ[i]? with
 | some (some v)=>Q v H
 | _=>False
theorem qL (i:Nat):gZ i=uG i:=by
 funext σ H Q
 refine propext ⟨fun h=>?_,fun⟨v,e,h⟩=>?_⟩
 ·unfold gZ at h
  split at h
  ·exact⟨_,‹_›,h⟩
  ·exact h.elim
 ·unfold gZ
  rw[e]
  exact h
theorem pn (i:Nat){x:Str}{pos:Pos}(hN:X.N[i]?=some x:=by rfl)(hv:sx X.env.scope x:=by first | exact Or.inl rfl | exact Or.inr (Or.inl rfl) | exact Or.inr (Or.inr rfl))(hd:(x == ("__debug__":Str))=false:=by decide)
  (hcd:(x == ("__classdict__":Str))=false:=by decide):PE X (.Name x pos) (gZ i):=by
 rw[qL]
 exact kI hN hv hd hcd
def eJ (t:TE):TT:=fun σ H Q=>t σ H fun x H'=>match x with
 | .bl k=>Q k H'
 | _=>False
theorem gL (t:TE):eJ t=lD t:=by
 funext σ H Q
 unfold eJ lD
 congr 1
 funext x H'
 refine propext ⟨fun h=>?_,fun⟨k,e,h⟩=>?_⟩
 ·split at h
  ·exact⟨_,rfl,h⟩
  ·exact h.elim
 ·subst e
  exact h
theorem my (t:TE):eJ t=tB t:=by rw[gL];rfl
theorem rQ {op:CmpOp}{r:R2}(ho:bo X (compareOp op) r)(ha:PE X a ta)(hb:PE X b tb)(hm:behindInMarks op b=false:=by first | exact kz _ | rfl):PT X (.Compare a [op] [b] pos) (eJ (pf r ta tb)):=by
 rw[gL]
 exact sq ho ha hb hm
theorem nL {op op':CmpOp}{r r':R2}(ho:bo X (compareOp op) r)(ho':bo X (compareOp op') r')(ha:PE X a ta)(hb:PE X b tb)(hc:PE X c tc)
  (hm:lastMarks [op,op'] [b,c]=false:=by with_unfolding_all rfl):PT X (.Compare a [op,op'] [b,c] pos) (eJ (iD r r' ta tb tc)):=by
 rw[gL]
 exact oK ho ho' ha hb hc hm
theorem sD {e:Expr}{t:TE}(h:PE X e t)(he:∀whole,isTrue e X.env whole=(do let v<-whole;standAt e.pos;holding [v] (truthy v)):=by intro _;rfl):PT X e (eJ t):=by
 rw[my]
 exact wj h he
def md (ta tb:TE):TE:=fun σ H Q=>ta σ H fun x H1=>match x with
 | .bl c=>if c=true then tb σ H1 Q else Q (.bl false) H1
 | _=>False
def lC (ta:TE):TE:=fun σ H Q=>ta σ H fun x H1=>match x with
 | .bl c=>Q (.bl (!c)) H1
 | _=>False
theorem qg (ta tb:TE):md ta tb=qh ta tb:=by
 funext σ H Q
 unfold md qh
 congr 1
 funext x H'
 refine propext ⟨fun h=>?_,fun⟨k,e,h⟩=>?_⟩
 ·split at h
  ·exact⟨_,rfl,h⟩
  ·exact h.elim
 ·subst e;exact h
theorem p8 (ta:TE):lC ta=pH ta:=by
 funext σ H Q
 unfold lC pH
 congr 1
 funext x H'
 refine propext ⟨fun h=>?_,fun⟨k,e,h⟩=>?_⟩
 ·split at h
  ·exact⟨_,rfl,h⟩
  ·exact h.elim
 ·subst e;exact h
theorem rC {rest:List Expr}(ha:PE X a ta)(hb:PE X (.BoolOp .And (b::rest) pos) tb):PE X (.BoolOp .And (a::b::rest) pos) (md ta tb):=by rw[qg];exact vf ha hb
theorem rE (ha:PE X a ta):PE X (.UnaryOp .Not a pos) (lC ta):=by rw[p8];exact vp ha
def kh (r r':R2)(ta tb tc:TE):TE:=fun σ H Q=>ta σ H fun x H1=>tb σ H1 fun y H2=>r x y H2 fun z H3=>match z with
 | .bl k=>if k=true then tc σ H3 fun w' H4=>r' y w' H4 Q else Q (.bl false) H3
 | _=>False
theorem mV (r r':R2)(ta tb tc:TE):kh r r' ta tb tc=iD r r' ta tb tc:=by
 funext σ H Q
 unfold kh iD
 congr 1
 funext x H1
 congr 1
 funext y H2
 congr 1
 funext z H3
 refine propext ⟨fun h=>?_,fun⟨k,e,h⟩=>?_⟩
 ·split at h
  ·exact⟨_,rfl,h⟩
  ·exact h.elim
 ·subst e;exact h
def qY (K:PySem.W.Frag):R2:=fun x y H Q=>match x,y with
 | .int i,.int j=>Q (.int (i+j)) H
 | .str i,.str j=>i.length+j.length≤sizeLine/\Q (.str (i++j)) H
 | .ref l,.ref b=>(∃xs zs,H l=some (.lst xs)/\H b=some (.lst zs)/\xs.length+zs.length≤sizeLine/\∀p,H p=none->Q (.ref p) (upd H p (.lst (xs++zs)))) \/
   ∃xs ys,SqT K H l xs/\SqT K H b ys/\xs≠[]/\xs.length+ys.length≤sizeLine/\(ys=[]->Q (.ref l) H)/\(ys≠[]->∀p,H p=none->Q (.ref p) (upd H p (.tup (xs++ys))))
 | _,_=>False
theorem uR {K:PySem.W.Frag}(hK:X.K=K:=by rfl):bo X (binaryOp .Add) (qY K):=by
 subst hK
 intro pins s σ H x y v u Q I rx ry h
 unfold qY at h
 split at h
 ·exact vA pins s σ H _ _ v u Q I rx ry ⟨_,_,rfl,rfl,h⟩
 ·exact kq pins s σ H _ _ v u Q I rx ry ⟨_,_,rfl,rfl,h.1,h.2⟩
 ·rcases h with⟨xs,zs,h1,h2,h3,h4⟩ | ⟨xs,ys,h1,h2,h3,h4,h5,h6⟩
  ·exact vi pins s σ H _ _ v u Q I rx ry ⟨_,_,xs,zs,rfl,rfl,h1,h2,h3,h4⟩
  ·exact s0 pins s σ H _ _ v u Q I rx ry ⟨_,_,xs,ys,rfl,rfl,h1,h2,h3,h4,h5,h6⟩
 ·exact h.elim
def j9:R2:=fun x y H Q=>match x,y with
 | .int i,.int j=>Q (.int (i-j)) H
 | _,_=>False
theorem vd:bo X (binaryOp .Sub) j9:=by
 intro pins s σ H x y v u Q I rx ry h
 unfold j9 at h
 split at h
 ·exact wn pins s σ H _ _ v u Q I rx ry ⟨_,_,rfl,rfl,h⟩
 ·exact h.elim
def uM:R2:=fun x y H Q=>match x,y with
 | .int i,.int j=>CMul i j/\Q (.int (i*j)) H
 | .str z,.int n=>MulOk z n/\Q (.str (Txt.mul z n)) H
 | .ref l,.int k=>∃xs,H l=some (.lst xs)/\-(2 ^ 63)≤k/\k<2 ^ 63/\xs.length*k.toNat≤sizeLine/\∀p,H p=none->Q (.ref p) (upd H p (.lst (List.replicate k.toNat xs).flatten))
 | _,_=>False
theorem vZ:bo X (binaryOp .Mult) uM:=by
 intro pins s σ H x y v u Q I rx ry h
 unfold uM at h
 split at h
 ·exact wf pins s σ H _ _ v u Q I rx ry ⟨_,_,rfl,rfl,h.1,h.2⟩
 ·exact kF pins s σ H _ _ v u Q I rx ry ⟨_,_,rfl,rfl,h.1,h.2⟩
 ·obtain⟨xs,h1,h2,h3,h4,h5⟩:=h
  exact u3 pins s σ H _ _ v u Q I rx ry ⟨_,_,xs,rfl,rfl,h1,h2,h3,h4,h5⟩
 ·exact h.elim
def vY:R2:=fun x y H Q=>match x,y with
 | .int i,.int j=>yh i j/\Q (.int (i / j)) H
 | _,_=>False
theorem vx:bo X (binaryOp .FloorDiv) vY:=by
 intro pins s σ H x y v u Q I rx ry h
 unfold vY at h
 split at h
 ·exact sj pins s σ H _ _ v u Q I rx ry ⟨_,_,rfl,rfl,h.1,h.2⟩
 ·exact h.elim
def vL:R2:=fun x y H Q=>match x,y with
 | .int i,.int j=>0<j/\Q (.int (i % j)) H
 | _,_=>False
theorem uI:bo X (binaryOp .Mod) vL:=by
 intro pins s σ H x y v u Q I rx ry h
 unfold vL at h
 split at h
 ·exact wm pins s σ H _ _ v u Q I rx ry ⟨_,_,rfl,rfl,h.1,h.2⟩
 ·exact h.elim
def oi:R2:=fun x y H Q=>match x,y with
 | .int i,.int j=>Q (.int (i+j)) H
 | .str i,.str j=>i.length+j.length≤sizeLine/\Q (.str (i++j)) H
 | _,_=>False
theorem rA:xU X .Add oi:=by
 intro pins s σ H x y v u Q I rx ry h
 unfold oi at h
 split at h
 ·exact rJ pins s σ H _ _ v u Q I rx ry ⟨_,_,rfl,rfl,h⟩
 ·exact jL pins s σ H _ _ v u Q I rx ry ⟨_,_,rfl,rfl,h.1,h.2⟩
 ·exact h.elim
def qH (i:Nat)(te:TE)(ti:uF):TS:=fun D σ H=>match σ[i]? with
 | some (some x)=>te σ H fun y H1=>ti x y H1 fun z H2=>D.nx (σ.set i (some z)) H2
 | _=>False
theorem sR (i:Nat)(te:TE)(ti:uF):qH i te ti=wV i te ti:=by
 funext D σ H
 refine propext ⟨fun h=>?_,fun⟨v,e,h⟩=>?_⟩
 ·unfold qH at h
  split at h
  ·exact⟨_,‹_›,h⟩
  ·exact h.elim
 ·unfold qH
  rw[e]
  exact h
theorem rg {i:Nat}{x:Str}{op:Operator}{ti:uF}{pos':Pos}(hN:X.N.Nodup)(hi:X.N[i]?=some x)(hx:pM X.env.scope x)(he:PE X e te)(ho:xU X op ti)(hf:X.fn x=true\/X.env.scope.names.lookup x=some .local:=by first | exact .inl rfl | exact .inr rfl | assumption) :
  PS X (.AugAssign (.Name x pos') op e pos) (qH i te ti):=by
 rw[sR];exact uL hN hi hx he ho hf
def wN (K:PySem.W.Frag)(neg:Bool):R2:=fun x y H Q=>match x,y with
 | .int i,.int j=>Q (.bl (neg^^decide (i=j))) H
 | .str i,.str j=>Q (.bl (neg^^decide (i=j))) H
 | .bl i,.bl j=>Q (.bl (neg^^decide (i=j))) H
 | .ref i,.ref j=>∃da db,DatV K H (.ref i) da/\DatV K H (.ref j) db/\da.canLay0=true/\db.canLay0=true/\min da.depth db.depth≤60/\Q (.bl (neg^^PyData.eqv da db)) H
 | _,_=>False
theorem xk (hu:X.A.units+64<cLine){K:PySem.W.Frag}(hK:X.K=K:=by rfl):bo X (compareOp .Eq) (wN K false):=by
 subst hK
 intro pins s σ H x y v u Q I rx ry h
 unfold wN at h
 split at h
 ·refine qa pins s σ H _ _ v u Q I rx ry ⟨rfl,?_⟩
  simpa using h
 ·refine qa pins s σ H _ _ v u Q I rx ry ⟨rfl,?_⟩
  simpa using h
 ·refine qa pins s σ H _ _ v u Q I rx ry ⟨rfl,?_⟩
  simpa using h
 ·obtain⟨da,db,h1,h2,h3,h4,h5,h6⟩:=h
  exact wD hu pins s σ H _ _ v u Q I rx ry ⟨da,db,h1,h2,h3,h4,h5,by simpa using h6⟩
 ·exact h.elim
theorem x6 (hu:X.A.units+64<cLine){K:PySem.W.Frag}(hK:X.K=K:=by rfl):bo X (compareOp .NotEq) (wN K true):=by
 subst hK
 intro pins s σ H x y v u Q I rx ry h
 unfold wN at h
 split at h
 ·refine qj pins s σ H _ _ v u Q I rx ry ⟨rfl,?_⟩
  simpa using h
 ·refine qj pins s σ H _ _ v u Q I rx ry ⟨rfl,?_⟩
  simpa using h
 ·refine qj pins s σ H _ _ v u Q I rx ry ⟨rfl,?_⟩
  simpa using h
 ·obtain⟨da,db,h1,h2,h3,h4,h5,h6⟩:=h
  exact vW hu pins s σ H _ _ v u Q I rx ry ⟨da,db,h1,h2,h3,h4,h5,by simpa using h6⟩
 ·exact h.elim
def yG:R2:=fun x y H Q=>match x,y with
 | .int i,.int j=>Q (.bl (decide (i<j))) H
 | .str i,.str j=>Q (.bl (decide (i.cps.toList<j.cps.toList))) H
 | _,_=>False
theorem xH:bo X (compareOp .Lt) yG:=by
 intro pins s σ H x y v u Q I rx ry h
 unfold yG at h
 split at h
 ·exact xB pins s σ H _ _ v u Q I rx ry ⟨_,_,rfl,rfl,h⟩
 ·exact ms pins s σ H _ _ v u Q I rx ry ⟨_,_,rfl,rfl,h⟩
 ·exact h.elim
def zb:R2:=fun x y H Q=>match x,y with
 | .int i,.int j=>Q (.bl (decide (i≤j))) H
 | .str i,.str j=>Q (.bl (!decide (j.cps.toList<i.cps.toList))) H
 | _,_=>False
theorem xx:bo X (compareOp .LtE) zb:=by
 intro pins s σ H x y v u Q I rx ry h
 unfold zb at h
 split at h
 ·exact yd pins s σ H _ _ v u Q I rx ry ⟨_,_,rfl,rfl,h⟩
 ·exact nz pins s σ H _ _ v u Q I rx ry ⟨_,_,rfl,rfl,h⟩
 ·exact h.elim
def y3:R2:=fun x y H Q=>match x,y with
 | .int i,.int j=>Q (.bl (decide (j<i))) H
 | _,_=>False
theorem xw:bo X (compareOp .Gt) y3:=by
 intro pins s σ H x y v u Q I rx ry h
 unfold y3 at h
 split at h
 ·exact wX pins s σ H _ _ v u Q I rx ry ⟨_,_,rfl,rfl,h⟩
 ·exact h.elim
def yO:R2:=fun x y H Q=>match x,y with
 | .int i,.int j=>Q (.bl (decide (j≤i))) H
 | _,_=>False
theorem xc:bo X (compareOp .GtE) yO:=by
 intro pins s σ H x y v u Q I rx ry h
 unfold yO at h
 split at h
 ·exact xq pins s σ H _ _ v u Q I rx ry ⟨_,_,rfl,rfl,h⟩
 ·exact h.elim
def yN (K:PySem.W.Frag)(neg:Bool):R2:=fun x y H Q=>match y with
 | .str j=>(match x with
  | .str i=>Q (.bl (neg^^!(Builtin.Str.occurrences j i 0 j.length 1).isEmpty)) H
  | _=>False)
 | .ref p=>∃xs,(SqL K H p xs\/SqT K H p xs)/\dq x=true/\xs.all dq=true/\Q (.bl (neg^^xV x xs)) H
 | _=>False
theorem xG {K:PySem.W.Frag}(hK:X.K=K:=by rfl):bo X (compareOp .In) (yN K false):=by
 subst hK
 intro pins s σ H x y v u Q I rx ry h
 unfold yN at h
 split at h
 ·split at h
  ·refine mB pins s σ H _ _ v u Q I rx ry ⟨_,_,rfl,rfl,?_⟩
   simpa using h
  ·exact h.elim
 ·obtain⟨xs,h1,h2,h3,h4⟩:=h
  exact mz pins s σ H _ _ v u Q I rx ry ⟨_,xs,rfl,h1,h2,h3,by simpa using h4⟩
 ·exact h.elim
def wJ (neg:Bool):R2:=fun x y H Q=>match y with
 | .non=>(match x with
  | .non=>Q (.bl (neg^^true)) H
  | _=>Q (.bl (neg^^false)) H)
 | _=>False
theorem xT:bo X (compareOp .Is) (wJ false):=by
 intro pins s σ H x y v u Q I rx ry h
 unfold wJ at h
 split at h
 ·refine wA pins s σ H _ _ v u Q I rx ry ⟨rfl,?_⟩
  split at h
  ·exact h
  ·rename_i hn
   have e:decide (x=V.non)=false:=decide_eq_false hn
   rw[e]
   exact h
 ·exact h.elim
theorem og:bo X (compareOp .IsNot) (wJ true):=by
 intro pins s σ H x y v u Q I rx ry h
 unfold wJ at h
 split at h
 ·refine si pins s σ H _ _ v u Q I rx ry ⟨rfl,?_⟩
  split at h
  ·exact h
  ·rename_i hn
   have e:decide (x=V.non)=false:=decide_eq_false hn
   rw[e]
   exact h
 ·exact h.elim
def yB (K:PySem.W.Frag)(w:World):R2:=fun x y H Q=>match x,y with
 | .ref q,.int i=>(∃xs v,SqL K H q xs/\j3 xs i=some v/\Q v H)\/∃xs v,SqT K H q xs/\j3 xs i=some v/\Q v H
 | .str z,.int i=>z.length≤sizeLine/\∃c,j3 z.cps.toList i=some c/\Q (.str ⟨#[c]⟩) H
 | .ref q,.str k=>(∃kvs v,KTab K w q kvs/\kvs.lookup k=some v/\Q v H)\/∃(kvs:List (cK×V)) (v:V),H q=some (.dK kvs)/\gX kvs (Sum.inr k)=some v/\Q v H
 | _,_=>False
theorem yu (hu:X.A.units+64<cLine){K:PySem.W.Frag}{w:World}(hK:X.K=K:=by rfl)(hw:X.w=w:=by rfl):tq X (yB K w):=by
 subst hK
 subst hw
 intro value slice pins s σ H x y v u Q I rx ry h hs
 unfold yB at h
 split at h
 ·rcases h with⟨xs,z,h1,h2,h3⟩ | ⟨xs,z,h1,h2,h3⟩
  ·exact tF value slice pins s σ H _ _ v u Q I rx ry ⟨_,xs,_,z,rfl,rfl,h1,h2,h3⟩ hs
  ·exact uN value slice pins s σ H _ _ v u Q I rx ry ⟨_,xs,_,z,rfl,rfl,h1,h2,h3⟩ hs
 ·obtain⟨hz,c,h1,h2⟩:=h
  exact uJ value slice pins s σ H _ _ v u Q I rx ry ⟨_,_,c,rfl,rfl,hz,h1,h2⟩ hs
 ·rcases h with⟨kvs,z,h1,h2,h3⟩ | ⟨kvs,z,h1,h2,h3⟩
  ·exact rS value slice pins s σ H _ _ v u Q I rx ry ⟨_,kvs,_,z,rfl,rfl,h1,h2,h3⟩ hs
  ·cases rx
   have hd:=wR I.hok h1
   obtain⟨_,_,vs,_,dd⟩:=hd
   exact tail_any dd.typeIs slot_dict_getitem.lookup (nD (y:=kV (Sum.inr _)) (v:=z) (by omega) I (.inl ⟨kvs,_,.inl h1,rfl,h2.symm⟩) ry fun w' s' I' rw'=>⟨z,H,I',rw',h3⟩) hs
 ·exact h.elim
def lT (t:TE):TO:=fun σ H Q=>t σ H fun x H1=>match x with
 | .int i=>Q (some i) H1
 | _=>False
theorem oS (t:TE):lT t=qC t:=by
 funext σ H Q
 unfold lT qC
 congr 1
 funext x H'
 refine propext ⟨fun h=>?_,fun⟨k,e,h⟩=>?_⟩
 ·split at h
  ·exact⟨_,rfl,h⟩
  ·exact h.elim
 ·subst e;exact h
theorem pG (h:PE X e te):PO X (some e) (lT te):=by rw[oS];exact qZ h
def rV (K:PySem.W.Frag):List V->Hp->VK->Prop:=fun xs H Q=>match xs with
 | [.str y]=>y.length≤sizeLine/\Q (.int y.length) H
 | [.ref p]=>∃ys,(SqL K H p ys\/SqT K H p ys)/\Q (.int ys.length) H
 | _=>False
theorem uH {K:PySem.W.Frag}(hK:X.K=K:=by rfl):bU X (.builtin "len") (rV K):=by
 subst hK
 intro pins s σ H xs us Q I r h
 unfold rV at h
 split at h
 ·exact iM pins s σ H _ us Q I r ⟨_,rfl,h.1,h.2⟩
 ·obtain⟨ys,h1,h2⟩:=h
  exact iK pins s σ H _ us Q I r ⟨_,ys,rfl,h1,h2⟩
 ·exact h.elim
def iE:V->List V->Hp->VK->Prop:=fun x vs H Q=>match x,vs with
 | .ref l,[y]=>∃xs,H l=some (.lst xs)/\xs.length<sizeLine/\Q .non (upd H l (.lst (xs++[y])))
 | _,_=>False
theorem mZ:nZ X "list.append" iE:=by
 intro pins s σ H x xs v us Q I rx rs h
 unfold iE at h
 split at h
 ·obtain⟨ys,h1,h2,h3⟩:=h
  exact nu pins s σ H _ _ v us Q I rx rs ⟨_,ys,_,rfl,rfl,h1,h2,h3⟩
 ·exact h.elim
end
end L2
namespace L2
open PySem PySem.Spec PyProof.Rows
section
variable {X:Cx}{tg:Expr}
def yk (K:PySem.W.Frag)(tl:TE):TI:=fun σ H R=>tl σ H fun x H1=>match x with
 | .str z=>R (zl z) H1
 | .ref a=>((∃xs,SqL K H1 a xs)/\R (wO K a) H1)\/((∃xs,SqT K H1 a xs)/\R (xg K a) H1)
 | _=>False
theorem vF {l:Expr}{tl:TE}(hl:PE X l tl){K:PySem.W.Frag}(hK:X.K=K:=by rfl):PI X tg l (yk K tl):=by
 subst hK
 intro pins s σ H R I h
 refine aS (hl pins s σ H _ I h) fun v s1 ⟨x,H1,I1,r1,q1⟩=>?_
 dsimp only at q1
 split at q1
 ·rename_i z
  obtain⟨t,rfl⟩:=r1
  have fin:∀b∈[s1.heap.objs.size],fj X pins H1 b:=fun b hb=>by
   have e:b=s1.heap.objs.size:=by simpa using hb
   subst e
   exact I1.fpOk (Nat.le_refl _) (I1.hok.fresh (Nat.le_refl _))
  cases ha:z.cps.all (·<128)
  ·refine wpAny_pyIter_wide ha ?_
   exact⟨s1.heap.objs.size,[s1.heap.objs.size],_,_,H1,rfl,I1.kept (t':=s1.toks) fun b o e=>Heap.get?_push_of_some _ e,
    jH "str_iterator" _ z t (fun A' hA=>Walks.strWide hA _ z t) (fun A i s Q E st h=>wpAny_pyIter_striter_wide st h) (by decide),⟨_,Heap.get?_push_size _ rfl,rfl,rfl⟩,fin,q1⟩
  ·refine wpAny_pyIter_ascii ha ?_
   exact⟨s1.heap.objs.size,[s1.heap.objs.size],_,_,H1,rfl,I1.kept (t':=s1.toks) fun b o e=>Heap.get?_push_of_some _ e,
    jH "str_ascii_iterator" _ z t (fun A' hA=>Walks.strAscii hA _ z t) (fun A i s Q E st h=>wpAny_pyIter_striter_ascii st h) (by decide),⟨_,Heap.get?_push_size _ rfl,rfl,rfl⟩,fin,q1⟩
 ·rename_i a
  cases r1
  have fin:∀b∈[s1.heap.objs.size],fj X pins H1 b:=fun b hb=>by
   have e:b=s1.heap.objs.size:=by simpa using hb
   subst e
   exact I1.fpOk (Nat.le_refl _) (I1.hok.fresh (Nat.le_refl _))
  rcases q1 with⟨⟨xs,hq⟩,q⟩ | ⟨⟨xs,hq⟩,q⟩
  ·obtain⟨its,rv,p,hz⟩:=I1.list hq
   refine wpAny_pyIter_list p.isList ?_
   exact⟨s1.heap.objs.size,[s1.heap.objs.size],_,_,H1,rfl,I1.kept (t':=s1.toks) fun b o e=>Heap.get?_push_of_some _ e,nN a _,⟨_,Heap.get?_push_size _ rfl,rfl,rfl⟩,fin,q⟩
  ·obtain⟨its,rv,p,hz⟩:=I1.tuple hq
   refine wpAny_pyIter_tuple (show s1.heap.IsTuple a its.toArray from p) ?_
   exact⟨s1.heap.objs.size,[s1.heap.objs.size],_,_,H1,rfl,I1.kept (t':=s1.toks) fun b o e=>Heap.get?_push_of_some _ e,kN a _,⟨_,Heap.get?_push_size _ rfl,rfl,rfl⟩,fin,q⟩
 ·exact q1.elim
def lj (ta:TA):TI:=fun σ H R=>ta σ H fun vs H1=>match vs with
 | [.int j]=>-(2 ^ 62)≤j/\j<2 ^ 62/\R (tV 0 j.toNat) H1
 | _=>False
theorem pB (ta:TA):lj ta=o9 ta:=by
 funext σ H R
 unfold lj o9
 congr 1
 funext vs H'
 refine propext ⟨fun h=>?_,fun⟨k,e,h⟩=>?_⟩
 ·split at h
  ·exact⟨_,rfl,h⟩
  ·exact h.elim
 ·subst e;exact h
theorem qX {a:Expr}{ta:TA}{p pos:Pos}(hg:Gl X "range")(hm:X.mg "range"=none)(ha:PA X [a] ta)(hs:starEach [a] X.env=[(false,eval a X.env)]:=by rfl):PI X tg (.Call (.Name "range" p) [a] [] pos) (lj ta):=by
 rw[pB];exact nO hg hm ha hs
def aZ:Expr->Bool
 | .Starred ..=>false
 | _=>true
def al:List Expr->Bool
 | []=>true
 | e::r=>aZ e&&al r
theorem am {e:Expr}{es:List Expr}{env:Env}(h:aZ e=true):starEach (e::es) env=(false,eval e env)::starEach es env:=by
 cases e<;>first | rfl | exact absurd h Bool.false_ne_true
theorem eg:∀{es:List Expr} {env:Env},al es=true->∀x∈starEach es env,x.1=false
 | [],env,_,x,hx=>by
  have:starEach [] env=[]:=rfl
  rw[this]at hx
  exact nomatch hx
 | e::r,env,h,x,hx=>by
  have h':aZ e=true/\al r=true:=by simpa[al] using h
  rw[am h'.1]at hx
  rcases List.mem_cons.mp hx with q | q
  ·rw[q]
  ·exact eg h'.2 x q
theorem ba {es:List Expr}{env:Env}{pos:Pos}(h:al es=true):(backTo pos (starEach es env)).any (·.1)=false:=by
 rw[List.any_eq_false]
 intro x hx
 unfold backTo at hx
 obtain⟨y,hy,e⟩:=List.mem_map.mp hx
 have:=eg h y hy
 obtain⟨b,t⟩:=y
 dsimp only at e this
 rw[<-e,this]
 exact Bool.false_ne_true
theorem qE {es:List Expr}{env:Env}{pos:Pos}(h:al es=true):(backTo pos (starEach es env)).all (fun x=>!x.1)=true:=by
 rw[List.all_eq_true]
 intro x hx
 unfold backTo at hx
 obtain⟨y,hy,e⟩:=List.mem_map.mp hx
 have:=eg h y hy
 obtain⟨b,t⟩:=y
 dsimp only at e this
 rw[<-e,this]
 rfl
def dL:Expr->Bool
 | .Call (.Name _ _) [] [] _=>false
 | _=>true
theorem dQ {o:Expr}{attr:Str}{env:Env}{whole:Sem Value}(h:dL o=true):attributeBase o attr env whole=whole:=by
 unfold attributeBase
 split
 ·exact absurd h Bool.false_ne_true
 ·rfl
theorem pU {es:List Expr}{t:TA}(ha:PE X e te)(hr:PA X es t)(h:aZ e=true:=by rfl):PA X (e::es) (jI te t):=rG ha hr (am h)
theorem nJ {x:Str}{id:String}{r:List V->Hp->VK->Prop}{es:List Expr}{t:TA}{p pos:Pos}(hc:bU X (.builtin id) r)(hg:Gl X x)(hm:X.mg x=none)(hv:bootBuiltins x=some (.builtin id))(ha:PA X (e::es) t)(hn:x≠"__name__":=by decide)(hdb:(x == ("__debug__":Str))=false:=by decide)
  (h:al (e::es)=true:=by rfl):PE X (.Call (.Name x p) (e::es) [] pos) (wG r t):=by
 have h':aZ e=true/\al es=true:=by simpa[al] using h
 exact pX hc hg hm hv ha hn hdb (am h'.1) (ba h'.2)
theorem kg {x:Str}{T:String}{r:List V->Hp->VK->Prop}{es:List Expr}{t:TA}{p pos:Pos}(hc:bU X (.type T) r)(hg:Gl X x)(hm:X.mg x=none)(hv:bootBuiltins x=some (.type T))(ha:PA X (e::es) t)(hn:x≠"__name__":=by decide)(hdb:(x == ("__debug__":Str))=false:=by decide)
  (h:al (e::es)=true:=by rfl):PE X (.Call (.Name x p) (e::es) [] pos) (wG r t):=by
 have h':aZ e=true/\al es=true:=by simpa[al] using h
 exact nC hc hg hm hv ha hn hdb (am h'.1) (ba h'.2)
theorem wb {K:PySem.W.Frag}{o e:Expr}{es:List Expr}{to:TE}{t:TA}{name:Str}{apos cpos:Pos}{T id:String}{r:V->List V->Hp->VK->Prop}(pa:PlainAttrs T)(slot:Slot T name id)(hty:typeOf (.builtin id)=pure (.type "method_descriptor"))(hm:nZ X id r)(ho:PE X o to)(ha:PA X (e::es) t)(hK:X.K=K:=by rfl)
  (hsup:dL o=true:=by rfl) (h:al (e::es)=true:=by rfl) (h30:(e::es).length<30:=by decide) (hline:(apos.endLine == cpos.line)=true:=by rfl) :
  PE X (.Call (.Attribute o name apos) (e::es) [] cpos) (yK K T r to t):=by
 subst hK
 have h':aZ e=true/\al es=true:=by simpa[al] using h
 refine x9 pa slot hty hm ho ha (dQ hsup) ?_ hline (am h'.1) (ba h'.2)
 rw[qE h]
 have e0:keywordEach [] X.env=[]:=rfl
 rw[e0]
 simpa[backToKw] using h30
theorem rq {K:PySem.W.Frag}{o:Expr}{to:TE}{name:Str}{apos cpos:Pos}{T id:String}{r:V->List V->Hp->VK->Prop}(pa:PlainAttrs T)(slot:Slot T name id)(hty:typeOf (.builtin id)=pure (.type "method_descriptor"))(hm:nZ X id r)(ho:PE X o to)(hK:X.K=K:=by rfl)
  (hsup:dL o=true:=by rfl) (hline:(apos.endLine == cpos.line)=true:=by rfl):PE X (.Call (.Attribute o name apos) [] [] cpos) (vh K T r to):=by
 subst hK
 exact wv pa slot hty hm ho (dQ hsup) hline
theorem tM {K:PySem.W.Frag}{es:List Expr}{k:Nat}{t:nK}{n:Nat}{pos:Pos}(hc:X.calm=true)(h:wH X es t)(hK:X.K=K:=by rfl)
  (hn:(assignEach es X.env).length=n:=by rfl) (hst:(assignEach es X.env).findIdx? (·.1)=none:=by rfl):PG X (.Tuple es k pos) (wq K n t):=by
 subst hK
 exact uP hc h hn hst
structure Def (P:Program)(w:World)(K:PySem.W.Frag)(mg:Str->Option Value)(base:Heap)(k:Nat)(x:Str)(ps:List Str)(sp:Sp):Prop where
 ex:∃f fd,mg x=some (.ref f)/\PySem.W.keepIn K (.ref f)=true/\(∃oc od osl,K.lookup f=some ⟨oc,od,.func fd,osl⟩)/\Binds K fd ps []/\dE P w K mg base CX0 k f fd ps sp
theorem vV {k:Nat}{x:Str}{ps:List Str}{sp:Sp}{e:Expr}{es:List Expr}{t:TA}{p pos:Pos}(D:Def X.prog X.w X.K X.mg X.base k x ps sp)(hr:Room k X.A)(hg:Gl X x)(ha:PA X (e::es) t)(hdb:(x == ("__debug__":Str))=false:=by decide)
  (hst:al (e::es)=true:=by rfl) (hx:ck CX0 X E0:=by exact jT) :
  PE X (.Call (.Name x p) (e::es) [] pos) (fun σ H Q=>t σ H fun vs H1=>sp vs H1 Q E0):=by
 obtain⟨f,fd,mgf,kp,_,b,G⟩:=D.ex
 have h':aZ e=true/\al es=true:=by simpa[al] using hst
 have he:=am (es:=es) (env:=X.env) h'.1
 have hpl:=ba (env:=X.env) (pos:=pos) h'.2
 have h:=lf (X:=X) (dvs:=[]) (E:=E0) (p:=p) (pos:=pos) G hr hg mgf kp b .nil hx ha hdb he hpl
 intro pins s σ H Q I hq
 refine h pins s σ H Q I ?_
 show t σ H fun vs H1=>sp (vs++[]) H1 Q E0
 have e1:(fun (vs:List V) H1=>sp (vs++[]) H1 Q E0)=fun vs H1=>sp vs H1 Q E0:=by funext vs H1;rw[List.append_nil]
 rw[e1]
 exact hq
end
theorem Fun.lk {K:PySem.W.Frag}{x qual:Str}{st:Stmt}{f:Addr}{fd:FuncData}(F:Fun K x qual st f fd):∃oc od osl,K.lookup f=some ⟨oc,od,.func fd,osl⟩:=by
 obtain⟨oc,od,kV,doc,pm,an,cdv,ct,osl,_,lk,_⟩:=F.ex
 exact⟨oc,od,osl,lk⟩
structure Raw (K:PySem.W.Frag)(mg:Str->Option Value)(x:Str)(st:Stmt)(ps:List Str):Prop where
 ex:∃f fd,mg x=some (.ref f)/\Fun K x x st f fd/\∀(us:List Value),us.length=ps.length->bindArgs fd ⟨us,[]⟩=pure (ps.zip us)
theorem Raw.mk' {K:PySem.W.Frag}{mg:Str->Option Value}{h:Heap}{x:Str}{st:Stmt}{ps:List Str}{f:Addr}{oc:Value}{od an:Option Addr}{osl:Array (Option Value)}{kV doc pm cdv ct:Value}(X:K.In h)(G:h.Ns mainGlobals mg)
  (a:PySem.W.nsIn K mainGlobals x=some (some (.ref f))) (l:K.lookup f=some ⟨oc,od,.func (PySem.W.fnOf x x (bn st) (ay st) (ah st) .none kV doc pm an cdv ct),osl⟩)
  (c:PySem.W.codeIn K cdv x=true) (k:PySem.W.keepIn K (.ref f)=true)
  (hb:∀(us:List Value),us.length=ps.length->bindArgs (PySem.W.fnOf x x (bn st) (ay st) (ah st) .none kV doc pm an cdv ct) ⟨us,[]⟩=pure (ps.zip us)):Raw K mg x st ps :=
 ⟨⟨f,_,PySem.W.mg_of X G a,pz l c k,hb⟩⟩
theorem Raw.def {P:Program}{w:World}{K:PySem.W.Frag}{mg:Str->Option Value}{base:Heap}{x:Str}{st:Stmt}{N ps:List Str}{k:Nat}{sp:Sp}(R:Raw K mg x st ps)(S:ar N ps (ah st))(len:∀vs H Q E,sp vs H Q E->vs.length=ps.length)
  (hbody:∀(f:Addr) (cdv:Value) (A:Around) (outer:List Env) (s:Shared) (H:Hp) (vs:List V) (Q:VK) (E:XK),Room k (A.deeper (envOfC x (ah st) s.heap.objs.size f cdv))->sp vs H Q E ->
   ∃t,PSs (aQ CX0 P w K mg base N x (ah st) f cdv A outer s H E).nox (ay st) t/\t { nx:=fun _ H'=>Q .non H',rt:=Q } (start N vs) H):Def P w K mg base (k+1) x ps sp:=by
 obtain⟨f,fd,h1,F,b⟩:=R.ex
 exact⟨f,fd,h1,F.kp,F.lk,.all b,F.ok S len (fun cdv=>hbody f cdv)⟩
theorem Def.at {P:Program}{w:World}{K:PySem.W.Frag}{mg:Str->Option Value}{base:Heap}{k:Nat}{x:Str}{ps:List Str}{sp:Sp}{f:Addr}{fd:FuncData}(D:Def P w K mg base k x ps sp)(h:mg x=some (.ref f))
  (l:∃oc od osl,K.lookup f=some ⟨oc,od,.func fd,osl⟩):dE P w K mg base CX0 k f fd ps sp:=by
 obtain⟨f',fd',h',_,⟨oc',od',osl',l'⟩,_,F⟩:=D.ex
 obtain⟨oc,od,osl,l⟩:=l
 cases h.symm.trans h'
 have e:=l.symm.trans l'
 simp only[Option.some.injEq,Obj.mk.injEq,Data.func.injEq]at e
 rw[e.2.2.1]
 exact F
section
variable {K:PySem.W.Frag}{w:World}{mg:Str->Option Value}{h:Heap}{x:Str}
theorem int_mk {i:Int}{t:Tok}(X:K.In h)(G:h.Ns mainGlobals mg)(a:PySem.W.nsIn K mainGlobals x=some (some (.int i t))):∃t,mg x=some (.int i t):=⟨_,PySem.W.mg_of X G a⟩
theorem str_mk {i:Str}{t:Tok}(X:K.In h)(G:h.Ns mainGlobals mg)(a:PySem.W.nsIn K mainGlobals x=some (some (.str i t))):∃t,mg x=some (.str i t):=⟨_,PySem.W.mg_of X G a⟩
end
end L2
namespace L2
open PySem PySem.Spec PyProof.Rows
theorem pZ {H H':Hp}{p:Addr}{o:HO}(e:Same H H')(h:H p=none):Same H (upd H' p o):=fun b u q=>by
 rw[ag (av q h)]
 exact e b u q
theorem ai {H:Hp}{p:Addr}{o:HO}(h:H p=none):Same H (upd H p o):=pZ (Same.refl H) h
section
variable {cap:List (Option Nat)}{g:TG}{tc:TT}{te:TE}{Q:Addr->Hp->Prop}{σ:St}{H:Hp}
theorem lR {J:It}{n:Nat}{item:Nat->V->Prop}(Pv:Nat->List V->St->Hp->Prop)(hn:n≤1000000)(h0:Pv 0 [] (hV cap σ) H)(hlen:∀i ys σ' H',Pv i ys σ' H'->ys.length≤i)
  (hgo:∀i ys σ' H',i<n->Pv i ys σ' H'->J.go i H') (hyld:∀i ys σ' H' x H2,i<n->Pv i ys σ' H'->J.yld i H' x H2->item i x/\H2=H') (hstop:∀ys σ' H',Pv n ys σ' H'->J.stop n H')
  (hs:∀i x ys σ' H',i<n->item i x->Pv i ys σ' H'->g x σ' H' fun σ3 H3=>tc σ3 H3 fun b H4=>if b=true then te σ3 H4 fun y H5=>Pv (i+1) (ys++[y]) σ3 H5 else Pv (i+1) ys σ3 H4)
  (hd:∀ys σ' H',Pv n ys σ' H'->∀D,H' D=none->Q D (upd H' D (.lst ys))):qA J cap g tc te Q σ H:=by
 have big:(1000000:Nat)<sizeLine:=by rw[sizeLine_eq];decide
 refine⟨fun i m ys σ' H'=>m=n-i/\i≤n/\Pv i ys σ' H',⟨n,by simp,Nat.zero_le _,h0⟩,?_⟩
 rintro i m ys σ' H' ⟨rfl,hi,p⟩
 have hl:=hlen i ys σ' H' p
 by_cases hlt:i<n
 ·refine .inr ⟨hgo i ys σ' H' hlt p,by omega,Pv (i+1),fun ys2 σ2 H2 p'=>⟨n-(i+1),by omega,rfl,hlt,p'⟩,fun x H2 y=>?_⟩
  obtain⟨h1,h2⟩:=hyld i ys σ' H' x H2 hlt p y
  subst h2
  exact hs i x ys σ' _ hlt h1 p
 ·have e:i=n:=by omega
  subst e
  exact .inl ⟨hstop ys σ' H' p,by omega,hd ys σ' H' p⟩
theorem gx {lo:Int}{n:Nat}(Pv:Nat->List V->St->Hp->Prop)(hn:n≤1000000)(h0:Pv 0 [] (hV cap σ) H)(hlen:∀i ys σ' H',Pv i ys σ' H'->ys.length≤i)
  (hs:∀i ys σ' H',i<n->Pv i ys σ' H'->g (.int (lo+i)) σ' H' fun σ3 H3=>tc σ3 H3 fun b H4=>if b=true then te σ3 H4 fun y H5=>Pv (i+1) (ys++[y]) σ3 H5 else Pv (i+1) ys σ3 H4)
  (hd:∀ys σ' H',Pv n ys σ' H'->∀D,H' D=none->Q D (upd H' D (.lst ys))):qA (tV lo n) cap g tc te Q σ H :=
 lR (item:=fun i x=>x=.int (lo+i)) Pv hn h0 hlen (fun i ys σ' H' hi _=>hi) (fun i ys σ' H' x H2 _ _ y=>⟨y.2,y.1⟩) (fun _ _ _ _=>Nat.le_refl n) (fun i x ys σ' H' hi e p=>by subst e;exact hs i ys σ' H' hi p) hd
theorem mM {K:PySem.W.Frag}{a:Addr}{xs:List V}(Pv:Nat->List V->St->Hp->Prop)(hn:xs.length≤1000000)(h0:Pv 0 [] (hV cap σ) H)(hlen:∀i ys σ' H',Pv i ys σ' H'->ys.length≤i)
  (hl:∀i ys σ' H',Pv i ys σ' H'->SqL K H' a xs)
  (hs:∀i x ys σ' H',xs[i]?=some x->Pv i ys σ' H'->g x σ' H' fun σ3 H3=>tc σ3 H3 fun b H4=>if b=true then te σ3 H4 fun y H5=>Pv (i+1) (ys++[y]) σ3 H5 else Pv (i+1) ys σ3 H4)
  (hd:∀ys σ' H',Pv xs.length ys σ' H'->∀D,H' D=none->Q D (upd H' D (.lst ys))):qA (wO K a) cap g tc te Q σ H :=
 lR (item:=fun i x=>xs[i]?=some x) Pv hn h0 hlen (fun i ys σ' H' hi p=>⟨xs,xs[i],hl i ys σ' H' p,by simp[hi]⟩) (fun i ys σ' H' x H2 _ p y=>⟨y.2 xs (hl i ys σ' H' p),y.1⟩)
  (fun ys σ' H' p=>⟨xs,hl _ ys σ' H' p,Nat.le_refl _⟩) (fun i x ys σ' H' hi e p=>hs i x ys σ' H' e p) hd
end
end L2
namespace L2
open PySem PySem.Spec PyProof.Rows
@[irreducible] def Irr (p:Prop):Prop:=p
theorem Irr.mk {p:Prop}(h:p):Irr p:=by unfold Irr;exact h
theorem Irr.out {p:Prop}(h:Irr p):p:=by unfold Irr at h;exact h
abbrev JE (X:Cx)(e:Expr)(t:TE):Prop:=Irr (PE X e t)
abbrev JT (X:Cx)(e:Expr)(t:TT):Prop:=Irr (PT X e t)
abbrev JW (X:Cx)(e:Expr)(t:TT):Prop:=Irr (PW X e t)
abbrev JA (X:Cx)(es:List Expr)(t:TA):Prop:=Irr (PA X es t)
abbrev JO (X:Cx)(e:Option Expr)(t:TO):Prop:=Irr (PO X e t)
abbrev JS (X:Cx)(st:Stmt)(t:TS):Prop:=Irr (PS X st t)
abbrev iF (X:Cx)(st:List Stmt)(t:TS):Prop:=Irr (PSs X st t)
abbrev JG (X:Cx)(e:Expr)(t:TG):Prop:=Irr (PG X e t)
abbrev xP (X:Cx)(e:List Expr)(t:nK):Prop:=Irr (wH X e t)
abbrev JI (X:Cx)(tg it:Expr)(t:TI):Prop:=Irr (PI X tg it t)
section
variable {X:Cx}{a b c e f k o v tg it:Expr}{es:List Expr}{ta tb tc te td ty tx tk tv:TE}{tA tB':TT}{t:TA}{u u':TS}{pos pos' p p2 apos cpos spos:Pos}{st:Stmt}{sts sts':List Stmt}{K:PySem.W.Frag}{w:World}
theorem bx (hK:X.K=K:=by rfl):Irr (bo X (binaryOp .Add) (qY K)):=.mk (uR hK)
theorem gJ:Irr (bo X (binaryOp .Sub) j9):=.mk vd
theorem oY:Irr (bo X (binaryOp .Mult) uM):=.mk vZ
theorem gw:Irr (bo X (binaryOp .FloorDiv) vY):=.mk vx
theorem bS:Irr (bo X (binaryOp .Mod) vL):=.mk uI
theorem kS:Irr (xU X .Add oi):=.mk rA
theorem eH (hu:X.A.units+64<cLine)(hK:X.K=K:=by rfl):Irr (bo X (compareOp .Eq) (wN K false)):=.mk (xk hu hK)
theorem km (hu:X.A.units+64<cLine)(hK:X.K=K:=by rfl):Irr (bo X (compareOp .NotEq) (wN K true)):=.mk (x6 hu hK)
theorem kE:Irr (bo X (compareOp .Lt) yG):=.mk xH
theorem sH:Irr (bo X (compareOp .LtE) zb):=.mk xx
theorem xr:Irr (bo X (compareOp .Gt) y3):=.mk xw
theorem sJ:Irr (bo X (compareOp .GtE) yO):=.mk xc
theorem xL (hK:X.K=K:=by rfl):Irr (bo X (compareOp .In) (yN K false)):=.mk (xG hK)
theorem uW:Irr (bo X (compareOp .Is) (wJ false)):=.mk xT
theorem rB:Irr (bo X (compareOp .IsNot) (wJ true)):=.mk og
theorem dX (hu:X.A.units+64<cLine)(hK:X.K=K:=by rfl)(hw:X.w=w:=by rfl):Irr (tq X (yB K w)):=.mk (yu hu hK hw)
theorem cN (hK:X.K=K:=by rfl):Irr (bU X (.builtin "len") (rV K)):=.mk (uH hK)
theorem bt:Irr (nZ X "list.append" iE):=.mk mZ
theorem jn (i:Nat){x:Str}(hN:X.N[i]?=some x:=by rfl)(hv:sx X.env.scope x:=by first | exact Or.inl rfl | exact Or.inr (Or.inl rfl) | exact Or.inr (Or.inr rfl))(hd:(x == ("__debug__":Str))=false:=by decide)
  (hcd:(x == ("__classdict__":Str))=false:=by decide):JE X (.Name x pos) (gZ i):=.mk (pn i hN hv hd hcd)
theorem aj {i:Int}{j:Nat}:JE X (.Constant (.int i) j pos) (tC (.int i)):=.mk uZ
theorem iR {b:Bool}{j:Nat}:JE X (.Constant (.bool b) j pos) (tC (.bl b)):=.mk yn
theorem ij {j:Nat}:JE X (.Constant .none j pos) (tC .non):=.mk vz
theorem dz {x:Str}{j:Nat}:JE X (.Constant (.str x) j pos) (tC (.str x)):=.mk wC
theorem bz {x:Str}{v:V}{u:Value}(hg:Gl X x)(hm:X.mg x=some u)(r:RelV v u)(hd:(x == ("__debug__":Str))=false:=by decide):JE X (.Name x pos) (tC v):=.mk (sI hg hm r hd)
theorem fY {x:Str}{v:V}{u:Value}(hg:Gl X x)(hm:X.mg x=none)(hv:bootBuiltins x=some u)(r:RelV v u)(hn:x≠"__name__":=by decide)(hd:(x == ("__debug__":Str))=false:=by decide):JE X (.Name x pos) (tC v):=.mk (rL hg hm hv r hn hd)
theorem aJ {op:Operator}{r:R2}(ho:Irr (bo X (binaryOp op) r))(ha:JE X a ta)(hb:JE X b tb):JE X (.BinOp a op b pos) (pf r ta tb):=.mk (yw ho.out ha.out hb.out)
theorem dm {op:CmpOp}{r:R2}(ho:Irr (bo X (compareOp op) r))(ha:JE X a ta)(hb:JE X b tb)(hm:behindInMarks op b=false:=by first | exact kz _ | rfl):JE X (.Compare a [op] [b] pos) (pf r ta tb):=.mk (rX ho.out ha.out hb.out hm)
theorem dj (ha:JE X a ta)(hb:JE X (.BoolOp .And (b::es) pos) tb):JE X (.BoolOp .And (a::b::es) pos) (md ta tb):=.mk (rC ha.out hb.out)
theorem ig {op:BoolOp}(h:JE X a ta):JE X (.BoolOp op [a] pos) ta:=.mk (u1 h.out)
theorem ly (ha:JE X a ta):JE X (.UnaryOp .Not a pos) (lC ta):=.mk (rE ha.out)
theorem af:JA X [] vq:=.mk vT
theorem aa (ha:JE X e te)(hr:JA X es t)(h:aZ e=true:=by rfl):JA X (e::es) (jI te t):=.mk (pU ha.out hr.out h)
theorem bi {x1:Nat}(h:JA X es t):JE X (.Tuple es x1 pos) (wZ t):=.mk (wc h.out)
theorem cr (h:JA X es t):JE X (.List es pos) (w4 t):=.mk (wg h.out)
theorem lh:JO X none lB:=.mk qS
theorem fP (h:JE X e te):JO X (some e) (lT te):=.mk (pG h.out)
theorem iU {r:V->Option Int->Option Int->Hp->VK->Prop}{lo hi:Option Expr}{tl th:TO}(hr:Irr (wK X r))(he:JE X e te)(hl:JO X lo tl)(hu:JO X hi th):JE X (.Subscript e (.Slice lo hi none p2) pos) (zh r te tl th):=.mk (oE hr.out he.out hl.out hu.out)
theorem aK {r:R2}(hr:Irr (tq X r))(ha:JE X a ta)(hb:JE X b tb)(hs:lN b:=by exact fun _ _=>rfl):JE X (.Subscript a b pos) (pf r ta tb):=.mk (xN hr.out ha.out hb.out hs)
theorem bq {k:Nat}{x:Str}{ps:List Str}{sp:Sp}(D:Def X.prog X.w X.K X.mg X.base k x ps sp)(hr:Room k X.A)(hg:Gl X x)(ha:JA X (e::es) t)(hdb:(x == ("__debug__":Str))=false:=by decide)
  (hst:al (e::es)=true:=by rfl):JE X (.Call (.Name x p) (e::es) [] pos) (fun σ H Q=>t σ H fun vs H1=>sp vs H1 Q E0):=.mk (vV D hr hg ha.out hdb hst)
theorem au {x:Str}{id:String}{r:List V->Hp->VK->Prop}(hc:Irr (bU X (.builtin id) r))(hg:Gl X x)(hm:X.mg x=none)(hv:bootBuiltins x=some (.builtin id))(ha:JA X (e::es) t)(hn:x≠"__name__":=by decide)(hdb:(x == ("__debug__":Str))=false:=by decide)
  (h:al (e::es)=true:=by rfl):JE X (.Call (.Name x p) (e::es) [] pos) (wG r t):=.mk (nJ hc.out hg hm hv ha.out hn hdb h)
theorem jE {x:Str}{T:String}{r:List V->Hp->VK->Prop}(hc:Irr (bU X (.type T) r))(hg:Gl X x)(hm:X.mg x=none)(hv:bootBuiltins x=some (.type T))(ha:JA X (e::es) t)(hn:x≠"__name__":=by decide)(hdb:(x == ("__debug__":Str))=false:=by decide)
  (h:al (e::es)=true:=by rfl):JE X (.Call (.Name x p) (e::es) [] pos) (wG r t):=.mk (kg hc.out hg hm hv ha.out hn hdb h)
theorem e8 {name:Str}{T id:String}{r:V->List V->Hp->VK->Prop}{to:TE}(pa:PlainAttrs T)(slot:Slot T name id)(hty:typeOf (.builtin id)=pure (.type "method_descriptor"))(hm:Irr (nZ X id r))(ho:JE X o to)(ha:JA X (e::es) t)(hK:X.K=K:=by rfl)
  (hsup:dL o=true:=by rfl) (h:al (e::es)=true:=by rfl) (h30:(e::es).length<30:=by decide) (hline:(apos.endLine == cpos.line)=true:=by rfl) :
  JE X (.Call (.Attribute o name apos) (e::es) [] cpos) (yK K T r to t):=.mk (wb pa slot hty hm.out ho.out ha.out hK hsup h h30 hline)
theorem uB {name:Str}{T id:String}{r:V->List V->Hp->VK->Prop}{to:TE}(pa:PlainAttrs T)(slot:Slot T name id)(hty:typeOf (.builtin id)=pure (.type "method_descriptor"))(hm:Irr (nZ X id r))(ho:JE X o to)(hK:X.K=K:=by rfl)
  (hsup:dL o=true:=by rfl) (hline:(apos.endLine == cpos.line)=true:=by rfl):JE X (.Call (.Attribute o name apos) [] [] cpos) (vh K T r to):=.mk (rq pa slot hty hm.out ho.out hK hsup hline)
theorem aH {op:CmpOp}{r:R2}(ho:Irr (bo X (compareOp op) r))(ha:JE X a ta)(hb:JE X b tb)(hm:behindInMarks op b=false:=by first | exact kz _ | rfl):JT X (.Compare a [op] [b] pos) (eJ (pf r ta tb)):=.mk (rQ ho.out ha.out hb.out hm)
theorem jG {op op':CmpOp}{r r':R2}(ho:Irr (bo X (compareOp op) r))(ho':Irr (bo X (compareOp op') r'))(ha:JE X a ta)(hb:JE X b tb)(hc:JE X c tc)
  (hm:lastMarks [op,op'] [b,c]=false:=by with_unfolding_all rfl):JT X (.Compare a [op,op'] [b,c] pos) (eJ (kh r r' ta tb tc)):=.mk (by rw[mV];exact nL ho.out ho'.out ha.out hb.out hc.out hm)
theorem bp (h:JE X e te)(he:∀whole,isTrue e X.env whole=(do let v<-whole;standAt e.pos;holding [v] (truthy v)):=by intro _;rfl):JT X e (eJ te):=.mk (sD h.out he)
theorem cX (ha:JT X a tA):JT X (.UnaryOp .Not a pos) (wU tA):=.mk (vy ha.out)
theorem fS (ha:JT X a tA):JW X (.BoolOp .And [a] pos) tA:=.mk (qR ha.out)
theorem cW (ha:JT X a tA):JW X (.BoolOp .Or [a] pos) tA:=.mk (vX ha.out)
theorem gy (ha:JT X a tA)(hb:JW X (.BoolOp .And (b::es) pos) tB'):JW X (.BoolOp .And (a::b::es) pos) (yp tA tB'):=.mk (vK ha.out hb.out)
theorem cL (ha:JT X a tA)(hb:JW X (.BoolOp .Or (b::es) pos) tB'):JW X (.BoolOp .Or (a::b::es) pos) (zo tA tB'):=.mk (xI ha.out hb.out)
theorem eZ (h:JW X e tA):JT X e tA:=.mk h.out.pt
theorem i4 (h:JE X e te)(hK:X.K=K:=by rfl):JI X tg e (yk K te):=.mk (vF h.out hK)
theorem dR (hg:Gl X "range")(hm:X.mg "range"=none)(ha:JA X [a] t)(h:aZ a=true:=by rfl):JI X tg (.Call (.Name "range" p) [a] [] pos) (lj t):=.mk (qX hg hm ha.out (am h))
theorem aP {i:Nat}{x:Str}(hN:X.N.Nodup)(hi:X.N[i]?=some x)(hx:pM X.env.scope x)(hf:X.fn x=true\/X.env.scope.names.lookup x=some .local:=by first | exact .inl rfl | exact .inr rfl | assumption):JG X (.Name x pos) (lz i):=.mk (qQ hN hi hx hf)
theorem fJ:xP X [] xS:=.mk rO
theorem bB {g:TG}{gs:nK}(h1:JG X e g)(h2:xP X es gs)(hs:(assignEach (e::es) X.env).map (·.2)=assign e X.env::(assignEach es X.env).map (·.2):=by rfl):xP X (e::es) (ul g gs):=.mk (qI h1.out h2.out hs)
theorem j8 {k:Nat}{gs:nK}{n:Nat}(hc:X.calm=true)(h:xP X es gs)(hK:X.K=K:=by rfl)(hn:(assignEach es X.env).length=n:=by rfl)(hst:(assignEach es X.env).findIdx? (·.1)=none:=by rfl):JG X (.Tuple es k pos) (wq K n gs):=.mk (tM hc h.out hK hn hst)
theorem wx (ho:JE X o ta)(hi:JE X k tb)(ha:∀v,assign (.Subscript o k pos) X.env v=(do
   let ov<-holding [v] (eval o X.env)
   let iv<-holding [v,ov] (eval k X.env)
   standAt pos
   holding [v,ov,iv] (setItem ov iv v)
   release [v,ov,iv] []):=by intro _;rfl):JG X (.Subscript o k pos) (L2.gSub ta tb uv):=.mk (vI ho.out hi.out pe ha)
abbrev yx (X:Cx)(ifs:List Expr)(t:TT):Prop:=Irr (wI X ifs t)
theorem lu:yx X [] ur:=.mk sV
theorem rP (h:JT X c tA):yx X [c] tA:=.mk (rM h.out)
theorem qe {N:List Str}{cap:List (Option Nat)}{scope:Scope}{ifs:List Expr}{wi:TI}{g:TG}(hc:X.calm=true)(S:CompScope X N cap scope)(hi:JI X tg it wi)
  (hg:∀C s₀ H₀ ex,JG (aM X N scope C s₀ H₀ ex) tg g) (ht:∀C s₀ H₀ ex,yx (aM X N scope C s₀ H₀ ex) ifs tA) (he:∀C s₀ H₀ ex,JE (aM X N scope C s₀ H₀ ex) e te)
  (hs:∀x,foldedSetIterable it X.env x=pure x:=by intro _;rfl) :
  JE X (.ListComp e [⟨tg,it,ifs,0⟩] scope pos) (fun σ H Q=>lO cap wi g tA te (fun D H'=>Q (.ref D) H') σ H) :=
 .mk (rh hc S hi.out (fun C s₀ H₀ ex=>(hg C s₀ H₀ ex).out) (fun C s₀ H₀ ex=>(ht C s₀ H₀ ex).out) (fun C s₀ H₀ ex=>(he C s₀ H₀ ex).out) hs)
theorem tL {N:List Str}{cap:List (Option Nat)}{scope:Scope}{ifs:List Expr}{wi:TI}{g:TG}{i:Nat}{x:Str}(hc:X.calm=true)(S:CompScope X N cap scope)(hi:JI X tg it wi)
  (hg:∀C s₀ H₀ ex,JG (aM X N scope C s₀ H₀ ex) tg g) (ht:∀C s₀ H₀ ex,yx (aM X N scope C s₀ H₀ ex) ifs tA) (he:∀C s₀ H₀ ex,JE (aM X N scope C s₀ H₀ ex) e te)
  (hN:X.N.Nodup) (hix:X.N[i]?=some x) (hx:X.env.scope.names.lookup x=some .local) (hsw:swapsWith (.ListComp e [⟨tg,it,ifs,0⟩] scope pos) (some (.Name x pos')) spos.line X.env=pure true:=by rfl)
  (hs:∀x,foldedSetIterable it X.env x=pure x:=by intro _;rfl) :
  JS X (.Assign [.Name x pos'] (.ListComp e [⟨tg,it,ifs,0⟩] scope pos) spos) (fun D σ H=>lO cap wi g tA te (fun d H'=>D.nx (σ.set i (some (.ref d))) H') σ H) :=
 .mk (sw hc S hi.out (fun C s₀ H₀ ex=>(hg C s₀ H₀ ex).out) (fun C s₀ H₀ ex=>(ht C s₀ H₀ ex).out) (fun C s₀ H₀ ex=>(he C s₀ H₀ ex).out) hN hix hx hsw hs)
theorem aF:iF X [] tU:=.mk sf
theorem ac (h1:JS X st u)(h2:iF X sts u'):iF X (st::sts) (yr u u'):=.mk (pO h1.out h2.out)
theorem ak (h1:JS X st u):iF X [st] u:=.mk (tD h1.out)
theorem ao {i:Nat}{x:Str}(hN:X.N.Nodup)(hi:X.N[i]?=some x)(hx:pM X.env.scope x)(he:JE X e te)(hs:swapsWith e (some (.Name x pos')) pos.line X.env=pure false:=by rfl)(hf:X.fn x=true\/X.env.scope.names.lookup x=some .local:=by first | exact .inl rfl | exact .inr rfl | assumption) :
  JS X (.Assign [.Name x pos'] e pos) (qO te (lz i)):=.mk (uO hN hi hx he.out hs hf)
theorem kj {g:TG}(he:JE X e te)(hg:JG X tg g)(hs:swapsWithSole [tg] e pos.line X.env=pure false:=by rfl)(hw:swappedStores [tg] e X.env=pure none:=by rfl)
  (h1:(assignEach [tg] X.env).map (·.2)=[assign tg X.env]:=by rfl):JS X (.Assign [tg] e pos) (qO te g):=.mk (wz he.out hg.out hs hw h1)
theorem j7 {i:Nat}{x:Str}{op:Operator}{ti:uF}(hN:X.N.Nodup)(hi:X.N[i]?=some x)(hx:pM X.env.scope x)(he:JE X e te)(ho:Irr (xU X op ti))(hf:X.fn x=true\/X.env.scope.names.lookup x=some .local:=by first | exact .inl rfl | exact .inr rfl | assumption) :
  JS X (.AugAssign (.Name x pos') op e pos) (qH i te ti):=.mk (rg hN hi hx he.out ho.out hf)
theorem aY (hc:JT X c tA)(ha:iF X sts u)(hb:iF X sts' u'):JS X (.If c sts sts' pos) (yc tA u u'):=.mk (yg hc.out ha.out hb.out)
theorem aw (he:JE X e te):JS X (.Return (some e) pos) (xF te):=.mk (u2 he.out)
theorem aD (he:JE X e te)(hs:swapsWith e none pos.line X.env=pure false:=by rfl):JS X (.Expr e pos) (qG te):=.mk (rR he.out hs)
theorem jg (hp:PassesOwn (model X.prog X.w) X.A X.env X.xe)(hc:JT X c tA)(hb:iF X sts u):JS X (.While c sts [] pos) (qp tA u):=.mk (pb hp hc.out hb.out)
theorem dM {wi:TI}{g:TG}(hp:PassesOwn (model X.prog X.w) X.A X.env X.xe)(hc:X.calm=true)(hi:JI X tg it wi)(hg:JG X tg g)(hb:iF X sts u)
  (hs:∀x,foldedSetIterable it X.env x=pure x:=by intro _;rfl):JS X (.For tg it sts [] pos) (xh wi g u):=.mk (wd hp hc hi.out hg.out hb.out hs)
end
theorem Raw.defJ {P:Program}{w:World}{K:PySem.W.Frag}{mg:Str->Option Value}{base:Heap}{x:Str}{st:Stmt}{N ps:List Str}{k:Nat}{sp:Sp}(R:Raw K mg x st ps)(S:ar N ps (ah st))(len:∀vs H Q E,sp vs H Q E->vs.length=ps.length)
  (hbody:∀(f:Addr) (cdv:Value) (A:Around) (outer:List Env) (s:Shared) (H:Hp) (vs:List V) (Q:VK) (E:XK),Room k (A.deeper (envOfC x (ah st) s.heap.objs.size f cdv))->sp vs H Q E ->
   ∃t,iF (aQ CX0 P w K mg base N x (ah st) f cdv A outer s H E).nox (ay st) t/\t { nx:=fun _ H'=>Q .non H',rt:=Q } (start N vs) H):Def P w K mg base (k+1) x ps sp :=
 R.def S len fun f cdv A outer s H vs Q E hr h=>let ⟨t,h1,h2⟩:=hbody f cdv A outer s H vs Q E hr h;⟨t,h1.out,h2⟩
end L2
namespace L2
open PySem PySem.Spec PyProof.Rows
inductive uc (K:PySem.W.Frag)(H:Hp):V->String->Prop where
 | non:uc K H .non "NoneType"
 | bl (x:Bool):uc K H (.bl x) "bool"
 | int (i:Int):uc K H (.int i) "int"
 | str (x:Str):uc K H (.str x) "str"
 | list {a:Addr} {xs:List V} (e:SqL K H a xs):uc K H (.ref a) "list"
 | tuple {a:Addr} {xs:List V} (e:SqT K H a xs):uc K H (.ref a) "tuple"
theorem kr {X:Cx}{pins:List (Addr×Obj)}{σ:St}{H:Hp}{s:Shared}{A:Around}{E:Value->Shared->Prop}{Q:Value->Shared->Prop}{c:Value}{b:Bool}{x:V}{u:Value}{t:String}(I:Inv X pins σ H s)(rx:RelV x u)(ty:uc X.K H x t)(e:PySem.W.kitOne X.K (.type t) c=some b)(h:∀tk,Q (.bool b) { s with toks:=tk }) :
  wpAny (model X.prog X.w) A (call (.builtin "isinstance") [u,c]) Q E s:=by
 cases ty with
 | non=>exact dU I rx .non e h
 | bl y=>exact dU I rx (.bl y) e h
 | int i=>exact dU I rx (.int i) e h
 | str y=>exact dU I rx (.str y) e h
 | @list a xs ea =>
  cases (show u=Value.ref a from rx)
  obtain⟨its,rv,⟨o,n,h1,h2,h3,h4⟩,hz⟩:=I.list ea
  exact PySem.W.kia_one PySem.W.kitx_list I.kIn ⟨o,h1,h2⟩ e (fun z=>nomatch z) h
 | @tuple a xs ea =>
  cases (show u=Value.ref a from rx)
  obtain⟨its,rv,⟨o,h1,h2,n,h4⟩,hz⟩:=I.tuple ea
  exact PySem.W.kia_one PySem.W.kitx_tuple I.kIn ⟨o,h1,h2⟩ e (fun z=>nomatch z) h
def wW (K:PySem.W.Frag):List V->Hp->VK->Prop:=fun xs H Q=>match xs with
 | [x,.ty Tn]=>∃ty b,uc K H x ty/\PySem.W.kitOne K (.type ty) (.type Tn)=some b/\Q (.bl b) H
 | _=>False
theorem iV {X:Cx}{K:PySem.W.Frag}(hK:X.K=K:=by rfl):Irr (bU X (.builtin "isinstance") (wW K)):=by
 refine .mk ?_
 subst hK
 intro pins s σ H xs us Q I r h
 unfold wW at h
 split at h
 ·obtain⟨ty,b,h1,h2,q⟩:=h
  obtain⟨u,w',rfl,r1,r2⟩:=pQ r
  cases r2
  exact kr I r1 h1 h2 fun tk=>⟨.bl b,H,I.tok tk,rfl,q⟩
 ·exact h.elim
end L2
namespace L2
open PySem PySem.Spec PyProof.Rows
abbrev aU:HO:=.ext fun _=>True
def Kn (H:Hp)(a:Addr)(o:Obj):Prop:=H a=some (.frz o aU)
theorem Kn.get {P:Program}{w:World}{H:Hp}{h:Heap}{a:Addr}{o:Obj}(k:Kn H a o)(x:HOk P w H h):h.get? a=some o:=(x a _ k).1
theorem fh {P:Program}{w:World}{H:Hp}{h:Heap}{a:Addr}{o:Obj}(e:h.get? a=some o):ObjOk P w H h a (.frz o aU):=⟨e,True.intro,⟨o,e⟩,fun _ _ _ _=>True.intro⟩
def rem (cs:List Addr)(H:Hp):Hp:=fun b=>if b∈cs then none else H b
def back (cs:List Addr)(H H':Hp):Hp:=fun b=>if b∈cs then H b else H' b
theorem ee {cs:List Addr}{H:Hp}{b:Addr}(h:b∈cs):rem cs H b=none:=if_pos h
theorem aL {cs:List Addr}{H:Hp}{b:Addr}(h:b∉cs):rem cs H b=H b:=if_neg h
theorem lQ {cs:List Addr}{H H':Hp}{b:Addr}(h:b∈cs):back cs H H' b=H b:=if_pos h
theorem bZ {cs:List Addr}{H H':Hp}{b:Addr}(h:b∉cs):back cs H H' b=H' b:=if_neg h
theorem p9 {cs:List Addr}{H:Hp}:back cs H (rem cs H)=H:=by
 funext b
 unfold back rem
 split<;>rfl
theorem qN {cs:List Addr}{H:Hp}{a:Addr}{o:HO}(h:a∉cs):rem cs (upd H a o)=upd (rem cs H) a o:=by
 funext b
 unfold rem upd
 by_cases e:b=a
 ·subst e;rw[if_neg h,if_pos rfl,if_pos rfl]
 ·rw[if_neg e,if_neg e]
section
variable {P:Program}{w:World}{H H':Hp}{h h':Heap}{cs fs:List Addr}
theorem gh {c:Addr}{u:HO}(k:∀c∈cs,∃o,Kn H c o)(e:H c=some u)(n:∀o,u≠.frz o aU):c∉cs:=fun m=>by
 obtain⟨o,q⟩:=k c m
 unfold Kn at q
 rw[e]at q
 exact n o (Option.some.inj q)
theorem fX {c:Addr}(k:∀c∈cs,∃o,Kn H c o)(e:H c=none):c∉cs:=fun m=>by
 obtain⟨o,q⟩:=k c m
 unfold Kn at q
 rw[e]at q
 cases q
theorem HOk.rem (x:HOk P w H h)(k:∀c∈cs,∃o,Kn H c o):HOk P w (rem cs H) h:=fun b u e=>by
 have nb:b∉cs:=fun m=>by rw[ee m]at e;cases e
 rw[aL nb]at e
 refine (x b u e).stay (fun c v _ q=>q) (fun c q=>?_) fun c xs q=>?_
 ·rw[aL (gh k q fun o z=>by cases z)];exact q
 ·rw[aL (gh k q fun o z=>by cases z)];exact q
theorem Un.back (u:Un fs [] (rem cs H) H' h h')(k:∀c∈cs,∃o,Kn H c o):Un fs [] H (back cs H H') h h' where
 keep:=fun b o q n hb hx=>u.keep b o q (by rw[aL (fX k n)];exact n) hb hx
 slot:=fun b o q n hb hx=>u.slot b o q (by rw[aL (fX k n)];exact n) hb hx
 free:=fun b o q n hx=>by
  rw[bZ (fX k n)]
  exact u.free b o q (by rw[aL (fX k n)];exact n) hx
 there:=u.there
 tups:=fun b xs q=>by
  have nb:=gh k q fun o z=>by cases z
  rw[bZ nb]
  exact u.tups b xs (by rw[aL nb];exact q)
 frzs:=fun b o z q=>by
  by_cases m:b∈cs
  ·rw[lQ m];exact q
  ·rw[bZ m]
   exact u.frzs b o z (by rw[aL m];exact q)
 tbls:=fun b ps q=>by
  have nb:=gh k q fun o z=>by cases z
  rw[bZ nb]
  exact u.tbls b ps (by rw[aL nb];exact q)
theorem HOk.back (x':HOk P w H' h')(u:Un fs [] (L2.rem cs H) H' h h')(k:∀c∈cs,∃o,Kn H c o)(x:HOk P w H h)(hf:∀c∈cs,c∉fs):HOk P w (L2.back cs H H') h':=fun b v e=>by
 by_cases m:b∈cs
 ·rw[lQ m]at e
  obtain⟨o,q⟩:=k b m
  have q':H b=some (.frz o aU):=q
  rw[q']at e
  cases e
  exact fh (u.keep b o (Kn.get q x) (ee m) (hf b m) (by simp))
 ·rw[bZ m]at e
  have gone:∀c,c∈cs->H' c=none:=fun c mc=>by
   obtain⟨o,q⟩:=k c mc
   exact u.free c o (Kn.get q x) (ee mc) (by simp)
  refine (x' b v e).stay (fun c v _ q=>q) (fun c q=>?_) fun c xs q=>?_
  ·rw[bZ fun mc=>by rw[gone c mc]at q;cases q];exact q
  ·rw[bZ fun mc=>by rw[gone c mc]at q;cases q];exact q
end
structure je (ps ls fr:List Str)(sc:Scope):Prop where
 kind:sc.kind=.function
 co:sc.isCoroutine=false
 gen:sc.isGenerator=false
 nd:(ps++ls++fr).Nodup
 par:∀x∈ps,sc.names.lookup x=some .local
 nocell:∀y∈sc.names,y.2≠.cell
 fre:∀x∈fr,sc.names.lookup x=some .free
 all:∀y∈sc.names,y.2=.free->y.1∈fr
structure tz (H:Hp)(f:Addr)(name qual:Str)(st:Stmt)(cl:List (Str×Addr)):Prop where
 ex:∃(doc pm:Value) (c':Addr) (ctv:Value) (oc:Obj) (vs:Array Value) (t:Tok),Kn H f (PySem.W.fnMade name qual (bn st) (ay st) (ah st) cl doc pm c' ctv)/\Kn H c' oc/\oc.data=.fields vs/\vs[1]?=some (.str qual t)
structure CloAt (H:Hp)(f:Addr)(name qual:Str)(st:Stmt)(fr:List Str)(cs:List Addr)(ws:List V):Prop where
 ex:∃cl,tz H f name qual st cl/\(∀x c,cl.lookup x=some c->∃j:Nat,fr[j]?=some x/\cs[j]?=some c)/\∀(j:Nat) x,fr[j]?=some x->∃c,cl.lookup x=some c/\cs[j]?=some c
 cells:∀(j:Nat) x,ws[j]?=some x->∃c o u,cs[j]?=some c/\Kn H c o/\o.data=.cell (some u)/\RelV x u
 l1:cs.length=fr.length
 l2:ws.length=fr.length
 nd:cs.Nodup
theorem CloAt.kn {H:Hp}{f:Addr}{name qual:Str}{st:Stmt}{fr:List Str}{cs:List Addr}{ws:List V}(C:CloAt H f name qual st fr cs ws):∀c∈cs,∃o,Kn H c o:=fun c m=>by
 obtain⟨j,hj,e⟩:=List.mem_iff_getElem.mp m
 have hw:j<ws.length:=by rw[C.l2,<-C.l1];exact hj
 obtain⟨c',o,u,h1,h2,_⟩:=C.cells j ws[j] (List.getElem?_eq_getElem hw)
 rw[List.getElem?_eq_getElem hj,e]at h1
 cases h1
 exact⟨o,h2⟩
theorem CloAt.same {H H':Hp}{f:Addr}{name qual:Str}{st:Stmt}{fr:List Str}{cs:List Addr}{ws:List V}(C:CloAt H f name qual st fr cs ws)(h:∀b o,Kn H b o->Kn H' b o):CloAt H' f name qual st fr cs ws:=by
 obtain⟨cl,⟨doc,pm,c',ctv,oc,vs,t,h1,h2,h3,h4⟩,h5,h6⟩:=C.ex
 refine⟨⟨cl,⟨doc,pm,c',ctv,oc,vs,t,h _ _ h1,h _ _ h2,h3,h4⟩,h5,h6⟩,fun j x e=>?_,C.l1,C.l2,C.nd⟩
 obtain⟨c,o,u,q1,q2,q3,q4⟩:=C.cells j x e
 exact⟨c,o,u,q1,h _ _ q2,q3,q4⟩
theorem f9 {β:Type}{y:Str}{u:β}:∀{l:List (Str×β)},(l.map (·.1)).Nodup->(y,u)∈l->l.lookup y=some u
 | [],_,h=>nomatch h
 | (z,v)::r,nd,h=>by
  rw[List.lookup_cons]
  rw[List.map_cons,List.nodup_cons]at nd
  rcases List.mem_cons.mp h with e | e
  ·cases e
   rw[beq_self_eq_true]
  ·have:(y == z)=false:=beq_eq_false_iff_ne.mpr fun q=>nd.1 (by rw[<-q];exact List.mem_map_of_mem (f:=(·.1)) e)
   rw[this]
   exact f9 nd.2 e
theorem jP {y:Str}{u:Value}:∀{ps:List Str} {us:List Value} {i:Nat},ps.Nodup->ps[i]?=some y->us[i]?=some u->(ps.zip us).reverse.lookup y=some u:=by
 intro ps us i nd h1 h2
 have mem:(y,u)∈ps.zip us:=by
  refine List.mem_iff_getElem?.mpr ⟨i,?_⟩
  rw[List.getElem?_zip_eq_some]
  exact⟨h1,h2⟩
 have nd2:(((ps.zip us).reverse).map (·.1)).Nodup:=by
  rw[List.map_reverse]
  refine (List.reverse_perm _).nodup_iff.mpr ?_
  have:(ps.zip us).map (·.1)=ps.take us.length:=by
   clear h1 h2 mem nd
   induction ps generalizing us with
   | nil=>simp
   | cons p r ih =>
    cases us with
    | nil=>simp
    | cons v s=>simp[ih]
  rw[this]
  exact nd.sublist (List.take_sublist _ _)
 exact f9 nd2 (List.mem_reverse.mpr mem)
def lW (P:Program)(w:World)(K:PySem.W.Frag)(mg:Str->Option Value)(base:Heap)(N:List Str)(qual:Str)(scope:Scope)(f:Addr)(cd:Value)(cl:List (Str×Addr))(A:Around)(outer:List Env)(s:Shared)(H:Hp):Cx where
 prog:=P
 w:=w
 K:=K
 mg:=mg
 base:=base
 A:=A.deeper (PySem.W.envX qual scope s.heap.objs.size f cd cl)
 N:=N
 s₀:=s
 H₀:=H
 env:=PySem.W.envX qual scope s.heap.objs.size f cd cl
 outer:=outer
 stack:=PySem.W.envX qual scope s.heap.objs.size f cd cl::outer
 ex:=[]
 calm:=true
 fn:=fun _=>false
 pn:=[]
 xe:=fun _ _=>False
theorem sX {P:Program}{w:World}{K:PySem.W.Frag}{mg:Str->Option Value}{base:Heap}{A:Around}{outer:List Env}{s:Shared}{H:Hp}{us:List Value}{vs:List V}{Q:VK}{E:XK}{k:Nat}{f:Addr}{name qual:Str}{st:Stmt}{ps ls fr:List Str}{cs:List Addr}{ws:List V}
  (hr:Room (k+1) A) (e0:Env0 P w K mg base A outer s H) (C:CloAt H f name qual st fr cs ws) (S:je ps ls fr (ah st))
  (hb:∀cl doc pm c' ctv,bindArgs (PySem.W.fnX name qual (bn st) (ay st) (ah st) cl .none .none doc pm none (.ref c') ctv) ⟨us,[]⟩=pure (ps.zip us)) (hl:vs.length=ps.length) (r:Vals vs us)
  (hbody:∀cd cl,Room k (A.deeper (PySem.W.envX qual (ah st) s.heap.objs.size f cd cl))->∃t,iF (lW P w K mg base (ps++ls++fr) qual (ah st) f cd cl A outer s (rem cs H)) (ay st) t /\
   t { nx:=fun _ H'=>Q .non (back cs H H'),rt:=fun v H'=>Q v (back cs H H') } (vs.map some++List.replicate ls.length none++ws.map some) (rem cs H)) :
  codeAny (model P w) A (.call (.ref f) ⟨us,[]⟩) (CR CX0 outer P w H s Q E) s:=by
 have kn:=C.kn
 obtain⟨cl,⟨doc,pm,c',ctv,oc,vs',t',h1,h2,h3,h4⟩,h5,h6⟩:=C.ex
 have lim:s.heap.NoLimit:=e0.mod.nolimit.keeps fun b o e=>(e0.bs b o e).1
 have ndP:ps.Nodup:=(List.nodup_append.mp (List.nodup_append.mp S.nd).1).1
 have hlu:us.length=ps.length:=by rw[<-r.length];exact hl
 refine codeAny_call_def (fd:=PySem.W.fnX name qual (bn st) (ay st) (ah st) cl .none .none doc pm none (.ref c') ctv) (body:=ay st) (binds:=ps.zip us) hr.depth (Kn.get h1 e0.hok) rfl lim
  ⟨c',oc,vs',t',rfl,Kn.get h2 e0.hok,h3,h4⟩ rfl (.of_eq (hb cl doc pm c' ctv)) S.nocell (fun x hx=>S.par x.1 (List.of_mem_zip (a:=x.1) (b:=x.2) hx).1) (fun h₁ hns hk₁=>?_) S.co S.gen S.kind
 obtain⟨t,ht,hq⟩:=hbody (.ref c') cl (hr.deeper _)
 have fsn:∀c∈cs,c∉cu outer:=fun c m z=>by
  obtain⟨o,q⟩:=kn c m
  have:=e0.frf c z
  unfold Kn at q
  rw[this]at q
  cases q
 have noX:∀b:Addr,b∉(lW P w K mg base (ps++ls++fr) qual (ah st) f (.ref c') cl A outer s (rem cs H)).ex:=fun b z=>absurd (show b∈([]:List Addr) from z) (by simp)
 have remN:∀{b:Addr},H b=none->rem cs H b=none:=fun {b} n=>by
  unfold rem
  split
  ·rfl
  ·exact n
 have cellAt:∀x c,cl.lookup x=some c->∃u,h₁.IsCell c (some u):=fun x c e=>by
  obtain⟨j,q1,q2⟩:=h5 x c e
  have hj:j<ws.length:=by rw[C.l2];exact (List.getElem?_eq_some_iff.mp q1).1
  obtain⟨c2,o,u,z1,z2,z3,_⟩:=C.cells j ws[j] (List.getElem?_eq_getElem hj)
  rw[q2]at z1
  cases z1
  exact⟨u,o,hk₁ _ _ (Kn.get z2 e0.hok),z3⟩
 have I:Inv (lW P w K mg base (ps++ls++fr) qual (ah st) f (.ref c') cl A outer s (rem cs H)) [] (vs.map some++List.replicate ls.length none++ws.map some) (rem cs H) { s with heap:=h₁,toks:=s.toks+(ps.zip us).length }:=by
  refine⟨⟨e0.mod,S.kind,rfl,rfl,Nat.le_refl _,fun y z c q1 q2=>?_,fun y hy=>?_,fun y c hf _=>absurd (show false=true from hf) Bool.false_ne_true,fun _=>hr.hd,Around.frames_deeper e0.frames,.inr ⟨rfl,rfl⟩,fun b z=>absurd z (noX b),fun b o e=>⟨(e0.bs b o e).1,remN (e0.bs b o e).2⟩,e0.bsz,fun b _ _=>noX b,fun b z=>absurd z (noX b),e0.funs,fun b hb=>remN (e0.frf b hb)⟩,
   rfl,e0.bare,Un.kept hk₁,⟨_,hns,fun i y v q1 q2 q3=>?_⟩,fun y c q=>?_,remN (e0.hok.fresh (Nat.le_refl _)),fun y c q=>?_,fun p hp=>absurd (show p∈([]:List (Addr×Obj)) from hp) (by simp),(e0.hok.rem kn).kept hk₁,?_⟩
  ·obtain⟨i,a1,a2⟩:=h5 y c q1
   obtain⟨j,b1,b2⟩:=h5 z c q2
   obtain⟨hi,ei⟩:=List.getElem?_eq_some_iff.mp a2
   obtain⟨hj,ej⟩:=List.getElem?_eq_some_iff.mp b2
   have:i=j:=(List.getElem_inj C.nd).mp (ei.trans ej.symm)
   subst this
   rw[a1]at b1
   exact Option.some.inj b1
  ·have hy:(ah st).names.lookup y=some .cell\/(ah st).names.lookup y=some .free:=hy
   rcases hy with hy | hy
   ·exact absurd rfl (S.nocell _ (PySem.mem_of_lookup hy))
   ·obtain⟨j,hj,e⟩:=List.mem_iff_getElem.mp (S.all _ (PySem.mem_of_lookup hy) rfl)
    obtain⟨c,q,_⟩:=h6 j y (by rw[List.getElem?_eq_getElem hj];exact congrArg some e)
    exact⟨c,q⟩
  ·have q1:(ps++ls++fr)[i]?=some y:=q1
   by_cases hi:i<ps.length
   ·have hiv:i<vs.length:=by omega
    rw[List.append_assoc,List.getElem?_append_left hi]at q1
    rw[List.append_assoc,List.getElem?_append_left (by simpa using hiv),List.getElem?_map,List.getElem?_eq_getElem hiv]at q2
    have ev:vs[i]=v:=by simpa using q2
    obtain⟨u,hu,rv⟩:=r.get (i:=i) (x:=v) (by rw[List.getElem?_eq_getElem hiv,ev])
    refine⟨u,rv,.inl ⟨S.par y (List.mem_of_getElem? q1),?_⟩⟩
    exact jP ndP q1 hu
   ·by_cases hi2:i<ps.length+ls.length
    ·rw[List.getElem?_append_left (by simp;omega),List.getElem?_append_right (by simp;omega),List.getElem?_replicate]at q2
     split at q2<;>cases q2
    ·rw[List.getElem?_append_right (by simp;omega)]at q1
     rw[List.getElem?_append_right (by simp;omega),List.getElem?_map]at q2
     have eidx:i-(List.map some vs++List.replicate ls.length none).length=i-(ps++ls).length:=by simp;omega
     rw[eidx]at q2
     cases ew:ws[i-(ps++ls).length]? with
     | none=>rw[ew]at q2;cases q2
     | some x =>
      rw[ew]at q2
      have:x=v:=by simpa using q2
      subst this
      obtain⟨c,o,u,z1,z2,z3,z4⟩:=C.cells _ x ew
      obtain⟨c2,y1,y2⟩:=h6 _ y q1
      rw[z1]at y2
      cases y2
      exact⟨u,z4,.inr ⟨.inr (S.fre y (List.mem_of_getElem? q1)),c,y1,o,hk₁ _ _ (Kn.get z2 e0.hok),z3⟩⟩
  ·obtain⟨u,z⟩:=cellAt y c q
   exact⟨_,z⟩
  ·obtain⟨j,_,q2⟩:=h5 y c q
   exact ee (List.mem_of_getElem? q2)
  ·have:=C.l2
   show (vs.map some++List.replicate ls.length none++ws.map some).length=(ps++ls++fr).length
   simp
   omega
 refine wpAny_mono (ht.out [] _ _ _ _ I hq) (fun fl s' hs=>?_) fun e s' hs=>hs.elim
 have fin:∀{σ':St} {H':Hp} {v:V} {u:Value},Inv (lW P w K mg base (ps++ls++fr) qual (ah st) f (.ref c') cl A outer s (rem cs H)) [] σ' H' s'->RelV v u->Q v (back cs H H')->CE outer P w H s Q u s' :=
  fun {σ' H' v u} J rv q=>⟨v,_,J.os,J.bare,J.base.back kn,J.hok.back J.base kn e0.hok fsn,rv,q⟩
 cases fl with
 | ret u =>
  obtain⟨v,σ',H',J,rv,q⟩:=hs
  exact fin J rv q
 | next =>
  obtain⟨σ',H',J,q⟩:=hs
  exact fin (v:=V.non) (u:=Value.none) J rfl q
 | brk =>
  obtain⟨_,_,_,q⟩:=hs
  exact False.elim q
 | cont =>
  obtain⟨_,_,_,q⟩:=hs
  exact False.elim q
end L2
namespace L2
open PySem PySem.Spec PyProof.Rows
structure yT (P:Program)(w:World)(K:PySem.W.Frag)(mg:Str->Option Value)(base:Heap)(k:Nat)(f:Addr)(sp:Sp):Prop where
 fn:∀vs H Q E,sp vs H Q E->∃oc od fd sl,Kn H f ⟨oc,od,.func fd,sl⟩
 run:∀(A:Around) (outer:List Env) (s:Shared) (H:Hp) (us:List Value) (vs:List V) (Q:VK) (E:XK),Room k A->Env0 P w K mg base A outer s H->Vals vs us->sp vs H Q E ->
  codeAny (model P w) A (.call (.ref f) ⟨us,[]⟩) (CR CX0 outer P w H s Q E) s
def kG (i:Nat)(sp:Addr->Sp)(t:TA):TE:=fun σ H Q=>match σ[i]? with
 | some (some (.ref f))=>t σ H fun vs H1=>sp f vs H1 Q E0
 | _=>False
section
variable {X:Cx}{e:Expr}{es:List Expr}{t:TA}{p pos:Pos}
theorem oN {i:Nat}{x:Str}{k:Nat}{sp:Addr->Sp}(F:∀f,yT X.prog X.w X.K X.mg X.base k f (sp f))(hr:Room k X.A)(hN:X.N[i]?=some x)(hv:sx X.env.scope x)(hd:(x == ("__debug__":Str))=false)(hcd:(x == ("__classdict__":Str))=false)(ha:PA X (e::es) t)
  (hst:al (e::es)=true):PE X (.Call (.Name x p) (e::es) [] pos) (kG i sp t):=by
 have h':aZ e=true/\al es=true:=by simpa[al] using hst
 have he:=am (es:=es) (env:=X.env) h'.1
 have hpl:=ba (env:=X.env) (pos:=pos) h'.2
 intro pins s σ H Q I h
 unfold kG at h
 split at h
 ·rename_i f hf
  refine wpAny_Call_Name_kw ?_
  refine aS (kI hN hv hd hcd pins s σ H (fun v H'=>v=.ref f/\H'=H) I ⟨_,hf,rfl,rfl⟩) fun v s1 ⟨x1,H1,I1,r1,e1,e2⟩=>?_
  subst e1 e2
  obtain rfl:v=Value.ref f:=r1
  have step:=aS (ha pos pins s1 σ H1 _ I1 h) (Q':=fun vs s₁=>PySem.W.FnAt f s₁.heap/\wpAny (model X.prog X.w) X.A (call (.ref f) ([]++vs)) (EP X pins σ Q) X.xe s₁) fun us s2 ⟨vs,H2,I2,r2,q2⟩=>by
   obtain⟨oc,od,fd,sl,kn⟩:=(F f).fn _ _ _ _ q2
   refine⟨⟨oc,od,fd,sl,Kn.get kn I2.hok⟩,?_⟩
   rw[List.nil_append]
   refine wpAny_call (codeAny_mono ((F f).run X.A X.stack s2 H2 us vs Q E0 hr I2.env0 r2 q2) fun r s' hq=>?_)
   cases r with
   | error e=>exact hq.elim
   | ok fl =>
    cases fl with
    | ret u=>exact I2.after hq
    | next=>exact False.elim hq
    | brk=>exact False.elim hq
    | cont=>exact False.elim hq
  rw[he]at step ⊢
  exact PySem.W.callWith_of (by show ((false||(backTo pos (starEach es X.env)).any (·.1))||false)=false;rw[hpl];rfl) PySem.W.keeps_F (Calls.evalArgs_plain step)
 ·exact h.elim
theorem tJ (i:Nat){x:Str}{k:Nat}{sp:Addr->Sp}(F:∀f,yT X.prog X.w X.K X.mg X.base k f (sp f))(hr:Room k X.A)(ha:JA X (e::es) t)(hN:X.N[i]?=some x:=by rfl)(hv:sx X.env.scope x:=by first | exact Or.inl rfl | exact Or.inr (Or.inl rfl) | exact Or.inr (Or.inr rfl))
  (hd:(x == ("__debug__":Str))=false:=by decide) (hcd:(x == ("__classdict__":Str))=false:=by decide) (hst:al (e::es)=true:=by rfl):JE X (.Call (.Name x p) (e::es) [] pos) (kG i sp t):=.mk (oN F hr hN hv hd hcd ha.out hst)
end
def fm (mg:Str->Option Value)(base:Heap):Prop:=∃bm ob,mg "__builtins__"=some (.ref bm)/\bm≠builtinsNs/\base.get? bm=some ob/\ob.cls=.type "module"/\ob.dict=some builtinsNs/\ob.data=.plain
theorem et:∀l:List (Pos×Addr),TriplesOk (triples l)
 | []=>True.intro
 | (p,c)::r=>et r
theorem gB {pos:Pos}{c:Value}:∀{l:List (Pos×Addr)},codeAmong pos (triples l)=some c->∃q∈l,q.1.line=pos.line/\q.1.col=pos.col/\c=.ref q.2
 | [],h=>by cases h
 | (p,c')::r,h=>by
  have h':(if (((p.line:Nat):Int) == ((pos.line:Nat):Int)&&((p.col:Nat):Int) == ((pos.col:Nat):Int))=true then some (Value.ref c') else codeAmong pos (triples r))=some c:=h
  split at h'
  ·rename_i hb
   rw[Bool.and_eq_true,beq_iff_eq,beq_iff_eq]at hb
   exact⟨(p,c'),List.mem_cons_self,by show p.line=pos.line;omega,by show p.col=pos.col;omega,(Option.some.inj h').symm⟩
  ·obtain⟨q,m,r⟩:=gB h'
   exact⟨q,List.mem_cons_of_mem _ m,r⟩
structure TabOk (H:Hp)(Pt:Addr)(qs:List (Pos×Str)):Prop where
 ex:∃l:List (Pos×Addr),H Pt=some (.tbl (triples l).toArray)/\∀q∈l,∃qual oc vs t,(q.1,qual)∈qs/\Kn H q.2 oc/\oc.data=.fields vs/\vs[1]?=some (.str qual t)
theorem TabOk.same {H H':Hp}{Pt:Addr}{qs:List (Pos×Str)}(T:TabOk H Pt qs)(h1:H' Pt=H Pt)(h2:∀b o,Kn H b o->Kn H' b o):TabOk H' Pt qs:=by
 obtain⟨l,e,h⟩:=T.ex
 refine⟨l,h1.trans e,fun q m=>?_⟩
 obtain⟨qual,oc,vs,t,a,b,c⟩:=h q m
 exact⟨qual,oc,vs,t,a,h2 _ _ b,c⟩
def zp (Pt:Addr)(H H':Hp):Prop:=∀b u,b≠Pt->H b=some u->H' b=some u
def uf (i:Nat)(Pt:Addr)(qs:List (Pos×Str))(name qual:Str)(st:Stmt)(cl:List (Str×Addr)):TS:=fun D σ H=>TabOk H Pt qs/\∀f H',H f=none->zp Pt H H'->TabOk H' Pt qs->tz H' f name qual st cl->D.nx (σ.set i (some (.ref f))) H'
section
variable {X:Cx}
theorem sU {i:Nat}{name:Str}{params:Arguments}{body:List Stmt}{scope:Scope}{pos:Pos}{c Pt:Addr}{qs:List (Pos×Str)}(hN:X.N.Nodup)(hi:X.N[i]?=some name)(hx:pM X.env.scope name)(hcode:X.env.code=.ref c)(hK:PySem.W.codeHdIn X.K c Pt=true)(hB:fm X.mg X.base)
  (hqs:∀q∈qs,q.1.line=pos.line->q.1.col=pos.col->q.2=qualnameIn X.env name name) (hmem:(pos,qualnameIn X.env name name)∈qs)
  (hfre:∀y∈scope.names,y.2=.free->X.env.scope.names.lookup y.1=some .cell\/X.env.scope.names.lookup y.1=some .free)
  (hd0:params.defaults=[]) (hk0:params.kw_defaults=[]) (ha:annTrees params none X.env=[]) (hf:X.fn name=true\/X.env.scope.names.lookup name=some .local) :
  PS X (.FunctionDef name params body [] none [] scope none name pos) (uf i Pt qs name (qualnameIn X.env name name) (.FunctionDef name params body [] none [] scope none name pos) (az X.env scope.names [])):=by
 intro pins s σ H D I h
 obtain⟨T,h⟩:=h
 obtain⟨l,hP,hl⟩:=T.ex
 have hclos:closureFor scope X.env=pure (az X.env scope.names []):=cJ fun y hy q=>I.ok.has y.1 (hfre y hy q)
 have hg:s.heap.Ns mainGlobals X.mg:=I.ok.mod.glob.keeps I.bk
 have C:PySem.W.CodeHd s.heap c Pt:=PySem.W.codeHd_of_K I.kIn hK
 have hPt:s.heap.get? Pt=some (PySem.W.tabObj (triples l).toArray):=I.hok Pt _ hP
 obtain⟨bm,ob,b1,b2,b3,b4,b5,b6⟩:=hB
 have b3':=I.bk _ _ b3
 have hgP:mainGlobals≠Pt:=fun q=>by
  obtain⟨o,es,ep,e,hd,_⟩:=hg
  rw[q,hPt]at e;cases e;cases hd
 have hbP:bm≠Pt:=fun q=>by
  rw[q,hPt]at b3';cases b3';cases b4
 have hbG:bm≠mainGlobals:=fun q=>by
  obtain⟨o,es,ep,e,hd,_⟩:=hg
  rw[<-q,b3']at e;cases e;rw[hd]at b6;cases b6
 have hBA:s.heap.BuiltinsAt X.mg Pt:=⟨bm,ob,b1,b2,hbG,hbP,b3',b4,b5,b6⟩
 refine PySem.W.nestDef_K hd0 hk0 ha ?_
 cases hc:codeAmong pos (triples l) with
 | some cv =>
  obtain⟨q,mq,e1,e2,rfl⟩:=gB hc
  obtain⟨qual,oc,vs,t,m1,k1,d1,d2⟩:=hl q mq
  have eq:=hqs _ m1 e1 e2
  dsimp only at eq
  subst eq
  refine PySem.W.makeFunction_hit (ps:=(triples l).toArray) hclos I.ok.glob hg hcode C hPt (by simpa using et l) (by simpa using hc) hBA fun ctv doc h' tk hk hsz=>?_
  have I1:Inv X pins σ H { s with heap:=h',toks:=tk }:=I.kept hk
  have I2:=I1.laid (a:=h'.objs.size) (o:=.frz (PySem.W.fnMade name (qualnameIn X.env name name) params body scope (az X.env scope.names []) doc ((X.mg "__name__").getD .none) q.2 ctv) aU) (h':=h'.push (PySem.W.fnMade name (qualnameIn X.env name name) params body scope (az X.env scope.names []) doc ((X.mg "__name__").getD .none) q.2 ctv)) (t':=tk)
   (fun b o e=>Heap.get?_push_of_some _ e) (Nat.le_refl _) (fh (Heap.get?_push_size _ rfl))
  have hfr:H h'.objs.size=none:=I1.hok.fresh (Nat.le_refl _)
  refine cb I2 hN hi hx (v:=.ref h'.objs.size) rfl (fun s' I3=>⟨_,_,I3,?_⟩) hf
  have sm:∀b u,H b=some u->upd H h'.objs.size (.frz (PySem.W.fnMade name (qualnameIn X.env name name) params body scope (az X.env scope.names []) doc ((X.mg "__name__").getD .none) q.2 ctv) aU) b=some u:=fun b u e=>by
   rw[ag (av e hfr)];exact e
  exact h _ _ hfr (fun b u _ e=>sm b u e) (T.same (ag (av hP hfr)) fun b o k=>sm b _ k) ⟨doc,_,q.2,ctv,oc,vs,t,ae,sm _ _ k1,d1,d2⟩
 | none =>
  refine PySem.W.makeFunction_K (ps:=(triples l).toArray) hclos I.ok.glob hg hcode C hPt (by simpa using et l) (by simpa using hc) hgP hBA fun c' ctv doc h' tk hx' hge hlt hrec htb=>?_
  obtain⟨c2,oc,vs,t,e2,hoc,hd,hv⟩:=hrec
  cases e2
  have hcn:H c'=none:=I.hok.fresh hge
  have hszL:s.heap.objs.size≤h'.objs.size:=Nat.le_of_lt (Nat.lt_of_le_of_lt hge hlt)
  have hfn:H h'.objs.size=none:=I.hok.fresh hszL
  generalize hfo:PySem.W.fnMade name (qualnameIn X.env name name) params body scope (az X.env scope.names []) doc ((X.mg "__name__").getD .none) c' ctv=fo
  have hcf:c'≠h'.objs.size:=Nat.ne_of_lt hlt
  have htb':(h'.push fo).get? Pt=some (PySem.W.tabObj ((triples (l++[(pos,c')])).toArray)):=by
   rw[triples_append]
   refine Heap.get?_push_of_some _ ?_
   rw[htb]
   simp
  let H':Hp:=upd (upd (upd H Pt (.tbl (triples (l++[(pos,c')])).toArray)) c' (.frz oc aU)) h'.objs.size (.frz fo aU)
  have hPc:Pt≠c':=av hP hcn
  have hPf:Pt≠h'.objs.size:=av hP hfn
  have at_:∀b u,b≠Pt->H b=some u->H' b=some u:=fun b u nb e=>by
   show upd (upd (upd H Pt _) c' _) h'.objs.size _ b=_
   rw[ag (av e hfn),ag (av e hcn),ag nb];exact e
  have fr_:∀b,b<s.heap.objs.size->H b=none->H' b=none:=fun b hb e=>by
   show upd (upd (upd H Pt _) c' _) h'.objs.size _ b=_
   rw[ag (Nat.ne_of_lt (Nat.lt_of_lt_of_le hb hszL)),ag (Nat.ne_of_lt (Nat.lt_of_lt_of_le hb hge)),ag (fun z=>by rw[z,hP]at e;cases e)];exact e
  have keep:∀b o,b≠Pt->s.heap.get? b=some o->(h'.push fo).get? b=some o:=fun b o nb e=>Heap.get?_push_of_some _ (hx' b o nb e)
  have nP:∀b,H b=none->b≠Pt:=fun b e z=>by rw[z,hP]at e;cases e
  have tP:H' Pt=some (.tbl (triples (l++[(pos,c')])).toArray):=by
   show upd (upd (upd H Pt _) c' _) h'.objs.size _ Pt=_
   rw[ag hPf,ag hPc,ae]
  have un:Un X.fs [] H H' s.heap (h'.push fo):={
   keep:=fun b o q n _ _=>keep b o (nP b n) q
   slot:=fun b o q n _ _=>⟨o.slots,keep b o (nP b n) q⟩
   free:=fun b o q n _=>fr_ b (Heap.lt_size q) n
   there:=fun b o q _=>by
    by_cases z:b=Pt
    ·exact⟨_,by rw[z];exact htb'⟩
    ·exact⟨o,keep b o z q⟩
   tups:=fun b xs q=>at_ b _ (fun z=>by rw[z,hP]at q;cases q) q
   frzs:=fun b o u q=>at_ b _ (fun z=>by rw[z,hP]at q;cases q) q
   tbls:=fun b ps q=>by
    by_cases z:b=Pt
    ·subst z
     rw[hP]at q
     cases q
     exact⟨#[rawInt pos.line,rawInt pos.col,.ref c'],by rw[tP,triples_append];simp⟩
    ·exact⟨#[],by rw[at_ b _ z q];simp⟩ }
  have hok:HOk X.prog X.w H' (h'.push fo):=fun b u e=>by
   by_cases z1:b=h'.objs.size
   ·subst z1
    have e':upd (upd (upd H Pt (.tbl (triples (l++[(pos,c')])).toArray)) c' (.frz oc aU)) h'.objs.size (.frz fo aU) h'.objs.size=some u:=e
    rw[ae]at e'
    cases e'
    exact fh (Heap.get?_push_size _ (by rw[<-hfo];rfl))
   ·by_cases z2:b=c'
    ·subst z2
     have e':upd (upd (upd H Pt (.tbl (triples (l++[(pos,b)])).toArray)) b (.frz oc aU)) h'.objs.size (.frz fo aU) b=some u:=e
     rw[ag z1,ae]at e'
     cases e'
     exact fh (Heap.get?_push_of_some _ hoc)
    ·by_cases z3:b=Pt
     ·subst z3
      rw[tP]at e
      cases e
      exact htb'
     ·have e':upd (upd (upd H Pt (.tbl (triples (l++[(pos,c')])).toArray)) c' (.frz oc aU)) h'.objs.size (.frz fo aU) b=some u:=e
      rw[ag z1,ag z2,ag z3]at e'
      refine (I.hok b u e').stay (fun c v hc q=>keep c v ?_ q) (fun c q=>at_ c _ (fun z=>by rw[z,hP]at q;cases q) q) fun c xs q=>at_ c _ (fun z=>by rw[z,hP]at q;cases q) q
      rcases hc with rfl | hc
      ·exact z3
      ·intro z;rw[z,hP]at hc;cases hc
  have I2:Inv X pins σ H' { s with heap:=h'.push fo,toks:=tk }:=I.un un hok
  refine cb I2 hN hi hx (v:=.ref h'.objs.size) rfl (fun s' I3=>⟨_,_,I3,?_⟩) hf
  have kf:Kn H' h'.objs.size fo:=ae
  have kc:Kn H' c' oc:=by
   show upd (upd (upd H Pt _) c' _) h'.objs.size _ c'=_
   rw[ag hcf,ae]
  have kk:∀b o,Kn H b o->Kn H' b o:=fun b o k=>at_ b _ (fun z=>by
   have k':H b=some (.frz o aU):=k
   rw[z,hP]at k';cases k') k
  refine h _ _ hfn at_ ⟨l++[(pos,c')],tP,fun q m=>?_⟩ ⟨doc,_,c',ctv,oc,vs,t,by rw[<-hfo]at kf;exact kf,kc,hd,hv⟩
  rcases List.mem_append.mp m with m | m
  ·obtain⟨qual,oc',vs',t',m1,k1,d1⟩:=hl q m
   exact⟨qual,oc',vs',t',m1,kk _ _ k1,d1⟩
  ·rw[List.mem_singleton.mp m]
   exact⟨_,oc,vs,t,hmem,kc,hd,hv⟩
end
end L2
namespace L2
open PySem PySem.Spec PyProof.Rows
def cH (cs:List Addr)(os:List Obj)(H:Hp):Hp:=fun b=>match (cs.zip os).lookup b with
 | some o=>some (.frz o aU)
 | none=>H b
structure pp (env:Env)(N:List Str)(σ:St)(fr:List Str)(cs:List Addr)(os:List Obj):Prop where
 l1:cs.length=fr.length
 l2:os.length=fr.length
 at_:∀(j:Nat) x,fr[j]?=some x->∃(c:Addr) (o:Obj) (i:Nat) (v:V) (u:Value),cs[j]?=some c/\os[j]?=some o/\env.cells.lookup x=some c/\N[i]?=some x/\σ[i]?=some (some v)/\o.data=.cell (some u)/\RelV v u
 nd:cs.Nodup
theorem eP {α:Type}{b:Addr}:∀{cs:List Addr} {os:List α},b∉cs->(cs.zip os).lookup b=none
 | [],_,_=>rfl
 | c::r,[],_=>rfl
 | c::r,o::q,h=>by
  rw[List.zip_cons_cons,List.lookup_cons]
  have:(b == c)=false:=beq_eq_false_iff_ne.mpr fun e=>h (by rw[e];exact List.mem_cons_self)
  rw[this]
  exact eP fun m=>h (List.mem_cons_of_mem _ m)
theorem eO {α:Type}{b:Addr}{o:α}:∀{cs:List Addr} {os:List α} {j:Nat},cs.Nodup->cs[j]?=some b->os[j]?=some o->(cs.zip os).lookup b=some o
 | [],_,_,_,h,_=>by simp at h
 | c::r,[],_,_,_,h=>by simp at h
 | c::r,o'::q,0,nd,h1,h2=>by
  simp at h1 h2
  subst h1 h2
  rw[List.zip_cons_cons,List.lookup_cons,beq_self_eq_true]
 | c::r,o'::q,j+1,nd,h1,h2=>by
  have h1':r[j]?=some b:=by simpa using h1
  rw[List.nodup_cons]at nd
  rw[List.zip_cons_cons,List.lookup_cons]
  have:(b == c)=false:=beq_eq_false_iff_ne.mpr fun e=>nd.1 (by rw[<-e];exact List.mem_of_getElem? h1')
  rw[this]
  exact eO nd.2 h1' (by simpa using h2)
theorem aV {cs:List Addr}{os:List Obj}{H:Hp}{b:Addr}(h:b∉cs):cH cs os H b=H b:=by unfold cH;rw[eP h]
theorem iI {cs:List Addr}{os:List Obj}{H:Hp}{b:Addr}{o:Obj}{j:Nat}(nd:cs.Nodup)(h1:cs[j]?=some b)(h2:os[j]?=some o):Kn (cH cs os H) b o:=by unfold Kn cH;rw[eO nd h1 h2]
theorem cZ {cs:List Addr}{os:List Obj}{H:Hp}{b:Addr}(nd:cs.Nodup)(hl:os.length=cs.length)(h:b∈cs):∃(j:Nat) (o:Obj),cs[j]?=some b/\os[j]?=some o/\Kn (cH cs os H) b o:=by
 obtain⟨j,hj,e⟩:=List.mem_iff_getElem.mp h
 have h1:cs[j]?=some b:=by rw[List.getElem?_eq_getElem hj,e]
 have h2:os[j]?=some os[j]:=List.getElem?_eq_getElem (by omega)
 exact⟨j,_,h1,h2,iI nd h1 h2⟩
section
variable {X:Cx}{e:Expr}{es:List Expr}{t:TA}{p pos:Pos}
end
theorem CloAt.lent {H:Hp}{f:Addr}{name qual:Str}{st:Stmt}{env:Env}{N:List Str}{σ:St}{fr:List Str}{cs:List Addr}{os:List Obj}{ws:List V}(M:tz H f name qual st (az env (ah st).names []))(F:pp env N σ fr cs os)(hn:∀c∈cs,H c=none)(hN:N.Nodup)(hnd:fr.Nodup)
  (hall:∀y∈(ah st).names,y.2=.free->y.1∈fr) (hfre:∀x∈fr,(x,NameKind.free)∈(ah st).names) (hl:ws.length=fr.length)
  (hw:∀(j i:Nat) x v,fr[j]?=some x->N[i]?=some x->σ[i]?=some (some v)->ws[j]?=some v):CloAt (cH cs os H) f name qual st fr cs ws:=by
 have up:∀b o,Kn H b o->Kn (cH cs os H) b o:=fun b o k=>by
  unfold Kn at k ⊢
  rw[aV fun m=>by rw[hn b m]at k;cases k]
  exact k
 have keys:∀{names:List (Str×NameKind)} {acc:List (Str×Addr)} {x:Str} {c:Addr},(∀y∈names,y.2=.free->y.1∈fr)->(∀x c,acc.lookup x=some c->x∈fr)->(az env names acc).lookup x=some c->x∈fr:=by
  intro names
  induction names with
  | nil=>intro acc x c _ ha e;exact ha x c e
  | cons p r ih =>
   intro acc x c hy ha e
   obtain⟨n,k⟩:=p
   unfold az at e
   have hr:∀y∈r,y.2=.free->y.1∈fr:=fun y m=>hy y (List.mem_cons_of_mem _ m)
   split at e
   ·rename_i hk
    have hk':k=.free:=beq_iff_eq.mp hk
    split at e
    ·refine ih hr (fun x' c' q=>?_) e
     rw[List.lookup_cons]at q
     cases hb:x' == n with
     | true=>rw[beq_iff_eq.mp hb];exact hy (n,k) List.mem_cons_self hk'
     | false=>rw[hb]at q;exact ha x' c' q
    ·exact ih hr ha e
   ·exact ih hr ha e
 refine⟨⟨az env (ah st).names [],⟨?_⟩,fun x c e=>?_,fun j x e=>?_⟩,fun j v e=>?_,F.l1,hl,F.nd⟩
 ·obtain⟨doc,pm,c',ctv,oc,vs,t,h1,h2,h3⟩:=M.ex
  exact⟨doc,pm,c',ctv,oc,vs,t,up _ _ h1,up _ _ h2,h3⟩
 ·have hx:=keys hall (fun x c q=>by simp at q) e
  obtain⟨j,hj,ex⟩:=List.mem_iff_getElem.mp hx
  have ej:fr[j]?=some x:=by rw[List.getElem?_eq_getElem hj,ex]
  obtain⟨c2,o,i,v,u,a1,a2,a3,_⟩:=F.at_ j x ej
  have:=bH (env:=env) (fun n c e=>by simp at e) x c e
  rw[a3]at this
  cases this
  exact⟨j,ej,a1⟩
 ·obtain⟨c2,o,i,v,u,a1,a2,a3,_⟩:=F.at_ j x e
  obtain⟨c,hc⟩:=Option.isSome_iff_exists.mp (bL (env:=env) (acc:=[]) (hfre x (List.mem_of_getElem? e)) a3)
  have:=bH (env:=env) (fun n c e=>by simp at e) x c hc
  rw[a3]at this
  cases this
  exact⟨_,hc,a1⟩
 ·have hj:j<fr.length:=by rw[<-hl];exact (List.getElem?_eq_some_iff.mp e).1
  obtain⟨c2,o,i,v',u,a1,a2,a3,a4,a5,a6,a7⟩:=F.at_ j fr[j] (List.getElem?_eq_getElem hj)
  have:=hw j i _ v' (List.getElem?_eq_getElem hj) a4 a5
  rw[e]at this
  cases this
  exact⟨c2,o,u,a1,iI F.nd a1 a2,a6,a7⟩
structure tY (ts:List (Addr×Addr))(H:Hp):Prop where
 tabs:∀q∈ts,H q.2=some (.tbl #[])
 rest:∀b,H b=none\/(∃q∈ts,q.2=b)\/∃o xs,H b=some (.frz o (.lst xs))
theorem mK {P:Program}{w:World}{K:PySem.W.Frag}{mg mb:Str->Option Value}{CX:nY}{k:Nat}{fa a:Addr}{fd:FuncData}{x:Str}{sp:Sp}{s₁:Shared}{vs:List Value}{ns:List Int}{ts:List (Addr×Addr)}
  (KX:K.In s₁.heap) (hns:s₁.heap.Ns mainGlobals mg) (hb:s₁.heap.Ns builtinsNs mb) (hbb:∀x:Str,x≠"__name__"->mb x=bootBuiltins x) (hlim:s₁.heap.NoLimit) (hg:s₁.gens=#[]) (hbm:fm mg s₁.heap)
  (hT:PySem.W.TabsAt ts s₁.heap) (hnt:PySem.W.noTabs K=true)
  (ha:s₁.heap.get? a=some { cls:=.type "list",data:=.seq vs.toArray }) (hi:IntsAre vs ns) (hl:ns.length≤sizeLine) (hr:Room k callerA)
  (F:∀base:Heap,K.In base->base.Ns mainGlobals mg->fm mg base->dE P w K mg base CX k fa fd [x] sp) (hbind:∀(s:Shared) (u:Value),BindsTo s fd ⟨[u],[]⟩ [(x,u)])
  (hsp:∀H:Hp,tY ts H->SqL K H a (ns.map V.int)->sp [.ref a] H (fun v _=>v=.bl true) fun _ _ _=>False)
  (hCX:∀H e s',CX [] H s₁ (fun _ _ _=>False) e s'->False) :
  codeAny (model P w) callerA (.call (.ref fa) ⟨[.ref a],[]⟩) (fun r s'=>r=.ok (.ret (.bool true))/\OldK s₁.heap s'.heap/\s'.os=s₁.os/\AllBare s'.gens) s₁:=by
 have rv:=ip hi
 have lenV:=hi.length
 have tabN:∀q∈ts,q.2≠a:=fun q m z=>by
  have:=(hT q m).2
  rw[z,ha]at this;cases this
 have tabK:∀q∈ts,K.lookup q.2=none:=fun q m=>by
  cases e:K.lookup q.2 with
  | none=>rfl
  | some o =>
   have h1:=KX _ _ e
   rw[(hT q m).2]at h1
   cases h1
   have h2:=List.all_eq_true.mp hnt (q.2,PySem.W.tabObj #[]) (PySem.W.mem_of_lookupK e)
   exact absurd (show false=true from h2) Bool.false_ne_true
 have core:∀H:Hp,tY ts H->SqL K H a (ns.map V.int)->HOk P w H s₁.heap->(∀b,H b≠none->b=a\/∃q∈ts,q.2=b)->(H a≠none->K.lookup a=none) ->
   codeAny (model P w) callerA (.call (.ref fa) ⟨[.ref a],[]⟩) (fun r s'=>r=.ok (.ret (.bool true))/\OldK s₁.heap s'.heap/\s'.os=s₁.os/\AllBare s'.gens) s₁:=by
  intro H hO hS hok hA hK
  have dQ:∀{b:Addr} {o:Obj},s₁.heap.get? b=some o->H b=none->(hU s₁.heap H).get? b=some o:=fun e n=>pE e n
  have noC:∀{b:Addr} {o:Obj},s₁.heap.get? b=some o->o.cls≠.none->(∀xs n,o.data≠.seq xs n)->H b=none:=fun {b o} e c d=>by
   cases q:H b with
   | none=>rfl
   | some u =>
    rcases hA b (by rw[q];simp) with z | ⟨q',m,z⟩
    ·subst z;rw[ha]at e;cases e;exact absurd rfl (d _ _)
    ·have:=(hT q' m).2;rw[z,e]at this;cases this;exact absurd rfl c
  have noA:∀{b:Addr} {o:Obj} {es:Array DictEntry} {ep:Nat},s₁.heap.get? b=some o->o.data=.dict es ep->H b=none:=fun {b o es ep} e d=>by
   cases q:H b with
   | none=>rfl
   | some u =>
    rcases hA b (by rw[q];simp) with z | ⟨q',m,z⟩
    ·subst z
     rw[ha]at e;cases e
     have d':Data.seq vs.toArray _=Data.dict es ep:=d
     cases d'
    ·have:=(hT q' m).2
     rw[z,e]at this;cases this;cases d
  have nsK:∀{b:Addr} {m:Str->Option Value},s₁.heap.Ns b m->(hU s₁.heap H).Ns b m:=fun {b m} ⟨o,es,ep,e,d,r⟩=>⟨o,es,ep,dQ e (noA e d),d,r⟩
  have hKb:K.In (hU s₁.heap H):=fun b o e=>dQ (KX b o e) (by
   cases q:H b with
   | none=>rfl
   | some u =>
    rcases hA b (by rw[q];simp) with z | ⟨q',m,z⟩
    ·subst z
     rw[hK (by rw[q];simp)]at e;cases e
    ·subst z
     rw[tabK q' m]at e;cases e)
  have hBb:fm mg (hU s₁.heap H):=by
   obtain⟨bm,ob,b1,b2,b3,b4,b5,b6⟩:=hbm
   exact⟨bm,ob,b1,b2,dQ b3 (noC b3 (by rw[b4];intro z;cases z) (by rw[b6];intro _ _ z;cases z)),b4,b5,b6⟩
  have hM:Mod K mg (hU s₁.heap H):=⟨hKb,nsK hns,⟨mb,nsK hb,hbb⟩,let ⟨mc,h1,h2⟩:=hlim;⟨mc,nsK h1,h2⟩⟩
  have e0:Env0 P w K mg (hU s₁.heap H) callerA [] s₁ H:=⟨rfl,hM,fun b o e=>sN e,Nat.le_of_eq (mT _ _),trivial,fun b hb=>absurd (show b∈([]:List Addr) from hb) (by simp),hok,.of_eq hg⟩
  refine codeAny_mono ((F _ hKb (nsK hns) hBb).run callerA [] s₁ H ⟨[.ref a],[]⟩ [.ref a] [.ref a] _ _ hr e0 (hbind s₁ (.ref a)) (.cons rfl .nil) (hsp H hO hS)) fun r s' h=>?_
  cases r with
  | error e=>exact (hCX H e s' h).elim
  | ok fl =>
   cases fl with
   | next=>exact False.elim h
   | brk=>exact False.elim h
   | cont=>exact False.elim h
   | ret u =>
    obtain⟨v,H',os,bare,un,hok',r',q⟩:=h
    have q':v=.bl true:=q
    subst q'
    obtain rfl:u=Value.bool true:=r'
    have key:∀b o,s₁.heap.get? b=some o->s'.heap.get? b=some o\/∃q∈ts,q.2=b/\o=PySem.W.tabObj #[]/\∃ps,s'.heap.get? b=some (PySem.W.tabObj ps):=fun b o e=>by
     cases q:H b with
     | none=>exact .inl (un.keep b o e q (by intro z;exact absurd (show b∈([]:List Addr) from z) (by simp)) (by simp))
     | some u =>
      rcases hO.rest b with z | ⟨q',m,z⟩ | ⟨ob,xs,z⟩
      ·rw[q]at z;cases z
      ·subst z
       have h1:=hO.tabs q' m
       obtain⟨more,h2⟩:=un.tbls _ _ h1
       have h3:=hok' _ _ h2
       have h4:=(hT q' m).2
       rw[e]at h4
       cases h4
       exact .inr ⟨q',m,rfl,rfl,_,h3⟩
      ·have z2:=un.frzs b ob _ z
       obtain⟨e1,_⟩:=hok b _ z
       obtain⟨e2,_⟩:=hok' b _ z2
       rw[e]at e1;cases e1
       exact .inl e2
    refine⟨rfl,⟨fun b o e=>?_,fun b o e=>?_⟩,os,bare⟩
    ·rcases key b o e with z | ⟨q',m,z,eo,ps,z2⟩
     ·exact .inl z
     ·subst z eo
      exact .inr (.inl ⟨((hT q' m).1.tab (hT q' m).2).isCodeTable,rfl,#[],ps,rfl,by rw[Array.empty_append];exact z2⟩)
    ·rcases key b o e with z | ⟨q',m,z,eo,ps,z2⟩
     ·exact⟨_,z⟩
     ·exact⟨_,z2⟩
 have tb:∀b,(∃q∈ts,q.2=b)↔b∈ts.map (·.2):=fun b=>by rw[List.mem_map]
 cases hk:K.lookup a with
 | some o =>
  have e:=KX a o hk
  rw[ha]at e
  cases e
  refine core (fun b=>if b∈ts.map (·.2) then some (.tbl #[]) else none) ⟨fun q m=>if_pos ((tb _).mp ⟨q,m,rfl⟩),fun b=>?_⟩ (.inr ⟨_,vs.toArray,_,hk,rfl,rfl,rfl,by rw[List.size_toArray,lenV];exact hl,by simpa using rv⟩) (fun b u z=>?_) (fun b z=>?_) fun z=>?_
  ·by_cases m:b∈ts.map (·.2)
   ·exact .inr (.inl ((tb b).mpr m))
   ·exact .inl (if_neg m)
  ·by_cases m:b∈ts.map (·.2)
   ·have z':=(if_pos m).symm.trans z
    cases z'
    obtain⟨q,mq,rfl⟩:=(tb b).mpr m
    exact (hT q mq).2
   ·have z':=(if_neg m).symm.trans z
    cases z'
  ·by_cases m:b∈ts.map (·.2)
   ·exact .inr ((tb b).mpr m)
   ·exact absurd (if_neg m) z
  ·by_cases m:a∈ts.map (·.2)
   ·obtain⟨q,mq,e⟩:=(tb a).mpr m
    exact absurd e (tabN q mq)
   ·exact absurd (if_neg m) z
 | none =>
  refine core (fun b=>if b=a then some (.frz { cls:=.type "list",data:=.seq vs.toArray } (.lst (ns.map V.int))) else if b∈ts.map (·.2) then some (.tbl #[]) else none) ⟨fun q m=>?_,fun b=>?_⟩ (.inl (.inr ⟨{ cls:=.type "list",data:=.seq vs.toArray },if_pos rfl⟩)) (fun b u z=>?_) (fun b z=>?_) fun _=>hk
  ·rw[if_neg (tabN q m),if_pos ((tb _).mp ⟨q,m,rfl⟩)]
  ·by_cases hb:b=a
   ·exact .inr (.inr ⟨_,_,if_pos hb⟩)
   ·by_cases m:b∈ts.map (·.2)
    ·exact .inr (.inl ((tb b).mpr m))
    ·exact .inl (by rw[if_neg hb,if_neg m])
  ·dsimp only at z
   by_cases hb:b=a
   ·rw[if_pos hb]at z
    cases z
    subst hb
    exact⟨ha,by rw[List.length_map];exact hl,vs,_,rv,ha⟩
   ·rw[if_neg hb]at z
    by_cases m:b∈ts.map (·.2)
    ·rw[if_pos m]at z
     cases z
     obtain⟨q,mq,rfl⟩:=(tb b).mpr m
     exact (hT q mq).2
    ·rw[if_neg m]at z;cases z
  ·by_cases hb:b=a
   ·exact .inl hb
   ·rw[if_neg hb]at z
    by_cases m:b∈ts.map (·.2)
    ·exact .inr ((tb b).mpr m)
    ·rw[if_neg m]at z;exact absurd rfl z
theorem walk_of2 {l:PySem.W.OpenLaw}{n k:Nat}{q:Program}{loose:List Str}{XP:(Str->Option Value)->Heap->Prop}{YP:World->Heap->Prop}{d:DefRec}{K:Params->PySem.W.Frag}{CX:nY}{sp:PySem.W.Frag->Sp}{x:Str}(ts:List Addr)
  (hn:l.most=some n) (hn2:n≤sizeLine) (hdf:d.params.defaults=[]) (hr:Room k callerA)
  (hY:∀(w:World) (h:Heap),YP w h->(K w.params).In h) (hT:∀(w:World) (h:Heap),YP w h->∀q∈ts,h.get? q=some (PySem.W.tabObj #[])) (hnt:∀P:Params,PySem.W.noTabs (K P)=true)
  (F:∀(w:World) (mg:Str->Option Value) (fa:Addr) (h:Heap),(K w.params).In h->h.Ns mainGlobals mg->mg d.name=some (.ref fa) ->
   (∀q∈ts,∃c,PySem.W.codeHdIn (K w.params) c q=true)/\∃fd:FuncData,(∀(s:Shared) (u:Value),BindsTo s fd ⟨[u],[]⟩ [(x,u)]) /\
    ∀base:Heap,(K w.params).In base->base.Ns mainGlobals mg->fm mg base->dE l.prog w (K w.params) mg base CX k fa fd [x] (sp (K w.params)))
  (hsp:∀(K:PySem.W.Frag) (H:Hp) (a:Addr) (ns:List Int),ns.length≤n->(∀q∈ts,H q=some (.tbl #[]))->SqL K H a (ns.map V.int)->sp K [.ref a] H (fun v _=>v=.bl true) fun _ _ _=>False)
  (hCX:∀(H:Hp) (s:Shared) (e:Value) (s':Shared),CX [] H s (fun _ _ _=>False) e s'->False) :
  PySem.W.WalkO q loose XP YP l.row.toRowW d [] (fun f vs=>PySem.call f vs):=by
 refine Att.attach_call hn hdf fun w s₀ s₁ mg mb fa o pm cd doc a vs ns G Y ho hd hcd hmg hobj hints hlen hg=>?_
 have KX:=hY w _ Y
 obtain⟨hC,fd,hb,hF⟩:=F w mg fa _ KX G.T.g hmg
 have pairs:∀l:List Addr,(∀q∈l,∃c,PySem.W.codeHdIn (K w.params) c q=true)->∃ps:List (Addr×Addr),ps.map (·.2)=l/\∀q∈ps,PySem.W.codeHdIn (K w.params) q.1 q.2=true:=by
  intro l
  induction l with
  | nil=>exact fun _=>⟨[],rfl,fun q m=>nomatch m⟩
  | cons x r ih =>
   intro h
   obtain⟨c,hc⟩:=h x List.mem_cons_self
   obtain⟨ps,e,hp⟩:=ih fun q m=>h q (List.mem_cons_of_mem _ m)
   refine⟨(c,x)::ps,by rw[List.map_cons,e],fun q m=>?_⟩
   rcases List.mem_cons.mp m with z | z
   ·rw[z];exact hc
   ·exact hp q z
 obtain⟨ps,e,hp⟩:=pairs ts hC
 have hT':∀q∈ps,s₁.heap.get? q.2=some (PySem.W.tabObj #[]):=fun q m=>hT w _ Y q.2 (by rw[<-e];exact List.mem_map_of_mem (f:=(·.2)) m)
 exact mK (ts:=ps) KX G.T.g G.T.b G.T.builtins G.T.nolimit hg G.T.bmain (fun q m=>⟨PySem.W.codeHd_of_K KX (hp q m),hT' q m⟩) (hnt _) hobj hints (Nat.le_trans hlen hn2) hr hF hb
  (fun H hO hS=>hsp _ H a ns hlen (fun q m=>by rw[<-e]at m;obtain⟨r,hr,rfl⟩:=List.mem_map.mp m;exact hO.tabs r hr) hS) fun H e s'=>hCX H s₁ e s'
end L2
namespace L2
open PySem PySem.Spec PyProof.Rows
section
variable {X:Cx}{e a:Expr}{es:List Expr}{t:TA}{ta te:TE}{p pos:Pos}{K:PySem.W.Frag}
theorem qM {i:Nat}{name:Str}{params:Arguments}{body:List Stmt}{scope:Scope}{c Pt:Addr}{qs:List (Pos×Str)}{st:Stmt}{qual:Str}(hN:X.N.Nodup)(hi:X.N[i]?=some name)(hx:pM X.env.scope name)(hcode:X.env.code=.ref c)(hK:PySem.W.codeHdIn X.K c Pt=true)(hB:fm X.mg X.base)
  (hq:qualnameIn X.env name name=qual) (hst:st=.FunctionDef name params body [] none [] scope none name pos) (hqs:qs=[(pos,qual)])
  (hfre:scope.names.all (fun y=>y.2 != .free||X.env.scope.names.lookup y.1 == some .cell||X.env.scope.names.lookup y.1 == some .free)=true)
  (hd0:params.defaults=[]:=by rfl) (hk0:params.kw_defaults=[]:=by rfl) (ha:annTrees params none X.env=[]:=by rfl) (hf:X.fn name=true\/X.env.scope.names.lookup name=some .local:=by first | exact .inl rfl | exact .inr rfl | assumption) :
  JS X st (uf i Pt qs name qual st (az X.env (ah st).names [])):=by
 subst hst hqs hq
 refine .mk (sU hN hi hx hcode hK hB (fun q m _ _=>by rw[List.mem_singleton.mp m]) (List.mem_singleton.mpr rfl) (fun y hy hk=>?_) hd0 hk0 ha hf)
 have:=List.all_eq_true.mp hfre y hy
 rw[hk]at this
 simp at this
 exact this
def xf (ta:TE):TE:=fun σ H Q=>ta σ H fun x H1=>match x with
 | .int i=>Q (.int (-i)) H1
 | _=>False
theorem gk (ha:JE X a ta):JE X (.UnaryOp .USub a pos) (xf ta):=by
 refine .mk ?_
 have h:=xm (pos:=pos) vC ha.out
 intro pins s σ H Q I q
 refine h pins s σ H Q I ?_
 unfold xf at q
 unfold zk
 refine cast (congrArg (ta σ H) ?_) q
 funext x H1
 refine propext ⟨fun z=>?_,fun z=>?_⟩
 ·split at z
  ·exact⟨_,rfl,z⟩
  ·exact z.elim
 ·obtain⟨i,rfl,z⟩:=z
  exact z
end
structure FunC (K:PySem.W.Frag)(x:Str)(st:Stmt)(f:Addr)(fd:FuncData)(c:Addr):Prop where
 ex:∃(oc:Value) (od:Option Addr) (kV doc pm:Value) (an:Option Addr) (ct:Value) (osl:Array (Option Value)),
  fd=PySem.W.fnOf x x (bn st) (ay st) (ah st) .none kV doc pm an (.ref c) ct/\K.lookup f=some ⟨oc,od,.func fd,osl⟩/\PySem.W.codeIn K (.ref c) x=true
 kp:PySem.W.keepIn K (.ref f)=true
structure RawC (K:PySem.W.Frag)(mg:Str->Option Value)(x:Str)(st:Stmt)(ps:List Str)(c Pt:Addr):Prop where
 ex:∃f fd,mg x=some (.ref f)/\FunC K x st f fd c/\∀(us:List Value),us.length=ps.length->bindArgs fd ⟨us,[]⟩=pure (ps.zip us)
 hd:PySem.W.codeHdIn K c Pt=true
theorem RawC.mk' {K:PySem.W.Frag}{mg:Str->Option Value}{h:Heap}{x:Str}{st:Stmt}{ps:List Str}{f c Pt:Addr}{oc:Value}{od an:Option Addr}{osl:Array (Option Value)}{kV doc pm ct:Value}(X:K.In h)(G:h.Ns mainGlobals mg)
  (a:PySem.W.nsIn K mainGlobals x=some (some (.ref f))) (l:K.lookup f=some ⟨oc,od,.func (PySem.W.fnOf x x (bn st) (ay st) (ah st) .none kV doc pm an (.ref c) ct),osl⟩)
  (cd:PySem.W.codeIn K (.ref c) x=true) (k:PySem.W.keepIn K (.ref f)=true) (hd:PySem.W.codeHdIn K c Pt=true)
  (hb:∀(us:List Value),us.length=ps.length->bindArgs (PySem.W.fnOf x x (bn st) (ay st) (ah st) .none kV doc pm an (.ref c) ct) ⟨us,[]⟩=pure (ps.zip us)):RawC K mg x st ps c Pt :=
 ⟨⟨f,_,PySem.W.mg_of X G a,⟨⟨oc,od,kV,doc,pm,an,ct,osl,rfl,l,cd⟩,k⟩,hb⟩,hd⟩
theorem FunC.lk {K:PySem.W.Frag}{x:Str}{st:Stmt}{f c:Addr}{fd:FuncData}(F:FunC K x st f fd c):∃oc od osl,K.lookup f=some ⟨oc,od,.func fd,osl⟩:=by
 obtain⟨oc,od,kV,doc,pm,an,ct,osl,_,lk,_⟩:=F.ex
 exact⟨oc,od,osl,lk⟩
theorem RawC.defJ {P:Program}{w:World}{K:PySem.W.Frag}{mg:Str->Option Value}{base:Heap}{x:Str}{st:Stmt}{N ps:List Str}{k:Nat}{sp:Sp}{c Pt:Addr}(R:RawC K mg x st ps c Pt)(S:ar N ps (ah st))(len:∀vs H Q E,sp vs H Q E->vs.length=ps.length)
  (hbody:∀(f:Addr) (A:Around) (outer:List Env) (s:Shared) (H:Hp) (vs:List V) (Q:VK) (E:XK),Room k (A.deeper (envOfC x (ah st) s.heap.objs.size f (.ref c)))->sp vs H Q E ->
   ∃t,iF (aQ CX0 P w K mg base N x (ah st) f (.ref c) A outer s H E).nox (ay st) t/\t { nx:=fun _ H'=>Q .non H',rt:=Q } (start N vs) H):Def P w K mg base (k+1) x ps sp:=by
 obtain⟨f,fd,h1,F,b⟩:=R.ex
 have lk:=F.lk
 obtain⟨oc,od,kV,doc,pm,an,ct,osl,rfl,l,hcd⟩:=F.ex
 refine⟨f,_,h1,F.kp,lk,.all b,lS l hcd S len fun A outer s H vs Q E hr hsp=>?_⟩
 obtain⟨t,h,q⟩:=hbody f A outer s H vs Q E hr hsp
 exact⟨t,h.out.nox,q⟩
end L2
namespace L2
open PySem
def w6 (s:Stmt):Pos:=match s with
 | .FunctionDef _ _ _ _ _ _ _ _ _ p=>p
 | _=>⟨0,0,0,0⟩
end L2
namespace L2
open PySem PySem.Spec PyProof.Rows
theorem Inv.turnedL {X:Cx}{pins:List (Addr×Obj)}{σ:List (Option V)}{H:Hp}{s:Shared}{h':Heap}{t':Nat}{fp:List Addr}(I:Inv X pins σ H s)(k:∀b o,b∉fp->s.heap.get? b=some o->h'.get? b=some o)
  (hf:∀b∈fp,fj X pins H b):Inv X pins σ H { s with heap:=h',toks:=t' }:=by
 have nit:∀b u,H b=some u->b∉fp:=fun b u e z=>by rw[(hf b z).1]at e;cases e
 refine I.step (g':=s.gens) (d':=s.drawn) (ch:=fp) (fun b hb=>?_) (fun b o _ _ hc e _=>k b o hc e) (fun b o _ _ hc e _=>⟨o.slots,k b o hc e⟩) (fun _ _ _ _ n=>n)
  (fun b o hc e=>⟨o,k b o hc e⟩) (fun _ _ e=>e) (fun _ _ _ e=>e) (fun b ps e=>⟨#[],by rw[e];simp⟩) (fun m hm=>?_) (fun b u e=>?_) I.bare
 ·obtain⟨_,f1,_,f3,f4,f5⟩:=hf b hb
  exact⟨f3,f1,f4,f5⟩
 ·obtain⟨o,es,ep,ho,r⟩:=hm
  exact⟨o,es,ep,k _ o (fun z=>(hf _ z).2.1 rfl) ho,r⟩
 ·refine (I.hok b u e).stay (fun c v hc q=>k c v ?_ q) (fun _ q=>q) fun _ _ q=>q
  rcases hc with z | z
  ·rw[z];exact nit b u e
  ·exact nit c _ z
section
variable {prog:Program}{w:World}{A:Around}{E:Value->Shared->Prop}{s:Shared}
def ItAt (t:Bool)(h:Heap)(it a:Addr)(k:Nat):Prop:=match t with
 | true=>h.IsTupleIter it a k
 | false=>h.IsListIter it a k
theorem ItAt.obj {t:Bool}{h:Heap}{it a:Addr}{k:Nat}(x:ItAt t h it a k):∃o,h.get? it=some o/\∀v,o.data≠.cell v:=by
 cases t with
 | true=>obtain⟨o,ho,_,d⟩:=x;exact⟨o,ho,fun v z=>by rw[d]at z;cases z⟩
 | false=>obtain⟨o,ho,_,d⟩:=x;exact⟨o,ho,fun v z=>by rw[d]at z;cases z⟩
end
end L2
namespace L2
open PySem PySem.Spec PyProof.Rows
def FlyG (B:Heap)(l:List Env)(e:Addr)(cls a0:Value)(h:Heap):Prop:=B.StaysIn h/\B.get? e=none/\h.FunFrames B l/\∃fl,h.TracedAtW B e cls a0 fl
theorem FlyG.of {B h:Heap}{l:List Env}{e:Addr}{cls a0:Value}(x:Heap.FlyingW B l e cls a0 h):FlyG B l e cls a0 h:=⟨x.1,x.2.1,x.2.2.1,_,x.2.2.2.at⟩
def DictAt (h:Heap)(a:Addr):Option Addr->Prop
 | none=>True
 | some dx=>∃o,h.get? a=some o/\o.dict=some dx
def DictK (h h':Heap)(a:Addr):Prop:=∀o,h.get? a=some o->∃o',h'.get? a=some o'/\o'.dict=o.dict
theorem DictAt.keeps {h h':Heap}{a:Addr}{x:Option Addr}(d:DictAt h a x)(k:DictK h h' a):DictAt h' a x:=by
 cases x with
 | none=>exact True.intro
 | some dx =>
  obtain⟨o,e,q⟩:=d
  obtain⟨o',e',q'⟩:=k o e
  exact⟨o',e',q'.trans q⟩
theorem DictK.trans {h1 h2 h3:Heap}{a:Addr}(x:DictK h1 h2 a)(y:DictK h2 h3 a):DictK h1 h3 a:=fun o e =>
 let ⟨o',e',q'⟩:=x o e;let ⟨o'',e'',q''⟩:=y o' e';⟨o'',e'',q''.trans q'⟩
theorem DictK.refl {h:Heap}{a:Addr}:DictK h h a:=fun o e=>⟨o,e,rfl⟩
theorem gj (f:Array Value->Array Value)(o:Obj):(Obj.mapFields f o).dict=o.dict:=by
 unfold Obj.mapFields
 split<;>rfl
theorem bW {h:Heap}{a b:Addr}{ob:Obj}{vs:Array Value}{f:Array Value->Array Value}(hb:h.get? b=some ob)(hd:ob.data=.fields vs):DictK h (h.update b (Obj.mapFields f)) a:=fun o e=>by
 by_cases z:a=b
 ·subst z
  rw[hb]at e
  cases e
  exact⟨_,Heap.get?_update_self _ hb (Obj.isFreed_of_fields (Obj.data_mapFields hd f)),gj f ob⟩
 ·exact⟨o,by rw[Heap.get?_update_other _ _ (Ne.symm z)];exact e,rfl⟩
theorem ky {h:Heap}{a:Addr}(o:Obj):DictK h (h.push o) a:=fun x e=>⟨x,Heap.get?_push_of_some _ e,rfl⟩
section
variable {M:Model}{A:Around}{E:Value->Shared->Prop}{s:Shared}{B:Heap}{env:Env}{outer:List Env}{L e:Addr}{cls a0:Value}{Q:Unit->Shared->Prop}
theorem gO {oe:Obj}{vs:Array Value}{head:Value}{hn:Bool}(hfr:A.frames=some (env::outer))(hl:s.heap.FunFrames B (env::outer))(hf:env.frame=some L)(he:s.heap.get? e=some oe)(hkb:B.StaysIn s.heap)(hen:B.get? e=none)(hd:oe.data=.fields vs)(hsz:1<vs.size)(h0:vs[0]?=some a0)
  (k:∀h',Heap.NotedW B (env::outer) e oe.cls a0 (rawInt L) s.heap h'->DictK s.heap h' e->Q () { s with heap:=h' }) :
  wpAny M A (do let fr<-frameOf env;let pl<-entryPlaceOf L hn;let b<-EntryCells.newEntry head fr .none (rawInt L) .none pl;setField (.ref e) 1 b) Q E s:=by
 have ne:e∉(env::outer).filterMap (·.frame):=fun m=>by
  obtain⟨_,o,ho,nf⟩:=hl.mem m
  rw[he]at ho
  cases ho
  exact nf vs hd
 refine wpAny_bind (wpAny_frameOf_fun hfr hl hf fun h1 q1=>wpAny_bind (wpAny_entryPlaceOf fun pl hpl=>?_))
 unfold EntryCells.newEntry newFields
 refine wpAny_bind (wpAny_newObj_type ?_ (hpl.sizeOk5 _ _ _ _ _))
 obtain⟨tb,etb⟩:∃tb:Obj,tb={ cls:=.type "traceback",dict:=none,data:=.fields ([head,.ref L,.none,rawInt L,.none]++(if pl.isEmpty then List.replicate 6 Value.none else pl)).toArray }:=⟨_,rfl⟩
 have g1:h1.get? e=some oe:=by rw[q1.2.1 e ne];exact he
 have g2:(h1.push tb).get? e=some oe:=Heap.get?_push_of_some tb g1
 show wpAny M A (setField (.ref e) 1 (.ref h1.objs.size)) Q E { s with heap:=h1.push _ }
 rw[<-etb]
 refine wpAny_setField g2 hd hsz (k _ ?_ ?_)
 ·have nT:h1.objs.size≠e:=Nat.ne_of_gt (Heap.lt_size g1)
  have dat:=Obj.data_mapFields hd (·.setIfInBounds 1 (Value.ref h1.objs.size))
  have g3:=Heap.get?_update_self (Obj.mapFields (·.setIfInBounds 1 (Value.ref h1.objs.size))) g2 (Obj.isFreed_of_fields dat)
  have gT:((h1.push tb).update e (Obj.mapFields (·.setIfInBounds 1 (Value.ref h1.objs.size)))).get? h1.objs.size=some tb:=by
   rw[Heap.get?_update_other _ _ (Ne.symm nT)]
   exact Heap.get?_push_size h1 (by rw[etb];rfl)
  have old:∀{b:Addr} {o:Obj},b≠e->h1.get? b=some o->((h1.push tb).update e (Obj.mapFields (·.setIfInBounds 1 (Value.ref h1.objs.size)))).get? b=some o:=fun {b o} nb q=>by
   rw[Heap.get?_update_other _ _ (Ne.symm nb)]
   exact Heap.get?_push_of_some tb q
  have stay:B.StaysIn h1:=fun b o q=>by
   rw[q1.2.1 b fun m=>by rw[(hl.mem m).1]at q;cases q]
   exact hkb b o q
  have nrec:∀{b:Addr} {o:Obj},s.heap.get? b=some o->(∀vs,o.data≠.fields vs)->b≠e:=fun {b o} q nf z=>by
   rw[z,he]at q
   cases q
   exact nf vs hd
  refine⟨fun b o q=>old (fun z=>by rw[z,hen]at q;cases q) (stay b o q),hl.of_keeps fun b o q nf=>?_,?_,fun b o q nf=>?_⟩
  ·obtain⟨sl,q'⟩:=q1.2.2 b o q
   exact⟨_,old (nrec q nf) q',rfl⟩
  ·refine⟨_,_,h1.objs.size,tb,_,g3,⟨Obj.cls_mapFields _ _,?_⟩,dat,?_,stay.fresh,nT,gT,by rw[etb],?_⟩
   ·rw[Array.getElem?_setIfInBounds_ne (by decide)];exact h0
   ·simp[hsz]
   ·first | (simp;done) | (rcases hpl with rfl | ⟨_,_,_,_,_,_,_,rfl⟩<;>simp)
  ·obtain⟨sl,q'⟩:=q1.2.2 b o q
   exact⟨sl,old (nrec q nf) q'⟩
 ·refine DictK.trans (fun o q=>?_) ((ky tb).trans (bW g2 hd))
  rw[he]at q
  cases q
  exact⟨oe,g1,rfl⟩
theorem hW (hfr:A.frames=some (env::outer))(hf:env.frame=some L)(x:FlyG B (env::outer) e cls a0 s.heap)
  (hQ:∀h',Heap.HeldW B (env::outer) e cls a0 L h'->s.heap.UpToSlots h'->DictK s.heap h' e->Q () { s with heap:=h' }):wpAny M A (noteFrame (.ref e) env) Q E s:=by
 obtain⟨st,hn,hl,fl,ht⟩:=x
 by_cases hfl:fl=rawInt L
 ·subst hfl
  exact wpAny_noteFrame_againW hf ht (hQ s.heap ⟨st,hn,hl,ht⟩ (.refl _) DictK.refl)
 ·obtain⟨oe,vs,T,oT,ts,he,⟨hcls,h0⟩,hd,h1,hnT,hTe,hT,hdT,h3⟩:=ht
  subst hcls
  unfold noteFrame
  simp only[hf]
  refine wpAny_bind (wpAny_field he hd h1 ?_)
  rw[if_pos (show (Value.ref T != Value.none)=true by simp)]
  refine wpAny_bind (wpAny_field hT hdT h3 ?_)
  rw[if_neg (fun z=>hfl (beq_iff_eq.mp z))]
  refine wpAny_bind (wpAny_setField hT hdT (Array.getElem?_eq_some_iff.mp h3).1 ?_)
  have other:∀b,b≠T->(s.heap.update T (Obj.mapFields (·.setIfInBounds 3 Value.none))).get? b=s.heap.get? b:=fun b hb=>Heap.get?_update_other _ _ (Ne.symm hb)
  have nrec:∀{b:Addr} {o:Obj},s.heap.get? b=some o->(∀vs,o.data≠.fields vs)->b≠T:=fun {b o} q nf z=>by
   rw[z,hT]at q
   cases q
   exact nf ts hdT
  refine gO hfr (hl.of_keeps fun b o q nf=>⟨o,(other b (nrec q nf)).trans q,rfl⟩) hf ((other e (Ne.symm hTe)).trans he) (fun b o q=>(other b fun z=>by rw[z,hnT]at q;cases q).trans (st b o q)) hn hd (Array.getElem?_eq_some_iff.mp h1).1 h0 fun h' x dk=>?_
  obtain⟨x1,x2,x3,x4⟩:=x
  exact hQ h' ⟨x1,hn,x2,x3⟩ (fun b o q nf=>x4 b o ((other b (nrec q nf)).trans q) nf) (DictK.trans (bW hT hdT) dk)
theorem eh {l:List Env}(hh:Heap.HeldW B l e cls a0 L s.heap)(hQ:∀h',Heap.FlyingW B l e cls a0 h'->s.heap.UpToSlots h'->DictK s.heap h' e->Q () { s with heap:=h' }):wpAny M A (setFlight (.ref e) none) Q E s:=by
 obtain⟨f1,f2,f3,oe,vs,T,oT,ts,he,hcls,hd,h1,hnT,hTe,hT,hdT,h3⟩:=hh
 have hs3:3<ts.size:=(Array.getElem?_eq_some_iff.mp h3).1
 have other:∀b,b≠T->(s.heap.update T (Obj.mapFields (·.setIfInBounds 3 ((none:Option Addr).elim Value.none fun f=>rawInt f)))).get? b=s.heap.get? b:=fun b hb=>Heap.get?_update_other _ _ (Ne.symm hb)
 have nrec:∀{b:Addr} {o:Obj},s.heap.get? b=some o->(∀vs,o.data≠.fields vs)->b≠T:=fun {b o} q nf z=>by
  rw[z,hT]at q
  cases q
  exact nf ts hdT
 unfold setFlight
 refine wpAny_bind (wpAny_field he hd h1 ?_)
 rw[if_pos (show (Value.ref T != Value.none)=true by simp)]
 refine wpAny_setField hT hdT hs3 (hQ _ ⟨fun b o q=>(other b fun z=>by rw[z,hnT]at q;cases q).trans (f1 b o q),f2,f3.of_keeps fun b o q nf=>⟨o,(other b (nrec q nf)).trans q,rfl⟩,?_⟩ (fun b o q nf=>⟨o.slots,(other b (nrec q nf)).trans q⟩) (bW hT hdT))
 exact⟨oe,vs,T,_,_,(other e (Ne.symm hTe)).trans he,hcls,hd,h1,hnT,hTe,Heap.get?_update_self _ hT (Obj.isFreed_of_fields (Obj.data_mapFields hdT _)),Obj.data_mapFields hdT _,by simp[hs3]⟩
theorem i3 (hfr:A.frames=some (env::outer))(hf:env.frame=some L)(x:FlyG B (env::outer) e cls a0 s.heap)
  (hQ:∀h',Heap.FlyingW B outer e cls a0 h'->s.heap.UpToSlots h'->DictK s.heap h' e->Q () { s with heap:=h' }):wpAny M A (leaving env (.ref e)) Q E s:=by
 unfold leaving
 refine wpAny_bind (hW hfr hf x fun h1 hh us1 k1=>?_)
 refine eh (s:={ s with heap:=h1 }) hh fun h2 fl us2 k2=>?_
 obtain⟨k3,k4,⟨_,_,k5⟩,k6⟩:=fl
 exact hQ h2 ⟨k3,k4,k5,k6⟩ (us1.trans us2) (k1.trans k2)
theorem kW {oe:Obj}{vs:Array Value}(hfr:A.frames=some (env::outer))(hl:s.heap.FunFrames B (env::outer))(hf:env.frame=some L)(he:s.heap.get? e=some oe)(hkb:B.StaysIn s.heap)(hen:B.get? e=none)(hd:oe.data=.fields vs)(h1:vs[1]?=some .none)(h0:vs[0]?=some a0)
  (hQ:∀h',Heap.LeftW B (env::outer) e oe.cls a0 s.heap h'->DictK s.heap h' e->Q () { s with heap:=h' }):wpAny M A (leaving env (.ref e)) Q E s:=by
 unfold leaving noteFrame
 simp only[hf]
 refine wpAny_bind (wpAny_bind (wpAny_field he hd h1 ?_))
 rw[if_neg (by decide)]
 refine gO hfr hl hf he hkb hen hd (Array.getElem?_eq_some_iff.mp h1).1 h0 fun h2 x k2=>?_
 obtain⟨x1,x2,x3,x4⟩:=x
 refine eh (s:={ s with heap:=h2 }) (B:=B) (L:=L) ⟨x1,hen,x2,x3⟩ fun h3 fl us k3=>?_
 exact hQ h3 ⟨fl.1,fl.2.2.1,fl.2.2.2,fun b o q nf=>by
  obtain⟨sl,q1⟩:=x4 b o q nf
  obtain⟨sl2,q2⟩:=us b _ q1 nf
  exact⟨sl2,q2⟩⟩ (k2.trans k3)
end
end L2
namespace L2
open PySem PySem.Spec PyProof.Rows
section
variable {M:Model}{A:Around}{E:Value->Shared->Prop}{s:Shared}{B:Heap}{env:Env}{outer:List Env}{L e:Addr}{cls a0:Value}{Q:Unit->Shared->Prop}
end
def oF (P:Program)(w:World)(stack:List Env)(fs ex:List Addr)(H₀:Hp)(h₀:Heap)(os:OsState)(E:XK)(e:Value)(s':Shared):Prop :=
 ∃(a:Addr) (B:Heap) (cls a0:Value) (H':Hp) (x:Option Addr),e=.ref a/\s'.os=os/\AllBare s'.gens/\FlyG B stack a cls a0 s'.heap/\HOk P w H' B/\Un fs ex H₀ H' h₀ s'.heap /\
 (∀b o,h₀.get? b=some o->b∉fs->b∉ex->(∃o',B.get? b=some o')/\(H₀ b=none->B.get? b=some o))/\DictAt s'.heap a x/\E cls x H'
def bT (P:Program)(w:World):nY:=fun outer H s E e s'=>oF P w outer (cu outer) [] H s.heap s.os E e s'
def yf (X:Cx)(E:XK)(e:Value)(s':Shared):Prop:=oF X.prog X.w X.stack X.fs X.ex X.H₀ X.s₀.heap X.s₀.os E e s'
def Exits (X:Cx)(E:XK):Prop:=X.Ok->∀e s',yf X E e s'->X.xe e s'
section
variable {X:Cx}{E:XK}{pins:List (Addr×Obj)}{σ:List (Option V)}{H H':Hp}{s:Shared}{h'' B:Heap}
theorem Inv.nostk (I:Inv X pins σ H s){b:Addr}{o:Obj}(e:X.s₀.heap.get? b=some o)(hb:b∉X.fs):b∉cu X.stack:=fun z=>by
 rcases List.mem_cons.mp (I.stkSub b z) with q | q
 ·exact absurd (Nat.lt_of_lt_of_le (Heap.lt_size e) I.ok.above) (by rw[q];exact Nat.lt_irrefl _)
 ·exact hb q
theorem oQ {fp:List Addr}{h':Heap}(I:Inv X pins σ H s)(hfp:∀b∈fp,b∈X.ex\/X.s₀.heap.objs.size≤b)(un:Un (cu X.stack) fp H H' s.heap h')
  (kb:∀b o,s.heap.get? b=some o->b∉cu X.stack->b∉fp->(∃o',B.get? b=some o')/\(H b=none->B.get? b=some o)) (st:B.StaysIn h') :
  Un X.fs X.ex X.H₀ H' X.s₀.heap h'/\∀b o,X.s₀.heap.get? b=some o->b∉X.fs->b∉X.ex->(∃o',B.get? b=some o')/\(X.H₀ b=none->B.get? b=some o):=by
 have nofp:∀b o,X.s₀.heap.get? b=some o->b∉X.ex->b∉fp:=fun b o e hx z=>by
  rcases hfp b z with q | q
  ·exact hx q
  ·exact absurd (Nat.lt_of_lt_of_le (Heap.lt_size e) q) (Nat.lt_irrefl _)
 have kb':∀b o,X.s₀.heap.get? b=some o->b∉X.fs->b∉X.ex->(∃o',B.get? b=some o')/\(X.H₀ b=none->B.get? b=some o):=fun b o e hb hx=>by
  obtain⟨o1,e1⟩:=I.base.there b o e hx
  refine⟨(kb b o1 e1 (I.nostk e hb) (nofp b o e hx)).1,fun n=>?_⟩
  exact (kb b o (I.base.keep b o e n hb hx) (I.nostk e hb) (nofp b o e hx)).2 (I.base.free b o e n hx)
 have inS:∀b,b∈X.fs->b∈cu X.stack:=fun b hb=>by
  rcases I.ok.stk with q | ⟨q,hf⟩
  ·rw[q];exact hb
  ·rw[q];unfold cu;rw[List.filterMap_cons,hf];exact List.mem_cons_of_mem _ hb
 refine⟨⟨fun b o e n hb hx=>st b o ((kb' b o e hb hx).2 n),fun b o e n hb hx=>?_,fun b o e n hx=>?_,fun b o e hx=>?_,fun b xs e=>un.tups b xs (I.base.tups b xs e),fun b o u e=>un.frzs b o u (I.base.frzs b o u e),fun b ps e=>?_⟩,kb'⟩
 ·obtain⟨sl1,e1⟩:=I.base.slot b o e n hb hx
  obtain⟨sl2,e2⟩:=un.slot b _ e1 (I.base.free b o e n hx) (inS b hb) (nofp b o e hx)
  exact⟨sl2,e2⟩
 ·obtain⟨o1,e1⟩:=I.base.there b o e hx
  exact un.free b o1 e1 (I.base.free b o e n hx) (nofp b o e hx)
 ·obtain⟨o1,e1⟩:=I.base.there b o e hx
  exact un.there b o1 e1 (nofp b o e hx)
 ·obtain⟨m1,e1⟩:=I.base.tbls b ps e
  obtain⟨m2,e2⟩:=un.tbls b _ e1
  exact⟨m1++m2,by rw[e2,Array.append_assoc]⟩
theorem oH {fp:List Addr}(I:Inv X pins σ H s)(hfp:∀b∈fp,b∈X.ex\/X.s₀.heap.objs.size≤b){e:Value}{s':Shared}(h:oF X.prog X.w X.stack (cu X.stack) fp H s.heap s.os E e s'):yf X E e s':=by
 obtain⟨a,B,cls,a0,H',x,rfl,os,bare,fl,hok,un,kb,hx,hE⟩:=h
 obtain⟨un',kb'⟩:=oQ I hfp un kb fl.1
 exact⟨a,B,cls,a0,H',x,rfl,os.trans I.os,bare,fl,hok,un',kb',hx,hE⟩
theorem Exits.passes (h:Exits X E):ck (bT X.prog X.w) X E:=fun pins σ H s e s' I q=>h I.ok e s' (oH (fp:=[]) I (fun _ z=>nomatch z) q)
end
section
variable {P:Program}{w:World}{K:PySem.W.Frag}{mg:Str->Option Value}{base:Heap}{N:List Str}{qual:Str}{scope:Scope}{f:Addr}{cd:Value}{A:Around}{outer:List Env}{s₀:Shared}{H₀:Hp}{E:XK}
 {pins:List (Addr×Obj)} {σ:List (Option V)} {H H':Hp} {s:Shared} {h' h'' B:Heap}
theorem eU {env:Env}{l:List Env}{L:Addr}(h:env.frame=some L):cu (env::l)=L::cu l:=by unfold cu;rw[List.filterMap_cons,h]
theorem fQ {fs ex:List Addr}{H₀ H':Hp}{h₀ h1 h2:Heap}(un:Un fs ex H₀ H' h₀ h1)(kb:∀b o,h₀.get? b=some o->b∉fs->b∉ex->(∃o',B.get? b=some o')/\(H₀ b=none->B.get? b=some o))(st:B.StaysIn h2)(us:∀b∈fs,∀o,h1.get? b=some o->(∀vs,o.data≠.fields vs)->∃sl,h2.get? b=some { o with slots:=sl })
  (nf:∀b∈fs,∃o,h₀.get? b=some o/\∀vs,o.data≠.fields vs) (hfree:∀b∈fs,H₀ b=none):Un fs ex H₀ H' h₀ h2:=by
 have slot:∀b o,h₀.get? b=some o->H₀ b=none->b∈fs->b∉ex->∃sl,h2.get? b=some { o with slots:=sl }:=fun b o e n hb hx=>by
  obtain⟨sl,e1⟩:=un.slot b o e n hb hx
  obtain⟨o',e',d'⟩:=nf b hb
  rw[e]at e';cases e'
  obtain⟨sl2,e2⟩:=us b hb _ e1 d'
  exact⟨sl2,e2⟩
 refine⟨fun b o e n hb hx=>st b o ((kb b o e hb hx).2 n),slot,un.free,fun b o e hx=>?_,un.tups,un.frzs,un.tbls⟩
 by_cases hb:b∈fs
 ·obtain⟨sl,e1⟩:=slot b o e (hfree b hb) hb hx
  exact⟨_,e1⟩
 ·obtain⟨o',e'⟩:=(kb b o e hb hx).1
  exact⟨o',st b o' e'⟩
theorem exits_fn:Exits (aQ (bT P w) P w K mg base N qual scope f cd A outer s₀ H₀ E) E:=by
 intro ok e s' h
 obtain⟨a,B,cls,a0,H',x,rfl,os,bare,fl,hok,un,kb,hx,hE⟩:=h
 show wpAny (model P w) (A.deeper (envOfC qual scope s₀.heap.objs.size f cd)) (leaving (envOfC qual scope s₀.heap.objs.size f cd) (.ref a)) (fun _ s''=>bT P w outer H₀ s₀ E (.ref a) s'') (fun e' s''=>bT P w outer H₀ s₀ E e' s'') s'
 refine i3 (L:=s₀.heap.objs.size) ok.frames rfl fl fun h'' fl' us dk=>?_
 exact⟨a,B,cls,a0,H',x,rfl,os,bare,.of fl',hok,fQ un kb fl'.1 (fun b _=>us b) (fun b hb=>(ok.funs.mem hb).2) ok.frf,kb,hx.keeps dk,hE⟩
theorem gA:ck (bT P w) (aQ (bT P w) P w K mg base N qual scope f cd A outer s₀ H₀ E) E:=exits_fn.passes
theorem kl {e:Addr}{cls:Value}{args:List Value}(I:Inv (aQ (bT P w) P w K mg base N qual scope f cd A outer s₀ H₀ E) pins σ H s)(hx:Heap.MadeExcOf s.heap h' e cls args)(hE:E cls none H) :
  (aQ (bT P w) P w K mg base N qual scope f cd A outer s₀ H₀ E).xe (.ref e) { s with heap:=h' }:=by
 show wpAny (model P w) (A.deeper (envOfC qual scope s₀.heap.objs.size f cd)) (leaving (envOfC qual scope s₀.heap.objs.size f cd) (.ref e)) (fun _ s''=>bT P w outer H₀ s₀ E (.ref e) s'') (fun e' s''=>bT P w outer H₀ s₀ E e' s'') { s with heap:=h' }
 have hin:∀env∈(envOfC qual scope s₀.heap.objs.size f cd::outer),∀b,env.frame=some b->b∈cu (envOfC qual scope s₀.heap.objs.size f cd::outer):=fun env he b hb=>List.mem_filterMap.mpr ⟨env,he,hb⟩
 refine wpAny_leaves_madeW (base:=PySem.W.hideAll s.heap (cu (envOfC qual scope s₀.heap.objs.size f cd::outer))) (h:=s.heap) (L:=s₀.heap.objs.size) I.ok.frames rfl (fun b o q=>PySem.W.of_hideAll _ q) (PySem.W.funFrames_hide I.stack hin) hx fun h'' t fl tup hbt us=>?_
 have hidden:∀b o,s.heap.get? b=some o->b∉cu (envOfC qual scope s₀.heap.objs.size f cd::outer)->(PySem.W.hideAll s.heap (cu (envOfC qual scope s₀.heap.objs.size f cd::outer))).get? b=some o:=fun b o q hb=>PySem.W.hideAll_get _ q hb
 have noex:∀b:Addr,b∉(aQ (bT P w) P w K mg base N qual scope f cd A outer s₀ H₀ E).ex:=fun b z=>nomatch (show b∈([]:List Addr) from z)
 have kb:∀b o,s₀.heap.get? b=some o->b∉cu outer->b∉([]:List Addr)->(∃o',(PySem.W.hideAll s.heap (cu (envOfC qual scope s₀.heap.objs.size f cd::outer))).get? b=some o')/\(H₀ b=none->(PySem.W.hideAll s.heap (cu (envOfC qual scope s₀.heap.objs.size f cd::outer))).get? b=some o):=fun b o q hb _=>by
  obtain⟨o1,e1⟩:=I.base.there b o q (noex b)
  exact⟨⟨o1,hidden b o1 e1 (I.nostk q hb)⟩,fun n=>hidden b o (I.base.keep b o q n hb (noex b)) (I.nostk q hb)⟩
 have un:Un (cu outer) [] H₀ H s₀.heap h'':=fQ (I.base) kb fl.1 (fun b _=>((Heap.UpToSlots.of_keeps hx.keeps).trans us) b) (fun b hb=>(I.ok.funs.mem hb).2) I.ok.frf
 refine⟨e,_,cls,_,H,none,rfl,I.os,I.bare,.of fl,fun b u q=>?_,un,kb,True.intro,hE⟩
 refine (I.hok b u q).stay (fun c v hc z=>hidden c v z fun m=>?_) (fun _ z=>z) fun _ _ z=>z
 have hn:H c=none:=I.stkFree c m
 rcases hc with rfl | hc
 ·rw[q]at hn;cases hn
 ·rw[hc]at hn;cases hn
end
end L2
namespace L2
open PySem PySem.Spec PyProof.Rows
abbrev iW:List Value:=[.type "ValueError",.type "Exception",.type "BaseException",.type "object"]
theorem mw {K:PySem.W.Frag}{h:Heap}{C:Addr}{bmB:List Value}{newId:String}(X:K.In h)(q:PySem.W.excIn K C bmB newId=true) :
  ∃bm N nm q bs hdct sn sub ab col dd k0 k1 k2 k3 k5 mN,h.get? C=some (excClassObj nm q C N bs bm hdct sn sub ab col dd k0 k1 k2 k3 k5 newId)/\h.Ns N mN/\mN "__init__"=none/\OwnTail h bmB bm:=by
 unfold PySem.W.excIn at q
 split at q
 ·rename_i dd cd sl ho
  split at q
  ·rename_i C' bm k0 k1 k2 k3 n k5 hm hs
   simp only[Bool.and_eq_true,beq_iff_eq,Bool.not_eq_true']at q
   obtain⟨⟨⟨⟨⟨rfl,rfl⟩,hdel⟩,ht⟩,hok⟩,hni⟩:=q
   obtain⟨nm,bs,mro,ns,qn,hd,sn,sub,ab,col,del⟩:=cd
   dsimp only at hm hdel hok hni
   subst hm hdel
   have hsl:sl=#[k0,k1,k2,k3,some (.builtin n),k5]:=by
    obtain⟨l⟩:=sl
    simp only at hs
    rw[hs]
   subst hsl
   exact⟨bm,ns,nm,qn,bs,hd,sn,sub,ab,col,dd,k0,k1,k2,k3,k5,_,X _ _ ho,.of_isNs (PySem.W.isNs_of_in X hok),PySem.W.nsMap_none_of_in X hok hni,PySem.W.tail_of_in X ht⟩
  ·cases q
 ·cases q
def PF (X:Cx)(e:Expr)(c:St->Hp->Prop):Prop:=∀(pins:List (Addr×Obj)) (s:Shared) (σ:St) (H:Hp),Inv X pins σ H s->c σ H ->
 wpAny (model X.prog X.w) X.A (eval e X.env) (fun v s'=>∃y t,v=.str y t/\y.length≤1100000/\Inv X pins σ H s') X.xe s
def yt (X:Cx)(es:List Expr)(c:St->Hp->Prop):Prop:=∀(pins:List (Addr×Obj)) (s:Shared) (σ:St) (H:Hp) (acc:Str) (n:Nat),Inv X pins σ H s->c σ H->acc.length≤n*1100000->n+es.length≤12 ->
 Joins (model X.prog X.w) X.A X.xe (evalEach es X.env) acc (fun out s'=>out.length≤sizeLine/\Inv X pins σ H s') s
section
variable {X:Cx}{e:Expr}{es:List Expr}{te:TE}{c c':St->Hp->Prop}{pos:Pos}
theorem kM {n:Nat}(h:n≤12*1100000):n≤sizeLine:=by rw[sizeLine_eq];omega
theorem vJ {x:Str}{k:Nat}(h:x.length≤1100000:=by decide):PF X (.Constant (.str x) k pos) (fun _ _=>True):=fun pins s σ H I _ =>
 Calls.Constant_str (show ∃y t,Value.str x s.toks=.str y t/\y.length≤1100000/\Inv X pins σ H { s with toks:=s.toks+1 } from ⟨x,_,rfl,h,I.tok _⟩)
theorem qx (he:PE X e te):PF X (.FormattedValue e (-1) none pos) (fun σ H=>te σ H fun v H1=>H1=H/\((∃x,v=.str x/\x.length≤100000)\/∃a,v=.int a/\a.natAbs.log2<1920/\(Str.ofString (toString a)).length≤1100000)):=by
 intro pins s σ H I h
 refine wpAny_FormattedValue_plain (aS (he pins s σ H _ I h) fun u s1 ⟨v,H1,I1,r1,e1,q⟩=>?_)
 subst e1
 rcases q with⟨x,ex,hl⟩ | ⟨a,ea,hl,hs⟩
 ·subst ex
  obtain⟨t,rfl⟩:=r1
  exact wpAny_formatField_str ⟨_,_,rfl,by omega,I1⟩ ⟨_,_,rfl,by omega,I1.tok _⟩ (kM (by omega))
 ·subst ea
  obtain⟨t,rfl⟩:=r1
  exact wpAny_formatField_int hl ⟨_,_,rfl,hs,I1.tok _⟩
theorem rN:yt X [] (fun _ _=>True):=fun pins s σ H acc n I _ hl hn=>by
 have h2:n≤12:=by simpa using hn
 exact⟨kM (Nat.le_trans hl (Nat.mul_le_mul_right 1100000 h2)),I⟩
theorem pI (h1:PF X e c)(h2:yt X es c')(he:evalEach (e::es) X.env=eval e X.env::evalEach es X.env:=by rfl):yt X (e::es) (fun σ H=>c σ H/\c' σ H):=by
 intro pins s σ H acc n I hc hl hn
 rw[he]
 have hn':n+1+es.length≤12:=by rw[List.length_cons]at hn;omega
 refine aS (h1 pins s σ H I hc.1) fun v s1 ⟨y,t,ev,hy,I1⟩=>⟨y,t,ev,?_,?_⟩
 ·rw[strLen_append]
  exact kM (by omega)
 ·refine h2 pins s1 σ H (acc++y) (n+1) I1 hc.2 ?_ hn'
  rw[strLen_append];omega
def zn (c:St->Hp->Prop):TE:=fun σ H Q=>c σ H/\∀z:Str,z.length≤sizeLine->Q (.str z) H
theorem gU {M:Model}{A:Around}{E:Value->Shared->Prop}{Q Q':Str->Shared->Prop}(hQ:∀z s,Q z s->Q' z s):∀(l:List (Sem Value)) (acc:Str) (s:Shared),Joins M A E l acc Q s->Joins M A E l acc Q' s
 | [],acc,s,h=>hQ _ _ h
 | x::r,acc,s,h=>aS h fun v s1 ⟨y,t,ev,hz,hr⟩=>⟨y,t,ev,hz,gU hQ r _ s1 hr⟩
theorem xJ {e1 e2:Expr}(h:yt X (e1::e2::es) c)(hn:(e1::e2::es).length≤12:=by decide):PE X (.JoinedStr (e1::e2::es) pos) (zn c):=by
 intro pins s σ H Q I hq
 refine wpAny_JoinedStr (gU (fun z s' ⟨hz,I'⟩=>⟨hz,?_⟩) _ _ _ (h pins s σ H Str.empty 0 I hq.1 (by decide) (by omega)))
 exact⟨.str z,H,I'.tok _,⟨_,rfl⟩,hq.2 z hz⟩
end
end L2
namespace L2
open PySem PySem.Spec PyProof.Rows
def pk (C:Addr)(E:XK)(t:TA):TS:=fun D σ H=>t σ H fun vs H1=>vs.length≤sizeLine/\E (.ref C) none H1
section
variable {P:Program}{w:World}{K:PySem.W.Frag}{mg:Str->Option Value}{base:Heap}{N:List Str}{qual:Str}{scope:Scope}{f:Addr}{cd:Value}{A:Around}{outer:List Env}{s₀:Shared}{H₀:Hp}{E:XK}
theorem oC {x:Str}{C:Addr}{e:Expr}{es:List Expr}{t:TA}{np cpos pos:Pos}(hg:Gl (aQ (bT P w) P w K mg base N qual scope f cd A outer s₀ H₀ E) x)(hm:mg x=some (.ref C))(hq:PySem.W.excIn K C iW "ValueError.__new__"=true)
  (ha:PA (aQ (bT P w) P w K mg base N qual scope f cd A outer s₀ H₀ E) (e::es) t) (hst:al (e::es)=true:=by rfl) (hd:(x == ("__debug__":Str))=false:=by decide) :
  PS (aQ (bT P w) P w K mg base N qual scope f cd A outer s₀ H₀ E) (.Raise (some (.Call (.Name x np) (e::es) [] cpos)) none pos) (pk C E t):=by
 intro pins s σ H D I h
 have h':aZ e=true/\al es=true:=by simpa[al] using hst
 have he:=am (es:=es) (env:=(aQ (bT P w) P w K mg base N qual scope f cd A outer s₀ H₀ E).env) h'.1
 have hpl:=ba (env:=(aQ (bT P w) P w K mg base N qual scope f cd A outer s₀ H₀ E).env) (pos:=cpos) hst
 obtain⟨bm,N',nm,q,bs,hdct,sn,sub,ab,col,dd,k0,k1,k2,k3,k5,mN,hC,hN,hni,T⟩:=mw (h:=base) I.ok.mod.kin hq
 refine wpAny_Raise_call_subU (C:=C) (nm:=nm) (q:=q) (N:=N') (bs:=bs) (bm:=bm) (hdct:=hdct) (sn:=sn) (sub:=sub) (ab:=ab) (col:=col) (dd:=dd) (k0:=k0) (k1:=k1) (k2:=k2) (k3:=k3) (k5:=k5)
  F.excBase_ValueError (by decide +kernel) F.excBase_ValueError (mN:=mN) (T.hasType F.excBase_ValueError.hasBase) (I.ok.hd rfl) hpl hni (cU I hg hm ⟨rfl,?_⟩ hd)
 have h0:=ha cpos pins s σ H _ I h
 rw[he]at h0 ⊢
 refine Calls.evalArgs_plain (wpAny_mono h0 (fun us s2 h2=>?_) fun _ _ y=>y)
 obtain⟨vs,H2,I2,r2,hl,hE⟩:=h2
 have hlen:=r2.length
 exact⟨rfl,by show us.length≤sizeLine;omega,I2.bk _ _ hC,hN.keeps I2.bk,T.keeps I2.bk,fun h3 e3 hm3=>kl I2 hm3 hE⟩
theorem gv {x:Str}{C:Addr}{e:Expr}{es:List Expr}{t:TA}{np cpos pos:Pos}(hg:Gl (aQ (bT P w) P w K mg base N qual scope f cd A outer s₀ H₀ E) x)(hm:mg x=some (.ref C))(hq:PySem.W.excIn K C iW "ValueError.__new__"=true)
  (ha:JA (aQ (bT P w) P w K mg base N qual scope f cd A outer s₀ H₀ E) (e::es) t) (hst:al (e::es)=true:=by rfl) (hd:(x == ("__debug__":Str))=false:=by decide) :
  JS (aQ (bT P w) P w K mg base N qual scope f cd A outer s₀ H₀ E) (.Raise (some (.Call (.Name x np) (e::es) [] cpos)) none pos) (pk C E t):=.mk (oC hg hm hq ha.out hst hd)
theorem fB:PassesOwn (model P w) (aQ (bT P w) P w K mg base N qual scope f cd A outer s₀ H₀ E).A (aQ (bT P w) P w K mg base N qual scope f cd A outer s₀ H₀ E).env (aQ (bT P w) P w K mg base N qual scope f cd A outer s₀ H₀ E).xe:=PassesOwn.leaving
end
abbrev JF (X:Cx)(e:Expr)(c:St->Hp->Prop):Prop:=Irr (PF X e c)
abbrev yy (X:Cx)(es:List Expr)(c:St->Hp->Prop):Prop:=Irr (yt X es c)
section
variable {X:Cx}{e e1 e2:Expr}{es:List Expr}{te:TE}{c c':St->Hp->Prop}{pos:Pos}
def vP (te:TE):St->Hp->Prop:=fun σ H=>te σ H fun v H1=>H1=H/\((∃x,v=.str x/\x.length≤100000)\/∃a,v=.int a/\a.natAbs.log2<1920/\(Str.ofString (toString a)).length≤1100000)
def um:St->Hp->Prop:=fun _ _=>True
def y8 (c c':St->Hp->Prop):St->Hp->Prop:=fun σ H=>c σ H/\c' σ H
theorem cY {x:Str}{k:Nat}(h:x.length≤1100000:=by decide):JF X (.Constant (.str x) k pos) um:=.mk (vJ h)
theorem bw (he:JE X e te):JF X (.FormattedValue e (-1) none pos) (vP te):=.mk (qx he.out)
theorem fV:yy X [] um:=.mk rN
theorem aB (h1:JF X e c)(h2:yy X es c')(he:evalEach (e::es) X.env=eval e X.env::evalEach es X.env:=by rfl):yy X (e::es) (y8 c c'):=.mk (pI h1.out h2.out he)
theorem rc (h:yy X (e1::e2::es) c)(hn:(e1::e2::es).length≤12:=by decide):JE X (.JoinedStr (e1::e2::es) pos) (zn c):=.mk (xJ h.out hn)
end
structure js (P:Program)(w:World)(K:PySem.W.Frag)(mg:Str->Option Value)(base:Heap)(k:Nat)(x:Str)(ps:List Str)(sp:Sp):Prop where
 ex:∃f fd,mg x=some (.ref f)/\PySem.W.keepIn K (.ref f)=true/\(∃oc od osl,K.lookup f=some ⟨oc,od,.func fd,osl⟩)/\Binds K fd ps []/\dE P w K mg base (bT P w) k f fd ps sp
section
variable {X:Cx}{k:Nat}{x:Str}{ps:List Str}{sp:Sp}{e:Expr}{es:List Expr}{t:TA}{p pos:Pos}{E:XK}
theorem rW (D:js X.prog X.w X.K X.mg X.base k x ps sp)(hr:Room k X.A)(hg:Gl X x)(ha:PA X (e::es) t)(hx:ck (bT X.prog X.w) X E)(hdb:(x == ("__debug__":Str))=false:=by decide)
  (hst:al (e::es)=true:=by rfl):PE X (.Call (.Name x p) (e::es) [] pos) (fun σ H Q=>t σ H fun vs H1=>sp vs H1 Q E):=by
 obtain⟨f,fd,mgf,kp,_,b,G⟩:=D.ex
 have h':aZ e=true/\al es=true:=by simpa[al] using hst
 have he:=am (es:=es) (env:=X.env) h'.1
 have hpl:=ba (env:=X.env) (pos:=pos) h'.2
 have h:=lf (X:=X) (dvs:=[]) (E:=E) (p:=p) (pos:=pos) G hr hg mgf kp b .nil hx ha hdb he hpl
 intro pins s σ H Q I hq
 refine h pins s σ H Q I ?_
 show t σ H fun vs H1=>sp (vs++[]) H1 Q E
 have e1:(fun (vs:List V) H1=>sp (vs++[]) H1 Q E)=fun vs H1=>sp vs H1 Q E:=by funext vs H1;rw[List.append_nil]
 rw[e1]
 exact hq
theorem vS (D:js X.prog X.w X.K X.mg X.base k x ps sp)(hr:Room k X.A)(hg:Gl X x)(ha:JA X (e::es) t)(hx:ck (bT X.prog X.w) X E)(hdb:(x == ("__debug__":Str))=false:=by decide)
  (hst:al (e::es)=true:=by rfl):JE X (.Call (.Name x p) (e::es) [] pos) (fun σ H Q=>t σ H fun vs H1=>sp vs H1 Q E):=.mk (rW D hr hg ha.out hx hdb hst)
end
theorem Raw.defX {P:Program}{w:World}{K:PySem.W.Frag}{mg:Str->Option Value}{base:Heap}{x:Str}{st:Stmt}{N ps:List Str}{k:Nat}{sp:Sp}(R:Raw K mg x st ps)(S:ar N ps (ah st))(len:∀vs H Q E,sp vs H Q E->vs.length=ps.length)
  (hbody:∀(f:Addr) (cdv:Value) (A:Around) (outer:List Env) (s:Shared) (H:Hp) (vs:List V) (Q:VK) (E:XK),Room k (A.deeper (envOfC x (ah st) s.heap.objs.size f cdv))->sp vs H Q E ->
   ∃t,iF (aQ (bT P w) P w K mg base N x (ah st) f cdv A outer s H E) (ay st) t/\t { nx:=fun _ H'=>Q .non H',rt:=Q } (start N vs) H):js P w K mg base (k+1) x ps sp:=by
 obtain⟨f,fd,h1,F,b⟩:=R.ex
 refine⟨f,fd,h1,F.kp,F.lk,.all b,?_⟩
 obtain⟨oc,od,kV,doc,pm,an,cdv,ct,osl,rfl,lk,hcd⟩:=F.ex
 refine lS lk hcd S len fun A outer s H vs Q E hr hsp=>?_
 obtain⟨t,h,q⟩:=hbody f cdv A outer s H vs Q E hr hsp
 exact⟨t,h.out,q⟩
end L2
namespace L2
open PySem PySem.Spec PyProof.Rows
def dJ (K:PySem.W.Frag)(C:Addr)(v:Value):Bool:=match K.lookup C with
 | some ⟨_,_,.cls cd,_⟩=>cd.mro.contains v
 | _=>false
theorem cP {K:PySem.W.Frag}{h:Heap}{C:Addr}{bmB:List Value}{newId:String}(X:K.In h)(q:PySem.W.excIn K C bmB newId=true) :
  ∃bm N nm q bs hdct sn sub ab col dd k0 k1 k2 k3 k5 mN,h.get? C=some (excClassObj nm q C N bs bm hdct sn sub ab col dd k0 k1 k2 k3 k5 newId)/\h.Ns N mN/\mN "__init__"=none/\OwnTail h bmB bm/\∀v,dJ K C v=(Value.ref C::bm).contains v:=by
 unfold PySem.W.excIn at q
 split at q
 ·rename_i dd cd sl ho
  split at q
  ·rename_i C' bm k0 k1 k2 k3 n k5 hm hs
   simp only[Bool.and_eq_true,beq_iff_eq,Bool.not_eq_true']at q
   obtain⟨⟨⟨⟨⟨rfl,rfl⟩,hdel⟩,ht⟩,hok⟩,hni⟩:=q
   have hv:∀v,dJ K C' v=(Value.ref C'::bm).contains v:=fun v=>by unfold dJ;rw[ho];dsimp only;rw[hm]
   obtain⟨nm,bs,mro,ns,qn,hd,sn,sub,ab,col,del⟩:=cd
   dsimp only at hm hdel hok hni
   subst hm hdel
   have hsl:sl=#[k0,k1,k2,k3,some (.builtin n),k5]:=by
    obtain⟨l⟩:=sl
    simp only at hs
    rw[hs]
   subst hsl
   exact⟨bm,ns,nm,qn,bs,hd,sn,sub,ab,col,dd,k0,k1,k2,k3,k5,_,X _ _ ho,.of_isNs (PySem.W.isNs_of_in X hok),PySem.W.nsMap_none_of_in X hok hni,PySem.W.tail_of_in X ht,hv⟩
  ·cases q
 ·cases q
section
variable {M:Model}{A:Around}{E:Value->Shared->Prop}
variable {nm q:Str}{C N:Addr}{bs bm:List Value}{hdct:Bool}{sn:List Str}{sub:List Value}{ab:Bool}{col:Option Bool}{dd:Option Addr}{k0 k1 k2 k3 k5:Option Value}{newId:String}
variable {nm' q':Str}{G N':Addr}{bs' bm':List Value}{hdct':Bool}{sn':List Str}{sub':List Value}{ab':Bool}{col':Option Bool}{dd':Option Addr}{k0' k1' k2' k3' k5':Option Value}{newId':String}
theorem dy {h:Heap}{g:Array GenState}{d:Drawn}{t:Nat}{os:OsState}{e:Addr}{oe:Obj}{Q:Bool->Shared->Prop}
  (hC:h.get? C=some (excClassObj nm q C N bs bm hdct sn sub ab col dd k0 k1 k2 k3 k5 newId)) (hG:h.get? G=some (excClassObj nm' q' G N' bs' bm' hdct' sn' sub' ab' col' dd' k0' k1' k2' k3' k5' newId')) (he:h.get? e=some oe) (hcls:oe.cls=.ref C)
  (hbase:bm'.contains (.type "BaseException")=true) (hm:(Value.ref C::bm).contains (.ref G)=true)
  (hq:Q true ⟨h,g,d,t,os⟩):wpAny M A (excMatches (.ref e) (.ref G)) Q E ⟨h,g,d,t,os⟩:=by
 have hcB:(Value.ref G::bm').contains (.type "BaseException")=true:=by rw[List.contains_cons,hbase,Bool.or_true]
 have f:=tc_notTuple
 unfold excMatches
 repeat (first | (with_reducible refine wpAny_loadPart_at he ?_;rw[hcls]) | with_reducible refine wpAny_loadPart_at hG ?_ | with_reducible refine wpAny_loadPart_at hC ?_ | (with_reducible refine wpAny_isSubtype_exc hG ?_;rw[hcB]) | (with_reducible refine wpAny_isSubtype_exc hC ?_;rw[hm]) | wp_step)
 exact hq
end
section
variable {X:Cx}{pins:List (Addr×Obj)}{σ:List (Option V)}{H:Hp}{s:Shared}
theorem cB {M:Model}{A:Around}{E:Value->Shared->Prop}{i:Nat}{n:Str}{pos:Pos}{Q:Unit->Shared->Prop}(I:Inv X pins σ H s)(hN:X.N.Nodup)(hi:X.N[i]?=some n)(hk:X.env.kindOf n=some .local)
  (h:∀s',Inv X pins (σ.set i none) H s'->Q () s'):wpAny M A (do bindName X.env n .none;unbindBehindTheSuite X.env n pos) Q E s:=by
 obtain⟨m,hn,hl⟩:=id I.loc
 have hcls:(X.env.scope.kind == .class||(X.env.scope.kind == .module&&X.env.locals != X.env.globals))=false:=by rw[I.ok.kind];rfl
 have hiσ:i<σ.length:=by rw[I.len];exact (List.getElem?_eq_some_iff.mp hi).1
 have cne:=I.cne
 refine wpAny_nameGoes_keeps hk hn hcls fun h' v hn' hs=>h _ ?_
 obtain⟨oL,_,_,hoL,_⟩:=id hn
 have tracked:HOk X.prog X.w H h':=fun b ob e=>by
  refine (I.hok b ob e).stay (fun c w' hc q=>(hs.2 c ?_).trans q) (fun _ q=>q) fun _ _ q=>q
  rintro rfl
  have hfree:=I.free
  rcases hc with rfl | hc
  ·rw[hfree]at e;cases e
  ·rw[hfree]at hc;cases hc
 refine Inv.tok (s:={ s with heap:=h' }) ⟨I.ok,I.os,I.bare,⟨fun b o e n hb hx=>?_,fun b o e n hb hx=>?_,I.base.free,fun b o e hx=>?_,I.base.tups,I.base.frzs,I.base.tbls⟩,⟨_,hn',fun j y v' e1 e2 e3=>?_⟩,fun y c e=>?_,I.free,I.freeC,fun p hp=>?_,tracked,by simpa using I.len⟩ _
 ·exact (hs.2 b (Nat.ne_of_lt (Nat.lt_of_lt_of_le (Heap.lt_size e) I.ok.above))).trans (I.base.keep b o e n hb hx)
 ·obtain⟨sl,e1⟩:=I.base.slot b o e n hb hx
  exact⟨sl,(hs.2 b (Nat.ne_of_lt (Nat.lt_of_lt_of_le (Heap.lt_size e) I.ok.above))).trans e1⟩
 ·obtain⟨o',e1⟩:=I.base.there b o e hx
  exact⟨o',(hs.2 b (Nat.ne_of_lt (Nat.lt_of_lt_of_le (Heap.lt_size e) I.ok.above))).trans e1⟩
 ·by_cases hj:j=i
  ·subst hj
   rw[List.getElem?_set_self hiσ]at e2
   cases e2
  ·rw[List.getElem?_set_ne (Ne.symm hj)]at e2
   obtain⟨u',r',q⟩:=hl j y v' e1 e2 e3
   refine⟨u',r',?_⟩
   rcases q with⟨k,e⟩ | ⟨k,c,e,z⟩
   ·refine .inl ⟨k,?_⟩
    have:y≠n:=fun e=>hj (eI hN e1 (e▸hi))
    simp[this,e]
   ·exact .inr ⟨k,c,e,z.sameBut hs (cne y c e)⟩
 ·obtain⟨w',z⟩:=I.cell y c e
  exact⟨w',z.sameBut hs (cne y c e)⟩
 ·obtain⟨e,n,ne,nf,d⟩:=I.pin p hp
  exact⟨(hs.2 p.1 ne).trans e,n,ne,nf,d⟩
end
def cE (X:Cx)(a:Addr)(oe:Obj):Cx:={ X with A:=X.A.mark (some (.ref a)),calm:=false,pn:=X.pn++[(a,oe)],xe:=fun _ _=>False }
theorem jS {X:Cx}{pins:List (Addr×Obj)}{σ:List (Option V)}{H:Hp}{s:Shared}{a:Addr}{oe:Obj}(I:Inv X pins σ H s)(he:s.heap.get? a=some oe)(hn:H a=none)(hL:a≠X.env.locals)(hf:a∉X.fs)(hd:∀v,oe.data≠.cell v) :
  Inv (cE X a oe) pins σ H s :=
 ⟨⟨I.ok.mod,I.ok.kind,I.ok.glob,I.ok.blt,I.ok.above,I.ok.inj,I.ok.has,I.ok.cab,fun z=>absurd z Bool.false_ne_true,I.ok.frames,I.ok.stk,I.ok.exf,I.ok.bs,I.ok.bsz,I.ok.noex,I.ok.exfs,I.ok.funs,I.ok.frf⟩,I.os,I.bare,I.base,I.loc,I.cell,I.free,I.freeC,fun p hp=>by
  have hp':p∈(X.pn++[(a,oe)])++pins:=hp
  rcases List.mem_append.mp hp' with z | z
  ·rcases List.mem_append.mp z with y | y
   ·exact I.pin p (List.mem_append_left _ y)
   ·rw[List.mem_singleton.mp y];exact⟨he,hn,hL,hf,hd⟩
  ·exact I.pin p (List.mem_append_right _ z),I.hok,I.len⟩
theorem bG {X:Cx}{pins:List (Addr×Obj)}{σ:List (Option V)}{H:Hp}{s:Shared}{a:Addr}{oe:Obj}(ok:X.Ok)(I:Inv (cE X a oe) pins σ H s):Inv X pins σ H s :=
 ⟨ok,I.os,I.bare,I.base,I.loc,I.cell,I.free,I.freeC,fun p hp=>I.pin p (by
  show p∈(X.pn++[(a,oe)])++pins
  rcases List.mem_append.mp hp with z | z
  ·exact List.mem_append_left _ (List.mem_append_left _ z)
  ·exact List.mem_append_right _ z),I.hok,I.len⟩
end L2
namespace L2
open PySem PySem.Spec PyProof.Rows
theorem dC {P:Program}{w:World}{H:Hp}{h:Heap}{a:Addr}{o:HO}(x:ObjOk P w H h a o):∃u,h.get? a=some u:=by
 induction o with
 | lst xs=>obtain⟨_,_,_,_,e⟩:=x;exact⟨_,e⟩
 | tup xs=>obtain⟨_,_,_,o,e,_⟩:=x;exact⟨_,e⟩
 | dK kvs=>obtain⟨_,_,_,_,o,_,_,e,_⟩:=x;exact⟨_,e⟩
 | dT kvs=>obtain⟨_,_,_,_,o,_,_,e,_⟩:=x;exact⟨_,e⟩
 | set S n=>obtain⟨o,_,_,_,e,_⟩:=x;exact⟨_,e⟩
 | ins C dx fs=>obtain⟨_,_,_,e,_⟩:=x;exact⟨_,e⟩
 | own y=>exact x
 | xd fs=>obtain⟨_,⟨_,_,_,e,_⟩,_⟩:=x;exact⟨_,e⟩
 | rng lo hi=>obtain⟨_,_,_,e⟩:=x;exact⟨_,e⟩
 | frz o u ih=>exact⟨_,x.1⟩
 | tbl ps=>exact⟨_,x⟩
 | met f y=>exact⟨_,x⟩
 | ext φ=>exact x.2.1
structure xD (K:PySem.W.Frag)(C:Addr):Prop where
 exc:PySem.W.excIn K C iW "ValueError.__new__"=true
 f1:PySem.W.findIn K (.ref C) "__getattribute__"=some (some (.builtin "BaseException.__getattribute__"))
 f2:PySem.W.findIn K (.ref C) "__getattr__"=some none
 f3:PySem.W.findIn K (.ref C) "__class__"=some (some (.builtin "object.__class__"))
 obj:PySem.W.mroIn K C (.type "object")=some true
section
variable {X:Cx}{k:Nat}{x G n:Str}{ps:List Str}{sp:Sp}{e:Expr}{es:List Expr}{t:TA}{p gp cpos epos hpos pos:Pos}{CG:Addr}{newId:String}{i:Nat}{b₀:Stmt}{suite:List Stmt}{ts:Addr->Addr->TS}
end
end L2
namespace PySem.W
open PySem PySem.Calls PyProof.Rows Builtin Builtin.ObjectAttr Builtin.Getset_descriptor
theorem class_getE {prog:Program}{w:World}{A:Around}{R:Result->Shared->Prop}{s:Shared}{K:Frag}{x C:Addr}{ox:Obj}{tp:Value}(X:K.In s.heap)(hx:s.heap.get? x=some ox)(hc:ox.cls=.ref C)(hm:mroIn K C (.type "object")=some true)
  (h:R (.ok (.ret (.ref C))) s):codeAny (model prog w) A (.call (.builtin "getset_descriptor.__get__") ⟨[.builtin "object.__class__",.ref x,tp],[]⟩) R s:=by
 obtain⟨hh,g,dr,t,os⟩:=s
 have L0:Looks (model prog w) hh (typeOf (.ref x)) (.ref C):=hc▸(Looks.ld hx).andThen .now
 have L1:=looks_mroIn (M:=model prog w) X hm
 refine codeAny_call_builtin KF.slot_gs.plain KF.entry_gs (KF.slot_gs.check _ _ _ _ _ _ _ _ KF.type_class (KF.args_gs _ _ _) ?_)
 unfold Builtin.«getset_descriptor.__get__» descrGet
 rw[dga_obj]
 refine wpAny_bind (wpAny_pure ?_)
 unfold descrGetter descrCheckInstance descrNameAndClass isInstance
 simp only[KF.owner_class]
 repeat lk
 refine⟨Code.quiet_builtin _ (by decide +kernel),codeAny_builtin KF.entry_class ?_⟩
 unfold Builtin.«object.__class__» shownTypeOf
 repeat lk
 exact h
end PySem.W
namespace L2
open PySem PySem.Spec PyProof.Rows PySem.W
structure fA (h:Heap)(a:Addr)(o:Obj)(C:Addr):Prop where
 at_:h.get? a=some o
 cls:o.cls=.ref C
section
variable {prog:Program}{w:World}{A:Around}{E:Value->Shared->Prop}{h:Heap}{g:Array GenState}{d:Drawn}{t:Nat}{os:OsState}{a:Addr}{o:Obj}{K:Frag}
 {nm q:Str} {C N:Addr} {bs bm:List Value} {hdct:Bool} {sn:List Str} {sub:List Value} {ab:Bool} {col:Option Bool} {dd:Option Addr} {k0 k1 k2 k3 k5:Option Value} {newId:String}
theorem iz {M:Model}{name:Str}{r:Option Value}{Q:Option Value->Shared->Prop}(X:K.In h)(f:findIn K (.ref C) name=some r)(hq:Q r ⟨h,g,d,t,os⟩):wpAny M A (typeLookup (.ref C) name) Q E ⟨h,g,d,t,os⟩ :=
 (looks_findIn (M:=M) X f).at hq
theorem jZ {M:Model}{nameV:Value}{Q:Unit->Shared->Prop}(hC:h.get? C=some (excClassObj nm q C N bs bm hdct sn sub ab col dd k0 k1 k2 k3 k5 newId))(hcB:(Value.ref C::bm).contains (.type "BaseException")=true)
  (hx:h.get? a=some o) (hc:o.cls=.ref C) (hq:Q () ⟨h,g,d,t,os⟩):wpAny M A (checkBuiltinCall "BaseException.__getattribute__" ⟨[.ref a,nameV],[]⟩) Q E ⟨h,g,d,t,os⟩:=by
 have hk:builtinKind "BaseException.__getattribute__"=some .slot:=by decide +kernel
 have hsplit:splitId "BaseException.__getattribute__"=some ("BaseException","__getattribute__"):=by decide +kernel
 have ha:=F.args_bexc_ga (.ref a) nameV
 simp only[checkBuiltinCall,hk,hsplit]
 refine wpAny_bind ?_
 ·unfold isInstance
  repeat (first | (with_reducible refine wpAny_loadPart_at hx ?_;rw[hc]) | (with_reducible refine wpAny_isSubtype_exc hC ?_;rw[hcB]) | wp_step)
  exact hq
theorem jD {tk:Tok}{Q:Fin->Shared->Prop}(X:K.In h)(I:fA h a o C)(f3:findIn K (.ref C) "__class__"=some (some (.builtin "object.__class__")))(hm:mroIn K C (.type "object")=some true)
  (hq:Q (.done (.ret (.ref C))) ⟨h,g,d,t,os⟩) :
  wpAny (model prog w) A (Builtin.«object.__getattribute__» ⟨[.ref a,.str "__class__" tk],[]⟩) Q E ⟨h,g,d,t,os⟩:=by
 have hx:=I.at_
 have hc:=I.cls
 have hT5:(⟨h,g,d,t,os⟩:Shared).TypeIs (.builtin "object.__class__") "getset_descriptor":=F.typeOf_object_class
 have f5:=F.typeOf_object_class
 have f6:=F.slot_gs_get.lookup
 have f7:=F.slot_gs_set.lookup
 repeat (any_goals (first | assumption | (with_reducible refine wpAny_loadPart_at hx ?_;rw[hc]) | with_reducible refine iz X f3 ?_ | wp_step))
 refine PySem.W.class_getE (s:=⟨h,g,d,t,os⟩) X I.at_ I.cls hm ?_
 repeat (any_goals (first | assumption | wp_step))
theorem kP {tk:Tok}{R:Result->Shared->Prop}(X:K.In h)(I:fA h a o C)(hC:h.get? C=some (excClassObj nm q C N bs bm hdct sn sub ab col dd k0 k1 k2 k3 k5 newId))(hcB:(Value.ref C::bm).contains (.type "BaseException")=true)
  (f3:findIn K (.ref C) "__class__"=some (some (.builtin "object.__class__"))) (hm:mroIn K C (.type "object")=some true) (hq:R (.ok (.ret (.ref C))) ⟨h,g,d,t,os⟩) :
  codeAny (model prog w) A (.call (.builtin "BaseException.__getattribute__") ⟨[.ref a,.str "__class__" tk],[]⟩) R ⟨h,g,d,t,os⟩ :=
 codeAny_call_builtin F.attr_ValueError.ga.plain F.entry_bexc_ga (jZ hC hcB I.at_ I.cls (jD X I f3 hm hq))
theorem jB {tk:Tok}{Q:Value->Shared->Prop}(X:K.In h)(I:fA h a o C)(hC:h.get? C=some (excClassObj nm q C N bs bm hdct sn sub ab col dd k0 k1 k2 k3 k5 newId))(hcB:(Value.ref C::bm).contains (.type "BaseException")=true)
  (f1:findIn K (.ref C) "__getattribute__"=some (some (.builtin "BaseException.__getattribute__"))) (f2:findIn K (.ref C) "__getattr__"=some none)
  (f3:findIn K (.ref C) "__class__"=some (some (.builtin "object.__class__"))) (hm:mroIn K C (.type "object")=some true) (hq:Q (.ref C) ⟨h,g,d,t,os⟩) :
  wpAny (model prog w) A (getAttrBy (.ref a) (.str "__class__" tk) false) Q E ⟨h,g,d,t,os⟩:=by
 have hx:=I.at_
 have hc:=I.cls
 have f3':=F.attr_ValueError.ga.bind (.ref a)
 have hx2:(Value.builtin "BaseException.__getattribute__" == Value.builtin "object.__getattribute__")=false:=by decide +kernel
 have hx1:(onTheHeap (Value.ref C)&&Value.builtin "BaseException.__getattribute__" == Value.builtin "object.__getattribute__")=false:=by rw[hx2];rfl
 have hx0:(false&&onTheHeap (Value.builtin "BaseException.__getattribute__"))=false:=rfl
 repeat (any_goals (first | assumption | (with_reducible refine wpAny_loadPart_at hx ?_;rw[hc]) | with_reducible refine iz X f1 ?_ | with_reducible refine iz X f2 ?_ | wp_step))
 refine kP X I hC hcB f3 hm ?_
 repeat (any_goals (first | assumption | wp_step))
end
theorem om {K:Frag}{a C:Addr}{o:Obj}(Z:xD K C):KitX K (.ref a) (.ref C) (fun h=>fA h a o C) where
 ty:=fun _ _ _ I=>I.cls▸(Looks.ld I.at_).andThen .now
 it:=fun _ h X _=>by
  obtain⟨bm,N,nm,qn,bs,hdct,sn,sub,ab,col,dd,k0,k1,k2,k3,k5,mN,hC,_⟩:=cP X Z.exc
  intro A' Q' E' s' k q
  unfold isType loadHead
  exact wpAny_bind (wpAny_loadPart (k _ _ hC) (wpAny_pure q))
 ne:=fun h tp dd its n sl X htp=>by
  obtain⟨bm,N,nm,qn,bs,hdct,sn,sub,ab,col,dd',k0,k1,k2,k3,k5,mN,hC,_⟩:=cP X Z.exc
  refine Bool.eq_false_iff.mpr fun q=>?_
  have e:C=tp:=Value.ref.inj (beq_iff_eq.mp q)
  subst e
  rw[htp]at hC
  have z:Value.type "tuple"=Value.type "type":=congrArg Obj.cls (Option.some.inj hC)
  exact absurd z (by decide)
 ca:=fun {prog w A E Q s} X I k=>by
  obtain⟨hh,g,d,t,os⟩:=s
  obtain⟨bm,N,nm,qn,bs,hdct,sn,sub,ab,col,dd',k0,k1,k2,k3,k5,mN,hC,_,_,TL,_⟩:=cP X Z.exc
  have hcB:(Value.ref C::bm).contains (.type "BaseException")=true:=by rw[List.contains_cons,TL.hasType F.excBase_ValueError.hasBase,Bool.or_true]
  unfold getAttr? getAttrBy?
  refine wpAny_bind (wpAny_mkText (wpAny_bind (wpAny_attempt ?_)))
  exact jB (h:=hh) X I hC hcB Z.f1 Z.f2 Z.f3 Z.obj (wpAny_pure k)
end L2
namespace L2
open PySem PySem.Spec PyProof.Rows
section
variable {X:Cx}{pos:Pos}{K:PySem.W.Frag}
def xZ (K:PySem.W.Frag):V->Option Int->Option Int->Hp->VK->Prop:=fun x lo hi H Q=>match x with
 | .str z=>z.length≤sizeLine/\Q (.str (Txt.slice z lo hi)) H
 | .ref a=>(∃xs,SqL K H a xs/\∀p,H p=none->Q (.ref p) (upd H p (.lst (e9 xs lo hi))))\/∃xs,SqT K H a xs/\¬ (HT.sIx xs.length 0 lo=0/\HT.sIx xs.length xs.length hi=xs.length)/\∀p,H p=none->Q (.ref p) (upd H p (.tup (e9 xs lo hi)))
 | _=>False
theorem pq (hK:X.K=K:=by rfl):Irr (wK X (xZ K)):=by
 refine .mk ?_
 subst hK
 intro pins s σ H x v vl vu lo hi sl Q I rx hs pl pu h
 unfold xZ at h
 split at h
 ·exact vm pins s σ H _ v vl vu lo hi sl Q I rx hs pl pu ⟨_,rfl,h.1,h.2⟩
 ·rcases h with⟨xs,h1,h2⟩ | ⟨xs,h1,h2,h3⟩
  ·exact sP pins s σ H _ v vl vu lo hi sl Q I rx hs pl pu ⟨_,xs,rfl,h1,h2⟩
  ·exact wa pins s σ H _ v vl vu lo hi sl Q I rx hs pl pu ⟨_,xs,rfl,h1,h2,h3⟩
 ·exact h.elim
theorem wB {x:Str}{v:Str}(hg:Gl X x)(hm:∃t,X.mg x=some (.str v t))(hd:(x == ("__debug__":Str))=false:=by decide):JE X (.Name x pos) (tC (.str v)):=by
 obtain⟨t,h⟩:=hm
 exact bz hg h ⟨_,rfl⟩ hd
theorem gm {x:Str}{v:Int}(hg:Gl X x)(hm:∃t,X.mg x=some (.int v t))(hd:(x == ("__debug__":Str))=false:=by decide):JE X (.Name x pos) (tC (.int v)):=by
 obtain⟨t,h⟩:=hm
 exact bz hg h ⟨_,rfl⟩ hd
end
end L2
namespace L2
open PySem PySem.Spec PyProof.Rows
section
variable {X:Cx}{a b c e f i o k v value:Expr}{ta tb te td ty tv tx:TE}{K:PySem.W.Frag}{w:World}{pos pos' p2 apos cpos:Pos}
theorem IsD.kd {H:Hp}{a:Addr}{kvs:List (cK×V)}(e:H a=some (.dK kvs)):IsD H a:=.inl ⟨kvs,.inl e⟩
theorem IsD.tk {H:Hp}{a:Addr}{kvs:List (List cK×V)}(e:H a=some (.dT kvs)):IsD H a:=.inr ⟨kvs,.inl e⟩
def wQ:List V->Hp->VK->Prop:=fun xs H Q=>match xs with
 | [.int i]=>Q (.int i) H
 | [.bl b]=>Q (.int (if b then 1 else 0)) H
 | _=>False
theorem tX:Irr (bU X (.type "int") wQ):=by
 refine .mk ?_
 intro pins s σ H xs us Q I r h
 unfold wQ at h
 split at h
 ·exact iq pins s σ H _ us Q I r (.inl ⟨_,rfl,h⟩)
 ·exact iq pins s σ H _ us Q I r (.inr ⟨_,rfl,h⟩)
 ·exact h.elim
end
end L2
namespace L2
open PySem PySem.Spec PyProof.Rows
section
variable {X:Cx}{K:PySem.W.Frag}
def lA (K:PySem.W.Frag):V->List V->Hp->VK->Prop:=fun x vs H Q=>match x,vs with
 | .ref l,[.ref b]=>∃xs zs,H l=some (.lst xs)/\H b=some (.lst zs)/\xs.length+zs.length≤sizeLine/\Q .non (upd H l (.lst (xs++zs)))
 | _,_=>False
theorem qt:Irr (nZ X "list.extend" (lA K)):=by
 refine .mk ?_
 intro pins s σ H x xs v us Q I rx rs h
 unfold lA at h
 split at h
 ·obtain⟨xs,zs,h1,h2,h3,h4⟩:=h
  exact mO pins s σ H _ _ v us Q I rx rs ⟨_,_,xs,zs,rfl,rfl,h1,h2,h3,h4⟩
 ·exact h.elim
def xE:V->List V->Hp->VK->Prop:=fun x vs H Q=>match x,vs with
 | .ref l,[]=>∃xs y,H l=some (.lst xs)/\xs[xs.length-1]?=some y/\Q y (upd H l (.lst xs.dropLast))
 | _,_=>False
theorem ub:Irr (nZ X "list.pop" xE):=by
 refine .mk ?_
 intro pins s σ H x xs v us Q I rx rs h
 unfold xE at h
 split at h
 ·obtain⟨xs,y,h1,h2,h3⟩:=h
  exact u5 pins s σ H _ _ v us Q I rx rs ⟨_,xs,y,rfl,rfl,h1,h2,h3⟩
 ·exact h.elim
end
end L2
namespace L2
open PySem PySem.Spec PyProof.Rows
def xO (K:PySem.W.Frag)(a:Addr):It :=
 ⟨fun i H=>∃xs x,SqL K H a xs/\xs[i]?=some x,
  fun i H v H'=>∃T x,(∀xs,SqL K H a xs->xs[i]?=some x)/\H T=none/\v=.ref T/\H'=upd H T (.tup [.int (i:Nat),x]),
  fun i H=>∃xs,SqL K H a xs/\xs.length≤i⟩
theorem mh {P:Program}{w:World}{K:PySem.W.Frag}{elts:List Expr}{x1}{pos:Pos}{a e it:Addr}(hne:e≠it) :
  kJ P w K (.Tuple elts x1 pos) (xO K a) [e,it] e (fun i h=>(∃old,IsEnum h e it (i:Nat) old)/\h.IsListIter it a i) where
 mem:=by simp
 obj:=by
  rintro i h ⟨⟨old,he⟩,hi⟩ c hc
  simp only[List.mem_cons,List.not_mem_nil,or_false]at hc
  rcases hc with rfl | rfl
  ·exact⟨_,he,fun v z=>by cases z⟩
  ·obtain⟨o,ho,_,d⟩:=hi
   exact⟨o,ho,fun v z=>by rw[d]at z;cases z⟩
 keep:=by
  rintro i h h' ⟨⟨old,he⟩,hi⟩ k
  refine⟨⟨old,k e (by simp) _ he⟩,?_⟩
  obtain⟨o,ho,r⟩:=hi
  exact⟨o,k it (by simp) _ ho,r⟩
 item:=by
  rintro X hP hw hK hc i pins s σ H E I hf ⟨⟨old,he⟩,hi⟩ ⟨xs,x,q1,hx⟩
  subst hP hw hK
  obtain⟨its,rv,p1,_⟩:=I.list q1
  obtain⟨ux,hux,rx⟩:=rv.get hx
  refine wpAny_pyNext_enum_item he hi p1.isList (x:=ux) (by simpa using hux) hne fun h' a1 a2 a3 a4 a5=>?_
  have hT:H s.heap.objs.size=none:=I.hok.fresh (Nat.le_refl _)
  have I1:Inv X pins σ (upd H s.heap.objs.size (.tup [.int (i:Nat),x])) { s with heap:=s.heap.push { cls:=.type "tuple",data:=.seq [.int (i:Nat) s.toks,ux].toArray },toks:=s.toks+1 } :=
   I.laid (t':=s.toks+1) (fun b o q=>Heap.get?_push_of_some _ q) (Nat.le_refl _) (show ObjOk X.prog X.w _ _ _ (.tup [.int (i:Nat),x]) from ⟨by show 2≤sizeLine;decide,[.int (i:Nat) s.toks,ux],.cons ⟨_,rfl⟩ (.cons rx .nil),IsTup.new _ _⟩)
  have hlt:∀c∈[e,it],c<s.heap.objs.size:=by
   intro c hc
   simp only[List.mem_cons,List.not_mem_nil,or_false]at hc
   rcases hc with rfl | rfl
   ·exact Heap.lt_size he
   ·obtain⟨o,ho,_⟩:=hi;exact Heap.lt_size ho
  have hf':∀c∈[e,it],fj X pins (upd H s.heap.objs.size (.tup [.int (i:Nat),x])) c:=fun c hc=>by
   obtain⟨f0,fr⟩:=hf c hc
   exact⟨by rw[ag (Nat.ne_of_lt (hlt c hc))];exact f0,fr⟩
  have kept:∀c o,c∉[e,it]->(s.heap.push { cls:=.type "tuple",data:=.seq [.int (i:Nat) s.toks,ux].toArray }).get? c=some o->h'.get? c=some o:=by
   intro c o hc q
   have hc':c≠e/\c≠it:=by simpa using hc
   by_cases hn:c=s.heap.objs.size
   ·subst hn
    have e0:(s.heap.push { cls:=.type "tuple",data:=.seq [.int (i:Nat) s.toks,ux].toArray }).get? s.heap.objs.size=some { cls:=.type "tuple",data:=.seq [.int (i:Nat) s.toks,ux].toArray }:=Heap.get?_push_size _ rfl
    rw[e0]at q
    cases q
    exact a3
   ·rw[Heap.get?_push_ne _ _ _ hn]at q
    exact a5 c o hc'.1 hc'.2 q
  have I2:Inv X pins σ (upd H s.heap.objs.size (.tup [.int (i:Nat),x])) { s with heap:=h',toks:=s.toks+1 }:=I1.turnedL (t':=s.toks+1) kept hf'
  refine⟨_,rfl,?_⟩
  refine wpAny_letOwnedTupleGo_enum a1 fun h2' he2 hs2=>?_
  have I3:Inv X pins σ (upd H s.heap.objs.size (.tup [.int (i:Nat),x])) { s with heap:=h2',toks:=s.toks+1 }:=Inv.turnedL (s:={ s with heap:=h',toks:=s.toks+1 }) (h':=h2') (t':=s.toks+1) (fp:=[e,it]) I2 (fun c o hc q=>hs2.extBut _ _ (fun z=>hc (by simp[z])) q) hf'
  refine⟨.ref s.heap.objs.size,_,I3,rfl,⟨_,x,fun zs hq=>by rw[I.list_inj hq q1];exact hx,hT,rfl,rfl⟩,⟨⟨_,he2⟩,?_⟩,fun c hc=>(hf' c hc).1⟩
  obtain⟨o,ho,r⟩:=a2
  exact⟨o,hs2.extBut _ _ hne.symm ho,r⟩
 done:=by
  rintro X hP hw hK hc i pins s σ H E I hf ⟨⟨old,he⟩,hi⟩ ⟨xs,q1,hend⟩
  subst hP hw hK
  obtain⟨its,rv,p1,_⟩:=I.list q1
  have l1:=rv.length
  refine wpAny_pyNext_enum_end (I.ok.hd hc) he hi p1.isList (by simp;omega) fun h' hk=>⟨rfl,I.turnedL (t':=s.toks) (fp:=[e,it]) (fun c o hc q=>?_) hf⟩
  have hc':c≠e/\c≠it:=by simpa using hc
  exact hk c o hc'.2 q
 self:=fun _ _ _ _ _ st h=>by
  obtain⟨⟨old,he⟩,_⟩:=st
  exact wpAny_pyIter_enum he h
section
variable {X:Cx}{K:PySem.W.Frag}
def uA (K:PySem.W.Frag)(ta:TA):TI:=fun σ H R=>ta σ H fun vs H1=>match vs with
 | [.ref a]=>(∃xs,SqL K H1 a xs)/\R (xO K a) H1
 | _=>False
theorem qU {a:Expr}{ta:TA}{p pos:Pos}{elts:List Expr}{x1}{pos':Pos}(hg:Gl X "enumerate")(hm:X.mg "enumerate"=none)(ha:PA X [a] ta)(hK:X.K=K:=by rfl)(hs:starEach [a] X.env=[(false,eval a X.env)]:=by rfl) :
  PI X (.Tuple elts x1 pos') (.Call (.Name "enumerate" p) [a] [] pos) (uA K ta):=by
 subst hK
 intro pins s σ H R I h
 refine Call_ (gq I hg hm boot_enumerate (PyProof.Rows.callWith_type1 (aS (ha pos pins s σ H _ I h) fun us s1 ⟨vs,H1,I1,r1,q1⟩=>?_) (by rw[hs];rfl) rfl))
 dsimp only at q1
 split at q1
 ·obtain⟨u,rfl,r⟩:=eV r1
  cases r
  obtain⟨⟨xs,hx⟩,q⟩:=q1
  obtain⟨its,rv,p1,_⟩:=I1.list hx
  refine call_enumerate_list p1.isList fun h' he hi hz hk=>?_
  refine wpAny_pyIter_enum he ?_
  refine⟨_,[s1.heap.objs.size+1,s1.heap.objs.size],_,_,H1,rfl,I1.kept (t':=s1.toks) hk,mh (Nat.succ_ne_self _),⟨⟨_,he⟩,hi⟩,fun c hc=>?_,q⟩
  have hge:s1.heap.objs.size≤c:=by
   simp only[List.mem_cons,List.not_mem_nil,or_false]at hc
   rcases hc with rfl | rfl
   ·exact Nat.le_succ _
   ·exact Nat.le_refl _
  exact I1.fpOk hge (I1.hok.fresh hge)
 ·exact q1.elim
theorem tf {a:Expr}{ta:TA}{p pos:Pos}{elts:List Expr}{x1}{pos':Pos}(hg:Gl X "enumerate")(hm:X.mg "enumerate"=none)(ha:JA X [a] ta)(hK:X.K=K:=by rfl)(h1:aZ a=true:=by rfl) :
  JI X (.Tuple elts x1 pos') (.Call (.Name "enumerate" p) [a] [] pos) (uA K ta):=.mk (qU hg hm ha.out hK (by rw[am h1];rfl))
end
theorem oM {K:PySem.W.Frag}{a:Addr}{xs:List V}{g:TG}{tb:TS}{D:gP}{σ:St}{H:Hp}(Pv:Nat->St->Hp->Prop)(h0:Pv 0 σ H)
  (hl:∀i σ H,i≤xs.length->Pv i σ H->SqL K H a xs)
  (hs:∀i x σ H,xs[i]?=some x->Pv i σ H->∀T,H T=none->g (.ref T) σ (upd H T (.tup [.int (i:Nat),x])) fun σ2 H2=>tb { D with nx:=Pv (i+1),ct:=Pv (i+1),bk:=D.nx } σ2 H2) (hd:∀σ H,Pv xs.length σ H->D.nx σ H) :
  ∃W:Nat->Nat->St->Hp->Prop,(∃m,W 0 m σ H)/\∀i m σ H,W i m σ H ->
   ((xO K a).stop i H/\D.nx σ H)\/((xO K a).go i H/\∃N:St->Hp->Prop,(∀σ' H',N σ' H'->∃m',m'<m/\W (i+1) m' σ' H')/\∀x H',(xO K a).yld i H x H'->g x σ H' fun σ2 H2=>tb { D with nx:=N,ct:=N,bk:=D.nx } σ2 H2):=by
 refine⟨fun i m σ H=>m=xs.length-i/\i≤xs.length/\Pv i σ H,⟨xs.length,by simp,Nat.zero_le _,h0⟩,?_⟩
 rintro i m σ H ⟨rfl,hi,p⟩
 have q1:=hl i σ H hi p
 by_cases hlt:i<xs.length
 ·refine .inr ⟨⟨xs,xs[i],q1,by simp[hlt]⟩,Pv (i+1),fun σ' H' p'=>⟨xs.length-(i+1),by omega,rfl,hlt,p'⟩,fun v H' y=>?_⟩
  obtain⟨T,x,e1,hT,rfl,rfl⟩:=y
  exact hs i x σ H (e1 xs q1) p T hT
 ·have e:i=xs.length:=by omega
  subst e
  exact .inl ⟨⟨xs,q1,Nat.le_refl _⟩,hd σ H p⟩
end L2
namespace L2
open PySem PySem.Spec PyProof.Rows
section
variable {X:Cx}
def xo:R2:=fun x y H Q=>match x,y with
 | .int i,.int j=>xp i j/\Q (.int (i ^ j.toNat)) H
 | _,_=>False
theorem ue:Irr (bo X (binaryOp .Pow) xo):=by
 refine .mk ?_
 intro pins s σ H x y v u Q I rx ry h
 unfold xo at h
 split at h
 ·exact uS pins s σ H _ _ v u Q I rx ry ⟨_,_,rfl,rfl,h.1,h.2⟩
 ·exact h.elim
end
theorem h7 {a:Int}(h:a.natAbs<10 ^ 70):a.natAbs.log2<1920/\(Str.ofString (toString a)).length≤1100000:=by
 have h1:a.natAbs.log2<1920:=by
  by_cases z:a.natAbs=0
  ·rw[z];decide
  ·refine (Nat.log2_lt z).mpr (Nat.lt_of_lt_of_le h ?_)
   decide +kernel
 refine⟨h1,?_⟩
 have e:=int_text_length_le (k:=1920) (by decide) h1
 rw[PySem.ofString_length]
 omega
end L2
namespace L2
open PySem PySem.Spec PyProof.Rows
abbrev GK:=cK ⊕ List cK
def bF (P:Program)(w:World)(h:Heap):GK->Value->Prop
 | .inl k,v=>eD k v=true
 | .inr ks,v=>∃a,v=.ref a/\IsTupleKey (aE P w) h ks a
def iw (P:Program)(w:World):GK->Int
 | .inl k=>(aE P w).hash k
 | .inr ks=>tupleKeyHash (aE P w) ks
def ce:GK->Nat
 | .inl _=>1
 | .inr ks=>ks.length+1
section
variable {P:Program}{w:World}{h h':Heap}{x y:GK}{u v:Value}{A:Around}{E:Value->Shared->Prop}{s:Shared}
theorem iB {k:cK}{a:Addr}(hk:eD k (.ref a)=true):False:=by
 rcases aC hk with⟨_,_,_,e⟩ | ⟨_,_,_,e⟩<;>exact nomatch e
theorem pw (hx:bF P w h x v)(hy:bF P w h y v):x=y:=by
 cases x with
 | inl k =>
  cases y with
  | inl l=>exact congrArg Sum.inl ((aE P w).inj v k l hx hy)
  | inr l=>obtain⟨a,rfl,_⟩:=hy;exact (iB hx).elim
 | inr k =>
  obtain⟨a,rfl,ha⟩:=hx
  cases y with
  | inl l=>exact (iB hy).elim
  | inr l =>
   obtain⟨b,e,hb⟩:=hy
   cases e
   exact congrArg Sum.inr (ha.inj hb)
theorem fZ {d:Addr}{o:Obj}{es ep}(hx:bF P w h x v)(ho:h.get? d=some o)(hd:o.data=.dict es ep)(hs:Heap.SameBut d h h'):bF P w h' x v:=by
 cases x with
 | inl k=>exact hx
 | inr k=>obtain⟨a,rfl,ha⟩:=hx;exact⟨a,rfl,ha.keeps ho hd hs⟩
theorem ir {Q:Int->Shared->Prop}(hu:A.units<cLine)(hx:bF P w s.heap x v)(q:Q (iw P w x) { s with toks:=s.toks+ce x }):wpAny (model P w) A (pyHash v) Q E s:=by
 cases x with
 | inl k=>exact (aE P w).pyHash hx q
 | inr k=>obtain⟨a,rfl,ha⟩:=hx;exact wpAny_pyHash_tuple hu ha q
theorem ja {ks:List cK}{a:Addr}(h':IsTupleKey (aE P w) h ks a):∃items,h.IsTuple a items:=by
 obtain⟨o,items,n,h1,h2,h3,_⟩:=h'
 exact⟨items,o,h1,h2,n,h3⟩
theorem e7 {Q:Bool->Shared->Prop}(hu:A.units<cLine)(hx:bF P w s.heap x u)(hy:bF P w s.heap y v)(q:Q (decide (x=y)) s):wpAny (model P w) A (eqBool u v) Q E s:=by
 cases x with
 | inl k =>
  cases y with
  | inl l =>
   refine (aE P w).eqBool hx hy ?_
   rwa [show decide ((Sum.inl k:GK)=Sum.inl l)=decide (k=l) from decide_eq_decide.mpr ⟨Sum.inl.inj,congrArg _⟩]at q
  | inr l =>
   rw[show decide ((Sum.inl k:GK)=Sum.inr l)=false from decide_eq_false (fun z=>nomatch z)]at q
   obtain⟨a,rfl,ha⟩:=hy
   obtain⟨its,ht⟩:=ja ha
   rcases aC hx with⟨i,t,rfl,rfl⟩ | ⟨i,t,rfl,rfl⟩
   ·exact SeqAt.EqAt.int_tuple i t ht hu _ _ _ _ q
   ·exact SeqAt.EqAt.str_tuple i t ht hu _ _ _ _ q
 | inr k =>
  obtain⟨a,rfl,ha⟩:=hx
  cases y with
  | inl l =>
   rw[show decide ((Sum.inr k:GK)=Sum.inl l)=false from decide_eq_false (fun z=>nomatch z)]at q
   obtain⟨its,ht⟩:=ja ha
   rcases aC hy with⟨i,t,rfl,rfl⟩ | ⟨i,t,rfl,rfl⟩
   ·exact SeqAt.EqAt.tuple_int i t ht hu _ _ _ _ q
   ·exact SeqAt.EqAt.tuple_str i t ht hu _ _ _ _ q
  | inr l =>
   obtain⟨b,rfl,hb⟩:=hy
   refine wpAny_eqBool_tuple hu ha hb ?_
   rwa [show decide ((Sum.inr k:GK)=Sum.inr l)=decide (k=l) from decide_eq_decide.mpr ⟨Sum.inr.inj,congrArg _⟩]at q
theorem jV {Q:Bool->Shared->Prop}(hx:bF P w s.heap x v)(q:Q true s):wpAny (model P w) A (eqIsQuiet 8 v) Q E s:=by
 cases x with
 | inl k=>rw[eqIsQuiet_byValue 8 ((aE P w).byValue k v hx)];exact wpAny_pure q
 | inr k=>obtain⟨a,rfl,ha⟩:=hx;exact wpAny_eqIsQuiet_tuple ha q
theorem qW {stored:List Value}{Q:Bool->Shared->Prop}(hkey:bF P w s.heap x v)(hst:∀u∈stored,∃y,bF P w s.heap y u)(q:Q false s):wpAny (model P w) A (tableMayTell v stored) Q E s:=by
 unfold tableMayTell
 split
 ·exact wpAny_pure q
 ·refine wpAny_bind (jV hkey ?_)
  simp only[Bool.not_true,Bool.false_eq_true,if_false]
  refine wpAny_bind ?_
  refine wpAny_forIn_list _ (fun rest r s'=>s'=s/\r=(none,())/\∀v∈rest,∃y,bF P w s.heap y v) _ ?_ ?_ _ _ ⟨rfl,rfl,hst⟩
  ·rintro x rest r s' ⟨rfl,rfl,hr⟩
   obtain⟨y,hb⟩:=hr x List.mem_cons_self
   refine wpAny_bind (jV hb ?_)
   simp only[Bool.not_true,Bool.false_eq_true,if_false]
   exact wpAny_pure ⟨rfl,rfl,fun v hv=>hr v (List.mem_cons_of_mem _ hv)⟩
  ·rintro r s' ⟨rfl,rfl,_⟩
   exact wpAny_pure q
end
abbrev GP:=List (GK×Value×Value)
def iJ (P:Program)(w:World)(x:GK×Value×Value):DictEntry:=⟨iw P w x.1,x.2.1,x.2.2⟩
def GDict (P:Program)(w:World)(h:Heap)(d:Addr)(xs:GP)(ep:Nat):Prop :=
 ∃o es,h.get? d=some o/\o.ExactDict/\o.data=.dict es ep/\es.toList=xs.map (iJ P w)/\(∀x∈xs,bF P w h x.1 x.2.1)/\(xs.map (·.1)).Nodup
def i8 (xs:GP)(k:GK):Option Value:=(xs.find? fun x=>decide (x.1=k)).map (·.2.2)
section
variable {P:Program}{w:World}{A:Around}{E:Value->Shared->Prop}{s:Shared}{d:Addr}{xs:GP}{ep:Nat}{k:GK}{key v:Value}
theorem GDict.typeIs (hm:GDict P w s.heap d xs ep):s.TypeIs (.ref d) "dict":=let ⟨o,_,ho,hc,_⟩:=hm;⟨o,ho,hc.1⟩
theorem x8 (hn:(xs.map (·.1)).Nodup){i j:Nat}{p q:Value×Value}(hi:xs[i]?=some (k,p))(hj:xs[j]?=some (k,q)):i=j:=by
 have hi':(xs.map (·.1))[i]?=some k:=by rw[List.getElem?_map,hi];rfl
 have hj':(xs.map (·.1))[j]?=some k:=by rw[List.getElem?_map,hj];rfl
 exact (List.getElem?_inj (List.getElem?_eq_some_iff.mp hi').1 hn).mp (hi'.trans hj'.symm)
def iu (f:GK->Int)(x:GK×Value×Value):DictEntry:=⟨f x.1,x.2.1,x.2.2⟩
theorem lc (f:GK->Int){o:Obj}{es}{Q:Option Nat->Shared->Prop}(hu:A.units<cLine)(hkey:bF P w s.heap k key)(ho:s.heap.get? d=some o)(hd:o.data=.dict es ep)(he:es.toList=xs.map (iu f))
  (his:∀x∈xs,bF P w s.heap x.1 x.2.1) (hn:(xs.map (·.1)).Nodup) (hnone:(∀(j:Nat) p,xs[j]?≠some (k,p))->Q none s) (hsome:∀(j:Nat) p,xs[j]?=some (k,p)->Q (some j) s) :
  wpAny (model P w) A (dictFind d key (f k)) Q E s:=by
 have hsz:es.size=xs.length:=by rw[<-Array.length_toList,he,List.length_map]
 have eat:∀j:Nat,es[j]?=(xs[j]?).map (iu f):=fun j=>by rw[<-Array.getElem?_toList,he,List.getElem?_map]
 have haskey:∀(j:Nat) p,xs[j]?=some (k,p)->((es[j]?.map (·.hash)) == some (f k))=true:=by
  intro j p hj
  rw[eat j,hj]
  simp[iu]
 have hmem:∀e∈es,∃x∈xs,e=iu f x:=by
  intro e hin
  have:e∈xs.map (iu f):=he▸Array.mem_toList_iff.mpr hin
  obtain⟨x,hx,rfl⟩:=List.mem_map.mp this
  exact⟨x,hx,rfl⟩
 have hany:¬ (es.any fun e=>e.key == key&&e.hash != f k)=true:=by
  rw[<-Array.any_toList,List.any_eq_true]
  rintro⟨e,hin,hc⟩
  obtain⟨x,hx,rfl⟩:=hmem e (Array.mem_toList_iff.mp hin)
  simp only[iu,Bool.and_eq_true,beq_iff_eq,bne_iff_ne,ne_eq]at hc
  obtain⟨hxa,hne⟩:=hc
  have:=his x hx
  rw[hxa]at this
  exact hne (by rw[pw this hkey])
 have hst:∀v∈(placesWithHash es.size (fun i=>es[i]?.map (·.hash)) (f k)).filterMap (fun i=>es[i]?.map (·.key)),∃y,bF P w s.heap y v:=by
  intro v hv
  obtain⟨i,_,hi⟩:=List.mem_filterMap.mp hv
  cases hei:es[i]? with
  | none=>rw[hei]at hi;cases hi
  | some e =>
   rw[hei]at hi
   obtain rfl:e.key=v:=by simpa using hi
   obtain⟨x,hx,rfl⟩:=hmem e (Array.mem_of_getElem? hei)
   exact⟨x.1,his x hx⟩
 have nokey:(∀j,j<es.size->((es[j]?.map (·.hash)) == some (f k))=false\/∀p,xs[j]?≠some (k,p))->∀(j:Nat) p,xs[j]?≠some (k,p):=fun h j p hj=>by
  have hjl:j<es.size:=by rw[hsz];exact (List.getElem?_eq_some_iff.mp hj).1
  rcases h j hjl with z | z
  ·rw[haskey j p hj]at z;cases z
  ·exact z p hj
 have plain:wpAny (model P w) A (dictWalkPlain d key (f k) es (placesWithHash es.size (fun i=>es[i]?.map (·.hash)) (f k))) Q E s:=by
  refine wpAny_bind ?_
  refine wpAny_forIn_list _
   (fun rest b s'=>s'=s/\b=(none,())/\∃i,rest=(List.range' i (es.size-i)).filter (fun i=>(es[i]?.map (·.hash)) == some (f k))/\i≤es.size/\∀j p,j<i->xs[j]?≠some (k,p)) _ ?_ ?_ _ _
   ⟨rfl,rfl,0,by rw[placesWithHash,List.range_eq_range',Nat.sub_zero],Nat.zero_le _,fun _ _ h=>absurd h (Nat.not_lt_zero _)⟩
  ·rintro x rest b s' ⟨rfl,rfl,i,hr,hi,hno⟩
   obtain⟨hix,hxn,hpx,hskip,hrest⟩:=filter_range'_cons _ _ _ _ _ hr.symm
   have hlt:x<es.size:=by omega
   obtain⟨⟨k',b,v'⟩,hkv⟩:∃y,xs[x]?=some y:=⟨xs[x]'(by rw[<-hsz];exact hlt),List.getElem?_eq_getElem _⟩
   have hib:bF P w s'.heap k' b:=his _ (List.mem_of_getElem? hkv)
   have hex:es[x]?=some ⟨f k',b,v'⟩:=by rw[eat x,hkv];rfl
   have hnext:¬ k'=k->∃i,rest=(List.range' i (es.size-i)).filter (fun i=>(es[i]?.map (·.hash)) == some (f k))/\i≤es.size/\∀j p,j<i->xs[j]?≠some (k,p):=fun hne =>
    ⟨x+1,by rw[hrest];congr 2;omega,hlt,fun j p hji hj=>by
     rcases Nat.lt_or_ge j i with h | h
     ·exact hno j p h hj
     ·rcases Nat.lt_or_ge j x with h' | h'
      ·have:=hskip j h h'
       rw[haskey j p hj]at this
       cases this
      ·have:j=x:=by omega
       subst this
       rw[hkv]at hj
       injection hj with hj
       injection hj with hj
       exact hne hj⟩
   rw[hex]
   dsimp only
   by_cases hh:(f k' == f k)=true
   ·rw[if_pos hh]
    refine wpAny_bind (wpAny_dictEpoch ho hd (wpAny_bind (e7 (x:=k') (y:=k) hu hib hkey (wpAny_bind (wpAny_dictEpoch ho hd ?_)))))
    show wpAny _ _ (if (ep != ep)=true then _ else _) _ E _
    rw[if_neg (by simp)]
    by_cases hkk:k'=k
    ·rw[decide_eq_true hkk]
     subst hkk
     exact wpAny_bind (wpAny_rule (wpAny_pure (wpAny_pure (hsome x _ hkv))))
    ·rw[decide_eq_false hkk]
     exact wpAny_bind (wpAny_rule (wpAny_pure ⟨rfl,rfl,hnext hkk⟩))
   ·rw[if_neg hh]
    refine wpAny_pure ⟨rfl,rfl,hnext ?_⟩
    intro hkk
    rw[hkk]at hh;simp at hh
  ·rintro b s' ⟨rfl,rfl,i,hr,hi,hno⟩
   have hall:∀j,i≤j->j<es.size->((es[j]?.map (·.hash)) == some (f k))=false:=by
    intro j h1 h2
    have:=List.filter_eq_nil_iff.mp hr.symm j (List.mem_range'_1.mpr ⟨h1,by omega⟩)
    simpa using this
   refine wpAny_pure (hnone (nokey fun j hj=>?_))
   rcases Nat.lt_or_ge j i with h | h
   ·exact .inr fun p=>hno j p h
   ·exact .inl (hall j h hj)
 unfold dictFind
 try with_reducible refine wpAny_holding ?_
 refine wpAny_bind (wpAny_dictEntries ho hd ?_)
 have shape:(∃i t,key=.int i t)\/(∃x t,key=.str x t/\k=.inl (.inr x))\/∃a,key=.ref a:=by
  cases k with
  | inl k => rcases aC hkey with ⟨i, t, rfl, e⟩ | ⟨i, t, rfl, e⟩
             · exact .inl ⟨i,t,e⟩
             · exact .inr (.inl ⟨i,t,e,rfl⟩)
  | inr k=>obtain⟨a,e,_⟩:=hkey;exact .inr (.inr ⟨a,e⟩)
 rcases shape with⟨ki,kt,rfl⟩ | ⟨kx,kt,rfl,ek⟩ | ⟨ka,rfl⟩<;>dsimp only
 case' inr.inl =>
  by_cases hstrs:(es.all fun e=>isExactStrKey e.key)=true
  case' neg=>rw[if_neg hstrs]
  case pos =>
   rw[if_pos hstrs]
   subst ek
   have hf1:∀(j:Nat) (e:DictEntry),es[j]?=some e->e.key.isStr kx=true->∃p,xs[j]?=some (Sum.inl (Sum.inr kx),p):=fun j e hej hes=>by
    rw[eat j]at hej
    obtain⟨⟨k',b,v'⟩,hkv,rfl⟩:=Option.map_eq_some_iff.mp hej
    have hib:bF P w s.heap k' b:=his _ (List.mem_of_getElem? hkv)
    have hb:eD (.inr kx) b=true:=by
     have:=(aE P w).strs (.inr kx) kx 0 b (dS kx 0)
     exact this.trans hes
    have ek:k'=Sum.inl (Sum.inr kx):=pw hib (show bF P w s.heap (Sum.inl (Sum.inr kx)) b from hb)
    rw[ek]at hkv
    exact⟨_,hkv⟩
   unfold foundByValue
   cases hf:es.findIdx? (fun e=>e.key.isStr kx) with
   | none =>
    refine wpAny_pure (hnone fun j p hj=>?_)
    have hlt:j<es.size:=by rw[hsz];exact (List.getElem?_eq_some_iff.mp hj).1
    have:=Array.findIdx?_eq_none_iff.mp hf es[j] (Array.getElem_mem hlt)
    have h2:es[j]?=some es[j]:=Array.getElem?_eq_getElem hlt
    rw[eat j,hj]at h2
    have e3:es[j].key=p.1:=by rw[<-Option.some.inj h2];rfl
    have hib:bF P w s.heap (Sum.inl (Sum.inr kx)) p.1:=his _ (List.mem_of_getElem? hj)
    rw[e3,<-(aE P w).strs (.inr kx) kx 0 p.1 (dS kx 0),show (aE P w).is (.inr kx) p.1=true from hib]at this
    cases this
   | some i =>
    obtain⟨hlt,hi,_⟩:=Array.findIdx?_eq_some_iff_getElem.mp hf
    have hei:es[i]?=some es[i]:=Array.getElem?_eq_getElem hlt
    obtain⟨p,hp⟩:=hf1 i _ hei hi
    have hib:bF P w s.heap (Sum.inl (Sum.inr kx)) p.1:=his _ (List.mem_of_getElem? hp)
    have e3:es[i].key=p.1:=by
     rw[eat i,hp]at hei
     rw[<-Option.some.inj hei];rfl
    simp only[Array.getElem?_eq_getElem hlt]
    rw[e3]
    refine wpAny_bind (wpAny_dictEpoch ho hd (wpAny_bind (e7 hu hib hkey (wpAny_bind (wpAny_dictEpoch ho hd ?_)))))
    show wpAny _ _ (if (ep != ep)=true then _ else _) _ E _
    rw[if_neg (by simp),decide_eq_true rfl]
    exact wpAny_bind (wpAny_rule (wpAny_pure (hsome i p hp)))
 all_goals refine wpAny_ite_split (fun hall=>?_) (fun hall=>?_)
 all_goals first | exact plain | skip
 case' inr.inr=>refine wpAny_ite_split (fun h=>absurd h hany) (fun _=>?_)
 all_goals refine wpAny_ite_split (fun _=>wpAny_bind (wpAny_pure ?_)) (fun _=>wpAny_bind (qW hkey hst ?_))
 all_goals
  rw[if_neg (by simp)]
  refine wpAny_bind ?_
  refine wpAny_forIn_list _
   (fun rest b s2=>s2=s/\∃i hit,b=(none,hit)/\rest=(List.range' i (es.size-i)).filter (fun i=>(es[i]?.map (·.hash)) == some (f k))/\i≤es.size /\
    ((hit=none/\∀j p,j<i->xs[j]?≠some (k,p))\/∃j p,hit=some j/\j<i/\xs[j]?=some (k,p))) _ ?_ ?_ _ _
   ⟨rfl,0,none,rfl,by rw[placesWithHash,List.range_eq_range',Nat.sub_zero],Nat.zero_le _,.inl ⟨rfl,fun _ _ h=>absurd h (Nat.not_lt_zero _)⟩⟩
  ·rintro x rest b s' ⟨rfl,i,hit,rfl,hr,hi,hH⟩
   obtain⟨hix,hxn,hpx,hskip,hrest⟩:=filter_range'_cons _ _ _ _ _ hr.symm
   have hlt:x<es.size:=by omega
   have hrest':rest=(List.range' (x+1) (es.size-(x+1))).filter (fun i=>(es[i]?.map (·.hash)) == some (f k)):=by rw[hrest];congr 2;omega
   obtain⟨⟨k',b,v'⟩,hkv⟩:∃y,xs[x]?=some y:=⟨xs[x]'(by rw[<-hsz];exact hlt),List.getElem?_eq_getElem _⟩
   have hib:bF P w s'.heap k' b:=his _ (List.mem_of_getElem? hkv)
   have hex:es[x]?=some ⟨f k',b,v'⟩:=by rw[eat x,hkv];rfl
   have hHx:(hit=none/\∀j p,j<x->xs[j]?≠some (k,p))\/∃j p,hit=some j/\j<x/\xs[j]?=some (k,p):=by
    rcases hH with⟨h0,hno⟩ | ⟨j,p,h1,hji,hj⟩
    ·refine .inl ⟨h0,fun j p hjx hj=>?_⟩
     rcases Nat.lt_or_ge j i with h | h
     ·exact hno j p h hj
     ·have:=hskip j h hjx
      rw[haskey j p hj]at this
      exact absurd this (by decide)
    ·exact .inr ⟨j,p,h1,by omega,hj⟩
   have hstay:¬ k'=k->((hit=none/\∀j p,j<x+1->xs[j]?≠some (k,p))\/∃j p,hit=some j/\j<x+1/\xs[j]?=some (k,p)):=by
    intro hne
    rcases hHx with⟨h0,hno⟩ | ⟨j,p,h1,hjx,hj⟩
    ·refine .inl ⟨h0,fun j p hjx hj=>?_⟩
     rcases Nat.lt_or_ge j x with h | h
     ·exact hno j p h hj
     ·have hjx':j=x:=by omega
      subst hjx'
      rw[hkv]at hj
      injection hj with hj
      injection hj with hj
      exact hne hj
    ·exact .inr ⟨j,p,h1,by omega,hj⟩
   rw[hex]
   dsimp only
   by_cases hh:(f k' == f k)=true
   ·rw[if_pos hh]
    refine wpAny_bind (wpAny_dictEpoch ho hd (wpAny_bind (e7 (x:=k') (y:=k) hu hib hkey (wpAny_bind (wpAny_dictEpoch ho hd ?_)))))
    show wpAny _ _ (if (ep != ep)=true then _ else _) _ E _
    rw[if_neg (by simp)]
    by_cases hkk:k'=k
    ·rw[decide_eq_true hkk]
     rw[hkk]at hkv
     rcases hHx with⟨rfl,_⟩ | ⟨j,p,_,hjx,hj⟩
     ·rw[if_pos rfl]
      simp only[Option.isSome_none,Bool.false_eq_true,if_false]
      refine wpAny_bind (wpAny_rule (wpAny_ite_split (fun _=>wpAny_pure (wpAny_pure (hsome x _ hkv))) (fun _=>wpAny_pure ⟨rfl,x+1,some x,rfl,hrest',hlt,.inr ⟨x,_,rfl,Nat.lt_succ_self x,hkv⟩⟩)))
     ·exact absurd (x8 hn hj hkv) (by omega)
    ·rw[decide_eq_false hkk]
     simp only[Bool.false_eq_true,if_false]
     refine wpAny_bind (wpAny_rule ?_)
     first | rw[if_neg (by simp)] | skip
     exact wpAny_pure ⟨rfl,x+1,hit,rfl,hrest',hlt,hstay hkk⟩
   ·rw[if_neg hh]
    refine wpAny_pure ⟨rfl,x+1,hit,rfl,hrest',hlt,hstay ?_⟩
    intro hkk
    rw[hkk]at hh;simp at hh
  ·rintro b s' ⟨rfl,i,hit,rfl,hr,hi,hH⟩
   have hall:∀j,i≤j->j<es.size->((es[j]?.map (·.hash)) == some (f k))=false:=by
    intro j h1 h2
    have:=List.filter_eq_nil_iff.mp hr.symm j (List.mem_range'_1.mpr ⟨h1,by omega⟩)
    simpa using this
   rcases hH with⟨rfl,hno⟩ | ⟨j,p,rfl,_,hj⟩
   ·refine wpAny_pure (hnone (nokey fun j hj=>?_))
    rcases Nat.lt_or_ge j i with h | h
    ·exact .inr fun p=>hno j p h
    ·exact .inl (hall j h hj)
   ·exact wpAny_pure (hsome j p hj)
theorem pJ {o:Obj}{es}{Q:Option Nat->Shared->Prop}(hu:A.units<cLine)(hkey:bF P w s.heap k key)(ho:s.heap.get? d=some o)(hd:o.data=.dict es ep)(he:es.toList=xs.map (iJ P w))
  (his:∀x∈xs,bF P w s.heap x.1 x.2.1) (hn:(xs.map (·.1)).Nodup) (hnone:(∀(j:Nat) p,xs[j]?≠some (k,p))->Q none s) (hsome:∀(j:Nat) p,xs[j]?=some (k,p)->Q (some j) s) :
  wpAny (model P w) A (dictFind d key (iw P w k)) Q E s:=lc (iw P w) hu hkey ho hd he his hn hnone hsome
theorem cV:∀{xs:GP} (_:(xs.map (·.1)).Nodup) {i:Nat} {p:Value×Value},xs[i]?=some (k,p)->i8 xs k=some p.2
 | [],_,_,_,hx=>by simp at hx
 | x::r,hn,0,p,hx=>by
  simp only[List.getElem?_cons_zero,Option.some.injEq]at hx
  subst hx;simp[i8]
 | x::r,hn,i+1,p,hx=>by
  rw[List.map_cons,List.nodup_cons]at hn
  simp only[List.getElem?_cons_succ]at hx
  have hmem:k∈r.map (·.1):=List.mem_map.mpr ⟨(k,p),List.mem_of_getElem? hx,rfl⟩
  have hne:¬ x.1=k:=fun e=>hn.1 (e▸hmem)
  have:=cV hn.2 hx
  simpa[i8,List.find?_cons,hne] using this
theorem eC (h:∀(j:Nat) p,xs[j]?≠some (k,p)):i8 xs k=none:=by
 have:(xs.find? fun x=>decide (x.1=k))=none:=by
  rw[List.find?_eq_none]
  intro x hx hk
  obtain⟨j,hj⟩:=List.mem_iff_getElem?.mp hx
  have hk':x.1=k:=of_decide_eq_true hk
  exact h j x.2 (by rw[hj,<-hk'])
 simp[i8,this]
theorem tS {Q:Option Value->Shared->Prop}(hu:A.units<cLine)(hkey:bF P w s.heap k key)(hm:GDict P w s.heap d xs ep)(q:Q (i8 xs k) { s with toks:=s.toks+ce k }):wpAny (model P w) A (dictGet d key) Q E s:=by
 obtain⟨o,es,ho,_,hd,he,his,hn⟩:=hm
 unfold dictGet
 try with_reducible refine wpAny_holding ?_
 refine wpAny_bind (ir hu hkey (wpAny_bind (pJ (s:={ s with toks:=s.toks+ce k }) hu hkey ho hd he his hn ?_ ?_)))
 ·intro hno
  rw[eC hno]at q
  exact wpAny_pure q
 ·intro j p hj
  rw[cV hn hj]at q
  refine wpAny_bind (wpAny_dictEntries (s:={ s with toks:=s.toks+ce k }) ho hd ?_)
  rw[<-Array.getElem?_toList,he,List.getElem?_map,hj]
  exact wpAny_pure q
def jb (xs:GP)(k:GK)(key v:Value):GP:=if (i8 xs k).isSome=true then xs.map fun x=>if x.1=k then (x.1,x.2.1,v) else x else xs++[(k,key,v)]
theorem mG (xs:GP)(k:GK)(v:Value):(xs.map fun x=>if x.1=k then (x.1,x.2.1,v) else x).map (·.1)=xs.map (·.1):=by
 rw[List.map_map]
 refine List.map_congr_left fun x _=>?_
 show (if x.1=k then (x.1,x.2.1,v) else x).1=x.1
 split<;>rfl
theorem jX (v:Value):∀{xs:GP} {j:Nat} {p:Value×Value},(xs.map (·.1)).Nodup->xs[j]?=some (k,p)->(xs.map (iJ P w)).modify j (fun e=>{ e with val:=v })=(xs.map fun x=>if x.1=k then (x.1,x.2.1,v) else x).map (iJ P w)
 | [],_,_,_,hj=>by simp at hj
 | x::r,0,p,hn,hj=>by
  rw[List.map_cons,List.nodup_cons]at hn
  simp only[List.getElem?_cons_zero,Option.some.injEq]at hj
  subst hj
  have er:(r.map fun x=>if x.1=k then (x.1,x.2.1,v) else x)=r:=by
   conv=>rhs;rw[<-List.map_id r]
   refine List.map_congr_left fun x hx=>?_
   rw[if_neg fun e:x.1=k=>hn.1 (e▸List.mem_map.mpr ⟨x,hx,rfl⟩)]
   rfl
  rw[List.map_cons,List.map_cons,er,if_pos rfl]
  rfl
 | x::r,j+1,p,hn,hj=>by
  rw[List.map_cons,List.nodup_cons]at hn
  simp only[List.getElem?_cons_succ]at hj
  have hmem:k∈r.map (·.1):=List.mem_map.mpr ⟨(k,p),List.mem_of_getElem? hj,rfl⟩
  have ih:=jX v hn.2 hj
  rw[List.map_cons,List.map_cons,List.map_cons,if_neg fun e:x.1=k=>hn.1 (e▸hmem),<-ih]
  rfl
theorem uz {Q:Unit->Shared->Prop}(hu:A.units<cLine)(hkey:bF P w s.heap k key)(hm:GDict P w s.heap d xs ep)(hsz:xs.length≤sizeLine)
  (hQ:∀h' ep',((i8 xs k).isSome=true->ep'=ep)->GDict P w h' d (jb xs k key v) ep'->Heap.SameBut d s.heap h'->Q () { s with heap:=h',toks:=s.toks+ce k }):wpAny (model P w) A (dictSet d key v) Q E s:=by
 obtain⟨o,es,ho,hc,hd,he,his,hn⟩:=hm
 have hes:es.size=xs.length:=by rw[<-Array.length_toList,he,List.length_map]
 unfold dictSet
 try with_reducible refine wpAny_holding ?_
 refine wpAny_bind (ir hu hkey ?_)
 unfold dictSetHashed
 try with_reducible refine wpAny_holding ?_
 refine wpAny_bind (pJ (s:={ s with toks:=s.toks+ce k }) hu hkey ho hd he his hn ?_ ?_)
 ·intro hno
  have hnot:k∉xs.map (·.1):=fun hm=>by
   obtain⟨x,hx,e⟩:=List.mem_map.mp hm
   obtain⟨j,hj⟩:=List.mem_iff_getElem?.mp hx
   exact hno j x.2 (by rw[hj,<-e])
  have ep1:jb xs k key v=xs++[(k,key,v)]:=by unfold jb;rw[if_neg (by rw[eC hno];exact Bool.false_ne_true)]
  rw[ep1]at hQ
  refine wpAny_bind (wpAny_rule (wpAny_updateDictKeys (hz:=by omega) (s:={ s with toks:=s.toks+ce k }) ho hd (hQ _ (ep+1) (fun z=>by rw[eC hno]at z;cases z) ⟨_,_,Heap.get?_update_self _ ho (Obj.isFreed_of_dict (Obj.data_mapDictKeys hd _)),
   hc.mapDictKeys _,Obj.data_mapDictKeys hd _,?_,?_,?_⟩ (Heap.SameBut.update ..))))
  ·simp[he,iJ]
  ·intro x hx
   rcases List.mem_append.mp hx with hx | hx
   ·exact fZ (his x hx) ho hd (Heap.SameBut.update ..)
   ·simp only[List.mem_singleton]at hx
    subst hx
    exact fZ hkey ho hd (Heap.SameBut.update ..)
  ·rw[List.map_append,List.nodup_append]
   refine⟨hn,by simp,?_⟩
   intro x hx y hy
   simp only[List.map_cons,List.map_nil,List.mem_singleton]at hy
   subst hy
   exact fun e=>hnot (e▸hx)
 ·intro j p hj
  have ep1:jb xs k key v=xs.map fun x=>if x.1=k then (x.1,x.2.1,v) else x:=by unfold jb;rw[if_pos (by rw[cV hn hj];rfl)]
  rw[ep1]at hQ
  refine wpAny_bind (wpAny_rule (wpAny_bind (wpAny_updateDict (s:={ s with toks:=s.toks+ce k }) ho hd (wpAny_point (hQ _ ep (fun _=>rfl) ⟨_,_,Heap.get?_update_self _ ho (Obj.isFreed_of_dict (Obj.data_mapDict hd _)),
   hc.mapDict _,Obj.data_mapDict hd _,?_,?_,?_⟩ (Heap.SameBut.update ..))))))
  ·have:=jX (P:=P) (w:=w) v hn hj
   rw[<-he]at this
   obtain⟨l⟩:=es
   simpa using this
  ·intro x hx
   obtain⟨y,hy,rfl⟩:=List.mem_map.mp hx
   split<;>exact fZ (his y hy) ho hd (Heap.SameBut.update ..)
  ·rw[mG];exact hn
theorem uU {p:Value}{Q:Value->Shared->Prop}(hu:A.in1.units<cLine)(hkey:bF P w s.heap k key)(hm:GDict P w s.heap d xs ep)(hp:i8 xs k=some p)
  (h:Q p { s with toks:=s.toks+ce k }):wpAny (model P w) A (getItem (.ref d) key) Q E s:=by
 unfold getItem
 try with_reducible refine wpAny_holding ?_
 refine wpAny_bind (wpAny_sequenceKey hm.typeIs (by decide) ?_)
 refine wpAny_bind (wpAny_callSpecial?_slot (name:=Str.ofString "__getitem__") hm.typeIs slot_dict_getitem
  (wpAny_call_entry slot_dict_getitem hm.typeIs entry_dict_getitem ?_ (args_dict_getitem _ _)))
 show wpAny _ _ (dictGet d key>>=_) _ _ s
 refine wpAny_bind (tS hu hkey hm ?_)
 rw[hp]
 exact wpAny_pure ⟨p,rfl,wpAny_pure h⟩
theorem nS {Q:Unit->Shared->Prop}(hu:A.in1.units<cLine)(hkey:bF P w s.heap k key)(hm:GDict P w s.heap d xs ep)(hsz:xs.length≤sizeLine)
  (hQ:∀h' ep',((i8 xs k).isSome=true->ep'=ep)->GDict P w h' d (jb xs k key v) ep'->Heap.SameBut d s.heap h'->Q () { s with heap:=h',toks:=s.toks+ce k }):wpAny (model P w) A (setItem (.ref d) key v) Q E s:=by
 unfold setItem
 try with_reducible refine wpAny_holding ?_
 refine wpAny_bind (wpAny_sequenceKey hm.typeIs (by decide) ?_)
 refine wpAny_bind (wpAny_callSpecial?_slot (name:=Str.ofString "__setitem__") hm.typeIs slot_dict_setitem
  (wpAny_call_entry slot_dict_setitem hm.typeIs entry_dict_setitem ?_ (args_dict_setitem _ _ _)))
 show wpAny _ _ (Builtin.Dict.notOrdered "__setitem__" ⟨[.ref d,key,v],[]⟩>>=_) _ _ s
 refine wpAny_bind (wpAny_notOrdered_dict hm.typeIs ?_)
 show wpAny _ _ (dictSet d key v>>=_) _ _ s
 exact wpAny_bind (uz hu hkey hm hsz fun h' ep' e' hm' hs'=>wpAny_pure ⟨.none,rfl,wpAny_pure (hQ h' ep' e' hm' hs')⟩)
theorem jv (hd:(d == sysModules)=false):MeetsIn P w (Builtin.«dict.get» ⟨[.ref d,key],[]⟩) (fun A R s=>A.in1.units<cLine/\∃k xs ep,bF P w s.heap k key/\GDict P w s.heap d xs ep /\
   R (.ok (.ret ((i8 xs k).getD .none))) { s with toks:=s.toks+ce k }) :=
 .of_wp fun A R s ⟨hu,k,xs,ep,hkey,hm,h⟩=>by
  show wpAny _ _ (dictGet d key>>=_) _ _ s
  refine wpAny_bind (tS hu hkey hm ?_)
  cases hf:i8 xs k with
  | some v =>
   rw[hf]at h
   exact wpAny_pure ⟨v,rfl,h⟩
  | none =>
   rw[hf]at h
   show wpAny _ _ (Builtin.Dict.missed d key>>=_) _ _ _
   exact wpAny_bind (wpAny_missed_other hd (wpAny_pure ⟨.none,rfl,h⟩))
end
end L2
namespace L2
open PySem PySem.Spec PyProof.Rows
def KeyV (K:PySem.W.Frag)(H:Hp):GK->V->Prop
 | .inl k,v=>v=kV k
 | .inr ks,v=>∃b,v=.ref b/\SqT K H b (ks.map kV)
abbrev GV:=List (GK×V×V)
def ef (p:GK×V×V)(x:GK×Value×Value):Prop:=p.1=x.1/\RelV p.2.1 x.2.1/\RelV p.2.2 x.2.2
def aN (P:Program)(w:World)(a:Addr)(kvs:GV)(ep:Nat):HO :=
 .ext fun h=>∃o es xs,h.get? a=some o/\o.ExactDict/\o.data=.dict es ep/\es.toList=xs.map (iJ P w)/\Paired ef kvs xs
def GAt (P:Program)(w:World)(K:PySem.W.Frag)(H:Hp)(a:Addr)(kvs:GV)(ep:Nat):Prop :=
 H a=some (aN P w a kvs ep)/\(kvs.map (·.1)).Nodup/\(a == sysModules)=false/\kvs.length≤100000/\∀p∈kvs,KeyV K H p.1 p.2.1
def bg (kvs:GV)(k:GK):Option V:=(kvs.find? fun x=>decide (x.1=k)).map (·.2.2)
def bh (kvs:GV)(k:GK)(y v:V):GV:=if (bg kvs k).isSome=true then kvs.map fun x=>if x.1=k then (x.1,x.2.1,v) else x else kvs++[(k,y,v)]
section
variable {X:Cx}{pins:List (Addr×Obj)}{σ:St}{H:Hp}{s:Shared}{a b:Addr}{kvs:GV}{xs:GP}{k:GK}{ep:Nat}
theorem eu {y:V}{u:Value}(I:Inv X pins σ H s)(h:KeyV X.K H k y)(r:RelV y u):bF X.prog X.w s.heap k u:=by
 cases k with
 | inl k =>
  obtain rfl:y=kV k:=h
  cases k with
  | inl i=>obtain⟨t,rfl⟩:=r;exact ix i t
  | inr x=>obtain⟨t,rfl⟩:=r;exact dS x t
 | inr ks =>
  obtain⟨b,rfl,hb⟩:=h
  obtain rfl:u=Value.ref b:=r
  obtain⟨its,r,⟨o,h1,h2,n,h3⟩,_⟩:=I.tuple hb
  exact⟨b,rfl,o,its.toArray,n,h1,h2,h3,by simpa using fe (ks:=ks) r⟩
theorem gD:∀{kvs:GV} {xs:GP},Paired ef kvs xs->∀x∈xs,∃p∈kvs,ef p x
 | _,_,.nil,x,hx=>by cases hx
 | _,_,.cons r t,x,hx=>by
  rcases List.mem_cons.mp hx with rfl | hx
  ·exact⟨_,List.mem_cons_self,r⟩
  ·obtain⟨p,hp,h⟩:=gD t x hx;exact⟨p,List.mem_cons_of_mem _ hp,h⟩
theorem iy:∀{kvs:GV} {xs:GP},Paired ef kvs xs->xs.map (·.1)=kvs.map (·.1)
 | _,_,.nil=>rfl
 | _,_,.cons r t=>by rw[List.map_cons,List.map_cons,iy t,r.1]
theorem cO:∀{kvs:GV} {xs:GP},Paired ef kvs xs->∀k,(bg kvs k=none/\i8 xs k=none)\/∃v u,bg kvs k=some v/\i8 xs k=some u/\RelV v u
 | _,_,.nil,k=>.inl ⟨rfl,rfl⟩
 | _,_,.cons (a:=p) (b:=x) r t,k=>by
  unfold bg i8
  rw[List.find?_cons,List.find?_cons,<-r.1]
  by_cases e:p.1=k
  ·rw[decide_eq_true e]
   exact .inr ⟨_,_,rfl,rfl,r.2.2⟩
  ·rw[decide_eq_false e]
   exact cO t k
theorem nq {kvs:GV}{xs:GP}(r:Paired ef kvs xs)(k:GK):(i8 xs k).isSome=(bg kvs k).isSome:=by
 rcases cO r k with⟨e1,e2⟩ | ⟨v0,u0,e1,e2,_⟩<;>rw[e1,e2]<;>rfl
theorem jr:∀{kvs:GV} {xs:GP} {p x},Paired ef kvs xs->ef p x->Paired ef (kvs++[p]) (xs++[x])
 | _,_,_,_,.nil,r=>.cons r .nil
 | _,_,_,_,.cons r t,r2=>.cons r (jr t r2)
theorem jM {v:V}{u:Value}(hv:RelV v u):∀{kvs:GV} {xs:GP},Paired ef kvs xs->Paired ef (kvs.map fun x=>if x.1=k then (x.1,x.2.1,v) else x) (xs.map fun x=>if x.1=k then (x.1,x.2.1,u) else x)
 | _,_,.nil=>.nil
 | _,_,.cons (a:=p) (b:=x) r t=>by
  rw[List.map_cons,List.map_cons]
  refine .cons ?_ (jM hv t)
  rw[<-r.1]
  by_cases e:p.1=k
  ·rw[if_pos e,if_pos e];exact⟨rfl,r.2.1,hv⟩
  ·rw[if_neg e,if_neg e];exact r
theorem jz {y v:V}{iv u:Value}(r:Paired ef kvs xs)(hy:RelV y iv)(hv:RelV v u):Paired ef (bh kvs k y v) (jb xs k iv u):=by
 unfold bh jb
 rcases cO r k with⟨e1,e2⟩ | ⟨v0,u0,e1,e2,_⟩
 ·rw[e1,e2,if_neg (by decide),if_neg (by decide)];exact jr r ⟨rfl,hy,hv⟩
 ·rw[e1,e2];exact jM hv r
theorem bP (I:Inv X pins σ H s)(h:GAt X.prog X.w X.K H a kvs ep):∃xs,GDict X.prog X.w s.heap a xs ep/\Paired ef kvs xs:=by
 obtain⟨h1,h2,h3,h4,h5⟩:=h
 obtain⟨⟨o,es,xs,g1,g2,g3,g4,g5⟩,_⟩:=(show ObjOk X.prog X.w H s.heap a (aN X.prog X.w a kvs ep) from I.hok a _ h1)
 refine⟨xs,⟨o,es,g1,g2,g3,g4,fun x hx=>?_,by rw[iy g5];exact h2⟩,g5⟩
 obtain⟨p,hp,r1,r2,_⟩:=gD g5 x hx
 rw[<-r1]
 exact eu I (h5 p hp) r2
theorem iH (h':Heap)(xs:GP)(r:Paired ef kvs xs)(g:GDict X.prog X.w h' a xs ep)(H':Hp):ObjOk X.prog X.w H' h' a (aN X.prog X.w a kvs ep):=by
 obtain⟨o,es,g1,g2,g3,g4,_⟩:=g
 exact⟨⟨o,es,xs,g1,g2,g3,g4,r⟩,⟨o,g1⟩,fun h1 h2 ⟨o,es,xs,g1,g2⟩ k=>⟨o,es,xs,k o g1,g2⟩⟩
end
section
variable {X:Cx}{K:PySem.W.Frag}{P:Program}{w:World}
def u9 (P:Program)(w:World):TE:=fun _ H Q=>∀p,H p=none->(p == sysModules)=false->Q (.ref p) (upd H p (aN P w p [] 0))
theorem eB {pos:Pos}(hP:X.prog=P:=by rfl)(hw:X.w=w:=by rfl):JE X (.Dict [] [] pos) (u9 P w):=by
 refine .mk ?_
 subst hP hw
 exact fun pins s σ H Q I h=>wpAny_Dict_empty ⟨.ref s.heap.objs.size,_,I.laid (a:=s.heap.objs.size) (o:=aN X.prog X.w s.heap.objs.size [] 0) (t':=s.toks) (fun _ _ q=>Heap.get?_push_of_some _ q) (Nat.le_refl _)
  (iH _ [] .nil ⟨_,#[],Heap.get?_push_size _ rfl,⟨rfl,rfl,rfl⟩,rfl,rfl,(fun _ hx=>by cases hx),List.nodup_nil⟩ _),rfl,h _ (I.hok.fresh (Nat.le_refl _)) (beq_eq_false_iff_ne.mpr (Ne.symm (Nat.ne_of_lt I.big)))⟩
def uD (P:Program)(w:World)(K:PySem.W.Frag):R2:=fun x y H Q=>(∃a kvs ep k v,x=.ref a/\GAt P w K H a kvs ep/\KeyV K H k y/\bg kvs k=some v/\Q v H)\/yB K w x y H Q
theorem aA (hu:X.A.units+64<cLine)(hK:X.K=K:=by rfl)(hP:X.prog=P:=by rfl)(hw:X.w=w:=by rfl):Irr (tq X (uD P w K)):=by
 refine .mk ?_
 subst hK hP hw
 intro value slice pins s σ H x y v u Q I rx ry h hs
 rcases h with⟨a,kvs,ep,k,z,rfl,h1,h2,h3,q⟩ | h
 ·obtain rfl:v=Value.ref a:=rx
  obtain⟨xs,g,r⟩:=bP I h1
  rcases cO r k with⟨e1,_⟩ | ⟨z',p,e1,e2,rv⟩
  ·rw[e1]at h3;cases h3
  ·rw[e1]at h3
   cases h3
   exact tail_any g.typeIs slot_dict_getitem.lookup (uU (show X.A.units+1<cLine by omega) (eu I h2 ry) g e2 ⟨z,H,I.tok _,rv,q⟩) hs
 ·exact (dX hu rfl rfl).out value slice pins s σ H _ _ v u Q I rx ry h hs
def x0 (P:Program)(w:World)(K:PySem.W.Frag)(td ty tv:TE):TS:=fun D σ H=>tv σ H fun v H1=>td σ H1 fun x H2=>ty σ H2 fun y H3=>match x with
 | .ref a=>∃kvs ep k,GAt P w K H3 a kvs ep/\KeyV K H3 k y/\∀ep',((bg kvs k).isSome=true->ep'=ep)->D.nx σ (upd H3 a (aN P w a (bh kvs k y v) ep'))
 | _=>False
theorem eA {o i value:Expr}{pos pos':Pos}{td ty tv:TE}(hu:X.A.units+64<cLine)(ho:JE X o td)(hi:JE X i ty)(hv:JE X value tv)(hK:X.K=K:=by rfl)(hP:X.prog=P:=by rfl)(hw:X.w=w:=by rfl)(hs:swapsWith value (some (.Subscript o i pos')) pos.line X.env=pure false:=by rfl) :
  JS X (.Assign [.Subscript o i pos'] value pos) (x0 P w K td ty tv):=by
 refine .mk ?_
 subst hK hP hw
 intro pins s σ H D I h
 refine wpAny_Assign_Subscript (aS (hv.out pins s σ H _ I h) fun r s1 ⟨v,H1,I1,rv,q1⟩=>aS (ho.out pins s1 σ H1 _ I1 q1) fun u s2 ⟨x,H2,I2,rx,q2⟩=>aS (hi.out pins s2 σ H2 _ I2 q2) fun iv s3 ⟨y,H3,I3,ry,q3⟩=>?_) hs
 dsimp only at q3
 cases x with
 | ref a =>
  obtain⟨kvs,ep,k,h1,h2,q⟩:=q3
  obtain rfl:u=Value.ref a:=rx
  obtain⟨xs,g,rl⟩:=bP I3 h1
  have hl:=h1.2.2.2.1
  have hb:(100000:Nat)<sizeLine:=by rw[sizeLine_eq];decide
  refine nS (show X.A.units+1<cLine by omega) (eu I3 h2 ry) g (by rw[<-rl.length];omega) fun h' ep' he' dd' hs=>?_
  obtain⟨o',_,ho',_⟩:=id dd'
  exact⟨σ,_,lw I3 (by rw[h1.1];exact True.intro) hs ⟨o',ho'⟩ (iH h' _ (jz rl ry rv) dd' _),q ep' fun z=>he' (by rw[nq rl];exact z)⟩
 | _=>exact q3.elim
def qo (P:Program)(w:World)(K:PySem.W.Frag):V->List V->Hp->VK->Prop:=fun x vs H Q=>match x,vs with
 | .ref a,[y]=>∃kvs ep k,GAt P w K H a kvs ep/\KeyV K H k y/\Q ((bg kvs k).getD .non) H
 | _,_=>False
theorem vN (hu:X.A.units+64<cLine)(hK:X.K=K:=by rfl)(hP:X.prog=P:=by rfl)(hw:X.w=w:=by rfl):Irr (nZ X "dict.get" (qo P w K)):=by
 refine .mk ?_
 subst hK hP hw
 intro pins s σ H x xs v us Q I rx rs h
 unfold qo at h
 split at h
 ·rename_i a y
  obtain⟨kvs,ep,k,h1,h2,q⟩:=h
  obtain rfl:v=Value.ref a:=rx
  obtain⟨u,rfl,ry⟩:=eV rs
  obtain⟨xs,g,rl⟩:=bP I h1
  refine call_meetsIn PySem.F.slot_dict_get g.typeIs PySem.F.entry_dict_get (PySem.F.args_dict_get_2 _ _) (jv h1.2.2.1) ⟨show X.A.units+1<cLine by omega,k,xs,ep,eu I h2 ry,g,?_⟩
  rcases cO rl k with⟨e1,e2⟩ | ⟨z',p,e1,e2,rv⟩
  ·rw[e1]at q
   rw[e2]
   exact⟨.non,H,I.tok _,rfl,q⟩
  ·rw[e1]at q
   rw[e2]
   exact⟨z',H,I.tok _,rv,q⟩
 ·exact h.elim
end
end L2
namespace L2
open PySem PySem.Spec PyProof.Rows
section
variable {P:Program}{w:World}{A:Around}{E:Value->Shared->Prop}{s:Shared}{d it:Addr}{xs:GP}{ep i:Nat}
theorem GDict.size {h:Heap}(hm:GDict P w h d xs ep):∃o es,h.get? d=some o/\o.data=.dict es ep/\es.size=xs.length/\∀j:Nat,es[j]?=(xs[j]?).map (iJ P w):=by
 obtain⟨o,es,ho,_,hd,he,_⟩:=hm
 exact⟨o,es,ho,hd,by rw[<-Array.length_toList,he,List.length_map],fun j=>by rw[<-Array.getElem?_toList,he,List.getElem?_map]⟩
end
section
variable {X:Cx}{K:PySem.W.Frag}{P:Program}{w:World}{tg:Expr}
end
section
variable {X:Cx}{K:PySem.W.Frag}{P:Program}{w:World}
theorem kT {d:Addr}(hd:(d == sysModules)=false):MeetsIn P w (Builtin.«dict.__len__» ⟨[.ref d],[]⟩) (fun _ R s=>∃xs ep,GDict P w s.heap d xs ep/\R (.ok (.ret (.int xs.length s.toks))) { s with toks:=s.toks+1 }) :=
 .of_wp fun A R s ⟨xs,ep,hm,h⟩=>by
  obtain⟨o,es,ho,hdat,hsz,_⟩:=hm.size
  show wpAny _ _ (dictSize d>>=_) _ _ s
  unfold dictSize
  refine wpAny_bind (wpAny_bind (wpAny_dictEntries ho hdat (wpAny_pure ?_)))
  show wpAny _ _ (Builtin.Dict.pendingCount d>>=_) _ _ s
  refine wpAny_bind (wpAny_pendingCount_other hd ?_)
  refine wpAny_ret_mkInt ?_
  rw[Nat.add_zero,hsz];exact h
end
end L2
namespace L2
open PySem PySem.Spec PyProof.Rows Rg
theorem jA:∀{ns:List Str} {us:List Value},Vals (ns.map V.str) us->StrsAre us ns
 | [],_,.nil=>.nil
 | n::r,_,.cons ⟨t,e⟩ h=>by subst e;exact .cons n t (jA h)
section
variable {prog:Program}{w:World}{A:Around}{E:Value->Shared->Prop}{s:Shared}
end
section
variable {prog:Program}{w:World}{A:Around}{R:Result->Shared->Prop}{I:Addr}{fp wr:List Addr}{G:Array GenState->Array GenState->Prop}{n:Nat}{P:Nat->Value->Prop}{St:Nat->Shared->Prop}
end
section
variable {prog:Program}{w:World}{A:Around}{E:Value->Shared->Prop}{s:Shared}
end
section
variable {prog:Program}{w:World}{A:Around}{E:Value->Shared->Prop}{s:Shared}
end
section
variable {prog:Program}{w:World}{A:Around}{E:Value->Shared->Prop}{s:Shared}
end
section
variable {X:Cx}{K:PySem.W.Frag}{P:Program}{w:World}
end
end L2
namespace L2
open PySem PySem.Spec PyProof.Rows Rg
section
variable {prog:Program}{w:World}{A:Around}{E:Value->Shared->Prop}{s:Shared}{T:String}{r d:Addr}{n:Nat}{P:Nat->Value->Prop}{OK:Heap->Prop}
end
section
variable {X:Cx}{K:PySem.W.Frag}{P:Program}{w:World}
def xt (P:Program)(w:World)(K:PySem.W.Frag):List V->Hp->VK->Prop:=fun xs H Q=>(∃a kvs ep,xs=[.ref a]/\GAt P w K H a kvs ep/\Q (.int kvs.length) H)\/(∃a kvs,xs=[V.ref a]/\H a=some (.dK kvs)/\Q (.int kvs.length) H)\/rV K xs H Q
theorem nX {A:Around}{E:Value->Shared->Prop}{s:Shared}{d:Addr}{xs:GP}{ep:Nat}{Q:Value->Shared->Prop}(hd:(d == sysModules)=false)(hm:GDict P w s.heap d xs ep)(hfit:(xs.length:Int)<2 ^ 63)
  (h:Q (.int xs.length (s.toks+1)) { s with toks:=s.toks+1+1 }):wpAny (model P w) A (call (.builtin "len") [.ref d]) Q E s:=by
 refine Calls.call_function_entry kind_len plain_len entry_len (args_len1 _) ?_
 unfold Builtin.«len»
 refine wpAny_bind (m:=oneArg "len" _) (wpAny_pure ?_)
 refine wpAny_bind (m:=callSpecial? (.ref d) (Str.ofString "__len__")) (wpAny_callSpecial?_slot (name:=Str.ofString "__len__") hm.typeIs F.slot_dict_len
  (call_meetsIn F.slot_dict_len hm.typeIs F.entry_dict_len (F.args_dict_len_1 _) (kT hd) ⟨xs,ep,hm,?_⟩))
 show wpAny _ _ _ _ _ { s with toks:=s.toks+1 }
 refine wpAny_bind (wpAny_holding (wpAny_pure ?_))
 refine wpAny_bind (wpAny_letGo ?_)
 show wpAny _ _ (if ((xs.length:Nat):Int)<0 then _ else _) _ _ _
 rw[if_neg (by omega)]
 show wpAny _ _ (if ((xs.length:Nat):Int)≥2 ^ 63 then _ else _) _ _ _
 rw[if_neg (by omega)]
 exact wpAny_bind (wpAny_mkInt (wpAny_pure ⟨_,rfl,h⟩))
theorem pR (hK:X.K=K:=by rfl)(hP:X.prog=P:=by rfl)(hw:X.w=w:=by rfl):Irr (bU X (.builtin "len") (xt P w K)):=by
 refine .mk ?_
 subst hK hP hw
 intro pins s σ H xs us Q I r h
 rcases h with⟨a,kvs,ep,rfl,g0,q⟩ | ⟨a,kvs,rfl,g0,q⟩ | h
 ·obtain⟨u,rfl,rx⟩:=eV r
  cases rx
  obtain⟨xs,g,rl⟩:=bP I g0
  have hl:=g0.2.2.2.1
  refine nX g0.2.2.1 g (by rw[<-rl.length];omega) ?_
  exact⟨.int kvs.length,H,I.tok _,⟨_,by rw[rl.length]⟩,q⟩
 ·exact mI pins s σ H _ us Q I r ⟨a,kvs,rfl,g0,q⟩
 ·exact (cN rfl).out pins s σ H _ us Q I r h
end
end L2
namespace L2
open PySem PySem.Spec PyProof.Rows
section
variable {X:Cx}{K:PySem.W.Frag}{P:Program}{w:World}
end
section
variable {P:Program}{w:World}{K:PySem.W.Frag}{H H':Hp}{a b:Addr}{kvs:GV}{ep:Nat}{k:GK}{y v:V}
def aT (K:PySem.W.Frag)(H H':Hp):Prop:=∀b xs,SqT K H b xs->SqT K H' b xs
theorem KeyV.keeps (s:aT K H H')(h:KeyV K H k y):KeyV K H' k y:=by
 cases k with
 | inl k=>exact h
 | inr ks=>obtain⟨b,e,hb⟩:=h;exact⟨b,e,s b _ hb⟩
theorem Same.keepsT (s:Same H H'):aT K H H':=fun b xs h=>s.seqT h
theorem GAt.same (h:GAt P w K H a kvs ep)(s:Same H H'):GAt P w K H' a kvs ep:=⟨s _ _ h.1,h.2.1,h.2.2.1,h.2.2.2.1,fun p hp=>(h.2.2.2.2 p hp).keeps s.keepsT⟩
theorem cR {o o':HO}(hb:H b=some o)(nt:(∀xs,o≠.tup xs)/\∀x u,o≠.frz x u):aT K H (upd H b o'):=fun c xs h=>by
 have ne:∀{u:HO},H c=some u->(u≠o)->c≠b:=fun {u} e n z=>by
  rw[z,hb]at e
  exact n (Option.some.inj e).symm
 rcases h with (h | ⟨x,h⟩) | h
 ·exact .inl (.inl (by rw[ag (ne h fun z=>nt.1 _ z.symm)];exact h))
 ·exact .inl (.inr ⟨x,by rw[ag (ne h fun z=>nt.2 _ _ z.symm)];exact h⟩)
 ·exact .inr h
theorem bN {φ:Heap->Prop}{o':HO}(hb:H b=some (.ext φ)):aT K H (upd H b o'):=cR hb ⟨(fun xs z=>nomatch z),fun x u z=>nomatch z⟩
theorem cQ {xs:List V}{o':HO}(hb:H b=some (.lst xs)):aT K H (upd H b o'):=cR hb ⟨(fun xs z=>nomatch z),fun x u z=>nomatch z⟩
theorem GAt.keeps (h:GAt P w K H a kvs ep)(s:aT K H H')(e:H' a=H a):GAt P w K H' a kvs ep:=⟨by rw[e];exact h.1,h.2.1,h.2.2.1,h.2.2.2.1,fun p hp=>(h.2.2.2.2 p hp).keeps s⟩
theorem kZ (kvs:GV)(k:GK)(y v:V):(bh kvs k y v).map (·.1)=if (bg kvs k).isSome=true then kvs.map (·.1) else kvs.map (·.1)++[k]:=by
 unfold bh
 split
 ·rw[List.map_map]
  refine List.map_congr_left fun x _=>?_
  show (if x.1=k then (x.1,x.2.1,v) else x).1=x.1
  split<;>rfl
 ·rw[List.map_append];rfl
theorem gval_mem:∀{kvs:GV},(bg kvs k).isSome=true↔k∈kvs.map (·.1)
 | []=>by simp[bg]
 | x::r=>by
  have ih:=gval_mem (kvs:=r)
  unfold bg at ih ⊢
  rw[List.find?_cons,List.map_cons,List.mem_cons]
  by_cases e:x.1=k
  ·rw[decide_eq_true e];simp[e]
  ·rw[decide_eq_false e]
   constructor
   ·exact fun h=>.inr (ih.mp h)
   ·rintro (h | h)
    ·exact absurd h.symm e
    ·exact ih.mpr h
theorem jx (kvs:GV)(k:GK)(y v:V):(bh kvs k y v).length≤kvs.length+1:=by
 unfold bh
 split
 ·rw[List.length_map];omega
 ·rw[List.length_append,List.length_singleton];exact Nat.le_refl _
theorem GAt.put (h:GAt P w K H a kvs ep)(hk:KeyV K H k y)(hl:kvs.length<100000)(ep':Nat):GAt P w K (upd H a (aN P w a (bh kvs k y v) ep')) a (bh kvs k y v) ep':=by
 have kp:aT K H (upd H a (aN P w a (bh kvs k y v) ep')):=bN h.1
 refine⟨ae,?_,h.2.2.1,by have:=jx kvs k y v;omega,fun p hp=>?_⟩
 ·rw[kZ]
  split
  ·exact h.2.1
  ·rename_i hn
   rw[List.nodup_append]
   refine⟨h.2.1,by simp,fun x hx z hz=>?_⟩
   rw[List.mem_singleton.mp hz]
   exact fun e=>hn (gval_mem.mpr (e▸hx))
 ·unfold bh at hp
  split at hp
  ·obtain⟨x,hx,rfl⟩:=List.mem_map.mp hp
   have:=(h.2.2.2.2 x hx).keeps kp
   split<;>exact this
  ·rcases List.mem_append.mp hp with z | z
   ·exact (h.2.2.2.2 p z).keeps kp
   ·rw[List.mem_singleton.mp z];exact hk.keeps kp
theorem GAt.new {p:Addr}(hs:(p == sysModules)=false):GAt P w K (upd H p (aN P w p [] ep)) p [] ep:=⟨ae,List.nodup_nil,hs,Nat.zero_le _,fun _ hp=>by cases hp⟩
theorem dH (kvs:GV)(k j:GK)(y v:V):bg (bh kvs k y v) j=if j=k then some v else bg kvs j:=by
 have hm:∀kvs:GV,bg (kvs.map fun x=>if x.1=k then (x.1,x.2.1,v) else x) j=if j=k then (bg kvs k).map (fun _=>v) else bg kvs j:=by
  intro kvs
  induction kvs with
  | nil=>unfold bg;simp
  | cons x r ih =>
   unfold bg at ih ⊢
   rw[List.map_cons,List.find?_cons,List.find?_cons,List.find?_cons]
   by_cases e:x.1=k
   ·rw[if_pos e,e]
    by_cases ej:j=k
    ·rw[ej];simp
    ·rw[decide_eq_false (fun z=>ej z.symm),if_neg ej,ih,if_neg ej]
   ·rw[if_neg e,decide_eq_false e]
    by_cases ej:x.1=j
    ·rw[decide_eq_true ej,if_neg (fun z=>e (ej.trans z))]
    ·rw[decide_eq_false ej,ih]
 unfold bh
 by_cases h:(bg kvs k).isSome=true
 ·rw[if_pos h,hm]
  split
  ·obtain⟨z,hz⟩:=Option.isSome_iff_exists.mp h
   rw[hz];rfl
  ·rfl
 ·rw[if_neg h]
  unfold bg at h ⊢
  rw[List.find?_append]
  by_cases ej:j=k
  ·rw[if_pos ej,ej]
   cases e:kvs.find? (fun x=>decide (x.1=k)) with
   | some z=>rw[e]at h;exact absurd rfl h
   | none=>simp
  ·rw[if_neg ej]
   cases e:kvs.find? (fun x=>decide (x.1=j)) with
   | some z=>rfl
   | none=>simp;exact fun z=>ej z.symm
end
end L2
namespace L2
open PySem PySem.Spec PyProof.Rows
section
variable {X:Cx}{K:PySem.W.Frag}{P:Program}{w:World}{o e:Expr}{apos cpos:Pos}{td ty:TE}
theorem qi {pins:List (Addr×Obj)}{σ:St}{H:Hp}{s:Shared}{a:Addr}{kvs:GV}{ep:Nat}(I:Inv X pins σ H s)(g:GAt X.prog X.w X.K H a kvs ep) :
  s.TypeIs (.ref a) "dict"/\∀b,Value.ref a=.ref b->∃ob,s.heap.get? b=some ob/\ob.dict=none:=by
 obtain⟨xs,⟨o,es,h1,h2,_⟩,_⟩:=bP I g
 exact⟨⟨o,h1,h2.1⟩,fun b e=>by cases e;exact⟨o,h1,h2.2.1⟩⟩
def xW (P:Program)(w:World)(K:PySem.W.Frag)(td ty:TE):TE:=fun σ H Q=>td σ H fun x H1=>match x with
 | .ref a=>(∃kvs ep,GAt P w K H1 a kvs ep)/\ty σ H1 fun y H2=>qo P w K (.ref a) [y] H2 Q
 | _=>False
theorem oy (hu:X.A.units+64<cLine)(ho:JE X o td)(he:JE X e ty)(m:M1 X o "get" apos e cpos:=by exact⟨rfl,rfl,rfl,rfl⟩)(hK:X.K=K:=by rfl)(hP:X.prog=P:=by rfl)(hw:X.w=w:=by rfl) :
  JE X (.Call (.Attribute o "get" apos) [e] [] cpos) (xW P w K td ty):=by
 refine .mk ?_
 subst hK hP hw
 intro pins s σ H Q I h
 refine wpAny_Call_method m.base m.few m.line PySem.F.plainAttrs_dict PySem.F.slot_dict_get PySem.F.type_dict_get (aS (ho.out pins s σ H _ I h) fun u s1 ⟨x,H1,I1,rx,q1⟩=>?_)
 dsimp only at q1
 cases x with
 | ref a =>
  obtain⟨⟨kvs,ep,g⟩,q1⟩:=q1
  obtain rfl:u=Value.ref a:=rx
  obtain⟨t1,t2⟩:=qi I1 g
  refine⟨t1,t2,?_⟩
  rw[m.trees]
  exact Calls.callWith_builtin rfl (Calls.evalArgs_plain (Calls.spliced_cons (aS (he.out pins s1 σ H1 _ I1 q1) fun iv s2 ⟨y,H2,I2,ry,q2⟩=>Calls.spliced_nil ((vN hu rfl rfl rfl).out pins s2 σ H2 (.ref a) [y] _ [iv] Q I2 rfl (.cons ry .nil) q2))))
 | _=>exact q1.elim
end
end L2
namespace L2
open PySem PySem.Spec PyProof.Rows
section
variable {X:Cx}{K:PySem.W.Frag}{P:Program}{w:World}
def se (P:Program)(w:World)(K:PySem.W.Frag)(tk tv:TE):TE:=fun σ H Q=>∀p,H p=none->(p == sysModules)=false->tk σ (upd H p (aN P w p [] 0)) fun y H1=>tv σ H1 fun v H2=>∃k,GAt P w K H2 p [] 0/\KeyV K H2 k y/\∀ep,Q (.ref p) (upd H2 p (aN P w p [(k,y,v)] ep))
theorem gE {k v:Expr}{pos:Pos}{tk tv:TE}(hu:X.A.units+64<cLine)(hk:JE X k tk)(hv:JE X v tv)(hK:X.K=K:=by rfl)(hP:X.prog=P:=by rfl)(hw:X.w=w:=by rfl):JE X (.Dict [some k] [v] pos) (se P w K tk tv):=by
 refine .mk ?_
 subst hK hP hw
 intro pins s σ H Q I h
 refine wpAny_Dict_any rfl rfl (fun z=>nomatch z) (show 1≤15 by decide) ?_
 have I0:Inv X pins σ (upd H s.heap.objs.size (aN X.prog X.w s.heap.objs.size [] 0)) { s with heap:=s.heap.push { cls:=.type "dict",data:=.dict #[] } }:=I.laid (a:=s.heap.objs.size) (o:=aN X.prog X.w s.heap.objs.size [] 0) (t':=s.toks) (fun _ _ q=>Heap.get?_push_of_some _ q) (Nat.le_refl _)
  (iH _ [] .nil ⟨_,#[],Heap.get?_push_size _ rfl,⟨rfl,rfl,rfl⟩,rfl,rfl,(fun _ hx=>by cases hx),List.nodup_nil⟩ _)
 have h:=h s.heap.objs.size (I.hok.fresh (Nat.le_refl _)) (beq_eq_false_iff_ne.mpr (Ne.symm (Nat.ne_of_lt I.big)))
 generalize s.heap.objs.size=d at I0 h ⊢
 refine pairTrees_cons_walk (aS (hk.out pins _ σ _ _ I0 h) fun kv s1 ⟨y,H1,I1,ry,q1⟩=>aS (hv.out pins s1 σ H1 _ I1 q1) fun vv s2 ⟨z,H2,I2,rz,kk,h1,h2,q2⟩=>pairTrees_nil_walk ?_)
 obtain⟨xs,g,rl⟩:=bP I2 h1
 unfold storeAll
 rw[List.forIn_cons]
 refine wpAny_bind (wpAny_bind (uz (show X.A.units<cLine by omega) (eu I2 h2 ry) g (by rw[<-rl.length];exact Nat.zero_le _) fun h' ep' he' dd' hs=>?_))
 refine wpAny_pure ?_
 dsimp only
 rw[List.forIn_nil]
 refine wpAny_pure ?_
 obtain⟨o',_,ho',_⟩:=id dd'
 exact⟨.ref d,_,lw I2 (by rw[h1.1];exact True.intro) hs ⟨o',ho'⟩ (iH h' _ (jz rl ry rz) dd' _),rfl,q2 ep'⟩
end
end L2
namespace L2
open PySem PySem.Spec PyProof.Rows
section
variable {X:Cx}{e:Expr}{es:List Expr}{t:TA}{p pos:Pos}
end
structure RawM (K:PySem.W.Frag)(C:Addr)(m qual:Str)(st:Stmt)(ps:List Str):Prop where
 ex:∃f fd,tm K C m f/\Fun K m qual st f fd/\∀(us:List Value),us.length=ps.length->bindArgs fd ⟨us,[]⟩=pure (ps.zip us)
structure cq (P:Program)(w:World)(K:PySem.W.Frag)(mg:Str->Option Value)(base:Heap)(k:Nat)(C:Addr)(m:Str)(ps:List Str)(sp:Sp):Prop where
 ex:∃f fd,tm K C m f/\Binds K fd ps []/\dE P w K mg base CX0 k f fd ps sp
theorem RawM.defJ {P:Program}{w:World}{K:PySem.W.Frag}{mg:Str->Option Value}{base:Heap}{C:Addr}{m qual:Str}{st:Stmt}{N ps:List Str}{k:Nat}{sp:Sp}(R:RawM K C m qual st ps)(S:ar N ps (ah st))(len:∀vs H Q E,sp vs H Q E->vs.length=ps.length)
  (hbody:∀(f:Addr) (cdv:Value) (A:Around) (outer:List Env) (s:Shared) (H:Hp) (vs:List V) (Q:VK) (E:XK),Room k (A.deeper (envOfC qual (ah st) s.heap.objs.size f cdv))->sp vs H Q E ->
   ∃t,iF (aQ CX0 P w K mg base N qual (ah st) f cdv A outer s H E).nox (ay st) t/\t { nx:=fun _ H'=>Q .non H',rt:=Q } (start N vs) H):cq P w K mg base (k+1) C m ps sp:=by
 obtain⟨f,fd,M,F,b⟩:=R.ex
 exact⟨f,fd,M,.all b,F.ok S len fun cdv A outer s H vs Q E hr h=>let ⟨t,h1,h2⟩:=hbody f cdv A outer s H vs Q E hr h;⟨t,h1.out,h2⟩⟩
theorem RawM.mk' {K:PySem.W.Frag}{C:Addr}{m qual:Str}{st:Stmt}{ps:List Str}{f:Addr}{oc:Value}{od an:Option Addr}{osl:Array (Option Value)}{kV doc pm cdv ct:Value}
  (a:PySem.W.findIn K (.ref C) m=some (some (.ref f))) (l:K.lookup f=some ⟨oc,od,.func (PySem.W.fnOf m qual (bn st) (ay st) (ah st) .none kV doc pm an cdv ct),osl⟩)
  (c:PySem.W.codeIn K cdv qual=true) (k:PySem.W.keepIn K (.ref f)=true) (fn:PySem.W.isFn K (.ref f)=true)
  (hb:∀(us:List Value),us.length=ps.length->bindArgs (PySem.W.fnOf m qual (bn st) (ay st) (ah st) .none kV doc pm an cdv ct) ⟨us,[]⟩=pure (ps.zip us)):RawM K C m qual st ps :=
 ⟨⟨f,_,⟨a,fn,k⟩,pz l c k,hb⟩⟩
def mObj (C:Addr)(x:V)(H:Hp)(q:Addr->Addr->List (Str×V)->Prop):Prop:=match x with
 | .ref a=>∃dx fs,H a=some (.ins C dx fs)/\q a dx fs
 | _=>False
theorem mObj.out {C:Addr}{x:V}{H:Hp}{q:Addr->Addr->List (Str×V)->Prop}(h:mObj C x H q):∃a dx fs,x=.ref a/\H a=some (.ins C dx fs)/\q a dx fs:=by
 unfold mObj at h
 split at h
 ·obtain⟨dx,fs,h1,h2⟩:=h
  exact⟨_,dx,fs,rfl,h1,h2⟩
 ·exact h.elim
def vG (C:Addr)(f:Str)(ta:TE):TE:=fun σ H Q=>ta σ H fun x H1=>mObj C x H1 fun _ _ fs=>∃v,fs.lookup f=some v/\Q v H1
def uy (C:Addr)(m:Str)(sp:Sp)(ta:TE)(t:TA):TE:=fun σ H Q=>ta σ H fun x H1=>mObj C x H1 fun _ _ fs=>fs.lookup m=none/\t σ H1 fun vs H2=>sp (x::vs) H2 Q E0
def tO (C:Addr)(sp:Sp)(t:TA):TE:=fun σ H Q=>t σ H fun vs H1=>∀x dx,H1 x=none->H1 dx=none->dx≠x ->
 sp (.ref x::vs) (upd (upd H1 dx (.own x)) x (.ins C dx [])) (fun v H2=>v=.non/\Q (.ref x) H2) E0
def x5 (C:Addr)(f:Str)(ta tv:TE):TS:=fun D σ H=>tv σ H fun y H1=>ta σ H1 fun x H2=>mObj C x H2 fun a dx fs=>fs.length<1000/\D.nx σ (upd H2 a (.ins C dx (aX f y fs)))
section
variable {X:Cx}{e o value:Expr}{es:List Expr}{t:TA}{ta tv:TE}{p pos apos pos':Pos}{C:Addr}{m f x:Str}{k:Nat}{ps:List Str}{sp:Sp}
theorem cz (c:Cls X.K C)(n:NoAttr X.K C f)(ho:JE X o ta)(hb:attributeBase o f X.env (eval o X.env)=eval o X.env:=by rfl):JE X (.Attribute o f pos) (vG C f ta):=by
 refine .mk ?_
 intro pins s σ H Q I h
 refine lG hb (aS (ho.out pins s σ H _ I h) fun u s1 ⟨x,H1,I1,rx,q⟩=>?_)
 obtain⟨a,dx,fs,rfl,ea,v,l,q⟩:=q.out
 obtain rfl:u=Value.ref a:=rx
 exact lb I1 ea c n l fun u' s2 I2 ru=>⟨v,H1,I2,ru,q⟩
theorem eX (c:Cls X.K C)(n:NoAttr X.K C f)(ho:JE X o ta)(hv:JE X value tv)(hs:swapsWith value (some (.Attribute o f pos')) pos.line X.env=pure false:=by rfl):JS X (.Assign [.Attribute o f pos'] value pos) (x5 C f ta tv):=by
 refine .mk ?_
 intro pins s σ H D I h
 refine plainObj_wpAny_Assign_Attribute (aS (hv.out pins s σ H _ I h) fun u s1 ⟨y,H1,I1,ry,q⟩=>aS (ho.out pins s1 σ H1 _ I1 q) fun ov s2 ⟨x,H2,I2,rx,q2⟩=>?_) hs
 obtain⟨a,dx,fs,rfl,ea,l,q2⟩:=q2.out
 obtain rfl:ov=Value.ref a:=rx
 exact kD I2 ea c n l ry fun s3 I3=>⟨σ,_,I3,q2⟩
theorem gN {pl:Sem Bool}(c:Cls X.K C)(D:cq X.prog X.w X.K X.mg X.base k C m ps sp)(hr:Room k X.A)(ho:JE X o ta)(ha:JA X (e::es) t)(hst:al (e::es)=true:=by rfl)
  (ht:eval (.Call (.Attribute o m apos) (e::es) [] pos) X.env=(do
   let ov<-eval o X.env
   standAt apos.atName
   let (f,first)<-holding [ov] (getMethod ov m pl)
   callWith pos f first (backTo pos (starEach (e::es) X.env)) (backToKw pos (keywordEach [] X.env))):=by rfl):JE X (.Call (.Attribute o m apos) (e::es) [] pos) (uy C m sp ta t):=by
 refine .mk ?_
 obtain⟨g,fd,M,b,G⟩:=D.ex
 have h':aZ e=true/\al es=true:=by simpa[al] using hst
 have he:=am (es:=es) (env:=X.env) h'.1
 have hpl:=ba (env:=X.env) (pos:=pos) h'.2
 intro pins s σ H Q I h
 refine PySem.W.methodCall_KW (pl:=pl) (aS (ho.out pins s σ H _ I h) fun u s1 ⟨x,H1,I1,rx,q⟩=>?_) ht
 obtain⟨a,dx,fs,rfl,ea,l,q⟩:=q.out
 obtain rfl:u=Value.ref a:=rx
 refine em I1 ea c M l ?_
 refine PySem.W.callWith_K (first:=[.ref a]) (h₀:=X.base) I.ok.mod.kin M.kp (aS (ha.out pos pins s1 σ H1 _ I1 q) fun us s2 ⟨vs,H2,I2,r,q2⟩=>⟨I2.kIn,?_⟩) he hpl
 exact iG (us:=.ref a::us) (vs:=.ref a::vs) (dvs:=[]) G hr b .nil jT I2 (.cons rfl r) (by rw[List.append_nil];exact q2)
structure zi (K:PySem.W.Frag)(mg:Str->Option Value)(x:Str)(C:Addr):Prop where
 at_:mg x=some (.ref C)
 makes:PySem.W.makesIn K C=true
 kp:PySem.W.keepIn K (.ref C)=true
theorem u6 (c:zi X.K X.mg x C)(D:cq X.prog X.w X.K X.mg X.base k C "__init__" ps sp)(hr:Room (k+1) X.A)(hg:Gl X x)(ha:JA X (e::es) t)(hdb:(x == ("__debug__":Str))=false:=by decide)(hst:al (e::es)=true:=by rfl) :
  JE X (.Call (.Name x p) (e::es) [] pos) (tO C sp t):=by
 refine .mk ?_
 obtain⟨g,fd,M,b,G⟩:=D.ex
 have h':aZ e=true/\al es=true:=by simpa[al] using hst
 have he:=am (es:=es) (env:=X.env) h'.1
 have hpl:=ba (env:=X.env) (pos:=pos) h'.2
 have h:=rj (X:=X) (C:=C) (dvs:=[]) (ds:=[]) (E:=E0) (p:=p) (pos:=pos) ⟨c.makes,M.at_,M.fn,c.kp⟩ G hr hg c.at_ b .nil jT ha.out hdb he hpl
 intro pins s σ H Q I hq
 refine h pins s σ H Q I ?_
 unfold tO at hq
 unfold tT
 refine cast (congrArg (t σ H) ?_) hq
 funext vs H1
 rw[List.append_nil]
end
section
variable {prog:Program}{w:World}{A:Around}{E:Value->Shared->Prop}{s:Shared}
end
end L2
namespace L2
open PySem PySem.Spec PyProof.Rows
abbrev dh (C t:Addr)(od:Option Addr):Obj:={ cls:=.ref C,dict:=od,data:=.fields #[.ref t,.none,.none,.none,.bool false,.none] }
section
variable {prog:Program}{w:World}{A:Around}{E:Value->Shared->Prop}{h:Heap}{g:Array GenState}{d:Drawn}{t:Nat}{os:OsState}
variable {nm q:Str}{C N:Addr}{bs bm bmB:List Value}{hdct:Bool}{sn:List Str}{sub:List Value}{ab:Bool}{col:Option Bool}{dd:Option Addr}{k0 k1 k2 k3 k5:Option Value}{B Bn newId nid initId inN:String}{bmN:List Value}
theorem gr (Fn:ExcBaseFacts Bn newId inN bmN)(hBn:bmB.contains (.type Bn)=true)(F:ExcBaseFacts B nid initId bmB)(T:OwnTail h bmB bm){mN:Str->Option Value}{rest:List Value}{fI:Addr}{oI:Obj}{Q:Fin->Shared->Prop}
  (hC:h.get? C=some (excClassObj nm q C N bs bm hdct sn sub ab col dd k0 k1 k2 k3 k5 newId)) (hn:h.Ns N mN) (hi:mN "__init__"=some (.ref fI)) (hfI:h.get? fI=some oI) (hfc:oI.cls=.type "function") (hrest:rest.length≤sizeLine)
  (hq:∀h' e,h.objs.size≤e->Heap.MadeExcOf h h' e (.ref C) rest->wpAny (model prog w) A (call (.ref fI) (.ref e::rest)) (fun r s'=>r=.none/\Q (.done (.ret (.ref e))) s') E ⟨h',g,d,t,os⟩) :
  wpAny (model prog w) A (Builtin.«type.__call__» ⟨.ref C::rest,[]⟩) Q E ⟨h,g,d,t,os⟩:=by
 repeat (first | with_reducible refine wpAny_loadPart_at hC ?_ | with_reducible refine wpAny_madeBy_exc hC ?_ | wp_step)
 refine codeAny_call_builtin_code (Code.quiet_builtin _ Fn.quiet) (wpAny_check_new_subU Fn hBn T hC (codeAny_exc_new_subU Fn hBn F T hC ?_ hrest))
 show wpAny _ _ _ _ _ _
 obtain⟨h1,e1⟩:∃h1,h1=(h.push { cls:=.type "tuple",data:=.seq rest.toArray }).push (dh C h.objs.size none):=⟨_,rfl⟩
 have up:∀b o,h.get? b=some o->h1.get? b=some o:=fun b o z=>by rw[e1];exact Heap.get?_push_of_some _ (Heap.get?_push_of_some _ z)
 have hg:h1.get? (h.objs.size+1)=some (dh C h.objs.size none):=by rw[e1];heap_get
 have hC1:=up _ _ hC
 have hn1:h1.Ns N mN:=let ⟨o,es,ep,z,r⟩:=hn;⟨o,es,ep,up _ _ z,r⟩
 have T1:=T.keeps up
 have hcC:(Value.ref C::bm).contains (.ref C)=true:=by simp
 rw[<-e1]
 unfold isInstance
 repeat (first | with_reducible refine wpAny_loadPart_at hg ?_ | (with_reducible refine wpAny_isSubtype_exc hC1 ?_;rw[hcC]) | wp_step)
 show wpAny _ _ (typeLookup (.ref C) _) _ _ _
 refine wpAny_typeLookup_tail hC1 hn1 T1 F.mroIs F.init.lookup ?_
 rw[hi]
 refine wpAny_holding (wpAny_bind ?_)
 unfold bindSpecial
 refine wpAny_bind (wpAny_typeOf (T:="function") ⟨_,up _ _ hfI,hfc⟩ ?_)
 rw[if_pos (by decide)]
 have made:Heap.MadeExcOf h h1 (h.objs.size+1) (.ref C) rest:=⟨up,Heap.get?_none_of_le (Nat.le_succ _),h.objs.size,hg,Heap.get?_none_of_le (Nat.le_refl _),by rw[e1];exact Heap.get?_push_of_some _ (Heap.get?_push_at rfl rfl)⟩
 refine wpAny_pure (wpAny_bind (wpAny_mono (hq _ _ (Nat.le_succ _) made) (fun r s' hr=>?_) fun _ _ x=>x))
 obtain⟨rfl,hQ⟩:=hr
 wp_walk
 exact hQ
theorem j4 (Fn:ExcBaseFacts Bn newId inN bmN)(hBn:bmB.contains (.type Bn)=true)(F:ExcBaseFacts B nid initId bmB)(T:OwnTail h bmB bm){mN:Str->Option Value}{rest:List Value}{fI:Addr}{oI:Obj}{Q:Value->Shared->Prop}
  (hC:h.get? C=some (excClassObj nm q C N bs bm hdct sn sub ab col dd k0 k1 k2 k3 k5 newId)) (hn:h.Ns N mN) (hi:mN "__init__"=some (.ref fI)) (hfI:h.get? fI=some oI) (hfc:oI.cls=.type "function") (hrest:rest.length≤sizeLine)
  (hq:∀h' e,h.objs.size≤e->Heap.MadeExcOf h h' e (.ref C) rest->wpAny (model prog w) (A.under (.builtin "type.__call__" ⟨.ref C::rest,[]⟩)) (call (.ref fI) (.ref e::rest)) (fun r s'=>r=.none/\Q (.ref e) s') E ⟨h',g,d,t,os⟩) :
  wpAny (model prog w) A (call (.ref C) rest) Q E ⟨h,g,d,t,os⟩:=by
 have f1:=tc_lookup
 have f2:=tc_bind (.ref C)
 have hT:(⟨h,g,d,t,os⟩:Shared).TypeIs (.ref C) "type":=⟨_,hC,rfl⟩
 refine wpAny_call (codeAny_of_tree (show wpAny _ _ (callAny (.ref C) _) _ _ _ from ?_))
 repeat (any_goals (first | assumption | with_reducible refine wpAny_loadPart_at hC ?_ | wp_step))
 exact⟨rfl,codeAny_call_builtin_at (Code.quiet_builtin _ (by decide +kernel)) entry_typeCall (wpAny_check_type_call_sub hC (gr Fn hBn F T hC hn hi hfI hfc hrest fun h' e hz hm=>hq h' e hz hm))⟩
theorem nW {s:Shared}{e t0 C:Addr}{od:Option Addr}{rest:List Value}{Q:Fin->Shared->Prop}(he:s.heap.get? e=some (dh C t0 od))(hl:rest.length≤sizeLine)
  (hq:∀h',h'.get? e=some (dh C s.heap.objs.size od)->h'.get? s.heap.objs.size=some { cls:=.type "tuple",data:=.seq rest.toArray }->(∀b o,b≠e->s.heap.get? b=some o->h'.get? b=some o)->Q (.done (.ret .none)) { s with heap:=h' }) :
  wpAny (model prog w) A (Builtin.«BaseException.__init__» ⟨.ref e::rest,[]⟩) Q E s:=by
 unfold Builtin.«BaseException.__init__»
 dsimp only
 rw[if_neg (by simp)]
 unfold newTuple Builtin.BaseException.bexcPut
 have hlt:=Heap.lt_size he
 have he1:=Heap.get?_push_of_some (h:=s.heap) { cls:=.type "tuple",data:=.seq rest.toArray } he
 refine wpAny_bind (wpAny_newObj_type (wpAny_bind (wpAny_bind (wpAny_field he1 rfl rfl (wpAny_bind (wpAny_setField he1 rfl (show 0<6 by decide) ?_))))) hl)
 refine wpAny_letGo (wpAny_pure (hq _ ?_ ?_ fun b o hb z=>?_))
 ·rw[Heap.get?_update_self _ he1 rfl];rfl
 ·rw[Heap.get?_update_other _ _ (Nat.ne_of_lt hlt)];exact Heap.get?_push_at rfl rfl
 ·rw[Heap.get?_update_other _ _ (Ne.symm hb)];exact Heap.get?_push_of_some _ z
end
end L2
namespace L2
open PySem PySem.Spec PyProof.Rows
theorem fN {e b:Addr}{H:Hp}(h:b≠e):rem [e] H b=H b:=by
 unfold rem
 rw[if_neg (fun z=>h (List.mem_singleton.mp z))]
theorem dO {e b:Addr}{H:Hp}(h:H b=none):rem [e] H b=none:=by
 unfold rem
 split
 ·rfl
 ·exact h
theorem Un.rem1 {fs ex:List Addr}{H₀ H:Hp}{h₀ h:Heap}(u:Un fs ex H₀ H h₀ h){e:Addr}{φ:Heap->Prop}(he:H e=some (.ext φ)):Un fs ex H₀ (rem [e] H) h₀ h:=by
 have ne:∀{b:Addr} {o:HO},H b=some o->(∀ψ,o≠.ext ψ)->rem [e] H b=some o:=fun {b o} q n=>by
  rw[fN fun z=>by rw[z,he]at q;exact n _ (Option.some.inj q).symm];exact q
 refine⟨u.keep,u.slot,fun b o q n hx=>dO (u.free b o q n hx),u.there,fun b xs q=>ne (u.tups b xs q) (fun _ z=>nomatch z),fun b o v q=>ne (u.frzs b o v q) (fun _ z=>nomatch z),fun b ps q=>?_⟩
 obtain⟨more,hm⟩:=u.tbls b ps q
 exact⟨more,ne hm fun _ z=>nomatch z⟩
theorem oh {P:Program}{w:World}{H:Hp}{h:Heap}{e:Addr}{φ:Heap->Prop}(k:HOk P w H h)(he:H e=some (.ext φ)):HOk P w (rem [e] H) h:=fun b u q=>by
 have hb:b≠e:=fun z=>by rw[z]at q;unfold rem at q;rw[if_pos (List.mem_singleton.mpr rfl)]at q;cases q
 rw[fN hb]at q
 refine (k b u q).stay (fun _ _ _ z=>z) (fun c z=>?_) fun c xs z=>?_
 ·rw[fN fun y=>by rw[y,he]at z;cases z];exact z
 ·rw[fN fun y=>by rw[y,he]at z;cases z];exact z
theorem Inv.rem1 {X:Cx}{pins:List (Addr×Obj)}{σ:List (Option V)}{H:Hp}{s:Shared}{e:Addr}{φ:Heap->Prop}(I:Inv X pins σ H s)(he:H e=some (.ext φ)):Inv X pins σ (rem [e] H) s :=
 ⟨I.ok,I.os,I.bare,I.base.rem1 he,I.loc,I.cell,dO I.free,fun x c q=>dO (I.freeC x c q),fun p hp=>let ⟨a,b,c⟩:=I.pin p hp;⟨a,dO b,c⟩,oh I.hok he,I.len⟩
section
variable {P:Program}{w:World}{K:PySem.W.Frag}{mg:Str->Option Value}{base:Heap}{N:List Str}{qual:Str}{scope:Scope}{f:Addr}{cd:Value}{A:Around}{outer:List Env}{s₀:Shared}{H₀:Hp}{E:XK}
 {pins:List (Addr×Obj)} {σ:List (Option V)} {H:Hp} {s:Shared}
theorem mJ {e t C:Addr}{od x:Option Addr}(I:Inv (aQ (bT P w) P w K mg base N qual scope f cd A outer s₀ H₀ E) pins σ H s)(he:s.heap.get? e=some (dh C t od))(hn:s₀.heap.get? e=none)(hH:H e=none)(hfe:e∉cu (envOfC qual scope s₀.heap.objs.size f cd::outer))(hx:DictAt s.heap e x)(hE:E (.ref C) x H) :
  (aQ (bT P w) P w K mg base N qual scope f cd A outer s₀ H₀ E).xe (.ref e) s:=by
 show wpAny (model P w) (A.deeper (envOfC qual scope s₀.heap.objs.size f cd)) (leaving (envOfC qual scope s₀.heap.objs.size f cd) (.ref e)) (fun _ s''=>bT P w outer H₀ s₀ E (.ref e) s'') (fun e' s''=>bT P w outer H₀ s₀ E e' s'') s
 obtain⟨as,eas⟩:∃as,as=e::cu (envOfC qual scope s₀.heap.objs.size f cd::outer):=⟨_,rfl⟩
 have hin:∀env∈(envOfC qual scope s₀.heap.objs.size f cd::outer),∀b,env.frame=some b->b∈as:=fun env hm b hb=>by rw[eas];exact List.mem_cons_of_mem _ (List.mem_filterMap.mpr ⟨env,hm,hb⟩)
 have hid:∀b o,s.heap.get? b=some o->b∉as->(PySem.W.hideAll s.heap as).get? b=some o:=fun b o q hb=>PySem.W.hideAll_get _ q hb
 have hen:(PySem.W.hideAll s.heap as).get? e=none:=PySem.W.hideAll_none _ (by rw[eas];exact List.mem_cons_self)
 refine kW (B:=PySem.W.hideAll s.heap as) (L:=s₀.heap.objs.size) (a0:=.ref t) I.ok.frames (PySem.W.funFrames_hide I.stack hin) rfl he (fun b o q=>PySem.W.of_hideAll _ q) hen rfl rfl rfl fun h'' hL dk=>?_
 obtain⟨k1,⟨_,_,k2⟩,k3,us⟩:=hL
 have noex:∀b:Addr,b∉(aQ (bT P w) P w K mg base N qual scope f cd A outer s₀ H₀ E).ex:=fun b z=>nomatch (show b∈([]:List Addr) from z)
 have nas:∀b o,s₀.heap.get? b=some o->b∉cu outer->b∉as:=fun b o q hb z=>by
  rw[eas]at z
  rcases List.mem_cons.mp z with y | y
  ·rw[y,hn]at q;cases q
  ·exact I.nostk q hb y
 have kb:∀b o,s₀.heap.get? b=some o->b∉cu outer->b∉([]:List Addr)->(∃o',(PySem.W.hideAll s.heap as).get? b=some o')/\(H₀ b=none->(PySem.W.hideAll s.heap as).get? b=some o):=fun b o q hb _=>by
  obtain⟨o1,e1⟩:=I.base.there b o q (noex b)
  exact⟨⟨o1,hid b o1 e1 (nas b o q hb)⟩,fun n=>hid b o (I.base.keep b o q n hb (noex b)) (nas b o q hb)⟩
 have un:Un (cu outer) [] H₀ H s₀.heap h'':=fQ (I.base) kb k1 (fun b _=>us b) (fun b hb=>(I.ok.funs.mem hb).2) I.ok.frf
 refine⟨e,_,.ref C,.ref t,H,x,rfl,I.os,I.bare,.of ⟨k1,hen,k2,k3⟩,fun b u q=>?_,un,kb,hx.keeps dk,hE⟩
 refine (I.hok b u q).stay (fun c v hc z=>hid c v z fun m=>?_) (fun _ z=>z) fun _ _ z=>z
 have hcn:H c=none:=by
  rw[eas]at m
  rcases List.mem_cons.mp m with y | y
  ·rw[y];exact hH
  ·exact I.stkFree c y
 rcases hc with rfl | hc
 ·rw[q]at hcn;cases hcn
 ·rw[hc]at hcn;cases hcn
end
end L2
namespace L2
open PySem PySem.Spec PyProof.Rows
def ff (K:PySem.W.Frag)(C f:Addr):Bool:=match K.lookup C with
 | some ⟨.type "type",_,.cls cd,sl⟩=>(match cd.mro,sl.toList with
  | .ref C'::bm,[_,_,_,_,some (.builtin n),_]=>C' == C&&n == "ValueError.__new__"&&!cd.hasDel&&PySem.W.tailIn K iW bm&&PySem.W.nsOkIn K cd.ns&&PySem.W.nsIn K cd.ns "__init__" == some (some (.ref f))
  | _,_=>false)
 | _=>false
theorem vE {K:PySem.W.Frag}{h:Heap}{N:Addr}{m:Str->Option Value}{n:Str}{v:Value}(X:K.In h)(G:h.Ns N m)(e:PySem.W.nsIn K N n=some (some v)):m n=some v:=by
 obtain⟨o,es,ep,ho,hd,_,hf⟩:=G
 unfold PySem.W.nsIn at e
 split at e
 ·rename_i c d es' n' sl q
  have z:=X _ _ q
  rw[ho]at z
  cases z
  cases hd
  split at e
  ·rename_i en he
   cases e
   rw[<-hf]
   unfold nsFind findBy
   rw[<-Array.find?_toList,he]
   rfl
  ·split at e<;>cases e
 ·cases e
theorem cF {K:PySem.W.Frag}{h:Heap}{C f:Addr}(X:K.In h)(q:ff K C f=true) :
  ∃bm N nm q bs hdct sn sub ab col dd k0 k1 k2 k3 k5 mN,h.get? C=some (excClassObj nm q C N bs bm hdct sn sub ab col dd k0 k1 k2 k3 k5 "ValueError.__new__")/\h.Ns N mN/\mN "__init__"=some (.ref f)/\OwnTail h iW bm:=by
 unfold ff at q
 split at q
 ·rename_i dd cd sl ho
  split at q
  ·rename_i C' bm k0 k1 k2 k3 n k5 hm hs
   simp only[Bool.and_eq_true,beq_iff_eq,Bool.not_eq_true']at q
   obtain⟨⟨⟨⟨⟨rfl,rfl⟩,hdel⟩,ht⟩,hok⟩,hni⟩:=q
   obtain⟨nm,bs,mro,ns,qn,hd,sn,sub,ab,col,del⟩:=cd
   dsimp only at hm hdel hok hni
   subst hm hdel
   have hsl:sl=#[k0,k1,k2,k3,some (.builtin "ValueError.__new__"),k5]:=by
    obtain⟨l⟩:=sl
    simp only at hs
    rw[hs]
   subst hsl
   exact⟨bm,ns,nm,qn,bs,hd,sn,sub,ab,col,dd,k0,k1,k2,k3,k5,_,X _ _ ho,.of_isNs (PySem.W.isNs_of_in X hok),vE X (.of_isNs (PySem.W.isNs_of_in X hok)) hni,PySem.W.tail_of_in X ht⟩
  ·cases q
 ·cases q
def zx (C e:Addr):HO:=.ext fun h=>∃t od,h.get? e=some (dh C t od)
def wL (C e dx:Addr):HO:=.ext fun h=>∃t,h.get? e=some (dh C t (some dx))
theorem uK {P:Program}{w:World}{H:Hp}{h:Heap}{C e t dx:Addr}(he:h.get? e=some (dh C t (some dx))):ObjOk P w H h e (wL C e dx) :=
 ⟨⟨t,he⟩,⟨_,he⟩,fun _ _ ⟨t,z⟩ k=>⟨t,k _ z⟩⟩
def kY (dx:Addr)(f:Str)(v:V):HO:=.ext fun h=>∃u,RelV v u/\h.Ns1 dx (fun x=>if x=f then some u else none)
theorem vg {P:Program}{w:World}{H:Hp}{h:Heap}{dx:Addr}{f:Str}{v:V}{u:Value}(r:RelV v u)(hn:h.Ns1 dx (fun x=>if x=f then some u else none)):ObjOk P w H h dx (kY dx f v):=by
 obtain⟨o,es,ep,e,_⟩:=id hn
 exact⟨⟨u,r,hn⟩,⟨o,e⟩,fun _ _ ⟨u,r,z⟩ k=>⟨u,r,z.at k⟩⟩
def rD (C e:Addr):HO:=.ext fun h=>∃t,h.get? e=some (dh C t none)
theorem oO {P:Program}{w:World}{H:Hp}{h:Heap}{C e t:Addr}(he:h.get? e=some (dh C t none)):ObjOk P w H h e (rD C e) :=
 ⟨⟨t,he⟩,⟨_,he⟩,fun _ _ ⟨t,z⟩ k=>⟨t,k _ z⟩⟩
section
variable {M:Model}{A:Around}{E:Value->Shared->Prop}{env:Env}
variable {nm q:Str}{C N:Addr}{bs bm:List Value}{hdct:Bool}{sn:List Str}{sub:List Value}{ab:Bool}{col:Option Bool}{dd:Option Addr}{k0 k1 k2 k3 k5:Option Value}{newId:String}
theorem g7 {s:Shared}{x:Sem Value}{Q:Flow->Shared->Prop}(hbase:bm.contains (.type "BaseException")=true)(hh:A.handled=none)
  (h:wpAny M A x (fun v s₁=>∃e t od,v=.ref e/\s₁.heap.get? C=some (excClassObj nm q C N bs bm hdct sn sub ab col dd k0 k1 k2 k3 k5 newId)/\s₁.heap.get? e=some (dh C t od)/\E (.ref e) s₁) E s) :
  wpAny M A (raiseStmt env (some x) none) Q E s:=by
 have hcB:(Value.ref C::bm).contains (.type "BaseException")=true:=by rw[List.contains_cons,hbase,Bool.or_true]
 unfold raiseStmt
 refine wpAny_bind (wpAny_mono h (fun v s₁ ⟨e,t,od,ev,hC,he,hE⟩=>?_) fun _ _ x=>x)
 subst ev
 obtain⟨hp,g,d,tk,os⟩:=s₁
 repeat (first | with_reducible refine wpAny_loadPart_at he ?_ | with_reducible refine wpAny_loadPart_at hC ?_ | (with_reducible refine wpAny_isSubtype_exc hC ?_;rw[hcB]) | wp_step)
 exact wpAny_raiseNew_none hh hE
end
section
variable {X:Cx}{k:Nat}{f C:Addr}{fd:FuncData}{ps:List Str}{sp:Sp}
theorem sZ {pins:List (Addr×Obj)}{σ:St}{H:Hp}{s:Shared}{Q:VK}{us:List Value}{vs:List V}(hq:ff X.K C f=true)(hf:PySem.W.isFn X.K (.ref f)=true)(G:dE X.prog X.w X.K X.mg X.base CX0 k f fd ps sp)(hr:Room (k+1) X.A)(hb:Binds X.K fd ps [])
  (I:Inv X pins σ H s) (r:Vals vs us) (hl:vs.length≤sizeLine) (h:∀e,H e=none->sp (.ref e::vs) (upd H e (rD C e)) (fun v H2=>v=.non/\Q (.ref e) H2) E0) :
  wpAny (model X.prog X.w) X.A (call (.ref C) us) (fun v s'=>∃e,v=.ref e/\s.heap.get? e=none/\s.heap.objs.size≤e/\EP X pins σ Q v s') X.xe s:=by
 obtain⟨bm,N',nm,q,bs,hdct,sn,sub,ab,col,dd,k0,k1,k2,k3,k5,mN,hC,hN,hni,T⟩:=cF (h:=s.heap) I.kIn hq
 obtain⟨oI,hoI,hcI⟩:∃oI,s.heap.get? f=some oI/\oI.cls=.type "function":=by
  have hf2:PySem.W.typeIn X.K (.ref f)=some (.type "function"):=beq_iff_eq.mp hf
  obtain⟨o,h1,h2⟩:=Option.map_eq_some_iff.mp hf2
  exact⟨o,I.kIn _ _ h1,h2⟩
 have hlu:us.length≤sizeLine:=by rw[<-r.length];exact hl
 have I0:=I
 obtain⟨hp,g,d,tk,os⟩:=s
 refine j4 PySem.F.excBase_ValueError (by decide +kernel) PySem.F.excBase_ValueError T hC hN hni hoI hcI hlu fun h' e hne hm=>?_
 obtain⟨t0,he,_,_⟩:=hm.there
 have hHe:H e=none:=I.hok.fresh hne
 have hq:=h e hHe
 have I2:Inv X pins σ (upd H e (rD C e)) ⟨h',g,d,tk,os⟩:=I.laid (t':=tk) hm.keeps hne (oO he)
 have r2:Vals (V.ref e::vs) (Value.ref e::us):=.cons rfl r
 have hl2:(Value.ref e::us).length=ps.length:=by rw[<-r2.length];exact G.len _ _ _ _ hq
 refine wpAny_call (codeAny_mono (G.run _ X.stack _ _ ⟨Value.ref e::us,[]⟩ (Value.ref e::us) _ _ E0 (hr.make C us []) (I2.env0.make C us []) (by simpa using hb _ (Value.ref e::us) I2.kIn (by simpa using hl2)) r2 hq) fun rr s' hq'=>?_)
 cases rr with
 | error e'=>exact jT pins σ _ _ e' s' I2 hq'
 | ok fl =>
  cases fl with
  | ret u =>
   obtain⟨v,H',I3,rv,ev,q3⟩:=I2.after hq'
   subst ev
   exact⟨rv,e,rfl,hm.new,hne,⟨V.ref e,H',I3,rfl,q3⟩⟩
  | next=>exact False.elim hq'
  | brk=>exact False.elim hq'
  | cont=>exact False.elim hq'
end
end L2
namespace L2
open PySem PySem.Spec PyProof.Rows
def uw (C:Addr)(E:XK)(e:Addr)(H:Hp):Prop:=(H e=some (zx C e)/\E (.ref C) none (rem [e] H))\/∃dx,H e=some (wL C e dx)/\E (.ref C) (some dx) (rem [e] H)
def iP (C:Addr)(sp:Sp)(E:XK)(t:TA):TS:=fun _ σ H=>t σ H fun vs H1=>vs.length≤sizeLine/\∀e,H1 e=none->sp (.ref e::vs) (upd H1 e (rD C e)) (fun v H2=>v=.non/\uw C E e H2) E0
section
variable {P:Program}{w:World}{K:PySem.W.Frag}{mg:Str->Option Value}{base:Heap}{N:List Str}{qual:Str}{scope:Scope}{f:Addr}{cd:Value}{A:Around}{outer:List Env}{s₀:Shared}{H₀:Hp}{E:XK}
theorem mo {x:Str}{C fi:Addr}{fd:FuncData}{k:Nat}{ps:List Str}{sp:Sp}{e:Expr}{es:List Expr}{t:TA}{np cpos pos:Pos}(hg:Gl (aQ (bT P w) P w K mg base N qual scope f cd A outer s₀ H₀ E) x)(hm:mg x=some (.ref C))(hkp:PySem.W.keepIn K (.ref C)=true)(hq:ff K C fi=true)(hf:PySem.W.isFn K (.ref fi)=true)
  (G:dE P w K mg base CX0 k fi fd ps sp) (hr:Room (k+1) (aQ (bT P w) P w K mg base N qual scope f cd A outer s₀ H₀ E).A) (hb:Binds K fd ps [])
  (ha:PA (aQ (bT P w) P w K mg base N qual scope f cd A outer s₀ H₀ E) (e::es) t) (hst:al (e::es)=true:=by rfl) (hd:(x == ("__debug__":Str))=false:=by decide) :
  PS (aQ (bT P w) P w K mg base N qual scope f cd A outer s₀ H₀ E) (.Raise (some (.Call (.Name x np) (e::es) [] cpos)) none pos) (iP C sp E t):=by
 intro pins s σ H D I h
 have h':aZ e=true/\al es=true:=by simpa[al] using hst
 have he:=am (es:=es) (env:=(aQ (bT P w) P w K mg base N qual scope f cd A outer s₀ H₀ E).env) h'.1
 have hpl:=ba (env:=(aQ (bT P w) P w K mg base N qual scope f cd A outer s₀ H₀ E).env) (pos:=cpos) h'.2
 obtain⟨bm,N',nm,q,bs,hdct,sn,sub,ab,col,dd,k0,k1,k2,k3,k5,mN,hC,hN,hni,T⟩:=cF (h:=base) I.ok.mod.kin hq
 rw[arm_exec_Raise]
 refine wpAny_bind (wpAny_standAt (g7 (C:=C) (nm:=nm) (q:=q) (N:=N') (bs:=bs) (bm:=bm) (hdct:=hdct) (sn:=sn) (sub:=sub) (ab:=ab) (col:=col) (dd:=dd) (k0:=k0) (k1:=k1) (k2:=k2) (k3:=k3) (k5:=k5) (newId:="ValueError.__new__") (T.hasType PySem.F.excBase_ValueError.hasBase) (I.ok.hd rfl) ?_))
 refine wpAny_bind (wpAny_mono (wpAny_Call_Name_kw (cU I hg hm ?_ hd)) (fun v s3 h3=>wpAny_bind (wpAny_standAt (wpAny_pure h3))) fun _ _ z=>z)
 refine PySem.W.callWith_K (h₀:=base) I.ok.mod.kin hkp (aS (ha cpos pins s σ H _ I h) fun us s1 ⟨vs,H1,I1,r,hl,hsp⟩=>⟨I1.kIn,?_⟩) he hpl
 refine wpAny_mono (sZ (Q:=fun x H2=>match x with
  | .ref e=>uw C E e H2
  | _=>False) hq hf G hr hb I1 r hl hsp) (fun v s' hv=>?_) fun _ _ z=>z
 obtain⟨e1,ev,hn1,hz,x,H2,I2,rx,q2⟩:=hv
 subst ev
 have ex:x=.ref e1:=by
  cases x with
  | ref a=>have z:Value.ref e1=Value.ref a:=rx;cases z;rfl
  | _=>exact q2.elim
 subst ex
 have fin:∀{t1:Addr} {od x:Option Addr} {φ:Heap->Prop},H2 e1=some (.ext φ)->s'.heap.get? e1=some (dh C t1 od)->DictAt s'.heap e1 x->E (.ref C) x (rem [e1] H2)->∃e t od,Value.ref e1=.ref e/\s'.heap.get? C=some (excClassObj nm q C N' bs bm hdct sn sub ab col dd k0 k1 k2 k3 k5 "ValueError.__new__")/\s'.heap.get? e=some (dh C t od)/\(aQ (bT P w) P w K mg base N qual scope f cd A outer s₀ H₀ E).xe (.ref e) s':=fun {t1 od x φ} q ho hx hE=>by
  refine⟨e1,t1,od,rfl,I2.bk _ _ hC,ho,mJ (I2.rem1 q) ho ?_ ?_ (fun z=>?_) hx hE⟩
  ·cases hs:s₀.heap.get? e1 with
   | none=>rfl
   | some o =>
    obtain⟨o',ho'⟩:=I1.base.there e1 o hs (fun z=>nomatch (show e1∈([]:List Addr) from z))
    rw[hn1]at ho';cases ho'
  ·unfold rem;rw[if_pos (List.mem_singleton.mpr rfl)]
  ·have:=I2.stkFree e1 z
   rw[q]at this;cases this
 rcases q2 with⟨q2,hE⟩ | ⟨dx,q2,hE⟩
 ·obtain⟨⟨t1,od,ho⟩,_,_⟩:=I2.hok e1 _ q2
  exact fin (x:=none) q2 ho True.intro hE
 ·obtain⟨⟨t1,ho⟩,_,_⟩:=I2.hok e1 _ q2
  exact fin (x:=some dx) q2 ho ⟨_,ho,rfl⟩ hE
theorem nj {x:Str}{C fi:Addr}{fd:FuncData}{k:Nat}{ps:List Str}{sp:Sp}{e:Expr}{es:List Expr}{t:TA}{np cpos pos:Pos}(hg:Gl (aQ (bT P w) P w K mg base N qual scope f cd A outer s₀ H₀ E) x)(hm:mg x=some (.ref C))(hkp:PySem.W.keepIn K (.ref C)=true)(hq:ff K C fi=true)(hf:PySem.W.isFn K (.ref fi)=true)
  (G:dE P w K mg base CX0 k fi fd ps sp) (hr:Room (k+1) (aQ (bT P w) P w K mg base N qual scope f cd A outer s₀ H₀ E).A) (hb:Binds K fd ps [])
  (ha:JA (aQ (bT P w) P w K mg base N qual scope f cd A outer s₀ H₀ E) (e::es) t) (hst:al (e::es)=true:=by rfl) (hd:(x == ("__debug__":Str))=false:=by decide) :
  JS (aQ (bT P w) P w K mg base N qual scope f cd A outer s₀ H₀ E) (.Raise (some (.Call (.Name x np) (e::es) [] cpos)) none pos) (iP C sp E t):=.mk (mo hg hm hkp hq hf G hr hb ha.out hst hd)
end
end L2
namespace L2
open PySem PySem.Spec PyProof.Rows
section
variable {X:Cx}{e:Expr}{es:List Expr}{t:TA}{p pos apos:Pos}
theorem pC {H:Hp}{a:Addr}{o:HO}(h:H a=some o):upd H a o=H:=funext fun x=>by
 by_cases z:x=a
 ·rw[z,ae,h]
 ·rw[ag z]
def lZ (C:Addr)(t:TA):TE:=fun σ H Q=>t σ H fun vs H1=>match vs with
 | .ref e::rest=>H1 e=some (rD C e)/\rest.length≤sizeLine/\Q .non H1
 | _=>False
theorem mS {pl:Sem Bool}{x:Str}{B C fi:Addr}{mc:Value}(hg:Gl X x)(hm:X.mg x=some (.ref B))(hs:PySem.W.specialIn X.K (.ref B) "__getattribute__"=some (some (.builtin "type.__getattribute__")))(hr:PySem.W.readsIn X.K B mc=true)
  (hc:PySem.W.findCls X.K (.ref B) mc "__init__"=some (.val (.builtin "ValueError.__init__"))) (hq:ff X.K C fi=true) (ha:PA X (e::es) t) (hst:al (e::es)=true:=by rfl) (hdb:(x == ("__debug__":Str))=false:=by decide)
  (ht:eval (.Call (.Attribute (.Name x p) "__init__" apos) (e::es) [] pos) X.env=(do
   let ov<-eval (.Name x p) X.env
   standAt apos.atName
   let (f,first)<-holding [ov] (getMethod ov "__init__" pl)
   callWith pos f first (backTo pos (starEach (e::es) X.env)) (backToKw pos (keywordEach [] X.env))):=by rfl) :
  PE X (.Call (.Attribute (.Name x p) "__init__" apos) (e::es) [] pos) (lZ C t):=by
 intro pins s σ H Q I h
 have h':aZ e=true/\al es=true:=by simpa[al] using hst
 have he:=am (es:=es) (env:=X.env) h'.1
 have hpl:=ba (env:=X.env) (pos:=pos) hst
 refine PySem.W.methodCall_KW (pl:=pl) (cU I hg hm ?_ hdb) ht
 refine PySem.W.method_cls I.kIn hs (PySem.W.cls_value I.kIn hr hc rfl ?_)
 have h0:=ha pos pins _ σ H _ (I.tok (s.toks+1)) h
 rw[he]at h0 hpl ⊢
 refine Calls.callWith_builtin hpl (Calls.evalArgs_plain (wpAny_mono h0 (fun us s2 hu=>?_) fun _ _ y=>y))
 obtain⟨vs,H2,I2,r2,q2⟩:=hu
 split at q2
 ·rename_i ea rest
  obtain⟨hH,hl,hQ⟩:=q2
  cases r2 with
  | cons ra rr =>
   rename_i u us'
   obtain rfl:u=Value.ref ea:=ra
   obtain⟨bm,N',nm,q,bs,hdct,sn,sub,ab,col,dd,k0,k1,k2,k3,k5,mN,hC,hN,hni,T⟩:=cF (h:=s2.heap) I2.kIn hq
   obtain⟨⟨t1,ho⟩,_,_⟩:=I2.hok ea _ hH
   have hlu:us'.length≤sizeLine:=by rw[<-rr.length];exact hl
   obtain⟨hp,g,d,tk,os⟩:=s2
   show wpAny _ _ (call (.builtin "ValueError.__init__") (Value.ref ea::us')) _ _ _
   refine wpAny_call (codeAny_call_builtin PySem.F.excBase_ValueError.init.plain PySem.F.excBase_ValueError.initEntry (wpAny_check_init_subU PySem.F.excBase_ValueError T hC ho rfl ?_))
   refine nW (s:=⟨hp,g,d,tk,os⟩) ho hlu fun h' e1 e2 kp=>?_
   have I3:Inv X pins σ (upd H2 ea (rD C ea)) ⟨h',g,d,tk,os⟩:=I2.write (x:=ea) (e:=ea) (by rw[hH];exact True.intro) (.inl rfl) kp ⟨_,e1⟩ (oO e1)
   rw[pC hH]at I3
   exact⟨.non,H2,I3,rfl,hQ⟩
 ·exact q2.elim
theorem py {pl:Sem Bool}{x:Str}{B C fi:Addr}{mc:Value}(hg:Gl X x)(hm:X.mg x=some (.ref B))(hs:PySem.W.specialIn X.K (.ref B) "__getattribute__"=some (some (.builtin "type.__getattribute__")))(hr:PySem.W.readsIn X.K B mc=true)
  (hc:PySem.W.findCls X.K (.ref B) mc "__init__"=some (.val (.builtin "ValueError.__init__"))) (hq:ff X.K C fi=true) (ha:JA X (e::es) t) (hst:al (e::es)=true:=by rfl) (hdb:(x == ("__debug__":Str))=false:=by decide)
  (ht:eval (.Call (.Attribute (.Name x p) "__init__" apos) (e::es) [] pos) X.env=(do
   let ov<-eval (.Name x p) X.env
   standAt apos.atName
   let (f,first)<-holding [ov] (getMethod ov "__init__" pl)
   callWith pos f first (backTo pos (starEach (e::es) X.env)) (backToKw pos (keywordEach [] X.env))):=by rfl) :
  JE X (.Call (.Attribute (.Name x p) "__init__" apos) (e::es) [] pos) (lZ C t):=.mk (mS hg hm hs hr hc hq ha.out hst hdb ht)
end
end L2
namespace L2
open PySem PySem.Spec PyProof.Rows
def dF:List Value->Bool
 | [.type a,.type b,.type c,.type d]=>a == "ValueError"&&b == "Exception"&&c == "BaseException"&&d == "object"
 | .ref _::r=>dF r
 | _=>false
theorem ko:∀{l:List Value},dF l=true->l.contains (.type "object")=true/\l.isEmpty=false
 | [.type a,.type b,.type c,.type d],e=>by
  simp only[dF,Bool.and_eq_true,beq_iff_eq]at e
  rw[e.2]
  exact⟨by simp,rfl⟩
 | .ref c::r,e=>by
  have h:dF r=true:=by rcases r with _ | ⟨x,_ | ⟨y,_ | ⟨z,_ | ⟨u,r⟩⟩⟩⟩<;>exact e
  exact⟨by rw[List.contains_cons,(ko h).1,Bool.or_true],rfl⟩
theorem ia (self:Value):∀{l:List Value},dF l=true->refuseLoop self "__setattr__" l=pure ()
 | [.type a,.type b,.type c,.type d],e=>by
  simp only[dF,Bool.and_eq_true,beq_iff_eq]at e
  obtain⟨⟨⟨rfl,rfl⟩,rfl⟩,rfl⟩:=e
  kernel_rfl
 | .ref c::r,e=>by
  have h:dF r=true:=by rcases r with _ | ⟨x,_ | ⟨y,_ | ⟨z,_ | ⟨u,r⟩⟩⟩⟩<;>exact e
  rw[refuseLoop_ref]
  exact ia self h
section
variable {K:PySem.W.Frag}{prog:Program}{w:World}{A:Around}{E:Value->Shared->Prop}{s:Shared}{e t C:Addr}{name:Str}{v:Value}
def gu (K:PySem.W.Frag)(C:Addr):Bool:=(PySem.W.clsIn K C).any fun cd=>dF cd.mro
theorem wu {R:Result->Shared->Prop}{x:Addr}{ox:Obj}{od:Option Obj}{tk:Tok}(X:K.In s.heap)(I:PySem.W.InstAt s.heap x ox C od)(hp:gu K C=true)(ht:PySem.W.takerIn K C name=some none)
  (h:∀b,wpAny (model prog w) A.in1 (Builtin.ObjectAttr.storeInOwnDict (.ref x) (.ref C) (.str name tk) name v b) (fun fin s'=>match fin with | .done f=>R (.ok f) s' | .again c'=>c'.quiet=true/\codeAny (model prog w) A c' R s') (fun e s'=>R (.error e) s') s) :
  codeAny (model prog w) A (.call (.builtin "object.__setattr__") ⟨[.ref x,.str name tk,v],[]⟩) R s:=by
 obtain⟨cd,hc,ho⟩:=PySem.W.any_some hp
 have ne:=(ko ho).2
 have sub:PySem.W.Looks (model prog w) s.heap (isInstance (.ref x) (.type "object")) true:=I.type.andThen (PySem.W.looks_mroIn X (by unfold PySem.W.mroIn;rw[hc,Option.bind_some,if_neg (by rw[ne];decide),(ko ho).1]))
 refine codeAny_call_builtin PySem.F.store_object.slot.plain PySem.F.store_object.entry (@PySem.W.check_slot (model prog w) _ _ s "object.__setattr__" "object" "__setattr__" (.ref x) [.str name tk,v] [] _ PySem.F.store_object.kind PySem.F.store_object.split sub (PySem.F.store_object.args (.ref x) (.str name tk) v) ?_)
 obtain⟨attr,ha,hr⟩:=Option.bind_eq_some_iff.mp ht
 have hm:PySem.W.Looks (model prog w) s.heap (mroOf (.ref C)) cd.mro:=(PySem.W.looks_clsIn X hc).andThen .now
 have L3:PySem.W.Looks (model prog w) s.heap (Builtin.ObjectAttr.storeTaker? attr) none:=by
  cases attr with
  | none=>exact .now
  | some a =>
   obtain⟨b,hb,hz⟩:=Option.map_eq_some_iff.mp hr
   cases b with
   | true=>cases hz
   | false=>exact (PySem.W.looks_takesIn X hb).andThen .now
 rw[PySem.W.osa_eq,refuse_eq]
 refine wpAny_bind (wpAny_bind (I.type.here (wpAny_bind (hm.here ?_))))
 rw[ia _ ho]
 exact wpAny_pure (wpAny_bind (I.type.here (wpAny_bind ((PySem.W.looks_findIn X ha).here (wpAny_bind (L3.here (h _)))))))
theorem sM {Q:Unit->Shared->Prop}(X:K.In s.heap)(he:s.heap.get? e=some (dh C t none))
  (hs:PySem.W.findIn K (.ref C) "__setattr__"=some (some (.builtin "object.__setattr__"))) (hp:gu K C=true) (ht:PySem.W.takerIn K C name=some none) (hh:PySem.W.hasDictIn K C=true)
  (h:∀h' dx,s.heap.get? dx=none->h'.Ns1 dx (fun x=>if x=name then some v else none)->h'.get? e=some (dh C t (some dx))->(∀b o,b≠e->s.heap.get? b=some o->h'.get? b=some o)->Q () { s with heap:=h',toks:=s.toks+2 }) :
  wpAny (model prog w) A (setAttr (.ref e) name v) Q E s:=by
 have J:PySem.W.InstAt s.heap e (dh C t none) C none:=⟨he,rfl,rfl,True.intro⟩
 refine PySem.W.set_plain X J hs (wu (s:={ s with toks:=s.toks+1 }) X J hp ht fun b=>?_)
 obtain⟨cd,hc,hd'⟩:=PySem.W.any_some hh
 refine wpAny_bind (wpAny_pure (wpAny_bind (wpAny_bind (wpAny_loadPart he (wpAny_bind (PySem.W.Looks.here (s:={ s with toks:=s.toks+1 }) (PySem.W.looks_clsIn X hc) ?_))))))
 rw[hd']
 rw[if_neg (by decide)]
 dsimp only
 rw[if_neg (show ¬ ((!true||!typeHasDict (Value.ref C))=true) by simp[typeHasDict])]
 refine wpAny_bind (wpAny_alloc ?_)
 have hlt:=Heap.lt_size he
 have he1:(s.heap.push { cls:=.type "dict",data:=.dict #[] }).get? e=some (dh C t none):=Heap.get?_push_of_some _ he
 refine wpAny_bind (wpAny_update he1 ?_)
 obtain⟨h1,e1⟩:∃h1,h1=(s.heap.push { cls:=.type "dict",data:=.dict #[] }).update e fun o=>{ o with dict:=some s.heap.objs.size }:=⟨_,rfl⟩
 have g1:h1.get? e=some (dh C t (some s.heap.objs.size)):=by rw[e1,Heap.get?_update_self _ he1 rfl]
 have g2:h1.get? s.heap.objs.size=some { cls:=.type "dict",data:=.dict #[] }:=by rw[e1,Heap.get?_update_other _ _ (Nat.ne_of_lt hlt)];exact Heap.get?_push_size _ rfl
 have g3:∀b o,b≠e->s.heap.get? b=some o->h1.get? b=some o:=fun b o hb z=>by rw[e1,Heap.get?_update_other _ _ (Ne.symm hb)];exact Heap.get?_push_of_some _ z
 have n1:h1.Ns1 s.heap.objs.size (fun _=>none):=Heap.Ns1.of_empty ⟨_,#[],_,g2,rfl,(fun e he=>absurd he (by simp)),fun _=>rfl⟩
 show wpAny _ _ _ _ _ ⟨_,s.gens,s.drawn,s.toks+1,s.os⟩
 rw[<-e1]
 unfold dictMade
 refine wpAny_bind (wpAny_pure (wpAny_pure ?_))
 dsimp only
 unfold Builtin.ObjectAttr.storeInDict
 refine wpAny_bind (wpAny_pure (wpAny_bind ?_))
 refine wpAny_nsSet1 (s:=⟨h1,s.gens,s.drawn,s.toks+1,s.os⟩) n1 fun h' hn2 hs2=>?_
 obtain⟨oD,esD,epD,hoD,hdD,hcD⟩:=hn2.count (PySem.Within.cons name v (ns:=[]) (fun x hx=>absurd rfl hx))
 refine wpAny_bind (wpAny_lookBehind hoD (by rw[hdD];exact pastItsLine_dict (Nat.le_trans hcD (by rw[List.length_singleton,sizeLine_eq];decide))) ?_)
 refine wpAny_pure (h h' s.heap.objs.size (Heap.get?_none_of_le (Nat.le_refl _)) hn2 ((hs2.2 _ (Nat.ne_of_lt hlt)).trans g1) fun b o hb z=>(hs2.2 _ (Nat.ne_of_lt (Heap.lt_size z))).trans (g3 b o hb z))
end
section
variable {X:Cx}{pins:List (Addr×Obj)}{σ:List (Option V)}{H:Hp}{s:Shared}
theorem Inv.trackO {a:Addr}{oe:Obj}{ho:HO}(I:Inv X pins σ H s)(he:s.heap.get? a=some oe)(hn:H a=none)(hL:a≠X.env.locals)(hd:∀v,oe.data≠.cell v)(h0:∀o,X.s₀.heap.get? a=some o->a∈X.ex)
  (hp:∀p∈X.pn++pins,p.1≠a) (new:ObjOk X.prog X.w (upd H a ho) s.heap a ho):Inv X pins σ (upd H a ho) s:=by
 have keep:∀{b:Addr} {u:HO},H b=some u->upd H a ho b=some u:=fun {b u} e=>by
  rw[ag (av e hn)];exact e
 refine⟨I.ok,I.os,I.bare,⟨I.base.keep,I.base.slot,fun b o e n hx=>?_,I.base.there,fun b xs e=>keep (I.base.tups b xs e),fun b o u e=>keep (I.base.frzs b o u e),fun b ps e=>?_⟩,I.loc,I.cell,?_,fun x c e=>?_,fun p hpp=>?_,fun b u e=>?_,I.len⟩
 ·have nb:b≠a:=fun z=>by
   subst z
   exact hx (h0 o e)
  rw[ag nb]
  exact I.base.free b o e n hx
 ·obtain⟨more,q⟩:=I.base.tbls b ps e
  exact⟨more,keep q⟩
 ·rw[ag (Ne.symm hL)]
  exact I.free
 ·have nc:c≠a:=fun z=>by
   subst z
   obtain⟨v,q⟩:=I.cell x c e
   obtain⟨o,q1,q2⟩:=id q
   rw[he]at q1
   cases q1
   first | exact hd _ q2 | exact hd _ q2.2 | exact hd _ q2.1
  rw[ag nc]
  exact I.freeC x c e
 ·obtain⟨e1,e2,e3⟩:=I.pin p hpp
  exact⟨e1,by rw[ag (hp p hpp)];exact e2,e3⟩
 ·by_cases hb:b=a
  ·subst hb
   rw[ae]at e
   cases e
   exact new
  ·rw[ag hb]at e
   exact (I.hok b u e).stay (fun _ _ _ q=>q) (fun c q=>keep q) fun c xs q=>keep q
end
section
variable {X:Cx}{C:Addr}{o value:Expr}{f:Str}{pos pos':Pos}{ta tv:TE}
def rK (C:Addr)(f:Str)(ta tv:TE):TS:=fun D σ H=>tv σ H fun y H1=>ta σ H1 fun x H2=>match x with
 | .ref e=>H2 e=some (rD C e)/\∀dx,H2 dx=none->D.nx σ (upd (upd H2 e (wL C e dx)) dx (kY dx f y))
 | _=>False
theorem mR (hs:PySem.W.findIn X.K (.ref C) "__setattr__"=some (some (.builtin "object.__setattr__")))(hp:gu X.K C=true)(ht:PySem.W.takerIn X.K C f=some none)(hh:PySem.W.hasDictIn X.K C=true)
  (ho:JE X o ta) (hv:JE X value tv) (hw:swapsWith value (some (.Attribute o f pos')) pos.line X.env=pure false:=by rfl):JS X (.Assign [.Attribute o f pos'] value pos) (rK C f ta tv):=by
 refine .mk ?_
 intro pins s σ H D I h
 refine plainObj_wpAny_Assign_Attribute (aS (hv.out pins s σ H _ I h) fun u s1 ⟨y,H1,I1,ry,q⟩=>aS (ho.out pins s1 σ H1 _ I1 q) fun ov s2 ⟨x,H2,I2,rx,q2⟩=>?_) hw
 dsimp only at q2
 cases x with
 | ref e =>
  obtain⟨hH,hQ⟩:=q2
  obtain rfl:ov=Value.ref e:=rx
  obtain⟨⟨t1,he⟩,_,_⟩:=I2.hok e _ hH
  refine sM I2.kIn he hs hp ht hh fun h' dx nd nn g1 g3=>?_
  have ne:dx≠e:=fun z=>by rw[z,he]at nd;cases nd
  have ndH:H2 dx=none:=by
   cases z:H2 dx with
   | none=>rfl
   | some o =>
    obtain⟨u',hu'⟩:=dC (I2.hok dx o z)
    rw[nd]at hu';cases hu'
  have I3:Inv X pins σ (upd H2 e (wL C e dx)) { s2 with heap:=h',toks:=s2.toks+2 }:=I2.write (x:=e) (e:=e) (by rw[hH];exact True.intro) (.inl rfl) g3 ⟨_,g1⟩ (uK g1)
  obtain⟨od,es,ep,god,gdat,_⟩:=id nn
  have old:∀{b:Addr} {ob:Obj},s2.heap.get? b=some ob->dx≠b:=fun {b ob} q z=>by rw[<-z,nd]at q;cases q
  refine⟨σ,_,I3.trackO (ho:=kY dx f y) (oe:=od) god (by rw[ag ne];exact ndH) ?_ ?_ ?_ ?_ (vg ry nn),hQ dx ndH⟩
  ·obtain⟨m,⟨ol,_,_,ql,_⟩,_⟩:=I2.loc
   exact old ql
  ·intro v z
   rw[gdat]at z
   cases z
  ·intro o0 q0
   refine Classical.byContradiction fun hx=>?_
   obtain⟨o1,q1⟩:=I2.base.there dx o0 q0 hx
   exact old q1 rfl
  ·intro p hp' z
   exact old (I2.pin p hp').1 z.symm
 | _=>exact q2.elim
end
end L2
namespace L2
open PySem PySem.Spec PyProof.Rows
structure eR (P:Program)(w:World)(K:PySem.W.Frag)(mg:Str->Option Value)(base:Heap)(k:Nat)(C:Addr)(m:Str)(ps:List Str)(sp:Sp):Prop where
 ex:∃f fd,tm K C m f/\Binds K fd ps []/\dE P w K mg base (bT P w) k f fd ps sp
theorem RawM.defX {P:Program}{w:World}{K:PySem.W.Frag}{mg:Str->Option Value}{base:Heap}{C:Addr}{m qual:Str}{st:Stmt}{N ps:List Str}{k:Nat}{sp:Sp}(R:RawM K C m qual st ps)(S:ar N ps (ah st))(len:∀vs H Q E,sp vs H Q E->vs.length=ps.length)
  (hbody:∀(f:Addr) (cdv:Value) (A:Around) (outer:List Env) (s:Shared) (H:Hp) (vs:List V) (Q:VK) (E:XK),Room k (A.deeper (envOfC qual (ah st) s.heap.objs.size f cdv))->sp vs H Q E ->
   ∃t,iF (aQ (bT P w) P w K mg base N qual (ah st) f cdv A outer s H E) (ay st) t/\t { nx:=fun _ H'=>Q .non H',rt:=Q } (start N vs) H):eR P w K mg base (k+1) C m ps sp:=by
 obtain⟨f,fd,M,F,b⟩:=R.ex
 refine⟨f,fd,M,.all b,?_⟩
 obtain⟨oc,od,kV,doc,pm,an,cdv,ct,osl,rfl,lk,hcd⟩:=F.ex
 refine lS lk hcd S len fun A outer s H vs Q E hr hsp=>?_
 obtain⟨t,h,q⟩:=hbody f cdv A outer s H vs Q E hr hsp
 exact⟨t,h.out,q⟩
def uT (C:Addr)(m:Str)(sp:Sp)(E:XK)(ta:TE)(t:TA):TE:=fun σ H Q=>ta σ H fun x H1=>mObj C x H1 fun _ _ fs=>fs.lookup m=none/\t σ H1 fun vs H2=>sp (x::vs) H2 Q E
section
variable {X:Cx}{e o:Expr}{es:List Expr}{t:TA}{ta:TE}{pos apos:Pos}{C:Addr}{m:Str}{k:Nat}{ps:List Str}{sp:Sp}{E:XK}
theorem dN {pl:Sem Bool}(c:Cls X.K C)(D:eR X.prog X.w X.K X.mg X.base k C m ps sp)(hr:Room k X.A)(ho:JE X o ta)(ha:JA X (e::es) t)(hx:ck (bT X.prog X.w) X E)(hst:al (e::es)=true:=by rfl)
  (ht:eval (.Call (.Attribute o m apos) (e::es) [] pos) X.env=(do
   let ov<-eval o X.env
   standAt apos.atName
   let (f,first)<-holding [ov] (getMethod ov m pl)
   callWith pos f first (backTo pos (starEach (e::es) X.env)) (backToKw pos (keywordEach [] X.env))):=by rfl):JE X (.Call (.Attribute o m apos) (e::es) [] pos) (uT C m sp E ta t):=by
 refine .mk ?_
 obtain⟨g,fd,M,b,G⟩:=D.ex
 have h':aZ e=true/\al es=true:=by simpa[al] using hst
 have he:=am (es:=es) (env:=X.env) h'.1
 have hpl:=ba (env:=X.env) (pos:=pos) h'.2
 intro pins s σ H Q I h
 refine PySem.W.methodCall_KW (pl:=pl) (aS (ho.out pins s σ H _ I h) fun u s1 ⟨x,H1,I1,rx,q⟩=>?_) ht
 obtain⟨a,dx,fs,rfl,ea,l,q⟩:=q.out
 obtain rfl:u=Value.ref a:=rx
 refine em I1 ea c M l ?_
 refine PySem.W.callWith_K (first:=[.ref a]) (h₀:=X.base) I.ok.mod.kin M.kp (aS (ha.out pos pins s1 σ H1 _ I1 q) fun us s2 ⟨vs,H2,I2,r,q2⟩=>⟨I2.kIn,?_⟩) he hpl
 exact iG (us:=.ref a::us) (vs:=.ref a::vs) (dvs:=[]) G hr b .nil hx I2 (.cons rfl r) (by rw[List.append_nil];exact q2)
def uC (C:Addr)(m:Str)(sp:Sp)(ta:TE):TE:=fun σ H Q=>ta σ H fun x H1=>mObj C x H1 fun _ _ fs=>fs.lookup m=none/\sp [x] H1 Q E0
theorem eM {pl:Sem Bool}(c:Cls X.K C)(D:cq X.prog X.w X.K X.mg X.base k C m ps sp)(hr:Room k X.A)(ho:JE X o ta)
  (ht:eval (.Call (.Attribute o m apos) [] [] pos) X.env=(do
   let ov<-eval o X.env
   standAt apos.atName
   let (f,first)<-holding [ov] (getMethod ov m pl)
   callWith pos f first (backTo pos (starEach [] X.env)) (backToKw pos (keywordEach [] X.env))):=by rfl):JE X (.Call (.Attribute o m apos) [] [] pos) (uC C m sp ta):=by
 refine .mk ?_
 obtain⟨g,fd,M,b,G⟩:=D.ex
 intro pins s σ H Q I h
 refine PySem.W.methodCall_KW (pl:=pl) (aS (ho.out pins s σ H _ I h) fun u s1 ⟨x,H1,I1,rx,q⟩=>?_) ht
 obtain⟨a,dx,fs,rfl,ea,l,q⟩:=q.out
 obtain rfl:u=Value.ref a:=rx
 refine em I1 ea c M l ?_
 exact PySem.W.callWith_K0 (first:=[.ref a]) I1.kIn M.kp (iG (us:=[.ref a]) (vs:=[.ref a]) (dvs:=[]) G hr b .nil jT I1 (.cons rfl .nil) q)
end
end L2
namespace L2
open PySem PySem.Spec PyProof.Rows PySem.W
abbrev Cx.pinned (X:Cx)(pins:List (Addr×Obj)):Cx:={ X with pn:=X.pn++pins }
def xR (X:Cx)(EX:St->XK)(e:Value)(s2:Shared):Prop :=
 ∃(σ:St) (H1:Hp) (s1:Shared) (a:Addr) (B:Heap) (cls a0:Value) (H2:Hp) (h1:Heap) (x:Option Addr),Inv X [] σ H1 s1/\e=.ref a/\s2.os=s1.os/\AllBare s2.gens/\HOk X.prog X.w H2 B/\Un (cu X.stack) [] H1 H2 s1.heap h1 /\
 (∀b o,s1.heap.get? b=some o->b∉cu X.stack->b∉([]:List Addr)->(∃o',B.get? b=some o')/\(H1 b=none->B.get? b=some o))/\(DictAt s2.heap a x/\EX σ cls x H2)/\B.get? a=none/\Heap.HeldW B (X.env::X.outer) a cls a0 X.env.locals s2.heap/\h1.UpToSlots s2.heap
abbrev gF (X:Cx)(pins:List (Addr×Obj))(EX:St->XK):Cx :=
 { X.pinned pins with xe:=fun e s'=>wpAny (model X.prog X.w) X.A (noteFrame e X.env) (fun _ s2=>xR (X.pinned pins) EX e s2) (fun _ _=>False) s' }
def iQ (X:Cx)(EX:St->XK):Prop:=∀pins σ H s e s',Inv X pins σ H s->bT X.prog X.w X.stack H s (EX σ) e s'->X.xe e s'
section
variable {X:Cx}{pins ps:List (Addr×Obj)}{σ:St}{H:Hp}{s:Shared}{EX:St->XK}
theorem hX (ok:X.Ok)(pn:List (Addr×Obj))(E:Value->Shared->Prop):Cx.Ok { X with pn:=pn,xe:=E } :=
 ⟨ok.mod,ok.kind,ok.glob,ok.blt,ok.above,ok.inj,ok.has,ok.cab,ok.hd,ok.frames,ok.stk,ok.exf,ok.bs,ok.bsz,ok.noex,ok.exfs,ok.funs,ok.frf⟩
theorem vD (I:Inv X pins σ H s):Inv (gF X pins EX) [] σ H s :=
 ⟨hX I.ok _ _,I.os,I.bare,I.base,I.loc,I.cell,I.free,I.freeC,fun p hp=>I.pin p (by
  have hp':p∈(X.pn++pins)++[]:=hp
  rwa [List.append_nil]at hp'),I.hok,I.len⟩
theorem lp (I:Inv (gF X pins EX) ps σ H s):Inv (X.pinned pins) [] σ H s :=
 ⟨hX (X:=gF X pins EX) I.ok (X.pn++pins) X.xe,I.os,I.bare,I.base,I.loc,I.cell,I.free,I.freeC,fun p hp=>I.pin p (by
  have hp':p∈(X.pn++pins)++[]:=hp
  rw[List.append_nil]at hp'
  show p∈(X.pn++pins)++ps
  exact List.mem_append_left _ hp'),I.hok,I.len⟩
theorem jO (ok:X.Ok)(I:Inv (X.pinned pins) [] σ H s):Inv X pins σ H s :=
 ⟨ok,I.os,I.bare,I.base,I.loc,I.cell,I.free,I.freeC,fun p hp=>I.pin p (by
  show p∈(X.pn++pins)++[]
  rw[List.append_nil];exact hp),I.hok,I.len⟩
theorem fR (ok:X.Ok)(I:Inv (gF X pins EX) ps σ H s):Inv X pins σ H s:=jO ok (lp I)
theorem j5 (hst:X.stack=X.env::X.outer)(hfr:X.env.frame=some X.env.locals):iQ (gF X pins EX) EX:=by
 intro ps σ H s e s' I hq
 obtain⟨a,B,cls,a0,H',x,rfl,os,bare,fl,hok,un,kb,hx,hE⟩:=hq
 show wpAny (model X.prog X.w) X.A (noteFrame (.ref a) X.env) (fun _ s2=>xR (X.pinned pins) EX (.ref a) s2) (fun _ _=>False) s'
 refine hW (env:=X.env) (outer:=X.outer) (L:=X.env.locals) (by rw[<-hst];exact I.ok.frames) hfr (by rw[<-hst];exact fl) fun h1 held us1 dk=>?_
 exact⟨σ,H,s,a,B,cls,a0,H',s'.heap,x,lp I,rfl,os,bare,hok,un,kb,⟨hx.keeps dk,hE⟩,fl.2.1,held,us1⟩
end
section
variable {X:Cx}{G:Str}{gp hpos pos:Pos}{CG fi:Addr}{b₀:Stmt}{suite body:List Stmt}{tb:List (Addr×Obj)->(St->XK)->TS}{ts:TS}
end
section
variable {X:Cx}{k:Nat}{g:Addr}{fd:FuncData}{ps:List Str}{sp:Sp}{pins:List (Addr×Obj)}{σ:St}{H1:Hp}{s1:Shared}{Q:VK}{us:List Value}{vs:List V}{EX:St->XK}
end
section
variable {X:Cx}{e o:Expr}{es:List Expr}{t:TA}{ta:TE}{pos apos:Pos}{C:Addr}{m:Str}{k:Nat}{ps:List Str}{sp:Sp}{EX:St->XK}
end
end L2
namespace L2
open PySem PySem.Spec PyProof.Rows
section
variable {X:Cx}{e:Expr}{es:List Expr}{t:TA}{p pos:Pos}
theorem ni {EX:St->XK}{k:Nat}{f:Addr}{fd:FuncData}{ps:List Str}{sp:Sp}{fr:List Str}{is:List Nat}{pins:List (Addr×Obj)}{σ:St}{H1:Hp}{s1:Shared}{Q:VK}{us:List Value}{vs:List V}(G:dE X.prog X.w X.K X.mg X.base (bT X.prog X.w) k f fd ps sp)(hx:iQ X EX)(b:Binds X.K fd ps [])(hr:Room k X.A)
  (hl:is.length=fr.length) (hfr:∀(j:Nat) y i,fr[j]?=some y->is[j]?=some i->X.N[i]?=some y/\X.env.scope.names.lookup y=some .cell/\X.fn y=true) (hnd:fr.Nodup)
  (I1:Inv X pins σ H1 s1) (r:Vals vs us) (hv:∀i∈is,∃v,σ[i]?=some (some v)) (q:∀cs os,pp X.env X.N σ fr cs os->(∀c∈cs,H1 c=none)->sp vs (cH cs os H1) (fun v H2=>Q v (rem cs H2)) (fun cls n H2=>EX σ cls n (rem cs H2))) :
  wpAny (model X.prog X.w) X.A (call (.ref f) us) (EP X pins σ Q) X.xe s1:=by
 have cell:∀(j:Nat) y,fr[j]?=some y->∃(c:Addr) (o:Obj) (i:Nat) (v:V) (u:Value),X.env.cells.lookup y=some c/\s1.heap.get? c=some o/\X.N[i]?=some y/\σ[i]?=some (some v)/\o.data=.cell (some u)/\RelV v u:=fun j y hy=>by
  have hj:j<is.length:=by rw[hl];exact (List.getElem?_eq_some_iff.mp hy).1
  obtain⟨z1,z2,z3⟩:=hfr j y is[j] hy (List.getElem?_eq_getElem hj)
  obtain⟨v,ev⟩:=hv is[j] (List.getElem_mem hj)
  obtain⟨m,_,hlk⟩:=I1.loc
  obtain⟨u,ru,lk⟩:=hlk _ y v z1 ev (.inr (.inl z2))
  rcases lk with⟨k1,_⟩ | ⟨_,c,hc,o,ho,hd⟩
  ·have k1':X.env.scope.names.lookup y=some .local:=k1
   rw[z2]at k1'
   cases k1'
  ·exact⟨c,o,_,v,u,hc,ho,z1,ev,hd,ru⟩
 let cs:List Addr:=fr.map fun y=>(X.env.cells.lookup y).getD 0
 let os:List Obj:=cs.map fun c=>(s1.heap.get? c).getD default
 have csj:∀(j:Nat) y c,fr[j]?=some y->X.env.cells.lookup y=some c->cs[j]?=some c:=fun j y c h1 h2=>by
  show (fr.map _)[j]?=_
  rw[List.getElem?_map,h1]
  show some ((X.env.cells.lookup y).getD 0)=_
  rw[h2];rfl
 have osj:∀(j:Nat) c o,cs[j]?=some c->s1.heap.get? c=some o->os[j]?=some o:=fun j c o h1 h2=>by
  show (cs.map _)[j]?=_
  rw[List.getElem?_map,h1]
  show some ((s1.heap.get? c).getD default)=_
  rw[h2];rfl
 have l1:cs.length=fr.length:=List.length_map ..
 have l2:os.length=fr.length:=by rw[<-l1];exact List.length_map ..
 have mem:∀c∈cs,∃(y:Str) (j:Nat),fr[j]?=some y/\X.env.cells.lookup y=some c:=fun c m=>by
  obtain⟨j,hj,ec⟩:=List.mem_iff_getElem.mp m
  have hj':j<fr.length:=by omega
  obtain⟨c',o,i,v,u,a1,_⟩:=cell j fr[j] (List.getElem?_eq_getElem hj')
  have:=csj j _ c' (List.getElem?_eq_getElem hj') a1
  rw[List.getElem?_eq_getElem hj,ec]at this
  cases this
  exact⟨_,j,List.getElem?_eq_getElem hj',a1⟩
 have nd:cs.Nodup:=by
  refine List.nodup_iff_pairwise_ne.mpr (List.pairwise_iff_getElem.mpr fun i j hi hj hij e=>?_)
  have hi':i<fr.length:=by omega
  have hj':j<fr.length:=by omega
  obtain⟨ci,_,_,_,_,a1,_⟩:=cell i fr[i] (List.getElem?_eq_getElem hi')
  obtain⟨cj,_,_,_,_,b1,_⟩:=cell j fr[j] (List.getElem?_eq_getElem hj')
  have ei:=csj i _ ci (List.getElem?_eq_getElem hi') a1
  have ej:=csj j _ cj (List.getElem?_eq_getElem hj') b1
  rw[List.getElem?_eq_getElem hi]at ei
  rw[List.getElem?_eq_getElem hj]at ej
  have:ci=cj:=(Option.some.inj ei).symm.trans (e.trans (Option.some.inj ej))
  subst this
  have z:=I1.ok.inj _ _ _ a1 b1
  have:=(List.getElem_inj hnd).mp z
  omega
 have F:pp X.env X.N σ fr cs os:=⟨l1,l2,fun j y hy=>by
  obtain⟨c,o,i,v,u,a1,a2,a3,a4,a5,a6⟩:=cell j y hy
  have:=csj j y c hy a1
  exact⟨c,o,i,v,u,this,osj j c o this a2,a1,a3,a4,a5,a6⟩,nd⟩
 have hcn:∀c∈cs,H1 c=none:=fun c m=>by
  obtain⟨y,j,_,a⟩:=mem c m
  exact I1.freeC y c a
 have hl2:os.length=cs.length:=by omega
 have hobj:∀c o,Kn (cH cs os H1) c o->c∈cs->s1.heap.get? c=some o:=fun c o k m=>by
  obtain⟨j,o',h1,h2,h3⟩:=cZ (H:=H1) nd hl2 m
  obtain⟨y,j2,hy,a⟩:=mem c m
  obtain⟨c2,o2,i,v,u,a1,a2,_⟩:=cell j2 y hy
  rw[a]at a1
  cases a1
  have e1:=csj j2 y c hy a
  have e2:=osj j2 c o2 e1 a2
  have k2:=iI (H:=H1) nd e1 e2
  unfold Kn at k k2
  rw[k]at k2
  cases k2
  exact a2
 have old:∀c∈cs,X.s₀.heap.objs.size≤c:=fun c m=>by
  obtain⟨y,j,hy,a⟩:=mem c m
  have hj:j<is.length:=by rw[hl];exact (List.getElem?_eq_some_iff.mp hy).1
  exact I1.ok.cab y c (hfr j y is[j] hy (List.getElem?_eq_getElem hj)).2.2 a
 have hok:HOk X.prog X.w (cH cs os H1) s1.heap:=fun b u e=>by
  by_cases m:b∈cs
  ·obtain⟨j,o,h1,h2,h3⟩:=cZ (H:=H1) nd hl2 m
   have h3':cH cs os H1 b=some (.frz o aU):=h3
   rw[h3']at e
   cases e
   exact fh (hobj b o h3 m)
  ·rw[aV m]at e
   refine (I1.hok b u e).stay (fun _ _ _ q=>q) (fun c q=>?_) fun c xs q=>?_
   ·rw[aV fun mc=>by rw[hcn c mc]at q;cases q];exact q
   ·rw[aV fun mc=>by rw[hcn c mc]at q;cases q];exact q
 have E:=I1.env0
 have notB:∀{b:Addr},b<X.s₀.heap.objs.size->b∉cs:=fun {b} hb m=>absurd (Nat.lt_of_lt_of_le hb (old b m)) (Nat.lt_irrefl _)
 have frn:∀b∈cu X.stack,b∉cs:=fun b hb m=>by
  rcases List.mem_cons.mp (I1.stkSub b hb) with z | z
  ·obtain⟨y,j,_,a⟩:=mem b m
   exact I1.cne y b a z
  ·obtain⟨_,o,ho,_⟩:=I1.ok.funs.mem z
   exact notB (Heap.lt_size ho) m
 have E':Env0 X.prog X.w X.K X.mg X.base X.A X.stack s1 (cH cs os H1):=⟨E.frames,E.mod,fun b o hb=>⟨(E.bs b o hb).1,by
  rw[aV (notB (Nat.lt_of_lt_of_le (Heap.lt_size hb) I1.ok.bsz))];exact (E.bs b o hb).2⟩,E.bsz,E.funs,fun b hb=>by rw[aV (frn b hb)];exact E.frf b hb,hok,E.bare⟩
 have hq:=q cs os F hcn
 have hlen:us.length=ps.length:=by rw[<-r.length];exact G.len _ _ _ _ hq
 have hbind:=b s1 us I1.kIn (by rw[List.append_nil];exact hlen)
 rw[List.append_nil]at hbind
 have unr:∀{h2:Heap} {B:Heap} {H2:Hp},(∀c o,Kn H2 c o->B.get? c=some o->h2.get? c=some o)->HOk X.prog X.w H2 B->Un (cu X.stack) [] (cH cs os H1) H2 s1.heap h2->Un (cu X.stack) [] H1 (rem cs H2) s1.heap h2:=fun {h2 B H2} st hok2 un=>by
  have cellK:∀b o,b∈cs->s1.heap.get? b=some o->h2.get? b=some o:=fun b o m ho=>by
   obtain⟨j,o2,h1,h2',h3⟩:=cZ (H:=H1) nd hl2 m
   have e1:=hobj b o2 h3 m
   rw[ho]at e1
   cases e1
   have kn:=un.frzs b o _ h3
   exact st b o kn (Kn.get kn hok2)
  refine⟨fun b o ho n hb hx=>?_,fun b o ho n hb hx=>?_,fun b o ho n hx=>?_,un.there,fun b xs e=>?_,fun b o z e=>?_,fun b ps' e=>?_⟩
  ·by_cases m:b∈cs
   ·exact cellK b o m ho
   ·exact un.keep b o ho (by rw[aV m];exact n) hb hx
  ·by_cases m:b∈cs
   ·exact⟨o.slots,cellK b o m ho⟩
   ·exact un.slot b o ho (by rw[aV m];exact n) hb hx
  ·by_cases m:b∈cs
   ·exact ee m
   ·rw[aL m]
    exact un.free b o ho (by rw[aV m];exact n) hx
  ·have m:b∉cs:=fun m=>by rw[hcn b m]at e;cases e
   rw[aL m]
   exact un.tups b xs (by rw[aV m];exact e)
  ·have m:b∉cs:=fun m=>by rw[hcn b m]at e;cases e
   rw[aL m]
   exact un.frzs b o z (by rw[aV m];exact e)
  ·have m:b∉cs:=fun m=>by rw[hcn b m]at e;cases e
   rw[aL m]
   exact un.tbls b ps' (by rw[aV m];exact e)
 have kn2:∀{H2:Hp} {h2:Heap},Un (cu X.stack) [] (cH cs os H1) H2 s1.heap h2->∀c∈cs,∃o,Kn H2 c o:=fun {H2 h2} un c m=>by
  obtain⟨j,o,h1,h2,h3⟩:=cZ (H:=H1) nd hl2 m
  exact⟨o,un.frzs c o _ h3⟩
 refine wpAny_call (codeAny_mono (G.run X.A X.stack s1 (cH cs os H1) ⟨us,[]⟩ us vs _ _ hr E' hbind r hq) fun r' s' hq'=>?_)
 cases r' with
 | error e =>
  obtain⟨a,B,cls,a0,H',xd,rfl,os',bare,fl,hok2,un,kb,hxd,hE⟩:=hq'
  refine hx _ _ _ _ _ _ I1 ⟨a,B,cls,a0,rem cs H',xd,rfl,os',bare,fl,hok2.rem (kn2 un),unr (fun c o _ z=>fl.1 c o z) hok2 un,fun b o ho hb hx=>?_,hxd,hE⟩
  by_cases m:b∈cs
  ·obtain⟨j,o2,h1,h2,h3⟩:=cZ (H:=H1) nd hl2 m
   have e1:=hobj b o2 h3 m
   rw[ho]at e1
   cases e1
   have z:=Kn.get (un.frzs b o _ h3) hok2
   exact⟨⟨o,z⟩,fun _=>z⟩
  ·have:=kb b o ho hb hx
   rwa [aV m]at this
 | ok fl =>
  cases fl with
  | next=>exact False.elim hq'
  | brk=>exact False.elim hq'
  | cont=>exact False.elim hq'
  | ret u =>
   obtain⟨v,H2,os',bare,un,hok2,rv,qv⟩:=hq'
   exact I1.after ⟨v,rem cs H2,os',bare,unr (fun c o _ z=>z) hok2 un,hok2.rem (kn2 un),rv,qv⟩
end
section
variable {X:Cx}{e o:Expr}{es:List Expr}{t:TA}{ta:TE}{pos apos:Pos}{C:Addr}{m:Str}{k:Nat}{ps:List Str}{sp:Sp}{EX:St->XK}
end
end L2
namespace L2
open PySem PySem.Spec PyProof.Rows
section
variable {P P':Program}{w w':World}{h:Heap}{k:GK}{v:Value}{A:Around}{E:Value->Shared->Prop}{s:Shared}
theorem nB {ks:List cK}{vs:List Value}(z:ItemsAre (aE P w) ks vs):ItemsAre (aE P' w') ks vs:=by
 induction z with
 | nil=>exact .nil
 | cons a _ ih=>exact .cons a ih
theorem qk (z:bF P w h k v):bF P' w' h k v:=by
 cases k with
 | inl k=>exact z
 | inr ks =>
  obtain⟨a,rfl,o,its,n,a1,a2,a3,a4⟩:=z
  exact⟨a,rfl,o,its,n,a1,a2,a3,nB a4⟩
theorem qV {nm:String}{a b:Addr}{xs ys:GP}{ea eb:Nat}{Q:Bool->Shared->Prop}(hu:A.units<cLine)(na:(a == sysModules)=false)(nb:(b == sysModules)=false)(ga:GDict P w s.heap a xs ea)(gb:GDict P w s.heap b ys eb)(hl:xs.length=ys.length)
  (hit:∀x∈xs,∃v,i8 ys x.1=some v/\SeqAt.EqAt A s x.2.2 v true) (q:Q true s):wpAny (model P' w') A (Builtin.Dict.samePairs nm a b) Q E s:=by
 obtain⟨o1,l1,g1,_,d1,t1,k1,n1⟩:=ga
 obtain⟨o2,l2,g2,_,d2,t2,k2,n2⟩:=gb
 have z1:l1.size=xs.length:=by rw[<-Array.length_toList,t1,List.length_map]
 have z2:l2.size=ys.length:=by rw[<-Array.length_toList,t2,List.length_map]
 have at1:∀j:Nat,l1[j]?=(xs[j]?).map (iJ P w):=fun j=>by rw[<-Array.getElem?_toList,t1,List.getElem?_map]
 have at2:∀j:Nat,l2[j]?=(ys[j]?).map (iJ P w):=fun j=>by rw[<-Array.getElem?_toList,t2,List.getElem?_map]
 unfold Builtin.Dict.samePairs Builtin.Dict.showsAll
 rw[if_neg (by rw[na];exact Bool.false_ne_true),if_neg (by rw[nb];exact Bool.false_ne_true)]
 refine wpAny_bind (wpAny_pure (wpAny_bind (wpAny_pure (wpAny_bind (wpAny_dictEntries g1 d1 ?_)))))
 dsimp only
 refine wpAny_bind (wpAny_dictEntries g2 d2 ?_)
 rw[if_neg (by rw[z1,z2,hl];simp)]
 refine wpAny_bind (wpAny_dictEpoch g1 d1 (wpAny_bind ?_))
 rw[Std.Legacy.Range.forIn_eq_forIn_range']
 simp only[Std.Legacy.Range.size,Nat.sub_zero,Nat.add_sub_cancel,Nat.div_one]
 refine wpAny_forIn_list _ (fun rest r s'=>s'=s/\r=(none,())/\∃i,rest=List.range' i (l1.size-i)/\i≤l1.size) _ ?_ ?_ _ _ ⟨rfl,rfl,0,by simp,Nat.zero_le _⟩
 ·rintro i0 rest r s' ⟨rfl,rfl,i,hr,hi⟩
  have lt:i<l1.size:=by
   rcases Nat.lt_or_ge i l1.size with z | z
   ·exact z
   ·rw[Nat.sub_eq_zero_of_le z]at hr;cases hr
  rw[show l1.size-i=(l1.size-(i+1))+1 by omega,List.range'_succ]at hr
  injection hr with e1 e2
  subst e1
  have lx:i0<xs.length:=by rw[<-z1];exact lt
  obtain⟨x,ex⟩:∃x,xs[i0]?=some x:=⟨_,List.getElem?_eq_getElem lx⟩
  have mx:=List.mem_of_getElem? ex
  obtain⟨v,hv,he⟩:=hit x mx
  refine wpAny_bind (wpAny_dictEntries g1 d1 ?_)
  rw[at1 i0,ex]
  show wpAny _ _ (holding [x.2.1,x.2.2] _>>=_) _ _ _
  refine wpAny_bind (wpAny_holding (wpAny_bind ?_))
  show wpAny _ _ (dictFind b x.2.1 (iw P w x.1)) _ _ _
  refine lc (P:=P') (w:=w') (xs:=ys) (iw P w) hu (qk (k1 x mx)) g2 d2 t2 (fun y hy=>qk (k2 y hy)) n2 (fun no=>?_) fun j p hj=>?_
  ·rw[eC no]at hv;cases hv
  ·rw[cV n2 hj]at hv
   cases hv
   refine wpAny_bind (wpAny_dictEntries g2 d2 ?_)
   rw[at2 j,hj]
   refine wpAny_holding (he _ _ _ _ ?_)
   show wpAny _ _ (if (!true)=true then _ else _) _ _ _
   rw[if_neg (by decide)]
   refine wpAny_bind (wpAny_dictEpoch g1 d1 ?_)
   rw[if_neg (by simp)]
   exact wpAny_pure ⟨rfl,rfl,i0+1,e2,lt⟩
 ·rintro r s' ⟨rfl,rfl,_⟩
  exact wpAny_pure q
theorem yD {a b:Addr}{xs ys:GP}{ea eb:Nat}(hu:A.in1.units<cLine)(na:(a == sysModules)=false)(nb:(b == sysModules)=false)(ga:GDict P w s.heap a xs ea)(gb:GDict P w s.heap b ys eb)(hl:xs.length=ys.length)
  (hit:∀x∈xs,∃v,i8 ys x.1=some v/\SeqAt.EqAt A.in1 s x.2.2 v true):SeqAt.RcAt A s (.ref a) (.ref b) true:=fun prog w2 E Q q=>by
 have hu':A.units<cLine:=Nat.lt_of_succ_lt hu
 refine wpAny_richCompare_same_room (op:=.Eq) ga.typeIs gb.typeIs PySem.F.slot_dict_eq (wpAny_call_entry PySem.F.slot_dict_eq ga.typeIs PySem.F.entry_dict_eq ?_ (PySem.F.args_dict_eq_2 _ _)) hu'
 show wpAny _ _ (Builtin.Dict.dictSlotArgs "__eq__" ⟨[Value.ref a,Value.ref b],[]⟩>>=_) _ _ s
 refine wpAny_bind ?_
 unfold Builtin.Dict.dictSlotArgs
 refine wpAny_bind (wpAny_notOrdered_dict ga.typeIs ?_)
 show wpAny _ _ (pure (Value.ref a,Value.ref b)) _ _ s
 refine wpAny_pure (wpAny_bind (wpAny_isInstance (T:="dict") gb.typeIs PySem.F.sub_dict_dict ?_))
 simp only[Bool.not_true,Bool.false_eq_true,if_false]
 refine wpAny_bind (wpAny_pure (wpAny_bind (wpAny_pure (wpAny_bind (qV hu na nb ga gb hl hit ?_)))))
 exact wpAny_pure ⟨_,rfl,(fun z=>nomatch z),q⟩
end
def lI (P:Program)(w:World)(K:PySem.W.Frag)(H:Hp)(T:V->V->Prop)(a b:Addr):Prop :=
 (∃xs ys,(SqL K H a xs/\SqL K H b ys\/SqT K H a xs/\SqT K H b ys)/\xs.length=ys.length/\∀(i:Nat) u v,xs[i]?=some u->ys[i]?=some v->T u v) \/
 ∃ks ls e1 e2,GAt P w K H a ks e1/\GAt P w K H b ls e2/\ks.length=ls.length/\∀p∈ks,∃v,bg ls p.1=some v/\T p.2.2 v
def iN (P:Program)(w:World)(K:PySem.W.Frag)(H:Hp):Nat->V->V->Prop
 | 0,x,y=>∃d,DatV K H x d/\DatV K H y d/\d.canLay0=true/\d.depth≤30/\PyData.eqv d d=true
 | n+1,x,y=>iN P w K H n x y\/∃a b,x=.ref a/\y=.ref b/\a≠b/\lI P w K H (iN P w K H n) a b
section
variable {X:Cx}{pins:List (Addr×Obj)}{σ:St}{H:Hp}{s:Shared}
theorem tj {A:Around}{T:V->V->Prop}{a b:Addr}(I:Inv X pins σ H s)(hu:A.units+1<cLine)(ih:∀x y v u,RelV x v->RelV y u->T x y->SeqAt.EqAt A.in1 s v u true)(h:lI X.prog X.w X.K H T a b):SeqAt.RcAt A s (.ref a) (.ref b) true:=by
 rcases h with⟨xs,ys,hs,hl,hh⟩ | ⟨ks,ls,e1,e2,ga,gb,hl,hh⟩
 ·have core:∀{vs us:List Value},Vals xs vs->Vals ys us->∀j (h1:j<vs.toArray.size) (h2:j<us.toArray.size),SeqAt.EqAt A.in1 s vs.toArray[j] us.toArray[j] ((fun _=>true) j):=fun {vs us} r1 r2 j h1 h2=>by
   have j1:j<xs.length:=by rw[r1.length];simpa using h1
   have j2:j<ys.length:=by rw[r2.length];simpa using h2
   obtain⟨v,e1,q1⟩:=r1.get (List.getElem?_eq_getElem j1)
   obtain⟨u,e2,q2⟩:=r2.get (List.getElem?_eq_getElem j2)
   have f1:vs.toArray[j]=v:=by have:=List.getElem?_eq_some_iff.mp e1;simpa using this.2
   have f2:us.toArray[j]=u:=by have:=List.getElem?_eq_some_iff.mp e2;simpa using this.2
   rw[f1,f2]
   exact ih _ _ _ _ q1 q2 (hh j _ _ (List.getElem?_eq_getElem j1) (List.getElem?_eq_getElem j2))
  rcases hs with⟨s1,s2⟩ | ⟨s1,s2⟩
  ·obtain⟨vs,r1,i1,_⟩:=I.list s1
   obtain⟨us,r2,i2,_⟩:=I.list s2
   have hz:vs.toArray.size=us.toArray.size:=by simp[<-r1.length,<-r2.length,hl]
   have:=SeqAt.RcAt.lists i1.isList i2.isList hz (by omega) (core r1 r2)
   rwa [show (List.range vs.toArray.size).all (fun _=>true)=true by simp]at this
  ·obtain⟨vs,r1,i1,_⟩:=I.tuple s1
   obtain⟨us,r2,i2,_⟩:=I.tuple s2
   have hz:vs.toArray.size=us.toArray.size:=by simp[<-r1.length,<-r2.length,hl]
   have:=SeqAt.RcAt.tuples i1 i2 (by omega) (core r1 r2)
   rwa [show ((List.range (min vs.toArray.size us.toArray.size)).all (fun _=>true)&&vs.toArray.size == us.toArray.size)=true by rw[hz];simp]at this
 ·obtain⟨xs,da,r1⟩:=bP I ga
  obtain⟨ys,db,r2⟩:=bP I gb
  refine yD hu ga.2.2.1 gb.2.2.1 da db (by rw[<-Paired.length r1,<-Paired.length r2,hl]) fun x hx=>?_
  obtain⟨p,hp,e,_,rv⟩:=gD r1 x hx
  obtain⟨v,ev,tw⟩:=hh p hp
  rcases cO r2 p.1 with⟨z,_⟩ | ⟨v',u',z1,z2,z3⟩
  ·rw[z]at ev;cases ev
  ·rw[z1]at ev
   cases ev
   exact⟨u',by rw[<-e];exact z2,ih _ _ _ _ rv z3 tw⟩
theorem iT (I:Inv X pins σ H s):∀(n:Nat) (A:Around) (x y:V) (v u:Value),A.units+n+30<cLine->RelV x v->RelV y u->iN X.prog X.w X.K H n x y->SeqAt.EqAt A s v u true
 | 0,A,x,y,v,u,hu,rx,ry,h=>by
  obtain⟨d,h1,h2,l,hd,e⟩:=h
  obtain⟨as,ra⟩:=h1.reads I rx
  obtain⟨bs,rb⟩:=h2.reads I ry
  have:=SeqAt.eqAt_reads d d A s v u as bs ra rb l l (by omega)
  rwa [e]at this
 | n+1,A,x,y,v,u,hu,rx,ry,h=>by
  rcases h with h | ⟨a,b,rfl,rfl,ne,h⟩
  ·exact iT I n A x y v u (by omega) rx ry h
  obtain rfl:v=Value.ref a:=rx
  obtain rfl:u=Value.ref b:=ry
  have hu1:A.in1.units+n+30<cLine:=by show A.units+1+n+30<cLine;omega
  exact .of_refs ne (tj I (by omega) (fun x y v u rx ry t=>iT I n A.in1 x y v u hu1 rx ry t) h)
end
end L2
namespace L2
open PySem PySem.Spec PyProof.Rows
structure jf (K:PySem.W.Frag)(mg:Str->Option Value)(x b f:Str)(C B fi:Addr)(mc:Value):Prop where
 at_:mg x=some (.ref C)
 bat:mg b=some (.ref B)
 kp:PySem.W.keepIn K (.ref C)=true
 ex:ff K C fi=true
 fn:PySem.W.isFn K (.ref fi)=true
 ini:PySem.W.findIn K (.ref C) "__init__"=some (some (.ref fi))
 sp:PySem.W.specialIn K (.ref B) "__getattribute__"=some (some (.builtin "type.__getattribute__"))
 rd:PySem.W.readsIn K B mc=true
 fc:PySem.W.findCls K (.ref B) mc "__init__"=some (.val (.builtin "ValueError.__init__"))
 sa:PySem.W.findIn K (.ref C) "__setattr__"=some (some (.builtin "object.__setattr__"))
 ve:gu K C=true
 tk:PySem.W.takerIn K C f=some none
 hd:PySem.W.hasDictIn K C=true
theorem mW {P:Program}{w:World}{K:PySem.W.Frag}{mg:Str->Option Value}{base:Heap}{N:List Str}{qual:Str}{scope:Scope}{f:Addr}{cd:Value}{A:Around}{outer:List Env}{s₀:Shared}{H₀:Hp}{E:XK}
  {x b at0:Str} {C B fi:Addr} {mc:Value} {k:Nat} {ps:List Str} {sp:Sp} {e:Expr} {es:List Expr} {t:TA} {np cpos pos:Pos} (Z:jf K mg x b at0 C B fi mc) (D:cq P w K mg base k C "__init__" ps sp)
  (hr:Room (k+1) (aQ (bT P w) P w K mg base N qual scope f cd A outer s₀ H₀ E).A) (hg:Gl (aQ (bT P w) P w K mg base N qual scope f cd A outer s₀ H₀ E) x)
  (ha:JA (aQ (bT P w) P w K mg base N qual scope f cd A outer s₀ H₀ E) (e::es) t) (hst:al (e::es)=true:=by rfl) (hd:(x == ("__debug__":Str))=false:=by decide) :
  JS (aQ (bT P w) P w K mg base N qual scope f cd A outer s₀ H₀ E) (.Raise (some (.Call (.Name x np) (e::es) [] cpos)) none pos) (iP C sp E t):=by
 obtain⟨g,fd,M,bb,G⟩:=D.ex
 have e1:=M.at_.symm.trans Z.ini
 cases e1
 exact nj hg Z.at_ Z.kp Z.ex Z.fn G hr bb ha hst hd
theorem re {H:Hp}{e:Addr}{o o':HO}(h:H e=none):rem [e] (upd (upd H e o) e o')=H:=funext fun b=>by
 unfold rem
 by_cases z:b=e
 ·rw[if_pos (List.mem_singleton.mpr z),z,h]
 ·rw[if_neg (fun y=>z (List.mem_singleton.mp y)),ag z,ag z]
def Out (r:List Addr)(H H':Hp):Prop:=∀b u,b∉r->H b=some u->H' b=some u
section
variable {r r':List Addr}{H H1 H2 G:Hp}
theorem Out.refl:Out r H H:=fun _ _ _ e=>e
theorem Out.trans (a:Out r H H1)(b:Out r H1 H2):Out r H H2:=fun c u n e=>b c u n (a c u n e)
theorem Out.of (a:Same H H1):Out r H H1:=fun b u _ e=>a b u e
theorem Out.upd {a:Addr}{o:HO}(m:a∈r):Out r H (upd H a o):=fun b u n e=>by rw[ag fun z=>n (by rw[z];exact m)];exact e
theorem Out.new {a:Addr}{o:HO}(h:H a=none):Out r H (L2.upd H a o):=.of (ai h)
theorem Out.put {a:Addr}{o:HO}(m:a∈r)(h:Out r H H1):Out r H (L2.upd H1 a o):=h.trans (.upd m)
theorem Out.add {a:Addr}{o:HO}(hn:H1 a=none)(h:Out r H H1):Out r H (L2.upd H1 a o):=h.trans (.new hn)
theorem Out.same (h:Out r H H1)(s:Same G H)(n:∀b∈r,G b=none):Same G H1:=fun b u e=>h b u (fun m=>by rw[n b m]at e;cases e) (s b u e)
end
end L2
namespace L2
open PySem PySem.Spec PyProof.Rows
structure TB where
 plain:List (GK×Nat×Int)
 goes:List (GK->Option Nat)
 acts:List (Str->Option (Str×Nat))
structure vo (P:Program)(w:World)(K:PySem.W.Frag)(G:Hp)(pl be de:Addr)(T:TB):Prop where
 pl:∃ps,SqL K G pl ps/\∀(i:Nat) k m rl,T.plain[i]?=some (k,m,rl)->∃t p sv pv,ps[i]?=some (.ref t)/\SqT K G t [sv,.ref p,.int rl]/\KeyV K G k sv/\SqT K G p pv/\pv.length=m
 be:∃ds,SqL K G be ds/\∀(i:Nat) f,T.goes[i]?=some f->∃d kvs ep,ds[i]?=some (.ref d)/\GAt P w K G d kvs ep/\∀k,bg kvs k=(f k).map fun n=>V.int (n:Nat)
 de:∃ds,SqL K G de ds/\∀(i:Nat) f,T.acts[i]?=some f->∃d kvs ep,ds[i]?=some (.ref d)/\GAt P w K G d kvs ep/\(∀x,f x=none->bg kvs (.inl (.inr x))=none)/\∀x b m,f x=some (b,m)->∃t,bg kvs (.inl (.inr x))=some (.ref t)/\SqT K G t [.str b,.int (m:Nat)]
structure RA where
 dx:Addr
 pl:Addr
 be:Addr
 de:Addr
 st:Addr
 sp:Addr
 wy:Addr
structure RS where
 ss:List Nat
 ps:List Nat
 tr:List (Int×Nat×Nat)
def xy (a:RA):List (Str×V):=[("plain",.ref a.pl),("behind",.ref a.be),("deeds",.ref a.de),("states",.ref a.st),("spans",.ref a.sp),("way",.ref a.wy)]
def cG (l:List Nat):List V:=l.map fun n=>V.int (n:Nat)
def Wys (H:Hp):List V->List (Int×Nat×Nat)->Prop
 | [],[]=>True
 | v::r,(a,b,c)::q=>(∃t,v=.ref t/\H t=some (.tup [.int a,.int (b:Nat),.int (c:Nat)]))/\Wys H r q
 | _,_=>False
theorem Wys.same {H H':Hp}(s:∀t xs,H t=some (.tup xs)->H' t=some (.tup xs)):∀{ws:List V} {tr:List (Int×Nat×Nat)},Wys H ws tr->Wys H' ws tr
 | [],[],_=>True.intro
 | _::_,_::_,h=>let ⟨⟨t,e,q⟩,r⟩:=h;⟨⟨t,e,s _ _ q⟩,Wys.same s r⟩
theorem Wys.snoc {H:Hp}{t:Addr}{a:Int}{b c:Nat}(q:H t=some (.tup [.int a,.int (b:Nat),.int (c:Nat)])):∀{ws:List V} {tr:List (Int×Nat×Nat)},Wys H ws tr->Wys H (ws++[.ref t]) (tr++[(a,b,c)])
 | [],[],_=>⟨⟨t,rfl,q⟩,True.intro⟩
 | _::_,_::_,h=>⟨h.1,Wys.snoc q h.2⟩
theorem Wys.length {H:Hp}:∀{ws:List V} {tr:List (Int×Nat×Nat)},Wys H ws tr->ws.length=tr.length
 | [],[],_=>rfl
 | _::_,_::_,h=>congrArg (·+1) (Wys.length h.2)
structure Rdr (C:Addr)(H:Hp)(r:Addr)(a:RA)(S:RS):Prop where
 at_:H r=some (.ins C a.dx (xy a))
 st:H a.st=some (.lst (cG S.ss))
 sp:H a.sp=some (.lst (cG S.ps))
 wy:∃ws,H a.wy=some (.lst ws)/\Wys H ws S.tr
 n1:a.st≠a.sp
 n2:a.st≠a.wy
 n3:a.sp≠a.wy
 l1:S.ss.length≤100000
 l2:S.ps.length≤100000
 l3:S.tr.length≤100000
def RA.own (a:RA):List Addr:=[a.st,a.sp,a.wy]
section
variable {C:Addr}{H H':Hp}{r:Addr}{a:RA}{S:RS}
theorem Rdr.notr (h:Rdr C H r a S):r∉a.own:=fun m=>by
 have e:=h.at_
 rcases List.mem_cons.mp m with z | m
 ·rw[z,h.st]at e;cases e
 rcases List.mem_cons.mp m with z | m
 ·rw[z,h.sp]at e;cases e
 ·obtain⟨ws,w1,_⟩:=h.wy
  rw[List.mem_singleton.mp m,w1]at e;cases e
theorem Rdr.tups (h:Rdr C H r a S)(s:Out a.own H H'):∀t xs,H t=some (.tup xs)->H' t=some (.tup xs):=fun t xs e=>s t _ (fun m=>by
 rcases List.mem_cons.mp m with z | m
 ·rw[z,h.st]at e;cases e
 rcases List.mem_cons.mp m with z | m
 ·rw[z,h.sp]at e;cases e
 ·obtain⟨ws,w1,_⟩:=h.wy
  rw[List.mem_singleton.mp m,w1]at e;cases e) e
theorem Rdr.grow (h:Rdr C H r a S)(s:Same H H'):Rdr C H' r a S:=by
 obtain⟨ws,w1,w2⟩:=h.wy
 exact⟨s _ _ h.at_,s _ _ h.st,s _ _ h.sp,⟨ws,s _ _ w1,w2.same fun t xs e=>s _ _ e⟩,h.n1,h.n2,h.n3,h.l1,h.l2,h.l3⟩
theorem Rdr.sts (h:Rdr C H r a S){ss:List Nat}(l:ss.length≤100000):Rdr C (upd H a.st (.lst (cG ss))) r a { S with ss:=ss }:=by
 obtain⟨ws,w1,w2⟩:=h.wy
 have o:Out a.own H (upd H a.st (.lst (cG ss))):=.upd (by simp[RA.own])
 exact⟨o _ _ h.notr h.at_,ae,by rw[ag h.n1.symm];exact h.sp,⟨ws,by rw[ag h.n2.symm];exact w1,w2.same (h.tups o)⟩,h.n1,h.n2,h.n3,l,h.l2,h.l3⟩
theorem Rdr.sps (h:Rdr C H r a S){ps:List Nat}(l:ps.length≤100000):Rdr C (upd H a.sp (.lst (cG ps))) r a { S with ps:=ps }:=by
 obtain⟨ws,w1,w2⟩:=h.wy
 have o:Out a.own H (upd H a.sp (.lst (cG ps))):=.upd (by simp[RA.own])
 exact⟨o _ _ h.notr h.at_,by rw[ag h.n1];exact h.st,ae,⟨ws,by rw[ag h.n3.symm];exact w1,w2.same (h.tups o)⟩,h.n1,h.n2,h.n3,h.l1,l,h.l3⟩
theorem Rdr.step (h:Rdr C H r a S){ws:List V}{t:Addr}{x:Int}{y z:Nat}(w1:H a.wy=some (.lst ws))(w2:Wys H ws S.tr)(q:H t=some (.tup [.int x,.int (y:Nat),.int (z:Nat)]))(l:S.tr.length<100000) :
  Rdr C (upd H a.wy (.lst (ws++[.ref t]))) r a { S with tr:=S.tr++[(x,y,z)] }:=by
 have o:Out a.own H (upd H a.wy (.lst (ws++[.ref t]))):=.upd (by simp[RA.own])
 refine⟨o _ _ h.notr h.at_,by rw[ag h.n2];exact h.st,by rw[ag h.n3];exact h.sp,⟨_,ae,?_⟩,h.n1,h.n2,h.n3,h.l1,h.l2,by simp;omega⟩
 exact (w2.snoc q).same (h.tups o)
end
def dB (S:RS):Nat:=S.ss.getLastD 0
def g9 (T:TB)(S:RS)(kd:Str):Option (Option (Str×Nat)):=if S.ss=[] then none else (T.acts[dB S]?).map (· kd)
def el (T:TB)(S:RS)(k:GK)(n:Nat):Option RS:=if S.ss=[] then none else (T.goes[dB S]?).bind fun f=>(f k).map fun s=>{ S with ss:=S.ss++[s],ps:=S.ps++[n] }
def kX (T:TB)(S:RS)(m:Nat):Option RS:=match T.plain[m]? with
 | none=>none
 | some (sym,k,rl)=>if k≤S.ps.length/\k<S.ss.length then
   let n:=(S.ps.drop (S.ps.length-k)).sum
   let S1:RS:={ ss:=S.ss.take (S.ss.length-k),ps:=S.ps.take (S.ps.length-k),tr:=S.tr }
   el T (if rl=-1 then S1 else { S1 with tr:=S.tr++[(rl,n,dB S1)] }) sym n
  else none
def cy (T:TB)(kd:Str):Nat->RS->Option (RS×Option (Str×Nat))
 | 0,_=>none
 | n+1,S=>match g9 T S kd with
  | none=>none
  | some none=>some (S,none)
  | some (some (b,m))=>if b="reduce" then (kX T S m).bind (cy T kd n) else some (S,some (b,m))
def iS (T:TB)(f:Nat)(S:RS)(kd:Str):Option (Option RS):=match cy T kd f S with
 | none=>none
 | some (_,none)=>some none
 | some (S1,some _)=>if S1.ss=[] then none else (el T { S1 with tr:=S1.tr++[(-1,1,dB S1)] } (.inl (.inr kd)) 1).map some
end L2
namespace L2
open PySem PySem.Spec PyProof.Rows
def fG (l:List Str)(x:Str):Option Nat:=if x∈l then some (l.idxOf x) else none
theorem gR {l:List Str}{x:Str}(h:x∉l):fG l x=none:=if_neg h
theorem ez {l:List Str}{x:Str}{i:Nat}(h:fG l x=some i):x∈l/\i<l.length/\l[i]?=some x:=by
 unfold fG at h
 split at h
 ·rename_i m
  cases h
  have hl:=List.idxOf_lt_length_of_mem m
  refine⟨m,hl,?_⟩
  rw[List.getElem?_eq_getElem hl,List.getElem_idxOf hl]
 ·cases h
theorem vH {l:List Str}{x:Str}{i:Nat}(nd:l.Nodup)(h:l[i]?=some x):fG l x=some i:=by
 have m:=List.mem_of_getElem? h
 unfold fG
 rw[if_pos m]
 obtain⟨hi,e⟩:=List.getElem?_eq_some_iff.mp h
 have hl:=List.idxOf_lt_length_of_mem m
 have e2:=List.getElem_idxOf hl
 have:=(List.getElem_inj nd (h₀:=hl) (h₁:=hi)).mp (e2.trans e.symm)
 rw[this]
def bf (kinds:List Str)(sym:GK)(k:GK):Option Nat:=if k=sym then some 1 else match k with
 | .inl (.inr x)=>(fG kinds x).map (·+2)
 | _=>none
def aO (kinds:List Str)(x:Str):Option (Str×Nat):=(fG kinds x).map fun i=>("shift",i+2)
def br (b:Str)(n:Nat)(x:Str):Option (Str×Nat):=if x="end" then some (b,n) else none
def cn (kinds:List Str)(sym:GK):TB where
 plain:=(.inr [.inr "",.inl 0],1,-1)::(List.range kinds.length).map fun i=>(sym,1,((i:Nat):Int))
 goes:=bf kinds sym::(fun _=>none)::(List.range kinds.length).map fun _ _=>none
 acts:=aO kinds::br "accept" 0::(List.range kinds.length).map fun i=>br "reduce" (i+1)
def rs0:RS:=⟨[0],[],[]⟩
def nU (i:Nat):RS:=⟨[0,i+2],[1],[(-1,1,0)]⟩
def gY (i:Nat):RS:=⟨[0,1],[1],[(-1,1,0),(((i:Nat):Int),1,0)]⟩
section
variable {kinds:List Str}{sym:GK}{x y:Str}{i f:Nat}
theorem ww:g9 (cn kinds sym) rs0 x=some (aO kinds x):=rfl
theorem yj (hi:i<kinds.length):g9 (cn kinds sym) (nU i) x=some (br "reduce" (i+1) x):=by
 show (if [0,i+2]=[] then none else ((cn kinds sym).acts[i+2]?).map (· x))=_
 rw[if_neg (by simp)]
 show (((List.range kinds.length).map fun i=>br "reduce" (i+1))[i]?).map (· x)=_
 rw[List.getElem?_map,List.getElem?_range hi]
 rfl
theorem xb:g9 (cn kinds sym) (gY i) x=some (br "accept" 0 x):=rfl
theorem sk:cy (cn kinds sym) x (f+1) rs0=some (rs0,aO kinds x):=by
 unfold cy
 rw[ww]
 unfold aO
 cases fG kinds x with
 | none=>rfl
 | some i=>rfl
theorem ze (h:fG kinds x=some i)(hx:sym≠.inl (.inr x)){tr:List (Int×Nat×Nat)}:el (cn kinds sym) ⟨[0],[],tr⟩ (.inl (.inr x)) 1=some ⟨[0,i+2],[1],tr⟩:=by
 unfold el
 rw[if_neg (by simp)]
 show (bf kinds sym (.inl (.inr x))).map _=_
 unfold bf
 rw[if_neg (Ne.symm hx)]
 dsimp only
 rw[h]
 rfl
theorem xl (h:fG kinds x=some i)(hx:sym≠.inl (.inr x)):iS (cn kinds sym) (f+1) rs0 x=some (some (nU i)):=by
 unfold iS
 rw[sk]
 unfold aO
 rw[h]
 dsimp only[Option.map_some]
 rw[if_neg (by decide)]
 show (el (cn kinds sym) ⟨[0],[],[(-1,1,0)]⟩ (.inl (.inr x)) 1).map some=_
 rw[ze h hx]
 rfl
theorem zc (hi:i<kinds.length):kX (cn kinds sym) (nU i) (i+1)=some (gY i):=by
 unfold kX
 have e:(cn kinds sym).plain[i+1]?=some (sym,1,((i:Nat):Int)):=by
  show ((List.range kinds.length).map fun i=>(sym,1,((i:Nat):Int)))[i]?=_
  rw[List.getElem?_map,List.getElem?_range hi]
  rfl
 rw[e]
 dsimp only
 rw[if_pos (by simp[nU])]
 rw[if_neg (by omega)]
 show el (cn kinds sym) ⟨[0],[],[(-1,1,0),(((i:Nat):Int),1,0)]⟩ sym 1=_
 unfold el
 rw[if_neg (by simp)]
 show (bf kinds sym sym).map _=_
 unfold bf
 rw[if_pos rfl]
 rfl
theorem zd (hi:i<kinds.length):cy (cn kinds sym) "end" (f+2) (nU i)=some (gY i,some (("accept":Str),0)):=by
 unfold cy
 rw[yj hi]
 unfold br
 rw[if_pos rfl]
 dsimp only
 rw[if_pos rfl,zc hi,Option.bind_some]
 unfold cy
 rw[xb]
 unfold br
 rw[if_pos rfl]
 dsimp only
 rw[if_neg (by decide)]
def gl (kinds:List Str):List Str->Option RS
 | [x]=>(fG kinds x).map gY
 | _=>none
end
end L2
namespace L2
open PySem PySem.Spec PyProof.Rows
mutual
inductive TDat (K:PySem.W.Frag)(H:Hp):V->PyData->Prop
 | int (i:Int):TDat K H (.int i) (.int i)
 | str (x:Str):TDat K H (.str x) (.str x)
 | tuple {a:Addr} {xs:List V} {ds:List PyData}:SqT K H a xs->TDats K H xs ds->TDat K H (.ref a) (.tuple ds)
inductive TDats (K:PySem.W.Frag)(H:Hp):List V->List PyData->Prop
 | nil:TDats K H [] []
 | cons {x:V} {xs:List V} {d:PyData} {ds:List PyData}:TDat K H x d->TDats K H xs ds->TDats K H (x::xs) (d::ds)
end
section
variable {K:PySem.W.Frag}{H H':Hp}
mutual
theorem TDat.keeps (s:aT K H H'):∀{x:V} {d:PyData},TDat K H x d->TDat K H' x d
 | _,_,.int i=>.int i
 | _,_,.str x=>.str x
 | _,_,.tuple h hs=>.tuple (s _ _ h) (TDats.keeps s hs)
theorem TDats.keeps (s:aT K H H'):∀{xs:List V} {ds:List PyData},TDats K H xs ds->TDats K H' xs ds
 | _,_,.nil=>.nil
 | _,_,.cons h hs=>.cons (TDat.keeps s h) (TDats.keeps s hs)
end
mutual
theorem TDat.dat:∀{x:V} {d:PyData},TDat K H x d->DatV K H x d
 | _,_,.int i=>.int i
 | _,_,.str x=>.str x
 | _,_,.tuple h hs=>.tuple h (TDats.dat hs)
theorem TDats.dat:∀{xs:List V} {ds:List PyData},TDats K H xs ds->DatVs K H xs ds
 | _,_,.nil=>.nil
 | _,_,.cons h hs=>.cons (TDat.dat h) (TDats.dat hs)
end
theorem TDats.snoc {x:V}{d:PyData}(h:TDat K H x d):∀{xs:List V} {ds:List PyData},TDats K H xs ds->TDats K H (xs++[x]) (ds++[d])
 | _,_,.nil=>.cons h .nil
 | _,_,.cons h' hs=>.cons h' (TDats.snoc h hs)
theorem TDats.get:∀{xs:List V} {ds:List PyData} {i:Nat} {d:PyData},TDats K H xs ds->ds[i]?=some d->∃x,xs[i]?=some x/\TDat K H x d
 | _,_,_,_,.nil,e=>by simp at e
 | _,_,0,_,.cons h _,e=>by simp at e;subst e;exact⟨_,rfl,h⟩
 | _,_,i+1,d,.cons _ hs,e=>by
  obtain⟨x,h1,h2⟩:=TDats.get (i:=i) (d:=d) hs (by simpa using e)
  exact⟨x,by simpa using h1,h2⟩
theorem TDats.length:∀{xs:List V} {ds:List PyData},TDats K H xs ds->xs.length=ds.length
 | _,_,.nil=>rfl
 | _,_,.cons _ hs=>congrArg (·+1) (TDats.length hs)
end
structure mF (d:PyData):Prop where
 lay:d.canLay0=true
 dep:d.depth≤30
 eqv:PyData.eqv d d=true
def DG (P:Program)(w:World)(K:PySem.W.Frag)(H:Hp)(d:Addr)(f:GK->Option PyData)(n:Nat):Prop :=
 ∃kvs ep,GAt P w K H d kvs ep/\kvs.length=n/\(∀k,f k=none->bg kvs k=none)/\∀k x,f k=some x->∃v,bg kvs k=some v/\TDat K H v x
section
variable {P:Program}{w:World}{K:PySem.W.Frag}{H H':Hp}{d a b:Addr}{f:GK->Option PyData}{n:Nat}
theorem DG.keeps (h:DG P w K H d f n)(s:aT K H H')(e:H' d=H d):DG P w K H' d f n:=by
 obtain⟨kvs,ep,g,l,n1,n2⟩:=h
 exact⟨kvs,ep,g.keeps s e,l,n1,fun k x z=>let ⟨v,a,b⟩:=n2 k x z;⟨v,a,b.keeps s⟩⟩
theorem DG.same (h:DG P w K H d f n)(s:Same H H'):DG P w K H' d f n:=by
 obtain⟨kvs,ep,g,l,n1,n2⟩:=h
 exact⟨kvs,ep,g.same s,l,n1,fun k x z=>let ⟨v,a,b⟩:=n2 k x z;⟨v,a,b.keeps s.keepsT⟩⟩
theorem DG.ext (h:DG P w K H d f n):∃φ,H d=some (.ext φ):=let ⟨_,_,g,_⟩:=h;⟨_,g.1⟩
theorem fq:∀{kvs:GV} {p:GK×V×V},(kvs.map (·.1)).Nodup->p∈kvs->bg kvs p.1=some p.2.2
 | x::r,p,nd,m=>by
  rw[List.map_cons,List.nodup_cons]at nd
  unfold bg
  rw[List.find?_cons]
  rcases List.mem_cons.mp m with z | z
  ·subst z
   simp
  ·have ne:¬ x.1=p.1:=fun y=>nd.1 (by rw[y];exact List.mem_map_of_mem z)
   rw[decide_eq_false ne]
   exact fq nd.2 z
theorem DG.twin (ha:DG P w K H a f n)(hb:DG P w K H b f n)(fit:∀k x,f k=some x->mF x):lI P w K H (iN P w K H 0) a b:=by
 obtain⟨ks,e1,g1,l1,n1,y1⟩:=ha
 obtain⟨ls,e2,g2,l2,n2,y2⟩:=hb
 refine .inr ⟨ks,ls,e1,e2,g1,g2,l1.trans l2.symm,fun p hp=>?_⟩
 have hv:=fq g1.2.1 hp
 cases e:f p.1 with
 | none=>rw[n1 _ e]at hv;cases hv
 | some x =>
  obtain⟨v,h1,h2⟩:=y1 _ _ e
  rw[hv]at h1
  cases h1
  obtain⟨v',h3,h4⟩:=y2 _ _ e
  have F:=fit _ _ e
  exact⟨v',h3,x,h2.dat,h4.dat,F.lay,F.dep,F.eqv⟩
end
inductive DGs (P:Program)(w:World)(K:PySem.W.Frag)(H:Hp):List V->List ((GK->Option PyData)×Nat)->Prop
 | nil:DGs P w K H [] []
 | cons {d:Addr} {vs:List V} {f:GK->Option PyData} {n:Nat} {fs:List ((GK->Option PyData)×Nat)}:DG P w K H d f n->DGs P w K H vs fs->DGs P w K H (.ref d::vs) ((f,n)::fs)
section
variable {P:Program}{w:World}{K:PySem.W.Frag}{H H':Hp}
theorem DGs.keeps (s:aT K H H'):∀{vs:List V} {fs:List ((GK->Option PyData)×Nat)},(∀d,V.ref d∈vs->H' d=H d)->DGs P w K H vs fs->DGs P w K H' vs fs
 | _,_,_,.nil=>.nil
 | _,_,e,.cons h hs=>.cons (h.keeps s (e _ List.mem_cons_self)) (DGs.keeps s (fun d m=>e d (List.mem_cons_of_mem _ m)) hs)
theorem DGs.same (s:Same H H'):∀{vs:List V} {fs:List ((GK->Option PyData)×Nat)},DGs P w K H vs fs->DGs P w K H' vs fs
 | _,_,.nil=>.nil
 | _,_,.cons h hs=>.cons (h.same s) (DGs.same s hs)
theorem DGs.snoc {d:Addr}{f:GK->Option PyData}{n:Nat}(h:DG P w K H d f n):∀{vs:List V} {fs:List ((GK->Option PyData)×Nat)},DGs P w K H vs fs->DGs P w K H (vs++[.ref d]) (fs++[(f,n)])
 | _,_,.nil=>.cons h .nil
 | _,_,.cons h' hs=>.cons h' (DGs.snoc h hs)
theorem DGs.get:∀{vs:List V} {fs:List ((GK->Option PyData)×Nat)} {i:Nat} {f:GK->Option PyData} {n:Nat},DGs P w K H vs fs->fs[i]?=some (f,n)->∃d,vs[i]?=some (.ref d)/\DG P w K H d f n
 | _,_,_,_,_,.nil,e=>by simp at e
 | _,_,0,_,_,.cons h _,e=>by simp at e;obtain⟨rfl,rfl⟩:=e;exact⟨_,rfl,h⟩
 | _,_,i+1,f,n,.cons _ hs,e=>by
  obtain⟨d,h1,h2⟩:=DGs.get (i:=i) (f:=f) (n:=n) hs (by simpa using e)
  exact⟨d,by simpa using h1,h2⟩
theorem DGs.length:∀{vs:List V} {fs:List ((GK->Option PyData)×Nat)},DGs P w K H vs fs->vs.length=fs.length
 | _,_,.nil=>rfl
 | _,_,.cons _ hs=>congrArg (·+1) (DGs.length hs)
theorem DGs.ext:∀{vs:List V} {fs:List ((GK->Option PyData)×Nat)} {d:Addr},DGs P w K H vs fs->V.ref d∈vs->∃φ,H d=some (.ext φ)
 | _,_,d,.nil,m=>nomatch m
 | _,_,d,.cons h hs,m=>by
  rcases List.mem_cons.mp m with z | z
  ·cases z;exact h.ext
  ·exact DGs.ext hs z
end
def bO (so:Str)(rk:Int):PyData:=.tuple [.str so,.int rk]
def i9 (so:Str)(rk:Int)(kinds:List Str):List PyData:=.tuple [bO "" 0,.tuple [bO so rk],.int (-1)]::(List.range kinds.length).map fun i=>.tuple [bO so rk,.tuple [.str (kinds.getD i "")],.int (i:Nat)]
def bA (so:Str)(rk:Int):GK:=.inr [.inr so,.inl rk]
def bR (f:GK->Option Nat)(k:GK):Option PyData:=(f k).map fun n=>.int (n:Nat)
def cw (f:Str->Option (Str×Nat))(k:GK):Option PyData:=match k with
 | .inl (.inr x)=>(f x).map fun q=>.tuple [.str q.1,.int (q.2:Nat)]
 | _=>none
def nI (so:Str)(rk:Int)(kinds:List Str):List ((GK->Option PyData)×Nat):=(bR (bf kinds (bA so rk)),kinds.length+1)::(bR fun _=>none,0)::(List.range kinds.length).map fun _=>(bR fun _=>none,0)
def vU (kinds:List Str):List ((GK->Option PyData)×Nat):=(cw (aO kinds),kinds.length)::(cw (br "accept" 0),1)::(List.range kinds.length).map fun i=>(cw (br "reduce" (i+1)),1)
structure Tab1 (P:Program)(w:World)(K:PySem.W.Frag)(H:Hp)(t pl be de:Addr)(so:Str)(rk:Int)(kinds:List Str):Prop where
 t:H t=some (.tup [.ref pl,.ref be,.ref de])
 pl:∃ps,H pl=some (.lst ps)/\TDats K H ps (i9 so rk kinds)
 be:∃gs,H be=some (.lst gs)/\DGs P w K H gs (nI so rk kinds)
 de:∃as,H de=some (.lst as)/\DGs P w K H as (vU kinds)
section
variable {P:Program}{w:World}{K:PySem.W.Frag}{H H':Hp}{t pl be de t' pl' be' de':Addr}{so:Str}{rk:Int}{kinds:List Str}
theorem Tab1.same (h:Tab1 P w K H t pl be de so rk kinds)(s:Same H H'):Tab1 P w K H' t pl be de so rk kinds:=by
 obtain⟨ps,p1,p2⟩:=h.pl
 obtain⟨gs,g1,g2⟩:=h.be
 obtain⟨as,a1,a2⟩:=h.de
 exact⟨s _ _ h.t,⟨ps,s _ _ p1,p2.keeps s.keepsT⟩,⟨gs,s _ _ g1,g2.same s⟩,⟨as,s _ _ a1,a2.same s⟩⟩
theorem iA {v:V}{x y:PyData}(h:TDat K H v (.tuple [x,y])):∃t a b,v=.ref t/\SqT K H t [a,b]/\TDat K H a x/\TDat K H b y:=by
 cases h with
 | tuple h hs =>
  cases hs with
  | cons h1 hs =>
   cases hs with
   | cons h2 hs =>
    cases hs
    exact⟨_,_,_,rfl,h,h1,h2⟩
theorem di {v:V}{i:Int}(h:TDat K H v (.int i)):v=.int i:=by cases h;rfl
theorem jh {v:V}{x:Str}(h:TDat K H v (.str x)):v=.str x:=by cases h;rfl
theorem jl {v:V}(h:TDat K H v (bO so rk)):KeyV K H (bA so rk) v:=by
 obtain⟨t,a,b,rfl,hs,h1,h2⟩:=iA h
 rw[jh h1,di h2]at hs
 exact⟨t,rfl,hs⟩
theorem DGs.num {vs:List V}{fs:List ((GK->Option PyData)×Nat)}{gs:List (GK->Option Nat)}(h:DGs P w K H vs fs)(e:fs.map (·.1)=gs.map bR):∀(i:Nat) f,gs[i]?=some f->∃d kvs ep,vs[i]?=some (.ref d)/\GAt P w K H d kvs ep/\∀k,bg kvs k=(f k).map fun n=>V.int (n:Nat):=fun i f hf=>by
 have h1:(fs.map (·.1))[i]?=some (bR f):=by rw[e,List.getElem?_map,hf];rfl
 rw[List.getElem?_map]at h1
 obtain⟨⟨f',n⟩,h2,h3⟩:=Option.map_eq_some_iff.mp h1
 have h3':f'=bR f:=h3
 subst h3'
 obtain⟨d,d1,kvs,ep,g,_,n1,n2⟩:=h.get h2
 refine⟨d,kvs,ep,d1,g,fun k=>?_⟩
 cases z:f k with
 | none=>exact n1 k (by unfold bR;rw[z];rfl)
 | some n =>
  obtain⟨v,v1,v2⟩:=n2 k (.int (n:Nat)) (by unfold bR;rw[z];rfl)
  rw[v1,di v2]
  rfl
theorem Tab1.tabs (h:Tab1 P w K H t pl be de so rk kinds):vo P w K H pl be de (cn kinds (bA so rk)):=by
 obtain⟨ps,p1,p2⟩:=h.pl
 obtain⟨gs,g1,g2⟩:=h.be
 obtain⟨as,a1,a2⟩:=h.de
 refine⟨⟨ps,SqL.of p1,fun i k m rl e=>?_⟩,⟨gs,SqL.of g1,g2.num ?_⟩,⟨as,SqL.of a1,fun i f e=>?_⟩⟩
 ·have key:∃so' rk' x,(i9 so rk kinds)[i]?=some (.tuple [bO so' rk',.tuple [x],.int rl])/\k=bA so' rk'/\m=1:=by
   cases i with
   | zero =>
    cases e
    exact⟨"",0,_,rfl,rfl,rfl⟩
   | succ i =>
    have e':((List.range kinds.length).map fun i=>(bA so rk,1,((i:Nat):Int)))[i]?=some (k,m,rl):=e
    rw[List.getElem?_map]at e'
    obtain⟨j,e1,e2⟩:=Option.map_eq_some_iff.mp e'
    cases e2
    refine⟨so,rk,.str (kinds.getD j ""),?_,rfl,rfl⟩
    show ((List.range kinds.length).map fun i=>PyData.tuple [bO so rk,.tuple [.str (kinds.getD i "")],.int (i:Nat)])[i]?=_
    rw[List.getElem?_map,e1]
    rfl
  obtain⟨so',rk',x,h1,rfl,rfl⟩:=key
  obtain⟨v,hv,hd⟩:=p2.get h1
  cases hd with
  | tuple q0 q1 =>
   cases q1 with
   | cons q2 q1 =>
    cases q1 with
    | cons q3 q1 =>
     cases q1 with
     | cons q4 q1 =>
      cases q1
      cases q3 with
      | tuple r0 r1 =>
       rw[di q4]at q0
       exact⟨_,_,_,_,hv,q0,jl q2,r0,r1.length⟩
 ·show (nI so rk kinds).map (·.1)=(cn kinds (bA so rk)).goes.map bR
  simp[nI,cn]
 ·have key:∃n,(vU kinds)[i]?=some (cw f,n):=by
   match i,e with
   | 0,e=>cases e;exact⟨_,rfl⟩
   | 1,e=>cases e;exact⟨_,rfl⟩
   | i+2,e =>
    have e':((List.range kinds.length).map fun i=>br "reduce" (i+1))[i]?=some f:=e
    rw[List.getElem?_map]at e'
    obtain⟨j,e1,e2⟩:=Option.map_eq_some_iff.mp e'
    subst e2
    refine⟨1,?_⟩
    show ((List.range kinds.length).map fun i=>(cw (br "reduce" (i+1)),1))[i]?=_
    rw[List.getElem?_map,e1]
    rfl
  obtain⟨n,hn⟩:=key
  obtain⟨d,d1,kvs,ep,g,_,n1,n2⟩:=a2.get hn
  refine⟨d,kvs,ep,d1,g,fun x z=>n1 _ (by show (f x).map _=none;rw[z];rfl),fun x b m z=>?_⟩
  obtain⟨v,v1,v2⟩:=n2 (.inl (.inr x)) (.tuple [.str b,.int (m:Nat)]) (by show (f x).map _=_;rw[z];rfl)
  obtain⟨t,a',b',rfl,hs,h1,h2⟩:=iA v2
  rw[jh h1,di h2]at hs
  exact⟨t,v1,hs⟩
end
end L2
namespace L2
open PySem PySem.Spec PyProof.Rows
section
variable {P:Program}{w:World}{K:PySem.W.Frag}{H H':Hp}{d:Addr}{f g:GK->Option PyData}{n:Nat}
theorem DG.congr (h:DG P w K H d f n)(e:∀k,f k=g k):DG P w K H d g n:=by
 rw[show g=f from funext fun k=>(e k).symm]
 exact h
theorem DG.new (hs:(d == sysModules)=false)(e:∀k,f k=none):DG P w K (upd H d (aN P w d [] 0)) d f 0 :=
 ⟨[],0,GAt.new hs,rfl,fun _ _=>rfl,fun k x z=>by rw[e]at z;cases z⟩
theorem DG.put {kvs:GV}{ep ep':Nat}{k:GK}{y v:V}{x:PyData}(ga:GAt P w K H d kvs ep)(l:kvs.length=n)(n1:∀k,f k=none->bg kvs k=none)(n2:∀k x,f k=some x->∃v,bg kvs k=some v/\TDat K H v x)
  (hk:KeyV K H k y) (hv:TDat K H v x) (fk:f k=none) (hn:n<1000):DG P w K (upd H d (aN P w d (bh kvs k y v) ep')) d (fun j=>if j=k then some x else f j) (n+1):=by
 have kp:aT K H (upd H d (aN P w d (bh kvs k y v) ep')):=bN ga.1
 refine⟨_,ep',ga.put hk (by omega) ep',?_,fun j z=>?_,fun j x' z=>?_⟩
 ·unfold bh
  rw[n1 k fk]
  simp[l]
 ·rw[dH]
  dsimp only at z
  split at z
  ·cases z
  ·rename_i h;rw[if_neg h];exact n1 j z
 ·rw[dH]
  dsimp only at z
  split at z
  ·rename_i h
   cases z
   exact⟨v,by rw[if_pos h],hv.keeps kp⟩
  ·rename_i h
   obtain⟨v',a,b⟩:=n2 j x' z
   exact⟨v',by rw[if_neg h];exact a,b.keeps kp⟩
theorem DG.one {k:GK}{y v:V}{x:PyData}{ep ep':Nat}(ga:GAt P w K H d [] ep)(hk:KeyV K H k y)(hv:TDat K H v x):DG P w K (upd H d (aN P w d [(k,y,v)] ep')) d (fun j=>if j=k then some x else none) 1 :=
 DG.put (f:=fun _=>none) (n:=0) ga rfl (fun _ _=>rfl) (fun _ _ z=>by cases z) hk hv rfl (by decide)
end
section
variable {ks:List Str}{x y:Str}{so:Str}{rk:Int}
theorem qc:i9 so rk (ks++[x])=i9 so rk ks++[.tuple [bO so rk,.tuple [.str x],.int (ks.length:Nat)]]:=by
 unfold i9
 rw[List.length_append,List.length_singleton,List.range_succ,List.map_append,List.cons_append]
 congr 1
 congr 1
 ·refine List.map_congr_left fun i hi=>?_
  have:=List.mem_range.mp hi
  simp[List.getElem?_append_left this]
 ·simp
theorem jd (h:x∉ks):fG (ks++[x]) y=if y=x then some ks.length else fG ks y:=by
 unfold fG
 by_cases e:y=x
 ·subst e
  rw[if_pos (by simp),if_pos rfl,List.idxOf_append,if_neg h]
  simp
 ·rw[if_neg e]
  by_cases m:y∈ks
  ·rw[if_pos (by simp[m]),if_pos m,List.idxOf_append,if_pos m]
  ·rw[if_neg (by simp[m,e]),if_neg m]
theorem nv (h:x∉ks)(k:GK):bR (bf (ks++[x]) (bA so rk)) k=if k=.inl (.inr x) then some (.int ((ks.length+2:Nat):Int)) else bR (bf ks (bA so rk)) k:=by
 unfold bR bf
 by_cases hs:k=bA so rk
 ·subst hs
  rw[if_pos rfl,if_pos rfl,if_neg (fun z=>nomatch z)]
 ·rw[if_neg hs,if_neg hs]
  match k with
  | .inl (.inr y) =>
   dsimp only
   rw[jd h]
   by_cases e:y=x
   ·rw[if_pos e,if_pos (by rw[e])];rfl
   ·rw[if_neg e,if_neg (fun z=>e (by injection z with z;injection z))]
  | .inl (.inl _)=>rw[if_neg (fun z=>by injection z with z;cases z)]
  | .inr _=>rw[if_neg (fun z=>nomatch z)]
theorem kU (h:x∉ks)(k:GK):cw (aO (ks++[x])) k=if k=.inl (.inr x) then some (.tuple [.str "shift",.int ((ks.length+2:Nat):Int)]) else cw (aO ks) k:=by
 unfold cw aO
 match k with
 | .inl (.inr y) =>
  dsimp only
  rw[jd h]
  by_cases e:y=x
  ·rw[if_pos e,if_pos (by rw[e])];rfl
  ·rw[if_neg e,if_neg (fun z=>e (by injection z with z;injection z))]
 | .inl (.inl _)=>rw[if_neg (fun z=>by injection z with z;cases z)]
 | .inr _=>rw[if_neg (fun z=>nomatch z)]
theorem qr (k:GK):bR (bf [] (bA so rk)) k=if k=bA so rk then some (.int ((1:Nat):Int)) else none:=by
 unfold bR bf
 by_cases hs:k=bA so rk
 ·rw[if_pos hs,if_pos hs];rfl
 ·rw[if_neg hs,if_neg hs]
  match k with
  | .inl (.inr y)=>rfl
  | .inl (.inl _)=>rfl
  | .inr _=>rfl
theorem lF (b:Str)(n:Nat)(k:GK):cw (br b n) k=if k=.inl (.inr "end") then some (.tuple [.str b,.int (n:Nat)]) else none:=by
 unfold cw br
 match k with
 | .inl (.inr y) =>
  dsimp only
  by_cases e:y="end"
  ·rw[if_pos e,if_pos (by rw[e])];rfl
  ·rw[if_neg e,if_neg (fun z=>e (by injection z with z;injection z))];rfl
 | .inl (.inl _)=>rw[if_neg (fun z=>by injection z with z;cases z)]
 | .inr _=>rw[if_neg (fun z=>nomatch z)]
end
def ut (n:Nat):List ((GK->Option PyData)×Nat):=(List.range n).map fun _=>(bR fun _=>none,0)
def wM (n:Nat):List ((GK->Option PyData)×Nat):=(cw (br "accept" 0),1)::(List.range n).map fun i=>(cw (br "reduce" (i+1)),1)
def gK (H:Hp)(g0 a0:Addr)(vs:List V):Prop:=∀d,V.ref d∈vs->d≠g0/\d≠a0/\H d=none
structure TbI (P:Program)(w:World)(K:PySem.W.Frag)(H H':Hp)(pl be de g0 a0:Addr)(so:Str)(rk:Int)(k1 k2 k4:List Str)(n3 n5:Nat):Prop where
 sm:Same H H'
 fp:∃ps,H' pl=some (.lst ps)/\TDats K H' ps (i9 so rk k1)
 fb:∃gs,H' be=some (.lst (.ref g0::gs))/\DGs P w K H' gs (ut n3)/\gK H g0 a0 gs
 fg:DG P w K H' g0 (bR (bf k2 (bA so rk))) (k2.length+1)
 fd:∃as,H' de=some (.lst (.ref a0::as))/\DGs P w K H' as (wM n5)/\gK H g0 a0 as
 fa:DG P w K H' a0 (cw (aO k4)) k4.length
 m1:H pl=none
 m2:H be=none
 m3:H de=none
 m4:H g0=none
 m5:H a0=none
 d1:pl≠be
 d2:pl≠de
 d3:be≠de
 d4:g0≠a0
section
variable {P:Program}{w:World}{K:PySem.W.Frag}{H H1 H2:Hp}{pl be de g0 a0:Addr}{so:Str}{rk:Int}{k1 k2 k4:List Str}{n3 n5:Nat}
theorem TbI.grow (h:TbI P w K H H1 pl be de g0 a0 so rk k1 k2 k4 n3 n5)(s:Same H1 H2):TbI P w K H H2 pl be de g0 a0 so rk k1 k2 k4 n3 n5:=by
 obtain⟨ps,p1,p2⟩:=h.fp
 obtain⟨gs,g1,g2,g3⟩:=h.fb
 obtain⟨as,a1,a2,a3⟩:=h.fd
 exact { h with sm:=h.sm.trans s,fp:=⟨ps,s _ _ p1,p2.keeps s.keepsT⟩,fb:=⟨gs,s _ _ g1,g2.same s,g3⟩,fg:=h.fg.same s,fd:=⟨as,s _ _ a1,a2.same s,a3⟩,fa:=h.fa.same s }
theorem jj {H H1:Hp}{z:Addr}{o:HO}(s:Same H H1)(n:H z=none):Same H (upd H1 z o):=Out.same (r:=[z]) (.upd (by simp)) s (fun b m=>by rw[List.mem_singleton.mp m];exact n)
theorem DG.ne_lst {d b:Addr}{f:GK->Option PyData}{n:Nat}{xs:List V}(h:DG P w K H d f n)(e:H b=some (.lst xs)):d≠b:=fun z=>by
 obtain⟨φ,q⟩:=h.ext
 rw[z,e]at q
 cases q
theorem DGs.ne_lst {d b:Addr}{vs:List V}{fs:List ((GK->Option PyData)×Nat)}{xs:List V}(h:DGs P w K H vs fs)(m:V.ref d∈vs)(e:H b=some (.lst xs)):d≠b:=fun z=>by
 obtain⟨φ,q⟩:=h.ext m
 rw[z,e]at q
 cases q
theorem TbI.onPl (h:TbI P w K H H1 pl be de g0 a0 so rk k1 k2 k4 n3 n5){ps:List V}{v:V}{x:Str}(e:H1 pl=some (.lst ps))(hp:TDats K H1 ps (i9 so rk k1))(hv:TDat K H1 v (.tuple [bO so rk,.tuple [.str x],.int (k1.length:Nat)])) :
  TbI P w K H (upd H1 pl (.lst (ps++[v]))) pl be de g0 a0 so rk (k1++[x]) k2 k4 n3 n5:=by
 obtain⟨gs,g1,g2,g3⟩:=h.fb
 obtain⟨as,a1,a2,a3⟩:=h.fd
 have kp:aT K H1 (upd H1 pl (.lst (ps++[v]))):=cQ e
 refine { h with sm:=jj h.sm h.m1,fp:=⟨_,ae,?_⟩,fb:=⟨gs,by rw[ag h.d1.symm];exact g1,g2.keeps kp (fun d m=>ag (g2.ne_lst m e)),g3⟩,fg:=h.fg.keeps kp (ag (h.fg.ne_lst e)),fd:=⟨as,by rw[ag h.d2.symm];exact a1,a2.keeps kp (fun d m=>ag (a2.ne_lst m e)),a3⟩,fa:=h.fa.keeps kp (ag (h.fa.ne_lst e)) }
 rw[qc]
 exact (hp.keeps kp).snoc (hv.keeps kp)
theorem oA (n:Nat):ut (n+1)=ut n++[(bR fun _=>none,0)]:=by unfold ut;rw[List.range_succ,List.map_append];rfl
theorem pV (n:Nat):wM (n+1)=wM n++[(cw (br "reduce" (n+1)),1)]:=by unfold wM;rw[List.range_succ,List.map_append];rfl
theorem gQ {H:Hp}{d:Addr}{vs:List V}(h:gK H g0 a0 vs)(q:d≠g0/\d≠a0/\H d=none):gK H g0 a0 (vs++[.ref d]):=fun c m=>by
 rcases List.mem_append.mp m with z | z
 ·exact h c z
 ·have e:V.ref c=V.ref d:=List.mem_singleton.mp z
  cases e
  exact q
theorem TbI.onBe (h:TbI P w K H H1 pl be de g0 a0 so rk k1 k2 k4 n3 n5){gs:List V}{d:Addr}(e:H1 be=some (.lst (.ref g0::gs)))(hg:DGs P w K H1 gs (ut n3))(ha:gK H g0 a0 gs)(hd:DG P w K H1 d (bR fun _=>none) 0)(q:d≠g0/\d≠a0/\H d=none) :
  TbI P w K H (upd H1 be (.lst ((.ref g0::gs)++[.ref d]))) pl be de g0 a0 so rk k1 k2 k4 (n3+1) n5:=by
 obtain⟨ps,p1,p2⟩:=h.fp
 obtain⟨as,a1,a2,a3⟩:=h.fd
 have kp:aT K H1 (upd H1 be (.lst ((.ref g0::gs)++[.ref d]))):=cQ e
 refine { h with sm:=jj h.sm h.m2,fp:=⟨ps,by rw[ag h.d1];exact p1,p2.keeps kp⟩,fb:=⟨gs++[.ref d],ae,?_,gQ ha q⟩,fg:=h.fg.keeps kp (ag (h.fg.ne_lst e)),fd:=⟨as,by rw[ag h.d3.symm];exact a1,a2.keeps kp (fun d m=>ag (a2.ne_lst m e)),a3⟩,fa:=h.fa.keeps kp (ag (h.fa.ne_lst e)) }
 rw[oA]
 exact (hg.keeps kp (fun d m=>ag (hg.ne_lst m e))).snoc (hd.keeps kp (ag (hd.ne_lst e)))
theorem TbI.onDe (h:TbI P w K H H1 pl be de g0 a0 so rk k1 k2 k4 n3 n5){as:List V}{d:Addr}(e:H1 de=some (.lst (.ref a0::as)))(hg:DGs P w K H1 as (wM n5))(ha:gK H g0 a0 as)(hd:DG P w K H1 d (cw (br "reduce" (n5+1))) 1)(q:d≠g0/\d≠a0/\H d=none) :
  TbI P w K H (upd H1 de (.lst ((.ref a0::as)++[.ref d]))) pl be de g0 a0 so rk k1 k2 k4 n3 (n5+1):=by
 obtain⟨ps,p1,p2⟩:=h.fp
 obtain⟨gs,g1,g2,g3⟩:=h.fb
 have kp:aT K H1 (upd H1 de (.lst ((.ref a0::as)++[.ref d]))):=cQ e
 refine { h with sm:=jj h.sm h.m3,fp:=⟨ps,by rw[ag h.d2];exact p1,p2.keeps kp⟩,fb:=⟨gs,by rw[ag h.d3];exact g1,g2.keeps kp (fun d m=>ag (g2.ne_lst m e)),g3⟩,fg:=h.fg.keeps kp (ag (h.fg.ne_lst e)),fd:=⟨as++[.ref d],ae,?_,gQ ha q⟩,fa:=h.fa.keeps kp (ag (h.fa.ne_lst e)) }
 rw[pV]
 exact (hg.keeps kp (fun d m=>ag (hg.ne_lst m e))).snoc (hd.keeps kp (ag (hd.ne_lst e)))
theorem TbI.onG0 (h:TbI P w K H H1 pl be de g0 a0 so rk k1 k2 k4 n3 n5){x:Str}(hx:x∉k2)(hn:k2.length<900):∃kvs ep,GAt P w K H1 g0 kvs ep/\∀ep',TbI P w K H (upd H1 g0 (aN P w g0 (bh kvs (.inl (.inr x)) (.str x) (.int ((k2.length+2:Nat):Int))) ep')) pl be de g0 a0 so rk k1 (k2++[x]) k4 n3 n5:=by
 obtain⟨kvs,ep,ga,l,y1,y2⟩:=h.fg
 obtain⟨ps,p1,p2⟩:=h.fp
 obtain⟨gs,g1,g2,g3⟩:=h.fb
 obtain⟨as,a1,a2,a3⟩:=h.fd
 refine⟨kvs,ep,ga,fun ep'=>?_⟩
 have fk:bR (bf k2 (bA so rk)) (.inl (.inr x))=none:=by
  show (bf k2 (bA so rk) (.inl (.inr x))).map _=none
  unfold bf
  rw[if_neg (fun z=>nomatch z)]
  dsimp only
  rw[gR hx]
  rfl
 have D:=DG.put (ep':=ep') (y:=V.str x) ga l y1 y2 (k:=.inl (.inr x)) rfl (TDat.int ((k2.length+2:Nat):Int)) fk (by omega)
 have kp:aT K H1 (upd H1 g0 (aN P w g0 (bh kvs (.inl (.inr x)) (.str x) (.int ((k2.length+2:Nat):Int))) ep')):=bN ga.1
 have nl:∀{b:Addr} {xs:List V},H1 b=some (.lst xs)->b≠g0:=fun {b xs} e z=>by have:=ga.1;rw[<-z,e]at this;cases this
 refine { h with sm:=jj h.sm h.m4,fp:=⟨ps,by rw[ag (nl p1)];exact p1,p2.keeps kp⟩,fb:=⟨gs,by rw[ag (nl g1)];exact g1,g2.keeps kp (fun d m=>ag (g3 d m).1),g3⟩,fg:=?_,fd:=⟨as,by rw[ag (nl a1)];exact a1,a2.keeps kp (fun d m=>ag (a3 d m).1),a3⟩,fa:=h.fa.keeps kp (ag h.d4.symm) }
 rw[List.length_append,List.length_singleton]
 exact D.congr fun k=>(nv hx k).symm
theorem TbI.onA0 (h:TbI P w K H H1 pl be de g0 a0 so rk k1 k2 k4 n3 n5){x:Str}{v:V}(hx:x∉k4)(hn:k4.length<900)(hv:TDat K H1 v (.tuple [.str "shift",.int ((k4.length+2:Nat):Int)])):∃kvs ep,GAt P w K H1 a0 kvs ep/\∀ep',TbI P w K H (upd H1 a0 (aN P w a0 (bh kvs (.inl (.inr x)) (.str x) v) ep')) pl be de g0 a0 so rk k1 k2 (k4++[x]) n3 n5:=by
 obtain⟨kvs,ep,ga,l,y1,y2⟩:=h.fa
 obtain⟨ps,p1,p2⟩:=h.fp
 obtain⟨gs,g1,g2,g3⟩:=h.fb
 obtain⟨as,a1,a2,a3⟩:=h.fd
 refine⟨kvs,ep,ga,fun ep'=>?_⟩
 have fk:cw (aO k4) (.inl (.inr x))=none:=by
  show (aO k4 x).map _=none
  unfold aO
  rw[gR hx]
  rfl
 have D:=DG.put (ep':=ep') (y:=V.str x) ga l y1 y2 (k:=.inl (.inr x)) rfl hv fk (by omega)
 have kp:aT K H1 (upd H1 a0 (aN P w a0 (bh kvs (.inl (.inr x)) (.str x) v) ep')):=bN ga.1
 have nl:∀{b:Addr} {xs:List V},H1 b=some (.lst xs)->b≠a0:=fun {b xs} e z=>by have:=ga.1;rw[<-z,e]at this;cases this
 refine { h with sm:=jj h.sm h.m5,fp:=⟨ps,by rw[ag (nl p1)];exact p1,p2.keeps kp⟩,fb:=⟨gs,by rw[ag (nl g1)];exact g1,g2.keeps kp (fun d m=>ag (g3 d m).2.1),g3⟩,fg:=h.fg.keeps kp (ag h.d4),fd:=⟨as,by rw[ag (nl a1)];exact a1,a2.keeps kp (fun d m=>ag (a3 d m).2.1),a3⟩,fa:=?_ }
 rw[List.length_append,List.length_singleton]
 exact D.congr fun k=>(kU hx k).symm
end
end L2
namespace L2
open PySem PySem.Spec PyProof.Rows PySem.W
section
variable {X:Cx}{pins:List (Addr×Obj)}{σ:List (Option V)}{H:Hp}{s:Shared}
theorem Inv.track {a:Addr}{oe:Obj}(I:Inv X pins σ H s)(he:s.heap.get? a=some oe)(hn:H a=none)(hL:a≠X.env.locals)(hd:∀v,oe.data≠.cell v)(h0:∀o,X.s₀.heap.get? a=some o->a∈X.ex)
  (hp:∀p∈X.pn++pins,p.1≠a):Inv X pins σ (upd H a (.frz oe aU)) s:=by
 have keep:∀{b:Addr} {u:HO},H b=some u->upd H a (.frz oe aU) b=some u:=fun {b u} e=>by
  rw[ag (av e hn)];exact e
 refine⟨I.ok,I.os,I.bare,⟨I.base.keep,I.base.slot,fun b o e n hx=>?_,I.base.there,fun b xs e=>keep (I.base.tups b xs e),fun b o u e=>keep (I.base.frzs b o u e),fun b ps e=>?_⟩,I.loc,I.cell,?_,fun x c e=>?_,fun p hpp=>?_,fun b u e=>?_,I.len⟩
 ·have nb:b≠a:=fun z=>by
   subst z
   exact hx (h0 o e)
  rw[ag nb]
  exact I.base.free b o e n hx
 ·obtain⟨more,q⟩:=I.base.tbls b ps e
  exact⟨more,keep q⟩
 ·rw[ag (Ne.symm hL)]
  exact I.free
 ·have nc:c≠a:=fun z=>by
   subst z
   obtain⟨v,q⟩:=I.cell x c e
   obtain⟨o,q1,q2⟩:=id q
   rw[he]at q1
   cases q1
   first | exact hd _ q2 | exact hd _ q2.2 | exact hd _ q2.1
  rw[ag nc]
  exact I.freeC x c e
 ·obtain⟨e1,e2,e3⟩:=I.pin p hpp
  exact⟨e1,by rw[ag (hp p hpp)];exact e2,e3⟩
 ·by_cases hb:b=a
  ·subst hb
   rw[ae]at e
   cases e
   exact fh he
  ·rw[ag hb]at e
   exact (I.hok b u e).stay (fun _ _ _ q=>q) (fun c q=>keep q) fun c xs q=>keep q
end
def fT (i:Nat)(a:Addr)(oe:Obj)(D:gP):gP:={ nx:=fun σ H=>D.nx (σ.set i none) (upd H a (.frz oe aU)),rt:=D.rt,bk:=fun σ H=>D.bk (σ.set i none) H,ct:=fun σ H=>D.ct (σ.set i none) H }
section
variable {X:Cx}{k:Nat}{x G n:Str}{ps:List Str}{sp:Sp}{e:Expr}{es:List Expr}{t:TA}{p gp cpos epos hpos pos:Pos}{CG:Addr}{newId:String}{i:Nat}{b₀:Stmt}{suite:List Stmt}{ts:Addr->Addr->TS}
end
end L2
namespace L2
open PySem PySem.Spec PyProof.Rows PySem.W
section
variable {M:Model}{A:Around}{E:Value->Shared->Prop}{s:Shared}{B:Heap}{e:Addr}{cls a0:Value}{Q:Unit->Shared->Prop}
theorem jm {l:List Env}(hh:FlyG B l e cls a0 s.heap)(hQ:∀h',Heap.FlyingW B l e cls a0 h'->s.heap.UpToSlots h'->DictK s.heap h' e->Q () { s with heap:=h' }):wpAny M A (setFlight (.ref e) none) Q E s:=by
 obtain⟨f1,f2,f3,fl,oe,vs,T,oT,ts,he,hcls,hd,h1,hnT,hTe,hT,hdT,h3⟩:=hh
 have hs3:3<ts.size:=(Array.getElem?_eq_some_iff.mp h3).1
 have other:∀b,b≠T->(s.heap.update T (Obj.mapFields (·.setIfInBounds 3 ((none:Option Addr).elim Value.none fun f=>rawInt f)))).get? b=s.heap.get? b:=fun b hb=>Heap.get?_update_other _ _ (Ne.symm hb)
 have nrec:∀{b:Addr} {o:Obj},s.heap.get? b=some o->(∀vs,o.data≠.fields vs)->b≠T:=fun {b o} q nf z=>by
  rw[z,hT]at q
  cases q
  exact nf ts hdT
 unfold setFlight
 refine wpAny_bind (wpAny_field he hd h1 ?_)
 rw[if_pos (show (Value.ref T != Value.none)=true by simp)]
 refine wpAny_setField hT hdT hs3 (hQ _ ⟨fun b o q=>(other b fun z=>by rw[z,hnT]at q;cases q).trans (f1 b o q),f2,f3.of_keeps fun b o q nf=>⟨o,(other b (nrec q nf)).trans q,rfl⟩,?_⟩ (fun b o q nf=>⟨o.slots,(other b (nrec q nf)).trans q⟩) (bW hT hdT))
 exact⟨oe,vs,T,_,_,(other e (Ne.symm hTe)).trans he,hcls,hd,h1,hnT,hTe,Heap.get?_update_self _ hT (Obj.isFreed_of_fields (Obj.data_mapFields hdT _)),Obj.data_mapFields hdT _,by simp[hs3]⟩
end
section
variable {X:Cx}{G n:Str}{gp hpos pos:Pos}{CG fi:Addr}{i:Nat}{b₀:Stmt}{suite body:List Stmt}{tb:List (Addr×Obj)->(St->XK)->TS}{ts:Addr->TS}
end
end L2
namespace L2
open PySem PySem.Spec PyProof.Rows
def bX:Stmt->List Stmt
 | .ClassDef _ _ _ b _ _ _ _ _ _ _=>b
 | _=>[]
def tZ (H H':Hp):Prop:=(∀b xs,H b=some (.lst xs)->H' b=some (.lst xs))/\(∀b xs,H b=some (.tup xs)->H' b=some (.tup xs))/\(∀b o xs,H b=some (.frz o (.lst xs))->H' b=some (.frz o (.lst xs)))/\∀b o xs,H b=some (.frz o (.tup xs))->H' b=some (.frz o (.tup xs))
mutual
theorem DatV.sameD {K:PySem.W.Frag}{H H':Hp}(e:tZ H H'):∀{x:V} {d:PyData},DatV K H x d->DatV K H' x d
 | _,_,.none=>.none
 | _,_,.bool b=>.bool b
 | _,_,.int i=>.int i
 | _,_,.str x=>.str x
 | _,_,.list h hs=>.list (match h with
  | .inl (.inl h)=>.inl (.inl (e.1 _ _ h))
  | .inl (.inr ⟨o,h⟩)=>.inl (.inr ⟨o,e.2.2.1 _ _ _ h⟩)
  | .inr h=>.inr h) (DatVs.sameD e hs)
 | _,_,.tuple h hs=>.tuple (match h with
  | .inl (.inl h)=>.inl (.inl (e.2.1 _ _ h))
  | .inl (.inr ⟨o,h⟩)=>.inl (.inr ⟨o,e.2.2.2 _ _ _ h⟩)
  | .inr h=>.inr h) (DatVs.sameD e hs)
theorem DatVs.sameD {K:PySem.W.Frag}{H H':Hp}(e:tZ H H'):∀{xs:List V} {ds:List PyData},DatVs K H xs ds->DatVs K H' xs ds
 | _,_,.nil=>.nil
 | _,_,.cons h hs=>.cons (DatV.sameD e h) (DatVs.sameD e hs)
end
end L2
namespace Rg
def vt (c:Nat):Prop:=(32≤c/\c≤126/\c≠37)\/c=10
def wr (c:Nat):Prop:=32≤c/\c≤126/\c≠37
end Rg
namespace Rg
open PySem PySem.Builtin PySem.Builtin.Str
abbrev S (l:List Nat):Str:=⟨l.toArray⟩
theorem tR {a b:List Nat}(h:S a=S b):a=b:=by
 have:(S a).cps.toList=(S b).cps.toList:=by rw[h]
 simpa using this
theorem xY (a b:List Nat):S a++S b=S (a++b):=Str.ext' (by rw[Str.cps_append];simp)
theorem uo (a:List Nat):(S a).length=a.length:=by simp[Str.length]
end Rg
namespace Rg
open PySem PySem.Spec PyProof.Rows L2
def zj (l:List Nat):Prop:=∀c∈l,c<0x110000
end Rg
namespace Rg
structure Prt where
 d:Nat
 m:Nat
 l:List Nat
def tl (d:Nat)(sg:List Nat)(k c:Nat):Bool:=if d=2 then sg[k]? == some c else if d=0 then decide (c∈sg) else !decide (c∈sg)
end Rg
namespace Rg
open PySem PySem.Spec PyProof.Rows L2
def yq:Nat->Str
 | 0=>"in"
 | 1=>"out"
 | _=>"row"
def xu:Nat->Str
 | 0=>"once"
 | 1=>"maybe"
 | 2=>"some"
 | 3=>"any"
 | 4=>"ahead"
 | _=>"not"
structure Prt.Ok (p:Prt):Prop where
 hd:p.d<3
 hm:p.m<6
 row:p.d=2->p.m=0\/p.m=4\/p.m=5
 l1:1≤p.l.length
 l2:p.l.length≤100
 ok:∀c∈p.l,vt c
def Prt.dat (p:Prt):PyData:=.tuple [.str (yq p.d),.str (S p.l),.str (xu p.m)]
theorem big:(1000000:Nat)<sizeLine:=by rw[sizeLine_eq];decide
structure AskAt (H:Hp)(an aq:Str)(ast:Stmt)(afr:List Str)(f la:Addr)(tx as:List Nat):Prop where
 clo:∃cs,CloAt H f an aq ast afr cs [.ref la,.str (S tx)]
 lst:H la=some (.lst (as.map fun k=>V.int (k:Nat)))
theorem AskAt.fn {H:Hp}{an aq:Str}{ast:Stmt}{afr:List Str}{f la:Addr}{tx as:List Nat}(h:AskAt H an aq ast afr f la tx as):∃oc od fd sl,Kn H f ⟨oc,od,.func fd,sl⟩:=by
 obtain⟨cs,C⟩:=h.clo
 obtain⟨cl,⟨doc,pm,c',ctv,oc,vs,t,h1,_⟩,_⟩:=C.ex
 exact⟨_,_,_,_,h1⟩
theorem xC {H:Hp}{f:Addr}{name qual:Str}{st:Stmt}{env:Env}{N:List Str}{σ:L2.St}{fr:List Str}{cs:List Addr}{os:List Obj}{ws:List V}(M:tz H f name qual st (az env (ah st).names []))(F:pp env N σ fr cs os)(hn:∀c∈cs,H c=none)(hN:N.Nodup)(hnd:fr.Nodup)
  (hall:(ah st).names.all (fun y=>y.2 != .free||fr.contains y.1)=true) (hfre:fr.all (fun x=>(ah st).names.contains (x,NameKind.free))=true) (hl:ws.length=fr.length)
  (hw:∀j,j<fr.length->∃i:Nat,N[i]?=fr[j]?/\σ[i]?=some ws[j]?):CloAt (cH cs os H) f name qual st fr cs ws:=by
 refine CloAt.lent M F hn hN hnd (fun y hy hk=>?_) (fun x hx=>?_) hl fun j i x v h1 h2 h3=>?_
 ·have:=List.all_eq_true.mp hall y hy
  rw[hk]at this
  simpa using this
 ·have:=List.all_eq_true.mp hfre x hx
  simpa using this
 ·obtain⟨i0,a1,a2⟩:=hw j (List.getElem?_eq_some_iff.mp h1).1
  rw[h1]at a1
  have:=eI hN h2 a1
  subst this
  rw[h3]at a2
  exact (Option.some.inj a2).symm
theorem froz_none {cs:List Addr}{os:List Obj}{H:Hp}{b:Addr}(nd:cs.Nodup)(hl:os.length=cs.length)(e:cH cs os H b=none):b∉cs:=fun m=>by
 obtain⟨j,o,_,_,k⟩:=cZ (H:=H) nd hl m
 unfold Kn at k
 rw[e]at k
 cases k
theorem TabOk.tab {H:Hp}{Pt:Addr}{qs:List (Pos×Str)}(T:TabOk H Pt qs):∃ps,H Pt=some (.tbl ps):=by
 obtain⟨l,e,_⟩:=T.ex
 exact⟨_,e⟩
theorem TabOk.grow {H H':Hp}{Pt:Addr}{qs:List (Pos×Str)}(T:TabOk H Pt qs)(s:Same H H'):TabOk H' Pt qs:=by
 obtain⟨l,e,h⟩:=T.ex
 exact T.same ((s _ _ e).trans e.symm) fun b o k=>s b _ k
theorem TabOk.start {H:Hp}{Pt:Addr}{qs:List (Pos×Str)}(e:H Pt=some (.tbl #[])):TabOk H Pt qs:=⟨[],e,fun q m=>nomatch m⟩
end Rg
--@RAISES but law
namespace K46
open PySem PySem.Spec PyProof.Rows L2 Rg
def fW (i:Nat):Stmt:=PySem.Challenge.pw_regrowth_k46_changes_that_fit.main.body.getD i (.Pass ⟨0,0,0,0⟩)
structure Txt (K:PySem.W.Frag)(w:World)(mg:Str->Option Value):Prop where
 n_len:mg "len"=none
 n_list:mg "list"=none
 n_tuple:mg "tuple"=none
 n_int:mg "int"=none
 n_bool:mg "bool"=none
 n_range:mg "range"=none
 n_enumerate:mg "enumerate"=none
 n_isinstance:mg "isinstance"=none
 n_ValueError:mg "ValueError"=none
 g_NO_RULE:∃t,mg "NO_RULE"=some (.int (-1) t)
 g_WORD_STEP:∃t,mg "WORD_STEP"=some (.int (-1) t)
 g_END:∃t,mg "END"=some (.str "end" t)
section
variable {P:Program}{w:World}{K:PySem.W.Frag}{mg:Str->Option Value}{base:Heap}{C CS CB fi:Addr}{mc:Value}
structure gM (K:PySem.W.Frag)(mg:Str->Option Value)(C:Addr):Prop where
 cls:Cls K C
 na_plain:NoAttr K C "plain"
 na_behind:NoAttr K C "behind"
 na_deeds:NoAttr K C "deeds"
 na_states:NoAttr K C "states"
 na_spans:NoAttr K C "spans"
 na_way:NoAttr K C "way"
 mkc:zi K mg "Reader" C
theorem rm {l:List Nat}{i n:Nat}(h:l[i]?=some n):(cG l)[i]?=some (.int (n:Nat)):=by unfold cG;rw[List.getElem?_map,h];rfl
theorem gc (l:List Nat):(cG l).length=l.length:=List.length_map ..
theorem gC (l m:List Nat):cG (l++m)=cG l++cG m:=List.map_append ..
theorem pP {S:RS}(h:S.ss≠[]):j3 (cG S.ss) (-1)=some (.int (dB S:Nat)):=by
 unfold dB
 obtain⟨l,x,e⟩:∃l x,S.ss=l++[x]:=⟨_,_,(List.dropLast_concat_getLast h).symm⟩
 rw[e,gC]
 have:=jk (cG l) (.int (x:Nat))
 simpa[cG] using this
def lg (C:Addr):Sp:=fun vs H Q _=>∃(e:Addr) (n:Nat),vs=[.ref e,.int (n:Nat)]/\H e=some (rD C e)/\n≤1000000/\∀dx,H dx=none->Q .non (upd (upd H e (wL C e dx)) dx (kY dx "place" (.int (n:Nat))))
abbrev bj:Stmt:=(bX (fW 11)).getD 0 (.Pass ⟨0,0,0,0⟩)
theorem cA:ar ["self","place"] ["self","place"] (ah bj):=⟨rfl,rfl,rfl,by decide +kernel,rfl,by decide +kernel,by decide +kernel⟩
theorem nR (TX:jf K mg "Stuck" "GrowthError" "place" CS CB fi mc)(R:RawM K CS "__init__" "Stuck.__init__" bj ["self","place"]):cq P w K mg base 1 CS "__init__" ["self","place"] (lg CS):=by
 refine R.defJ cA (fun vs H Q E h=>?_) (fun f cdv A outer s H vs Q E hr h=>?_)
 ·obtain⟨e,n,rfl,_⟩:=h
  rfl
 ·obtain⟨e,n,rfl,he,hn,q⟩:=h
  have sc:=cA
  have hu:=hr.units
  refine⟨_,(ac (aD (py rfl TX.bat TX.sp TX.rd TX.fc TX.ex (aa (jn 0) (aa (rc (aB cY (aB (bw (jn 1)) fV))) af))))
  (ak (mR TX.sa TX.ve TX.tk TX.hd (jn 0) (jn 1)))),?_⟩
  refine⟨⟨True.intro,⟨rfl,.inr ⟨_,rfl,h7 (by omega)⟩⟩,True.intro⟩,fun z hz=>?_⟩
  exact⟨he,(show 1≤sizeLine by decide),he,q⟩
def ic (C:Addr):Sp:=fun vs H Q _=>∃(r:Addr) (a:RA) (S:RS),vs=[.ref r]/\Rdr C H r a S/\S.ss≠[]/\Q (.int (dB S:Nat)) H
abbrev bI:Stmt:=(bX (fW 20)).getD 2 (.Pass ⟨0,0,0,0⟩)
theorem cD:ar ["self"] ["self"] (ah bI):=⟨rfl,rfl,rfl,by decide +kernel,rfl,by decide +kernel,by decide +kernel⟩
theorem rF (TC:gM K mg C)(R:RawM K C "topmost" "Reader.topmost" bI ["self"]):cq P w K mg base 1 C "topmost" ["self"] (ic C):=by
 refine R.defJ cD (fun vs H Q E h=>?_) (fun f cdv A outer s H vs Q E hr h=>?_)
 ·obtain⟨r,a,S,rfl,_⟩:=h
  rfl
 ·obtain⟨r,a,S,rfl,hR,hs,q⟩:=h
  have sc:=cD
  have hu:=hr.units
  refine⟨_,(ak (aw (aK (aA hu (K:=K) (P:=P) (w:=w)) (cz TC.cls TC.na_states (jn 0)) (gk aj)))),?_⟩
  refine⟨a.dx,_,hR.at_,.ref a.st,rfl,?_⟩
  exact .inr (.inl ⟨_,_,SqL.of hR.st,pP hs,q⟩)
structure RdT (P:Program)(w:World)(K:PySem.W.Frag)(C:Addr)(G H:Hp)(r:Addr)(a:RA)(S:RS)(T:TB):Prop where
 rd:Rdr C H r a S
 tb:vo P w K G a.pl a.be a.de T
 sm:Same G H
 nw:∀b∈a.own,G b=none
theorem RdT.to {G H H':Hp}{r:Addr}{a:RA}{S S':RS}{T:TB}(h:RdT P w K C G H r a S T)(o:Out a.own H H')(h':Rdr C H' r a S'):RdT P w K C G H' r a S' T:=⟨h',h.tb,o.same h.sm h.nw,h.nw⟩
def jU (P:Program)(w:World)(K:PySem.W.Frag)(C:Addr):Sp:=fun vs H Q _=>∃(G:Hp) (r:Addr) (a:RA) (S S':RS) (T:TB) (sv:V) (k:GK) (n:Nat),vs=[.ref r,sv,.int (n:Nat)]/\RdT P w K C G H r a S T/\KeyV K H k sv/\el T S k n=some S'/\S.ss.length<100000/\S.ps.length<100000 /\
 ∀H',Out a.own H H'->Rdr C H' r a S'->Q .non H'
theorem jw {T:TB}{S S':RS}{k:GK}{n:Nat}(h:el T S k n=some S'):S.ss≠[]/\∃f s,T.goes[dB S]?=some f/\f k=some s/\S'={ S with ss:=S.ss++[s],ps:=S.ps++[n] }:=by
 unfold el at h
 split at h
 ·cases h
 ·rename_i hs
  obtain⟨f,e1,h⟩:=Option.bind_eq_some_iff.mp h
  obtain⟨s,e2,h⟩:=Option.map_eq_some_iff.mp h
  exact⟨hs,f,s,e1,e2,h.symm⟩
abbrev cI:Stmt:=(bX (fW 20)).getD 6 (.Pass ⟨0,0,0,0⟩)
theorem d9:ar ["self","symbol","words"] ["self","symbol","words"] (ah cI):=⟨rfl,rfl,rfl,by decide +kernel,rfl,by decide +kernel,by decide +kernel⟩
theorem sW (TC:gM K mg C)(R:RawM K C "lay" "Reader.lay" cI ["self","symbol","words"])(DM_Reader_topmost:cq P w K mg base 1 C "topmost" ["self"] (ic C)):cq P w K mg base 2 C "lay" ["self","symbol","words"] (jU P w K C):=by
 refine R.defJ d9 (fun vs H Q E h=>?_) (fun f cdv A outer s H vs Q E hr h=>?_)
 ·obtain⟨G,r,a,S,S',T,sv,k,n,rfl,_⟩:=h
  rfl
 ·obtain⟨G,r,a,S,S',T,sv,k,n,rfl,hR,hk,hl,l1,l2,q⟩:=h
  have sc:=d9
  have hu:=hr.units
  have hb:(1000000:Nat)<sizeLine:=by rw[sizeLine_eq];decide
  obtain⟨hs,f,x,e1,e2,rfl⟩:=jw hl
  obtain⟨ds,d1,d2⟩:=hR.tb.be
  obtain⟨d,kvs,ep,d3,d4,d5⟩:=d2 _ _ e1
  have hv:bg kvs k=some (.int (x:Nat)):=by rw[d5,e2];rfl
  refine⟨_,(ac (aD (e8 (K:=K) PySem.F.plainAttrs_list PySem.F.slot_list_append PySem.F.type_list_append bt (cz TC.cls TC.na_states (jn 0)) (aa (aK (aA hu (K:=K) (P:=P) (w:=w)) (aK (aA hu (K:=K) (P:=P) (w:=w)) (cz TC.cls TC.na_behind (jn 0)) (eM TC.cls DM_Reader_topmost (hr.mono (by decide)) (jn 0))) (jn 1)) af)))
  (ak (aD (e8 (K:=K) PySem.F.plainAttrs_list PySem.F.slot_list_append PySem.F.type_list_append bt (cz TC.cls TC.na_spans (jn 0)) (aa (jn 2) af))))),?_⟩
  refine⟨a.dx,_,hR.rd.at_,.ref a.st,rfl,.inl ⟨rfl,_,SqL.of hR.rd.st⟩,?_⟩
  refine⟨a.dx,_,hR.rd.at_,.ref a.be,rfl,?_⟩
  refine⟨a.dx,_,hR.rd.at_,rfl,r,a,S,rfl,hR.rd,hs,?_⟩
  refine .inr (.inl ⟨ds,_,hR.sm.seq d1,aG d3,?_⟩)
  refine .inl ⟨d,kvs,ep,k,_,rfl,d4.same hR.sm,hk,hv,?_⟩
  refine⟨_,hR.rd.st,by rw[gc];omega,?_⟩
  have r1:=hR.rd.sts (ss:=S.ss++[x]) (by simp;omega)
  rw[gC]at r1
  refine⟨a.dx,_,r1.at_,.ref a.sp,rfl,.inl ⟨rfl,_,SqL.of r1.sp⟩,?_⟩
  refine⟨_,r1.sp,by rw[gc];exact Nat.lt_trans l2 (by omega),?_⟩
  have r2:=r1.sps (ps:=S.ps++[n]) (by simp;omega)
  rw[gC]at r2
  exact q _ (.put (by simp[RA.own]) (.upd (by simp[RA.own]))) r2
def oz (P:Program)(w:World)(K:PySem.W.Frag)(C CS:Addr):Sp:=fun vs H Q E=>∃(G:Hp) (r:Addr) (a:RA) (S:RS) (T:TB) (kd:Str) (n:Nat) (o:Option (Str×Nat)),vs=[.ref r,.str kd,.int (n:Nat)]/\RdT P w K C G H r a S T/\n≤1000000/\g9 T S kd=some o /\
 (o=none->∀dx,H dx=none->E (.ref CS) (some dx) (upd H dx (kY dx "place" (.int (n:Nat)))))/\∀b m t,o=some (b,m)->SqT K H t [.str b,.int (m:Nat)]->Q (.ref t) H
theorem ou {T:TB}{S:RS}{kd:Str}{o:Option (Str×Nat)}(h:g9 T S kd=some o):S.ss≠[]/\∃f,T.acts[dB S]?=some f/\f kd=o:=by
 unfold g9 at h
 split at h
 ·cases h
 ·rename_i hs
  obtain⟨f,e1,h⟩:=Option.map_eq_some_iff.mp h
  exact⟨hs,f,e1,h⟩
abbrev bE:Stmt:=(bX (fW 20)).getD 4 (.Pass ⟨0,0,0,0⟩)
theorem bY:ar ["self","kind","number","deed"] ["self","kind","number"] (ah bE):=⟨rfl,rfl,rfl,by decide +kernel,rfl,by decide +kernel,by decide +kernel⟩
theorem pd (TC:gM K mg C)(TX:jf K mg "Stuck" "GrowthError" "place" CS CB fi mc)(R:RawM K C "deed_for" "Reader.deed_for" bE ["self","kind","number"])(DM_Reader_topmost:cq P w K mg base 1 C "topmost" ["self"] (ic C))
  (DM_Stuck___init__:cq P w K mg base 1 CS "__init__" ["self","place"] (lg CS)):eR P w K mg base 3 C "deed_for" ["self","kind","number"] (oz P w K C CS):=by
 refine R.defX bY (fun vs H Q E h=>?_) (fun f cdv A outer s H vs Q E hr h=>?_)
 ·obtain⟨G,r,a,S,T,kd,n,o,rfl,_⟩:=h
  rfl
 ·obtain⟨G,r,a,S,T,kd,n,o,rfl,hR,hn,ha,q1,q2⟩:=h
  have sc:=bY
  have hu:=hr.units
  obtain⟨hs,g,e1,e2⟩:=ou ha
  obtain⟨ds,d1,d2⟩:=hR.tb.de
  obtain⟨d,kvs,ep,d3,d4,d5,d6⟩:=d2 _ _ e1
  refine⟨_,(ac (ao (i:=3) sc.nd rfl (Or.inl rfl) (oy (K:=K) (P:=P) (w:=w) hu (aK (aA hu (K:=K) (P:=P) (w:=w)) (cz TC.cls TC.na_deeds (jn 0)) (eM TC.cls DM_Reader_topmost (hr.mono (by decide)) (jn 0))) (jn 1)))
  (ac (aY (aH uW (jn 3) ij)
  (ak (mW TX DM_Stuck___init__ (hr.mono (by decide)) rfl (aa (jn 2) af)))
  aF)
  (ak (aw (jn 3))))),?_⟩
  refine⟨a.dx,_,hR.rd.at_,.ref a.de,rfl,?_⟩
  refine⟨a.dx,_,hR.rd.at_,rfl,r,a,S,rfl,hR.rd,hs,?_⟩
  refine .inr (.inl ⟨ds,_,hR.sm.seq d1,aG d3,?_⟩)
  refine⟨⟨_,_,d4.same hR.sm⟩,_,_,.inl (.inr kd),d4.same hR.sm,rfl,?_⟩
  cases o with
  | none =>
   rw[d5 kd e2]
   refine⟨(show 1≤sizeLine by decide),fun e he=>?_⟩
   refine⟨e,n,rfl,ae,hn,fun dx ndx=>⟨rfl,.inr ⟨dx,?_,?_⟩⟩⟩
   ·rw[ag (fun z=>by rw[<-z,ae]at ndx;cases ndx),ae]
   ·have nde:dx≠e:=fun z=>by rw[z,ae]at ndx;cases ndx
    rw[ag nde]at ndx
    have q3:=q1 rfl dx ndx
    rw[show rem [e] (upd (upd (upd H e (rD CS e)) e (wL CS e dx)) dx (kY dx "place" (.int (n:Nat))))=upd H dx (kY dx "place" (.int (n:Nat))) from by rw[qN (fun m=>nde (List.mem_singleton.mp m)),re he]]
    exact q3
  | some bm =>
   obtain⟨b,m⟩:=bm
   obtain⟨t,t1,t2⟩:=d6 kd b m e2
   rw[t1]
   exact q2 b m t rfl (hR.sm.seqT t2)
def tW (P:Program)(w:World)(K:PySem.W.Frag)(C:Addr):Sp:=fun vs H Q _=>∃(G:Hp) (r:Addr) (a:RA) (S S':RS) (T:TB) (m:Nat),vs=[.ref r,.int (m:Nat)]/\RdT P w K C G H r a S T/\kX T S m=some S'/\S.ss.length<100000/\S.ps.length<100000/\S.tr.length<100000 /\
 ∀H',Out a.own H H'->Rdr C H' r a S'->Q .non H'
theorem jo {T:TB}{S S':RS}{m:Nat}(h:kX T S m=some S'):∃sym k rl,T.plain[m]?=some (sym,k,rl)/\k≤S.ps.length/\k<S.ss.length /\
  el T (if rl=-1 then { ss:=S.ss.take (S.ss.length-k),ps:=S.ps.take (S.ps.length-k),tr:=S.tr } else { ss:=S.ss.take (S.ss.length-k),ps:=S.ps.take (S.ps.length-k),tr:=S.tr++[(rl,(S.ps.drop (S.ps.length-k)).sum,dB { ss:=S.ss.take (S.ss.length-k),ps:=S.ps.take (S.ps.length-k),tr:=S.tr })] }) sym (S.ps.drop (S.ps.length-k)).sum=some S':=by
 unfold kX at h
 split at h
 ·cases h
 ·rename_i sym k rl e
  split at h
  ·rename_i hk
   exact⟨sym,k,rl,e,hk.1,hk.2,h⟩
  ·cases h
theorem jN {l:List Nat}{i:Nat}(h:i<l.length):(cG (l.take (l.length-i))).dropLast=cG (l.take (l.length-(i+1))):=by
 unfold cG
 rw[<-List.map_dropLast,List.dropLast_eq_take,List.take_take,List.length_take]
 congr 2
 omega
theorem jY {l:List Nat}{i:Nat}(h:i<l.length):∃x,(cG (l.take (l.length-i)))[(cG (l.take (l.length-i))).length-1]?=some (.int (x:Nat))/\(l.drop (l.length-(i+1))).sum=x+(l.drop (l.length-i)).sum:=by
 have hl:(cG (l.take (l.length-i))).length=l.length-i:=by rw[gc,List.length_take];omega
 have hj:l.length-(i+1)<l.length:=by omega
 refine⟨l[l.length-(i+1)],?_,?_⟩
 ·rw[hl]
  refine rm ?_
  rw[List.getElem?_take_of_lt (by omega),show l.length-i-1=l.length-(i+1) by omega]
  exact List.getElem?_eq_getElem hj
 ·rw[List.drop_eq_getElem_cons hj,List.sum_cons,show l.length-(i+1)+1=l.length-i by omega]
abbrev bd:Stmt:=(bX (fW 20)).getD 5 (.Pass ⟨0,0,0,0⟩)
theorem bJ:ar ["self","number","words","part","rule"] ["self","number"] (ah bd):=⟨rfl,rfl,rfl,by decide +kernel,rfl,by decide +kernel,by decide +kernel⟩
theorem rn (TC:gM K mg C)(T:Txt K w mg)(R:RawM K C "put_together" "Reader.put_together" bd ["self","number"])(DM_Reader_topmost:cq P w K mg base 1 C "topmost" ["self"] (ic C))(DM_Reader_lay:cq P w K mg base 2 C "lay" ["self","symbol","words"] (jU P w K C)) :
  cq P w K mg base 3 C "put_together" ["self","number"] (tW P w K C):=by
 refine R.defJ bJ (fun vs H Q E h=>?_) (fun f cdv A outer s H vs Q E hr h=>?_)
 ·obtain⟨G,r,a,S,S',T,m,rfl,_⟩:=h
  rfl
 ·obtain⟨G,r,a,S,S',TT,m,rfl,hR,hd,l1,l2,l3,q⟩:=h
  have sc:=bJ
  have hu:=hr.units
  have hb:(1000000:Nat)<sizeLine:=by rw[sizeLine_eq];decide
  obtain⟨sym,k,rl,e1,hk1,hk2,hlay⟩:=jo hd
  obtain⟨pv0,p1,p2⟩:=hR.tb.pl
  obtain⟨t,p,sv,pv,p3,p4,p5,p6,p7⟩:=p2 _ _ _ _ e1
  refine⟨_,(ac (ao (i:=2) sc.nd rfl (Or.inl rfl) aj)
  (ac (dM PassesOwn.never rfl (i4 (K:=K) (aK (aA hu (K:=K) (P:=P) (w:=w)) (aK (aA hu (K:=K) (P:=P) (w:=w)) (cz TC.cls TC.na_plain (jn 0)) (jn 1)) aj)) (aP (i:=3) sc.nd rfl (Or.inl rfl))
  (ac (aD (uB (K:=K) PySem.F.plainAttrs_list PySem.F.slot_list_pop PySem.F.type_list_pop ub (cz TC.cls TC.na_states (jn 0))))
  (ak (j7 (i:=2) sc.nd rfl (Or.inl rfl) (uB (K:=K) PySem.F.plainAttrs_list PySem.F.slot_list_pop PySem.F.type_list_pop ub (cz TC.cls TC.na_spans (jn 0))) kS))))
  (ac (ao (i:=4) sc.nd rfl (Or.inl rfl) (aK (aA hu (K:=K) (P:=P) (w:=w)) (aK (aA hu (K:=K) (P:=P) (w:=w)) (cz TC.cls TC.na_plain (jn 0)) (jn 1)) aj))
  (ac (aY (aH (km hu (K:=K)) (jn 4) (gm rfl T.g_NO_RULE))
  (ak (aD (e8 (K:=K) PySem.F.plainAttrs_list PySem.F.slot_list_append PySem.F.type_list_append bt (cz TC.cls TC.na_way (jn 0)) (aa (bi (aa (jn 4) (aa (jn 2) (aa (eM TC.cls DM_Reader_topmost (hr.mono (by decide)) (jn 0)) af)))) af))))
  aF)
  (ak (aD (gN TC.cls DM_Reader_lay (hr.mono (by decide)) (jn 0) (aa (aK (aA hu (K:=K) (P:=P) (w:=w)) (aK (aA hu (K:=K) (P:=P) (w:=w)) (cz TC.cls TC.na_plain (jn 0)) (jn 1)) aj) (aa (jn 2) af))))))))),?_⟩
  refine⟨a.dx,_,hR.rd.at_,.ref a.pl,rfl,?_⟩
  refine .inr (.inl ⟨_,_,hR.sm.seq p1,aG p3,?_⟩)
  refine .inr (.inr ⟨_,_,hR.sm.seqT p4,rfl,?_⟩)
  refine .inr ⟨⟨_,hR.sm.seqT p6⟩,tK (K:=K) (a:=p) (xs:=pv) (fun i σ H'=>∃(v3:Option V),Out a.own H H'/\Rdr C H' r a ⟨S.ss.take (S.ss.length-i),S.ps.take (S.ps.length-i),S.tr⟩/\σ=[some (.ref r),some (.int (m:Nat)),some (.int (((S.ps.drop (S.ps.length-i)).sum:Nat):Int)),v3,none])
   ⟨none,.refl,by simpa using hR.rd,by simp;rfl⟩ (fun i σ H' _ h=>by obtain⟨v3,o,_,_⟩:=h;exact (o.same hR.sm hR.nw).seqT p6) ?_ ?_⟩
  ·rintro i x σ H' hi ⟨v3,o,rd,rfl⟩
   have hik:i<k:=by have:=(List.getElem?_eq_some_iff.mp hi).1;omega
   obtain⟨x1,z1,_⟩:=jY (l:=S.ss) (i:=i) (by omega)
   obtain⟨x2,z2,z3⟩:=jY (l:=S.ps) (i:=i) (by omega)
   refine⟨a.dx,_,rd.at_,.ref a.st,rfl,.inl ⟨rfl,_,SqL.of rd.st⟩,_,_,rd.st,z1,?_⟩
   have r1:=rd.sts (ss:=S.ss.take (S.ss.length-(i+1))) (by simp;omega)
   rw[<-jN (l:=S.ss) (i:=i) (by omega)]at r1
   refine⟨a.dx,_,r1.at_,.ref a.sp,rfl,.inl ⟨rfl,_,SqL.of r1.sp⟩,_,_,r1.sp,z2,?_⟩
   have r2:=r1.sps (ps:=S.ps.take (S.ps.length-(i+1))) (by simp;omega)
   rw[<-jN (l:=S.ps) (i:=i) (by omega)]at r2
   refine⟨some x,.put (by simp[RA.own]) (.put (by simp[RA.own]) o),r2,?_⟩
   exact congrArg (fun z:Int=>[some (V.ref r),some (V.int (m:Nat)),some (V.int z),some x,none]) (by rw[z3];omega)
  ·rintro σ H' ⟨v3,o,rd,rfl⟩
   rw[p7]at rd
   rw[p7]
   have sm:=o.same hR.sm hR.nw
   obtain⟨S1,eS1⟩:∃S1:RS,S1=⟨S.ss.take (S.ss.length-k),S.ps.take (S.ps.length-k),S.tr⟩:=⟨_,rfl⟩
   obtain⟨n,en⟩:∃n,n=(S.ps.drop (S.ps.length-k)).sum:=⟨_,rfl⟩
   rw[<-eS1]at rd
   rw[<-eS1,<-en]at hlay
   rw[<-en]
   have hne:S1.ss≠[]:=by
    rw[eS1]
    intro z
    have:=congrArg List.length z
    simp at this
    omega
   have g1:S1.ss.length<100000:=by rw[eS1];simp;omega
   have g2:S1.ps.length<100000:=by rw[eS1];simp;omega
   have g3:S1.tr.length<100000:=by rw[eS1];exact l3
   have lay:∀(S2:RS) (H2:Hp),el TT S2 sym n=some S'->Out a.own H H2->Rdr C H2 r a S2->S2.ss.length<100000->S2.ps.length<100000 ->
     qG (uy C "lay" (jU P w K C) (gZ 0) (jI (pf (uD P w K) (pf (uD P w K) (vG C "plain" (gZ 0)) (gZ 1)) (tC (V.int 0))) (jI (gZ 2) vq))) { nx:=fun x H'=>Q V.non H',rt:=Q } [some (V.ref r),some (V.int (m:Nat)),some (V.int (n:Nat)),v3,some (V.int rl)] H2:=fun S2 H2 e o2 rd2 b1 b2=>by
    have sm2:=o2.same hR.sm hR.nw
    refine⟨a.dx,_,rd2.at_,rfl,?_⟩
    refine⟨a.dx,_,rd2.at_,.ref a.pl,rfl,?_⟩
    refine .inr (.inl ⟨_,_,sm2.seq p1,aG p3,?_⟩)
    refine .inr (.inr ⟨_,_,sm2.seqT p4,rfl,?_⟩)
    exact⟨G,r,a,S2,S',TT,sv,sym,n,rfl,⟨rd2,hR.tb,sm2,hR.nw⟩,p5.keeps sm2.keepsT,e,b1,b2,fun H3 o3 rd3=>q H3 (o2.trans o3) rd3⟩
   refine⟨a.dx,_,rd.at_,.ref a.pl,rfl,?_⟩
   refine .inr (.inl ⟨_,_,sm.seq p1,aG p3,?_⟩)
   refine .inr (.inr ⟨_,_,sm.seqT p4,rfl,?_⟩)
   show if (true^^decide (rl=-1))=true then _ else _
   by_cases hrl:rl=-1
   ·rw[decide_eq_true hrl,if_neg (by decide)]
    rw[if_pos hrl]at hlay
    exact lay S1 H' hlay o rd g1 g2
   ·rw[decide_eq_false hrl,if_pos (by decide)]
    rw[if_neg hrl]at hlay
    obtain⟨ws,w1,w2⟩:=rd.wy
    refine⟨a.dx,_,rd.at_,.ref a.wy,rfl,.inl ⟨rfl,_,SqL.of w1⟩,?_⟩
    refine⟨a.dx,_,rd.at_,rfl,r,a,S1,rfl,rd,hne,?_⟩
    refine⟨(show 3≤sizeLine by decide),fun t ht=>?_⟩
    have s1:Same H' (upd H' t (.tup [.int rl,.int (n:Nat),.int (dB S1:Nat)])):=ai ht
    have rd1:=rd.grow s1
    refine⟨ws,s1 _ _ w1,by rw[w2.length];omega,?_⟩
    have rd2:=rd1.step (ws:=ws) (t:=t) (x:=rl) (y:=n) (z:=dB S1) (s1 _ _ w1) (w2.same fun _ _ e=>s1 _ _ e) ae g3
    have e2:({ S1 with tr:=S1.tr++[(rl,n,dB S1)] }:RS)={ ss:=S.ss.take (S.ss.length-k),ps:=S.ps.take (S.ps.length-k),tr:=S.tr++[(rl,n,dB S1)] }:=by subst eS1;rfl
    rw[<-e2]at hlay
    exact lay _ _ hlay (.put (by simp[RA.own]) (.add ht o)) rd2 g1 g2
theorem jK {H H1:Hp}{r dx:Addr}{a:RA}{S:RS}(o:Out a.own H H1)(rd:Rdr C H1 r a S)(n:H1 dx=none):H dx=none:=by
 cases e:H dx with
 | none=>rfl
 | some u =>
  by_cases m:dx∈a.own
  ·exfalso
   rcases List.mem_cons.mp m with z | m
   ·rw[z,rd.st]at n;cases n
   rcases List.mem_cons.mp m with z | m
   ·rw[z,rd.sp]at n;cases n
   ·obtain⟨ws,w1,_⟩:=rd.wy
    rw[List.mem_singleton.mp m,w1]at n;cases n
  ·rw[o dx u m e]at n;cases n
def oj (P:Program)(w:World)(K:PySem.W.Frag)(C CS:Addr):Sp:=fun vs H Q E=>∃(G:Hp) (r:Addr) (a:RA) (S S':RS) (T:TB) (kd:Str) (n f:Nat) (o:Option (Str×Nat)),vs=[.ref r,.str kd,.int (n:Nat)]/\RdT P w K C G H r a S T/\n≤1000000/\cy T kd f S=some (S',o)/\S.ss.length+f≤50000/\S.ps.length+f≤50000/\S.tr.length+f≤50000 /\
 (o=none->∀H' dx,Out a.own H H'->Rdr C H' r a S'->H dx=none->H' dx=some (kY dx "place" (.int (n:Nat)))->E (.ref CS) (some dx) H')/\∀b m,o=some (b,m)->∀H' t,Out a.own H H'->Rdr C H' r a S'->SqT K H' t [.str b,.int (m:Nat)]->Q (.ref t) H'
theorem lK {T:TB}{S S':RS}{m:Nat}(h:kX T S m=some S'):S'.ss.length≤S.ss.length+1/\S'.ps.length≤S.ps.length+1/\S'.tr.length≤S.tr.length+1:=by
 obtain⟨sym,k,rl,_,h1,h2,hl⟩:=jo h
 obtain⟨_,f,s,_,_,rfl⟩:=jw hl
 split<;>simp<;>omega
abbrev bM:Stmt:=(bX (fW 20)).getD 3 (.Pass ⟨0,0,0,0⟩)
theorem cM:ar ["self","kind","number","deed"] ["self","kind","number"] (ah bM):=⟨rfl,rfl,rfl,by decide +kernel,rfl,by decide +kernel,by decide +kernel⟩
theorem tI (TC:gM K mg C)(T:Txt K w mg)(R:RawM K C "settle" "Reader.settle" bM ["self","kind","number"])(DM_Reader_deed_for:eR P w K mg base 3 C "deed_for" ["self","kind","number"] (oz P w K C CS))(DM_Reader_put_together:cq P w K mg base 3 C "put_together" ["self","number"] (tW P w K C)) :
  eR P w K mg base 4 C "settle" ["self","kind","number"] (oj P w K C CS):=by
 refine R.defX cM (fun vs H Q E h=>?_) (fun f cdv A outer s H vs Q E hr h=>?_)
 ·obtain⟨G,r,a,S,S',T,kd,n,f,o,rfl,_⟩:=h
  rfl
 ·obtain⟨G,r,a,S,S',TT,kd,n,fu,o,rfl,hR,hn,hset,l1,l2,l3,q1,q2⟩:=h
  have sc:=cM
  have hu:=hr.units
  have deed:∀(fu:Nat) (S1:RS) (H1:Hp),Out a.own H H1->Rdr C H1 r a S1->cy TT kd (fu+1) S1=some (S',o)->∃act,g9 TT S1 kd=some act/\(act=none->∀dx,H1 dx=none->E (.ref CS) (some dx) (upd H1 dx (kY dx "place" (.int (n:Nat))))):=fun fu S1 H1 o1 rd e=>by
   unfold cy at e
   cases hact:g9 TT S1 kd with
   | none=>rw[hact]at e;cases e
   | some act =>
    refine⟨act,rfl,fun z dx ndx=>?_⟩
    subst z
    rw[hact]at e
    cases e
    exact q1 rfl _ dx (.add ndx o1) (rd.grow (ai ndx)) (jK o1 rd ndx) ae
  obtain⟨f0,rfl⟩:∃f0,fu=f0+1:=by
   cases fu with
   | zero=>cases hset
   | succ f0=>exact⟨f0,rfl⟩
  refine⟨_,(ac (ao (i:=3) sc.nd rfl (Or.inl rfl) (dN TC.cls DM_Reader_deed_for (hr.mono (by decide)) (jn 0) (aa (jn 1) (aa (jn 2) af)) gA))
  (ac (jg fB (aH (eH hu (K:=K)) (aK (aA hu (K:=K) (P:=P) (w:=w)) (jn 3) aj) dz)
  (ac (aD (gN TC.cls DM_Reader_put_together (hr.mono (by decide)) (jn 0) (aa (aK (aA hu (K:=K) (P:=P) (w:=w)) (jn 3) aj) af)))
  (ak (ao (i:=3) sc.nd rfl (Or.inl rfl) (dN TC.cls DM_Reader_deed_for (hr.mono (by decide)) (jn 0) (aa (jn 1) (aa (jn 2) af)) gA)))))
  (ak (aw (jn 3))))),?_⟩
  obtain⟨ww,ha0,hx0⟩:=deed f0 S H .refl hR.rd hset
  refine⟨a.dx,_,hR.rd.at_,rfl,G,r,a,S,TT,kd,n,ww,rfl,hR,hn,ha0,hx0,fun b0 k0 t0 ea ht0=>?_⟩
  rw[ea]at ha0
  refine⟨fun m σ H1=>∃(S1:RS) (b:Str) (k:Nat) (t:Addr),Out a.own H H1/\Rdr C H1 r a S1/\SqT K H1 t [.str b,.int (k:Nat)]/\g9 TT S1 kd=some (some (b,k))/\cy TT kd (m+1) S1=some (S',o)/\S1.ss.length+(m+1)≤50000/\S1.ps.length+(m+1)≤50000/\S1.tr.length+(m+1)≤50000/\σ=[some (.ref r),some (.str kd),some (.int (n:Nat)),some (.ref t)],
   ⟨f0,S,b0,k0,t0,.refl,hR.rd,ht0,ha0,hset,l1,l2,l3,rfl⟩,?_⟩
  rintro m σ H1 ⟨S1,b,k,t,o1,rd,ht,hact,hs1,g1,g2,g3,rfl⟩
  refine .inr (.inr ⟨_,_,ht,rfl,?_⟩)
  show if (false^^decide (b=("reduce":Str)))=true then _ else _
  rw[Bool.false_xor]
  unfold cy at hs1
  rw[hact]at hs1
  dsimp only at hs1
  by_cases hb:b="reduce"
  ·rw[if_pos (decide_eq_true hb)]
   rw[if_pos hb]at hs1
   obtain⟨S2,hred,hs2⟩:=Option.bind_eq_some_iff.mp hs1
   obtain⟨f1,rfl⟩:∃f1,m=f1+1:=by
    cases m with
    | zero=>cases hs2
    | succ f1=>exact⟨f1,rfl⟩
   have hlen:=lK hred
   refine⟨_,fun σ' H' h=>⟨f1,Nat.lt_succ_self _,h⟩,?_⟩
   refine⟨a.dx,_,rd.at_,rfl,.inr (.inr ⟨_,_,ht,rfl,?_⟩)⟩
   refine⟨G,r,a,S1,S2,TT,k,rfl,hR.to o1 rd,hred,by omega,by omega,by omega,fun H2 o2 rd2=>?_⟩
   obtain⟨act,ha2,hx2⟩:=deed f1 S2 H2 (o1.trans o2) rd2 hs2
   refine⟨a.dx,_,rd2.at_,rfl,G,r,a,S2,TT,kd,n,act,rfl,hR.to (o1.trans o2) rd2,hn,ha2,hx2,fun b2 k2 t2 ea ht2=>?_⟩
   rw[ea]at ha2
   exact⟨S2,b2,k2,t2,o1.trans o2,rd2,ht2,ha2,hs2,by omega,by omega,by omega,rfl⟩
  ·rw[if_neg (fun z=>hb (of_decide_eq_true z))]
   rw[if_neg hb]at hs1
   cases hs1
   exact q2 b k rfl H1 t o1 rd ht
theorem lU {T:TB}{kd:Str}:∀{f:Nat} {S S':RS} {o:Option (Str×Nat)},cy T kd f S=some (S',o)->S'.ss.length≤S.ss.length+f/\S'.ps.length≤S.ps.length+f/\S'.tr.length≤S.tr.length+f
 | 0,_,_,_,h=>by cases h
 | f+1,S,S',o,h=>by
  unfold cy at h
  split at h
  ·cases h
  ·cases h;omega
  ·split at h
   ·obtain⟨S1,h1,h2⟩:=Option.bind_eq_some_iff.mp h
    have a:=lK h1
    have b:=lU h2
    omega
   ·cases h;omega
def pN (P:Program)(w:World)(K:PySem.W.Frag)(C CS:Addr):Sp:=fun vs H Q E=>∃(G:Hp) (r:Addr) (a:RA) (S:RS) (T:TB) (kd:Str) (n f:Nat) (o:Option RS),vs=[.ref r,.str kd,.int (n:Nat)]/\RdT P w K C G H r a S T/\n≤1000000/\iS T f S kd=some o/\S.ss.length+f≤50000/\S.ps.length+f≤50000/\S.tr.length+f≤50000 /\
 (o=none->∀H' dx,Out a.own H H'->H dx=none->H' dx=some (kY dx "place" (.int (n:Nat)))->E (.ref CS) (some dx) H')/\∀S',o=some S'->∀H',Out a.own H H'->Rdr C H' r a S'->Q .non H'
abbrev cf:Stmt:=(bX (fW 20)).getD 7 (.Pass ⟨0,0,0,0⟩)
theorem dw:ar ["self","kind","number"] ["self","kind","number"] (ah cf):=⟨rfl,rfl,rfl,by decide +kernel,rfl,by decide +kernel,by decide +kernel⟩
theorem pL (TC:gM K mg C)(T:Txt K w mg)(R:RawM K C "take" "Reader.take" cf ["self","kind","number"])(DM_Reader_topmost:cq P w K mg base 1 C "topmost" ["self"] (ic C))(DM_Reader_lay:cq P w K mg base 2 C "lay" ["self","symbol","words"] (jU P w K C))(DM_Reader_settle:eR P w K mg base 4 C "settle" ["self","kind","number"] (oj P w K C CS)) :
  eR P w K mg base 5 C "take" ["self","kind","number"] (pN P w K C CS):=by
 refine R.defX dw (fun vs H Q E h=>?_) (fun f cdv A outer s H vs Q E hr h=>?_)
 ·obtain⟨G,r,a,S,T,kd,n,f,o,rfl,_⟩:=h
  rfl
 ·obtain⟨G,r,a,S,TT,kd,n,fu,o,rfl,hR,hn,htk,l1,l2,l3,q1,q2⟩:=h
  have sc:=dw
  have hu:=hr.units
  have hb:(1000000:Nat)<sizeLine:=by rw[sizeLine_eq];decide
  unfold iS at htk
  cases hset:cy TT kd fu S with
  | none=>rw[hset]at htk;cases htk
  | some z =>
   obtain⟨S1,oo⟩:=z
   rw[hset]at htk
   refine⟨_,(ac (aD (dN TC.cls DM_Reader_settle (hr.mono (by decide)) (jn 0) (aa (jn 1) (aa (jn 2) af)) gA))
  (ac (aD (e8 (K:=K) PySem.F.plainAttrs_list PySem.F.slot_list_append PySem.F.type_list_append bt (cz TC.cls TC.na_way (jn 0)) (aa (bi (aa (gm rfl T.g_WORD_STEP) (aa aj (aa (eM TC.cls DM_Reader_topmost (hr.mono (by decide)) (jn 0)) af)))) af)))
  (ak (aD (gN TC.cls DM_Reader_lay (hr.mono (by decide)) (jn 0) (aa (jn 1) (aa aj af))))))),?_⟩
   cases oo with
   | none =>
    cases htk
    exact⟨a.dx,_,hR.rd.at_,rfl,G,r,a,S,S1,TT,kd,n,fu,none,rfl,hR,hn,hset,l1,l2,l3,fun _ H' dx o1 _ nd hd=>q1 rfl H' dx o1 nd hd,fun b m z=>by cases z⟩
   | some bm =>
    dsimp only at htk
    split at htk
    ·cases htk
    ·rename_i hne
     obtain⟨S3,hlay,e3⟩:=Option.map_eq_some_iff.mp htk
     have hl:=lU hset
     refine⟨a.dx,_,hR.rd.at_,rfl,G,r,a,S,S1,TT,kd,n,fu,some bm,rfl,hR,hn,hset,l1,l2,l3,(fun z=>by cases z),fun b m _ H1 t o1 rd _=>?_⟩
     obtain⟨ws,w1,w2⟩:=rd.wy
     refine⟨a.dx,_,rd.at_,.ref a.wy,rfl,.inl ⟨rfl,_,SqL.of w1⟩,?_⟩
     refine⟨a.dx,_,rd.at_,rfl,r,a,S1,rfl,rd,hne,?_⟩
     refine⟨(show 3≤sizeLine by decide),fun t ht=>?_⟩
     have s1:Same H1 (upd H1 t (.tup [.int (-1),.int ((1:Nat):Int),.int (dB S1:Nat)])):=ai ht
     have rd1:=rd.grow s1
     refine⟨ws,s1 _ _ w1,by rw[w2.length];omega,?_⟩
     have rd2:=rd1.step (ws:=ws) (t:=t) (x:=-1) (y:=1) (z:=dB S1) (s1 _ _ w1) (w2.same fun _ _ e=>s1 _ _ e) ae (by omega)
     have o2:Out a.own H (upd (upd H1 t (.tup [.int (-1),.int ((1:Nat):Int),.int (dB S1:Nat)])) a.wy (.lst (ws++[.ref t]))):=.put (by simp[RA.own]) (.add ht o1)
     refine⟨a.dx,_,rd2.at_,rfl,?_⟩
     exact⟨G,r,a,_,S3,TT,.str kd,.inl (.inr kd),1,rfl,hR.to o2 rd2,rfl,hlay,by show S1.ss.length<100000;omega,by show S1.ps.length<100000;omega,fun H3 o3 rd3=>q2 S3 e3.symm H3 (o2.trans o3) rd3⟩
end
end K46
namespace L2
open PySem PySem.Spec PyProof.Rows PySem.W
section
variable {prog:Program}{w:World}{A:Around}{E:Value->Shared->Prop}{h:Heap}{g:Array GenState}{d:Drawn}{t:Nat}{os:OsState}{a dx:Addr}{o:Obj}{K:Frag}{m:Str->Option Value}{u:Value}
 {nm q:Str} {C N:Addr} {bs bm:List Value} {hdct:Bool} {sn:List Str} {sub:List Value} {ab:Bool} {col:Option Bool} {dd:Option Addr} {k0 k1 k2 k3 k5:Option Value} {newId:String}
theorem kR {tk:Tok}{Q:Fin->Shared->Prop}(X:K.In h)(hx:h.get? a=some o)(hc:o.cls=.ref C)(hod:o.dict=some dx){vs:Array Value}(hd:o.data=.fields vs)(hn:h.Ns1 dx m)(hm:m "place"=some u)(f3:findIn K (.ref C) "place"=some none)(hh:hasDictIn K C=true)
  (hq:Q (.done (.ret u)) ⟨h,g,d,t,os⟩) :
  wpAny (model prog w) A (Builtin.«object.__getattribute__» ⟨[.ref a,.str "place" tk],[]⟩) Q E ⟨h,g,d,t,os⟩:=by
 repeat (any_goals (first | assumption | (with_reducible refine wpAny_loadPart_at hx ?_;rw[hc]) | with_reducible refine iz X f3 ?_ | wp_step))
 rw[hd]
 dsimp only
 unfold instanceDict
 repeat (any_goals (first | assumption | (with_reducible refine wpAny_loadPart_at hx ?_;rw[hod]) | (with_reducible refine wpAny_loadPart_at hx ?_) | wp_step))
 rw[hc]
 dsimp only
 obtain⟨cd,hcd,hdd⟩:=any_some hh
 refine wpAny_bind (PySem.W.Looks.here (s:=⟨h,g,d,t,os⟩) (looks_clsIn X hcd) ?_)
 rw[hdd]
 rw[if_neg (by decide)]
 refine wpAny_pure ?_
 unfold Builtin.ObjectAttr.inDict
 refine wpAny_nsGet hn.ns ?_
 rw[hm]
 repeat (any_goals (first | assumption | wp_step))
theorem ny {tk:Tok}{R:Result->Shared->Prop}(X:K.In h)(hx:h.get? a=some o)(hc:o.cls=.ref C)(hod:o.dict=some dx){vs:Array Value}(hd:o.data=.fields vs)(hn:h.Ns1 dx m)(hm:m "place"=some u)(f3:findIn K (.ref C) "place"=some none)(hh:hasDictIn K C=true)
  (hC:h.get? C=some (excClassObj nm q C N bs bm hdct sn sub ab col dd k0 k1 k2 k3 k5 newId)) (hcB:(Value.ref C::bm).contains (.type "BaseException")=true) (hq:R (.ok (.ret u)) ⟨h,g,d,t,os⟩) :
  codeAny (model prog w) A (.call (.builtin "BaseException.__getattribute__") ⟨[.ref a,.str "place" tk],[]⟩) R ⟨h,g,d,t,os⟩ :=
 codeAny_call_builtin F.attr_ValueError.ga.plain F.entry_bexc_ga (jZ hC hcB hx hc (kR X hx hc hod hd hn hm f3 hh hq))
theorem sY {tk:Tok}{Q:Value->Shared->Prop}{b1 ex:Bool}(X:K.In h)(hx:h.get? a=some o)(hc:o.cls=.ref C)(hod:o.dict=some dx){vs:Array Value}(hd:o.data=.fields vs)(hn:h.Ns1 dx m)(hm:m "place"=some u)(f3:findIn K (.ref C) "place"=some none)(hh:hasDictIn K C=true)
  (hC:h.get? C=some (excClassObj nm q C N bs bm hdct sn sub ab col dd k0 k1 k2 k3 k5 newId)) (hcB:(Value.ref C::bm).contains (.type "BaseException")=true)
  (f1:findIn K (.ref C) "__getattribute__"=some (some (.builtin "BaseException.__getattribute__"))) (f2:findIn K (.ref C) "__getattr__"=some none) (hu:handedOut u=pure u) (hq:Q u ⟨h,g,d,t,os⟩) :
  wpAny (model prog w) A (getAttrBy (.ref a) (.str "place" tk) b1 ex) Q E ⟨h,g,d,t,os⟩:=by
 have f3':=F.attr_ValueError.ga.bind (.ref a)
 have hx2:(Value.builtin "BaseException.__getattribute__" == Value.builtin "object.__getattribute__")=false:=by decide +kernel
 have hx1:(onTheHeap (Value.ref C)&&Value.builtin "BaseException.__getattribute__" == Value.builtin "object.__getattribute__")=false:=by rw[hx2];rfl
 have hx3:(b1&&onTheHeap (Value.builtin "BaseException.__getattribute__"))=false:=by cases b1<;>rfl
 have hx4:(ex&&onTheHeap (Value.builtin "BaseException.__getattribute__"))=false:=by cases ex<;>rfl
 repeat (any_goals (first | assumption | (with_reducible refine wpAny_loadPart_at hx ?_;rw[hc]) | with_reducible refine iz X f1 ?_ | with_reducible refine iz X f2 ?_ | wp_step))
 refine ny X hx hc hod hd hn hm f3 hh hC hcB ?_
 show wpAny (model prog w) A (handedOut u) Q E ⟨h,g,d,t,os⟩
 rw[hu]
 exact wpAny_pure hq
theorem oP {Q:Value->Shared->Prop}{ex:Bool}(X:K.In h)(hx:h.get? a=some o)(hc:o.cls=.ref C)(hod:o.dict=some dx){vs:Array Value}(hd:o.data=.fields vs)(hn:h.Ns1 dx m)(hm:m "place"=some u)(f3:findIn K (.ref C) "place"=some none)(hh:hasDictIn K C=true)
  (hC:h.get? C=some (excClassObj nm q C N bs bm hdct sn sub ab col dd k0 k1 k2 k3 k5 newId)) (hcB:(Value.ref C::bm).contains (.type "BaseException")=true)
  (f1:findIn K (.ref C) "__getattribute__"=some (some (.builtin "BaseException.__getattribute__"))) (f2:findIn K (.ref C) "__getattr__"=some none) (hu:handedOut u=pure u) (hq:Q u ⟨h,g,d,t+1,os⟩) :
  wpAny (model prog w) A (getAttr (.ref a) "place" ex) Q E ⟨h,g,d,t,os⟩:=by
 unfold getAttr
 refine wpAny_bind (wpAny_mkText ?_)
 exact sY (tk:=t) (b1:=true) (ex:=ex) X hx hc hod hd hn hm f3 hh hC hcB f1 f2 hu hq
end
def u7 (C:Addr)(f:Str)(ta:TE):TE:=fun σ H Q=>ta σ H fun x H1=>match x with
 | .ref a=>∃oe dx v,H1 a=some (.frz oe aU)/\oe.cls=.ref C/\oe.dict=some dx/\(∃vs,oe.data=.fields vs)/\H1 dx=some (kY dx f v)/\Q v H1
 | _=>False
section
variable {X:Cx}{C fi:Addr}{o:Expr}{ta:TE}{pos:Pos}
theorem lJ (hq:ff X.K C fi=true)(f3:findIn X.K (.ref C) "place"=some none)(hh:hasDictIn X.K C=true)(f1:findIn X.K (.ref C) "__getattribute__"=some (some (.builtin "BaseException.__getattribute__")))(f2:findIn X.K (.ref C) "__getattr__"=some none)
  (ho:JE X o ta) (hb:attributeBase o "place" X.env (eval o X.env)=eval o X.env:=by rfl):JE X (.Attribute o "place" pos) (u7 C "place" ta):=by
 refine .mk ?_
 intro pins s σ H Q I h
 refine lG hb (aS (ho.out pins s σ H _ I h) fun u s1 ⟨x,H1,I1,rx,q⟩=>?_)
 dsimp only at q
 cases x with
 | ref a =>
  obtain⟨oe,dx,v,ha,hc,hod,⟨vs,hd⟩,hdx,hQ⟩:=q
  obtain rfl:u=Value.ref a:=rx
  obtain⟨bm,N',nm,q,bs,hdct,sn,sub,ab,col,dd,k0,k1,k2,k3,k5,mN,hC,hN,hni,T⟩:=cF (h:=s1.heap) I1.kIn hq
  have hx:s1.heap.get? a=some oe:=(I1.hok a _ ha).1
  obtain⟨⟨w',rv,hn⟩,_,_⟩:=I1.hok dx _ hdx
  have hcB:(Value.ref C::bm).contains (.type "BaseException")=true:=by rw[List.contains_cons,T.hasType PySem.F.excBase_ValueError.hasBase,Bool.or_true]
  obtain⟨hp,g,d,tk,os⟩:=s1
  exact oP I1.kIn hx hc hod hd hn (if_pos rfl) f3 hh hC hcB f1 f2 (handedOut_of (hZ rv)) ⟨v,H1,I1.tok _,rv,hQ⟩
 | _=>exact q.elim
end
end L2
namespace L2
open PySem PySem.Spec PyProof.Rows
def vR (env:Env)(N:List Str)(fr:List Str)(is:List Nat)(sp:Sp)(EX:St->XK)(t:TA):TE:=fun σ H Q=>t σ H fun vs H1=>(∀i∈is,∃v,σ[i]?=some (some v)) /\
 ∀cs os,pp env N σ fr cs os->(∀c∈cs,H1 c=none)->sp vs (cH cs os H1) (fun v H2=>Q v (rem cs H2)) (fun cls n H2=>EX σ cls n (rem cs H2))
section
variable {X:Cx}{k:Nat}{x:Str}{ps:List Str}{sp:Sp}{e:Expr}{es:List Expr}{t:TA}{p pos:Pos}{EX:St->XK}
theorem rH (fr:List Str)(is:List Nat)(D:js X.prog X.w X.K X.mg X.base k x ps sp)(hr:Room k X.A)(hg:Gl X x)(ha:JA X (e::es) t)(hx:iQ X EX)
  (hfr:(fr.zip is).all (fun q=>X.N[q.2]? == some q.1&&X.env.scope.names.lookup q.1 == some .cell&&X.fn q.1)=true) (hl:is.length=fr.length:=by rfl) (hnd:fr.Nodup:=by decide +kernel) (hdb:(x == ("__debug__":Str))=false:=by decide) (hstar:al (e::es)=true:=by rfl) :
  JE X (.Call (.Name x p) (e::es) [] pos) (vR X.env X.N fr is sp EX t):=by
 refine .mk ?_
 intro pins s σ H Q I h
 obtain⟨f,fd,mgf,kp,_,b,Fk⟩:=D.ex
 have h':aZ e=true/\al es=true:=by simpa[al] using hstar
 have he:=am (es:=es) (env:=X.env) h'.1
 have hpl:=ba (env:=X.env) (pos:=pos) h'.2
 refine wpAny_Call_Name_kw (cU I hg mgf ?_ hdb)
 refine PySem.W.callWith_K (h₀:=X.base) I.ok.mod.kin kp (aS (ha.out pos pins s σ H _ I h) fun us s1 ⟨vs,H1,I1,r,hv,q⟩=>⟨I1.kIn,?_⟩) he hpl
 refine ni (us:=us) (vs:=vs) Fk hx b hr hl (fun j y i h1 h2=>?_) hnd I1 r hv q
 have mm:(y,i)∈fr.zip is:=List.mem_iff_getElem?.mpr ⟨j,by rw[List.getElem?_zip_eq_some];exact⟨h1,h2⟩⟩
 have:=List.all_eq_true.mp hfr _ mm
 simp only[Bool.and_eq_true,beq_iff_eq]at this
 exact⟨this.1.1,this.1.2,this.2⟩
end
end L2
namespace L2
open PySem PySem.Spec PyProof.Rows PySem.W
structure xi (K:PySem.W.Frag)(C fi:Addr):Prop where
 exc:ff K C fi=true
 f1:findIn K (.ref C) "__getattribute__"=some (some (.builtin "BaseException.__getattribute__"))
 f2:findIn K (.ref C) "__getattr__"=some none
 f3:findIn K (.ref C) "__class__"=some (some (.builtin "object.__class__"))
 obj:mroIn K C (.type "object")=some true
theorem nE {K:Frag}{a C fi:Addr}{o:Obj}(Z:xi K C fi):KitX K (.ref a) (.ref C) (fun h=>fA h a o C) where
 ty:=fun _ _ _ I=>I.cls▸(Looks.ld I.at_).andThen .now
 it:=fun _ h X _=>by
  obtain⟨bm,N,nm,qn,bs,hdct,sn,sub,ab,col,dd,k0,k1,k2,k3,k5,mN,hC,_⟩:=cF X Z.exc
  intro A' Q' E' s' k q
  unfold isType loadHead
  exact wpAny_bind (wpAny_loadPart (k _ _ hC) (wpAny_pure q))
 ne:=fun h tp dd its n sl X htp=>by
  obtain⟨bm,N,nm,qn,bs,hdct,sn,sub,ab,col,dd',k0,k1,k2,k3,k5,mN,hC,_⟩:=cF X Z.exc
  refine Bool.eq_false_iff.mpr fun q=>?_
  have e:C=tp:=Value.ref.inj (beq_iff_eq.mp q)
  subst e
  rw[htp]at hC
  have z:Value.type "tuple"=Value.type "type":=congrArg Obj.cls (Option.some.inj hC)
  exact absurd z (by decide)
 ca:=fun {prog w A E Q s} X I k=>by
  obtain⟨hh,g,d,t,os⟩:=s
  obtain⟨bm,N,nm,qn,bs,hdct,sn,sub,ab,col,dd',k0,k1,k2,k3,k5,mN,hC,_,_,TL⟩:=cF X Z.exc
  have hcB:(Value.ref C::bm).contains (.type "BaseException")=true:=by rw[List.contains_cons,TL.hasType F.excBase_ValueError.hasBase,Bool.or_true]
  unfold getAttr? getAttrBy?
  refine wpAny_bind (wpAny_mkText (wpAny_bind (wpAny_attempt ?_)))
  exact jB (h:=hh) X I hC hcB Z.f1 Z.f2 Z.f3 Z.obj (wpAny_pure k)
end L2
namespace L2
open PySem PySem.Spec PyProof.Rows
theorem gf (k:Str):∀{vs:List Value} {ns:List Str},StrsAre vs ns->∀(j:Nat) (h1:j<vs.length) (h2:j<ns.length),isStrOf k vs[j]=(ns[j] == k)
 | _,_,.cons n t _,0,_,_=>rfl
 | _,_,.cons n t r,j+1,h1,h2=>gf k r j (Nat.lt_of_succ_lt_succ h1) (Nat.lt_of_succ_lt_succ h2)
theorem jq:∀{vs:List Value} {ns:List Str},StrsAre vs ns->vs.length=ns.length
 | _,_,.nil=>rfl
 | _,_,.cons _ _ r=>congrArg (·+1) (jq r)
theorem dY {k:Str}:∀{ns:List Str} {j:Nat},j<ns.idxOf k->∀(h2:j<ns.length),(ns[j] == k)=false
 | n::r,0,h,_=>by
  by_cases e:n=k
  ·subst e;simp at h
  ·simpa using e
 | n::r,j+1,h,h2=>by
  by_cases e:n=k
  ·subst e;simp at h
  ·have hb:(n == k)=false:=by simpa using e
   have h':j<r.idxOf k:=by
    rw[List.idxOf_cons,hb]at h
    exact Nat.lt_of_succ_lt_succ h
   exact dY h' (Nat.lt_of_succ_lt_succ h2)
section
variable {prog:Program}{w:World}{A:Around}{E:Value->Shared->Prop}{s:Shared}
theorem fD {l:Addr}{vs:List Value}{ns:List Str}{k:Str}{t:Tok}{Q:Value->Shared->Prop}(hl:s.heap.IsList l vs.toArray)(hi:StrsAre vs ns)
  (hb:ns.length≤10000) (hk:k∈ns) (h:Q (.int (ns.idxOf k:Nat) s.toks) { s with toks:=s.toks+1 }) :
  wpAny (model prog w) A (call (.builtin "list.index") [.ref l,.str k t]) Q E s:=by
 obtain⟨⟨cls,dd,data,sl⟩,ho,hc,n,hd⟩:=id hl
 simp only at hc hd
 subst hc hd
 have hlen:=jq hi
 have hj:ns.idxOf k<ns.length:=List.idxOf_lt_length_iff.mpr hk
 refine call_meets PySem.F.slot_list_index ⟨_,ho,rfl⟩ PySem.F.entry_list_index (PySem.F.args_list_index_2 _ _)
  (PySem.SeqAt.list_indexAt l vs.toArray n dd sl (.str k t) (isStrOf k) (ns.idxOf k) (by simpa[hlen] using hj) (by omega) ?_ ?_) ⟨ho,fun y hy=>(eq_isStrOf k t hi y (by simpa using hy)).at _ _,h⟩
 ·show isStrOf k vs[ns.idxOf k]=true
  rw[gf k hi _ (by omega) hj]
  simpa using List.getElem_idxOf hj
 ·intro j hjs hlt
  show isStrOf k vs[j]=false
  rw[gf k hi j (by simpa using hjs) (by omega)]
  exact dY hlt _
end
section
variable {X:Cx}{K:PySem.W.Frag}
def lM (K:PySem.W.Frag):V->List V->Hp->VK->Prop:=fun x vs H Q=>match x,vs with
 | .ref l,[.str i]=>∃ns:List Str,SqL K H l (ns.map V.str)/\ns.length≤10000/\i∈ns/\Q (.int (ns.idxOf i:Nat)) H
 | _,_=>False
theorem pT (hK:X.K=K:=by rfl):Irr (nZ X "list.index" (lM K)):=by
 refine .mk ?_
 subst hK
 intro pins s σ H x xs v us Q I rx rs h
 unfold lM at h
 split at h
 ·obtain⟨ns,h1,hl,h2,h3⟩:=h
  cases rx
  obtain⟨u,rfl,ru⟩:=rs.one
  obtain⟨t,rfl⟩:=ru
  obtain⟨its,rv,p1,_⟩:=I.list h1
  exact fD p1.isList (jA rv) hl h2 ⟨.int _,H,I.tok _,⟨_,rfl⟩,h3⟩
 ·exact h.elim
end
end L2
--@RAISES but law
namespace K46
open PySem PySem.Spec PyProof.Rows L2 Rg
section
variable {P:Program}{w:World}{K:PySem.W.Frag}{mg:Str->Option Value}{base:Heap}{C CS CB fi:Addr}{mc:Value}{c__law_read P__law_read:Addr}
def ph (K:PySem.W.Frag)(C:Addr):Sp:=fun vs H Q _=>∃(r dx t pl be de:Addr),vs=[.ref r,.ref t]/\H r=some (.ins C dx [])/\SqT K H t [.ref pl,.ref be,.ref de] /\
 ∀H' (a:RA),Out [r] H H'->a.pl=pl->a.be=be->a.de=de->a.dx=dx->(∀b∈a.own,H b=none)->Rdr C H' r a rs0->Q .non H'
abbrev bC:Stmt:=(bX (fW 20)).getD 0 (.Pass ⟨0,0,0,0⟩)
theorem cm:ar ["self","tables"] ["self","tables"] (ah bC):=⟨rfl,rfl,rfl,by decide +kernel,rfl,by decide +kernel,by decide +kernel⟩
theorem oW (TC:gM K mg C)(R:RawM K C "__init__" "Reader.__init__" bC ["self","tables"]):cq P w K mg base 1 C "__init__" ["self","tables"] (ph K C):=by
 refine R.defJ cm (fun vs H Q E h=>?_) (fun f cdv A outer s H vs Q E hr h=>?_)
 ·obtain⟨r,dx,t,pl,be,de,rfl,_⟩:=h
  rfl
 ·obtain⟨r,dx,t,pl,be,de,rfl,hr0,ht,q⟩:=h
  have sc:=cm
  have hu:=hr.units
  refine⟨_,(ac (eX TC.cls TC.na_plain (jn 0) (aK (aA hu (K:=K) (P:=P) (w:=w)) (jn 1) aj))
  (ac (eX TC.cls TC.na_behind (jn 0) (aK (aA hu (K:=K) (P:=P) (w:=w)) (jn 1) aj))
  (ac (eX TC.cls TC.na_deeds (jn 0) (aK (aA hu (K:=K) (P:=P) (w:=w)) (jn 1) aj))
  (ac (eX TC.cls TC.na_states (jn 0) (cr (aa aj af)))
  (ac (eX TC.cls TC.na_spans (jn 0) (cr af))
  (ak (eX TC.cls TC.na_way (jn 0) (cr af)))))))),?_⟩
  have nt:∀{H1:Hp} {fs:List (Str×V)} {o':HO},H1 r=some (.ins C dx fs)->aT K H1 (upd H1 r o'):=fun h=>cR h ⟨(fun xs z=>nomatch z),(fun x u z=>nomatch z)⟩
  have bk:∀{H1:Hp} {fs:List (Str×V)} {b:Addr},Out [r] H H1->H1 r=some (.ins C dx fs)->H1 b=none->H b=none:=fun {H1 fs b} o h n=>by
   cases e:H b with
   | none=>rfl
   | some u =>
    have nb:b∉[r]:=fun m=>by rw[List.mem_singleton.mp m,h]at n;cases n
    rw[o b u nb e]at n;cases n
  refine .inr (.inr ⟨_,_,ht,rfl,⟨dx,_,hr0,(by simp),?_⟩⟩)
  have h1:upd H r (.ins C dx (aX "plain" (.ref pl) [])) r=some (.ins C dx [("plain",.ref pl)]):=ae
  have t1:SqT K (upd H r (.ins C dx (aX "plain" (.ref pl) []))) t _:=nt hr0 t _ ht
  have o1:Out [r] H (upd H r (.ins C dx (aX "plain" (.ref pl) []))):=.put (by simp) .refl
  generalize upd H r (.ins C dx (aX "plain" (.ref pl) []))=H1 at h1 t1 o1 ⊢
  refine .inr (.inr ⟨_,_,t1,rfl,⟨dx,_,h1,(by simp),?_⟩⟩)
  have h2:upd H1 r (.ins C dx (aX "behind" (.ref be) [("plain",.ref pl)])) r=some (.ins C dx [("plain",.ref pl),("behind",.ref be)]):=ae
  have t2:SqT K (upd H1 r (.ins C dx (aX "behind" (.ref be) [("plain",.ref pl)]))) t _:=nt h1 t _ t1
  have o2:Out [r] H (upd H1 r (.ins C dx (aX "behind" (.ref be) [("plain",.ref pl)]))):=.put (by simp) o1
  generalize upd H1 r (.ins C dx (aX "behind" (.ref be) [("plain",.ref pl)]))=H2 at h2 t2 o2 ⊢
  refine .inr (.inr ⟨_,_,t2,rfl,⟨dx,_,h2,(by simp),?_⟩⟩)
  have h3:upd H2 r (.ins C dx (aX "deeds" (.ref de) [("plain",.ref pl),("behind",.ref be)])) r=some (.ins C dx [("plain",.ref pl),("behind",.ref be),("deeds",.ref de)]):=ae
  have t3:SqT K (upd H2 r (.ins C dx (aX "deeds" (.ref de) [("plain",.ref pl),("behind",.ref be)]))) t _:=nt h2 t _ t2
  have o3:Out [r] H (upd H2 r (.ins C dx (aX "deeds" (.ref de) [("plain",.ref pl),("behind",.ref be)]))):=.put (by simp) o2
  generalize upd H2 r (.ins C dx (aX "deeds" (.ref de) [("plain",.ref pl),("behind",.ref be)]))=H3 at h3 t3 o3 ⊢
  refine⟨(show 1≤sizeLine by decide),fun st nst=>?_⟩
  have xst:H st=none:=bk o3 h3 nst
  have rst:r≠st:=fun z=>by rw[<-z,h3]at nst;cases nst
  refine⟨dx,_,(ag rst).trans h3,(by simp),?_⟩
  have h4:(upd (upd H3 st (.lst [.int 0])) r (.ins C dx (aX "states" (.ref st) [("plain",.ref pl),("behind",.ref be),("deeds",.ref de)]))) r=some (.ins C dx [("plain",.ref pl),("behind",.ref be),("deeds",.ref de),("states",.ref st)]):=ae
  have o4:Out [r] H (upd (upd H3 st (.lst [.int 0])) r (.ins C dx (aX "states" (.ref st) [("plain",.ref pl),("behind",.ref be),("deeds",.ref de)]))):=.put (by simp) (.add nst o3)
  have lst4:(upd (upd H3 st (.lst [.int 0])) r (.ins C dx (aX "states" (.ref st) [("plain",.ref pl),("behind",.ref be),("deeds",.ref de)]))) st=some (.lst [.int 0]):=by rw[ag (Ne.symm rst)];exact ae
  generalize upd (upd H3 st (.lst [.int 0])) r (.ins C dx (aX "states" (.ref st) [("plain",.ref pl),("behind",.ref be),("deeds",.ref de)]))=H4 at h4 o4 lst4 ⊢
  refine⟨(show 0≤sizeLine by decide),fun sp nsp=>?_⟩
  have xsp:H sp=none:=bk o4 h4 nsp
  have rsp:r≠sp:=fun z=>by rw[<-z,h4]at nsp;cases nsp
  refine⟨dx,_,(ag rsp).trans h4,(by simp),?_⟩
  have h5:(upd (upd H4 sp (.lst [])) r (.ins C dx (aX "spans" (.ref sp) [("plain",.ref pl),("behind",.ref be),("deeds",.ref de),("states",.ref st)]))) r=some (.ins C dx [("plain",.ref pl),("behind",.ref be),("deeds",.ref de),("states",.ref st),("spans",.ref sp)]):=ae
  have o5:Out [r] H (upd (upd H4 sp (.lst [])) r (.ins C dx (aX "spans" (.ref sp) [("plain",.ref pl),("behind",.ref be),("deeds",.ref de),("states",.ref st)]))):=.put (by simp) (.add nsp o4)
  have lsp5:(upd (upd H4 sp (.lst [])) r (.ins C dx (aX "spans" (.ref sp) [("plain",.ref pl),("behind",.ref be),("deeds",.ref de),("states",.ref st)]))) sp=some (.lst []):=by rw[ag (Ne.symm rsp)];exact ae
  have qst5:st≠sp:=fun z=>by rw[<-z,lst4]at nsp;cases nsp
  have lst5:(upd (upd H4 sp (.lst [])) r (.ins C dx (aX "spans" (.ref sp) [("plain",.ref pl),("behind",.ref be),("deeds",.ref de),("states",.ref st)]))) st=some (.lst [.int 0]):=by rw[ag (Ne.symm rst),ag qst5];exact lst4
  generalize upd (upd H4 sp (.lst [])) r (.ins C dx (aX "spans" (.ref sp) [("plain",.ref pl),("behind",.ref be),("deeds",.ref de),("states",.ref st)]))=H5 at h5 o5 lst5 lsp5 ⊢
  refine⟨(show 0≤sizeLine by decide),fun wy nwy=>?_⟩
  have xwy:H wy=none:=bk o5 h5 nwy
  have rwy:r≠wy:=fun z=>by rw[<-z,h5]at nwy;cases nwy
  refine⟨dx,_,(ag rwy).trans h5,(by simp),?_⟩
  have h6:(upd (upd H5 wy (.lst [])) r (.ins C dx (aX "way" (.ref wy) [("plain",.ref pl),("behind",.ref be),("deeds",.ref de),("states",.ref st),("spans",.ref sp)]))) r=some (.ins C dx [("plain",.ref pl),("behind",.ref be),("deeds",.ref de),("states",.ref st),("spans",.ref sp),("way",.ref wy)]):=ae
  have o6:Out [r] H (upd (upd H5 wy (.lst [])) r (.ins C dx (aX "way" (.ref wy) [("plain",.ref pl),("behind",.ref be),("deeds",.ref de),("states",.ref st),("spans",.ref sp)]))):=.put (by simp) (.add nwy o5)
  have lwy6:(upd (upd H5 wy (.lst [])) r (.ins C dx (aX "way" (.ref wy) [("plain",.ref pl),("behind",.ref be),("deeds",.ref de),("states",.ref st),("spans",.ref sp)]))) wy=some (.lst []):=by rw[ag (Ne.symm rwy)];exact ae
  have qst6:st≠wy:=fun z=>by rw[<-z,lst5]at nwy;cases nwy
  have lst6:(upd (upd H5 wy (.lst [])) r (.ins C dx (aX "way" (.ref wy) [("plain",.ref pl),("behind",.ref be),("deeds",.ref de),("states",.ref st),("spans",.ref sp)]))) st=some (.lst [.int 0]):=by rw[ag (Ne.symm rst),ag qst6];exact lst5
  have qsp6:sp≠wy:=fun z=>by rw[<-z,lsp5]at nwy;cases nwy
  have lsp6:(upd (upd H5 wy (.lst [])) r (.ins C dx (aX "way" (.ref wy) [("plain",.ref pl),("behind",.ref be),("deeds",.ref de),("states",.ref st),("spans",.ref sp)]))) sp=some (.lst []):=by rw[ag (Ne.symm rsp),ag qsp6];exact lsp5
  generalize upd (upd H5 wy (.lst [])) r (.ins C dx (aX "way" (.ref wy) [("plain",.ref pl),("behind",.ref be),("deeds",.ref de),("states",.ref st),("spans",.ref sp)]))=H6 at h6 o6 lst6 lsp6 lwy6 ⊢
  refine q H6 ⟨dx,pl,be,de,st,sp,wy⟩ o6 rfl rfl rfl rfl (fun b m=>?_) ⟨h6,lst6,lsp6,⟨[],lwy6,True.intro⟩,qst5,qst6,qsp6,by decide,by decide,by decide⟩
  rcases List.mem_cons.mp m with z | m
  ·rw[z];exact xst
  rcases List.mem_cons.mp m with z | m
  ·rw[z];exact xsp
  ·rw[List.mem_singleton.mp m];exact xwy
theorem Wys.append {H:Hp}:∀{ws us:List V} {tr tu:List (Int×Nat×Nat)},Wys H ws tr->Wys H us tu->Wys H (ws++us) (tr++tu)
 | [],_,[],_,_,h=>h
 | _::_,_,(_,_,_)::_,_,h1,h=>⟨h1.1,Wys.append h1.2 h⟩
theorem Rdr.steps {H:Hp}{r:Addr}{a:RA}{S:RS}(h:Rdr C H r a S){ws us:List V}{tu:List (Int×Nat×Nat)}(w1:H a.wy=some (.lst ws))(w2:Wys H ws S.tr)(q:Wys H us tu)(l:S.tr.length+tu.length≤100000) :
  Rdr C (upd H a.wy (.lst (ws++us))) r a { S with tr:=S.tr++tu }:=by
 have o:Out a.own H (upd H a.wy (.lst (ws++us))):=.upd (by simp[RA.own])
 refine⟨o _ _ h.notr h.at_,by rw[ag h.n2];exact h.st,by rw[ag h.n3];exact h.sp,⟨_,ae,?_⟩,h.n1,h.n2,h.n3,h.l1,h.l2,by simp;omega⟩
 exact (Wys.append w2 q).same (h.tups o)
theorem Wys.last {H:Hp}{x:Int}{y z:Nat}:∀{us:List V} {tu:List (Int×Nat×Nat)},Wys H us (tu++[(x,y,z)])->∃vs t,us=vs++[.ref t]/\H t=some (.tup [.int x,.int (y:Nat),.int (z:Nat)])
 | [],[],h=>h.elim
 | [],_::_,h=>h.elim
 | v::r,[],h=>by
  obtain⟨⟨t,rfl,ht⟩,hr⟩:=h
  cases r with
  | nil=>exact⟨[],t,rfl,ht⟩
  | cons _ _=>exact hr.elim
 | v::r,(_,_,_)::tu,h=>by
  obtain⟨vs,t,e,ht⟩:=Wys.last (us:=r) (tu:=tu) h.2
  exact⟨v::vs,t,by rw[e];rfl,ht⟩
def lq (P:Program)(w:World)(K:PySem.W.Frag)(C:Addr):Sp:=fun vs H Q _=>∃(G:Hp) (r:Addr) (a:RA) (S S':RS) (T:TB) (sv:V) (k:GK) (sa:Addr) (us:List V) (tu:List (Int×Nat×Nat)) (x:Int) (y z:Nat),vs=[.ref r,.ref sa,sv]/\RdT P w K C G H r a S T/\KeyV K H k sv/\H sa=some (.lst us)/\sa∉a.own/\Wys H us (tu++[(x,y,z)])/\el T { S with tr:=S.tr++(tu++[(x,y,z)]) } k y=some S'/\S.ss.length<50000/\S.ps.length<50000/\S.tr.length<50000/\tu.length<40000 /\
 ∀H',Out a.own H H'->Rdr C H' r a S'->Q .non H'
abbrev bu:Stmt:=(bX (fW 20)).getD 8 (.Pass ⟨0,0,0,0⟩)
theorem bQ:ar ["self","stretch","symbol"] ["self","stretch","symbol"] (ah bu):=⟨rfl,rfl,rfl,by decide +kernel,rfl,by decide +kernel,by decide +kernel⟩
theorem mH (TC:gM K mg C)(T:Txt K w mg)(R:RawM K C "take_whole" "Reader.take_whole" bu ["self","stretch","symbol"])(DM_Reader_lay:cq P w K mg base 2 C "lay" ["self","symbol","words"] (jU P w K C)) :
  cq P w K mg base 3 C "take_whole" ["self","stretch","symbol"] (lq P w K C):=by
 refine R.defJ bQ (fun vs H Q E h=>?_) (fun f cdv A outer s H vs Q E hr h=>?_)
 ·obtain⟨G,r,a,S,S',T,sv,k,sa,us,tu,x,y,z,rfl,_⟩:=h
  rfl
 ·obtain⟨G,r,a,S,S',TT,sv,k,sa,us,tu,x,y,z,rfl,hR,hk,hsa,nsa,hus,hlay,l1,l2,l3,l4,q⟩:=h
  have sc:=bQ
  have hu:=hr.units
  have hb:(1000000:Nat)<sizeLine:=by rw[sizeLine_eq];decide
  refine⟨_,(ac (aD (e8 (K:=K) PySem.F.plainAttrs_list PySem.F.slot_list_extend PySem.F.type_list_extend (qt (K:=K)) (cz TC.cls TC.na_way (jn 0)) (aa (jn 1) af)))
  (ak (aD (gN TC.cls DM_Reader_lay (hr.mono (by decide)) (jn 0) (aa (jn 2) (aa (aK (aA hu (K:=K) (P:=P) (w:=w)) (aK (aA hu (K:=K) (P:=P) (w:=w)) (jn 1) (gk aj)) aj) af)))))),?_⟩
  obtain⟨ws,w1,w2⟩:=hR.rd.wy
  refine⟨a.dx,_,hR.rd.at_,.ref a.wy,rfl,.inl ⟨rfl,_,SqL.of w1⟩,?_⟩
  have rd1:=Rdr.steps hR.rd w1 w2 hus (by simp;omega)
  have o1:Out a.own H (upd H a.wy (.lst (ws++us))):=.upd (by simp[RA.own])
  have hlw:=w2.length
  have hlu:=hus.length
  refine⟨ws,us,w1,hsa,(by rw[hlw,hlu];simp;omega),?_⟩
  refine⟨a.dx,_,rd1.at_,rfl,?_⟩
  obtain⟨vs,t,e,ht⟩:=Wys.last hus
  have hsa1:=o1 _ _ nsa hsa
  have ht1:=hR.rd.tups o1 _ _ ht
  refine .inr (.inl ⟨_,_,SqL.of hsa1,(by rw[e];exact jk vs _),?_⟩)
  refine .inr (.inr ⟨_,_,SqT.of ht1,rfl,?_⟩)
  exact⟨G,r,a,_,S',TT,sv,k,y,rfl,hR.to o1 rd1,hk.keeps (cR w1 ⟨(fun xs z=>nomatch z),(fun x u z=>nomatch z)⟩),hlay,by show S.ss.length<100000;omega,by show S.ps.length<100000;omega,fun H3 o3 rd3=>q H3 (o1.trans o3) rd3⟩
end
end K46
namespace L2
open PySem PySem.Spec PyProof.Rows PySem.W
section
variable {M:Model}{A:Around}{E:Value->Shared->Prop}
variable {nm q:Str}{C N:Addr}{bs bm:List Value}{hdct:Bool}{sn:List Str}{sub:List Value}{ab:Bool}{col:Option Bool}{dd:Option Addr}{k0 k1 k2 k3 k5:Option Value}{newId:String}
variable {nm' q':Str}{G N':Addr}{bs' bm':List Value}{hdct':Bool}{sn':List Str}{sub':List Value}{ab':Bool}{col':Option Bool}{dd':Option Addr}{k0' k1' k2' k3' k5':Option Value}{newId':String}
theorem gz {h:Heap}{g:Array GenState}{d:Drawn}{t:Nat}{os:OsState}{e:Addr}{oe:Obj}{Q:Bool->Shared->Prop}
  (hC:h.get? C=some (excClassObj nm q C N bs bm hdct sn sub ab col dd k0 k1 k2 k3 k5 newId)) (hG:h.get? G=some (excClassObj nm' q' G N' bs' bm' hdct' sn' sub' ab' col' dd' k0' k1' k2' k3' k5' newId')) (he:h.get? e=some oe) (hcls:oe.cls=.ref C)
  (hbase:bm'.contains (.type "BaseException")=true) (hm:(Value.ref C::bm).contains (.ref G)=false)
  (hq:Q false ⟨h,g,d,t,os⟩):wpAny M A (excMatches (.ref e) (.ref G)) Q E ⟨h,g,d,t,os⟩:=by
 have hcB:(Value.ref G::bm').contains (.type "BaseException")=true:=by rw[List.contains_cons,hbase,Bool.or_true]
 have f:=tc_notTuple
 unfold excMatches
 repeat (first | (with_reducible refine wpAny_loadPart_at he ?_;rw[hcls]) | with_reducible refine wpAny_loadPart_at hG ?_ | with_reducible refine wpAny_loadPart_at hC ?_ | (with_reducible refine wpAny_isSubtype_exc hG ?_;rw[hcB]) | (with_reducible refine wpAny_isSubtype_exc hC ?_;rw[hm]) | wp_step)
 exact hq
end
def o8 (CG CN:Addr)(i:Nat)(tb:List (Addr×Obj)->(St->XK)->TS)(ts us:Addr->TS):TS:=fun D σ H=>∀pins,tb pins (fun σ' cls x H2=>(cls=.ref CG/\∀a oe,H2 a=none->oe.cls=.ref CG->(∃vs,oe.data=.fields vs)->(∀dx,x=some dx->oe.dict=some dx)->ts a (fT i a oe D) (σ'.set i (some (.ref a))) H2) \/
 (cls=.ref CN/\∀a oe,H2 a=none->oe.cls=.ref CN->(∃vs,oe.data=.fields vs)->us a (fT i a oe D) (σ'.set i (some (.ref a))) H2)) D σ H
section
variable {X:Cx}{G G2 n:Str}{gp gp2 hpos hpos2 pos:Pos}{CG CN fi:Addr}{i:Nat}{b₀ b₁:Stmt}{suite suite2 body:List Stmt}{tb:List (Addr×Obj)->(St->XK)->TS}{ts us:Addr->TS}
theorem oR (hst:X.stack=X.env::X.outer)(hfr:X.env.frame=some X.env.locals)(hb:∀pins EX,PSs (gF X pins EX) body (tb pins EX))
  (hgG:Gl X G) (hmG:X.mg G=some (.ref CG)) (hqG:ff X.K CG fi=true) (hgN:Gl X G2) (hmN:X.mg G2=some (.ref CN)) (hqN:PySem.W.excIn X.K CN iW "ValueError.__new__"=true) (hno:dJ X.K CN (.ref CG)=false) (hN:X.N.Nodup) (hi:X.N[i]?=some n) (hk:X.env.scope.names.lookup n=some .local)
  (hsu:∀a oe,PSs (cE X a oe) (b₀::suite) (ts a)) (hsu2:∀a oe,PSs (cE X a oe) (b₁::suite2) (us a)) (hdG:(G == ("__debug__":Str))=false:=by decide) (hdN:(G2 == ("__debug__":Str))=false:=by decide) :
  PS X (.Try body [.ExceptHandler (some (.Name G gp)) (some n) (b₀::suite) hpos,.ExceptHandler (some (.Name G2 gp2)) (some n) (b₁::suite2) hpos2] [] [] pos) (o8 CG CN i tb ts us):=by
 intro pins s σ H Dn I h
 refine wpAny_Try_except (wpAny_mono (hb pins _ [] s σ H Dn (vD I) (h pins)) (fun fl s' z=>?_) fun er s' z=>?_)
 ·cases fl with
  | next=>obtain⟨σ',H',I',q'⟩:=z;exact wpAny_execs_nil ⟨σ',H',fR I.ok I',q'⟩
  | brk=>obtain⟨σ',H',I',q'⟩:=z;exact⟨σ',H',fR I.ok I',q'⟩
  | cont=>obtain⟨σ',H',I',q'⟩:=z;exact⟨σ',H',fR I.ok I',q'⟩
  | ret u=>obtain⟨v,σ',H',I',r,q'⟩:=z;exact⟨v,σ',H',fR I.ok I',r,q'⟩
 ·refine wpAny_mono z (fun _ s2 q=>?_) fun _ _ z=>z.elim
  obtain⟨σ1,H1,s1,a,B,cls,a0,H2,h1,xd,I1',rfl,os,bare,hok,un,kb,⟨hxd,hq⟩,hBa,held,us1⟩:=q
  have I1:Inv X pins σ1 H1 s1:=jO I.ok I1'
  have nf:∀b∈cu X.stack,∃o,s1.heap.get? b=some o/\∀vs,o.data≠.fields vs:=fun b hb=>(I1.stack.mem hb).2
  have mk:∀h3,B.StaysIn h3->h1.UpToSlots h3->Inv X pins σ1 H2 { s2 with heap:=h3 }:=fun h3 st us =>
   I1.call' (s':={ s2 with heap:=h3 }) (ch:=[]) os (fQ un kb st (fun b _=>us b) nf I1.stkFree) (hok.kept st) bare fun b z=>nomatch z
  refine eh (s:=s2) held fun h2 fl2 us2 dk2=>?_
  have I2:=mk h2 fl2.1 (us1.trans us2)
  obtain⟨ob,hob,hobc⟩:=fl2.there
  obtain⟨bm,N,nm,qn,bs,hdct,sn,sub,ab,col,dd,k0,k1,k2,k3,k5,mN,hC,hN',hni,TL⟩:=cF (h:=X.base) I.ok.mod.kin hqG
  rcases hq with⟨rfl,hts⟩ | ⟨rfl,hts⟩
  ·refine wpAny_handleBy_cons (codeAny_handlers_test (Calls.Name_function_global I2.ok.kind hgG (Calls.loadGlobal_global (by rw[I2.ok.glob];exact I2.mod.glob.keeps I2.bk) hmG ?_) hdG)) (by intro q;cases q)
   refine dy (I2.bk _ _ hC) (I2.bk _ _ hC) hob hobc (TL.hasType F.excBase_ValueError.hasBase) (by simp) (codeAny_handlers_suite_as ?_)
   refine jm (s:={ s2 with heap:=h2 }) (FlyG.of fl2) fun h3 fl3 us3 dk3=>?_
   have I3:=mk h3 fl3.1 ((us1.trans us2).trans us3)
   obtain⟨oe,ws,hoe,hoec,hoed,_⟩:=fl3.first
   have hdx:∀dx,xd=some dx->oe.dict=some dx:=fun dx e=>by
    subst e
    obtain⟨o',g',q'⟩:=(hxd.keeps (dk2.trans dk3):DictAt h3 a (some dx))
    rw[hoe]at g'
    cases g'
    exact q'
   have hHa:H2 a=none:=by
    cases z:H2 a with
    | none=>rfl
    | some o =>
     obtain⟨u,hu⟩:=dC (hok a o z)
     rw[hBa]at hu;cases hu
   have notfr:a∉cu (X.env::X.outer):=fun z=>by
    obtain⟨_,o',e',d'⟩:=fl3.2.2.1.mem z
    rw[hoe]at e';cases e'
    exact d' ws hoed
   have hL:a≠X.env.locals:=fun z=>notfr (by rw[eU hfr,z];exact List.mem_cons_self)
   have hF:a∉X.fs:=fun z=>notfr (by rw[eU hfr];exact List.mem_cons_of_mem _ z)
   have old:∀b o,s1.heap.get? b=some o->b∉cu X.stack->b≠a:=fun b o hb hf z=>by
    obtain⟨⟨o',ho'⟩,_⟩:=kb b o hb hf (by simp)
    rw[z,hBa]at ho';cases ho'
   have h0:∀o,X.s₀.heap.get? a=some o->a∈X.ex:=fun o e0=>Classical.byContradiction fun hx=>by
    obtain⟨o',e1⟩:=I1.base.there a o e0 hx
    exact old a o' e1 (by rw[hst];exact notfr) rfl
   have hpp:∀p∈X.pn++pins,p.1≠a:=fun p hp=>by
    obtain⟨e1,e2,e3,e4,e5⟩:=I1.pin p hp
    refine old p.1 p.2 e1 fun z=>?_
    rcases List.mem_cons.mp (I1.stkSub _ z) with y | y
    ·exact e3 y
    ·exact e4 y
   have hcell:∀v,oe.data≠.cell v:=fun v z=>by rw[hoed]at z;cases z
   have Is:=jS I3 hoe hHa hL hF hcell
   have hkl:X.env.kindOf n=some .local:=hk
   refine cb (X:=cE X a oe) Is hN hi (.inl hk) (show RelV (.ref a) (.ref a) from rfl) (fun s4 I4=>?_) (.inr hk)
   refine wpAny_mono (hsu a oe pins s4 _ H2 (fT i a oe Dn) I4 (hts a oe hHa hoec ⟨ws,hoed⟩ hdx)) (fun fl s5 h5=>?_) fun _ _ z=>z.elim
   cases fl with
   | next =>
    obtain⟨σ5,H5,I5,q5⟩:=h5
    have hpa:=I5.pin (a,oe) (List.mem_append_left _ (List.mem_append_right _ List.mem_cons_self))
    exact cB ((bG I.ok I5).track hpa.1 hpa.2.1 hL hcell h0 hpp) hN hi hkl fun s6 I6=>⟨_,_,I6,q5⟩
   | brk =>
    obtain⟨σ5,H5,I5,q5⟩:=h5
    exact cB (bG I.ok I5) hN hi hkl fun s6 I6=>⟨_,H5,I6,q5⟩
   | cont =>
    obtain⟨σ5,H5,I5,q5⟩:=h5
    exact cB (bG I.ok I5) hN hi hkl fun s6 I6=>⟨_,H5,I6,q5⟩
   | ret u =>
    obtain⟨v,σ5,H5,I5,r5,q5⟩:=h5
    exact cB (bG I.ok I5) hN hi hkl fun s6 I6=>⟨v,_,H5,I6,r5,q5⟩
  ·obtain⟨bm',N'',nm',qn',bs',hdct',sn',sub',ab',col',dd',k0',k1',k2',k3',k5',mN',hCN,hNN,hniN,TN,hvN⟩:=cP (h:=X.base) I.ok.mod.kin hqN
   refine wpAny_handleBy_cons (codeAny_handlers_test (Calls.Name_function_global I2.ok.kind hgG (Calls.loadGlobal_global (by rw[I2.ok.glob];exact I2.mod.glob.keeps I2.bk) hmG ?_) hdG)) (by intro q;cases q)
   refine gz (I2.bk _ _ hCN) (I2.bk _ _ hC) hob hobc (TL.hasType F.excBase_ValueError.hasBase) (by rw[<-hvN];exact hno) ?_
   refine wpAny_handleBy_cons (codeAny_handlers_test (Calls.Name_function_global I2.ok.kind hgN (Calls.loadGlobal_global (by rw[I2.ok.glob];exact I2.mod.glob.keeps I2.bk) hmN ?_) hdN)) (by intro q;cases q)
   refine dy (I2.bk _ _ hCN) (I2.bk _ _ hCN) hob hobc (TN.hasType F.excBase_ValueError.hasBase) (by simp) (codeAny_handlers_suite_as ?_)
   refine jm (s:={ s2 with heap:=h2 }) (FlyG.of fl2) fun h3 fl3 us3 dk3=>?_
   have I3:=mk h3 fl3.1 ((us1.trans us2).trans us3)
   obtain⟨oe,ws,hoe,hoec,hoed,_⟩:=fl3.first
   have hHa:H2 a=none:=by
    cases z:H2 a with
    | none=>rfl
    | some o =>
     obtain⟨u,hu⟩:=dC (hok a o z)
     rw[hBa]at hu;cases hu
   have notfr:a∉cu (X.env::X.outer):=fun z=>by
    obtain⟨_,o',e',d'⟩:=fl3.2.2.1.mem z
    rw[hoe]at e';cases e'
    exact d' ws hoed
   have hL:a≠X.env.locals:=fun z=>notfr (by rw[eU hfr,z];exact List.mem_cons_self)
   have hF:a∉X.fs:=fun z=>notfr (by rw[eU hfr];exact List.mem_cons_of_mem _ z)
   have old:∀b o,s1.heap.get? b=some o->b∉cu X.stack->b≠a:=fun b o hb hf z=>by
    obtain⟨⟨o',ho'⟩,_⟩:=kb b o hb hf (by simp)
    rw[z,hBa]at ho';cases ho'
   have h0:∀o,X.s₀.heap.get? a=some o->a∈X.ex:=fun o e0=>Classical.byContradiction fun hx=>by
    obtain⟨o',e1⟩:=I1.base.there a o e0 hx
    exact old a o' e1 (by rw[hst];exact notfr) rfl
   have hpp:∀p∈X.pn++pins,p.1≠a:=fun p hp=>by
    obtain⟨e1,e2,e3,e4,e5⟩:=I1.pin p hp
    refine old p.1 p.2 e1 fun z=>?_
    rcases List.mem_cons.mp (I1.stkSub _ z) with y | y
    ·exact e3 y
    ·exact e4 y
   have hcell:∀v,oe.data≠.cell v:=fun v z=>by rw[hoed]at z;cases z
   have Is:=jS I3 hoe hHa hL hF hcell
   have hkl:X.env.kindOf n=some .local:=hk
   refine cb (X:=cE X a oe) Is hN hi (.inl hk) (show RelV (.ref a) (.ref a) from rfl) (fun s4 I4=>?_) (.inr hk)
   refine wpAny_mono (hsu2 a oe pins s4 _ H2 (fT i a oe Dn) I4 (hts a oe hHa hoec ⟨ws,hoed⟩)) (fun fl s5 h5=>?_) fun _ _ z=>z.elim
   cases fl with
   | next =>
    obtain⟨σ5,H5,I5,q5⟩:=h5
    have hpa:=I5.pin (a,oe) (List.mem_append_left _ (List.mem_append_right _ List.mem_cons_self))
    exact cB ((bG I.ok I5).track hpa.1 hpa.2.1 hL hcell h0 hpp) hN hi hkl fun s6 I6=>⟨_,_,I6,q5⟩
   | brk =>
    obtain⟨σ5,H5,I5,q5⟩:=h5
    exact cB (bG I.ok I5) hN hi hkl fun s6 I6=>⟨_,H5,I6,q5⟩
   | cont =>
    obtain⟨σ5,H5,I5,q5⟩:=h5
    exact cB (bG I.ok I5) hN hi hkl fun s6 I6=>⟨_,H5,I6,q5⟩
   | ret u =>
    obtain⟨v,σ5,H5,I5,r5,q5⟩:=h5
    exact cB (bG I.ok I5) hN hi hkl fun s6 I6=>⟨v,_,H5,I6,r5,q5⟩
theorem pc (hst:X.stack=X.env::X.outer)(hfr:X.env.frame=some X.env.locals)(hb:∀pins EX,iF (gF X pins EX) body (tb pins EX))
  (hgG:Gl X G) (hmG:X.mg G=some (.ref CG)) (hqG:ff X.K CG fi=true) (hgN:Gl X G2) (hmN:X.mg G2=some (.ref CN)) (hqN:PySem.W.excIn X.K CN iW "ValueError.__new__"=true) (hno:dJ X.K CN (.ref CG)=false) (hN:X.N.Nodup) (hi:X.N[i]?=some n) (hk:X.env.scope.names.lookup n=some .local)
  (hsu:∀a oe,iF (cE X a oe) (b₀::suite) (ts a)) (hsu2:∀a oe,iF (cE X a oe) (b₁::suite2) (us a)) (hdG:(G == ("__debug__":Str))=false:=by decide) (hdN:(G2 == ("__debug__":Str))=false:=by decide) :
  JS X (.Try body [.ExceptHandler (some (.Name G gp)) (some n) (b₀::suite) hpos,.ExceptHandler (some (.Name G2 gp2)) (some n) (b₁::suite2) hpos2] [] [] pos) (o8 CG CN i tb ts us):=.mk (oR hst hfr (fun pins EX=>(hb pins EX).out) hgG hmG hqG hgN hmN hqN hno hN hi hk (fun a oe=>(hsu a oe).out) (fun a oe=>(hsu2 a oe).out) hdG hdN)
end
end L2
namespace L2
open PySem PySem.Spec PyProof.Rows PySem.W
def oX (K:Frag)(C:Addr):Prop:=xD K C\/∃fi,xi K C fi
theorem il {K:Frag}{a C:Addr}{o:Obj}(Z:oX K C):KitX K (.ref a) (.ref C) (fun h=>fA h a o C):=Z.elim om fun⟨_,Z⟩=>nE Z
def t9 (K:Frag):List V->Hp->VK->Prop:=fun xs H Q=>match xs with
 | [.ref a,.ref y]=>∃oe C b,Kn H a oe/\oe.cls=.ref C/\oX K C/\kitOne K (.ref C) (.ref y)=some b/\Q (.bl b) H
 | [.ref a,.ty T]=>∃oe C b,Kn H a oe/\oe.cls=.ref C/\oX K C/\kitOne K (.ref C) (.type T)=some b/\Q (.bl b) H
 | _=>False
theorem bD {X:Cx}{K:Frag}(hK:X.K=K:=by rfl):Irr (bU X (.builtin "isinstance") (t9 K)):=by
 refine .mk ?_
 subst hK
 intro pins s σ H xs us Q I r h
 unfold t9 at h
 split at h
 ·obtain⟨u,u',rfl,r1,r2⟩:=pQ r
  obtain⟨oe,C,b,hk,hc,Z,hb,q⟩:=h
  cases r1
  cases r2
  exact kia_one (il Z) I.kIn (⟨hk.get I.hok,hc⟩:fA s.heap _ oe C) hb (fun z=>nomatch z) fun tk=>⟨.bl b,H,I.tok tk,rfl,q⟩
 ·obtain⟨u,u',rfl,r1,r2⟩:=pQ r
  obtain⟨oe,C,b,hk,hc,Z,hb,q⟩:=h
  cases r1
  cases r2
  exact kia_one (il Z) I.kIn (⟨hk.get I.hok,hc⟩:fA s.heap _ oe C) hb (fun z=>nomatch z) fun tk=>⟨.bl b,H,I.tok tk,rfl,q⟩
 ·exact h.elim
end L2
--@RAISES but law
namespace K46
open PySem PySem.Spec PyProof.Rows L2 Rg
def gW (o n a g c:Int):Prop:=a<0\/g<0\/c<0\/o<a+g\/o-g+c≠n
def Sml (a:Int):Prop:=-(10 ^ 61)<a/\a<10 ^ 61
theorem Sml.p {a:Int}(h:Sml a):a.natAbs.log2<1920/\(Str.ofString (toString a)).length≤1100000:=by
 refine h7 ?_
 obtain⟨h1,h2⟩:=h
 omega
structure vn (K:PySem.W.Frag)(mg:Str->Option Value)(CN CS:Addr):Prop where
 c_NoFit:mg "NoFit"=some (.ref CN)
 x_NoFit:PySem.W.excIn K CN iW "ValueError.__new__"=true
 no:dJ K CN (.ref CS)=false
section
variable {P:Program}{w:World}{K:PySem.W.Frag}{mg:Str->Option Value}{base:Heap}{C CS CN CB fi:Addr}{mc:Value}
def uq (CN:Addr):Sp:=fun vs H Q E=>∃o n a g c:Int,vs=[.int o,.int n,.int a,.int g,.int c]/\Sml o/\Sml n/\Sml a/\Sml g/\Sml c/\(gW o n a g c->E (.ref CN) none H)/\(¬ gW o n a g c->Q .non H)
abbrev st_check_change:Stmt:=fW 15
theorem dc:ar ["many_old","many_new","at","gone","come"] ["many_old","many_new","at","gone","come"] (ah st_check_change):=⟨rfl,rfl,rfl,by decide +kernel,rfl,by decide +kernel,by decide +kernel⟩
theorem sy (R:Raw K mg "check_change" st_check_change ["many_old","many_new","at","gone","come"])(T:vn K mg CN CS):js P w K mg base 1 "check_change" ["many_old","many_new","at","gone","come"] (uq CN):=by
 refine R.defX dc (fun vs H Q E h=>?_) (fun f cdv A outer s H vs Q E hr h=>?_)
 ·obtain⟨o,n,a,g,c,rfl,_⟩:=h
  rfl
 ·obtain⟨o,n,a,g,c,rfl,so,sn,sa,sg,sm,q,q2⟩:=h
  have sc:=dc
  have hu:=hr.units
  have tell:∀x:Int,Sml x->(∃z,V.int x=.str z/\z.length≤100000)\/∃a,V.int x=.int a/\a.natAbs.log2<1920/\(Str.ofString (toString a)).length≤1100000:=fun x hx=>.inr ⟨x,rfl,hx.p⟩
  refine⟨_,(ac (aY (eZ (cL (aH kE (jn 2) aj) (cL (aH kE (jn 3) aj) (cW (aH kE (jn 4) aj)))))
  (ak (gv rfl T.c_NoFit T.x_NoFit (aa (rc (aB cY (aB (bw (jn 2)) (aB cY (aB (bw (jn 3)) (aB cY (aB (bw (jn 4)) fV))))))) af)))
  aF)
  (ac (aY (aH xr (aJ (bx (K:=K)) (jn 2) (jn 3)) (jn 0))
  (ak (gv rfl T.c_NoFit T.x_NoFit (aa (rc (aB (bw (jn 3)) (aB cY (aB (bw (jn 2)) (aB cY (aB (bw (jn 0)) fV)))))) af)))
  aF)
  (ak (aY (aH (km hu (K:=K)) (aJ (bx (K:=K)) (aJ gJ (jn 0) (jn 3)) (jn 4)) (jn 1))
  (ak (gv rfl T.c_NoFit T.x_NoFit (aa (rc (aB (bw (jn 0)) (aB cY (aB (bw (jn 3)) (aB cY (aB (bw (jn 4)) (aB cY (aB (bw (jn 1)) fV)))))))) af)))
  aF)))),?_⟩
  show if decide (a<0)=true then _ else _
  refine dW (fun h=>?_) (fun h=>?_)
  ·exact⟨⟨True.intro,⟨rfl,tell a sa⟩,True.intro,⟨rfl,tell g sg⟩,True.intro,⟨rfl,tell c sm⟩,True.intro⟩,fun z hz=>⟨(show 1≤sizeLine by decide),q (.inl (of_decide_eq_true h))⟩⟩
  have ha:¬ a<0:=fun z=>h (decide_eq_true z)
  show if decide (g<0)=true then _ else _
  refine dW (fun h=>?_) (fun h=>?_)
  ·exact⟨⟨True.intro,⟨rfl,tell a sa⟩,True.intro,⟨rfl,tell g sg⟩,True.intro,⟨rfl,tell c sm⟩,True.intro⟩,fun z hz=>⟨(show 1≤sizeLine by decide),q (.inr (.inl (of_decide_eq_true h)))⟩⟩
  have hg:¬ g<0:=fun z=>h (decide_eq_true z)
  show if decide (c<0)=true then _ else _
  refine dW (fun h=>?_) (fun h=>?_)
  ·exact⟨⟨True.intro,⟨rfl,tell a sa⟩,True.intro,⟨rfl,tell g sg⟩,True.intro,⟨rfl,tell c sm⟩,True.intro⟩,fun z hz=>⟨(show 1≤sizeLine by decide),q (.inr (.inr (.inl (of_decide_eq_true h))))⟩⟩
  have hc:¬ c<0:=fun z=>h (decide_eq_true z)
  show if decide (o<a+g)=true then _ else _
  refine dW (fun h=>?_) (fun h=>?_)
  ·exact⟨⟨⟨rfl,tell g sg⟩,True.intro,⟨rfl,tell a sa⟩,True.intro,⟨rfl,tell o so⟩,True.intro⟩,fun z hz=>⟨(show 1≤sizeLine by decide),q (.inr (.inr (.inr (.inl (of_decide_eq_true h)))))⟩⟩
  have ho:¬ o<a+g:=fun z=>h (decide_eq_true z)
  show if (true^^decide (o-g+c=n))=true then _ else _
  by_cases hn:o-g+c=n
  ·rw[decide_eq_true hn]
   exact q2 fun z=>by
    rcases z with z | z | z | z | z
    ·exact ha z
    ·exact hg z
    ·exact hc z
    ·exact ho z
    ·exact z hn
  ·rw[decide_eq_false hn]
   exact⟨⟨⟨rfl,tell o so⟩,True.intro,⟨rfl,tell g sg⟩,True.intro,⟨rfl,tell c sm⟩,True.intro,⟨rfl,tell n sn⟩,True.intro⟩,fun z hz=>⟨(show 1≤sizeLine by decide),q (.inr (.inr (.inr (.inr hn))))⟩⟩
def aI (row:List Str):List V:=row.map V.str
theorem cC {row:List Str}{i:Nat}{x:Str}(h:row[i]?=some x):(aI row)[i]?=some (.str x):=by unfold aI;rw[List.getElem?_map,h];rfl
theorem aW (row:List Str):(aI row).length=row.length:=List.length_map ..
abbrev st__law_read:Stmt:=fW 32
theorem eL:ar ["_law_tables_here","_law_row_here","_law_old","_law_change","_law_ask","_law_found","_law_fault","e"] ["_law_tables_here","_law_row_here","_law_old","_law_change"] (ah st__law_read):=⟨rfl,rfl,rfl,by decide +kernel,rfl,by decide +kernel,by decide +kernel⟩
abbrev aR:Stmt:=(ay st__law_read).getD 0 (.Pass ⟨0,0,0,0⟩)
theorem bK:je ["_law_place"] [] ["_law_row_here"] (ah aR):=⟨rfl,rfl,rfl,by decide +kernel,by decide +kernel,by decide +kernel,by decide +kernel,by decide +kernel⟩
abbrev bv:Str:=(("_law_read":Str)++".<locals>.")++"_law_ask"
abbrev ap:List (Pos×Str):=[(w6 aR,bv)]
abbrev zr:List Str:=["_law_row_here"]
def AskN (H:Hp)(g ra:Addr):Prop:=∃cs,CloAt H g "_law_ask" bv aR zr cs [.ref ra]
theorem AskN.same {H H':Hp}{g ra:Addr}(h:AskN H g ra)(s:∀b o,Kn H b o->Kn H' b o):AskN H' g ra:=let ⟨cs,c⟩:=h;⟨cs,c.same s⟩
def uE (g:Addr):Sp:=fun vs H Q _=>∃(ra:Addr) (row:List Str) (k:Nat) (x:Str),vs=[.int (k:Nat)]/\AskN H g ra/\H ra=some (.lst (aI row))/\row[k]?=some x/\row.length≤1000/\Q (.str x) H
theorem uX (T:Txt K w mg)(g:Addr):yT P w K mg base 1 g (uE g) where
 fn:=fun vs H Q E h=>by
  obtain⟨ra,row,k,x,rfl,⟨cs,C⟩,_⟩:=h
  obtain⟨cl,⟨doc,pm,c',ctv,oc,vs,t,h1,_⟩,_⟩:=C.ex
  exact⟨_,_,_,_,h1⟩
 run:=fun A outer s H us vs Q E hr e0 r h=>by
  obtain⟨ra,row,k,x,rfl,⟨cs,C⟩,hra,hx,lr,q⟩:=h
  obtain⟨u,rfl,ru⟩:=eV r
  have hk:k<row.length:=(List.getElem?_eq_some_iff.mp hx).1
  have nr:ra∉cs:=gh C.kn hra (fun o z=>nomatch z)
  refine sX (k:=0) hr e0 C bK (fun cl pm c' ctv _=>rfl) rfl r fun cd cl hr'=>?_
  have hu:=hr'.units
  have sn:=bK
  refine⟨_,(ac (aY (jG sH kE aj (jn 0) (au (cN (K:=K)) rfl T.n_len PySem.boot_len (aa (jn 1) af)))
  (ak (aw (aK (aA hu (K:=K) (P:=P) (w:=w)) (jn 1) (jn 0))))
  aF)
  (ak (aw dz))),?_⟩
  have hr2:rem cs H ra=some (.lst (aI row)):=(aL nr).trans hra
  refine⟨_,.inl (SqL.of hr2),?_⟩
  rw[aW]
  have hlt:decide (((k:Nat):Int)<((row.length:Nat):Int))=true:=decide_eq_true (by omega)
  refine (dW (fun _=>?_) (fun h=>absurd hlt h):if decide (((k:Nat):Int)<((row.length:Nat):Int))=true then _ else _)
  refine .inr (.inl ⟨_,_,SqL.of hr2,aG (cC hx),?_⟩)
  show Q (.str x) (back cs H (rem cs H))
  rw[p9]
  exact q
end
end K46
--@RAISES but law
namespace K46
open PySem PySem.Spec PyProof.Rows L2 Rg
section
variable {P:Program}{w:World}{K:PySem.W.Frag}{mg:Str->Option Value}{base:Heap}{C CS CN CB fi:Addr}{mc:Value}
theorem vc {so:Str}{rk:Int}{kinds:List Str}{i:Nat}{d:PyData}(h:(i9 so rk kinds)[i]?=some d):∃s2 r2 z,(d=.tuple [bO s2 r2,.tuple [z],.int ((i:Nat)-1:Int)])/\(i≠0->s2=so/\r2=rk):=by
 cases i with
 | zero =>
  cases h
  exact⟨_,_,_,rfl,fun z=>absurd rfl z⟩
 | succ i =>
  have e:((List.range kinds.length).map fun i=>PyData.tuple [bO so rk,.tuple [.str (kinds.getD i "")],.int (i:Nat)])[i]?=some d:=h
  rw[List.getElem?_map]at e
  obtain⟨j,e1,e2⟩:=Option.map_eq_some_iff.mp e
  have ej:j=i:=by
   have h2:=List.getElem?_eq_some_iff.mp e1
   obtain⟨h3,h4⟩:=h2
   simpa using h4.symm
  subst ej
  exact⟨so,rk,_,(by rw[<-e2,show (((j+1:Nat):Int)-1)=(j:Int) by omega]),fun _=>⟨rfl,rfl⟩⟩
def ua (P:Program)(w:World)(K:PySem.W.Frag):Sp:=fun vs H Q _=>∃(pl:Addr) (ps:List V) (so:Str) (rk:Int) (kinds:List Str),vs=[.ref pl]/\H pl=some (.lst ps)/\TDats K H ps (i9 so rk kinds)/\kinds.length≤100 /\
 ∀H' d kvs ep,Same H H'->H d=none->GAt P w K H' d kvs ep->(∀j:Nat,j<kinds.length->∃v,bg kvs (.inl (.inl (j:Nat)))=some v/\KeyV K H' (bA so rk) v)->Q (.ref d) H'
abbrev st_symbols_of_rules:Stmt:=fW 24
theorem bV:ar ["plain","symbols","symbol","parts","rule"] ["plain"] (ah st_symbols_of_rules):=⟨rfl,rfl,rfl,by decide +kernel,rfl,by decide +kernel,by decide +kernel⟩
theorem sr (R:Raw K mg "symbols_of_rules" st_symbols_of_rules ["plain"])(T:Txt K w mg):Def P w K mg base 1 "symbols_of_rules" ["plain"] (ua P w K):=by
 refine R.defJ bV (fun vs H Q E h=>?_) (fun f cdv A outer s H vs Q E hr h=>?_)
 ·obtain⟨pl,ps,so,rk,kinds,rfl,_⟩:=h
  rfl
 ·obtain⟨pl,ps,so,rk,kinds,rfl,hpl,hps,hlk,q⟩:=h
  have sc:=bV
  have hu:=hr.units
  have hln:ps.length=kinds.length+1:=by rw[hps.length];simp[i9]
  refine⟨_,(ac (ao (i:=1) sc.nd rfl (Or.inl rfl) (eB (P:=P) (w:=w)))
  (ac (dM PassesOwn.never rfl (i4 (K:=K) (jn 0)) (j8 (K:=K) (n:=3) rfl (bB (aP (i:=2) sc.nd rfl (Or.inl rfl)) (bB (aP (i:=3) sc.nd rfl (Or.inl rfl)) (bB (aP (i:=4) sc.nd rfl (Or.inl rfl)) fJ))))
  (ak (aY (aH (km hu (K:=K)) (jn 4) (gm rfl T.g_NO_RULE))
  (ak (eA (K:=K) (P:=P) (w:=w) hu (jn 1) (jn 4) (jn 2)))
  aF)))
  (ak (aw (jn 1))))),?_⟩
  intro d nd sd
  have s1:=ai (o:=aN P w d [] 0) nd
  have g1:=GAt.new (P:=P) (w:=w) (K:=K) (H:=H) (ep:=0) sd
  generalize upd H d (aN P w d [] 0)=H1 at s1 g1 ⊢
  refine .inl ⟨⟨_,SqL.of (s1 _ _ hpl)⟩,jJ (K:=K) (a:=pl) (xs:=ps) (fun i σ H'=>∃(kvs:GV) (ep:Nat) (v2 v3 v4:Option V),Same H H'/\GAt P w K H' d kvs ep/\kvs.length≤i/\(∀j:Nat,j+1<i->∃v,bg kvs (.inl (.inl (j:Nat)))=some v/\KeyV K H' (bA so rk) v)/\σ=[some (.ref pl),some (.ref d),v2,v3,v4])
   ⟨[],0,none,none,none,s1,g1,Nat.le_refl _,(fun j h=>by omega),rfl⟩ (fun i σ H' _ h=>by obtain⟨_,_,_,_,_,s,_⟩:=h;exact s.seq (SqL.of hpl)) ?_ ?_⟩
  ·rintro i x σ H' hx ⟨kvs,ep,v2,v3,v4,s2,g2,l2,hv,rfl⟩
   have hi:i<ps.length:=(List.getElem?_eq_some_iff.mp hx).1
   obtain⟨dd,hdd⟩:∃dd,(i9 so rk kinds)[i]?=some dd:=⟨_,List.getElem?_eq_getElem (by rw[<-hps.length];exact hi)⟩
   obtain⟨x',hx',hD⟩:=hps.get hdd
   rw[hx]at hx'
   cases hx'
   obtain⟨s',r',z,rfl,hz⟩:=vc hdd
   obtain⟨t,va,vb,rfl,ht,hA⟩:∃t va vb,x=.ref t/\SqT K H t [va,vb,.int ((i:Nat)-1:Int)]/\TDat K H va (bO s' r'):=by
    cases hD with
    | tuple q0 q1 =>
     cases q1 with
     | cons q2 q1 =>
      cases q1 with
      | cons q3 q1 =>
       cases q1 with
       | cons q4 q1 =>
        cases q1
        rw[di q4]at q0
        exact⟨_,_,_,rfl,q0,q2⟩
   refine⟨t,_,rfl,s2.seqT ht,rfl,_,_,rfl,_,_,rfl,_,_,rfl,rfl,?_⟩
   show if (true^^decide (((i:Nat)-1:Int)=-1))=true then _ else _
   by_cases hi0:i=0
   ·rw[decide_eq_true (by omega),if_neg (by decide)]
    exact⟨kvs,ep,_,_,_,s2,g2,by omega,(fun j h=>by omega),rfl⟩
   ·rw[decide_eq_false (by omega),if_pos (by decide)]
    obtain⟨rfl,rfl⟩:=hz hi0
    refine⟨kvs,ep,.inl (.inl ((i:Nat)-1:Int)),g2,rfl,fun ep' _=>?_⟩
    have kt:aT K H' (upd H' d (aN P w d (bh kvs (.inl (.inl ((i:Nat)-1:Int))) (.int ((i:Nat)-1:Int)) va) ep')):=bN g2.1
    refine⟨_,ep',_,_,_,fun b u e=>?_,g2.put (k:=.inl (.inl ((i:Nat)-1:Int))) (y:=.int ((i:Nat)-1:Int)) rfl (by omega) ep',Nat.le_trans (jx _ _ _ _) (by omega),fun j hj=>?_,rfl⟩
    ·rw[ag fun z=>by rw[z,nd]at e;cases e]
     exact s2 b u e
    ·rw[dH]
     by_cases hji:(j:Int)=(i:Nat)-1
     ·rw[if_pos (by rw[hji])]
      exact⟨va,rfl,(jl (hA.keeps s2.keepsT)).keeps kt⟩
     ·rw[if_neg fun z=>hji (by simpa using z)]
      obtain⟨v,h1,h2⟩:=hv j (by omega)
      exact⟨v,h1,h2.keeps kt⟩
  ·rintro σ H' ⟨kvs,ep,v2,v3,v4,s2,g2,l2,hv,rfl⟩
   exact q H' d kvs ep s2 nd g2 fun j hj=>hv j (by omega)
def Nod (P:Program)(w:World)(K:PySem.W.Frag)(H:Hp)(d:Addr)(o:Option Nat):Prop:=∃kvs ep,GAt P w K H d kvs ep/\∀n:Nat,(o=some n->∃p,bg kvs (.inl (.inl (n:Nat)))=some (.ref p)/\SqT K H p [.int 0,.int 1])/\(o≠some n->bg kvs (.inl (.inl (n:Nat)))=none)
theorem Nod.same {H H':Hp}{d:Addr}{o:Option Nat}(h:Nod P w K H d o)(s:Same H H'):Nod P w K H' d o:=by
 obtain⟨kvs,ep,g,hn⟩:=h
 exact⟨kvs,ep,g.same s,fun n=>⟨fun e=>let ⟨p,a,b⟩:=(hn n).1 e;⟨p,a,s.seqT b⟩,(hn n).2⟩⟩
structure Old (H:Hp)(oa:Addr)(was:Nat):Prop where
 ex:∃e0 e1,H oa=some (.lst [.ref e0,.ref e1])/\H e0=some (.tup [.int (-1),.int 1,.int 0])/\H e1=some (.tup [.int (was:Nat),.int 1,.int 0])
theorem Old.same {H H':Hp}{oa:Addr}{was:Nat}(h:Old H oa was)(s:Same H H'):Old H' oa was:=let ⟨e0,e1,a,b,c⟩:=h.ex;⟨e0,e1,s _ _ a,s _ _ b,s _ _ c⟩
def nQ (at_ gone come:Nat):Option Nat:=if at_=0/\gone=0 then some come else none
def ug (P:Program)(w:World)(K:PySem.W.Frag):Sp:=fun vs H Q _=>∃(oa:Addr) (was at_ gone come:Nat),vs=[.ref oa,.int (at_:Nat),.int (gone:Nat),.int (come:Nat)]/\Old H oa was/\at_+gone≤1 /\
 ∀H' d,Same H H'->H d=none->Nod P w K H' d (nQ at_ gone come)->Q (.ref d) H'
abbrev st_untouched:Stmt:=fW 23
theorem eE:ar ["old","at","gone","come","nodes","begins","place","entry","first"] ["old","at","gone","come"] (ah st_untouched):=⟨rfl,rfl,rfl,by decide +kernel,rfl,by decide +kernel,by decide +kernel⟩
theorem rZ (R:Raw K mg "untouched" st_untouched ["old","at","gone","come"])(T:Txt K w mg):Def P w K mg base 1 "untouched" ["old","at","gone","come"] (ug P w K):=by
 refine R.defJ eE (fun vs H Q E h=>?_) (fun f cdv A outer s H vs Q E hr h=>?_)
 ·obtain⟨oa,was,at_,gone,come,rfl,_⟩:=h
  rfl
 ·obtain⟨oa,was,at_,gone,come,rfl,⟨e0,e1,hoa,he0,he1⟩,hle,q⟩:=h
  have sc:=eE
  have hu:=hr.units
  have hb:(1000000:Nat)<sizeLine:=by rw[sizeLine_eq];decide
  refine⟨_,(ac (ao (i:=4) sc.nd rfl (Or.inl rfl) (eB (P:=P) (w:=w)))
  (ac (ao (i:=5) sc.nd rfl (Or.inl rfl) (cr af))
  (ac (dM PassesOwn.never rfl (tf (K:=K) rfl T.n_enumerate (aa (jn 0) af)) (j8 (K:=K) (n:=2) rfl (bB (aP (i:=6) sc.nd rfl (Or.inl rfl)) (bB (aP (i:=7) sc.nd rfl (Or.inl rfl)) fJ)))
  (ak (aY (aH (eH hu (K:=K)) (aK (aA hu (K:=K) (P:=P) (w:=w)) (jn 7) aj) (gm rfl T.g_WORD_STEP))
  (ak (aD (e8 (K:=K) PySem.F.plainAttrs_list PySem.F.slot_list_append PySem.F.type_list_append bt (jn 5) (aa (jn 6) af))))
  (ac (ao (i:=8) sc.nd rfl (Or.inl rfl) (aJ gJ (au (pR (K:=K) (P:=P) (w:=w)) rfl T.n_len PySem.boot_len (aa (jn 5) af)) (aK (aA hu (K:=K) (P:=P) (w:=w)) (jn 7) aj)))
  (ak (aY (aH kE (aJ (bx (K:=K)) (jn 8) (aK (aA hu (K:=K) (P:=P) (w:=w)) (jn 7) aj)) (jn 1))
  (ak (eA (K:=K) (P:=P) (w:=w) hu (jn 4) (jn 8) (bi (aa (aK (aA hu (K:=K) (P:=P) (w:=w)) (jn 5) (jn 8)) (aa (jn 6) af)))))
  (ak (aY (aH sJ (jn 8) (aJ (bx (K:=K)) (jn 1) (jn 2)))
  (ak (eA (K:=K) (P:=P) (w:=w) hu (jn 4) (aJ (bx (K:=K)) (aJ gJ (jn 8) (jn 2)) (jn 3)) (bi (aa (aK (aA hu (K:=K) (P:=P) (w:=w)) (jn 5) (jn 8)) (aa (jn 6) af)))))
  aF))))))))
  (ak (aw (jn 4)))))),?_⟩
  intro d nd sd
  have s1:=ai (o:=aN P w d [] 0) nd
  have g1:=GAt.new (P:=P) (w:=w) (K:=K) (H:=H) (ep:=0) sd
  generalize upd H d (aN P w d [] 0)=H1 at s1 g1 ⊢
  refine⟨(show 0≤sizeLine by decide),fun b nb=>?_⟩
  have s2:=ai (o:=.lst []) nb
  have h2:upd H1 b (.lst []) b=some (.lst []):=ae
  have g2:=g1.same s2
  have s12:=s1.trans s2
  have ndb:d≠b:=fun z=>by rw[<-z,g1.1]at nb;cases nb
  have nbH:H b=none:=by
   cases e:H b with
   | none=>rfl
   | some u=>rw[s1 _ _ e]at nb;cases nb
  generalize upd H1 b (.lst [])=H2 at s2 h2 g2 s12 ⊢
  refine⟨⟨_,SqL.of (s12 _ _ hoa)⟩,?_⟩
  refine oM (K:=K) (a:=oa) (xs:=[.ref e0,.ref e1]) (fun i σ H'=>∃(kvs:GV) (ep:Nat) (v6 v7 v8:Option V),Same H H'/\H' b=some (.lst (if i=0 then [] else [.int 0]))/\GAt P w K H' d kvs ep/\(i<2->kvs=[])/\(i=2->Nod P w K H' d (nQ at_ gone come))/\σ=[some (.ref oa),some (.int (at_:Nat)),some (.int (gone:Nat)),some (.int (come:Nat)),some (.ref d),some (.ref b),v6,v7,v8])
   ⟨[],0,none,none,none,s12,h2,g2,(fun _=>rfl),(fun z=>by cases z),rfl⟩ (fun i σ H' _ h=>by obtain⟨_,_,_,_,_,s,_⟩:=h;exact s.seq (SqL.of hoa)) ?_ ?_
  ·rintro i x σ H' hx ⟨kvs,ep,v6,v7,v8,s3,h3,g3,hk,_,rfl⟩ t nt
   have A1:=ai (o:=.tup [.int (i:Nat),x]) nt
   have s4:=s3.trans A1
   have h4:=A1 _ _ h3
   have g4:=g3.same A1
   have h4t:upd H' t (.tup [.int (i:Nat),x]) t=some (.tup [.int (i:Nat),x]):=ae
   generalize upd H' t (.tup [.int (i:Nat),x])=H4 at s4 h4 g4 h4t ⊢
   refine⟨t,_,rfl,SqT.of h4t,rfl,_,_,rfl,_,_,rfl,rfl,?_⟩
   match i,hx,hk,h4 with
   | 0,hx,hk,h4 =>
    cases hx
    refine .inr (.inr ⟨_,_,SqT.of (s4 _ _ he0),rfl,?_⟩)
    refine⟨.inl ⟨rfl,_,SqL.of h4⟩,[],h4,(show 0<sizeLine by omega),?_⟩
    have e:=hk (by decide)
    subst e
    refine⟨[],ep,_,_,_,fun b' u e=>?_,ae,g4.keeps (cQ h4) (ag ndb),(fun _=>rfl),(fun z=>by cases z),rfl⟩
    rw[ag fun z=>by rw[z,nbH]at e;cases e]
    exact s4 b' u e
   | 1,hx,hk,h4 =>
    cases hx
    have e:=hk (by decide)
    subst e
    refine .inr (.inr ⟨_,_,SqT.of (s4 _ _ he1),rfl,?_⟩)
    refine .inr (.inr ⟨_,.inl (SqL.of h4),.inr (.inr ⟨_,_,SqT.of (s4 _ _ he1),rfl,?_⟩)⟩)
    refine .inr (.inr ⟨_,_,SqT.of (s4 _ _ he1),rfl,?_⟩)
    refine (if_neg (fun z=>by have h:=of_decide_eq_true z;simp at h;omega):(if decide (((1:Nat):Int)-1+1<((at_:Nat):Int))=true then _ else _)=_).mpr ?_
    show if decide (((at_:Nat):Int)+(gone:Nat)≤((1:Nat):Int)-1)=true then _ else _
    by_cases h0:at_=0/\gone=0
    ·rw[if_pos (decide_eq_true (by omega))]
     refine .inr (.inl ⟨_,_,SqL.of h4,rfl,?_⟩)
     refine⟨(show 2≤sizeLine by decide),fun p np=>?_⟩
     have A2:=ai (o:=.tup [.int 0,.int 1]) np
     have s5:=s4.trans A2
     have h5:=A2 _ _ h4
     have g5:=g4.same A2
     have h5p:upd H4 p (.tup [.int 0,.int 1]) p=some (.tup [.int 0,.int 1]):=ae
     generalize upd H4 p (.tup [.int 0,.int 1])=H5 at s5 h5 g5 h5p ⊢
     have hky:V.int (((1:Nat):Int)-1-((gone:Nat):Int)+((come:Nat):Int))=V.int ((come:Nat):Int):=congrArg V.int (by rw[h0.2];simp)
     refine⟨[],ep,.inl (.inl ((come:Nat):Int)),g5,hky,fun ep' _=>?_⟩
     have kt:∀o',aT K H5 (upd H5 d o'):=fun o'=>bN g5.1
     have en:nQ at_ gone come=some come:=if_pos h0
     have g6:=fun (y:V) (hy:y=V.int ((come:Nat):Int))=>g5.put (v:=.ref p) (k:=.inl (.inl ((come:Nat):Int))) (y:=y) hy (by decide) ep'
     refine⟨_,ep',_,_,_,fun b' u e=>?_,?_,g6 _ hky,(fun z=>by omega),fun _=>?_,rfl⟩
     ·rw[ag fun z=>by rw[z,nd]at e;cases e]
      exact s5 b' u e
     ·rw[ag ndb.symm]
      exact h5
     ·rw[en]
      refine⟨_,ep',g6 _ hky,fun n=>⟨fun e=>⟨p,?_,kt _ _ _ (SqT.of h5p)⟩,fun ne=>?_⟩⟩
      ·cases e
       rw[dH,if_pos rfl]
      ·rw[dH,if_neg fun z=>ne (congrArg some (by have z':((n:Nat):Int)=((come:Nat):Int):=(by simpa using z);omega))]
       rfl
    ·rw[if_neg (fun z=>h0 (by have:=of_decide_eq_true z;omega))]
     have en:nQ at_ gone come=none:=if_neg h0
     refine⟨[],ep,_,_,_,s4,h4,g4,(fun z=>by omega),fun _=>?_,rfl⟩
     rw[en]
     exact⟨[],ep,g4,fun n=>⟨(fun z=>by cases z),fun _=>rfl⟩⟩
   | i+2,hx,_,_=>cases hx
  ·rintro σ H' ⟨kvs,ep,v6,v7,v8,s3,h3,g3,_,hN,rfl⟩
   exact q H' d s3 nd (hN rfl)
end
end K46
--@RAISES but law
namespace K46
open PySem PySem.Spec PyProof.Rows L2 Rg
section
variable {P:Program}{w:World}{K:PySem.W.Frag}{mg:Str->Option Value}{base:Heap}{C CS CN CB fi:Addr}{mc:Value}
def iL (kinds row:List Str):Nat:=match row with
 | []=>0
 | x::_=>if x∈kinds then 1 else 0
def me (P:Program)(w:World)(K:PySem.W.Frag)(CS CN:Addr):Sp:=fun vs H Q E=>∃(G:Hp) (t pl be de:Addr) (so:Str) (rk:Int) (kinds row:List Str) (g ra oa:Addr) (was:Nat) (at_ gone come:Int),vs=[.ref t,.ref g,.int (row.length:Nat),.ref oa,.int at_,.int gone,.int come]/\Same G H/\Tab1 P w K G t pl be de so rk kinds/\kinds.Nodup/\kinds.length≤30/\("end":Str)∉kinds/\("end":Str)∉row/\AskN H g ra/\G ra=some (.lst (aI row))/\row.length≤1000/\Old G oa was/\was<kinds.length/\Sml at_/\Sml gone/\Sml come /\
 (gW 1 (row.length:Nat) at_ gone come->∀H',Same H H'->E (.ref CN) none H') /\
 (¬ gW 1 (row.length:Nat) at_ gone come->(at_=0->gone=0->come=0->row[0]?=kinds[was]?) /\
  (gl kinds row=none->∀H' dx,Same H H'->H dx=none->H' dx=some (kY dx "place" (.int (iL kinds row:Nat)))->E (.ref CS) (some dx) H') /\
  ∀S',gl kinds row=some S'->∀H' wy ws,Same H H'->H wy=none->H' wy=some (.lst ws)->Wys H' ws S'.tr->Q (.ref wy) H')
theorem wo {H H':Hp}{r:Addr}{a:RA}{S:RS}(h:Rdr C H r a S)(s:Out a.own H H'):∀b o,Kn H b o->Kn H' b o:=fun b o k=>s b _ (fun m=>by
 have k':H b=some (.frz o aU):=k
 rcases List.mem_cons.mp m with z | m
 ·rw[z,h.st]at k';cases k'
 rcases List.mem_cons.mp m with z | m
 ·rw[z,h.sp]at k';cases k'
 ·obtain⟨ws,w1,_⟩:=h.wy
  rw[List.mem_singleton.mp m,w1]at k';cases k') k
theorem mj {kinds:List Str}{sym:GK}{was:Nat}:el (cn kinds sym) { rs0 with tr:=rs0.tr++([(-1,1,0)]++[(((was:Nat):Int),1,0)]) } sym 1=some (gY was):=by
 unfold el
 rw[if_neg (by simp[rs0])]
 show (bf kinds sym sym).map _=_
 unfold bf
 rw[if_pos rfl]
 rfl
def zz (kinds row:List Str)(was n:Nat)(S:RS):Prop:=(n=0/\S=rs0)\/(n=1/\∃y r j,row=y::r/\fG kinds y=some j/\S=nU j)\/(n=1/\∃y,row=[y]/\fG kinds y=some was/\S=gY was)
abbrev st_read_again:Stmt:=fW 22
theorem dZ:ar ["tables","ask","many","old","at","gone","come","many_old","nodes","symbols","reader","number","kind","node","top"] ["tables","ask","many","old","at","gone","come"] (ah st_read_again):=⟨rfl,rfl,rfl,by decide +kernel,rfl,by decide +kernel,by decide +kernel⟩
theorem mD (R:Raw K mg "read_again" st_read_again ["tables","ask","many","old","at","gone","come"])(TC:gM K mg C)(T:Txt K w mg)(D_check_change:js P w K mg base 1 "check_change" ["many_old","many_new","at","gone","come"] (uq CN))(D_untouched:Def P w K mg base 1 "untouched" ["old","at","gone","come"] (ug P w K))(D_symbols_of_rules:Def P w K mg base 1 "symbols_of_rules" ["plain"] (ua P w K))
  (DM_Reader___init__:cq P w K mg base 1 C "__init__" ["self","tables"] (ph K C)) (DM_Reader_topmost:cq P w K mg base 1 C "topmost" ["self"] (ic C)) (DM_Reader_settle:eR P w K mg base 4 C "settle" ["self","kind","number"] (oj P w K C CS)) (DM_Reader_take_whole:cq P w K mg base 3 C "take_whole" ["self","stretch","symbol"] (lq P w K C)) (DM_Reader_take:eR P w K mg base 5 C "take" ["self","kind","number"] (pN P w K C CS)) :
  js P w K mg base 6 "read_again" ["tables","ask","many","old","at","gone","come"] (me P w K CS CN):=by
 refine R.defX dZ (fun vs H Q E h=>?_) (fun f cdv A outer s H vs Q E hr h=>?_)
 ·obtain⟨G,t,pl,be,de,so,rk,kinds,row,g,ra,oa,was,at_,gone,come,rfl,_⟩:=h
  rfl
 ·obtain⟨G,t,pl,be,de,so,rk,kinds,row,g,ra,oa,was,at_,gone,come,rfl,sm,tb,hnd,hlk,ek,er,hA,hra,hlr,hold,hwas,sa,sg,scm,qb,qf⟩:=h
  have sc:=dZ
  have hu:=hr.units
  have hb:(1000000:Nat)<sizeLine:=by rw[sizeLine_eq];decide
  have FV_ask:=uX (P:=P) (w:=w) (K:=K) (mg:=mg) (base:=base) T
  refine⟨_,(ac (ao (i:=7) sc.nd rfl (Or.inl rfl) (au (pR (K:=K) (P:=P) (w:=w)) rfl T.n_len PySem.boot_len (aa (qe (N:=["entry"]) (cap:=[none]) rfl (CompScope.of rfl (by rfl)) (i4 (K:=K) (jn 3)) (fun _ _ _ _=>(aP (i:=0) (show List.Nodup [("entry":Str)] by decide +kernel) rfl (Or.inl rfl))) (fun _ _ _ _=>(rP (aH (eH hu (K:=K)) (aK (aA hu (K:=K) (P:=P) (w:=w)) (jn 0) aj) (gm rfl T.g_WORD_STEP)))) (fun _ _ _ _=>(jn 0))) af)))
  (ac (aD (vS D_check_change (hr.mono (by decide)) rfl (aa (jn 7) (aa (jn 2) (aa (jn 4) (aa (jn 5) (aa (jn 6) af))))) gA))
  (ac (ao (i:=8) sc.nd rfl (Or.inl rfl) (bq D_untouched (hr.mono (by decide)) rfl (aa (jn 3) (aa (jn 4) (aa (jn 5) (aa (jn 6) af))))))
  (ac (ao (i:=9) sc.nd rfl (Or.inl rfl) (bq D_symbols_of_rules (hr.mono (by decide)) rfl (aa (aK (aA hu (K:=K) (P:=P) (w:=w)) (jn 0) aj) af)))
  (ac (ao (i:=10) sc.nd rfl (Or.inl rfl) (u6 TC.mkc DM_Reader___init__ (hr.mono (by decide)) rfl (aa (jn 0) af)))
  (ac (ao (i:=11) sc.nd rfl (Or.inl rfl) aj)
  (ac (jg fB (aH kE (jn 11) (jn 2))
  (ac (ao (i:=12) sc.nd rfl (Or.inl rfl) (tJ 1 FV_ask (hr.mono (by decide)) (aa (jn 11) af)))
  (ac (aD (dN TC.cls DM_Reader_settle (hr.mono (by decide)) (jn 10) (aa (jn 12) (aa (jn 11) af)) gA))
  (ac (ao (i:=13) sc.nd rfl (Or.inl rfl) (oy (K:=K) (P:=P) (w:=w) hu (jn 8) (jn 11)))
  (ak (aY (eZ (gy (aH rB (jn 13) ij) (fS (aH (eH hu (K:=K)) (aK (aA hu (K:=K) (P:=P) (w:=w)) (aK (aA hu (K:=K) (P:=P) (w:=w)) (jn 3) (aK (aA hu (K:=K) (P:=P) (w:=w)) (jn 13) aj)) aj) (eM TC.cls DM_Reader_topmost (hr.mono (by decide)) (jn 10))))))
  (ac (ao (i:=14) sc.nd rfl (Or.inl rfl) (aK (aA hu (K:=K) (P:=P) (w:=w)) (jn 3) (aK (aA hu (K:=K) (P:=P) (w:=w)) (jn 13) aj)))
  (ac (aD (gN TC.cls DM_Reader_take_whole (hr.mono (by decide)) (jn 10) (aa (iU (pq (K:=K)) (jn 3) (fP (aK (aA hu (K:=K) (P:=P) (w:=w)) (jn 13) aj)) (fP (aJ (bx (K:=K)) (aK (aA hu (K:=K) (P:=P) (w:=w)) (jn 13) aj) aj))) (aa (aK (aA hu (K:=K) (P:=P) (w:=w)) (jn 9) (aK (aA hu (K:=K) (P:=P) (w:=w)) (jn 14) aj)) af))))
  (ak (j7 (i:=11) sc.nd rfl (Or.inl rfl) (aK (aA hu (K:=K) (P:=P) (w:=w)) (jn 14) aj) kS))))
  (ac (aD (dN TC.cls DM_Reader_take (hr.mono (by decide)) (jn 10) (aa (jn 12) (aa (jn 11) af)) gA))
  (ak (j7 (i:=11) sc.nd rfl (Or.inl rfl) aj kS)))))))))
  (ac (aD (dN TC.cls DM_Reader_settle (hr.mono (by decide)) (jn 10) (aa (wB rfl T.g_END) (aa (jn 2) af)) gA))
  (ak (aw (cz TC.cls TC.na_way (jn 10)))))))))))),?_⟩
  obtain⟨e0,e1,hoa,he0,he1⟩:=hold.ex
  refine .inl ⟨⟨_,SqL.of (sm _ _ hoa)⟩,?_⟩
  refine mM (K:=K) (a:=oa) (xs:=[.ref e0,.ref e1]) (fun i ys σ' H'=>H'=H/\ys=(if i=0 then [] else [.ref e0])/\∃v:Option V,σ'=[v]) (show 2≤1000000 by decide) ⟨rfl,rfl,none,rfl⟩ (fun i ys σ' H' h=>by rw[h.2.1];split<;>simp<;>omega) (fun i ys σ' H' h=>by rw[h.1];exact SqL.of (sm _ _ hoa)) ?_ ?_
  ·rintro i x ys σ' H' hx ⟨rfl,rfl,v,rfl⟩
   match i,hx with
   | 0,hx =>
    cases hx
    exact .inr (.inr ⟨_,_,SqT.of (sm _ _ he0),rfl,⟨rfl,rfl,_,rfl⟩⟩)
   | 1,hx =>
    cases hx
    exact .inr (.inr ⟨_,_,SqT.of (sm _ _ he1),rfl,⟨rfl,rfl,_,rfl⟩⟩)
   | i+2,hx=>cases hx
  rintro ys σ' H' ⟨rfl,rfl,v0,rfl⟩ l1 nl1
  rw[show (if [V.ref e0,V.ref e1].length=0 then ([]:List V) else [V.ref e0])=[V.ref e0] from rfl]
  have s1:=ai (o:=.lst [.ref e0]) nl1
  refine .inr (.inr ⟨_,.inl (SqL.of ae),?_⟩)
  have qb':gW 1 (row.length:Nat) at_ gone come->E (.ref CN) none (upd H' l1 (.lst [.ref e0])):=fun z=>qb z _ s1
  refine⟨1,(row.length:Nat),at_,gone,come,rfl,⟨by decide,by decide⟩,⟨by omega,by omega⟩,sa,sg,scm,qb',fun hfit=>?_⟩
  generalize upd H' l1 (.lst [.ref e0])=HA at s1 qb' ⊢
  clear qb qb' nl1
  obtain⟨q0,q1,q2⟩:=qf hfit
  unfold gW at hfit
  obtain⟨at',rfl⟩:∃n:Nat,at_=(n:Int):=⟨at_.toNat,by omega⟩
  obtain⟨go',rfl⟩:∃n:Nat,gone=(n:Int):=⟨gone.toNat,by omega⟩
  obtain⟨co',rfl⟩:∃n:Nat,come=(n:Int):=⟨come.toNat,by omega⟩
  have hle:at'+go'≤1:=by omega
  have hrow:(row.length:Int)=1-go'+co':=by omega
  refine⟨oa,was,at',go',co',rfl,hold.same (sm.trans s1),hle,fun HB dn s2 ndn hN=>?_⟩
  have sGB:=(sm.trans s1).trans s2
  have sHB:=s1.trans s2
  refine .inr (.inr ⟨_,_,SqT.of (sGB _ _ tb.t),rfl,?_⟩)
  obtain⟨ps,p1,p2⟩:=tb.pl
  refine⟨pl,ps,so,rk,kinds,rfl,sGB _ _ p1,p2.keeps sGB.keepsT,by omega,fun HC ds kvs ep s3 nds g3 hv=>?_⟩
  have hN3:=hN.same s3
  have sGC:=sGB.trans s3
  have sHC:=sHB.trans s3
  clear hN s1 s2 s3 sGB sHB
  intro x dx nx ndx hne
  have s4:Same HC (upd (upd HC dx (.own x)) x (.ins C dx [])):=(ai ndx).trans (ai (by rw[ag hne.symm];exact nx))
  refine⟨x,dx,t,pl,be,de,rfl,ae,s4.seqT (SqT.of (sGC _ _ tb.t)),fun HD a1 o1 e1' e2 e3 e4 own1 rd1=>⟨rfl,?_⟩⟩
  have sCD:Same HC HD:=o1.same s4 (fun b m=>by rw[List.mem_singleton.mp m];exact nx)
  have ownC:∀b∈a1.own,HC b=none:=fun b m=>by
   cases e:HC b with
   | none=>rfl
   | some u=>have:=own1 b m;rw[s4 b u e]at this;cases this
  have ownG:∀b∈a1.own,G b=none:=fun b m=>by
   cases e:G b with
   | none=>rfl
   | some u=>have:=ownC b m;rw[sGC b u e]at this;cases this
  have ownH:∀b∈a1.own,H' b=none:=fun b m=>by
   cases e:H' b with
   | none=>rfl
   | some u=>have:=ownC b m;rw[sHC b u e]at this;cases this
  have sHD:=sHC.trans sCD
  have tbs:vo P w K G a1.pl a1.be a1.de (cn kinds (bA so rk)):=by rw[e1',e2,e3];exact tb.tabs
  have hsy:∀x∈kinds,bA so rk≠.inl (.inr x):=fun x _ z=>by unfold bA at z;cases z
  have rdt:∀{H1:Hp} {S:RS},Out a1.own HD H1->Rdr C H1 x a1 S->RdT P w K C G H1 x a1 S (cn kinds (bA so rk)):=fun {H1 S} o rd=>⟨rd,tbs,o.same (sGC.trans sCD) ownG,ownG⟩
  have same1:∀{H1:Hp},Out a1.own HD H1->Same H' H1:=fun {H1} o=>o.same sHD ownH
  have sameC:∀{H1:Hp},Out a1.own HD H1->Same HC H1:=fun {H1} o=>o.same sCD ownC
  have none1:∀{H1:Hp} {S:RS} {b:Addr},Out a1.own HD H1->Rdr C H1 x a1 S->H1 b=none->H' b=none:=fun {H1 S b} o rd n=>by
   have n2:=jK o rd n
   cases e:H' b with
   | none=>rfl
   | some u=>rw[sHD b u e]at n2;cases n2
  have hAD:=hA.same (fun b o k=>sHD b _ k)
  clear o1 own1 s4
  refine⟨fun m σ H1=>∃(n:Nat) (S:RS) (v12 v13 v14:Option V),m=row.length-n/\n≤row.length/\Out a1.own HD H1/\Rdr C H1 x a1 S/\zz kinds row was n S/\σ=[some (.ref t),some (.ref g),some (.int (row.length:Nat)),some (.ref oa),some (.int (at':Nat)),some (.int (go':Nat)),some (.int (co':Nat)),some (.int 1),some (.ref dn),some (.ref ds),some (.ref x),some (.int (n:Nat)),v12,v13,v14],
   ⟨row.length,0,rs0,none,none,none,rfl,Nat.zero_le _,.refl,rd1,.inl ⟨rfl,rfl⟩,rfl⟩,?_⟩
  rintro m σ H1 ⟨n,S,v12,v13,v14,rfl,hn,o1,rd,far,rfl⟩
  show if decide (((n:Nat):Int)<((row.length:Nat):Int))=true then _ else _
  by_cases hlt:n<row.length
  ·rw[if_pos (decide_eq_true (by omega))]
   obtain⟨y,hy⟩:∃y,row[n]?=some y:=⟨_,List.getElem?_eq_getElem hlt⟩
   have yne:y≠"end":=fun z=>er (by rw[<-z];exact List.mem_of_getElem? hy)
   refine⟨_,fun σ' H' h=>⟨row.length-(n+1),by omega,h⟩,?_⟩
   refine⟨ra,row,n,y,rfl,hAD.same (wo rd1 o1),(same1 o1) _ _ (sm _ _ hra),hy,hlr,?_⟩
   rcases far with⟨rfl,rfl⟩ | ⟨rfl,y0,r,j,hrw,hj,rfl⟩ | ⟨rfl,y0,hrw,hj,rfl⟩
   ·obtain⟨r,hrw⟩:∃r,row=y::r:=by
     cases row with
     | nil=>cases hy
     | cons a r=>cases hy;exact⟨r,rfl⟩
    cases hj:fG kinds y with
    | none =>
     have hset:cy (cn kinds (bA so rk)) y (0+1) rs0=some (rs0,none):=by rw[sk];unfold aO;rw[hj];rfl
     have hone:gl kinds row=none:=by
      rw[hrw]
      cases r with
      | nil=>show (fG kinds y).map gY=none;rw[hj];rfl
      | cons _ _=>rfl
     have hplc:iL kinds row=0:=by
      rw[hrw]
      show (if y∈kinds then 1 else 0)=0
      rw[if_neg]
      intro m
      unfold fG at hj
      rw[if_pos m]at hj
      cases hj
     refine⟨a1.dx,_,rd.at_,rfl,G,x,a1,rs0,rs0,_,y,0,1,none,rfl,rdt o1 rd,by decide,hset,by decide,by decide,by decide,fun _ H2 dx2 o2 rd2 nd2 hd2=>?_,fun b m z=>by cases z⟩
     exact q1 hone H2 dx2 (same1 (o1.trans o2)) (none1 o1 rd nd2) (by rw[hplc];exact hd2)
    | some j =>
     have hset:cy (cn kinds (bA so rk)) y (0+1) rs0=some (rs0,some (("shift":Str),j+2)):=by rw[sk];unfold aO;rw[hj];rfl
     obtain⟨ym,hjl,hjy⟩:=ez hj
     refine⟨a1.dx,_,rd.at_,rfl,G,x,a1,rs0,rs0,_,y,0,1,some (("shift":Str),j+2),rfl,rdt o1 rd,by decide,hset,by decide,by decide,by decide,(fun z=>by cases z),fun b m _ H2 t2 o2 rd2 _=>?_⟩
     have o12:=o1.trans o2
     obtain⟨kn,en,gn,hn2⟩:=hN3.same (sameC o12)
     refine⟨⟨kn,en,gn⟩,kn,en,.inl (.inl ((0:Nat):Int)),gn,rfl,?_⟩
     have hoa2:=(same1 o12) _ _ (sm _ _ hoa)
     have he02:=(same1 o12) _ _ (sm _ _ he0)
     have he12:=(same1 o12) _ _ (sm _ _ he1)
     by_cases hz:nQ at' go' co'=some 0
     ·obtain⟨p,hp1,hp2⟩:=(hn2 0).1 hz
      rw[hp1]
      refine .inr (.inr ⟨_,_,hp2,rfl,?_⟩)
      refine .inr (.inl ⟨_,_,SqL.of hoa2,rfl,?_⟩)
      refine .inr (.inr ⟨_,_,SqT.of he02,rfl,?_⟩)
      refine⟨a1.dx,_,rd2.at_,rfl,x,a1,rs0,rfl,rd2,by decide,?_⟩
      refine .inr (.inr ⟨_,_,hp2,rfl,.inr (.inl ⟨_,_,SqL.of hoa2,rfl,?_⟩)⟩)
      refine⟨a1.dx,_,rd2.at_,rfl,?_⟩
      refine .inr (.inr ⟨_,_,hp2,rfl,?_⟩)
      refine .inr (.inr ⟨_,_,hp2,rfl,?_⟩)
      refine .inl ⟨_,SqL.of hoa2,fun sl nsl=>?_⟩
      rw[show e9 [V.ref e0,V.ref e1] (some 0) (some (1+1))=[V.ref e0,V.ref e1] from rfl]
      have s5:=ai (o:=.lst [V.ref e0,V.ref e1]) nsl
      refine .inr (.inr ⟨_,_,SqT.of (s5 _ _ he12),rfl,?_⟩)
      obtain⟨v,hv1,hv2⟩:=hv was hwas
      have o15:Out a1.own HD (upd H2 sl (.lst [V.ref e0,V.ref e1])):=.add nsl o12
      have nso:sl∉a1.own:=fun m=>by
       rcases List.mem_cons.mp m with z | m
       ·rw[z,rd2.st]at nsl;cases nsl
       rcases List.mem_cons.mp m with z | m
       ·rw[z,rd2.sp]at nsl;cases nsl
       ·obtain⟨ws,w1,_⟩:=rd2.wy
        rw[List.mem_singleton.mp m,w1]at nsl;cases nsl
      refine .inl ⟨ds,kvs,ep,.inl (.inl ((was:Nat):Int)),v,rfl,g3.same (sameC o15),rfl,hv1,?_⟩
      refine⟨G,x,a1,rs0,gY was,_,v,bA so rk,sl,[V.ref e0,V.ref e1],[(-1,1,0)],((was:Nat):Int),1,0,rfl,rdt o15 (rd2.grow s5),hv2.keeps (sameC o15).keepsT,ae,nso,⟨⟨e0,rfl,s5 _ _ he02⟩,⟨e1,rfl,s5 _ _ he12⟩,True.intro⟩,mj,by decide,by decide,by decide,by decide,fun H3 o3 rd3=>?_⟩
      have o13:=o15.trans o3
      refine .inr (.inr ⟨_,_,SqT.of ((same1 o13) _ _ (sm _ _ he1)),rfl,?_⟩)
      have hzz:at'=0/\go'=0/\co'=0:=by
       unfold nQ at hz
       split at hz
       ·rename_i h00
        exact⟨h00.1,h00.2,by simpa using hz⟩
       ·cases hz
      have hl1:row.length=1:=by omega
      have hr1:row=[y]:=by
       rw[hrw]at hl1 ⊢
       cases r with
       | nil=>rfl
       | cons _ _=>simp at hl1
      have hyw:kinds[was]?=some y:=by rw[<-q0 (by omega) (by omega) (by omega)];exact hy
      exact⟨1,gY was,_,_,_,rfl,hlt,o13,rd3,.inr (.inr ⟨rfl,y,hr1,vH hnd hyw,rfl⟩),rfl⟩
     ·rw[(hn2 0).2 hz]
      refine⟨a1.dx,_,rd2.at_,rfl,G,x,a1,rs0,_,y,0,1,some (nU j),rfl,rdt o12 rd2,by decide,xl (f:=0) hj (hsy y ym),by decide,by decide,by decide,(fun z=>by cases z),fun S' eS H3 o3 rd3=>?_⟩
      cases eS
      exact⟨1,nU j,_,_,_,rfl,hlt,o12.trans o3,rd3,.inr (.inl ⟨rfl,y,r,j,hrw,hj,rfl⟩),rfl⟩
   ·obtain⟨y0m,hjl,_⟩:=ez hj
    have hset:cy (cn kinds (bA so rk)) y (0+1) (nU j)=some (nU j,none):=by
     unfold cy
     rw[yj hjl]
     unfold br
     rw[if_neg yne]
    have hone:gl kinds row=none:=by
     rw[hrw]
     cases r with
     | nil=>rw[hrw]at hlt;exact absurd hlt (Nat.lt_irrefl 1)
     | cons _ _=>rfl
    have hplc:iL kinds row=1:=by
     rw[hrw]
     show (if y0∈kinds then 1 else 0)=1
     rw[if_pos y0m]
    refine⟨a1.dx,_,rd.at_,rfl,G,x,a1,nU j,nU j,_,y,1,1,none,rfl,rdt o1 rd,by decide,hset,(show 2+1≤50000 by decide),(show 1+1≤50000 by decide),(show 1+1≤50000 by decide),fun _ H2 dx2 o2 rd2 nd2 hd2=>?_,fun b m z=>by cases z⟩
    exact q1 hone H2 dx2 (same1 (o1.trans o2)) (none1 o1 rd nd2) (by rw[hplc];exact hd2)
   ·rw[hrw]at hlt
    exact absurd hlt (Nat.lt_irrefl 1)
  ·rw[if_neg (fun z=>hlt (by have:=of_decide_eq_true z;omega))]
   have hnl:row.length=n:=by omega
   have fin:∀{S':RS} {H2:Hp},gl kinds row=some S'->Out a1.own H1 H2->Rdr C H2 x a1 S'->vG C "way" (gZ 10) [some (.ref t),some (.ref g),some (.int (row.length:Nat)),some (.ref oa),some (.int (at':Nat)),some (.int (go':Nat)),some (.int (co':Nat)),some (.int 1),some (.ref dn),some (.ref ds),some (.ref x),some (.int (n:Nat)),v12,v13,v14] H2 Q:=fun {S' H2} e o2 rd2=>by
    obtain⟨ws,w1,w2⟩:=rd2.wy
    exact⟨a1.dx,_,rd2.at_,.ref a1.wy,rfl,q2 S' e H2 a1.wy ws (same1 (o1.trans o2)) (ownH _ (by simp[RA.own])) w1 w2⟩
   rcases far with⟨rfl,rfl⟩ | ⟨rfl,y0,r,j,hrw,hj,rfl⟩ | ⟨rfl,y0,hrw,hj,rfl⟩
   ·have hr0:row=[]:=List.length_eq_zero_iff.mp hnl
    have hset:cy (cn kinds (bA so rk)) "end" (0+1) rs0=some (rs0,none):=by rw[sk];unfold aO;rw[gR ek];rfl
    refine⟨a1.dx,_,rd.at_,rfl,G,x,a1,rs0,rs0,_,"end",row.length,1,none,rfl,rdt o1 rd,by omega,hset,by decide,by decide,by decide,fun _ H2 dx2 o2 rd2 nd2 hd2=>?_,fun b m z=>by cases z⟩
    rw[hnl]at hd2
    exact q1 (by rw[hr0];rfl) H2 dx2 (same1 (o1.trans o2)) (none1 o1 rd nd2) (by rw[hr0];exact hd2)
   ·obtain⟨y0m,hjl,_⟩:=ez hj
    have hr1:row=[y0]:=by
     rw[hrw]at hnl ⊢
     cases r with
     | nil=>rfl
     | cons _ _=>simp at hnl
    have hone:gl kinds row=some (gY j):=by rw[hr1];show (fG kinds y0).map gY=_;rw[hj];rfl
    refine⟨a1.dx,_,rd.at_,rfl,G,x,a1,nU j,gY j,_,"end",row.length,2,some (("accept":Str),0),rfl,rdt o1 rd,by omega,zd (f:=0) hjl,(show 2+2≤50000 by decide),(show 1+2≤50000 by decide),(show 1+2≤50000 by decide),(fun z=>by cases z),fun b m _ H2 t2 o2 rd2 _=>fin hone o2 rd2⟩
   ·have hone:gl kinds row=some (gY was):=by rw[hrw];show (fG kinds y0).map gY=_;rw[hj];rfl
    have hset:cy (cn kinds (bA so rk)) "end" (0+1) (gY was)=some (gY was,some (("accept":Str),0)):=by
     unfold cy
     rw[xb]
     unfold br
     rw[if_pos rfl]
     dsimp only
     rw[if_neg (by decide)]
    refine⟨a1.dx,_,rd.at_,rfl,G,x,a1,gY was,gY was,_,"end",row.length,1,some (("accept":Str),0),rfl,rdt o1 rd,by omega,hset,(show 2+1≤50000 by decide),(show 1+1≤50000 by decide),(show 2+1≤50000 by decide),(fun z=>by cases z),fun b m _ H2 t2 o2 rd2 _=>fin hone o2 rd2⟩
end
end K46
--@RAISES but law
namespace K46
open PySem PySem.Spec PyProof.Rows L2 Rg
section
variable {P:Program}{w:World}{K:PySem.W.Frag}{mg:Str->Option Value}{base:Heap}{C CS CN CB fi:Addr}{mc:Value}{c__law_read P__law_read:Addr}
def zy (CS CN:Addr)(H':Hp)(p:Addr)(kinds row:List Str)(at_ gone come:Int):Prop :=
 (gW 1 (row.length:Nat) at_ gone come/\∃a oe,H' p=some (.tup [.non,.ref a])/\H' a=some (.frz oe aU)/\oe.cls=.ref CN) \/
 (¬ gW 1 (row.length:Nat) at_ gone come/\gl kinds row=none/\∃a oe dx,H' p=some (.tup [.non,.ref a])/\H' a=some (.frz oe aU)/\oe.cls=.ref CS/\oe.dict=some dx/\(∃vs,oe.data=.fields vs)/\H' dx=some (kY dx "place" (.int (iL kinds row:Nat)))) \/
 (¬ gW 1 (row.length:Nat) at_ gone come/\∃S wy ws,gl kinds row=some S/\H' p=some (.tup [.ref wy,.non])/\H' wy=some (.lst ws)/\Wys H' ws S.tr)
def iY (P:Program)(w:World)(K:PySem.W.Frag)(CS CN Pt:Addr):Sp:=fun vs H Q _=>∃(G:Hp) (t pl be de:Addr) (so:Str) (rk:Int) (kinds row:List Str) (ra oa ch:Addr) (was:Nat) (at_ gone come:Int),vs=[.ref t,.ref ra,.ref oa,.ref ch]/\Same G H/\Tab1 P w K G t pl be de so rk kinds/\kinds.Nodup/\kinds.length≤30/\("end":Str)∉kinds/\("end":Str)∉row/\G ra=some (.lst (aI row))/\row.length≤1000/\Old G oa was/\was<kinds.length/\Sml at_/\Sml gone/\Sml come/\G ch=some (.tup [.int at_,.int gone,.int come])/\TabOk H Pt ap/\G Pt=none /\
 (¬ gW 1 (row.length:Nat) at_ gone come->at_=0->gone=0->come=0->row[0]?=kinds[was]?) /\
 ∀H' p,Out [Pt] H H'->TabOk H' Pt ap->zy CS CN H' p kinds row at_ gone come->Q (.ref p) H'
theorem n0 (R:RawC K mg "_law_read" st__law_read ["_law_tables_here","_law_row_here","_law_old","_law_change"] c__law_read P__law_read)(B:fm mg base)(T:Txt K w mg)(TX:jf K mg "Stuck" "GrowthError" "place" CS CB fi mc)(TN:vn K mg CN CS)(D_read_again:js P w K mg base 6 "read_again" ["tables","ask","many","old","at","gone","come"] (me P w K CS CN)) :
  Def P w K mg base 7 "_law_read" ["_law_tables_here","_law_row_here","_law_old","_law_change"] (iY P w K CS CN P__law_read):=by
 refine R.defJ eL (fun vs H Q E h=>?_) (fun f A outer s H vs Q E hr h=>?_)
 ·obtain⟨G,t,pl,be,de,so,rk,kinds,row,ra,oa,ch,was,at_,gone,come,rfl,_⟩:=h
  rfl
 ·obtain⟨G,t,pl,be,de,so,rk,kinds,row,ra,oa,ch,was,at_,gone,come,rfl,sm,tb,hnd,hlk,ek,er,hra,hlen,hold,hwas,sa,sg,scm,hch,hT,hGP,q0,q⟩:=h
  have sc:=eL
  have hu:=hr.units
  have hb:(1000000:Nat)<sizeLine:=by rw[sizeLine_eq];decide
  refine⟨_,(ac (qM (i:=4) (c:=c__law_read) (Pt:=P__law_read) (qs:=ap) (st:=aR) (qual:=bv) sc.nd rfl (Or.inl rfl) rfl R.hd B rfl rfl rfl rfl)
  (ac (ao (i:=5) sc.nd rfl (Or.inl rfl) ij)
  (ac (ao (i:=6) sc.nd rfl (Or.inl rfl) ij)
  (ac (pc rfl rfl (fun pins EX=>(ak (ao (i:=5) sc.nd rfl (Or.inl rfl) (rH ["_law_row_here"] [1] D_read_again (hr.mono (by decide)) rfl (aa (jn 0) (aa (jn 4) (aa (au (cN (K:=K)) rfl T.n_len PySem.boot_len (aa (jn 1) af)) (aa (jn 2) (aa (aK (aA hu (K:=K) (P:=P) (w:=w)) (jn 3) aj) (aa (aK (aA hu (K:=K) (P:=P) (w:=w)) (jn 3) aj) (aa (aK (aA hu (K:=K) (P:=P) (w:=w)) (jn 3) aj) af))))))) (j5 rfl rfl) (by rfl))))) rfl TX.at_ TX.ex rfl TN.c_NoFit TN.x_NoFit TN.no (i:=7) sc.nd rfl rfl (fun a oe=>(ak (ao (i:=6) sc.nd rfl (Or.inl rfl) (jn 7)))) (fun a oe=>(ak (ao (i:=6) sc.nd rfl (Or.inl rfl) (jn 7)))))
  (ak (aw (bi (aa (jn 5) (aa (jn 6) af))))))))),?_⟩
  obtain⟨tb0,htb0⟩:=Rg.TabOk.tab hT
  refine⟨hT,fun g H2 ng sm2 hT2 M2=>?_⟩
  have sG2:Same G H2:=fun b u e=>sm2 b u (fun z=>by rw[z,hGP]at e;cases e) (sm b u e)
  refine fun pins=>?_
  refine⟨_,.inl (SqL.of (sG2 _ _ hra)),?_⟩
  rw[aW]
  refine .inr (.inr ⟨_,_,SqT.of (sG2 _ _ hch),rfl,.inr (.inr ⟨_,_,SqT.of (sG2 _ _ hch),rfl,.inr (.inr ⟨_,_,SqT.of (sG2 _ _ hch),rfl,?_⟩)⟩)⟩)
  refine⟨(fun i hi=>by rw[List.mem_singleton.mp hi];exact⟨_,rfl⟩),fun cs os F hc=>?_⟩
  have sF:Same H2 (cH cs os H2):=fun b u e=>by rw[aV fun m=>by rw[hc b m]at e;cases e];exact e
  have C:=xC (ws:=[.ref ra]) M2 F hc sc.nd (by decide +kernel) (by decide +kernel) (by decide +kernel) rfl (fun j hj=>match j,hj with | 0,_=>⟨1,rfl,rfl⟩)
  obtain⟨tb2,htb2⟩:=Rg.TabOk.tab hT2
  have fin:∀{H3:Hp},Same (cH cs os H2) H3->Out [P__law_read] H (rem cs H3)/\TabOk (rem cs H3) P__law_read ap:=fun {H3} o3=>by
   have s7:Same H2 (rem cs H3):=fun b u e=>by
    have bc:b∉cs:=fun m=>by rw[hc b m]at e;cases e
    rw[aL bc]
    exact o3 b u (sF b u e)
   refine⟨fun b u nb e=>s7 b u (sm2 b u (fun z=>nb (by rw[z];simp)) e),hT2.same ?_ fun b o k=>s7 b _ k⟩
   rw[htb2]
   exact s7 _ _ htb2
  have ncl:∀{b:Addr},cH cs os H2 b=none->b∉cs:=fun {b} n=>Rg.froz_none F.nd (F.l2.trans F.l1.symm) n
  refine⟨G,t,pl,be,de,so,rk,kinds,row,g,ra,oa,was,at_,gone,come,rfl,fun b u e=>sF b u (sG2 b u e),tb,hnd,hlk,ek,er,⟨cs,C⟩,hra,hlen,hold,hwas,sa,sg,scm,fun hbad H3 s3=>.inr ⟨rfl,fun a oe na ca da=>?_⟩,fun hfit=>⟨q0 hfit,fun eo H3 dx s3 nd hd=>.inl ⟨rfl,fun a oe na ca da dda=>?_⟩,fun S' eo H3 wy ws s3 nw hw hws=>?_⟩⟩
  ·have fi:=fin s3
   generalize rem cs H3=H4 at fi na ⊢
   have s5:=ai (o:=.frz oe aU) na
   refine⟨(show 2≤sizeLine by decide),fun p np=>?_⟩
   have s6:=ai (o:=.tup [.non,.ref a]) np
   have s7:=s5.trans s6
   exact q _ p (fi.1.trans (.of s7)) (Rg.TabOk.grow fi.2 s7) (.inl ⟨hbad,a,oe,ae,s6 _ _ ae,ca⟩)
  ·have oed:=dda dx rfl
   have fi:=fin s3
   have hdd:rem cs H3 dx=some (kY dx "place" (.int (iL kinds row:Nat))):=by rw[aL (ncl nd)];exact hd
   generalize rem cs H3=H4 at fi na hdd ⊢
   have s5:=ai (o:=.frz oe aU) na
   refine⟨(show 2≤sizeLine by decide),fun p np=>?_⟩
   have s6:=ai (o:=.tup [.non,.ref a]) np
   have s7:=s5.trans s6
   exact q _ p (fi.1.trans (.of s7)) (Rg.TabOk.grow fi.2 s7) (.inr (.inl ⟨hfit,eo,a,oe,dx,ae,s6 _ _ ae,ca,oed,da,s7 _ _ hdd⟩))
  ·have fi:=fin s3
   have hww:rem cs H3 wy=some (.lst ws):=by rw[aL (ncl nw)];exact hw
   have hwy:Wys (rem cs H3) ws S'.tr:=hws.same fun t xs e=>by
    rw[aL fun m=>by
     obtain⟨j,oc,_,_,k⟩:=cZ (H:=H2) F.nd (F.l2.trans F.l1.symm) m
     have:=s3 t _ k
     rw[e]at this
     cases this]
    exact e
   dsimp only
   generalize rem cs H3=H4 at fi hww hwy ⊢
   refine⟨(show 2≤sizeLine by decide),fun p np=>?_⟩
   have s6:=ai (o:=.tup [.ref wy,.non]) np
   exact q _ p (fi.1.trans (.of s6)) (Rg.TabOk.grow fi.2 s6) (.inr (.inr ⟨hfit,S',wy,ws,eo,ae,s6 _ _ hww,hwy.same fun t xs e=>s6 _ _ e⟩))
end
end K46
--@RAISES but law
namespace K46
open PySem PySem.Spec PyProof.Rows L2 Rg
section
variable {P:Program}{w:World}{K:PySem.W.Frag}{mg:Str->Option Value}{base:Heap}
abbrev xj:Int:=17
def kL (K:PySem.W.Frag):Sp:=fun vs H Q _=>∃(a:Addr) (ns:List Int) (k:Nat),vs=[.ref a,.int k]/\SqL K H a (ns.map V.int)/\Q (.int (ns.getD k 0)) H
abbrev st__law_cell_at:Stmt:=fW 26
theorem dg:ar ["_law_script","_law_k"] ["_law_script","_law_k"] (ah st__law_cell_at):=⟨rfl,rfl,rfl,by decide +kernel,rfl,by decide +kernel,by decide +kernel⟩
theorem qB (R:Raw K mg "_law_cell_at" st__law_cell_at ["_law_script","_law_k"])(T:Txt K w mg):Def P w K mg base 1 "_law_cell_at" ["_law_script","_law_k"] (kL K):=by
 refine R.defJ dg (fun vs H Q E h=>?_) (fun f cdv A outer s H vs Q E hr h=>?_)
 ·obtain⟨a,ns,k,rfl,_⟩:=h
  rfl
 ·obtain⟨a,ns,k,rfl,hS,q⟩:=h
  have sc:=dg
  have hu:=hr.units
  refine⟨_,(ac (aY (aH kE (jn 1) (au (cN (K:=K)) rfl T.n_len PySem.boot_len (aa (jn 0) af)))
  (ak (aw (aK (dX hu (K:=K) (w:=w)) (jn 0) (jn 1))))
  aF)
  (ak (aw aj))),?_⟩
  refine⟨_,.inl hS,?_⟩
  rw[List.length_map]
  show if decide ((k:Int)<(ns.length:Int))=true then _ else _
  refine dW (fun h=>?_) (fun h=>?_)
  ·have hk:k<ns.length:=by
    have:=of_decide_eq_true h
    omega
   refine .inl ⟨_,.int (ns.getD k 0),hS,aG ?_,q⟩
   rw[List.getElem?_map,List.getElem?_eq_getElem hk]
   simp[List.getD,hk]
  ·have hk:¬ k<ns.length:=fun z=>h (decide_eq_true (by omega))
   have e:ns.getD k 0=0:=by simp[List.getD,List.getElem?_eq_none (by omega:ns.length≤k)]
   rw[e]at q
   exact q
def eK:Sp:=fun vs H Q _=>∃i:Int,vs=[.int i]/\Q (.bl true) H
abbrev st__law_whole:Stmt:=fW 34
theorem d0:ar ["_law_found"] ["_law_found"] (ah st__law_whole):=⟨rfl,rfl,rfl,by decide +kernel,rfl,by decide +kernel,by decide +kernel⟩
theorem mL (R:Raw K mg "_law_whole" st__law_whole ["_law_found"])(T:Txt K w mg):Def P w K mg base 1 "_law_whole" ["_law_found"] eK:=by
 refine R.defJ d0 (fun vs H Q E h=>?_) (fun f cdv A outer s H vs Q E hr h=>?_)
 ·obtain⟨i,rfl,_⟩:=h
  rfl
 ·obtain⟨i,rfl,q⟩:=h
  have sc:=d0
  have hu:=hr.units
  refine⟨_,(ak (aw (dj (au (iV (K:=K)) rfl T.n_isinstance boot_isinstance (aa (jn 0) (aa (fY (v:=.ty "int") rfl T.n_int boot_int rfl) af))) (ig (ly (au (iV (K:=K)) rfl T.n_isinstance boot_isinstance (aa (jn 0) (aa (fY (v:=.ty "bool") rfl T.n_bool boot_bool rfl) af)))))))),?_⟩
  refine⟨"int",true,.int i,rfl,?_⟩
  exact⟨"int",false,.int i,rfl,q⟩
abbrev eF:Str:="abcdfghijklmnopqrstuvwxzABCDFGHIJKLMNOPQRSTUVWXZ0123456789+-*/=<>!?()."
abbrev lettersL:List Nat:=("abcdfghijklmnopqrstuvwxzABCDFGHIJKLMNOPQRSTUVWXZ0123456789+-*/=<>!?().":Str).cps.toList
def ud (x:Int):Nat:=lettersL.getD (x % 70).toNat 0
theorem eG:lettersL.length=70:=by decide +kernel
theorem yi (x:Int):j3 lettersL (x % 70)=some (ud x):=by
 have h1:(x % 70).toNat<lettersL.length:=by rw[eG];omega
 have e:(((x % 70).toNat:Nat):Int)=x % 70:=by omega
 have key:=aG (xs:=lettersL) (List.getElem?_eq_getElem h1)
 rw[e]at key
 rw[key]
 unfold ud
 rw[List.getD,List.getElem?_eq_getElem h1]
 rfl
theorem sh:∀i,i<70->∀j,j<70->lettersL.getD i 0=lettersL.getD j 0->i=j:=by decide +kernel
theorem wl {x y:Int}(h:ud x=ud y):x % 70=y % 70:=by
 have:=sh (x % 70).toNat (by omega) (y % 70).toNat (by omega) h
 omega
theorem vB (x:Int):ud x∈lettersL:=by
 have h1:(x % 70).toNat<lettersL.length:=by rw[eG];omega
 unfold ud
 rw[List.getD,List.getElem?_eq_getElem h1]
 exact List.getElem_mem h1
def jW (c:Int):Nat:=(1+c % 12).toNat
def i6 (c p:Int):Nat:=(p % (1+c % 12)).toNat
theorem t7 (c:Int):((jW c:Nat):Int)=1+c % 12/\1≤jW c/\jW c≤12:=by unfold jW;omega
theorem uu (c p:Int):((i6 c p:Nat):Int)=p % (1+c % 12)/\i6 c p<jW c:=by
 have h0:=Int.emod_nonneg p (show 1+c % 12≠0 by omega)
 have h1:=Int.emod_lt_of_pos p (show 0<1+c % 12 by omega)
 unfold i6 jW
 omega
def pr (c:Int)(j:Nat):Int:=(c / ((j:Int)+1)+xj*(j:Int)*(j:Int)) % 70
def vk (c p:Int)(k j:Nat):Nat:=ud (pr c j+(k:Int)*(if j=i6 c p then 1 else 0))
def df (c p:Int)(k:Nat):List Nat:=(List.range (jW c)).map (vk c p k)
theorem mQ {c p:Int}{k k':Nat}(hk:k<70)(hk':k'<70)(h:df c p k=df c p k'):k=k':=by
 have h1:=congrArg (fun l=>l[i6 c p]?) h
 unfold df at h1
 have hlt:=(uu c p).2
 simp[hlt]at h1
 unfold vk at h1
 simp only[if_pos]at h1
 have:=wl h1
 omega
theorem mE {c p:Int}{k x:Nat}(h:x∈df c p k):x∈lettersL:=by
 unfold df at h
 obtain⟨j,_,rfl⟩:=List.mem_map.mp h
 exact vB _
theorem ji:lettersL.all (fun c=>decide (c<128)&&c != 101&&c != 121)=true:=by decide +kernel
theorem gg {c p:Int}{k x:Nat}(h:x∈df c p k):x<128/\x≠101/\x≠121:=by
 have:=List.all_eq_true.mp ji x (mE h)
 simp at this
 exact⟨this.1.1,this.1.2,this.2⟩
theorem oq (c p:Int)(k:Nat):df c p k≠[101,110,100]:=fun h=>(gg (c:=c) (p:=p) (k:=k) (x:=101) (by rw[h];simp)).2.1 rfl
theorem mv (c p:Int)(k:Nat):zj (df c p k):=fun x hx=>by
 have:=(gg hx).1
 show x<0x110000
 omega
def li (K:PySem.W.Frag):Sp:=fun vs H Q _=>∃(c p:Int) (m:Nat),vs=[.int c,.int p,.int (m:Nat)]/\m≤70/\∀(H':Hp) (q:Addr),Same H H'->H q=none->H' q=some (.lst ((List.range m).map fun k=>V.str (S (df c p k))))->Q (.ref q) H'
abbrev st__law_names:Stmt:=fW 27
theorem ed:ar ["_law_base","_law_place","_law_many_here","_law_some","_law_long","_law_j","_law_signs","_law_at","_law_names_here","_law_k","_law_name"] ["_law_base","_law_place","_law_many_here"] (ah st__law_names):=⟨rfl,rfl,rfl,by decide +kernel,rfl,by decide +kernel,by decide +kernel⟩
theorem mt (R:Raw K mg "_law_names" st__law_names ["_law_base","_law_place","_law_many_here"])(T:Txt K w mg):Def P w K mg base 1 "_law_names" ["_law_base","_law_place","_law_many_here"] (li K):=by
 refine R.defJ ed (fun vs H Q E h=>?_) (fun f cdv A outer s H vs Q E hr h=>?_)
 ·obtain⟨c,p,m,rfl,_⟩:=h
  rfl
 ·obtain⟨c,p,m,rfl,hm,q⟩:=h
  have sc:=ed
  have hu:=hr.units
  have hb:(1000000:Nat)<sizeLine:=by rw[sizeLine_eq];decide
  have esz:=(t7 c).1
  have hsz:=(t7 c).2
  refine⟨_,(ac (ao (i:=3) sc.nd rfl (Or.inr rfl) dz)
  (ac (ao (i:=4) sc.nd rfl (Or.inl rfl) (aJ (bx (K:=K)) aj (aJ bS (jn 0) aj)))
  (ac (tL (i:=6) (N:=["_law_j","_law_base","_law_some"]) (cap:=[none,some 0,some 3]) rfl (CompScope.of rfl (by rfl)) (dR rfl T.n_range (aa (jn 4) af)) (fun _ _ _ _=>(aP (i:=0) (show List.Nodup [("_law_j":Str),("_law_base":Str),("_law_some":Str)] by decide +kernel) rfl (Or.inl rfl))) (fun _ _ _ _=>lu) (fun _ _ _ _=>(aJ bS (aJ (bx (K:=K)) (aJ gw (jn 1) (aJ (bx (K:=K)) (jn 0) aj)) (aJ oY (aJ oY aj (jn 0)) (jn 0))) (au (cN (K:=K)) rfl T.n_len PySem.boot_len (aa (jn 2) af)))) sc.nd rfl rfl)
  (ac (ao (i:=7) sc.nd rfl (Or.inl rfl) (aJ bS (jn 1) (jn 4)))
  (ac (ao (i:=8) sc.nd rfl (Or.inl rfl) (cr af))
  (ac (dM PassesOwn.never rfl (dR rfl T.n_range (aa (jn 2) af)) (aP (i:=9) sc.nd rfl (Or.inl rfl))
  (ac (ao (i:=10) sc.nd rfl (Or.inl rfl) dz)
  (ac (dM PassesOwn.never rfl (dR rfl T.n_range (aa (jn 4) af)) (aP (i:=5) sc.nd rfl (Or.inl rfl))
  (ak (ao (i:=10) sc.nd rfl (Or.inl rfl) (aJ (bx (K:=K)) (jn 10) (aK (dX hu (K:=K) (w:=w)) (jn 3) (aJ bS (aJ (bx (K:=K)) (aK (dX hu (K:=K) (w:=w)) (jn 6) (jn 5)) (aJ oY (jn 9) (jE tX rfl T.n_int boot_int (aa (dm (eH hu (K:=K)) (jn 5) (jn 7)) af)))) (au (cN (K:=K)) rfl T.n_len PySem.boot_len (aa (jn 3) af))))))))
  (ak (aD (e8 (K:=K) PySem.F.plainAttrs_list PySem.F.slot_list_append PySem.F.type_list_append bt (jn 8) (aa (jn 10) af)))))))
  (ak (aw (jn 8))))))))),?_⟩
  have hL:(eF:Str).length=70:=by decide +kernel
  refine⟨by decide,?_⟩
  refine⟨show -(2 ^ 62)≤1+c % 12 by omega,show 1+c % 12<2 ^ 62 by omega,?_⟩
  refine gx (n:=(1+c % 12).toNat) (fun i ys σ' H'=>H'=H/\ys=(List.range i).map (fun j=>V.int (pr c j))/\∃(v:Option V),σ'=[v,some (.int c),some (.str eF)]) (by omega) ⟨rfl,rfl,none,rfl⟩ (fun i ys σ' H' h=>by obtain⟨_,rfl,_⟩:=h;simp) ?_ ?_
  ·rintro i ys σ' H' hi ⟨rfl,rfl,v,rfl⟩
   have e0:(0:Int)+((i:Nat):Int)=(i:Int):=Int.zero_add _
   rw[e0]
   refine⟨⟨by omega,by omega⟩,.inl ⟨by decide,by decide⟩,.inr ⟨by omega,by omega⟩,by decide,?_⟩
   rw[hL]
   refine⟨by decide,?_⟩
   exact⟨rfl,by rw[List.range_succ,List.map_append];rfl,_,rfl⟩
  rintro ys σ' H' ⟨rfl,rfl,v,rfl⟩ sg hsg
  have s1:Same H' (upd H' sg (.lst ((List.range (1+c % 12).toNat).map (fun j=>V.int (pr c j))))):=ai hsg
  have h1:upd H' sg (.lst ((List.range (1+c % 12).toNat).map (fun j=>V.int (pr c j)))) sg=some (.lst ((List.range (1+c % 12).toNat).map (fun j=>V.int (pr c j)))):=ae
  generalize upd H' sg (.lst ((List.range (1+c % 12).toNat).map (fun j=>V.int (pr c j))))=H1 at s1 h1 ⊢
  refine⟨show (0:Int)<1+c % 12 by omega,?_⟩
  rw[<-(uu c p).1]
  refine⟨(show 0≤sizeLine by decide),fun nl hnl=>?_⟩
  have s2:Same H' (upd H1 nl (.lst [])):=s1.trans (ai hnl)
  have h2:upd H1 nl (.lst []) nl=some (.lst []):=ae
  have h3:upd H1 nl (.lst []) sg=some (.lst ((List.range (1+c % 12).toNat).map (fun j=>V.int (pr c j)))):=ai hnl _ _ h1
  have nne:nl≠sg:=fun z=>by rw[z,h1]at hnl;cases hnl
  have nH:H' nl=none:=by
   cases e:H' nl with
   | none=>rfl
   | some u=>rw[s1 _ _ e]at hnl;cases hnl
  generalize upd H1 nl (.lst [])=H2 at s2 h2 h3 ⊢
  refine⟨by omega,by omega,?_⟩
  refine dP (n:=((m:Nat):Int).toNat) (fun i σ H3=>∃(v5 v9 v10:Option V),Same H' H3/\H3 nl=some (.lst ((List.range i).map fun k=>V.str (S (df c p k))))/\H3 sg=some (.lst ((List.range (1+c % 12).toNat).map (fun j=>V.int (pr c j))))/\σ=[some (.int c),some (.int p),some (.int (m:Nat)),some (.str eF),some (.int (1+c % 12)),v5,some (.ref sg),some (.int (i6 c p:Nat)),some (.ref nl),v9,v10]) ⟨none,none,none,s2,h2,h3,rfl⟩ ?_ ?_
  ·rintro i σ H3 hi ⟨v5,v9,v10,s4,h4,h5,rfl⟩
   refine⟨show -(2 ^ 62)≤1+c % 12 by omega,show 1+c % 12<2 ^ 62 by omega,?_⟩
   have ei:(0:Int)+((i:Nat):Int)=(i:Int):=Int.zero_add _
   refine dP (n:=(1+c % 12).toNat) (fun j σ H6=>H6=H3/\∃(v5:Option V),σ=[some (.int c),some (.int p),some (.int (m:Nat)),some (.str eF),some (.int (1+c % 12)),v5,some (.ref sg),some (.int (i6 c p:Nat)),some (.ref nl),some (.int (i:Nat)),some (.str (S ((List.range j).map (vk c p i))))])
    ⟨rfl,v5,by rw[ei];rfl⟩ ?_ ?_
   ·rintro j σ H6 hj ⟨rfl,v5,rfl⟩
    have ej:(0:Int)+((j:Nat):Int)=(j:Int):=Int.zero_add _
    rw[ej]
    have hsj:((List.range (1+c % 12).toNat).map (fun j=>V.int (pr c j)))[j]?=some (.int (pr c j)):=by rw[List.getElem?_map,List.getElem?_range hj];rfl
    have ek:∃o,j3 lettersL ((pr c j+(i:Int)*(if (false^^decide (((j:Nat):Int)=((i6 c p:Nat):Int)))=true then 1 else 0)) % 70)=some o/\S ((List.range j).map (vk c p i))++S [o]=S ((List.range (j+1)).map (vk c p i)):=by
     refine⟨_,yi _,?_⟩
     rw[xY,List.range_succ,List.map_append]
     congr 2
     show [ud _]=[vk c p i j]
     unfold vk
     rw[Bool.false_xor]
     by_cases hj:j=i6 c p
     ·rw[if_pos hj,if_pos (decide_eq_true (by omega))]
     ·rw[if_neg hj,if_neg (fun z=>hj (by have:=of_decide_eq_true z;omega))]
    obtain⟨o,eo,es⟩:=ek
    refine .inl ⟨_,_,SqL.of h5,aG hsj,?_⟩
    refine⟨.inl ⟨by omega,by omega⟩,by decide,?_⟩
    rw[hL]
    refine⟨by decide,by decide +kernel,o,eo,by rw[uo,uo,List.length_map,List.length_range];simp;omega,?_⟩
    rw[es]
    exact⟨rfl,_,rfl⟩
   ·rintro σ H6 ⟨rfl,v5,rfl⟩
    rw[show (1+c % 12).toNat=jW c from rfl]
    refine⟨.inl ⟨rfl,_,SqL.of h4⟩,_,h4,by rw[List.length_map,List.length_range];omega,?_⟩
    refine⟨_,_,_,fun b u e=>?_,?_,?_,rfl⟩
    ·rw[ag fun z=>by rw[z,nH]at e;cases e];exact s4 b u e
    ·rw[ae,List.range_succ,List.map_append]
     rfl
    ·rw[ag nne.symm];exact h5
  ·rintro σ H3 ⟨v5,v9,v10,s4,h4,h5,rfl⟩
   exact q H3 nl s4 nH (by simpa using h4)
theorem eT {H:Hp}:∀row:List Str,DatVs K H (aI row) (row.map PyData.str)
 | []=>.nil
 | x::r=>.cons (.str x) (eT r)
theorem pS (xs:List V){a:Nat}(h:a≤xs.length):e9 xs (some (a:Int)) none=xs.drop a:=by
 unfold e9
 rw[HT.sIx_nat,HT.sIx_none,show min a xs.length=a by omega]
 exact List.take_of_length_le (by simp)
theorem pK (xs:List V){a:Nat}(h:a≤xs.length):e9 xs none (some (a:Int))=xs.take a:=by
 unfold e9
 rw[HT.sIx_nat,HT.sIx_none,show min a xs.length=a by omega]
 simp
def Wd (x:Str):Prop:=PyData.strOk x=true/\x≠"end"
def tG (c p:Int)(m:Nat):List Str:=(List.range m).map fun k=>S (df c p k)
theorem sO (c p:Int)(m:Nat):(tG c p m).length=m:=by unfold tG;simp
theorem sQ (c p:Int)(m:Nat):aI (tG c p m)=(List.range m).map fun k=>V.str (S (df c p k)):=by unfold aI tG;rw[List.map_map];rfl
theorem vj (c p:Int){m:Nat}(hm:m≤70):(tG c p m).Nodup:=by
 unfold tG
 rw[List.nodup_iff_pairwise_ne,List.pairwise_map]
 refine List.Pairwise.imp_of_mem (fun {x y} hx hy ne e=>?_) (List.nodup_iff_pairwise_ne.mp List.nodup_range)
 have h1:=List.mem_range.mp hx
 have h2:=List.mem_range.mp hy
 exact ne (mQ (by omega) (by omega) (tR e))
theorem mr (l:List Str)(n:Nat):(aI l).take n=aI (l.take n):=by unfold aI;rw[List.map_take]
theorem mX (l:List Str)(n:Nat):(aI l).drop n=aI (l.drop n):=by unfold aI;rw[List.map_drop]
theorem jc (l m:List Str):aI l++aI m=aI (l++m):=by unfold aI;rw[List.map_append]
theorem mY {l:List Nat}(h:zj l):PyData.strOk (S l)=true:=by
 unfold PyData.strOk
 rw[Array.all_eq_true']
 intro c hc
 exact decide_eq_true (h c (by simpa using hc))
theorem vQ (c p:Int)(m:Nat):∀x∈tG c p m,Wd x:=fun x hx=>by
 unfold tG at hx
 obtain⟨k,_,rfl⟩:=List.mem_map.mp hx
 exact⟨mY (mv c p k),fun z=>oq c p k (tR (z.trans (by decide +kernel:("end":Str)=S [101,110,100])))⟩
theorem o7 {l:List Str}(h:l≠[])(c:Int):j3 (aI l) (c % (l.length:Int))=some (.str (l.getD (c % (l.length:Int)).toNat ""))/\(0:Int)<(l.length:Int)/\l.getD (c % (l.length:Int)).toNat ""∈l:=by
 have hp:0<l.length:=List.length_pos_iff.mpr h
 have h0:=Int.emod_nonneg c (show (l.length:Int)≠0 by omega)
 have h1:=Int.emod_lt_of_pos c (show (0:Int)<(l.length:Int) by omega)
 have hlt:(c % (l.length:Int)).toNat<l.length:=by omega
 have key:=aG (xs:=aI l) (cC (List.getElem?_eq_getElem hlt))
 rw[show (((c % (l.length:Int)).toNat:Nat):Int)=c % (l.length:Int) by omega]at key
 rw[key,List.getD,List.getElem?_eq_getElem hlt]
 exact⟨rfl,by omega,List.getElem_mem hlt⟩
def pY (K:PySem.W.Frag):Sp:=fun vs H Q _=>∃(a ka oa:Addr) (ns:List Int) (kinds others:List Str) (m:Nat),vs=[.ref a,.ref ka,.ref oa,.int (m:Nat)]/\SqL K H a (ns.map V.int)/\m≤60/\SqL K H ka (aI kinds)/\SqL K H oa (aI others)/\kinds≠[]/\others≠[] /\
 ∀H' ra row,Same H H'->H ra=none->H' ra=some (.lst (aI row))->row.length=m->(∀x∈row,x∈kinds\/x∈others)->Q (.ref ra) H'
abbrev st__law_row:Stmt:=fW 31
theorem fC:ar ["_law_script","_law_kinds","_law_others","_law_many_here","_law_row_here","_law_k","_law_cell"] ["_law_script","_law_kinds","_law_others","_law_many_here"] (ah st__law_row):=⟨rfl,rfl,rfl,by decide +kernel,rfl,by decide +kernel,by decide +kernel⟩
theorem p0 (R:Raw K mg "_law_row" st__law_row ["_law_script","_law_kinds","_law_others","_law_many_here"])(T:Txt K w mg)(D__law_cell_at:Def P w K mg base 1 "_law_cell_at" ["_law_script","_law_k"] (kL K)):Def P w K mg base 2 "_law_row" ["_law_script","_law_kinds","_law_others","_law_many_here"] (pY K):=by
 refine R.defJ fC (fun vs H Q E h=>?_) (fun f cdv A outer s H vs Q E hr h=>?_)
 ·obtain⟨a,ka,oa,ns,kinds,others,m,rfl,_⟩:=h
  rfl
 ·obtain⟨a,ka,oa,ns,kinds,others,m,rfl,hC,lm,hK,hO,nk,no,q⟩:=h
  have sc:=fC
  have hu:=hr.units
  have hb:(1000000:Nat)<sizeLine:=by rw[sizeLine_eq];decide
  refine⟨_,(ac (ao (i:=4) sc.nd rfl (Or.inl rfl) (cr af))
  (ac (dM PassesOwn.never rfl (dR rfl T.n_range (aa (jn 3) af)) (aP (i:=5) sc.nd rfl (Or.inl rfl))
  (ac (ao (i:=6) sc.nd rfl (Or.inl rfl) (bq D__law_cell_at (hr.mono (by decide)) rfl (aa (jn 0) (aa (aJ (bx (K:=K)) aj (jn 5)) af))))
  (ak (aY (aH (eH hu (K:=K)) (aJ bS (jn 6) aj) aj)
  (ak (aD (e8 (K:=K) PySem.F.plainAttrs_list PySem.F.slot_list_append PySem.F.type_list_append bt (jn 4) (aa (aK (dX hu (K:=K) (w:=w)) (jn 2) (aJ bS (aJ gw (jn 6) aj) (au (cN (K:=K)) rfl T.n_len PySem.boot_len (aa (jn 2) af)))) af))))
  (ak (aD (e8 (K:=K) PySem.F.plainAttrs_list PySem.F.slot_list_append PySem.F.type_list_append bt (jn 4) (aa (aK (dX hu (K:=K) (w:=w)) (jn 1) (aJ bS (aJ gw (jn 6) aj) (au (cN (K:=K)) rfl T.n_len PySem.boot_len (aa (jn 1) af)))) af))))))))
  (ak (aw (jn 4))))),?_⟩
  refine⟨(show 0≤sizeLine by decide),fun ra nra=>?_⟩
  have s1:=ai (o:=.lst []) nra
  have h1:upd H ra (.lst []) ra=some (.lst []):=ae
  generalize upd H ra (.lst [])=H1 at s1 h1 ⊢
  refine⟨by omega,by omega,?_⟩
  refine dP (n:=((m:Nat):Int).toNat) (fun i σ H'=>∃(row:List Str) (v5 v6:Option V),Same H H'/\H' ra=some (.lst (aI row))/\row.length=i/\(∀x∈row,x∈kinds\/x∈others)/\σ=[some (.ref a),some (.ref ka),some (.ref oa),some (.int (m:Nat)),some (.ref ra),v5,v6]) ⟨[],none,none,s1,h1,rfl,(fun x m=>nomatch m),rfl⟩ ?_ ?_
  ·rintro i σ H' hi ⟨row,v5,v6,s2,h2,lr,hin,rfl⟩
   have ei:(9:Int)+(0+((i:Nat):Int))=((9+i:Nat):Int):=by omega
   refine⟨a,ns,9+i,(by rw[<-ei]),s2.seq hC,?_⟩
   generalize ns.getD (9+i) 0=c
   have fin:∀y,y∈kinds\/y∈others->Same H (upd H' ra (.lst (aI row++[.str y])))/\upd H' ra (.lst (aI row++[.str y])) ra=some (.lst (aI (row++[y])))/\(row++[y]).length=i+1/\(∀x∈row++[y],x∈kinds\/x∈others):=fun y hy=>by
    refine⟨fun b u e=>?_,?_,by simp;omega,fun x m=>?_⟩
    ·rw[ag fun z=>by rw[z,nra]at e;cases e];exact s2 b u e
    ·rw[ae,<-jc];rfl
    ·rcases List.mem_append.mp m with z | z
     ·exact hin x z
     ·rw[List.mem_singleton.mp z];exact hy
   refine⟨by decide,?_⟩
   show if (false^^decide (c % 3=0))=true then _ else _
   refine dW (fun h=>?_) (fun h=>?_)
   ·refine⟨.inl ⟨rfl,_,SqL.of h2⟩,⟨by decide,by decide⟩,_,.inl (s2.seq hO),?_⟩
    rw[aW]
    obtain⟨m1,m2,m3⟩:=o7 no (c / 3)
    refine⟨m2,.inl ⟨_,_,s2.seq hO,m1,?_⟩⟩
    obtain⟨f1,f2,f3,f4⟩:=fin _ (.inr m3)
    exact⟨_,h2,by rw[aW];omega,row++[_],_,_,f1,f2,f3,f4,rfl⟩
   ·refine⟨.inl ⟨rfl,_,SqL.of h2⟩,⟨by decide,by decide⟩,_,.inl (s2.seq hK),?_⟩
    rw[aW]
    obtain⟨m1,m2,m3⟩:=o7 nk (c / 3)
    refine⟨m2,.inl ⟨_,_,s2.seq hK,m1,?_⟩⟩
    obtain⟨f1,f2,f3,f4⟩:=fin _ (.inl m3)
    exact⟨_,h2,by rw[aW];omega,row++[_],_,_,f1,f2,f3,f4,rfl⟩
  ·rintro σ H' ⟨row,v5,v6,s2,h2,lr,hin,rfl⟩
   exact q H' ra row s2 nra h2 (by rw[lr];rfl) hin
def uh:Sp:=fun vs H Q _=>∃c:Int,vs=[.int c]/\∀n,Sml n->Q (.int n) H
abbrev st__law_number:Stmt:=fW 29
theorem dD:ar ["_law_cell"] ["_law_cell"] (ah st__law_number):=⟨rfl,rfl,rfl,by decide +kernel,rfl,by decide +kernel,by decide +kernel⟩
theorem sS (R:Raw K mg "_law_number" st__law_number ["_law_cell"]):Def P w K mg base 1 "_law_number" ["_law_cell"] uh:=by
 refine R.defJ dD (fun vs H Q E h=>?_) (fun f cdv A outer s H vs Q E hr h=>?_)
 ·obtain⟨c,rfl,_⟩:=h
  rfl
 ·obtain⟨c,rfl,q⟩:=h
  have sc:=dD
  have hu:=hr.units
  have e60:(10:Int) ^ (60:Int).toNat=10 ^ 60:=rfl
  refine⟨_,(ac (aY (aH (eH hu (K:=K)) (aJ bS (jn 0) aj) aj)
  (ak (aw (aJ gJ (gk aj) (aJ bS (aJ gw (jn 0) aj) (aJ gJ (aJ ue aj aj) aj)))))
  aF)
  (ac (aY (aH (eH hu (K:=K)) (aJ bS (jn 0) aj) aj)
  (ak (aw (aJ bS (aJ gw (jn 0) aj) (aJ ue aj aj))))
  aF)
  (ak (aw (aJ bS (aJ gw (jn 0) aj) aj))))),?_⟩
  refine⟨by decide,?_⟩
  show if (false^^decide (c % 8=0))=true then _ else _
  refine dW (fun h=>?_) (fun h=>?_)
  ·refine⟨⟨by decide,by decide⟩,⟨by decide,by decide,by decide⟩,(by decide +kernel),?_⟩
   have h1:=Int.emod_nonneg (c / 8) (show (10 ^ 60-1:Int)≠0 by decide +kernel)
   have h2:=Int.emod_lt_of_pos (c / 8) (show (0:Int)<10 ^ 60-1 by decide +kernel)
   refine q (-1-c / 8 % (10 ^ 60-1)) ⟨?_,?_⟩<;>omega
  refine⟨by decide,?_⟩
  show if (false^^decide (c % 8=1))=true then _ else _
  refine dW (fun h=>?_) (fun h=>?_)
  ·refine⟨⟨by decide,by decide⟩,⟨by decide,by decide,by decide⟩,(by decide +kernel),?_⟩
   have h1:=Int.emod_nonneg (c / 8) (show (10 ^ 60:Int)≠0 by decide +kernel)
   have h2:=Int.emod_lt_of_pos (c / 8) (show (0:Int)<10 ^ 60 by decide +kernel)
   refine q (c / 8 % 10 ^ 60) ⟨?_,?_⟩<;>omega
  refine⟨⟨by decide,by decide⟩,by decide,?_⟩
  exact q (c / 8 % 3) ⟨by omega,by omega⟩
def pF:Sp:=fun vs H Q _=>∃c g co:Int,vs=[.int c,.int g,.int co]/\∀m:Nat,m≤6->Q (.int (m:Nat)) H
abbrev st__law_many:Stmt:=fW 30
theorem eQ:ar ["_law_cell","_law_gone","_law_come","_law_many_here"] ["_law_cell","_law_gone","_law_come"] (ah st__law_many):=⟨rfl,rfl,rfl,by decide +kernel,rfl,by decide +kernel,by decide +kernel⟩
theorem ot (R:Raw K mg "_law_many" st__law_many ["_law_cell","_law_gone","_law_come"]):Def P w K mg base 1 "_law_many" ["_law_cell","_law_gone","_law_come"] pF:=by
 refine R.defJ eQ (fun vs H Q E h=>?_) (fun f cdv A outer s H vs Q E hr h=>?_)
 ·obtain⟨c,g,co,rfl,_⟩:=h
  rfl
 ·obtain⟨c,g,co,rfl,q⟩:=h
  have sc:=eQ
  have hu:=hr.units
  have last:Q (.int (c / 4 % 7)) H:=by
   have:=q (c / 4 % 7).toNat (by omega)
   rw[show (((c / 4 % 7).toNat:Nat):Int)=c / 4 % 7 by omega]at this
   exact this
  refine⟨_,(ac (ao (i:=3) sc.nd rfl (Or.inl rfl) (aJ (bx (K:=K)) (aJ gJ aj (jn 1)) (jn 2)))
  (ac (aY (eZ (gy (aH xr (aJ bS (jn 0) aj) aj) (fS (jG sH sH aj (jn 3) aj))))
  (ak (aw (jn 3)))
  aF)
  (ak (aw (aJ bS (aJ gw (jn 0) aj) aj))))),?_⟩
  refine⟨by decide,?_⟩
  show if decide (0<c % 4)=true then _ else _
  refine dW (fun h=>?_) (fun h=>⟨⟨by decide,by decide⟩,by decide,last⟩)
  show if decide (0≤1-g+co)=true then _ else _
  refine dW (fun h=>?_) (fun h=>⟨⟨by decide,by decide⟩,by decide,last⟩)
  have h1:=of_decide_eq_true h
  show if decide (1-g+co≤6)=true then _ else _
  refine dW (fun h=>?_) (fun h=>⟨⟨by decide,by decide⟩,by decide,last⟩)
  have h2:=of_decide_eq_true h
  have:=q (1-g+co).toNat (by omega)
  rw[show (((1-g+co).toNat:Nat):Int)=1-g+co by omega]at this
  exact this
theorem eN (x:Str)(l:List Str):xV (V.str x) (aI l)=decide (x∈l):=by
 unfold xV aI
 rw[List.any_map,Bool.eq_iff_iff,List.any_eq_true,decide_eq_true_iff]
 constructor
 ·rintro⟨k,hk,e⟩
  have:k=x:=by simpa[qJ] using e
  rw[<-this];exact hk
 ·intro h
  exact⟨x,h,by simp[qJ]⟩
theorem dG (l:List Str):(aI l).all dq=true:=by
 rw[List.all_eq_true]
 intro v hv
 obtain⟨x,_,rfl⟩:=List.mem_map.mp hv
 rfl
theorem fL {row:List Str}(h:∀x∈row,PyData.strOk x=true):(PyData.list (row.map PyData.str)).canLay0=true:=by
 simp only[PyData.canLay0]
 induction row with
 | nil=>rfl
 | cons x r ih =>
  show ((PyData.str x).canLay0&&PyData.canLayAll0 (r.map PyData.str))=true
  rw[ih fun y m=>h y (List.mem_cons_of_mem _ m)]
  simp only[PyData.canLay0,h x List.mem_cons_self]
  rfl
theorem fK (l:List PyData):PyData.eqv (.list l) (.list [])=l.isEmpty:=by cases l<;>simp[PyData.eqv,PyData.eqvAll]
end
end K46
--@RAISES but law
namespace K46
open PySem PySem.Spec PyProof.Rows L2 Rg
theorem fF:bootBuiltins "ValueError"=some (.type "ValueError"):=by decide +kernel
structure oB (K:PySem.W.Frag)(mg:Str->Option Value)(CS CN CB:Addr)(cs:List Addr):Prop where
 n_isinstance:mg "isinstance"=none
 n_ValueError:mg "ValueError"=none
 c_GrowthError:mg "GrowthError"=some (.ref CB)
 c_NoFit:mg "NoFit"=some (.ref CN)
 c_Stuck:mg "Stuck"=some (.ref CS)
 c_NoForm:mg "NoForm"=some (.ref (cs.getD 0 0))
 c_NoRule:mg "NoRule"=some (.ref (cs.getD 1 0))
 c_NoRow:mg "NoRow"=some (.ref (cs.getD 2 0))
 c_NoFloor:mg "NoFloor"=some (.ref (cs.getD 3 0))
 c_Barren:mg "Barren"=some (.ref (cs.getD 4 0))
 c_Idle:mg "Idle"=some (.ref (cs.getD 5 0))
 c_TooLarge:mg "TooLarge"=some (.ref (cs.getD 6 0))
 c_Clash:mg "Clash"=some (.ref (cs.getD 7 0))
 c_TooLong:mg "TooLong"=some (.ref (cs.getD 8 0))
 ZS:oX K CS
 ZN:oX K CN
 upS:PySem.W.kitOne K (.ref CS) (.ref CB)=some true
 upN:PySem.W.kitOne K (.ref CN) (.ref CB)=some true
 veS:PySem.W.kitOne K (.ref CS) (.type "ValueError")=some true
 veN:PySem.W.kitOne K (.ref CN) (.type "ValueError")=some true
 ss:PySem.W.kitOne K (.ref CS) (.ref CS)=some true
 sn:PySem.W.kitOne K (.ref CS) (.ref CN)=some false
 ns:PySem.W.kitOne K (.ref CN) (.ref CS)=some false
 nn:PySem.W.kitOne K (.ref CN) (.ref CN)=some true
 noS:∀i,i<9->PySem.W.kitOne K (.ref CS) (.ref (cs.getD i 0))=some false
 noN:∀i,i<9->PySem.W.kitOne K (.ref CN) (.ref (cs.getD i 0))=some false
section
variable {P:Program}{w:World}{K:PySem.W.Frag}{mg:Str->Option Value}{base:Heap}{CS CN CB fi:Addr}{cs:List Addr}
def fU (CS CN:Addr):Sp:=fun vs H Q _=>∃(x:Addr) (oe:Obj),vs=[.ref x]/\Kn H x oe/\(oe.cls=.ref CS\/oe.cls=.ref CN)/\Q (.bl true) H
abbrev st__law_alone:Stmt:=fW 33
theorem d7:ar ["_law_fault"] ["_law_fault"] (ah st__law_alone):=⟨rfl,rfl,rfl,by decide +kernel,rfl,by decide +kernel,by decide +kernel⟩
theorem nF (R:Raw K mg "_law_alone" st__law_alone ["_law_fault"])(T:oB K mg CS CN CB cs):Def P w K mg base 1 "_law_alone" ["_law_fault"] (fU CS CN):=by
 refine R.defJ d7 (fun vs H Q E h=>?_) (fun f cdv A outer s H vs Q E hr h=>?_)
 ·obtain⟨x,oe,rfl,_⟩:=h
  rfl
 ·obtain⟨x,oe,rfl,kn,hoe,q⟩:=h
  have sc:=d7
  have hu:=hr.units
  refine⟨_,(ac (aY (eZ (cL (cX (bp (au (bD (K:=K)) rfl T.n_isinstance boot_isinstance (aa (jn 0) (aa (bz (v:=.ref _) rfl T.c_GrowthError rfl) af))))) (cW (cX (bp (au (bD (K:=K)) rfl T.n_isinstance boot_isinstance (aa (jn 0) (aa (fY (v:=.ty "ValueError") rfl T.n_ValueError fF rfl) af))))))))
  (ak (aw iR))
  aF)
  (ac (aY (aH (eH hu (K:=K)) (au (bD (K:=K)) rfl T.n_isinstance boot_isinstance (aa (jn 0) (aa (bz (v:=.ref _) rfl T.c_NoFit rfl) af))) (au (bD (K:=K)) rfl T.n_isinstance boot_isinstance (aa (jn 0) (aa (bz (v:=.ref _) rfl T.c_Stuck rfl) af))))
  (ak (aw iR))
  aF)
  (ac (aY (eZ (cL (bp (au (bD (K:=K)) rfl T.n_isinstance boot_isinstance (aa (jn 0) (aa (bz (v:=.ref _) rfl T.c_NoForm rfl) af)))) (cL (bp (au (bD (K:=K)) rfl T.n_isinstance boot_isinstance (aa (jn 0) (aa (bz (v:=.ref _) rfl T.c_NoRule rfl) af)))) (cW (bp (au (bD (K:=K)) rfl T.n_isinstance boot_isinstance (aa (jn 0) (aa (bz (v:=.ref _) rfl T.c_NoRow rfl) af))))))))
  (ak (aw iR))
  aF)
  (ac (aY (eZ (cL (bp (au (bD (K:=K)) rfl T.n_isinstance boot_isinstance (aa (jn 0) (aa (bz (v:=.ref _) rfl T.c_NoFloor rfl) af)))) (cL (bp (au (bD (K:=K)) rfl T.n_isinstance boot_isinstance (aa (jn 0) (aa (bz (v:=.ref _) rfl T.c_Barren rfl) af)))) (cW (bp (au (bD (K:=K)) rfl T.n_isinstance boot_isinstance (aa (jn 0) (aa (bz (v:=.ref _) rfl T.c_Idle rfl) af))))))))
  (ak (aw iR))
  aF)
  (ak (aw (dj (ly (au (bD (K:=K)) rfl T.n_isinstance boot_isinstance (aa (jn 0) (aa (bz (v:=.ref _) rfl T.c_TooLarge rfl) af)))) (dj (ly (au (bD (K:=K)) rfl T.n_isinstance boot_isinstance (aa (jn 0) (aa (bz (v:=.ref _) rfl T.c_Clash rfl) af)))) (ig (ly (au (bD (K:=K)) rfl T.n_isinstance boot_isinstance (aa (jn 0) (aa (bz (v:=.ref _) rfl T.c_TooLong rfl) af))))))))))))),?_⟩
  rcases hoe with hoe | hoe
  ·refine⟨oe,CS,true,kn,hoe,T.ZS,T.upS,oe,CS,true,kn,hoe,T.ZS,T.veS,?_⟩
   refine⟨oe,CS,false,kn,hoe,T.ZS,T.sn,oe,CS,true,kn,hoe,T.ZS,T.ss,?_⟩
   refine⟨oe,CS,false,kn,hoe,T.ZS,T.noS 0 (by decide),oe,CS,false,kn,hoe,T.ZS,T.noS 1 (by decide),oe,CS,false,kn,hoe,T.ZS,T.noS 2 (by decide),?_⟩
   refine⟨oe,CS,false,kn,hoe,T.ZS,T.noS 3 (by decide),oe,CS,false,kn,hoe,T.ZS,T.noS 4 (by decide),oe,CS,false,kn,hoe,T.ZS,T.noS 5 (by decide),?_⟩
   exact⟨oe,CS,false,kn,hoe,T.ZS,T.noS 6 (by decide),oe,CS,false,kn,hoe,T.ZS,T.noS 7 (by decide),oe,CS,false,kn,hoe,T.ZS,T.noS 8 (by decide),q⟩
  ·refine⟨oe,CN,true,kn,hoe,T.ZN,T.upN,oe,CN,true,kn,hoe,T.ZN,T.veN,?_⟩
   refine⟨oe,CN,true,kn,hoe,T.ZN,T.nn,oe,CN,false,kn,hoe,T.ZN,T.ns,?_⟩
   refine⟨oe,CN,false,kn,hoe,T.ZN,T.noN 0 (by decide),oe,CN,false,kn,hoe,T.ZN,T.noN 1 (by decide),oe,CN,false,kn,hoe,T.ZN,T.noN 2 (by decide),?_⟩
   refine⟨oe,CN,false,kn,hoe,T.ZN,T.noN 3 (by decide),oe,CN,false,kn,hoe,T.ZN,T.noN 4 (by decide),oe,CN,false,kn,hoe,T.ZN,T.noN 5 (by decide),?_⟩
   exact⟨oe,CN,false,kn,hoe,T.ZN,T.noN 6 (by decide),oe,CN,false,kn,hoe,T.ZN,T.noN 7 (by decide),oe,CN,false,kn,hoe,T.ZN,T.noN 8 (by decide),q⟩
theorem iC {H:Hp}:∀{ws:List V} {tr:List (Int×Nat×Nat)},Wys H ws tr->DatVs K H ws (tr.map fun q=>PyData.tuple [.int q.1,.int (q.2.1:Nat),.int (q.2.2:Nat)])
 | [],[],_=>.nil
 | _::_,(a,b,c)::_,h=>by
  obtain⟨⟨t,rfl,ht⟩,r⟩:=h
  exact .cons (.tuple (SqT.of ht) (.cons (.int _) (.cons (.int _) (.cons (.int _) .nil)))) (iC r)
theorem qF {H:Hp}:∀{i:Nat} {ws:List V} {tr:List (Int×Nat×Nat)} {x:V},Wys H ws tr->ws[i]?=some x->∃t a b c,x=.ref t/\H t=some (.tup [.int a,.int (b:Nat),.int (c:Nat)])
 | 0,v::_,(a,b,c)::_,x,h,e=>by
  obtain⟨⟨t,rfl,ht⟩,r⟩:=h
  cases e
  exact⟨t,a,b,c,rfl,ht⟩
 | i+1,_::ws,_::tr,x,h,e=>qF (i:=i) (ws:=ws) (tr:=tr) h.2 (by simpa using e)
 | _,[],[],_,_,e=>by simp at e
def fO (K:PySem.W.Frag):Sp:=fun vs H Q _=>∃(wy du:Addr) (ws us:List V) (tr:List (Int×Nat×Nat)),vs=[.ref wy,.ref du]/\H wy=some (.lst ws)/\H du=some (.lst us)/\Wys H ws tr/\Wys H us tr/\tr.length≤100/\Q (.bl true) H
abbrev st__law_is_way:Stmt:=fW 35
theorem dv:ar ["_law_found","_law_due","_law_one"] ["_law_found","_law_due"] (ah st__law_is_way):=⟨rfl,rfl,rfl,by decide +kernel,rfl,by decide +kernel,by decide +kernel⟩
theorem mP (R:Raw K mg "_law_is_way" st__law_is_way ["_law_found","_law_due"])(T:Txt K w mg)(D__law_whole:Def P w K mg base 1 "_law_whole" ["_law_found"] eK):Def P w K mg base 2 "_law_is_way" ["_law_found","_law_due"] (fO K):=by
 refine R.defJ dv (fun vs H Q E h=>?_) (fun f cdv A outer s H vs Q E hr h=>?_)
 ·obtain⟨wy,du,ws,us,tr,rfl,_⟩:=h
  rfl
 ·obtain⟨wy,du,ws,us,tr,rfl,hw,hd,w1,w2,lt,q⟩:=h
  have sc:=dv
  have hu:=hr.units
  have hl:ws.length=us.length:=w1.length.trans w2.length.symm
  refine⟨_,(ac (aY (eZ (cL (cX (bp (au (iV (K:=K)) rfl T.n_isinstance boot_isinstance (aa (jn 0) (aa (fY (v:=.ty "list") rfl T.n_list boot_list rfl) af))))) (cW (aH (km hu (K:=K)) (au (cN (K:=K)) rfl T.n_len PySem.boot_len (aa (jn 0) af)) (au (cN (K:=K)) rfl T.n_len PySem.boot_len (aa (jn 1) af))))))
  (ak (aw iR))
  aF)
  (ac (dM PassesOwn.never rfl (i4 (K:=K) (jn 0)) (aP (i:=2) sc.nd rfl (Or.inl rfl))
  (ac (aY (eZ (cL (cX (bp (au (iV (K:=K)) rfl T.n_isinstance boot_isinstance (aa (jn 2) (aa (fY (v:=.ty "tuple") rfl T.n_tuple boot_tuple rfl) af))))) (cW (aH (km hu (K:=K)) (au (cN (K:=K)) rfl T.n_len PySem.boot_len (aa (jn 2) af)) aj))))
  (ak (aw iR))
  aF)
  (ak (aY (eZ (cL (cX (bp (bq D__law_whole (hr.mono (by decide)) rfl (aa (aK (dX hu (K:=K) (w:=w)) (jn 2) aj) af)))) (cL (cX (bp (bq D__law_whole (hr.mono (by decide)) rfl (aa (aK (dX hu (K:=K) (w:=w)) (jn 2) aj) af)))) (cW (cX (bp (bq D__law_whole (hr.mono (by decide)) rfl (aa (aK (dX hu (K:=K) (w:=w)) (jn 2) aj) af))))))))
  (ak (aw iR))
  aF))))
  (ak (aw (dm (eH hu (K:=K)) (jn 0) (jn 1)))))),?_⟩
  refine⟨"list",true,.list (SqL.of hw),rfl,?_⟩
  refine⟨_,.inl (SqL.of hw),_,.inl (SqL.of hd),?_⟩
  refine (if_neg (by rw[hl];simp):(if (true^^decide ((ws.length:Int)=(us.length:Int)))=true then _ else _)=_).mpr ?_
  refine .inl ⟨⟨_,SqL.of hw⟩,jJ (K:=K) (a:=wy) (xs:=ws) (fun i σ H'=>H'=H/\∃v:Option V,σ=[some (.ref wy),some (.ref du),v]) ⟨rfl,none,rfl⟩ (fun i σ H' _ h=>by rw[h.1];exact SqL.of hw) ?_ ?_⟩
  ·rintro i x σ H' hx ⟨rfl,v,rfl⟩
   obtain⟨t,a,b,c,rfl,ht⟩:=qF w1 hx
   refine⟨"tuple",true,.tuple (SqT.of ht),rfl,?_⟩
   refine⟨_,.inr (SqT.of ht),?_⟩
   refine .inr ⟨_,_,SqT.of ht,rfl,?_⟩
   refine⟨_,rfl,?_⟩
   refine .inr ⟨_,_,SqT.of ht,rfl,?_⟩
   refine⟨_,rfl,?_⟩
   refine .inr ⟨_,_,SqT.of ht,rfl,?_⟩
   refine⟨_,rfl,?_⟩
   exact⟨rfl,_,rfl⟩
  ·rintro σ H' ⟨rfl,v,rfl⟩
   have lay:∀l:List (Int×Nat×Nat),PyData.canLayAll0 (l.map fun q=>PyData.tuple [.int q.1,.int (q.2.1:Nat),.int (q.2.2:Nat)])=true:=fun l=>by
    induction l with
    | nil=>rfl
    | cons x r ih=>show (_&&_)=true;rw[ih];rfl
   have dep:∀l:List (Int×Nat×Nat),PyData.depthAll (l.map fun q=>PyData.tuple [.int q.1,.int (q.2.1:Nat),.int (q.2.2:Nat)])≤3:=fun l=>by
    induction l with
    | nil=>simp[PyData.depthAll]
    | cons x r ih =>
     show max (PyData.tuple [.int x.1,.int (x.2.1:Nat),.int (x.2.2:Nat)]).depth _≤3
     have:(PyData.tuple [.int x.1,.int (x.2.1:Nat),.int (x.2.2:Nat)]).depth≤3:=by simp[PyData.depth,PyData.depthAll]
     omega
   refine⟨_,_,.list (SqL.of hw) (iC w1),.list (SqL.of hd) (iC w2),?_,?_,?_,?_⟩
   ·exact lay tr
   ·exact lay tr
   ·have:=dep tr
    simp only[PyData.depth]
    omega
   ·rw[SeqAt.eqv_refl _ (by exact lay tr)]
    exact q
end
end K46
--@RAISES but law
namespace K46
open PySem PySem.Spec PyProof.Rows L2 Rg
section
variable {P:Program}{w:World}{K:PySem.W.Frag}{mg:Str->Option Value}{base:Heap}
def jp (H H':Hp)(b:Addr):Prop:=∀gs d,H' b=some (.lst gs)->V.ref d∈gs->H d=none
def i5 (P:Program)(w:World)(K:PySem.W.Frag):Sp:=fun vs H Q _=>∃(so:Str) (rk:Int) (ka:Addr) (kinds:List Str),vs=[.str so,.int rk,.ref ka]/\H ka=some (.lst (aI kinds))/\kinds.length≤30/\kinds.Nodup /\
 ∀H' t pl be de,Same H H'->Tab1 P w K H' t pl be de so rk kinds->H t=none->H pl=none->H be=none->H de=none->jp H H' be->jp H H' de->Q (.ref t) H'
abbrev st__law_tables:Stmt:=fW 28
theorem dI:ar ["_law_sort","_law_rank","_law_kinds","_law_plain","_law_goes","_law_acts","_law_k"] ["_law_sort","_law_rank","_law_kinds"] (ah st__law_tables):=⟨rfl,rfl,rfl,by decide +kernel,rfl,by decide +kernel,by decide +kernel⟩
theorem qD (R:Raw K mg "_law_tables" st__law_tables ["_law_sort","_law_rank","_law_kinds"])(T:Txt K w mg):Def P w K mg base 1 "_law_tables" ["_law_sort","_law_rank","_law_kinds"] (i5 P w K):=by
 refine R.defJ dI (fun vs H Q E h=>?_) (fun f cdv A outer s H vs Q E hr h=>?_)
 ·obtain⟨so,rk,ka,kinds,rfl,_⟩:=h
  rfl
 ·obtain⟨so,rk,ka,kinds,rfl,hka,hlen,hnd,q⟩:=h
  have sc:=dI
  have hu:=hr.units
  have hb:(1000000:Nat)<sizeLine:=by rw[sizeLine_eq];decide
  refine⟨_,(ac (ao (i:=3) sc.nd rfl (Or.inl rfl) (cr (aa (bi (aa (bi (aa dz (aa aj af))) (aa (bi (aa (bi (aa (jn 0) (aa (jn 1) af))) af)) (aa (gk aj) af)))) af)))
  (ac (ao (i:=4) sc.nd rfl (Or.inl rfl) (cr (aa (gE (K:=K) (P:=P) (w:=w) hu (bi (aa (jn 0) (aa (jn 1) af))) aj) (aa (eB (P:=P) (w:=w)) af))))
  (ac (ao (i:=5) sc.nd rfl (Or.inl rfl) (cr (aa (eB (P:=P) (w:=w)) (aa (gE (K:=K) (P:=P) (w:=w) hu dz (bi (aa dz (aa aj af)))) af))))
  (ac (dM PassesOwn.never rfl (dR rfl T.n_range (aa (au (cN (K:=K)) rfl T.n_len PySem.boot_len (aa (jn 2) af)) af)) (aP (i:=6) sc.nd rfl (Or.inl rfl))
  (ac (aD (e8 (K:=K) PySem.F.plainAttrs_list PySem.F.slot_list_append PySem.F.type_list_append bt (jn 3) (aa (bi (aa (bi (aa (jn 0) (aa (jn 1) af))) (aa (bi (aa (aK (aA hu (K:=K) (P:=P) (w:=w)) (jn 2) (jn 6)) af)) (aa (jn 6) af)))) af)))
  (ac (eA (K:=K) (P:=P) (w:=w) hu (aK (aA hu (K:=K) (P:=P) (w:=w)) (jn 4) aj) (aK (aA hu (K:=K) (P:=P) (w:=w)) (jn 2) (jn 6)) (aJ (bx (K:=K)) (jn 6) aj))
  (ac (aD (e8 (K:=K) PySem.F.plainAttrs_list PySem.F.slot_list_append PySem.F.type_list_append bt (jn 4) (aa (eB (P:=P) (w:=w)) af)))
  (ac (eA (K:=K) (P:=P) (w:=w) hu (aK (aA hu (K:=K) (P:=P) (w:=w)) (jn 5) aj) (aK (aA hu (K:=K) (P:=P) (w:=w)) (jn 2) (jn 6)) (bi (aa dz (aa (aJ (bx (K:=K)) (jn 6) aj) af))))
  (ak (aD (e8 (K:=K) PySem.F.plainAttrs_list PySem.F.slot_list_append PySem.F.type_list_append bt (jn 5) (aa (gE (K:=K) (P:=P) (w:=w) hu dz (bi (aa dz (aa (aJ (bx (K:=K)) (jn 6) aj) af)))) af)))))))))
  (ak (aw (bi (aa (jn 3) (aa (jn 4) (aa (jn 5) af)))))))))),?_⟩
  have up0:∀{G H1:Hp} {b:Addr},Same G H1->H1 b=none->G b=none:=fun {G H1 b} s n=>by
   cases e:G b with
   | none=>rfl
   | some u=>rw[s _ _ e]at n;cases n
  refine⟨(show 2≤sizeLine by decide),fun t1 n1=>⟨(show 2≤sizeLine by decide),fun t2 n2=>⟨(show 1≤sizeLine by decide),fun t3 n3=>⟨(show 3≤sizeLine by decide),fun t4 n4=>⟨(show 1≤sizeLine by decide),fun pl n5=>?_⟩⟩⟩⟩⟩
  have A1:=ai (o:=.tup [.str "",.int 0]) n1
  have A2:=ai (o:=.tup [.str so,.int rk]) n2
  have A3:=ai (o:=.tup [.ref t2]) n3
  have A4:=ai (o:=.tup [.ref t1,.ref t3,.int (-1)]) n4
  have A5:=ai (o:=.lst [.ref t4]) n5
  have sA:=A1.trans (A2.trans (A3.trans (A4.trans A5)))
  have npl:H pl=none:=up0 (A1.trans (A2.trans (A3.trans A4))) n5
  have dA:TDats K (upd (upd (upd (upd (upd H t1 (.tup [.str "",.int 0])) t2 (.tup [.str so,.int rk])) t3 (.tup [.ref t2])) t4 (.tup [.ref t1,.ref t3,.int (-1)])) pl (.lst [.ref t4])) [.ref t4] (i9 so rk []) :=
   .cons (.tuple (A5.seqT (SqT.of ae)) (.cons (.tuple ((A2.trans (A3.trans (A4.trans A5))).seqT (SqT.of ae)) (.cons (.str _) (.cons (.int _) .nil))) (.cons (.tuple ((A4.trans A5).seqT (SqT.of ae)) (.cons (.tuple ((A3.trans (A4.trans A5)).seqT (SqT.of ae)) (.cons (.str _) (.cons (.int _) .nil))) .nil)) (.cons (.int _) .nil)))) .nil
  have pA:upd (upd (upd (upd (upd H t1 (.tup [.str "",.int 0])) t2 (.tup [.str so,.int rk])) t3 (.tup [.ref t2])) t4 (.tup [.ref t1,.ref t3,.int (-1)])) pl (.lst [.ref t4]) pl=some (.lst [.ref t4]):=ae
  clear A1 A2 A3 A4 A5
  generalize upd (upd (upd (upd (upd H t1 (.tup [.str "",.int 0])) t2 (.tup [.str so,.int rk])) t3 (.tup [.ref t2])) t4 (.tup [.ref t1,.ref t3,.int (-1)])) pl (.lst [.ref t4])=HA at sA dA pA ⊢
  clear n1 n2 n3 n4 n5
  intro g0 ng0 sg0
  have B1:=ai (o:=aN P w g0 [] 0) ng0
  have gn:=GAt.new (P:=P) (w:=w) (K:=K) (H:=HA) (ep:=0) sg0
  refine⟨(show 2≤sizeLine by decide),fun t5 n6=>?_⟩
  have B2:=ai (o:=.tup [.str so,.int rk]) n6
  have gn2:=gn.same B2
  refine⟨bA so rk,gn2,⟨t5,rfl,SqT.of ae⟩,fun ep0=>?_⟩
  have D0:=(DG.one (ep':=ep0) (y:=V.ref t5) (k:=bA so rk) gn2 ⟨t5,rfl,SqT.of ae⟩ (TDat.int ((1:Nat):Int))).congr (g:=bR (bf [] (bA so rk))) fun k=>(qr k).symm
  have sB:Same HA (upd (upd (upd HA g0 (aN P w g0 [] 0)) t5 (.tup [.str so,.int rk])) g0 (aN P w g0 [(bA so rk,V.ref t5,.int 1)] ep0)):=jj (B1.trans B2) ng0
  clear B1 B2 gn gn2
  generalize upd (upd (upd HA g0 (aN P w g0 [] 0)) t5 (.tup [.str so,.int rk])) g0 (aN P w g0 [(bA so rk,V.ref t5,.int 1)] ep0)=HB at sB D0 ⊢
  clear n6
  intro g1 ng1 sg1
  have B3:=ai (o:=aN P w g1 [] 0) ng1
  have D1:DG P w K (upd HB g1 (aN P w g1 [] 0)) g1 (bR fun _=>none) 0:=DG.new sg1 (fun _=>rfl)
  have g01:g1≠g0:=fun z=>by obtain⟨φ,q⟩:=D0.ext;rw[<-z,ng1]at q;cases q
  refine⟨(show 2≤sizeLine by decide),fun be nbe=>?_⟩
  have B4:=ai (o:=.lst [.ref g0,.ref g1]) nbe
  have D0':=(D0.same B3).same B4
  have D1':=D1.same B4
  have sC:=sB.trans (B3.trans B4)
  have hbe:upd (upd HB g1 (aN P w g1 [] 0)) be (.lst [.ref g0,.ref g1]) be=some (.lst [.ref g0,.ref g1]):=ae
  have nbA:HA be=none:=up0 (sB.trans B3) nbe
  have ngA:HA g1=none:=up0 sB ng1
  clear B3 B4 D0 D1
  generalize upd (upd HB g1 (aN P w g1 [] 0)) be (.lst [.ref g0,.ref g1])=HC at sC D0' D1' hbe ⊢
  intro a0 na0 sa0
  have C1:=ai (o:=aN P w a0 [] 0) na0
  have E0:DG P w K (upd HC a0 (aN P w a0 [] 0)) a0 (cw (aO [])) 0:=DG.new sa0 (fun k=>by match k with | .inl (.inr _)=>rfl | .inl (.inl _)=>rfl | .inr _=>rfl)
  generalize upd HC a0 (aN P w a0 [] 0)=HD at C1 E0 ⊢
  intro a1 na1 sa1
  have C2:=ai (o:=aN P w a1 [] 0) na1
  have hn:=GAt.new (P:=P) (w:=w) (K:=K) (H:=HD) (ep:=0) sa1
  refine⟨(show 2≤sizeLine by decide),fun t6 n7=>?_⟩
  have C3:=ai (o:=.tup [.str "accept",.int 0]) n7
  refine⟨.inl (.inr "end"),hn.same C3,rfl,fun ep1=>?_⟩
  have E1:=(DG.one (ep':=ep1) (y:=V.str "end") (k:=.inl (.inr "end")) (hn.same C3) rfl (TDat.tuple (SqT.of ae) (.cons (.str _) (.cons (.int _) .nil)))).congr (g:=cw (br "accept" 0)) fun k=>(lF "accept" 0 k).symm
  have sE:Same HD (upd (upd (upd HD a1 (aN P w a1 [] 0)) t6 (.tup [.str "accept",.int 0])) a1 (aN P w a1 [(.inl (.inr "end"),V.str "end",.ref t6)] ep1)):=jj (C2.trans C3) na1
  clear C2 C3 hn
  generalize upd (upd (upd HD a1 (aN P w a1 [] 0)) t6 (.tup [.str "accept",.int 0])) a1 (aN P w a1 [(.inl (.inr "end"),V.str "end",.ref t6)] ep1)=HE at sE E1 ⊢
  refine⟨(show 2≤sizeLine by decide),fun de nde=>?_⟩
  have C4:=ai (o:=.lst [.ref a0,.ref a1]) nde
  have a01:a1≠a0:=fun z=>by obtain⟨φ,q⟩:=E0.ext;rw[<-z,na1]at q;cases q
  have ga0:∀{d:Addr} {f:GK->Option PyData} {n:Nat},DG P w K HC d f n->d≠a0:=fun h z=>by obtain⟨φ,q⟩:=h.ext;rw[z,na0]at q;cases q
  have ga1:∀{d:Addr} {f:GK->Option PyData} {n:Nat},DG P w K HC d f n->d≠a1:=fun h z=>by obtain⟨φ,q⟩:=h.ext;rw[z,up0 C1 na1]at q;cases q
  have sF:=sC.trans (C1.trans (sE.trans C4))
  have I0:TbI P w K H (upd HE de (.lst [.ref a0,.ref a1])) pl be de g0 a0 so rk [] [] [] 1 0:=by
   have s2:=C1.trans (sE.trans C4)
   refine⟨sA.trans sF,⟨_,sF _ _ pA,dA.keeps sF.keepsT⟩,⟨[.ref g1],s2 _ _ hbe,.cons (D1'.same s2) .nil,fun d m=>?_⟩,D0'.same s2,⟨[.ref a1],ae,.cons (E1.same C4) .nil,fun d m=>?_⟩,(E0.same sE).same C4,npl,up0 sA nbA,up0 (sA.trans (sC.trans (C1.trans sE))) nde,up0 sA ng0,up0 (sA.trans sC) na0,fun z=>?_,fun z=>?_,fun z=>?_,ga0 D0'⟩
   ·have e:V.ref d=V.ref g1:=List.mem_singleton.mp m
    cases e
    exact⟨g01,ga0 D1',up0 sA ngA⟩
   ·have e:V.ref d=V.ref a1:=List.mem_singleton.mp m
    cases e
    exact⟨(ga1 D0').symm,a01,up0 (sA.trans (sC.trans C1)) na1⟩
   ·rw[z,nbA]at pA;cases pA
   ·have:=(sC.trans (C1.trans sE)) _ _ pA;rw[z,nde]at this;cases this
   ·have:=(C1.trans sE) _ _ hbe;rw[z,nde]at this;cases this
  generalize upd HE de (.lst [.ref a0,.ref a1])=HF at I0 ⊢
  clear sA dA pA sB D0' D1' sC hbe nbA ngA C1 E0 sE E1 C4 a01 sF ga0 ga1 npl ng0 ng1 nbe na0 na1 n7 nde g01
  refine⟨_,.inl (SqL.of (I0.sm _ _ hka)),?_⟩
  rw[aW]
  refine⟨by omega,by omega,?_⟩
  refine dP (n:=((kinds.length:Nat):Int).toNat) (fun i σ H'=>∃(v6:Option V),TbI P w K H H' pl be de g0 a0 so rk (kinds.take i) (kinds.take i) (kinds.take i) (i+1) i/\σ=[some (.str so),some (.int rk),some (.ref ka),some (.ref pl),some (.ref be),some (.ref de),v6]) ⟨none,by rw[List.take_zero];exact I0,rfl⟩ ?_ ?_
  ·rintro i σ H' hi ⟨v6,I,rfl⟩
   have hlt:i<kinds.length:=by omega
   obtain⟨x,hx⟩:∃x,kinds[i]?=some x:=⟨_,List.getElem?_eq_getElem hlt⟩
   have htk:kinds.take (i+1)=kinds.take i++[x]:=by
    rw[List.take_succ,hx]
    rfl
   have hli:(kinds.take i).length=i:=by rw[List.length_take];omega
   have hxn:x∉kinds.take i:=fun m=>by
    obtain⟨j,hj,e⟩:=List.mem_iff_getElem.mp m
    have hj':j<i:=by omega
    rw[List.getElem_take]at e
    have e2:=(List.getElem?_eq_some_iff.mp hx).2
    have:=(List.getElem_inj hnd (h₀:=by omega) (h₁:=hlt)).mp (e.trans e2.symm)
    omega
   have ei:(0:Int)+((i:Nat):Int)=(i:Int):=Int.zero_add _
   rw[ei]
   rw[htk]
   obtain⟨ps,p1,_⟩:=I.fp
   refine⟨.inl ⟨rfl,_,SqL.of p1⟩,?_⟩
   refine⟨(show 2≤sizeLine by decide),fun t1 n1=>?_⟩
   refine .inr (.inl ⟨_,_,SqL.of ((I.sm.trans (ai n1)) _ _ hka),aG (cC hx),?_⟩)
   refine⟨(show 1≤sizeLine by decide),fun t2 n2=>?_⟩
   refine⟨(show 3≤sizeLine by decide),fun t3 n3=>?_⟩
   have A1:=ai (o:=.tup [.str so,.int rk]) n1
   have A2:=ai (o:=.tup [.str x]) n2
   have A3:=ai (o:=.tup [.ref t1,.ref t2,.int (i:Nat)]) n3
   have I1:=I.grow (A1.trans (A2.trans A3))
   have hv:TDat K (upd (upd (upd H' t1 (.tup [.str so,.int rk])) t2 (.tup [.str x])) t3 (.tup [.ref t1,.ref t2,.int (i:Nat)])) (.ref t3) (.tuple [bO so rk,.tuple [.str x],.int (i:Nat)]) :=
    .tuple (SqT.of ae) (.cons (.tuple ((A2.trans A3).seqT (SqT.of ae)) (.cons (.str _) (.cons (.int _) .nil))) (.cons (.tuple (A3.seqT (SqT.of ae)) (.cons (.str _) .nil)) (.cons (.int _) .nil)))
   clear A1 A2 A3 I
   generalize upd (upd (upd H' t1 (.tup [.str so,.int rk])) t2 (.tup [.str x])) t3 (.tup [.ref t1,.ref t2,.int (i:Nat)])=H1 at I1 hv ⊢
   clear n1 n2 n3
   obtain⟨ps,p1,p2⟩:=I1.fp
   have hpl:ps.length≤100:=by rw[p2.length];simp[i9];omega
   refine⟨ps,p1,by omega,?_⟩
   have I2:=I1.onPl (x:=x) p1 p2 (by rw[hli];exact hv)
   clear I1 hv p2
   generalize upd H1 pl (.lst (ps++[.ref t3]))=H2 at I2 ⊢
   clear p1 hpl
   obtain⟨gs,g1,_⟩:=I2.fb
   refine .inr (.inl ⟨_,.ref g0,SqL.of g1,aG (j:=0) rfl,?_⟩)
   refine .inr (.inl ⟨_,_,SqL.of (I2.sm _ _ hka),aG (cC hx),?_⟩)
   obtain⟨kvs,ep,ga,nxt⟩:=I2.onG0 hxn (by omega)
   rw[hli]at nxt
   refine⟨kvs,ep,.inl (.inr x),ga,rfl,fun ep' _=>?_⟩
   have I3:TbI P w K H (upd H2 g0 (aN P w g0 (bh kvs (.inl (.inr x)) (.str x) (.int (((i:Nat):Int)+2))) ep')) pl be de g0 a0 so rk (kinds.take i++[x]) (kinds.take i++[x]) (kinds.take i) (i+1) i:=nxt ep'
   clear nxt ga
   generalize upd H2 g0 (aN P w g0 (bh kvs (.inl (.inr x)) (.str x) (.int (((i:Nat):Int)+2))) ep')=H3 at I3 ⊢
   obtain⟨gs3,g31,_⟩:=I3.fb
   refine⟨.inl ⟨rfl,_,SqL.of g31⟩,fun d nd sd=>?_⟩
   have B1:=ai (o:=aN P w d [] 0) nd
   have I4:=I3.grow B1
   have Dd:DG P w K (upd H3 d (aN P w d [] 0)) d (bR fun _=>none) 0:=DG.new sd (fun _=>rfl)
   have qd:d≠g0/\d≠a0/\H d=none:=by
    refine⟨fun z=>?_,fun z=>?_,up0 I3.sm nd⟩
    ·obtain⟨φ,e⟩:=I3.fg.ext;rw[<-z,nd]at e;cases e
    ·obtain⟨φ,e⟩:=I3.fa.ext;rw[<-z,nd]at e;cases e
   clear B1 g31
   generalize upd H3 d (aN P w d [] 0)=H4 at I4 Dd ⊢
   obtain⟨gs4,g41,g42,g43⟩:=I4.fb
   have hgl:gs4.length≤100:=by rw[g42.length];simp[ut];omega
   refine⟨_,g41,by simp;omega,?_⟩
   have I5:=I4.onBe g41 g42 g43 Dd qd
   clear Dd qd g42 g43
   generalize upd H4 be (.lst ((.ref g0::gs4)++[.ref d]))=H5 at I5 ⊢
   refine⟨(show 2≤sizeLine by decide),fun t4 n4=>?_⟩
   have B2:=ai (o:=.tup [.str "shift",.int (((i:Nat):Int)+2)]) n4
   have I6:=I5.grow B2
   have hv6:TDat K (upd H5 t4 (.tup [.str "shift",.int (((i:Nat):Int)+2)])) (.ref t4) (.tuple [.str "shift",.int ((i+2:Nat):Int)]):=.tuple (SqT.of ae) (.cons (.str _) (.cons (.int _) .nil))
   generalize upd H5 t4 (.tup [.str "shift",.int (((i:Nat):Int)+2)])=H6 at I6 hv6 ⊢
   obtain⟨as6,a61,_⟩:=I6.fd
   refine .inr (.inl ⟨_,.ref a0,SqL.of a61,aG (j:=0) rfl,?_⟩)
   refine .inr (.inl ⟨_,_,SqL.of (I6.sm _ _ hka),aG (cC hx),?_⟩)
   obtain⟨kvs6,ep6,ga6,nxt6⟩:=I6.onA0 hxn (by omega) (by rw[hli];exact hv6)
   refine⟨kvs6,ep6,.inl (.inr x),ga6,rfl,fun ep7 _=>?_⟩
   have I7:=nxt6 ep7
   clear nxt6 ga6 hv6
   generalize upd H6 a0 (aN P w a0 (bh kvs6 (.inl (.inr x)) (.str x) (.ref t4)) ep7)=H7 at I7 ⊢
   obtain⟨as7,a71,_⟩:=I7.fd
   refine⟨.inl ⟨rfl,_,SqL.of a71⟩,fun d8 nd8 sd8=>?_⟩
   have B3:=ai (o:=aN P w d8 [] 0) nd8
   have gn8:=GAt.new (P:=P) (w:=w) (K:=K) (H:=H7) (ep:=0) sd8
   refine⟨(show 2≤sizeLine by decide),fun t8 n8=>?_⟩
   have B4:=ai (o:=.tup [.str "reduce",.int (((i:Nat):Int)+1)]) n8
   refine⟨.inl (.inr "end"),gn8.same B4,rfl,fun ep8=>?_⟩
   have D8:=(DG.one (ep':=ep8) (y:=V.str "end") (k:=.inl (.inr "end")) (gn8.same B4) rfl (TDat.tuple (SqT.of ae) (.cons (.str _) (.cons (.int (((i:Nat):Int)+1)) .nil)))).congr (g:=cw (br "reduce" (i+1))) fun k=>(lF "reduce" (i+1) k).symm
   have s8:Same H7 (upd (upd (upd H7 d8 (aN P w d8 [] 0)) t8 (.tup [.str "reduce",.int (((i:Nat):Int)+1)])) d8 (aN P w d8 [(.inl (.inr "end"),V.str "end",.ref t8)] ep8)):=jj (B3.trans B4) nd8
   have I8:=I7.grow s8
   have q8:d8≠g0/\d8≠a0/\H d8=none:=by
    refine⟨fun z=>?_,fun z=>?_,up0 I7.sm nd8⟩
    ·obtain⟨φ,e⟩:=I7.fg.ext;rw[<-z,nd8]at e;cases e
    ·obtain⟨φ,e⟩:=I7.fa.ext;rw[<-z,nd8]at e;cases e
   clear B3 B4 gn8 s8
   generalize upd (upd (upd H7 d8 (aN P w d8 [] 0)) t8 (.tup [.str "reduce",.int (((i:Nat):Int)+1)])) d8 (aN P w d8 [(.inl (.inr "end"),V.str "end",.ref t8)] ep8)=H8 at I8 D8 ⊢
   obtain⟨as8,a81,a82,a83⟩:=I8.fd
   have hal:as8.length≤100:=by rw[a82.length];simp[wM];omega
   refine⟨_,a81,by simp;omega,?_⟩
   exact⟨_,I8.onDe a81 a82 a83 D8 q8,rfl⟩
  ·rintro σ H' ⟨v6,I,rfl⟩
   rw[show (((kinds.length:Nat):Int).toNat)=kinds.length from rfl,List.take_length]at I
   refine⟨(show 3≤sizeLine by decide),fun t nt=>?_⟩
   have s9:=ai (o:=.tup [.ref pl,.ref be,.ref de]) nt
   have I9:=I.grow s9
   obtain⟨ps,p1,p2⟩:=I9.fp
   obtain⟨gs,g1,g2,g3⟩:=I9.fb
   obtain⟨as,a1,a2,a3⟩:=I9.fd
   have ne:∀(b c:Addr) (vs:List V),H c=none->gK H g0 a0 vs->upd H' t (.tup [.ref pl,.ref be,.ref de]) b=some (.lst (.ref c::vs))->jp H (upd H' t (.tup [.ref pl,.ref be,.ref de])) b:=fun b c vs hc hv e gs' d e' m=>by
    rw[e]at e'
    cases e'
    rcases List.mem_cons.mp m with z | z
    ·cases z;exact hc
    ·exact (hv d z).2.2
   refine q _ t pl be de I9.sm ⟨ae,⟨ps,p1,p2⟩,⟨_,g1,?_⟩,⟨_,a1,.cons I9.fa a2⟩⟩ (up0 I.sm nt) I9.m1 I9.m2 I9.m3 (ne be g0 gs I9.m4 g3 g1) (ne de a0 as I9.m5 a3 a1)
   have e:nI so rk kinds=(bR (bf kinds (bA so rk)),kinds.length+1)::ut (kinds.length+1):=by
    unfold nI ut
    rw[List.range_succ_eq_map,List.map_cons,List.map_map]
    rfl
   rw[e]
   exact .cons I9.fg g2
section
variable {P:Program}{w:World}{K:PySem.W.Frag}{H H1 H2:Hp}{t pl be de t' pl' be' de':Addr}{so:Str}{rk:Int}{kinds:List Str}
theorem lv {α:Type}{f:α->PyData}:∀{l:List α},(∀i∈l,(f i).canLay0=true)->PyData.canLayAll0 (l.map f)=true
 | [],_=>rfl
 | a::r,h=>by
  show ((f a).canLay0&&PyData.canLayAll0 (r.map f))=true
  rw[h a List.mem_cons_self,lv fun i m=>h i (List.mem_cons_of_mem _ m)]
  rfl
theorem im {α:Type}{f:α->PyData}{n:Nat}:∀{l:List α},(∀i∈l,(f i).depth≤n)->PyData.depthAll (l.map f)≤n
 | [],_=>by simp[PyData.depthAll]
 | a::r,h=>by
  show max (f a).depth (PyData.depthAll (r.map f))≤n
  have h1:=h a List.mem_cons_self
  have h2:=im (l:=r) fun i m=>h i (List.mem_cons_of_mem _ m)
  omega
theorem j6 {d:PyData}(l:d.canLay0=true)(h:d.depth≤30):mF d:=⟨l,h,SeqAt.eqv_refl _ l⟩
theorem rp (hs:PyData.strOk so=true)(hk:∀x∈kinds,PyData.strOk x=true):mF (.list (i9 so rk kinds)):=by
 have sym:(bO so rk).canLay0=true:=by simp[bO,PyData.canLay0,PyData.canLayAll0,hs]
 have hin:∀i∈List.range kinds.length,PyData.strOk (kinds.getD i "")=true:=fun i hi=>by
  have hl:=List.mem_range.mp hi
  rw[List.getD,List.getElem?_eq_getElem hl]
  exact hk _ (List.getElem_mem hl)
 refine j6 ?_ ?_
 ·show PyData.canLayAll0 (i9 so rk kinds)=true
  unfold i9
  show (PyData.canLay0 (.tuple [bO "" 0,.tuple [bO so rk],.int (-1)])&&PyData.canLayAll0 _)=true
  rw[lv fun i hi=>?_]
  ·simp[bO,PyData.canLay0,PyData.canLayAll0,hs]
   decide +kernel
  ·have:=hin i hi
   simp[bO,PyData.canLay0,PyData.canLayAll0,hs]
   exact this
 ·have h1:PyData.depthAll ((List.range kinds.length).map fun i=>PyData.tuple [bO so rk,.tuple [.str (kinds.getD i "")],.int (i:Nat)])≤5:=im fun i _=>by simp[bO,PyData.depth,PyData.depthAll]
  have h2:(PyData.list (i9 so rk kinds)).depth=max (PyData.tuple [bO "" 0,.tuple [bO so rk],.int (-1)]).depth (PyData.depthAll ((List.range kinds.length).map fun i=>PyData.tuple [bO so rk,.tuple [.str (kinds.getD i "")],.int (i:Nat)]))+1:=by
   simp only[i9,PyData.depth,PyData.depthAll]
  have h3:(PyData.tuple [bO "" 0,.tuple [bO so rk],.int (-1)]).depth≤5:=by simp[bO,PyData.depth,PyData.depthAll]
  omega
theorem pD {f:GK->Option Nat}(k:GK)(x:PyData)(h:bR f k=some x):mF x:=by
 unfold bR at h
 obtain⟨n,_,rfl⟩:=Option.map_eq_some_iff.mp h
 exact j6 rfl (by simp[PyData.depth])
theorem oV {f:Str->Option (Str×Nat)}(hf:∀x b m,f x=some (b,m)->PyData.strOk b=true)(k:GK)(x:PyData)(h:cw f k=some x):mF x:=by
 unfold cw at h
 split at h
 ·obtain⟨⟨b,m⟩,e,rfl⟩:=Option.map_eq_some_iff.mp h
  exact j6 (by simp[PyData.canLay0,PyData.canLayAll0];exact hf _ _ _ e) (by simp[PyData.depth,PyData.depthAll])
 ·cases h
theorem jR {vs us:List V}{fs:List ((GK->Option PyData)×Nat)}(h1:DGs P w K H vs fs)(h2:DGs P w K H us fs)(fit:∀q∈fs,∀k x,q.1 k=some x->mF x)(ne:∀d d',V.ref d∈vs->V.ref d'∈us->d≠d'):∀(i:Nat) u v,vs[i]?=some u->us[i]?=some v->iN P w K H 1 u v:=fun i u v e1 e2=>by
 have hl:=h1.length
 have hi:i<fs.length:=by rw[<-hl];exact (List.getElem?_eq_some_iff.mp e1).1
 obtain⟨q,hq⟩:∃q,fs[i]?=some q:=⟨_,List.getElem?_eq_getElem hi⟩
 obtain⟨f,n⟩:=q
 obtain⟨d,d1,d2⟩:=h1.get hq
 obtain⟨d',d3,d4⟩:=h2.get hq
 rw[e1]at d1
 rw[e2]at d3
 cases d1
 cases d3
 exact .inr ⟨d,d',rfl,rfl,ne d d' (List.mem_of_getElem? e1) (List.mem_of_getElem? e2),d2.twin d4 (fit _ (List.mem_of_getElem? hq))⟩
theorem nM (h1:Tab1 P w K H1 t pl be de so rk kinds)(s:Same H1 H2)(h2:Tab1 P w K H2 t' pl' be' de' so rk kinds)(npl:H1 pl'=none)(nbe:H1 be'=none)(nde:H1 de'=none)(ib:jp H1 H2 be')(id':jp H1 H2 de')(hs:PyData.strOk so=true)(hk:∀x∈kinds,PyData.strOk x=true) :
  lI P w K H2 (iN P w K H2 2) t t':=by
 obtain⟨ps,p1,p2⟩:=(h1.same s).pl
 obtain⟨gs,g1,g2⟩:=h1.be
 obtain⟨as,a1,a2⟩:=h1.de
 obtain⟨ps',p1',p2'⟩:=h2.pl
 obtain⟨gs',g1',g2'⟩:=h2.be
 obtain⟨as',a1',a2'⟩:=h2.de
 have nb:be≠be':=fun z=>by rw[z,nbe]at g1;cases g1
 have nd:de≠de':=fun z=>by rw[z,nde]at a1;cases a1
 have F:=rp (rk:=rk) hs hk
 refine .inl ⟨[.ref pl,.ref be,.ref de],[.ref pl',.ref be',.ref de'],.inr ⟨SqT.of (s _ _ h1.t),SqT.of h2.t⟩,rfl,fun i u v e1 e2=>?_⟩
 match i,e1,e2 with
 | 0,e1,e2 =>
  cases e1
  cases e2
  exact .inl (.inl ⟨_,.list (SqL.of p1) p2.dat,.list (SqL.of p1') p2'.dat,F.lay,F.dep,F.eqv⟩)
 | 1,e1,e2 =>
  cases e1
  cases e2
  refine .inr ⟨be,be',rfl,rfl,nb,.inl ⟨gs,gs',.inl ⟨SqL.of (s _ _ g1),SqL.of g1'⟩,by rw[g2.length,g2'.length],jR (g2.same s) g2' (fun q m k x z=>?_) fun d d' m m' z=>?_⟩⟩
  ·obtain⟨f,e⟩:∃f,q.1=bR f:=by
    unfold nI at m
    rcases List.mem_cons.mp m with y | m
    ·exact⟨_,by rw[y]⟩
    rcases List.mem_cons.mp m with y | m
    ·exact⟨_,by rw[y]⟩
    ·obtain⟨_,_,y⟩:=List.mem_map.mp m
     exact⟨_,by rw[<-y]⟩
   rw[e]at z
   exact pD k x z
  ·obtain⟨φ,y⟩:=g2.ext m
   rw[z,ib gs' d' g1' m']at y
   cases y
 | 2,e1,e2 =>
  cases e1
  cases e2
  refine .inr ⟨de,de',rfl,rfl,nd,.inl ⟨as,as',.inl ⟨SqL.of (s _ _ a1),SqL.of a1'⟩,by rw[a2.length,a2'.length],jR (a2.same s) a2' (fun q m k x z=>?_) fun d d' m m' z=>?_⟩⟩
  ·obtain⟨f,e,hf⟩:∃f,q.1=cw f/\∀x b m,f x=some (b,m)->PyData.strOk b=true:=by
    have he:∀(b:Str) (n:Nat),PyData.strOk b=true->∀x c m,br b n x=some (c,m)->PyData.strOk c=true:=fun b n hb x c m e=>by
     unfold br at e
     split at e
     ·cases e;exact hb
     ·cases e
    unfold vU at m
    rcases List.mem_cons.mp m with y | m
    ·refine⟨aO kinds,by rw[y],fun x b m e=>?_⟩
     unfold aO at e
     obtain⟨_,_,e⟩:=Option.map_eq_some_iff.mp e
     cases e
     decide +kernel
    rcases List.mem_cons.mp m with y | m
    ·exact⟨_,by rw[y],he "accept" 0 (by decide +kernel)⟩
    ·obtain⟨i,_,y⟩:=List.mem_map.mp m
     exact⟨_,by rw[<-y],he "reduce" (i+1) (by decide +kernel)⟩
   rw[e]at z
   exact oV hf k x z
  ·obtain⟨φ,y⟩:=a2.ext m
   rw[z,id' as' d' a1' m']at y
   cases y
 | i+3,e1,_=>simp at e1
theorem kO {Pt:Addr}{tb:Array Value}(h:H Pt=some (.tbl tb)):aT K H (rem [Pt] H):=fun b xs q=>by
 have up:∀{u:HO},(∀ps,u≠.tbl ps)->H b=some u->rem [Pt] H b=some u:=fun {u} n e=>by
  rw[aL fun m=>by rw[List.mem_singleton.mp m,h]at e;exact n _ (Option.some.inj e).symm]
  exact e
 rcases q with (q | ⟨o,q⟩) | q
 ·exact .inl (.inl (up (fun _ z=>by cases z) q))
 ·exact .inl (.inr ⟨o,up (fun _ z=>by cases z) q⟩)
 ·exact .inr q
theorem Tab1.rem {Pt:Addr}{tb:Array Value}(h:Tab1 P w K H t pl be de so rk kinds)(ht:H Pt=some (.tbl tb)):Tab1 P w K (L2.rem [Pt] H) t pl be de so rk kinds:=by
 have up:∀{b:Addr} {u:HO},(∀ps,u≠.tbl ps)->H b=some u->L2.rem [Pt] H b=some u:=fun {b u} n e=>by
  rw[aL fun m=>by rw[List.mem_singleton.mp m,ht]at e;exact n _ (Option.some.inj e).symm]
  exact e
 have kp:aT K H (L2.rem [Pt] H):=kO ht
 have ex:∀{d:Addr} {φ:Heap->Prop},H d=some (.ext φ)->L2.rem [Pt] H d=H d:=fun {d φ} e=>(up (fun _ z=>by cases z) e).trans e.symm
 obtain⟨ps,p1,p2⟩:=h.pl
 obtain⟨gs,g1,g2⟩:=h.be
 obtain⟨as,a1,a2⟩:=h.de
 exact⟨up (fun _ z=>by cases z) h.t,⟨ps,up (fun _ z=>by cases z) p1,p2.keeps kp⟩,⟨gs,up (fun _ z=>by cases z) g1,g2.keeps kp fun d m=>by obtain⟨φ,e⟩:=g2.ext m;exact ex e⟩,⟨as,up (fun _ z=>by cases z) a1,a2.keeps kp fun d m=>by obtain⟨φ,e⟩:=a2.ext m;exact ex e⟩⟩
end
end
end K46
namespace L2
open PySem PySem.Spec PyProof.Rows
section
variable {X:Cx}{pos:Pos}
def ye (K:PySem.W.Frag)(n:Nat)(t:nK):TG:=fun v σ H Q=>∃a xs,v=.ref a/\SqL K H a xs/\xs.length=n/\t xs σ H Q
theorem qK {K:PySem.W.Frag}{es:List Expr}{k:Nat}{gs:nK}{n:Nat}(hc:X.calm=true)(h:xP X es gs)(hK:X.K=K:=by rfl)(hn:(assignEach es X.env).length=n:=by rfl)(hst:(assignEach es X.env).findIdx? (·.1)=none:=by rfl):JG X (.Tuple es k pos) (ye K n gs):=by
 refine .mk ?_
 subst hK
 intro pins s σ H v u Q I r hw
 obtain⟨a,xs,e1,hq,hl,hw⟩:=hw
 subst e1
 cases r
 obtain⟨its,rv,p1,_⟩:=I.list hq
 rw[assign_Tuple]
 refine wpAny_bind (wpAny_standAt ?_)
 unfold unpack
 have hz:(assignEach es X.env).length=its.toArray.size:=by simp[hn,<-hl,rv.length]
 rw[hz,hst]
 refine wpAny_bind (wpAny_holding (PySem.W.kun_itemsOf (I.ok.hd hc) p1.isList fun h' hx=>?_))
 have I1:Inv X pins σ H { s with heap:=h' }:=I.kept (t':=s.toks) fun b o e=>hx b o (Nat.ne_of_lt (Heap.lt_size e)) e
 exact h.out pins _ σ H xs _ Q I1 (by simpa using rv) hw
end
end L2
namespace L2
open PySem PySem.Spec PyProof.Rows
section
variable {X:Cx}
def yR (P:Program)(w:World)(K:PySem.W.Frag):R2:=fun x y H Q=>∃n a b xs ys,n≤20/\x=.ref a/\y=.ref b/\(SqL K H a xs/\SqL K H b ys\/SqT K H a xs/\SqT K H b ys)/\xs.length=ys.length/\(∀(i:Nat) u v,xs[i]?=some u->ys[i]?=some v->iN P w K H n u v)/\Q (.bl false) H
theorem xA {P:Program}{w:World}{K:PySem.W.Frag}(hu:X.A.units+64<cLine)(hK:X.K=K:=by rfl)(hP:X.prog=P:=by rfl)(hw:X.w=w:=by rfl):Irr (bo X (compareOp .NotEq) (yR P w K)):=by
 subst hK hP hw
 refine .mk ?_
 intro pins s σ H x y v u Q I rx ry h
 obtain⟨n,a,b,xs,ys,hn,rfl,rfl,hs,hl,hh,q⟩:=h
 obtain rfl:v=Value.ref a:=rx
 obtain rfl:u=Value.ref b:=ry
 have ih:∀x y v u,RelV x v->RelV y u->iN X.prog X.w X.K H n x y->SeqAt.EqAt X.A.in1 s v u true:=fun x y v u rx ry t=>iT I n X.A.in1 x y v u (by show X.A.units+1+n+30<cLine;omega) rx ry t
 have core:∀{vs us:List Value},Vals xs vs->Vals ys us->∀j (h1:j<vs.toArray.size) (h2:j<us.toArray.size),SeqAt.EqAt X.A.in1 s vs.toArray[j] us.toArray[j] ((fun _=>true) j):=fun {vs us} r1 r2 j h1 h2=>by
  have j1:j<xs.length:=by rw[r1.length];simpa using h1
  have j2:j<ys.length:=by rw[r2.length];simpa using h2
  obtain⟨v,e1,q1⟩:=r1.get (List.getElem?_eq_getElem j1)
  obtain⟨u,e2,q2⟩:=r2.get (List.getElem?_eq_getElem j2)
  have f1:vs.toArray[j]=v:=by have:=List.getElem?_eq_some_iff.mp e1;simpa using this.2
  have f2:us.toArray[j]=u:=by have:=List.getElem?_eq_some_iff.mp e2;simpa using this.2
  rw[f1,f2]
  exact ih _ _ _ _ q1 q2 (hh j _ _ (List.getElem?_eq_getElem j1) (List.getElem?_eq_getElem j2))
 have key:SeqAt.RcNeAt X.A s (.ref a) (.ref b) false:=by
  rcases hs with⟨s1,s2⟩ | ⟨s1,s2⟩
  ·obtain⟨vs,r1,i1,_⟩:=I.list s1
   obtain⟨us,r2,i2,_⟩:=I.list s2
   have hz:vs.toArray.size=us.toArray.size:=by simp[<-r1.length,<-r2.length,hl]
   have:=SeqAt.RcNeAt.lists i1.isList i2.isList hz (by omega) (core r1 r2)
   rwa [show (!(List.range vs.toArray.size).all (fun _=>true))=false by simp]at this
  ·obtain⟨vs,r1,i1,_⟩:=I.tuple s1
   obtain⟨us,r2,i2,_⟩:=I.tuple s2
   have hz:vs.toArray.size=us.toArray.size:=by simp[<-r1.length,<-r2.length,hl]
   have:=SeqAt.RcNeAt.tuples i1 i2 (by omega) (core r1 r2)
   rwa [show (!((List.range (min vs.toArray.size us.toArray.size)).all (fun _=>true)&&vs.toArray.size == us.toArray.size))=false by rw[hz];simp]at this
 exact key X.prog X.w X.xe _ ⟨.bl false,H,I,rfl,q⟩
end
end L2
--@RAISES but law
namespace K46
open PySem PySem.Spec PyProof.Rows L2 Rg
section
variable {P:Program}{w:World}{K:PySem.W.Frag}{mg:Str->Option Value}{base:Heap}{Pt CS CN CB fi:Addr}{mc:Value}{cs:List Addr}
structure XF (K:PySem.W.Frag)(CS:Addr):Prop where
 pl:PySem.W.findIn K (.ref CS) "place"=some none
 ga:PySem.W.findIn K (.ref CS) "__getattribute__"=some (some (.builtin "BaseException.__getattribute__"))
 gt:PySem.W.findIn K (.ref CS) "__getattr__"=some none
def spLaw (Pt:Addr)(K:PySem.W.Frag):Sp:=fun vs H Q _=>∃(a:Addr) (ns:List Int),vs=[.ref a]/\SqL K H a (ns.map V.int)/\ns.length≤63/\TabOk H Pt ap/\∀H',Q (.bl true) H'
structure zu (P:Program)(w:World)(K:PySem.W.Frag)(G:Hp)(nh ka ra t pl be de oa:Addr)(names kinds row:List Str)(so:Str)(rk:Int)(mn was:Nat)(at_ gone come:Int)(b:Bool):Prop where
 f_nh:G nh=some (.lst (aI names))
 f_ka:G ka=some (.lst (aI kinds))
 f_ra:G ra=some (.lst (aI row))
 tb:Tab1 P w K G t pl be de so rk kinds
 so_at:names[mn]?=some so
 nd:kinds.Nodup
 lk:kinds.length≤30
 lr:row.length≤63
 ek:("end":Str)∉kinds
 er:("end":Str)∉row
 os:PyData.strOk so=true
 ok:∀x∈kinds,PyData.strOk x=true
 or:∀x∈row,PyData.strOk x=true
 old:Old G oa was
 hw:was<kinds.length
 sa:Sml at_
 sg:Sml gone
 sc:Sml come
 fit:b=true↔¬ gW 1 (row.length:Nat) at_ gone come
 q0:¬ gW 1 (row.length:Nat) at_ gone come->at_=0->gone=0->come=0->row[0]?=kinds[was]?
abbrev st_law:Stmt:=fW 36
theorem iX:ar ["_law_script","_law_count","_law_names_here","_law_kinds","_law_rank","_law_tables_here","_law_was","_law_old","_law_at","_law_gone","_law_come","_law_many_here","_law_row_here","_law_fits","_law_found","_law_fault","_law_place"] ["_law_script"] (ah st_law):=⟨rfl,rfl,rfl,by decide +kernel,rfl,by decide +kernel,by decide +kernel⟩
abbrev wY:List Str:=["_law_script","_law_count","_law_names_here","_law_kinds","_law_rank","_law_tables_here","_law_was","_law_old","_law_at","_law_gone","_law_come","_law_many_here","_law_row_here","_law_fits","_law_found","_law_fault","_law_place"]
theorem qw (T:Txt K w mg)(TX:jf K mg "Stuck" "GrowthError" "place" CS CB fi mc)(TXF:XF K CS)(TE:oB K mg CS CN CB cs){f:Addr}{cdv:Value}{A:Around}{outer:List Env}{s:Shared}{H:Hp}{E:XK}{Q:VK}{a:Addr}
  (hr:Room 7 (A.deeper (envOfC "law" (ah st_law) s.heap.objs.size f cdv)))
  (D__law_read:Def P w K mg base 7 "_law_read" ["_law_tables_here","_law_row_here","_law_old","_law_change"] (iY P w K CS CN Pt)) (D__law_alone:Def P w K mg base 1 "_law_alone" ["_law_fault"] (fU CS CN)) (D__law_whole:Def P w K mg base 1 "_law_whole" ["_law_found"] eK) (D__law_is_way:Def P w K mg base 2 "_law_is_way" ["_law_found","_law_due"] (fO K))
  (D__law_tables:Def P w K mg base 1 "_law_tables" ["_law_sort","_law_rank","_law_kinds"] (i5 P w K)) (q:∀H',Q (.bl true) H') :
  ∃u,iF (aQ CX0 P w K mg base wY "law" (ah st_law) f cdv A outer s H E).nox ((ay st_law).drop 12) u/\∀(G H1:Hp) (nh ka ra t pl be de oa:Addr) (names kinds row:List Str) (so:Str) (rk:Int) (mn was:Nat) (at_ gone come:Int) (b:Bool) (v11 v14 v15 v16:Option V),zu P w K G nh ka ra t pl be de oa names kinds row so rk mn was at_ gone come b->Same G H1->G Pt=none->TabOk H1 Pt ap ->
    u { nx:=fun _ H'=>Q .non H',rt:=Q } [some (.ref a),some (.int (mn:Nat)),some (.ref nh),some (.ref ka),some (.int rk),some (.ref t),some (.int (was:Nat)),some (.ref oa),some (.int at_),some (.int gone),some (.int come),v11,some (.ref ra),some (.bl b),v14,v15,v16] H1:=by
 have sc:=iX
 have hu:=hr.units
 have hb:(1000000:Nat)<sizeLine:=by rw[sizeLine_eq];decide
 refine⟨_,(ac (kj (bq D__law_read (hr.mono (by decide)) rfl (aa (jn 5) (aa (jn 12) (aa (jn 7) (aa (bi (aa (jn 8) (aa (jn 9) (aa (jn 10) af)))) af))))) (j8 (K:=K) (n:=2) rfl (bB (aP (i:=14) sc.nd rfl (Or.inl rfl)) (bB (aP (i:=15) sc.nd rfl (Or.inl rfl)) fJ))))
  (ac (aY (eZ (cL (aH (km hu (K:=K)) (jn 7) (cr (aa (bi (aa (gk aj) (aa aj (aa aj af)))) (aa (bi (aa (jn 6) (aa aj (aa aj af)))) af)))) (cW (aH (xA hu (K:=K) (P:=P) (w:=w)) (jn 5) (bq D__law_tables (hr.mono (by decide)) rfl (aa (aK (dX hu (K:=K) (w:=w)) (jn 2) (jn 1)) (aa (jn 4) (aa (jn 3) af))))))))
  (ak (aw iR))
  aF)
  (ac (aY (eZ (gy (bp (jn 13)) (gy (aH (eH hu (K:=K)) (au (cN (K:=K)) rfl T.n_len PySem.boot_len (aa (jn 12) af)) aj) (fS (aH (xL (K:=K)) (aK (dX hu (K:=K) (w:=w)) (jn 12) aj) (jn 3))))))
  (ak (aw (dj (dm uW (jn 15) ij) (ig (bq D__law_is_way (hr.mono (by decide)) rfl (aa (jn 14) (aa (cr (aa (bi (aa (gk aj) (aa aj (aa aj af)))) (aa (bi (aa (e8 (K:=K) PySem.F.plainAttrs_list PySem.F.slot_list_index PySem.F.type_list_index (pT (K:=K)) (jn 3) (aa (aK (dX hu (K:=K) (w:=w)) (jn 12) aj) af)) (aa aj (aa aj af)))) af))) af)))))))
  aF)
  (ac (aY (eZ (cL (aH uW (jn 15) ij) (cW (cX (bp (bq D__law_alone (hr.mono (by decide)) rfl (aa (jn 15) af)))))))
  (ak (aw iR))
  aF)
  (ac (aY (cX (bp (jn 13)))
  (ak (aw (au (bD (K:=K)) rfl T.n_isinstance boot_isinstance (aa (jn 15) (aa (bz (v:=.ref _) rfl TE.c_NoFit rfl) af)))))
  aF)
  (ac (ao (i:=16) sc.nd rfl (Or.inl rfl) (jE tX rfl T.n_int boot_int (aa (dj (dm (km hu (K:=K)) (jn 12) (cr af)) (ig (dm (xL (K:=K)) (aK (dX hu (K:=K) (w:=w)) (jn 12) aj) (jn 3)))) af)))
  (ak (aw (dj (au (bD (K:=K)) rfl T.n_isinstance boot_isinstance (aa (jn 15) (aa (bz (v:=.ref _) rfl TE.c_Stuck rfl) af))) (dj (bq D__law_whole (hr.mono (by decide)) rfl (aa (lJ TX.ex TXF.pl TX.hd TXF.ga TXF.gt (jn 15)) af)) (ig (dm (eH hu (K:=K)) (lJ TX.ex TXF.pl TX.hd TXF.ga TXF.gt (jn 15)) (jn 16))))))))))))),fun G H1 nh ka ra t pl be de oa names kinds row so rk mn was at_ gone come b v11 v14 v15 v16 L sG hGP hT1=>?_⟩
 refine⟨(show 3≤sizeLine by decide),fun ch nch=>?_⟩
 obtain⟨tb1,htb1⟩:=Rg.TabOk.tab hT1
 have nPt:ch≠Pt:=fun z=>by rw[z,htb1]at nch;cases nch
 have nG:G ch=none:=by
  cases e:G ch with
  | none=>rfl
  | some u=>rw[sG _ _ e]at nch;cases nch
 have gG:Same G (upd G ch (.tup [.int at_,.int gone,.int come])):=ai nG
 have sG2:Same (upd G ch (.tup [.int at_,.int gone,.int come])) (upd H1 ch (.tup [.int at_,.int gone,.int come])):=fun b u e=>by
  by_cases z:b=ch
  ·rw[z,ae]at e ⊢;exact e
  ·rw[ag z]at e ⊢;exact sG b u e
 have gPt:upd G ch (.tup [.int at_,.int gone,.int come]) Pt=none:=by rw[ag nPt.symm];exact hGP
 have hT2:=Rg.TabOk.grow hT1 (ai (o:=.tup [.int at_,.int gone,.int come]) nch)
 have hch:upd G ch (.tup [.int at_,.int gone,.int come]) ch=some (.tup [.int at_,.int gone,.int come]):=ae
 have sGH:=gG.trans sG2
 generalize upd H1 ch (.tup [.int at_,.int gone,.int come])=H2 at sG2 hT2 sGH ⊢
 generalize upd G ch (.tup [.int at_,.int gone,.int come])=G2 at sG2 gG gPt hch
 refine⟨G2,t,pl,be,de,so,rk,kinds,row,ra,oa,ch,was,at_,gone,come,rfl,sG2,L.tb.same gG,L.nd,L.lk,L.ek,L.er,gG _ _ L.f_ra,(by have:=L.lr;omega),L.old.same gG,L.hw,L.sa,L.sg,L.sc,hch,hT2,gPt,L.q0,fun H3 p o3 hT3 got=>?_⟩
 have sG3:Same G H3:=o3.same sGH fun b m=>by rw[List.mem_singleton.mp m];exact hGP
 clear hT2 sG2 gG hch gPt nG sGH o3 nch
 obtain⟨fv,ev,hp,hcs⟩:∃fv ev,H3 p=some (.tup [fv,ev])/\((gW 1 (row.length:Nat) at_ gone come/\∃xa oe,ev=.ref xa/\H3 xa=some (.frz oe aU)/\oe.cls=.ref CN)\/(¬ gW 1 (row.length:Nat) at_ gone come/\gl kinds row=none/\∃xa oe dx,ev=.ref xa/\H3 xa=some (.frz oe aU)/\oe.cls=.ref CS/\oe.dict=some dx/\(∃vs,oe.data=.fields vs)/\H3 dx=some (kY dx "place" (.int (iL kinds row:Nat))))\/(¬ gW 1 (row.length:Nat) at_ gone come/\∃S wy ws,gl kinds row=some S/\fv=.ref wy/\ev=.non/\H3 wy=some (.lst ws)/\Wys H3 ws S.tr)):=by
  rcases got with⟨h1,xa,oe,e1,e2,e3⟩ | ⟨h1,h2,xa,oe,dx,e1,e2⟩ | ⟨h1,S,wy,ws,e1,e2,e3,e4⟩
  ·exact⟨_,_,e1,.inl ⟨h1,xa,oe,rfl,e2,e3⟩⟩
  ·exact⟨_,_,e1,.inr (.inl ⟨h1,h2,xa,oe,dx,rfl,e2⟩)⟩
  ·exact⟨_,_,e2,.inr (.inr ⟨h1,S,wy,ws,e1,rfl,rfl,e3,e4⟩)⟩
 clear got
 refine⟨p,_,rfl,SqT.of hp,rfl,_,_,rfl,_,_,rfl,rfl,?_⟩
 obtain⟨e0,e1,ho1,ho2,ho3⟩:=L.old.ex
 refine⟨(show 3≤sizeLine by decide),fun t1 n1=>⟨(show 3≤sizeLine by decide),fun t2 n2=>⟨(show 2≤sizeLine by decide),fun l1 n3=>?_⟩⟩⟩
 have A1:=ai (o:=.tup [.int (-1),.int 1,.int 0]) n1
 have A2:=ai (o:=.tup [.int ((was:Nat):Int),.int 1,.int 0]) n2
 have A3:=ai (o:=.lst [.ref t1,.ref t2]) n3
 have sA:=A1.trans (A2.trans A3)
 have dt:∀{Hx:Hp} {x:Addr} (m:Int),Hx x=some (.tup [.int m,.int 1,.int 0])->DatV K Hx (.ref x) (.tuple [.int m,.int 1,.int 0]):=fun m e=>.tuple (SqT.of e) (.cons (.int _) (.cons (.int _) (.cons (.int _) .nil)))
 refine⟨_,_,.list ((sG3.trans sA).seq (SqL.of ho1)) (.cons (dt (-1) ((sG3.trans sA) _ _ ho2)) (.cons (dt ((was:Nat):Int) ((sG3.trans sA) _ _ ho3)) .nil)),.list (SqL.of ae) (.cons (dt (-1) ((A2.trans A3) _ _ ae)) (.cons (dt ((was:Nat):Int) (A3 _ _ ae)) .nil)),rfl,rfl,by simp[PyData.depth,PyData.depthAll],?_⟩
 rw[SeqAt.eqv_refl (.list [.tuple [.int (-1),.int 1,.int 0],.tuple [.int ((was:Nat):Int),.int 1,.int 0]]) rfl]
 have sG4:=sG3.trans sA
 generalize upd (upd (upd H3 t1 (.tup [.int (-1),.int 1,.int 0])) t2 (.tup [.int ((was:Nat):Int),.int 1,.int 0])) l1 (.lst [.ref t1,.ref t2])=H4 at sA sG4 ⊢
 clear A1 A2 A3 n1 n2 n3 dt
 refine .inl ⟨_,_,SqL.of (sG4 _ _ L.f_nh),aG (cC L.so_at),?_⟩
 refine⟨so,rk,ka,kinds,rfl,sG4 _ _ L.f_ka,L.lk,L.nd,fun H5 t' pl' be' de' s5 T5 nt npl nbe nde ib id'=>?_⟩
 obtain⟨xs,ys,hs,hl,hh⟩:∃xs ys,(SqL K H5 t xs/\SqL K H5 t' ys\/SqT K H5 t xs/\SqT K H5 t' ys)/\xs.length=ys.length/\∀(i:Nat) u v,xs[i]?=some u->ys[i]?=some v->iN P w K H5 2 u v:=by
  rcases nM (L.tb.same sG4) s5 T5 npl nbe nde ib id' L.os L.ok with h | ⟨ks,ls,g1,g2,ga,_⟩
  ·exact h
  ·have:=ga.1
   rw[s5 _ _ (sG4 _ _ L.tb.t)]at this
   cases this
 refine⟨2,t,t',xs,ys,by decide,rfl,rfl,hs,hl,hh,?_⟩
 have sB:=sA.trans s5
 have sG5:=sG4.trans s5
 clear sA s5 sG4 T5 hs hl hh nt npl nbe nde ib id' xs ys
 rcases hcs with⟨hbad,xa,oe,rfl,hxa,hcl⟩ | ⟨hfit,eo,xa,oe,dx,rfl,hxa,hcl,hdi,hda,hdd⟩ | ⟨hfit,S,wy,ws,eo,rfl,rfl,hw,hws⟩
 ·have eb:b=false:=by
   cases b with
   | false=>rfl
   | true=>exact absurd hbad (L.fit.mp rfl)
  subst eb
  refine⟨xa,oe,rfl,sB _ _ hxa,.inr hcl,?_⟩
  exact⟨oe,CN,true,sB _ _ hxa,hcl,TE.ZN,TE.nn,q _⟩
 ·have eb:b=true:=L.fit.mpr hfit
  subst eb
  refine⟨_,.inl (SqL.of (sG5 _ _ L.f_ra)),?_⟩
  rw[aW]
  match row,L,eo,hdd with
  | [],L,eo,hdd =>
   refine⟨xa,oe,rfl,sB _ _ hxa,.inl hcl,?_⟩
   refine⟨(show 0≤sizeLine by decide),fun l2 nl2=>?_⟩
   have A5:=ai (o:=.lst []) nl2
   refine⟨_,_,.list ((sG5.trans A5).seq (SqL.of L.f_ra)) (eT []),.list (SqL.of ae) .nil,fL L.or,rfl,by simp[PyData.depth,PyData.depthAll],?_⟩
   rw[fK]
   have kn:Kn (upd H5 l2 (.lst [])) xa oe:=A5 _ _ (sB _ _ hxa)
   have hdx:=A5 _ _ (sB _ _ hdd)
   have sG6:=sG5.trans A5
   generalize upd H5 l2 (.lst [])=H6 at kn hdx sG6 ⊢
   skip
   refine⟨oe,CS,true,kn,hcl,TE.ZS,TE.ss,?_⟩
   refine⟨oe,dx,_,kn,hcl,hdi,hda,hdx,?_⟩
   refine⟨_,rfl,?_⟩
   refine⟨oe,dx,_,kn,hcl,hdi,hda,hdx,?_⟩
   exact q _
  | [x],L,eo,hdd =>
   have hm:x∉kinds:=fun m=>by
    have e2:(fG kinds x).map gY=none:=eo
    unfold fG at e2
    rw[if_pos m]at e2
    cases e2
   refine .inl ⟨_,_,SqL.of (sG5 _ _ L.f_ra),aG (j:=0) rfl,?_⟩
   refine⟨_,.inl (SqL.of (sG5 _ _ L.f_ka)),rfl,dG _,?_⟩
   rw[eN,decide_eq_false hm]
   have hpl:iL kinds [x]=0:=if_neg hm
   rw[hpl]at hdd
   refine⟨xa,oe,rfl,sB _ _ hxa,.inl hcl,?_⟩
   refine⟨(show 0≤sizeLine by decide),fun l2 nl2=>?_⟩
   have A5:=ai (o:=.lst []) nl2
   refine⟨_,_,.list ((sG5.trans A5).seq (SqL.of L.f_ra)) (eT [x]),.list (SqL.of ae) .nil,fL L.or,rfl,by simp[PyData.depth,PyData.depthAll],?_⟩
   rw[fK]
   have kn:Kn (upd H5 l2 (.lst [])) xa oe:=A5 _ _ (sB _ _ hxa)
   have hdx:=A5 _ _ (sB _ _ hdd)
   have sG6:=sG5.trans A5
   generalize upd H5 l2 (.lst [])=H6 at kn hdx sG6 ⊢
   refine .inl ⟨_,_,SqL.of (sG6 _ _ L.f_ra),aG (j:=0) rfl,?_⟩
   refine⟨_,.inl (SqL.of (sG6 _ _ L.f_ka)),rfl,dG _,?_⟩
   rw[eN,decide_eq_false hm]
   refine⟨oe,CS,true,kn,hcl,TE.ZS,TE.ss,?_⟩
   refine⟨oe,dx,_,kn,hcl,hdi,hda,hdx,?_⟩
   refine⟨_,rfl,?_⟩
   refine⟨oe,dx,_,kn,hcl,hdi,hda,hdx,?_⟩
   exact q _
  | x::y::r,L,eo,hdd =>
   by_cases hm:x∈kinds
   ·have hpl:iL kinds (x::y::r)=1:=if_pos hm
    rw[hpl]at hdd
    refine⟨xa,oe,rfl,sB _ _ hxa,.inl hcl,?_⟩
    refine⟨(show 0≤sizeLine by decide),fun l2 nl2=>?_⟩
    have A5:=ai (o:=.lst []) nl2
    refine⟨_,_,.list ((sG5.trans A5).seq (SqL.of L.f_ra)) (eT (x::y::r)),.list (SqL.of ae) .nil,fL L.or,rfl,by simp[PyData.depth,PyData.depthAll],?_⟩
    rw[fK]
    have kn:Kn (upd H5 l2 (.lst [])) xa oe:=A5 _ _ (sB _ _ hxa)
    have hdx:=A5 _ _ (sB _ _ hdd)
    have sG6:=sG5.trans A5
    generalize upd H5 l2 (.lst [])=H6 at kn hdx sG6 ⊢
    refine .inl ⟨_,_,SqL.of (sG6 _ _ L.f_ra),aG (j:=0) rfl,?_⟩
    refine⟨_,.inl (SqL.of (sG6 _ _ L.f_ka)),rfl,dG _,?_⟩
    rw[eN,decide_eq_true hm]
    refine⟨oe,CS,true,kn,hcl,TE.ZS,TE.ss,?_⟩
    refine⟨oe,dx,_,kn,hcl,hdi,hda,hdx,?_⟩
    refine⟨_,rfl,?_⟩
    refine⟨oe,dx,_,kn,hcl,hdi,hda,hdx,?_⟩
    exact q _
   ·have hpl:iL kinds (x::y::r)=0:=if_neg hm
    rw[hpl]at hdd
    refine⟨xa,oe,rfl,sB _ _ hxa,.inl hcl,?_⟩
    refine⟨(show 0≤sizeLine by decide),fun l2 nl2=>?_⟩
    have A5:=ai (o:=.lst []) nl2
    refine⟨_,_,.list ((sG5.trans A5).seq (SqL.of L.f_ra)) (eT (x::y::r)),.list (SqL.of ae) .nil,fL L.or,rfl,by simp[PyData.depth,PyData.depthAll],?_⟩
    rw[fK]
    have kn:Kn (upd H5 l2 (.lst [])) xa oe:=A5 _ _ (sB _ _ hxa)
    have hdx:=A5 _ _ (sB _ _ hdd)
    have sG6:=sG5.trans A5
    generalize upd H5 l2 (.lst [])=H6 at kn hdx sG6 ⊢
    refine .inl ⟨_,_,SqL.of (sG6 _ _ L.f_ra),aG (j:=0) rfl,?_⟩
    refine⟨_,.inl (SqL.of (sG6 _ _ L.f_ka)),rfl,dG _,?_⟩
    rw[eN,decide_eq_false hm]
    refine⟨oe,CS,true,kn,hcl,TE.ZS,TE.ss,?_⟩
    refine⟨oe,dx,_,kn,hcl,hdi,hda,hdx,?_⟩
    refine⟨_,rfl,?_⟩
    refine⟨oe,dx,_,kn,hcl,hdi,hda,hdx,?_⟩
    exact q _
 ·have eb:b=true:=L.fit.mpr hfit
  subst eb
  refine⟨_,.inl (SqL.of (sG5 _ _ L.f_ra)),?_⟩
  rw[aW]
  obtain⟨x,j,rfl,hj,rfl⟩:∃x j,row=[x]/\fG kinds x=some j/\S=gY j:=by
   cases row with
   | nil=>cases eo
   | cons x r=>cases r with
    | nil=>obtain⟨j,hj,e⟩:=Option.map_eq_some_iff.mp eo;exact⟨x,j,rfl,hj,e.symm⟩
    | cons _ _=>cases eo
  obtain⟨hm,hjl,hjx⟩:=ez hj
  have hji:kinds.idxOf x=j:=by unfold fG at hj;rw[if_pos hm]at hj;exact Option.some.inj hj
  refine .inl ⟨_,_,SqL.of (sG5 _ _ L.f_ra),aG (j:=0) rfl,?_⟩
  refine⟨_,.inl (SqL.of (sG5 _ _ L.f_ka)),rfl,dG _,?_⟩
  rw[eN,decide_eq_true hm]
  refine⟨(show 3≤sizeLine by decide),fun t1 n1=>?_⟩
  have A1:=ai (o:=.tup [.int (-1),.int 1,.int 0]) n1
  refine⟨.inl ⟨rfl,_,(sG5.trans A1).seq (SqL.of L.f_ka)⟩,.inl ⟨_,_,(sG5.trans A1).seq (SqL.of L.f_ra),aG (j:=0) rfl,?_⟩⟩
  refine⟨kinds,(sG5.trans A1).seq (SqL.of L.f_ka),(by have:=L.lk;omega),hm,?_⟩
  rw[hji]
  refine⟨(show 3≤sizeLine by decide),fun t2 n2=>⟨(show 2≤sizeLine by decide),fun du n3=>?_⟩⟩
  have A2:=ai (o:=.tup [.int ((j:Nat):Int),.int 1,.int 0]) n2
  have A3:=ai (o:=.lst [.ref t1,.ref t2]) n3
  have sC:=sB.trans (A1.trans (A2.trans A3))
  exact⟨wy,du,ws,[.ref t1,.ref t2],(gY j).tr,rfl,sC _ _ hw,ae,hws.same (fun t xs e=>sC _ _ e),⟨⟨t1,rfl,(A2.trans A3) _ _ ae⟩,⟨t2,rfl,A3 _ _ ae⟩,True.intro⟩,(show 2≤100 by decide),q _⟩
end
end K46
--@RAISES but law
namespace K46
open PySem PySem.Spec PyProof.Rows L2 Rg
section
variable {P:Program}{w:World}{K:PySem.W.Frag}{mg:Str->Option Value}{base:Heap}{Pt CS CN CB fi:Addr}{mc:Value}{cs:List Addr}
theorem n9 {cs:List Addr}{H:Hp}:Same (rem cs H) H:=fun b u e=>by
 have nb:b∉cs:=fun m=>by rw[ee m]at e;cases e
 rwa [aL nb]at e
theorem oZ (row:List Str)(i:Nat)(x:Str):(aI row).set i (.str x)=aI (row.set i x):=by unfold aI;rw[List.map_set]
structure zA (P:Program)(w:World)(K:PySem.W.Frag)(H0:Hp)(nh ka t pl be de oa:Addr)(names kinds row:List Str)(so:Str)(rk:Int)(mn was:Nat)(at_ gone come:Int)(b:Bool):Prop where
 f_nh:H0 nh=some (.lst (aI names))
 f_ka:H0 ka=some (.lst (aI kinds))
 tb:Tab1 P w K H0 t pl be de so rk kinds
 so_at:names[mn]?=some so
 nd:kinds.Nodup
 lk:kinds.length≤30
 lr:row.length≤6
 wk:∀x∈kinds,Wd x
 wr:∀x∈row,Wd x
 ws:Wd so
 old:Old H0 oa was
 hw:was<kinds.length
 sa:Sml at_
 sg:Sml gone
 sc:Sml come
 fit:b=true↔¬ gW 1 (row.length:Nat) at_ gone come
theorem sL (T:Txt K w mg)(TX:jf K mg "Stuck" "GrowthError" "place" CS CB fi mc)(TXF:XF K CS)(TE:oB K mg CS CN CB cs){f:Addr}{cdv:Value}{A:Around}{outer:List Env}{s:Shared}{H:Hp}{E:XK}{Q:VK}{a:Addr}
  (hr:Room 7 (A.deeper (envOfC "law" (ah st_law) s.heap.objs.size f cdv)))
  (D__law_read:Def P w K mg base 7 "_law_read" ["_law_tables_here","_law_row_here","_law_old","_law_change"] (iY P w K CS CN Pt)) (D__law_alone:Def P w K mg base 1 "_law_alone" ["_law_fault"] (fU CS CN)) (D__law_whole:Def P w K mg base 1 "_law_whole" ["_law_found"] eK) (D__law_is_way:Def P w K mg base 2 "_law_is_way" ["_law_found","_law_due"] (fO K))
  (D__law_tables:Def P w K mg base 1 "_law_tables" ["_law_sort","_law_rank","_law_kinds"] (i5 P w K)) (q:∀H',Q (.bl true) H') :
  ∃u,iF (aQ CX0 P w K mg base wY "law" (ah st_law) f cdv A outer s H E).nox ((ay st_law).drop 11) u/\∀(H0 H1:Hp) (nh ka ra t pl be de oa:Addr) (names kinds row:List Str) (so:Str) (rk:Int) (mn was:Nat) (at_ gone come:Int) (b:Bool) (v11 v14 v15 v16:Option V),zA P w K H0 nh ka t pl be de oa names kinds row so rk mn was at_ gone come b->Same H0 H1->H0 ra=none->H1 ra=some (.lst (aI row))->TabOk H1 Pt ap ->
    u { nx:=fun _ H'=>Q .non H',rt:=Q } [some (.ref a),some (.int (mn:Nat)),some (.ref nh),some (.ref ka),some (.int rk),some (.ref t),some (.int (was:Nat)),some (.ref oa),some (.int at_),some (.int gone),some (.int come),v11,some (.ref ra),some (.bl b),v14,v15,v16] H1:=by
 have sc:=iX
 have hu:=hr.units
 have hb:(1000000:Nat)<sizeLine:=by rw[sizeLine_eq];decide
 obtain⟨u,hP,hq⟩:=qw (outer:=outer) (H:=H) (E:=E) (a:=a) T TX TXF TE hr D__law_read D__law_alone D__law_whole D__law_is_way D__law_tables q
 refine⟨_,(ac (aY (eZ (gy (bp (jn 13)) (fS (aH (eH hu (K:=K)) (jn 9) aj))))
  (ak (kj (aK (dX hu (K:=K) (w:=w)) (jn 3) (jn 6)) (wx (jn 12) (aK (dX hu (K:=K) (w:=w)) (cr (aa (jn 10) (aa aj af))) (jn 8)))))
  aF)
  hP),fun H0 H1 nh ka ra t pl be de oa names kinds row so rk mn was at_ gone come b v11 v14 v15 v16 L s01 nra hra hT1=>?_⟩
 obtain⟨y,hy⟩:∃y,kinds[was]?=some y:=⟨_,List.getElem?_eq_getElem L.hw⟩
 have hyk:y∈kinds:=List.mem_of_getElem? hy
 have fin:∀(H2:Hp) (row2:List Str),Same H0 H2->H2 ra=some (.lst (aI row2))->TabOk H2 Pt ap->row2.length=row.length->(∀x∈row2,Wd x)->(¬ gW 1 (row.length:Nat) at_ gone come->at_=0->gone=0->come=0->row2[0]?=kinds[was]?) ->
   u { nx:=fun _ H'=>Q .non H',rt:=Q } [some (.ref a),some (.int (mn:Nat)),some (.ref nh),some (.ref ka),some (.int rk),some (.ref t),some (.int (was:Nat)),some (.ref oa),some (.int at_),some (.int gone),some (.int come),v11,some (.ref ra),some (.bl b),v14,v15,v16] H2:=fun H2 row2 s02 h2 hT2 hl hw2 hq0=>by
  obtain⟨tb,htb⟩:=Rg.TabOk.tab hT2
  have up:∀{b:Addr} {u:HO},(∀ps,u≠.tbl ps)->H2 b=some u->rem [Pt] H2 b=some u:=fun {b u} n e=>by
   rw[aL fun m=>by rw[List.mem_singleton.mp m,htb]at e;exact n _ (Option.some.inj e).symm]
   exact e
  obtain⟨e0,e1,o1,o2,o3⟩:=L.old.ex
  exact hq (rem [Pt] H2) H2 nh ka ra t pl be de oa names kinds row2 so rk mn was at_ gone come b v11 v14 v15 v16
   ⟨up (fun _ z=>by cases z) (s02 _ _ L.f_nh),up (fun _ z=>by cases z) (s02 _ _ L.f_ka),up (fun _ z=>by cases z) h2,Tab1.rem (L.tb.same s02) htb,L.so_at,L.nd,L.lk,(by have:=L.lr;omega),fun z=>(L.wk _ z).2 rfl,fun z=>(hw2 _ z).2 rfl,L.ws.1,fun x m=>(L.wk x m).1,fun x m=>(hw2 x m).1,
    ⟨e0,e1,up (fun _ z=>by cases z) (s02 _ _ o1),up (fun _ z=>by cases z) (s02 _ _ o2),up (fun _ z=>by cases z) (s02 _ _ o3)⟩,L.hw,L.sa,L.sg,L.sc,(by rw[hl];exact L.fit),(by rw[hl];exact hq0)⟩
   n9 (ee (List.mem_singleton.mpr rfl)) hT2
 cases b with
 | false=>exact fin H1 row s01 hra hT1 rfl L.wr (fun z=>absurd (L.fit.mpr z) (by decide))
 | true =>
  have hfit:=L.fit.mp rfl
  show if (false^^decide (gone=0))=true then _ else _
  by_cases hg:gone=0
  ·rw[decide_eq_true hg,if_pos (by decide)]
   refine .inl ⟨_,_,SqL.of (s01 _ _ L.f_ka),aG (cC hy),?_⟩
   refine⟨(show 2≤sizeLine by decide),fun l1 n1=>?_⟩
   have A1:=ai (o:=.lst [.int come,.int 0]) n1
   have hra1:=A1 _ _ hra
   have hT2:=Rg.TabOk.grow hT1 A1
   have s02:=s01.trans A1
   have hl1:upd H1 l1 (.lst [.int come,.int 0]) l1=some (.lst [.int come,.int 0]):=ae
   generalize upd H1 l1 (.lst [.int come,.int 0])=H2 at hra1 hT2 s02 hl1 ⊢
   have put:∀(j:Nat),j<row.length->(at_=0->come=0->j=0)->u { nx:=fun _ H'=>Q .non H',rt:=Q } [some (.ref a),some (.int (mn:Nat)),some (.ref nh),some (.ref ka),some (.int rk),some (.ref t),some (.int (was:Nat)),some (.ref oa),some (.int at_),some (.int gone),some (.int come),v11,some (.ref ra),some (.bl true),v14,v15,v16] (upd H2 ra (.lst ((aI row).set j (.str y)))):=fun j hj hj0=>by
    rw[oZ]
    obtain⟨tb,htb⟩:=Rg.TabOk.tab hT2
    have nP:Pt≠ra:=fun z=>by rw[z,hra1]at htb;cases htb
    refine fin _ (row.set j y) (fun b u e=>?_) ae (hT2.same ?_ fun b o k=>?_) (by simp) (fun x m=>?_) (fun _ h1 _ h3=>?_)
    ·rw[ag fun z=>by rw[z,nra]at e;cases e]
     exact s02 b u e
    ·rw[ag nP]
    ·have k':H2 b=some (.frz o aU):=k
     show upd H2 ra _ b=_
     rw[ag fun z=>by rw[z,hra1]at k';cases k']
     exact k'
    ·rcases List.mem_or_eq_of_mem_set m with z | z
     ·exact L.wr x z
     ·rw[z];exact L.wk y hyk
    ·have:=hj0 h1 h3
     subst this
     rw[hy,List.getElem?_set_self hj]
   unfold gW at hfit
   have hat:at_=0\/at_=1:=by omega
   rcases hat with z | z
   ·obtain⟨c,ec⟩:∃c:Nat,come=(c:Int):=⟨come.toNat,by omega⟩
    have hrl:row.length=1+c:=by omega
    refine .inl ⟨_,.int come,SqL.of hl1,(by rw[z];rfl),?_⟩
    refine⟨ra,aI row,come,c,rfl,rfl,hra1,?_,put c (by omega) (fun _ h=>by omega)⟩
    rw[aW,ec]
    unfold qu
    rw[if_pos (by omega),if_pos (by omega)]
    rfl
   ·refine .inl ⟨_,.int 0,SqL.of hl1,(by rw[z];rfl),?_⟩
    refine⟨ra,aI row,0,0,rfl,rfl,hra1,?_,put 0 (by omega) (fun h=>by omega)⟩
    rw[aW]
    unfold qu
    rw[if_pos (by omega),if_pos (by omega)]
    rfl
  ·rw[decide_eq_false hg,if_neg (by decide)]
   exact fin H1 row s01 hra hT1 rfl L.wr (fun _ _ h=>absurd h hg)
end
end K46
--@RAISES but law
namespace K46
open PySem PySem.Spec PyProof.Rows L2 Rg
section
variable {P:Program}{w:World}{K:PySem.W.Frag}{mg:Str->Option Value}{base:Heap}{Pt CS CN CB fi:Addr}{mc:Value}{cs:List Addr}
theorem sT (R:Raw K mg "law" st_law ["_law_script"])(T:Txt K w mg)(TX:jf K mg "Stuck" "GrowthError" "place" CS CB fi mc)(TXF:XF K CS)(TE:oB K mg CS CN CB cs)(D__law_cell_at:Def P w K mg base 1 "_law_cell_at" ["_law_script","_law_k"] (kL K))(D__law_names:Def P w K mg base 1 "_law_names" ["_law_base","_law_place","_law_many_here"] (li K))(D__law_row:Def P w K mg base 2 "_law_row" ["_law_script","_law_kinds","_law_others","_law_many_here"] (pY K))(D__law_number:Def P w K mg base 1 "_law_number" ["_law_cell"] uh)(D__law_many:Def P w K mg base 1 "_law_many" ["_law_cell","_law_gone","_law_come"] pF)
  (D__law_read:Def P w K mg base 7 "_law_read" ["_law_tables_here","_law_row_here","_law_old","_law_change"] (iY P w K CS CN Pt)) (D__law_alone:Def P w K mg base 1 "_law_alone" ["_law_fault"] (fU CS CN)) (D__law_whole:Def P w K mg base 1 "_law_whole" ["_law_found"] eK) (D__law_is_way:Def P w K mg base 2 "_law_is_way" ["_law_found","_law_due"] (fO K))
  (D__law_tables:Def P w K mg base 1 "_law_tables" ["_law_sort","_law_rank","_law_kinds"] (i5 P w K)):Def P w K mg base 8 "law" ["_law_script"] (spLaw Pt K):=by
 refine R.defJ iX (fun vs H Q E h=>?_) (fun f cdv A outer s H vs Q E hr h=>?_)
 ·obtain⟨a,ns,rfl,_⟩:=h
  rfl
 ·obtain⟨a,ns,rfl,hS,hl,hT,q⟩:=h
  have sc:=iX
  have hu:=hr.units
  have hb:(1000000:Nat)<sizeLine:=by rw[sizeLine_eq];decide
  obtain⟨u,hP,hq⟩:=sL (outer:=outer) (H:=H) (E:=E) (a:=a) T TX TXF TE hr D__law_read D__law_alone D__law_whole D__law_is_way D__law_tables q
  refine⟨_,(ac (ao (i:=1) sc.nd rfl (Or.inl rfl) (aJ (bx (K:=K)) aj (aJ bS (bq D__law_cell_at (hr.mono (by decide)) rfl (aa (jn 0) (aa aj af))) aj)))
  (ac (ao (i:=2) sc.nd rfl (Or.inl rfl) (bq D__law_names (hr.mono (by decide)) rfl (aa (bq D__law_cell_at (hr.mono (by decide)) rfl (aa (jn 0) (aa aj af))) (aa (bq D__law_cell_at (hr.mono (by decide)) rfl (aa (jn 0) (aa aj af))) (aa (aJ (bx (K:=K)) (jn 1) aj) af)))))
  (ac (ao (i:=3) sc.nd rfl (Or.inl rfl) (iU (pq (K:=K)) (jn 2) lh (fP (jn 1))))
  (ac (ao (i:=4) sc.nd rfl (Or.inl rfl) (aJ bS (bq D__law_cell_at (hr.mono (by decide)) rfl (aa (jn 0) (aa aj af))) aj))
  (ac (ao (i:=5) sc.nd rfl (Or.inl rfl) (bq D__law_tables (hr.mono (by decide)) rfl (aa (aK (dX hu (K:=K) (w:=w)) (jn 2) (jn 1)) (aa (jn 4) (aa (jn 3) af)))))
  (ac (ao (i:=6) sc.nd rfl (Or.inl rfl) (aJ bS (bq D__law_cell_at (hr.mono (by decide)) rfl (aa (jn 0) (aa aj af))) (jn 1)))
  (ac (ao (i:=7) sc.nd rfl (Or.inl rfl) (cr (aa (bi (aa (gk aj) (aa aj (aa aj af)))) (aa (bi (aa (jn 6) (aa aj (aa aj af)))) af))))
  (ac (kj (qe (N:=["_law_k","_law_script"]) (cap:=[none,some 0]) rfl (CompScope.of rfl (by rfl)) (dR rfl T.n_range (aa aj af)) (fun _ _ _ _=>(aP (i:=0) (show List.Nodup [("_law_k":Str),("_law_script":Str)] by decide +kernel) rfl (Or.inl rfl))) (fun _ _ _ _=>lu) (fun _ _ _ _=>(bq D__law_number (hr.mono (by decide)) rfl (aa (bq D__law_cell_at (hr.mono (by decide)) rfl (aa (jn 1) (aa (aJ (bx (K:=K)) aj (jn 0)) af))) af)))) (qK (K:=K) (n:=3) rfl (bB (aP (i:=8) sc.nd rfl (Or.inl rfl)) (bB (aP (i:=9) sc.nd rfl (Or.inl rfl)) (bB (aP (i:=10) sc.nd rfl (Or.inl rfl)) fJ)))))
  (ac (ao (i:=11) sc.nd rfl (Or.inl rfl) (bq D__law_many (hr.mono (by decide)) rfl (aa (bq D__law_cell_at (hr.mono (by decide)) rfl (aa (jn 0) (aa aj af))) (aa (jn 9) (aa (jn 10) af)))))
  (ac (ao (i:=12) sc.nd rfl (Or.inl rfl) (bq D__law_row (hr.mono (by decide)) rfl (aa (jn 0) (aa (jn 3) (aa (aJ (bx (K:=K)) (iU (pq (K:=K)) (jn 2) (fP (jn 1)) lh) (cr (aa dz af))) (aa (jn 11) af))))))
  (ac (ao (i:=13) sc.nd rfl (Or.inl rfl) (dj (dm sJ (jn 8) aj) (dj (dm sJ (jn 9) aj) (dj (dm sJ (jn 10) aj) (dj (dm sH (aJ (bx (K:=K)) (jn 8) (jn 9)) aj) (ig (dm (eH hu (K:=K)) (jn 11) (aJ (bx (K:=K)) (aJ gJ aj (jn 9)) (jn 10)))))))))
  hP))))))))))),?_⟩
  refine⟨a,ns,0,rfl,hS,by decide,?_⟩
  obtain⟨mn,emn⟩:∃mn:Nat,((mn:Nat):Int)=1+ns.getD 0 0 % 24:=⟨(1+ns.getD 0 0 % 24).toNat,by omega⟩
  have hmn:1≤mn/\mn≤24:=by omega
  rw[show qY K (V.int 1) (V.int (ns.getD 0 0 % 24))=fun H Q=>Q (V.int ((mn:Nat):Int)) H by rw[emn];rfl]
  refine⟨a,ns,1,rfl,hS,⟨a,ns,2,rfl,hS,?_⟩⟩
  generalize ns.getD 1 0=c1
  generalize ns.getD 2 0=c2
  refine⟨c1,c2,mn+2,rfl,by omega,fun H1 nh s1 nn1 h1=>?_⟩
  rw[<-sQ]at h1
  have hnl:=sO c1 c2 (mn+2)
  have hnw:=vQ c1 c2 (mn+2)
  have hnn:=vj c1 c2 (show mn+2≤70 by omega)
  generalize tG c1 c2 (mn+2)=names at h1 hnl hnw hnn
  refine .inl ⟨_,SqL.of h1,fun ka nka=>?_⟩
  rw[pK (aI names) (a:=mn) (by rw[aW];omega),mr]
  have s2:=ai (o:=.lst (aI (names.take mn))) nka
  have h2:upd H1 ka (.lst (aI (names.take mn))) ka=some (.lst (aI (names.take mn))):=ae
  have h2n:=s2 _ _ h1
  have s12:=s1.trans s2
  generalize upd H1 ka (.lst (aI (names.take mn)))=H2 at s2 h2 h2n s12 ⊢
  have hkl:(names.take mn).length=mn:=by rw[List.length_take];omega
  have hkw:∀x∈names.take mn,Wd x:=fun x m=>hnw x (List.mem_of_mem_take m)
  have hkn:(names.take mn).Nodup:=hnn.sublist (List.take_sublist _ _)
  generalize hkk:names.take mn=kinds at h2 hkl hkw hkn
  have nk:kinds≠[]:=fun z=>by rw[z]at hkl;simp at hkl;omega
  refine⟨a,ns,3,rfl,s12.seq hS,by decide,?_⟩
  generalize ns.getD 3 0 % 100=rk
  obtain⟨so,hso⟩:∃so,names[mn]?=some so:=⟨_,List.getElem?_eq_getElem (by omega)⟩
  refine .inl ⟨_,_,SqL.of h2n,aG (cC hso),?_⟩
  refine⟨so,rk,ka,kinds,rfl,h2,by omega,hkn,fun H6 t pl be de s6 T6 _ _ _ _ _ _=>?_⟩
  have s16:=s12.trans s6
  have h6k:=s6 _ _ h2
  have h6n:=s6 _ _ h2n
  clear h2 h2n s12 s6 s1 s2 h1
  refine⟨a,ns,4,rfl,s16.seq hS,(by omega),?_⟩
  obtain⟨was,ewas⟩:∃was:Nat,((was:Nat):Int)=ns.getD 4 0 % ((mn:Nat):Int):=by
   have h0:=Int.emod_nonneg (ns.getD 4 0) (show ((mn:Nat):Int)≠0 by omega)
   exact⟨(ns.getD 4 0 % ((mn:Nat):Int)).toNat,by omega⟩
  have hwas:was<mn:=by
   have:=Int.emod_lt_of_pos (ns.getD 4 0) (show (0:Int)<((mn:Nat):Int) by omega)
   omega
  rw[<-ewas]
  refine⟨(show 3≤sizeLine by decide),fun e0 n1=>⟨(show 3≤sizeLine by decide),fun e1 n2=>⟨(show 2≤sizeLine by decide),fun oa n3=>?_⟩⟩⟩
  have A1:=ai (o:=.tup [.int (-1),.int 1,.int 0]) n1
  have A2:=ai (o:=.tup [.int ((was:Nat):Int),.int 1,.int 0]) n2
  have A3:=ai (o:=.lst [.ref e0,.ref e1]) n3
  have old7:Old (upd (upd (upd H6 e0 (.tup [.int (-1),.int 1,.int 0])) e1 (.tup [.int ((was:Nat):Int),.int 1,.int 0])) oa (.lst [.ref e0,.ref e1])) oa was:=⟨e0,e1,ae,(A2.trans A3) _ _ ae,A3 _ _ ae⟩
  have sA:=A1.trans (A2.trans A3)
  have T7:=T6.same sA
  have h7k:=sA _ _ h6k
  have h7n:=sA _ _ h6n
  have s17:=s16.trans sA
  generalize upd (upd (upd H6 e0 (.tup [.int (-1),.int 1,.int 0])) e1 (.tup [.int ((was:Nat):Int),.int 1,.int 0])) oa (.lst [.ref e0,.ref e1])=H7 at old7 T7 h7k h7n s17 ⊢
  clear A1 A2 A3 n1 n2 n3 sA T6 h6k h6n s16
  refine⟨by decide,by decide,?_⟩
  refine gx (lo:=0) (n:=(3:Int).toNat) (fun i ys σ' H'=>H'=H7/\∃(l:List Int) (v:Option V),ys=l.map V.int/\l.length=i/\(∀x∈l,Sml x)/\σ'=[v,some (.ref a)]) (by decide) ⟨rfl,[],none,rfl,rfl,(fun x m=>nomatch m),rfl⟩ (fun i ys σ' H' h=>by obtain⟨_,l,v,rfl,e,_⟩:=h;simp;omega) ?_ ?_
  ·rintro i ys σ' H' hi ⟨rfl,l,v,rfl,ll,hl2,rfl⟩
   have ei:(5:Int)+(0+((i:Nat):Int))=((5+i:Nat):Int):=by omega
   refine⟨a,ns,5+i,(by rw[<-ei]),s17.seq hS,?_⟩
   refine⟨_,rfl,fun n hn=>?_⟩
   refine⟨rfl,l++[n],_,by simp,by simp;omega,fun x m=>?_,rfl⟩
   rcases List.mem_append.mp m with z | z
   ·exact hl2 x z
   ·rw[List.mem_singleton.mp z];exact hn
  rintro ys σ' H' ⟨rfl,l,v0,rfl,ll,hsm,rfl⟩ la nla
  obtain⟨at_,gone,come,rfl⟩:∃x y z,l=[x,y,z]:=by
   match l,ll with
   | [x,y,z],_=>exact⟨x,y,z,rfl⟩
  have A4:=ai (o:=.lst ([at_,gone,come].map V.int)) nla
  refine⟨la,_,rfl,SqL.of ae,rfl,_,_,rfl,_,_,rfl,_,_,rfl,rfl,?_⟩
  have sa:=hsm at_ (by simp)
  have sg:=hsm gone (by simp)
  have scm:=hsm come (by simp)
  have old8:=old7.same A4
  have T8:=T7.same A4
  have h8k:=A4 _ _ h7k
  have h8n:=A4 _ _ h7n
  have s18:=s17.trans A4
  generalize upd H' la (.lst ([at_,gone,come].map V.int))=H8 at old8 T8 h8k h8n s18 ⊢
  clear A4 old7 T7 h7k h7n s17 nla hsm ll
  refine⟨a,ns,8,rfl,s18.seq hS,⟨_,_,_,rfl,fun m hm=>?_⟩⟩
  refine .inl ⟨_,SqL.of h8n,fun o1 no1=>?_⟩
  rw[pS (aI names) (a:=mn) (by rw[aW];omega),mX]
  refine⟨(show 1≤sizeLine by decide),fun o2 no2=>?_⟩
  have s3:=ai (o:=.lst (aI (names.drop mn))) no1
  have s4:=ai (o:=.lst [V.str "stray"]) no2
  refine .inl ⟨_,_,s4 _ _ ae,ae,by rw[aW];simp;omega,fun oo noa=>?_⟩
  rw[show aI (names.drop mn)++[V.str "stray"]=aI (names.drop mn++[("stray":Str)]) from jc _ [("stray":Str)]]
  have s5:=ai (o:=.lst (aI (names.drop mn++[("stray":Str)]))) noa
  have s85:=s3.trans (s4.trans s5)
  have h9o:upd (upd (upd H8 o1 (.lst (aI (names.drop mn)))) o2 (.lst [V.str "stray"])) oo (.lst (aI (names.drop mn++[("stray":Str)]))) oo=some (.lst (aI (names.drop mn++[("stray":Str)]))):=ae
  clear s3 s4 s5
  generalize upd (upd (upd H8 o1 (.lst (aI (names.drop mn)))) o2 (.lst [V.str "stray"])) oo (.lst (aI (names.drop mn++[("stray":Str)])))=H9 at h9o s85 ⊢
  clear no1 no2 noa
  have how:∀x∈names.drop mn++[("stray":Str)],Wd x:=fun x m=>by
   rcases List.mem_append.mp m with z | z
   ·exact hnw x (List.mem_of_mem_drop z)
   ·rw[List.mem_singleton.mp z]
    exact⟨by decide +kernel,by decide⟩
  have nos:names.drop mn++[("stray":Str)]≠[]:=by simp
  generalize names.drop mn++[("stray":Str)]=others at h9o how nos
  have s19:=s18.trans s85
  refine⟨a,ka,oo,ns,kinds,others,m,rfl,s19.seq hS,by omega,SqL.of (s85 _ _ h8k),SqL.of h9o,nk,nos,fun HA ra row sA nra hra hlr hin=>?_⟩
  have hTA:=Rg.TabOk.grow hT (s19.trans sA)
  have hw:∀x∈row,Wd x:=fun x m=>(hin x m).elim (hkw x) (how x)
  have hsm:so∈names:=List.mem_of_getElem? hso
  have key:∀b:Bool,(b=true↔¬ gW 1 (row.length:Nat) at_ gone come)->u { nx:=fun _ H'=>Q .non H',rt:=Q } [some (.ref a),some (.int (mn:Nat)),some (.ref nh),some (.ref ka),some (.int rk),some (.ref t),some (.int (was:Nat)),some (.ref oa),some (.int at_),some (.int gone),some (.int come),some (.int (m:Nat)),some (.ref ra),some (.bl b),none,none,none] HA:=fun b hbb =>
   hq H9 HA nh ka ra t pl be de oa names kinds row so rk mn was at_ gone come b _ _ _ _ ⟨s85 _ _ h8n,s85 _ _ h8k,T8.same s85,hso,hkn,by omega,by omega,hkw,hw,hnw _ hsm,old8.same s85,by omega,sa,sg,scm,hbb⟩ sA nra hra hTA
  have kf:=fun (hbd:gW 1 (row.length:Nat) at_ gone come)=>key false ⟨(fun z=>by cases z),fun z=>absurd hbd z⟩
  have nb:∀{p:Prop} [Decidable p],¬ decide p=true->¬ p:=fun h y=>h (decide_eq_true y)
  clear hq hin
  show if decide (0≤at_)=true then _ else _
  refine dW (fun h1=>?_) (fun h1=>kf (.inl (by have:=nb h1;omega)))
  have g1:=of_decide_eq_true h1
  show if decide (0≤gone)=true then _ else _
  refine dW (fun h1=>?_) (fun h1=>kf (.inr (.inl (by have:=nb h1;omega))))
  have g2:=of_decide_eq_true h1
  show if decide (0≤come)=true then _ else _
  refine dW (fun h1=>?_) (fun h1=>kf (.inr (.inr (.inl (by have:=nb h1;omega)))))
  have g3:=of_decide_eq_true h1
  show if decide (at_+gone≤1)=true then _ else _
  refine dW (fun h1=>?_) (fun h1=>kf (.inr (.inr (.inr (.inl (by have:=nb h1;omega))))))
  have g4:=of_decide_eq_true h1
  refine key _ ?_
  rw[Bool.false_xor,decide_eq_true_iff]
  constructor
  ·intro e z
   unfold gW at z
   omega
  ·intro z
   unfold gW at z
   omega
end
end K46
namespace K46
open PySem PySem.Spec PyProof.Rows L2 Rg
section
variable {P:Program}{w:World}{K:PySem.W.Frag}{mg:Str->Option Value}{base:Heap}{C CS CN CB fi:Addr}{mc:Value}{cs:List Addr}{c__law_read P__law_read:Addr}
structure ClsA (K:PySem.W.Frag)(mg:Str->Option Value)(C:Addr):Prop where
 tc:gM K mg C
 m0:RawM K C "__init__" "Reader.__init__" bC ["self","tables"]
 m2:RawM K C "topmost" "Reader.topmost" bI ["self"]
 m3:RawM K C "settle" "Reader.settle" bM ["self","kind","number"]
 m4:RawM K C "deed_for" "Reader.deed_for" bE ["self","kind","number"]
 m5:RawM K C "put_together" "Reader.put_together" bd ["self","number"]
 m6:RawM K C "lay" "Reader.lay" cI ["self","symbol","words"]
 m7:RawM K C "take" "Reader.take" cf ["self","kind","number"]
 m8:RawM K C "take_whole" "Reader.take_whole" bu ["self","stretch","symbol"]
theorem cls_mk {h:Heap}(X:K.In h)(G:h.Ns mainGlobals mg)(a:PySem.W.nsIn K mainGlobals "Reader"=some (some (.ref C)))(pg:PySem.W.plainGet K C Str.empty=true)(hd:PySem.W.hasDictIn K C=true)(po:PySem.W.plainOver K C=true)(sa:PySem.W.findIn K (.ref C) "__setattr__"=some (some (.builtin "object.__setattr__")))
  (n1:PySem.W.findIn K (.ref C) "plain"=some none) (n2:PySem.W.findIn K (.ref C) "behind"=some none) (n3:PySem.W.findIn K (.ref C) "deeds"=some none) (n4:PySem.W.findIn K (.ref C) "states"=some none) (n5:PySem.W.findIn K (.ref C) "spans"=some none) (n6:PySem.W.findIn K (.ref C) "way"=some none) (mk:PySem.W.makesIn K C=true) (kp:PySem.W.keepIn K (.ref C)=true):gM K mg C :=
 ⟨⟨pg,hd,po,sa⟩,n1,n2,n3,n4,n5,n6,⟨PySem.W.mg_of X G a,mk,kp⟩⟩
structure ExA (K:PySem.W.Frag)(mg:Str->Option Value)(CS CN CB fi:Addr)(mc:Value)(cs:List Addr):Prop where
 x:jf K mg "Stuck" "GrowthError" "place" CS CB fi mc
 m:RawM K CS "__init__" "Stuck.__init__" bj ["self","place"]
 e:oB K mg CS CN CB cs
 f:XF K CS
 n:vn K mg CN CS
theorem sK {C D:Addr}(h:PySem.W.mroIn K C (.ref D)=some false):dJ K C (.ref D)=false:=by
 obtain⟨cd,a,b⟩:=Option.bind_eq_some_iff.mp h
 unfold PySem.W.clsIn at a
 split at a
 ·rename_i ho
  cases a
  split at b
  ·cases b
  ·unfold dJ
   rw[ho]
   exact Option.some.inj b
 ·cases a
theorem exa_mk {h:Heap}{b0 b1 b2 b3 b4 b5 b6 b7 b8:Addr}(X:K.In h)(G:h.Ns mainGlobals mg)(nn1:mg "isinstance"=none)(nn2:mg "ValueError"=none)(a:PySem.W.nsIn K mainGlobals "Stuck"=some (some (.ref CS)))(an:PySem.W.nsIn K mainGlobals "NoFit"=some (some (.ref CN)))(b:PySem.W.nsIn K mainGlobals "GrowthError"=some (some (.ref CB)))(ini:PySem.W.findIn K (.ref CS) "__init__"=some (some (.ref fi)))(kp:PySem.W.keepIn K (.ref CS)=true)(ex:ff K CS fi=true)(fn:PySem.W.isFn K (.ref fi)=true)
  (sp:PySem.W.specialIn K (.ref CB) "__getattribute__"=some (some (.builtin "type.__getattribute__"))) (rd:PySem.W.readsIn K CB mc=true) (fc:PySem.W.findCls K (.ref CB) mc "__init__"=some (.val (.builtin "ValueError.__init__"))) (sa:PySem.W.findIn K (.ref CS) "__setattr__"=some (some (.builtin "object.__setattr__"))) (ve:gu K CS=true) (tk:PySem.W.takerIn K CS "place"=some none) (hd:PySem.W.hasDictIn K CS=true)
  (c0:PySem.W.nsIn K mainGlobals "NoForm"=some (some (.ref b0))) (c1:PySem.W.nsIn K mainGlobals "NoRule"=some (some (.ref b1))) (c2:PySem.W.nsIn K mainGlobals "NoRow"=some (some (.ref b2))) (c3:PySem.W.nsIn K mainGlobals "NoFloor"=some (some (.ref b3))) (c4:PySem.W.nsIn K mainGlobals "Barren"=some (some (.ref b4))) (c5:PySem.W.nsIn K mainGlobals "Idle"=some (some (.ref b5))) (c6:PySem.W.nsIn K mainGlobals "TooLarge"=some (some (.ref b6))) (c7:PySem.W.nsIn K mainGlobals "Clash"=some (some (.ref b7))) (c8:PySem.W.nsIn K mainGlobals "TooLong"=some (some (.ref b8)))
  (f1:PySem.W.findIn K (.ref CS) "__getattribute__"=some (some (.builtin "BaseException.__getattribute__"))) (f2:PySem.W.findIn K (.ref CS) "__getattr__"=some none) (f3:PySem.W.findIn K (.ref CS) "__class__"=some (some (.builtin "object.__class__"))) (ob:PySem.W.mroIn K CS (.type "object")=some true) (pl:PySem.W.findIn K (.ref CS) "place"=some none)
  (xn:PySem.W.excIn K CN iW "ValueError.__new__"=true) (g1:PySem.W.findIn K (.ref CN) "__getattribute__"=some (some (.builtin "BaseException.__getattribute__"))) (g2:PySem.W.findIn K (.ref CN) "__getattr__"=some none) (g3:PySem.W.findIn K (.ref CN) "__class__"=some (some (.builtin "object.__class__"))) (on:PySem.W.mroIn K CN (.type "object")=some true) (mn:PySem.W.mroIn K CN (.ref CS)=some false)
  (noups:PySem.W.kitOne K (.ref CS) (.ref CB)=some true) (noupn:PySem.W.kitOne K (.ref CN) (.ref CB)=some true) (noves:PySem.W.kitOne K (.ref CS) (.type "ValueError")=some true) (noven:PySem.W.kitOne K (.ref CN) (.type "ValueError")=some true)
  (noss:PySem.W.kitOne K (.ref CS) (.ref CS)=some true) (nosn:PySem.W.kitOne K (.ref CS) (.ref CN)=some false) (nons:PySem.W.kitOne K (.ref CN) (.ref CS)=some false) (nonn:PySem.W.kitOne K (.ref CN) (.ref CN)=some true)
  (nos0:PySem.W.kitOne K (.ref CS) (.ref b0)=some false) (nos1:PySem.W.kitOne K (.ref CS) (.ref b1)=some false) (nos2:PySem.W.kitOne K (.ref CS) (.ref b2)=some false) (nos3:PySem.W.kitOne K (.ref CS) (.ref b3)=some false) (nos4:PySem.W.kitOne K (.ref CS) (.ref b4)=some false) (nos5:PySem.W.kitOne K (.ref CS) (.ref b5)=some false) (nos6:PySem.W.kitOne K (.ref CS) (.ref b6)=some false) (nos7:PySem.W.kitOne K (.ref CS) (.ref b7)=some false) (nos8:PySem.W.kitOne K (.ref CS) (.ref b8)=some false)
  (non0:PySem.W.kitOne K (.ref CN) (.ref b0)=some false) (non1:PySem.W.kitOne K (.ref CN) (.ref b1)=some false) (non2:PySem.W.kitOne K (.ref CN) (.ref b2)=some false) (non3:PySem.W.kitOne K (.ref CN) (.ref b3)=some false) (non4:PySem.W.kitOne K (.ref CN) (.ref b4)=some false) (non5:PySem.W.kitOne K (.ref CN) (.ref b5)=some false) (non6:PySem.W.kitOne K (.ref CN) (.ref b6)=some false) (non7:PySem.W.kitOne K (.ref CN) (.ref b7)=some false) (non8:PySem.W.kitOne K (.ref CN) (.ref b8)=some false)
  (m:RawM K CS "__init__" "Stuck.__init__" bj ["self","place"]):ExA K mg CS CN CB fi mc [b0,b1,b2,b3,b4,b5,b6,b7,b8] :=
 ⟨⟨PySem.W.mg_of X G a,PySem.W.mg_of X G b,kp,ex,fn,ini,sp,rd,fc,sa,ve,tk,hd⟩,m,
  ⟨nn1,nn2,PySem.W.mg_of X G b,PySem.W.mg_of X G an,PySem.W.mg_of X G a,PySem.W.mg_of X G c0,PySem.W.mg_of X G c1,PySem.W.mg_of X G c2,PySem.W.mg_of X G c3,PySem.W.mg_of X G c4,PySem.W.mg_of X G c5,PySem.W.mg_of X G c6,PySem.W.mg_of X G c7,PySem.W.mg_of X G c8,.inr ⟨fi,ex,f1,f2,f3,ob⟩,.inl ⟨xn,g1,g2,g3,on⟩,noups,noupn,noves,noven,noss,nosn,nons,nonn,
   fun i hi=>match i,hi with | 0,_=>nos0 | 1,_=>nos1 | 2,_=>nos2 | 3,_=>nos3 | 4,_=>nos4 | 5,_=>nos5 | 6,_=>nos6 | 7,_=>nos7 | 8,_=>nos8 | n+9,h=>absurd h (by omega),
   fun i hi=>match i,hi with | 0,_=>non0 | 1,_=>non1 | 2,_=>non2 | 3,_=>non3 | 4,_=>non4 | 5,_=>non5 | 6,_=>non6 | 7,_=>non7 | 8,_=>non8 | n+9,h=>absurd h (by omega)⟩,⟨pl,f1,f2⟩,⟨PySem.W.mg_of X G an,xn,sK mn⟩⟩
theorem law_of (R0:Raw K mg "_law_cell_at" st__law_cell_at ["_law_script","_law_k"])(R1:Raw K mg "_law_names" st__law_names ["_law_base","_law_place","_law_many_here"])(R2:Raw K mg "_law_tables" st__law_tables ["_law_sort","_law_rank","_law_kinds"])(R3:Raw K mg "_law_row" st__law_row ["_law_script","_law_kinds","_law_others","_law_many_here"])(R4:RawC K mg "_law_read" st__law_read ["_law_tables_here","_law_row_here","_law_old","_law_change"] c__law_read P__law_read)(R5:Raw K mg "_law_alone" st__law_alone ["_law_fault"])(R6:Raw K mg "_law_whole" st__law_whole ["_law_found"])(R7:Raw K mg "_law_is_way" st__law_is_way ["_law_found","_law_due"])
  (R8:Raw K mg "_law_number" st__law_number ["_law_cell"]) (R9:Raw K mg "_law_many" st__law_many ["_law_cell","_law_gone","_law_come"]) (R10:Raw K mg "check_change" st_check_change ["many_old","many_new","at","gone","come"]) (R11:Raw K mg "read_again" st_read_again ["tables","ask","many","old","at","gone","come"]) (R12:Raw K mg "untouched" st_untouched ["old","at","gone","come"]) (R13:Raw K mg "symbols_of_rules" st_symbols_of_rules ["plain"]) (R14:Raw K mg "law" st_law ["_law_script"]) (B:fm mg base) (T:Txt K w mg) (Z:ClsA K mg C) (Y:ExA K mg CS CN CB fi mc cs):Def P w K mg base 8 "law" ["_law_script"] (spLaw P__law_read K):=by
 have hInit:=oW (P:=P) (w:=w) (base:=base) Z.tc Z.m0
 have hTop:=rF (P:=P) (w:=w) (base:=base) Z.tc Z.m2
 have hLay:=sW Z.tc Z.m6 hTop
 have hStuck:=nR (P:=P) (w:=w) (base:=base) Y.x Y.m
 have hDeed:=pd Z.tc Y.x Z.m4 hTop hStuck
 have hPut:=rn Z.tc T Z.m5 hTop hLay
 have hSet:=tI Z.tc T Z.m3 hDeed hPut
 have hTake:=pL Z.tc T Z.m7 hTop hLay hSet
 have hTakeW:=mH Z.tc T Z.m8 hLay
 have hAgain:=mD R11 Z.tc T (sy R10 Y.n) (rZ R12 T) (sr R13 T) hInit hTop hSet hTakeW hTake
 have hWhole:=mL (P:=P) (w:=w) (base:=base) R6 T
 have hCell:=qB (P:=P) (w:=w) (base:=base) R0 T
 exact sT R14 T Y.x Y.f Y.e hCell (mt R1 T) (p0 R3 T hCell) (sS R8) (ot R9) (n0 R4 B T Y.x Y.n hAgain) (nF R5 Y.e) hWhole (mP R7 T hWhole) (qD R2 T)
theorem law_start {H:Hp}{a:Addr}{ns:List Int}{Pt:Addr}(hl:ns.length≤63)(hO:∀q∈[Pt],H q=some (.tbl #[]))(hS:SqL K H a (ns.map V.int)):spLaw Pt K [.ref a] H (fun v _=>v=.bl true) fun _ _ _=>False :=
 ⟨a,ns,rfl,hS,hl,Rg.TabOk.start (hO _ List.mem_cons_self),fun _=>rfl⟩
end
end K46
open PySem PySem.W PyProof.Rows
namespace PySem.W.Fast
def tw17257113250809677177:Nat:=0
def tw6863593904750153473:Nat:=0
def tw15856460835211033337:Nat:=0
def tw16486223463389072056:Nat:=0
def tw5813019366865105532:Nat:=0
def tw10569128049584622539:Nat:=0
def tw1693341208012567220:Nat:=0
def tw3544022499133368845:Nat:=0
def tw2256630558038141879:Nat:=0
def tw12776068792030942648:Nat:=0
def tw13233035601608073406:Nat:=0
def tw5387119737082081302:Nat:=0
def tw8190265608833605799:Nat:=0
def tw11915846719129530943:Nat:=0
def tw11069807485342732455:Nat:=0
def tw7797016325483392225:Nat:=0
def tw18430737212884830252:Nat:=0
def tw16459940895652767546:Nat:=0
def tw744999064044221095:Nat:=0
def tw6166829821021372100:Nat:=0
def tw10255688397098210378:Nat:=0
def tw8101272128056718649:Nat:=0
def tw3567325458063772922:Nat:=0
def tw5637172310223316122:Nat:=0
def tw11881234315730480514:Nat:=0
def tw11528358873280883400:Nat:=0
def tw11027371046492446921:Nat:=0
def tw9268176292398163665:Nat:=0
def tw1382090865492975483:Nat:=0
def tw15538634448728947349:Nat:=0
def tw14308734116229466885:Nat:=0
def tw7637605305268945090:Nat:=0
def tw9905446333337961188:Nat:=0
def tw6285187621333425926:Nat:=0
def tw4398228211913875518:Nat:=0
def tw2720543762534858441:Nat:=0
def tw9935966899347087061:Nat:=0
def tw16978311265683795666:Nat:=0
def tw14134488592459286719:Nat:=0
def tw3485302121089111971:Nat:=0
def tw16636370355354871598:Nat:=0
def tw5703090944465256575:Nat:=0
def tw4587939771746377408:Nat:=0
def tw2135878981484418383:Nat:=0
def tw17193417744785144344:Nat:=0
def tw5043900834545486607:Nat:=0
def tw10976161807640059664:Nat:=0
def tw4938959664166832459:Nat:=0
def tw8146855090375212992:Nat:=0
def tw15335146973624305253:Nat:=0
def tw4471633903299709020:Nat:=0
def tw3665517361111075184:Nat:=0
def tw13666468755168411191:Nat:=0
def tw2030759570687867262:Nat:=0
def tw7094140678944166855:Nat:=0
def tw3606890315138643056:Nat:=0
def tw5286058269078629270:Nat:=0
def tw12951756853431256871:Nat:=0
def tw18320198313402661951:Nat:=0
def tw2410763260354362581:Nat:=0
def tw2052189590162294399:Nat:=0
def tw12050003744206090628:Nat:=0
def tw10649789673900961980:Nat:=0
def tw3511049834390166097:Nat:=0
def tw17706541835338280547:Nat:=0
def tw7263526141966868073:Nat:=0
def tw12825423457663455169:Nat:=0
def tw15500480583306499600:Nat:=0
def tw6003646835112601849:Nat:=0
def tw15118909306248840881:Nat:=0
def tw15430324122188626830:Nat:=0
def tw9712655971231970360:Nat:=0
def tw6137125931950867129:Nat:=0
def tw5477038663495783412:Nat:=0
def tw4599438812595600385:Nat:=0
def tw2542146291875505647:Nat:=0
def tw3835361835010965733:Nat:=0
def tw18280888781383929462:Nat:=0
def tw17850412967680781247:Nat:=0
def tw6903153460966052293:Nat:=0
def tw7105812811644487987:Nat:=0
def tw2961647933991673760:Nat:=0
def tw7819867189360680184:Nat:=0
def tw7399105146046787903:Nat:=0
def tw11144564561192359631:Nat:=0
def tw4749081022074111494:Nat:=0
def tw15889718993323546325:Nat:=0
def tw11789348279159242974:Nat:=0
def tw5927007562086453247:Nat:=0
def tw18061105087494669354:Nat:=0
def tw15247788471835066992:Nat:=0
def tw5993751477776329179:Nat:=0
def tw1443942837390338084:Nat:=0
def tw11951650741708018330:Nat:=0
def tw13263845004387684378:Nat:=0
def tw18081123200919512395:Nat:=0
def tw3292882683630033279:Nat:=0
def tw9550689876129897411:Nat:=0
def tw12764183454297689722:Nat:=0
def tw890924981551695903:Nat:=0
def tw2969247484988883770:Nat:=0
def tw1516308728330178132:Nat:=0
def tw7419807608647971354:Nat:=0
def tw5596458684584627056:Nat:=0
def tw1178456649262682234:Nat:=0
def tw3962335179847336637:Nat:=0
def tw18347276997495130830:Nat:=0
def tw18436105440026638297:Nat:=0
def tw1523158403375309609:Nat:=0
def tw6747290537003174274:Nat:=0
def tw16784358104041061640:Nat:=0
def tw6412584389374055415:Nat:=0
def tw12193573620094909320:Nat:=0
def tw1775730002457942639:Nat:=0
def tw18249516532256912577:Nat:=0
def tw8125256473441548802:Nat:=0
def tw18380953644083399522:Nat:=0
def tw4866228697612288474:Nat:=0
def tw7989130330398716790:Nat:=0
def tw18006363125313785323:Nat:=0
def tw6933118998927059451:Nat:=0
def tw2044378703035657075:Nat:=0
def tw4617225965343149415:Nat:=0
def tw3764930369338221602:Nat:=0
def tw9295449265602221090:Nat:=0
def tw17144906908051898043:Nat:=0
def tw13433171814052825640:Nat:=0
def tw14710615599806012075:Nat:=0
def tw777802654133782019:Nat:=0
def tw10587927355670684780:Nat:=0
def tw10667758716681945269:Nat:=0
def tw9248664126841560281:Nat:=0
def tw16285502200418270743:Nat:=0
def tw10663323315557347094:Nat:=0
def tw16586095430196099713:Nat:=0
def tw8626657832808287352:Nat:=0
def tw11721535010704992417:Nat:=0
def tw7182560014356181973:Nat:=0
def tw3243376758714894074:Nat:=0
def tw8273720152455012488:Nat:=0
def tw3314455867125760192:Nat:=0
def tw1336347205220312655:Nat:=0
def tw8075446031254806105:Nat:=0
def tw17297729652250985380:Nat:=0
def tw11872964243157665924:Nat:=0
def tw9642556260504547301:Nat:=0
def tw741835913006357608:Nat:=0
def tw123145261769947087:Nat:=0
def tw18424806548142250685:Nat:=0
def tw6224902466327015301:Nat:=0
def tw11013516662729978328:Nat:=0
def tw11714782601691235337:Nat:=0
def tw16280628965599341120:Nat:=0
def tw4916066076066918478:Nat:=0
def tw9268045505234217290:Nat:=0
def tw15775840256405056101:Nat:=0
def tw14116863799607656116:Nat:=0
def tw11425262868126917040:Nat:=0
def tw1040257608703369110:Nat:=0
def tw9739723259782507363:Nat:=0
def tw16517050189078738528:Nat:=0
def tw191447512890833066:Nat:=0
def tw6991102904628851225:Nat:=0
def tw18394553693667496349:Nat:=0
def tw6830656748575281328:Nat:=0
def tw10282728799542469303:Nat:=0
def tw4282367240596389065:Nat:=0
def tw9859867949176870164:Nat:=0
def tw13095326466678342111:Nat:=0
def tw3276817065855720378:Nat:=0
def tw18390474493546385741:Nat:=0
def tw7940091095072717576:Nat:=0
def tw13864565484973357013:Nat:=0
def tw15501146812109572754:Nat:=0
def tw7480854046790095622:Nat:=0
def tw11330622606647960651:Nat:=0
def tw4291274258920936712:Nat:=0
def tw18013408767547049852:Nat:=0
def tw8909938465332198452:Nat:=0
def tw1692137667004445694:Nat:=0
def tw16335601750477340817:Nat:=0
def tw232870535008842504:Nat:=0
def tw10330372544484003155:Nat:=0
def tw4323722395903460613:Nat:=0
def tw5606227216355993048:Nat:=0
def tw873968730533796470:Nat:=0
def tw10765022848799090903:Nat:=0
def tw11139763107945565608:Nat:=0
def tw14985751384474649747:Nat:=0
def tw16884271528952955405:Nat:=0
def tw2579824164703275569:Nat:=0
def tw5842513979610088892:Nat:=0
def tw9144744086080500402:Nat:=0
def tw4331313317906970233:Nat:=0
def tw6453156982526903323:Nat:=0
def tw17879903553729112780:Nat:=0
def tw363763327132309830:Nat:=0
def tw7271552092093623866:Nat:=0
def tw1389676115531484061:Nat:=0
def tw14270046019685384165:Nat:=0
def tw12661020845413145771:Nat:=0
def tw15885665588416521958:Nat:=0
def tw6663631667117736913:Nat:=0
def tw4079605940782406125:Nat:=0
def tw12784962299266628898:Nat:=0
def tw6573159958444479819:Nat:=0
def tw11678895496037807660:Nat:=0
def tw9504668756192365726:Nat:=0
def tw6890293253371700185:Nat:=0
def tw9937800568560471377:Nat:=0
def tw9747854142187016652:Nat:=0
def tw8657202444137632775:Nat:=0
def tw7023394255460429605:Nat:=0
def tw8816579348344846988:Nat:=0
def tw8710202981196095433:Nat:=0
def tw10913015465359424274:Nat:=0
def tw4469420366838200530:Nat:=0
def tw10728195992244516932:Nat:=0
def tw6602293731781234363:Nat:=0
def tw9745990744264991254:Nat:=0
def tw12218286728205160467:Nat:=0
def tw18151665067880369914:Nat:=0
def tw8005463603304666572:Nat:=0
def tw11145188693909781244:Nat:=0
def tw11762402613289926343:Nat:=0
def tw9528637121656817296:Nat:=0
def tw8373370650202576760:Nat:=0
def tw13697961360393629569:Nat:=0
def tw9686076388890989014:Nat:=0
def tw11656202530215907883:Nat:=0
def tw10600564184709240353:Nat:=0
def tw1438665143179958560:Nat:=0
def tw8233446097446788558:Nat:=0
def tw2123906320167896920:Nat:=0
def tw1080634908330767573:Nat:=0
def tw15600444260062316517:Nat:=0
def tw2648862802378698630:Nat:=0
def tw11790297540170629904:Nat:=0
def tw11269367314273832808:Nat:=0
def tw12176749410678607076:Nat:=0
def tw8940547271099287505:Nat:=0
def tw9935597501120830782:Nat:=0
def tw902432174572492991:Nat:=0
def tw9210870020664221976:Nat:=0
def tw4534546414319625593:Nat:=0
def tw8074743073218495820:Nat:=0
def tw8454409044719920613:Nat:=0
def tw11649913509365889405:Nat:=0
def tw12720961674235079641:Nat:=0
def tw14409509250206005630:Nat:=0
def tw10211987791234021551:Nat:=0
def tw15314943890683553715:Nat:=0
def tw6608128428161302116:Nat:=0
def tw2879672083983200906:Nat:=0
def tw3732849789145000912:Nat:=0
def tw5554436810101085797:Nat:=0
def tw11451372832216036152:Nat:=0
def tw8711083211929752423:Nat:=0
def tw14018343760174908683:Nat:=0
def tw10089605728353998561:Nat:=0
def tw15148990376276344956:Nat:=0
def tw5287208642402337545:Nat:=0
def tw12750034720405779603:Nat:=0
def tw17459534631979866950:Nat:=0
def tw4034017632191714718:Nat:=0
def tw5660120102197521569:Nat:=0
def tw15626252803035999934:Nat:=0
def tw15586510166015518764:Nat:=0
def tw6576637512939691692:Nat:=0
def tw14242191735759180741:Nat:=0
def tw2166877114065126649:Nat:=0
def tw14109426367160332048:Nat:=0
def tw12890425853087574754:Nat:=0
def tw10211498918667482567:Nat:=0
def tw11009476357031208270:Nat:=0
def tw10267165814783398128:Nat:=0
def tw7917967068698743879:Nat:=0
def tw975426263627741476:Nat:=0
def tw15779413486721531762:Nat:=0
def tw17382583608425513529:Nat:=0
def tw14287721800235740541:Nat:=0
def tw5266747284913779551:Nat:=0
def tw5303800777998510225:Nat:=0
def tw10341736099807902993:Nat:=0
def tw2278221281569974053:Nat:=0
def tw149779627571270105:Nat:=0
def tw1749410522895786874:Nat:=0
def tw14025976875414148864:Nat:=0
def tw16297076171323412485:Nat:=0
def tw6523641343417574513:Nat:=0
def tw9798645097219941534:Nat:=0
def tw1560173932545158777:Nat:=0
def tw15127174697293889090:Nat:=0
def tw14269407485046949218:Nat:=0
def tw3226172045675581177:Nat:=0
def tw9411239486082616388:Nat:=0
def tw17829665168368667743:Nat:=0
def tw18164952019572087551:Nat:=0
def tw4249683728056565201:Nat:=0
def tw17068927731670354414:Nat:=0
def tw14502216297081287065:Nat:=0
def tw12737459566331866043:Nat:=0
def tw4318627057573792731:Nat:=0
def tw11800185239243635044:Nat:=0
def tw1975962956730807577:Nat:=0
def tw15160501416277511771:Nat:=0
def tw7998747424331892200:Nat:=0
def tw17585067199881197944:Nat:=0
def tw7986264595965636772:Nat:=0
def tw13032446999243346097:Nat:=0
def tw8023404244965136499:Nat:=0
def tw5956026927708651325:Nat:=0
def tw18407539850414739284:Nat:=0
def tw3206523969583754961:Nat:=0
def tw11855198299171158105:Nat:=0
def tw9482541119480994291:Nat:=0
def tw9926690796452458920:Nat:=0
def tw5195293784406509107:Nat:=0
def tw3649463529946806304:Nat:=0
def tw17045280958921514661:Nat:=0
def tw6832515468126013488:Nat:=0
def tw16972203061368066225:Nat:=0
def tw12563866770867354970:Nat:=0
def tw14228957954067946202:Nat:=0
def tw11330515529347779295:Nat:=0
def tw14942662179439873002:Nat:=0
def tw1778836975209437346:Nat:=0
def tw11894952259855259789:Nat:=0
def tw9346394421545463161:Nat:=0
def tw5059266435219861531:Nat:=0
def tw16962249046294001812:Nat:=0
def tw16453313024920241512:Nat:=0
def tw1714293119769614333:Nat:=0
def tw8011249223796418660:Nat:=0
def tw8875766570801830280:Nat:=0
def tw11918050279974141799:Nat:=0
def tw8562080930206992639:Nat:=0
def tw6787564958072397773:Nat:=0
def tw9660382116166802181:Nat:=0
def tw1224957092845321919:Nat:=0
def tw11244969137459934905:Nat:=0
def tw127010696386897446:Nat:=0
def tw5182579270085673088:Nat:=0
def tw16890407121642833085:Nat:=0
def tw1525775662521630534:Nat:=0
def tw7557633220172600601:Nat:=0
def tw13128641370693258991:Nat:=0
def tw1747313355065312374:Nat:=0
def tw15044112690829404571:Nat:=0
def tw4876480800123748867:Nat:=0
def tw18409283413656209412:Nat:=0
def tw11617366235793234552:Nat:=0
def tw9870004364991159367:Nat:=0
def tw6985973052499332778:Nat:=0
def tw14553092846315305513:Nat:=0
def tw6025416219894365013:Nat:=0
def tw220136340069219868:Nat:=0
def tw5389896896168953797:Nat:=0
def tw13635981542029005929:Nat:=0
def tw10333346310563248048:Nat:=0
def tw9423201641136443670:Nat:=0
def tw4731389899369191097:Nat:=0
def tw4136456069857346228:Nat:=0
def tw14874484732493474142:Nat:=0
def tw11799333809033247088:Nat:=0
def tw15900348282374464422:Nat:=0
def tw16479458242417629809:Nat:=0
def tw6707449115158021964:Nat:=0
def tw3892492902327247156:Nat:=0
def tw6081365771073589533:Nat:=0
def tw5689843143536852321:Nat:=0
def tw1439451665289075569:Nat:=0
def tw7412839422363512800:Nat:=0
def tw13634753651517732135:Nat:=0
def tw4235148818978785542:Nat:=0
end PySem.W.Fast
namespace L2
theorem y9 {p:List Value->Prop}(h:Unit->p []):∀us,us.length=0->p us:=fun us e=>by rw[List.length_eq_zero_iff.mp e];exact h ()
theorem ofLen1 {p:List Value->Prop}(h:∀a,p [a]):∀us,us.length=1->p us:=fun us e=>by obtain⟨a,rfl⟩:=List.length_eq_one_iff.mp e;exact h a
theorem ofLen2 {p:List Value->Prop}(h:∀a b,p [a,b]):∀us,us.length=2->p us:=fun us e=>match us with
 | []=>by cases e
 | a::r=>ofLen1 (p:=fun z=>p (a::z)) (h a) r (Nat.succ.inj e)
theorem ofLen3 {p:List Value->Prop}(h:∀a b c,p [a,b,c]):∀us,us.length=3->p us:=fun us e=>match us with
 | []=>by cases e
 | a::r=>ofLen2 (p:=fun z=>p (a::z)) (h a) r (Nat.succ.inj e)
theorem ofLen4 {p:List Value->Prop}(h:∀a b c d,p [a,b,c,d]):∀us,us.length=4->p us:=fun us e=>match us with
 | []=>by cases e
 | a::r=>ofLen3 (p:=fun z=>p (a::z)) (h a) r (Nat.succ.inj e)
theorem ofLen5 {p:List Value->Prop}(h:∀a b c d e,p [a,b,c,d,e]):∀us,us.length=5->p us:=fun us e=>match us with
 | []=>by cases e
 | a::r=>ofLen4 (p:=fun z=>p (a::z)) (h a) r (Nat.succ.inj e)
theorem uV {p:List Value->Prop}(h:∀a b c d e f,p [a,b,c,d,e,f]):∀us,us.length=6->p us:=fun us e=>match us with
 | []=>by cases e
 | a::r=>ofLen5 (p:=fun z=>p (a::z)) (h a) r (Nat.succ.inj e)
theorem ofLen7 {p:List Value->Prop}(h:∀a b c d e f g,p [a,b,c,d,e,f,g]):∀us,us.length=7->p us:=fun us e=>match us with
 | []=>by cases e
 | a::r=>uV (p:=fun z=>p (a::z)) (h a) r (Nat.succ.inj e)
theorem y4 {p:List Value->Prop}(h:∀a b c d e f g h,p [a,b,c,d,e,f,g,h]):∀us,us.length=8->p us:=fun us e=>match us with
 | []=>by cases e
 | a::r=>ofLen7 (p:=fun z=>p (a::z)) (h a) r (Nat.succ.inj e)
end L2
set_option maxRecDepth 100000 in
set_option maxHeartbeats 0 in
theorem PySem.Challenge.cw_regrowth_k46_changes_that_fit_holds : PySem.Challenge.rw_regrowth_k46_changes_that_fit.Holds := by
 w_on;o_law;k_head;(case hw=>w_witness2)
 k_fill
 refine L2.walk_of2 (l:=PySem.Challenge.rw_regrowth_k46_changes_that_fit) (n:=63) (k:=8) (x:="_law_script") (CX:=L2.CX0) (sp:=K46.spLaw 332) [332] rfl (by decide) rfl ⟨rfl,by decide,by decide,rfl⟩ (fun w h Y=>PySem.W.km_in_of Y) ?TT ?NT ?F ?S ?C
 case F =>
  intro w mg fa h KX G hmg
  have R0:L2.Raw (L2.KOf KX) mg "_law_cell_at" K46.st__law_cell_at ["_law_script","_law_k"]:=by
   dsimp only[L2.KOf]
   refine' L2.Raw.mk' KX G ?a0 ?l0 ?c0 ?k0 ?b0
   (case a0=>k_is)
   (case l0=>k_is)
   (case c0=>k_is)
   (case k0=>k_is)
   exact L2.ofLen2 fun _ _=>rfl
  have R1:L2.Raw (L2.KOf KX) mg "_law_names" K46.st__law_names ["_law_base","_law_place","_law_many_here"]:=by
   dsimp only[L2.KOf]
   refine' L2.Raw.mk' KX G ?a1 ?l1 ?c1 ?k1 ?b1
   (case a1=>k_is)
   (case l1=>k_is)
   (case c1=>k_is)
   (case k1=>k_is)
   exact L2.ofLen3 fun _ _ _=>rfl
  have R2:L2.Raw (L2.KOf KX) mg "_law_tables" K46.st__law_tables ["_law_sort","_law_rank","_law_kinds"]:=by
   dsimp only[L2.KOf]
   refine' L2.Raw.mk' KX G ?a2 ?l2 ?c2 ?k2 ?b2
   (case a2=>k_is)
   (case l2=>k_is)
   (case c2=>k_is)
   (case k2=>k_is)
   exact L2.ofLen3 fun _ _ _=>rfl
  have R3:L2.Raw (L2.KOf KX) mg "_law_row" K46.st__law_row ["_law_script","_law_kinds","_law_others","_law_many_here"]:=by
   dsimp only[L2.KOf]
   refine' L2.Raw.mk' KX G ?a3 ?l3 ?c3 ?k3 ?b3
   (case a3=>k_is)
   (case l3=>k_is)
   (case c3=>k_is)
   (case k3=>k_is)
   exact L2.ofLen4 fun _ _ _ _=>rfl
  have R4:∃c,L2.RawC (L2.KOf KX) mg "_law_read" K46.st__law_read ["_law_tables_here","_law_row_here","_law_old","_law_change"] c 332:=by
   dsimp only[L2.KOf]
   refine' Exists.intro _ (L2.RawC.mk' KX G ?a4 ?l4 ?c4 ?k4 ?h4 ?b4)
   (case a4=>k_is)
   (case l4=>k_is)
   (case c4=>k_is)
   (case k4=>k_is)
   (case h4=>kernel_rfl)
   exact L2.ofLen4 fun _ _ _ _=>rfl
  obtain⟨c_4,R4⟩:=R4
  have R5:L2.Raw (L2.KOf KX) mg "_law_alone" K46.st__law_alone ["_law_fault"]:=by
   dsimp only[L2.KOf]
   refine' L2.Raw.mk' KX G ?a5 ?l5 ?c5 ?k5 ?b5
   (case a5=>k_is)
   (case l5=>k_is)
   (case c5=>k_is)
   (case k5=>k_is)
   exact L2.ofLen1 fun _=>rfl
  have R6:L2.Raw (L2.KOf KX) mg "_law_whole" K46.st__law_whole ["_law_found"]:=by
   dsimp only[L2.KOf]
   refine' L2.Raw.mk' KX G ?a6 ?l6 ?c6 ?k6 ?b6
   (case a6=>k_is)
   (case l6=>k_is)
   (case c6=>k_is)
   (case k6=>k_is)
   exact L2.ofLen1 fun _=>rfl
  have R7:L2.Raw (L2.KOf KX) mg "_law_is_way" K46.st__law_is_way ["_law_found","_law_due"]:=by
   dsimp only[L2.KOf]
   refine' L2.Raw.mk' KX G ?a7 ?l7 ?c7 ?k7 ?b7
   (case a7=>k_is)
   (case l7=>k_is)
   (case c7=>k_is)
   (case k7=>k_is)
   exact L2.ofLen2 fun _ _=>rfl
  have R8:L2.Raw (L2.KOf KX) mg "_law_number" K46.st__law_number ["_law_cell"]:=by
   dsimp only[L2.KOf]
   refine' L2.Raw.mk' KX G ?a8 ?l8 ?c8 ?k8 ?b8
   (case a8=>k_is)
   (case l8=>k_is)
   (case c8=>k_is)
   (case k8=>k_is)
   exact L2.ofLen1 fun _=>rfl
  have R9:L2.Raw (L2.KOf KX) mg "_law_many" K46.st__law_many ["_law_cell","_law_gone","_law_come"]:=by
   dsimp only[L2.KOf]
   refine' L2.Raw.mk' KX G ?a9 ?l9 ?c9 ?k9 ?b9
   (case a9=>k_is)
   (case l9=>k_is)
   (case c9=>k_is)
   (case k9=>k_is)
   exact L2.ofLen3 fun _ _ _=>rfl
  have R10:L2.Raw (L2.KOf KX) mg "check_change" K46.st_check_change ["many_old","many_new","at","gone","come"]:=by
   dsimp only[L2.KOf]
   refine' L2.Raw.mk' KX G ?a10 ?l10 ?c10 ?k10 ?b10
   (case a10=>k_is)
   (case l10=>k_is)
   (case c10=>k_is)
   (case k10=>k_is)
   exact L2.ofLen5 fun _ _ _ _ _=>rfl
  have R11:L2.Raw (L2.KOf KX) mg "read_again" K46.st_read_again ["tables","ask","many","old","at","gone","come"]:=by
   dsimp only[L2.KOf]
   refine' L2.Raw.mk' KX G ?a11 ?l11 ?c11 ?k11 ?b11
   (case a11=>k_is)
   (case l11=>k_is)
   (case c11=>k_is)
   (case k11=>k_is)
   exact L2.ofLen7 fun _ _ _ _ _ _ _=>rfl
  have R12:L2.Raw (L2.KOf KX) mg "untouched" K46.st_untouched ["old","at","gone","come"]:=by
   dsimp only[L2.KOf]
   refine' L2.Raw.mk' KX G ?a12 ?l12 ?c12 ?k12 ?b12
   (case a12=>k_is)
   (case l12=>k_is)
   (case c12=>k_is)
   (case k12=>k_is)
   exact L2.ofLen4 fun _ _ _ _=>rfl
  have R13:L2.Raw (L2.KOf KX) mg "symbols_of_rules" K46.st_symbols_of_rules ["plain"]:=by
   dsimp only[L2.KOf]
   refine' L2.Raw.mk' KX G ?a13 ?l13 ?c13 ?k13 ?b13
   (case a13=>k_is)
   (case l13=>k_is)
   (case c13=>k_is)
   (case k13=>k_is)
   exact L2.ofLen1 fun _=>rfl
  have R14:L2.Raw (L2.KOf KX) mg "law" K46.st_law ["_law_script"]:=by
   dsimp only[L2.KOf]
   refine' L2.Raw.mk' KX G ?a14 ?l14 ?c14 ?k14 ?b14
   (case a14=>k_is)
   (case l14=>k_is)
   (case c14=>k_is)
   (case k14=>k_is)
   exact L2.ofLen1 fun _=>rfl
  have n_len:mg "len"=none:=PySem.W.mg_none_of KX G (by k_is)
  have n_list:mg "list"=none:=PySem.W.mg_none_of KX G (by k_is)
  have n_tuple:mg "tuple"=none:=PySem.W.mg_none_of KX G (by k_is)
  have n_int:mg "int"=none:=PySem.W.mg_none_of KX G (by k_is)
  have n_bool:mg "bool"=none:=PySem.W.mg_none_of KX G (by k_is)
  have n_range:mg "range"=none:=PySem.W.mg_none_of KX G (by k_is)
  have n_enumerate:mg "enumerate"=none:=PySem.W.mg_none_of KX G (by k_is)
  have n_isinstance:mg "isinstance"=none:=PySem.W.mg_none_of KX G (by k_is)
  have n_ValueError:mg "ValueError"=none:=PySem.W.mg_none_of KX G (by k_is)
  have g_NO_RULE:∃t,mg "NO_RULE"=some (.int (-1) t):=by
   refine' L2.int_mk KX G ?ag_NO_RULE
   (case ag_NO_RULE=>k_is)
  have g_WORD_STEP:∃t,mg "WORD_STEP"=some (.int (-1) t):=by
   refine' L2.int_mk KX G ?ag_WORD_STEP
   (case ag_WORD_STEP=>k_is)
  have g_END:∃t,mg "END"=some (.str "end" t):=by
   refine' L2.str_mk KX G ?ag_END
   (case ag_END=>k_is)
  have T:K46.Txt (L2.KOf KX) w mg:=⟨n_len,n_list,n_tuple,n_int,n_bool,n_range,n_enumerate,n_isinstance,n_ValueError,g_NO_RULE,g_WORD_STEP,g_END⟩
  have Z:∃C,K46.ClsA (L2.KOf KX) mg C:=by
   dsimp only[L2.KOf]
   refine' Exists.intro _ (K46.ClsA.mk (K46.cls_mk KX G ?za ?zpg ?zhd ?zpo ?zsa ?zn1 ?zn2 ?zn3 ?zn4 ?zn5 ?zn6 ?zmk ?zkp) (L2.RawM.mk' ?a___init__ ?l___init__ ?c___init__ ?k___init__ ?f___init__ ?b___init__) (L2.RawM.mk' ?a_topmost ?l_topmost ?c_topmost ?k_topmost ?f_topmost ?b_topmost) (L2.RawM.mk' ?a_settle ?l_settle ?c_settle ?k_settle ?f_settle ?b_settle) (L2.RawM.mk' ?a_deed_for ?l_deed_for ?c_deed_for ?k_deed_for ?f_deed_for ?b_deed_for) (L2.RawM.mk' ?a_put_together ?l_put_together ?c_put_together ?k_put_together ?f_put_together ?b_put_together) (L2.RawM.mk' ?a_lay ?l_lay ?c_lay ?k_lay ?f_lay ?b_lay) (L2.RawM.mk' ?a_take ?l_take ?c_take ?k_take ?f_take ?b_take) (L2.RawM.mk' ?a_take_whole ?l_take_whole ?c_take_whole ?k_take_whole ?f_take_whole ?b_take_whole))
   (case za=>k_is)
   (case zpg=>k_is)
   (case zhd=>k_is)
   (case zpo=>k_is)
   (case zsa=>k_is)
   (case zn1=>k_is)
   (case zn2=>k_is)
   (case zn3=>k_is)
   (case zn4=>k_is)
   (case zn5=>k_is)
   (case zn6=>k_is)
   (case zmk=>k_is)
   (case zkp=>k_is)
   (case a___init__=>k_is)
   (case l___init__=>k_is)
   (case c___init__=>k_is)
   (case k___init__=>k_is)
   (case f___init__=>k_is)
   (case b___init__=>exact L2.ofLen2 fun _ _=>rfl)
   (case a_topmost=>k_is)
   (case l_topmost=>k_is)
   (case c_topmost=>k_is)
   (case k_topmost=>k_is)
   (case f_topmost=>k_is)
   (case b_topmost=>exact L2.ofLen1 fun _=>rfl)
   (case a_settle=>k_is)
   (case l_settle=>k_is)
   (case c_settle=>k_is)
   (case k_settle=>k_is)
   (case f_settle=>k_is)
   (case b_settle=>exact L2.ofLen3 fun _ _ _=>rfl)
   (case a_deed_for=>k_is)
   (case l_deed_for=>k_is)
   (case c_deed_for=>k_is)
   (case k_deed_for=>k_is)
   (case f_deed_for=>k_is)
   (case b_deed_for=>exact L2.ofLen3 fun _ _ _=>rfl)
   (case a_put_together=>k_is)
   (case l_put_together=>k_is)
   (case c_put_together=>k_is)
   (case k_put_together=>k_is)
   (case f_put_together=>k_is)
   (case b_put_together=>exact L2.ofLen2 fun _ _=>rfl)
   (case a_lay=>k_is)
   (case l_lay=>k_is)
   (case c_lay=>k_is)
   (case k_lay=>k_is)
   (case f_lay=>k_is)
   (case b_lay=>exact L2.ofLen3 fun _ _ _=>rfl)
   (case a_take=>k_is)
   (case l_take=>k_is)
   (case c_take=>k_is)
   (case k_take=>k_is)
   (case f_take=>k_is)
   (case b_take=>exact L2.ofLen3 fun _ _ _=>rfl)
   (case a_take_whole=>k_is)
   (case l_take_whole=>k_is)
   (case c_take_whole=>k_is)
   (case k_take_whole=>k_is)
   (case f_take_whole=>k_is)
   (case b_take_whole=>exact L2.ofLen3 fun _ _ _=>rfl)
  obtain⟨C,Z⟩:=Z
  have Y:∃CS CN CB fi mc cs,K46.ExA (L2.KOf KX) mg CS CN CB fi mc cs:=by
   dsimp only[L2.KOf]
   refine' Exists.intro _ (Exists.intro _ (Exists.intro _ (Exists.intro _ (Exists.intro (.type "type") (Exists.intro _ (K46.exa_mk KX G n_isinstance n_ValueError ?ya ?yan ?yb ?yini ?ykp ?yex ?yfn ?ysp ?yrd ?yfc ?ysa ?yve ?ytk ?yhd ?yc0 ?yc1 ?yc2 ?yc3 ?yc4 ?yc5 ?yc6 ?yc7 ?yc8 ?yf1 ?yf2 ?yf3 ?yob ?ypl ?yxn ?yg1 ?yg2 ?yg3 ?yon ?ymn ?ynoups ?ynoupn ?ynoves ?ynoven ?ynoss ?ynosn ?ynons ?ynonn ?ynos0 ?ynos1 ?ynos2 ?ynos3 ?ynos4 ?ynos5 ?ynos6 ?ynos7 ?ynos8 ?ynon0 ?ynon1 ?ynon2 ?ynon3 ?ynon4 ?ynon5 ?ynon6 ?ynon7 ?ynon8 (L2.RawM.mk' ?ma ?ml ?mc ?mk ?mf ?mb)))))))
   (case ya=>k_is)
   (case yan=>k_is)
   (case yb=>k_is)
   (case yini=>k_is)
   (case ykp=>k_is)
   (case yex=>kernel_rfl)
   (case yfn=>k_is)
   (case ysp=>k_is)
   (case yrd=>k_is)
   (case yfc=>k_is)
   (case ysa=>k_is)
   (case yve=>kernel_rfl)
   (case ytk=>k_is)
   (case yhd=>k_is)
   (case yc0=>k_is)
   (case yc1=>k_is)
   (case yc2=>k_is)
   (case yc3=>k_is)
   (case yc4=>k_is)
   (case yc5=>k_is)
   (case yc6=>k_is)
   (case yc7=>k_is)
   (case yc8=>k_is)
   (case yf1=>k_is)
   (case yf2=>k_is)
   (case yf3=>k_is)
   (case yob=>k_is)
   (case ypl=>k_is)
   (case yxn=>first | k_exc | rfl | decide)
   (case yg1=>k_is)
   (case yg2=>k_is)
   (case yg3=>k_is)
   (case yon=>k_is)
   (case ymn=>k_is)
   (case ynoups=>kernel_rfl)
   (case ynoupn=>kernel_rfl)
   (case ynoves=>kernel_rfl)
   (case ynoven=>kernel_rfl)
   (case ynoss=>kernel_rfl)
   (case ynosn=>kernel_rfl)
   (case ynons=>kernel_rfl)
   (case ynonn=>kernel_rfl)
   (case ynos0=>kernel_rfl)
   (case ynos1=>kernel_rfl)
   (case ynos2=>kernel_rfl)
   (case ynos3=>kernel_rfl)
   (case ynos4=>kernel_rfl)
   (case ynos5=>kernel_rfl)
   (case ynos6=>kernel_rfl)
   (case ynos7=>kernel_rfl)
   (case ynos8=>kernel_rfl)
   (case ynon0=>kernel_rfl)
   (case ynon1=>kernel_rfl)
   (case ynon2=>kernel_rfl)
   (case ynon3=>kernel_rfl)
   (case ynon4=>kernel_rfl)
   (case ynon5=>kernel_rfl)
   (case ynon6=>kernel_rfl)
   (case ynon7=>kernel_rfl)
   (case ynon8=>kernel_rfl)
   (case ma=>k_is)
   (case ml=>k_is)
   (case mc=>k_is)
   (case mk=>k_is)
   (case mf=>k_is)
   (case mb=>exact L2.ofLen2 fun _ _=>rfl)
  obtain⟨CS,CN,CB,fi,mc,cs,Y⟩:=Y
  obtain⟨f,fd,hf,Fu,hb⟩:=R14.ex
  have e0:=hmg.symm.trans hf
  cases e0
  refine⟨(List.forall_mem_cons.mpr ⟨⟨_,R4.hd⟩,fun _ z=>nomatch z⟩),fd,fun s u=>?_,fun base kb nb bb=>(K46.law_of R0 R1 R2 R3 R4 R5 R6 R7 R8 R9 R10 R11 R12 R13 R14 bb T Z Y).at hf Fu.lk⟩
  exact .of_eq (hb [u] rfl)
 case TT=>exact fun w h Y q m=>PySem.W.km_tabs_of Y q m
 case NT=>intro P;kernel_rfl
 case S=>exact fun K H a ns hl hO hS=>K46.law_start hl hO hS
 case C=>exact fun _ _ _ _ z=>z
