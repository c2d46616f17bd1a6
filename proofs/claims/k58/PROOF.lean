import PyProof.Rows.All
import Wide.All
import OpenK.AllK
import Wide.FinOn
import Lean
import PyProof.EqAt
import PyProof.EqKinds
import PyProof.TupleCall
import KE.KLam
import KE.KNestM
import PyProof.P3Eq
import PyProof.NeData
import KE.KIsAll
import PyProof.SumAny
import PyProof.Rows.SortShell
import PyProof.Rows.SortRuns
import KE.KSortTup
import KE.KDictSum
import PyProof.ZipIter
import KE.KRevIter
import PyProof.P3In
import KE.KDictList
import PyProof.DictFindH
import PyProof.DictRoadsH
import PyProof.Rows.ListMulArg
import PyProof.AttrMissHeap
import KE.KDictOf
import PyProof.CollectWalk
import PyProof.MaxThree
import PyProof.AutoSeq1
import PyProof.Rows.MinMaxN
import KE.KIntText
import PyProof.Rows.StrJoin2
import PyProof.Rows.StrSplitAre
import PyProof.StrOps2
import PyProof.Rows.SetFrom
import PyProof.SetRoads
import KE.KEqDict
import PyProof.Rows.Range3
import PyProof.ExcArgsOwn
import PyProof.NsDelKeeps
import KE.KTryMore
import PyProof.ExcBaseAll.ValueError
import PyProof.StrCalls6
import PyProof.StrLawsIdx
import PyProof.StrLawsIn
import KE.RegKIsAll
import KE.RegKTryMore
import PySem.Challenge.RW_deltahouse_k58_heaps_refused
set_option Elab.async false
set_option linter.all false
set_option maxRecDepth 100000
set_option maxHeartbeats 4000000
namespace L2
open PySem PySem.Spec PyProof.Rows
noncomputable abbrev Key:=Sum Int Str
noncomputable def e9:Key->Value->Bool
 | .inl k,v=>Value.isInt k v
 | .inr x,v=>Value.isStrOf x v
noncomputable def keyH (w:World):Key->Int
 | .inl k=>hashInt k
 | .inr x=>hashStr w x
theorem keyIs_shape: ∀{k:Key}{v:Value},e9 k v=true->(∃i t,k=Sum.inl i/\v=Value.int i t) \/(∃x t,k=Sum.inr x/\v=Value.str x t)
 | .inl i,v,h=>by
  obtain ⟨t,e⟩:=Value.isInt_shape (k:=i) (v:=v) h
  exact .inl ⟨i,t,rfl,e⟩
 | .inr x,v,h=>by
  obtain ⟨t,e⟩:=Value.isStrOf_shape (x:=x) (v:=v) h
  exact .inr ⟨x,t,rfl,e⟩
theorem sB (i:Int) (t:Tok):e9 (.inl i) (.int i t)=true:=by simp [e9,Value.isInt]
theorem sC (x:Str) (t:Tok):e9 (.inr x) (.str x t)=true:=by simp [e9,Value.isStrOf]
theorem sD (a b:Int):decide ((Sum.inl a:Key)=Sum.inl b)=(a==b):=by
 by_cases e:a=b
 ·subst e;simp
 ·have h: ¬(Sum.inl a:Key)=Sum.inl b:=fun q=>e (Sum.inl.inj q)
  rw [decide_eq_false h]
  exact (beq_eq_false_iff_ne.mpr e).symm
theorem sE (a b:Str):decide ((Sum.inr a:Key)=Sum.inr b)=decide (a=b):=by
 by_cases e:a=b
 ·subst e;simp
 ·have h: ¬(Sum.inr a:Key)=Sum.inr b:=fun q=>e (Sum.inr.inj q)
  rw [decide_eq_false h,decide_eq_false e]
theorem sF (a:Int) (b:Str):decide ((Sum.inl a:Key)=Sum.inr b)=false:=decide_eq_false (fun q=>nomatch q)
theorem sG (a:Str) (b:Int):decide ((Sum.inr a:Key)=Sum.inl b)=false:=decide_eq_false (fun q=>nomatch q)
noncomputable def aI (prog:Program) (w:World):PySem.KeyKind prog w Key where
 is:=e9
 hash:=keyH w
 inj:=fun v a b ha hb=>by
  rcases keyIs_shape ha with ⟨i,t,rfl,rfl⟩|⟨x,t,rfl,rfl⟩
  ·rcases keyIs_shape hb with ⟨j,u,rfl,e⟩|⟨y,u,rfl,e⟩
   ·injection e with e1 _;rw [e1]
   ·exact nomatch e
  ·rcases keyIs_shape hb with ⟨j,u,rfl,e⟩|⟨y,u,rfl,e⟩
   ·exact nomatch e
   ·injection e with e1 _;rw [e1]
 byValue:=fun k v h=>by
  rcases keyIs_shape h with ⟨i,t,rfl,rfl⟩|⟨x,t,rfl,rfl⟩<;>rfl
 pyHash:=fun hv h=>by
  rcases keyIs_shape hv with ⟨i,t,rfl,rfl⟩|⟨x,t,rfl,rfl⟩
  ·exact wpAny_pyHash_int h
  ·exact wpAny_pyHash_str h
 eqBool:=fun hu hv h=>by
  rcases keyIs_shape hu with ⟨i,t,rfl,rfl⟩|⟨x,t,rfl,rfl⟩
  ·rcases keyIs_shape hv with ⟨j,u,rfl,rfl⟩|⟨y,u,rfl,rfl⟩
   ·rw [sD] at h;exact wpAny_eqBool_int h
   ·rw [sF] at h;exact SeqAt.EqAt.int_str i t y u _ _ _ _ h
  ·rcases keyIs_shape hv with ⟨j,u,rfl,rfl⟩|⟨y,u,rfl,rfl⟩
   ·rw [sG] at h;exact SeqAt.EqAt.str_int x t j u _ _ _ _ h
   ·rw [sE] at h;exact wpAny_eqBool_str h
 «strs»:=fun k x t v h=>by
  rcases keyIs_shape h with ⟨i,u,rfl,e⟩|⟨y,u,rfl,e⟩
  ·exact nomatch e
  ·injection e with e1 _
   subst e1
   cases v<;>rfl
theorem sH (prog:Program) (w:World) (i:Int) (t:Tok):(aI prog w).is (.inl i) (.int i t)=true:=sB i t
theorem sI (prog:Program) (w:World) (x:Str) (t:Tok):(aI prog w).is (.inr x) (.str x t)=true:=sC x t
end L2
namespace L2
open PySem PySem.Spec PyProof.Rows
inductive V where
 |non|bl (b:Bool)|int (i:Int)|str (x:Str)|byt (b:Array UInt8)|flt (b:UInt64)|ref (a:Addr)|ty (n:String)
 deriving DecidableEq
noncomputable def RelV:V->Value->Prop
 | .non,u=>u=Value.none
 | .bl b,u=>u=Value.bool b
 | .int i,u=> ∃t,u=Value.int i t
 | .str x,u=> ∃t,u=Value.str x t
 | .byt b,u=> ∃t,u=Value.bytes b t
 | .flt b,u=> ∃t,u=Value.float b t
 | .ref a,u=>u=Value.ref a
 | .ty n,u=>u=Value.type n
noncomputable abbrev Vals:List V->List Value->Prop:=Paired RelV
theorem Vals.length {xs:List V}{us:List Value} (r:Vals xs us):xs.length=us.length:=Paired.length r
theorem Vals.get: ∀{xs:List V}{us:List Value}{i:Nat}{x:V},Vals xs us->xs[i]?=some x-> ∃u,us[i]?=some u/\RelV x u
 |_,_,_,_,.nil,e=>by simp at e
 |_,_,0,_,.cons r _,e=>by simp at e;subst e;exact ⟨_,rfl,r⟩
 |_,_,i+1,x,.cons _ t,e=>by
  obtain ⟨u,h1,h2⟩:=Vals.get (i:=i) (x:=x) t (by simpa using e)
  exact ⟨u,by simpa using h1,h2⟩
theorem Vals.set {x:V}{u:Value} (r:RelV x u): ∀{xs:List V}{us:List Value} (i:Nat),Vals xs us->Vals (xs.set i x) (us.set i u)
 |_,_,_,.nil=> .nil
 |_,_,0,.cons _ t=> .cons r t
 |_,_,i+1,.cons q t=> .cons q (Vals.set r i t)
theorem Vals.append: ∀{xs ys:List V}{us ws:List Value},Vals xs us->Vals ys ws->Vals (xs++ys) (us++ws)
 |_,_,_,_,.nil,s=>s
 |_,_,_,_,.cons r t,s=> .cons r (Vals.append t s)
theorem Vals.take: ∀{xs:List V}{us:List Value} (n:Nat),Vals xs us->Vals (xs.take n) (us.take n)
 |_,_,0,_=> .nil
 |_,_,_+1,.nil=> .nil
 |_,_,n+1,.cons r t=> .cons r (Vals.take n t)
theorem Vals.drop: ∀{xs:List V}{us:List Value} (n:Nat),Vals xs us->Vals (xs.drop n) (us.drop n)
 |_,_,0,r=>r
 |_,_,_+1,.nil=> .nil
 |_,_,n+1,.cons _ t=>Vals.drop n t
theorem Vals.none_of: ∀{xs:List V}{us:List Value}{i:Nat},Vals xs us->xs[i]?=none->us[i]?=none:=fun {xs us i} r e=>by
 have h1:=r.length
 have h2:xs.length<=i:=List.getElem?_eq_none_iff.mp e
 exact List.getElem?_eq_none_iff.mpr (by lia)
noncomputable def RelO:Option V->Option Value->Prop
 |some v,some u=>RelV v u
 |none,none=>True
 |_,_=>False
noncomputable def KV {κ:Type}:List (κ×V)->List (κ×Value)->Prop:=Paired fun (p:κ×V) (q:κ×Value)=>p.1=q.1/\RelV p.2 q.2
noncomputable def kV:Key->V
 | .inl i=> .int i
 | .inr x=> .str x
inductive HO where
 |lst (xs:List V)
 |tup (xs:List V)
 |dK (kvs:List (Key×V))|dT (kvs:List (List Key×V))
 |set (S:Int->Bool) (n:Nat)
 |ins (C dx:Addr) (fs:List (Str×V))
 |own (x:Addr)
 |xd (fs:List (Str×V))
 |met (f x:Addr)
 |rng (lo hi:Int)
 |frz (o:Obj) (u:HO)
 |tbl (q:Str)
 |ext (φ:Heap->Prop)
noncomputable abbrev Hp:=Addr->Option HO
noncomputable def upd (H:Hp) (a:Addr) (o:HO):Hp:=fun b=>if b=a then some o else H b
theorem az {H:Hp}{a:Addr}{o:HO}:upd H a o a=some o:=by unfold upd;rw [if_pos rfl]
theorem ao {H:Hp}{a b:Addr}{o:HO} (h:b≠a):upd H a o b=H b:=by unfold upd;rw [if_neg h]
theorem sJ {H:Hp}{a b:Addr}{o u:HO} (h:H a=some o) (h':H b=some u) (d:o≠u):a≠b:=by
 intro e;subst e;rw [h] at h';exact d (Option.some.inj h')
theorem bQ {H:Hp}{a b:Addr}{o:HO} (h:H a=some o) (h':H b=none):a≠b:=by
 intro e;subst e;rw [h] at h';cases h'
noncomputable def fb (h:Heap) (a:Addr) (items:Array Value):Prop:= ∃o,h.get? a=some o/\o.cls= .type "tuple"/\(∃n,o.data= .seq items n)/\o.dict=none
theorem fb.tup {h:Heap}{a:Addr}{items:Array Value} (x:fb h a items):IsTup h a items:=let ⟨o,h1,h2,h3,_⟩:=x;⟨o,h1,h2,h3⟩
theorem fb.new (h:Heap) (items:Array Value):fb (h.push {cls:= .type "tuple",data:= .seq items}) h.objs.size items:=⟨_,Heap.get?_push_size _ rfl,rfl,⟨_,rfl⟩,rfl⟩
section
variable (P:Program) (w:World)
noncomputable def ax (H:Hp) (h:Heap) (a:Addr):HO->Prop
 | .lst xs=>xs.length<=sizeLine/\ ∃(its:List Value) (n:Nat),Vals xs its/\h.get? a=some {cls:= .type "list",data:= .seq its.toArray n}
 | .tup xs=>xs.length<=sizeLine/\ ∃its:List Value,Vals xs its/\fb h a its.toArray
 | .dK kvs=>kvs.length<=sizeLine/\(a==sysModules)=false/\ ∃vs,KV kvs vs/\h.DictOf (aI P w) a vs
 | .dT kvs=>kvs.length<=sizeLine/\(a==sysModules)=false/\ ∃xs:List (List Key×Addr×Value),
   Paired (fun (p:List Key×V) (q:List Key×Addr×Value)=>p.1=q.1/\H q.2.1=some (.tup (p.1.map kV))/\RelV p.2 q.2.2) kvs xs/\
   ∃o es ep,h.get? a=some o/\o.ExactDict/\o.data= .dict es ep/\es.toList=xs.map (entryOfKey (tupleKind (aI P w)))/\(xs.map (·.1)).Nodup
 | .set S n=>h.SetOf (intKind P w) a S n
 | .ins C dx fs=>H dx=some (.own a)/\fs.length<=1000/\dx≠a/\h.get? a=some (PySem.W.instObj C dx)/\
   ∃mA,h.Ns1 dx mA/\(∀f,RelO (fs.lookup f) (mA f))/\PySem.Within mA (fs.map (·.1))
 | .own _=> ∃o,h.get? a=some o
 | .xd fs=> ∃mA,h.Ns1 a mA/\ ∀f,RelO (fs.lookup f) (mA f)
 | .rng lo hi=> ∃t u v,h.get? a=some {cls:= .type "range",data:= .fields #[.int lo t,.int hi u,.int 1 v]}
 | .frz o u=>h.get? a=some o/\ax H h a u
 | .tbl q=> ∃ps:Array Value,h.get? a=some {cls:= .none,data:= .fields ps}/\TriplesOk ps.toList/\ ∀pos cv,codeAmong pos ps.toList=some cv-> ∃(c:Addr) (oc:Obj) (vs:Array Value) (t:Tok),cv= .ref c/\H c=some (.frz oc (.own 0))/\oc.data= .fields vs/\vs[1]?=some (.str q t)
 | .met f x=>h.get? a=some (PySem.W.methodObj (.ref f) (.ref x))
 | .ext φ=>φ h/\(∃o,h.get? a=some o)/\ ∀h1 h2:Heap,φ h1->(∀o,h1.get? a=some o->h2.get? a=some o)->φ h2
noncomputable def HOk (H:Hp) (h:Heap):Prop:= ∀a o,H a=some o->ax P w H h a o
end
section
variable {P:Program}{w:World}{H H':Hp}{h h':Heap}{a:Addr}{o:HO}
theorem ax.lt (x:ax P w H h a o):a<h.objs.size:=by
 cases o with
 |lst xs=>obtain ⟨_,_,_,_,e⟩:=x;exact Heap.lt_size e
 |tup xs=>obtain ⟨_,_,_,p⟩:=x;exact p.tup.lt
 |dK kvs=>obtain ⟨_,_,_,_,o,_,_,e,_⟩:=x;exact Heap.lt_size e
 |dT kvs=>obtain ⟨_,_,_,_,o,_,_,e,_⟩:=x;exact Heap.lt_size e
 |set S n=>obtain ⟨o,_,_,_,e,_⟩:=x;exact Heap.lt_size e
 |ins C dx fs=>obtain ⟨_,_,_,e,_⟩:=x;exact Heap.lt_size e
 |own y=>obtain ⟨_,e⟩:=x;exact Heap.lt_size e
 |xd fs=>obtain ⟨_,⟨_,_,_,e,_⟩,_⟩:=x;exact Heap.lt_size e
 |rng lo hi=>obtain ⟨_,_,_,e⟩:=x;exact Heap.lt_size e
 |frz ob u=>obtain ⟨e,_⟩:=x;exact Heap.lt_size e
 |tbl q=>obtain ⟨_,e,_⟩:=x;exact Heap.lt_size e
 |met f y=>exact Heap.lt_size (show h.get? a=some _ from x)
 |ext φ=>obtain ⟨_,⟨_,e⟩,_⟩:=x;exact Heap.lt_size e
theorem Paired.mapP {α β:Type}{F G:α->β->Prop}: ∀{l₁:List α}{l₂:List β},Paired F l₁ l₂->(∀a b,F a b->G a b)->Paired G l₁ l₂
 |_,_,.nil,_=> .nil
 |_,_,.cons r t,f=> .cons (f _ _ r) (Paired.mapP t f)
theorem Paired.imp' {α β:Type}{F G:α->β->Prop} (f: ∀a b,F a b->G a b) {l₁:List α}{l₂:List β} (r:Paired F l₁ l₂):Paired G l₁ l₂:=Paired.mapP r f
theorem ax.stay (x:ax P w H h a o) (k: ∀b u,(b=a \/H b=some (.own a))->h.get? b=some u->h'.get? b=some u)
  (ho: ∀b,H b=some (.own a)->H' b=some (.own a)) (ht: ∀b xs,H b=some (.tup xs)->H' b=some (.tup xs)) (hc: ∀b ob u,(∃vs,ob.data= .fields vs)->H b=some (.frz ob u)->H' b=some (.frz ob u):=by exact fun _ _ _ _ q=>q):ax P w H' h' a o:=by
 induction o with
 |lst xs=>obtain ⟨z,its,n,r,e⟩:=x;exact ⟨z,its,n,r,k _ _ (.inl rfl) e⟩
 |tup xs=>obtain ⟨z,its,r,ob,e,c⟩:=x;exact ⟨z,its,r,ob,k _ _ (.inl rfl) e,c⟩
 |dK kvs=>obtain ⟨z,y,vs,r,ob,es,ep,e,c⟩:=x;exact ⟨z,y,vs,r,ob,es,ep,k _ _ (.inl rfl) e,c⟩
 |dT kvs=>
  obtain ⟨z,y,xs,r,ob,es,ep,e,c⟩:=x
  exact ⟨z,y,xs,Paired.mapP r fun p q z=>⟨z.1,ht _ _ z.2.1,z.2.2⟩,ob,es,ep,k _ _ (.inl rfl) e,c⟩
 |set S n=>obtain ⟨ob,es,ep,t,e,c⟩:=x;exact ⟨ob,es,ep,t,k _ _ (.inl rfl) e,c⟩
 |ins C dx fs=>
  obtain ⟨d,z,ne,e,mA,⟨od,es,ep,e2,c⟩,r⟩:=x
  exact ⟨ho _ d,z,ne,k _ _ (.inl rfl) e,mA,⟨od,es,ep,k _ _ (.inr d) e2,c⟩,r⟩
 |own y=>obtain ⟨ob,e⟩:=x;exact ⟨ob,k _ _ (.inl rfl) e⟩
 |xd fs=>obtain ⟨mA,⟨od,es,ep,e,c⟩,r⟩:=x;exact ⟨mA,⟨od,es,ep,k _ _ (.inl rfl) e,c⟩,r⟩
 |rng lo hi=>obtain ⟨t,u,v,e⟩:=x;exact ⟨t,u,v,k _ _ (.inl rfl) e⟩
 |frz ob u ih=>obtain ⟨e,q⟩:=x;exact ⟨k _ _ (.inl rfl) e,ih q⟩
 |tbl q=>
  obtain ⟨ps,e,t,l⟩:=x
  exact ⟨ps,k _ _ (.inl rfl) e,t,fun pos cv ec=>by obtain ⟨c,oc,vs,t,r,z,d,g⟩:=l pos cv ec;exact ⟨c,oc,vs,t,r,hc c oc (.own 0) ⟨vs,d⟩ z,d,g⟩⟩
 |met f y=>
  have e:h.get? a=some (PySem.W.methodObj (.ref f) (.ref y)):=x
  show h'.get? a=some (PySem.W.methodObj (.ref f) (.ref y))
  exact k a _ (.inl rfl) e
 |ext φ=>obtain ⟨p,⟨o,e⟩,st⟩:=x;exact ⟨st _ _ p fun o q=>k _ _ (.inl rfl) q,⟨o,k _ _ (.inl rfl) e⟩,st⟩
theorem HOk.lt (x:HOk P w H h) (e:H a=some o):a<h.objs.size:=(x a o e).lt
theorem HOk.fresh (x:HOk P w H h) (e:h.objs.size<=a):H a=none:=by
 cases q:H a with
 |none=>rfl
 |some u=>exact absurd (Nat.lt_of_lt_of_le (x.lt q) e) (Nat.lt_irrefl _)
theorem HOk.kept (x:HOk P w H h) (k: ∀b u,h.get? b=some u->h'.get? b=some u):HOk P w H h':=fun a o e=>
 (x a o e).stay (fun b u _ q=>k b u q) (fun _ q=>q) fun _ _ q=>q
theorem HOk.laid (x:HOk P w H h) (k: ∀b u,h.get? b=some u->h'.get? b=some u) (hp:h.objs.size<=a) (new:ax P w (upd H a o) h' a o):HOk P w (upd H a o) h':=fun b u e=>by
 have hn:=x.fresh hp
 by_cases hb:b=a
 ·subst hb;rw [az] at e;cases e;exact new
 ·rw [ao hb] at e
  exact (x b u e).stay (fun c v _ q=>k c v q) (fun c q=>by rw [ao (bQ q hn)];exact q) (fun c xs q=>by rw [ao (bQ q hn)];exact q) fun c _ _ _ q=>by rw [ao (bQ q hn)];exact q
end
noncomputable def Rd (H:Hp) (a:Addr) (u:HO):Prop:=H a=some u \/ ∃o,H a=some (.frz o u)
theorem Rd.of {H:Hp}{a:Addr}{u:HO} (h:H a=some u):Rd H a u:= .inl h
theorem Rd.ok {P:Program}{w:World}{H:Hp}{h:Heap}{a:Addr}{u:HO} (r:Rd H a u) (x:HOk P w H h):ax P w H h a u:=by
 rcases r with r|⟨o,r⟩
 ·exact x a u r
 ·obtain ⟨_,q⟩:=x a _ r
  exact q
noncomputable def Mut:Option HO->Prop
 |some (.lst _)=>True
 |some (.dK _)=>True
 |some (.dT _)=>True
 |some (.set _ _)=>True
 |some (.ins _ _ _)=>True
 |some (.ext _)=>True
 |_=>False
section
variable {P:Program}{w:World}{H:Hp}{h h':Heap}{x e:Addr}{o':HO}
theorem HOk.write (ok:HOk P w H h) (mu:Mut (H x)) (he:e=x \/H e=some (.own x)) (k: ∀b u,b≠e->h.get? b=some u->h'.get? b=some u) (heo: ∃u,h'.get? e=some u)
  (new:ax P w (upd H x o') h' x o'):HOk P w (upd H x o') h':=fun b u q=>by
 have nown: ∀c y,H c=some (.own y)->c≠x:=fun c y r z=>by subst z;rw [r] at mu;exact mu
 have ntup: ∀c xs,H c=some (.tup xs)->c≠x:=fun c xs r z=>by subst z;rw [r] at mu;exact mu
 have nfrz: ∀c ob u,H c=some (.frz ob u)->c≠x:=fun c ob u r z=>by subst z;rw [r] at mu;exact mu
 by_cases hb:b=x
 ·subst hb;rw [az] at q;cases q;exact new
 ·rw [ao hb] at q
  by_cases hbe:b=e
  ·have q':H b=some (.own x):=by
    rcases he with z|z
    ·exact absurd (hbe.trans z) hb
    ·rw [hbe];exact z
   rw [q] at q';cases q'
   obtain ⟨v,hv⟩:=heo
   exact ⟨v,by rw [hbe];exact hv⟩
  ·refine (ok b u q).stay (fun c v hc r=>k c v ?_ r) (fun c r=>by rw [ao (nown c b r)];exact r) (fun c xs r=>by rw [ao (ntup c xs r)];exact r) fun c _ _ _ r=>by rw [ao (nfrz c _ _ r)];exact r
   rcases hc with rfl|hc
   ·exact hbe
   ·rintro rfl
    rcases he with z|z
    ·exact nown c b hc z
    ·rw [hc] at z;cases z;exact hb rfl
end
structure Un (fs ex:List Addr) (H H':Hp) (h h':Heap):Prop where
 keep: ∀b o,h.get? b=some o->H b=none->b∉fs->b∉ex->h'.get? b=some o
 slot: ∀b o,h.get? b=some o->H b=none->b∈fs->b∉ex-> ∃sl,h'.get? b=some {o with slots:=sl}
 free: ∀b o,h.get? b=some o->H b=none->b∉ex->H' b=none
 there: ∀b o,h.get? b=some o->b∉ex-> ∃o',h'.get? b=some o'
 tups: ∀b xs,H b=some (.tup xs)->H' b=some (.tup xs)
 frzs: ∀b o u,H b=some (.frz o u)->H' b=some (.frz o u)
 tbls: ∀b q,H b=some (.tbl q)->H' b=some (.tbl q)
section
variable {fs fs' ex ex':List Addr}{H H1 H2:Hp}{h h1 h2 h':Heap}{a x e:Addr}{o:HO}
theorem Un.any (u:Un fs ex H H1 h h1) {b:Addr}{ob:Obj} (q:h.get? b=some ob) (n:H b=none) (hx:b∉ex): ∃sl,h1.get? b=some {ob with slots:=sl}:=by
 by_cases hb:b∈fs
 ·exact u.slot b ob q n hb hx
 ·exact ⟨ob.slots,u.keep b ob q n hb hx⟩
theorem Un.trans (a:Un fs ex H H1 h h1) (b:Un fs ex H1 H2 h1 h2):Un fs ex H H2 h h2 where
 keep:=fun c ob q n hc hx=>b.keep c ob (a.keep c ob q n hc hx) (a.free c ob q n hx) hc hx
 slot:=fun c ob q n hc hx=>by
  obtain ⟨sl,e1⟩:=a.slot c ob q n hc hx
  obtain ⟨sl',e2⟩:=b.slot c _ e1 (a.free c ob q n hx) hc hx
  exact ⟨sl',e2⟩
 free:=fun c ob q n hx=>by
  obtain ⟨o',e1⟩:=a.there c ob q hx
  exact b.free c o' e1 (a.free c ob q n hx) hx
 there:=fun c ob q hx=>by
  obtain ⟨o',e1⟩:=a.there c ob q hx
  exact b.there c o' e1 hx
 tups:=fun c xs q=>b.tups c xs (a.tups c xs q)
 frzs:=fun c ob xs q=>b.frzs c ob xs (a.frzs c ob xs q)
 tbls:=fun c ps q=>b.tbls c ps (a.tbls c ps q)
theorem Un.kept (k: ∀b u,h.get? b=some u->h'.get? b=some u):Un fs ex H H h h':=
 ⟨fun b ob q _ _ _=>k b ob q,fun b ob q _ _ _=>⟨ob.slots,k b ob q⟩,fun _ _ _ n _=>n,fun b ob q _=>⟨ob,k b ob q⟩,fun _ _ q=>q,fun _ _ _ q=>q,fun _ _ q=>q⟩
theorem Un.refl:Un fs ex H H h h:=Un.kept fun _ _ q=>q
theorem Un.laid (k: ∀b u,h.get? b=some u->h'.get? b=some u) (hp:h.objs.size<=a) (hn:H a=none):Un fs ex H (upd H a o) h h' where
 keep:=fun b u q _ _ _=>k b u q
 slot:=fun b u q _ _ _=>⟨u.slots,k b u q⟩
 free:=fun b u q n _=>by rw [ao (Nat.ne_of_lt (Nat.lt_of_lt_of_le (Heap.lt_size q) hp))];exact n
 there:=fun b u q _=>⟨u,k b u q⟩
 tups:=fun b xs q=>by rw [ao (bQ q hn)];exact q
 frzs:=fun b u xs q=>by rw [ao (bQ q hn)];exact q
 tbls:=fun b ps q=>by rw [ao (bQ q hn)];exact q
theorem Un.write (mu:Mut (H x)) (he:e=x \/H e=some (.own x)) (k: ∀b u,b≠e->h.get? b=some u->h'.get? b=some u) (heo: ∃u,h'.get? e=some u):Un fs ex H (upd H x o) h h':=by
 have hx: ∀b,H b=none->b≠x:=fun b n z=>by subst z;rw [n] at mu;exact mu
 have hb: ∀b,H b=none->b≠e:=fun b n z=>by
  subst z
  rcases he with r|r
  ·exact hx b n r
  ·rw [n] at r;cases r
 have hm: ∀b u,H b=some u-> ¬Mut (some u)->b≠x:=fun b u q nm z=>by subst z;rw [q] at mu;exact nm mu
 refine ⟨fun b u q n _ _=>k b u (hb b n) q,fun b u q n _ _=>⟨u.slots,k b u (hb b n) q⟩,fun b u q n _=>by rw [ao (hx b n)];exact n,fun b u q _=> ?_,
  fun b xs q=>by rw [ao (hm b _ q fun z=>z)];exact q,fun b u xs q=>by rw [ao (hm b _ q fun z=>z)];exact q,fun b ps q=>by rw [ao (hm b _ q fun z=>z)];exact q⟩
 by_cases hbe:b=e
 ·subst hbe;exact heo
 ·exact ⟨u,k b u hbe q⟩
theorem Un.mono (u:Un fs ex H H1 h h1) (hs: ∀b∈fs,b∈fs') (hx: ∀b∈ex,b∈ex'):Un fs' ex' H H1 h h1:=
 ⟨fun b ob q n hb he=>u.keep b ob q n (fun z=>hb (hs b z)) fun z=>he (hx b z),fun _ _ q n _ he=>u.any q n fun z=>he (hx _ z),fun b ob q n he=>u.free b ob q n fun z=>he (hx b z),fun b ob q he=>u.there b ob q fun z=>he (hx b z),u.tups,u.frzs,u.tbls⟩
end
noncomputable def trk (h:Heap) (H:Hp):List Addr:=(List.range h.objs.size).filter fun a=>(H a).isSome
noncomputable def hidT (h:Heap) (H:Hp):Heap:=PySem.W.hideAll h (trk h H)
theorem sK (h:Heap) (H:Hp):(hidT h H).objs.size=h.objs.size:=PySem.W.hideAll_size _ _
theorem sL {h:Heap}{H:Hp}{b:Addr}{o:Obj} (e:h.get? b=some o) (n:H b=none):(hidT h H).get? b=some o:=
 PySem.W.hideAll_get _ e fun hm=>by
  have q:(H b).isSome=true:=(List.mem_filter.mp hm).2
  rw [n] at q;simp at q
theorem sM {h:Heap}{H:Hp}{b:Addr}{o:Obj} (e:(hidT h H).get? b=some o):h.get? b=some o/\H b=none:=by
 have e':h.get? b=some o:=PySem.W.of_hideAll (trk h H) e
 refine ⟨e',?_⟩
 cases q:H b with
 |none=>rfl
 |some x=>
  have hm:b∈trk h H:=List.mem_filter.mpr ⟨List.mem_range.mpr (Heap.lt_size e'),by simp [q]⟩
  have z:(hidT h H).get? b=none:=PySem.W.hideAll_none (trk h H) hm
  rw [z] at e;cases e
noncomputable def sO (g h:Heap) (L:Addr):List (Addr×Obj):=(List.range h.objs.size).filterMap fun a=>if a=L \/(g.get? a).isSome=true then none else (h.get? a).map fun o=>(a,o)
noncomputable def rest (g h:Heap) (L d:Addr):List (Addr×Obj):=(sO g h L).filter fun p=>decide (p.1≠d)
end L2
namespace L2
open PySem PySem.Spec PyProof.Rows
structure Mod (K:PySem.W.Frag) (mg:Str->Option Value) (base:Heap):Prop where
 kin:K.In base
 glob:base.Ns mainGlobals mg
 blt: ∃mb,base.Ns builtinsNs mb/\ ∀x:Str,x≠"__name__"->mb x=bootBuiltins x
 nolimit:base.NoLimit
structure Cx where
 prog:Program
 w:World
 K:PySem.W.Frag
 mg:Str->Option Value
 base:Heap
 A:Around
 N:List Str
 s₀:Shared
 H₀:Hp
 env:Env
 outer:List Env
 stack:List Env
 ex:List Addr
 fn:Str->Bool
 calm:Bool
 pn:List (Addr×Obj)
 xe:Value->Shared->Prop
noncomputable def frs (l:List Env):List Addr:=l.filterMap (·.frame)
noncomputable abbrev Cx.fs (X:Cx):List Addr:=frs X.outer
noncomputable def Vis (sc:Scope) (x:Str):Prop:=sc.names.lookup x=some .local \/sc.names.lookup x=some .cell \/sc.names.lookup x=some .free
noncomputable def Loc (sc:Scope) (x:Str):Prop:=sc.names.lookup x=some .local \/sc.names.lookup x=some .cell
noncomputable def Look (env:Env) (h:Heap) (m:Str->Option Value) (x:Str) (u:Value):Prop:=
 (env.kindOf x=some .local/\m x=some u) \/((env.kindOf x=some .cell \/env.kindOf x=some .free)/\ ∃c,env.cells.lookup x=some c/\h.IsCell c (some u))
structure Cx.Ok (X:Cx):Prop where
 mod:Mod X.K X.mg X.base
 kind:X.env.scope.kind= .function
 glob:X.env.globals=mainGlobals
 blt:X.env.builtins=builtinsNs
 above:X.s₀.heap.objs.size<=X.env.locals
 inj: ∀x y c,X.env.cells.lookup x=some c->X.env.cells.lookup y=some c->x=y
 has: ∀x,(X.env.kindOf x=some .cell \/X.env.kindOf x=some .free)-> ∃c,X.env.cells.lookup x=some c
 cab: ∀x c,X.fn x=true->X.env.cells.lookup x=some c->X.s₀.heap.objs.size<=c
 hd:X.calm=true->X.A.handled=none
 frames:X.A.frames=some X.stack
 stk:X.stack=X.outer \/(X.stack=X.env::X.outer/\X.env.frame=some X.env.locals)
 exf: ∀b∈X.ex,b≠X.env.locals/\ ∀x c,X.env.cells.lookup x=some c->c≠b
 bs: ∀b o,X.base.get? b=some o->X.s₀.heap.get? b=some o/\X.H₀ b=none
 bsz:X.base.objs.size<=X.s₀.heap.objs.size
 noex: ∀b o,X.base.get? b=some o->b∉X.ex
 exfs: ∀b∈X.ex,b∉X.fs
 funs:X.s₀.heap.FunFrames X.base X.outer
 frf: ∀b∈X.fs,X.H₀ b=none
structure Inv (X:Cx) (pins:List (Addr×Obj)) (σ:List (Option V)) (H:Hp) (s:Shared):Prop where
 ok:X.Ok
 os:s.os=X.s₀.os
 bare:AllBare s.gens
 base:Un X.fs X.ex X.H₀ H X.s₀.heap s.heap
 loc: ∃m,s.heap.Ns X.env.locals m/\ ∀(i:Nat) (x:Str) (v:V),X.N[i]?=some x->σ[i]?=some (some v)->Vis X.env.scope x-> ∃u,RelV v u/\Look X.env s.heap m x u
 cell: ∀x c,X.env.cells.lookup x=some c-> ∃v,s.heap.IsCell c v
 free:H X.env.locals=none
 freeC: ∀x c,X.env.cells.lookup x=some c->H c=none
 pin: ∀p∈X.pn++pins,s.heap.get? p.1=some p.2/\H p.1=none/\p.1≠X.env.locals/\p.1∉X.fs/\ ∀v,p.2.data≠ .cell v
 hok:HOk X.prog X.w H s.heap
 len:σ.length=X.N.length
section
variable {X:Cx}{pins:List (Addr×Obj)}{σ:List (Option V)}{H H':Hp}{s:Shared}{h':Heap}
theorem Cx.Ok.nofr (ok:X.Ok) {b:Addr}{o:Obj} (e:X.base.get? b=some o):b∉X.fs:=fun hb=>by
 have:=(ok.funs.mem hb).1
 rw [e] at this;cases this
theorem Inv.bs (I:Inv X pins σ H s): ∀b o,X.base.get? b=some o->s.heap.get? b=some o/\H b=none:=fun b o e=>
 ⟨I.base.keep b o (I.ok.bs b o e).1 (I.ok.bs b o e).2 (I.ok.nofr e) (I.ok.noex b o e),I.base.free b o (I.ok.bs b o e).1 (I.ok.bs b o e).2 (I.ok.noex b o e)⟩
theorem Inv.bk (I:Inv X pins σ H s): ∀b o,X.base.get? b=some o->s.heap.get? b=some o:=fun b o e=>(I.bs b o e).1
theorem Inv.mod (I:Inv X pins σ H s):Mod X.K X.mg X.base:=I.ok.mod
theorem Inv.kIn (I:Inv X pins σ H s):X.K.In s.heap:=I.ok.mod.kin.keeps I.bk
theorem Inv.lt (I:Inv X pins σ H s):X.env.locals<s.heap.objs.size:=let ⟨_,hn,_⟩:=I.loc;hn.lt
theorem Inv.sz (I:Inv X pins σ H s):X.s₀.heap.objs.size<=s.heap.objs.size:=Nat.le_trans I.ok.above (Nat.le_of_lt I.lt)
theorem Inv.nofs (I:Inv X pins σ H s) {a:Addr} (h:s.heap.objs.size<=a):a∉X.fs:=fun hb=>by
 obtain ⟨_,o,ho,_⟩:=I.ok.funs.mem hb
 exact absurd (Nat.lt_of_lt_of_le (Heap.lt_size ho) (Nat.le_trans I.sz h)) (Nat.lt_irrefl _)
theorem Inv.cne (I:Inv X pins σ H s): ∀x c,X.env.cells.lookup x=some c->c≠X.env.locals:=fun x c e z=>by
 obtain ⟨v,o,ho,hd⟩:=I.cell x c e
 obtain ⟨m,⟨o',es,ep,ho',hd',_⟩,_⟩:=I.loc
 rw [z,ho'] at ho;cases ho;rw [hd'] at hd;cases hd
theorem Inv.funs (I:Inv X pins σ H s):s.heap.FunFrames X.base X.outer:=by
 have all: ∀(l:List Env),(∀b∈frs l,b∈X.fs)->X.s₀.heap.FunFrames X.base l->s.heap.FunFrames X.base l:=by
  intro l
  induction l with
  |nil=>intro _ _;trivial
  |cons env r ih=>
   intro hs hl
   obtain ⟨hk,⟨L,o,hf,hn,ho,hd⟩,hr⟩:=hl
   have hL:L∈X.fs:=hs L (by unfold frs;rw [List.filterMap_cons,hf];exact List.mem_cons_self)
   obtain ⟨sl,e⟩:=I.base.slot L o ho (I.ok.frf L hL) hL fun z=>I.ok.exfs L z hL
   exact ⟨hk,⟨L,_,hf,hn,e,hd⟩,ih (fun b hb=>hs b (by unfold frs;rw [List.filterMap_cons,hf];exact List.mem_cons_of_mem _ hb)) hr⟩
 exact all X.outer (fun _ hb=>hb) I.ok.funs
theorem Inv.stack (I:Inv X pins σ H s):s.heap.FunFrames X.base X.stack:=by
 rcases I.ok.stk with e|⟨e,hf⟩
 ·rw [e];exact I.funs
 ·rw [e]
  obtain ⟨m,hn,_⟩:=I.loc
  refine .cons (by rw [I.ok.kind];decide) hf hn ?_ I.funs
  exact Heap.get?_none_of_le (Nat.le_trans I.ok.bsz I.ok.above)
theorem Inv.stkSub (I:Inv X pins σ H s): ∀b∈frs X.stack,b∈X.env.locals::X.fs:=fun b hb=>by
 rcases I.ok.stk with e|⟨e,hf⟩
 ·rw [e] at hb;exact List.mem_cons_of_mem _ hb
 ·rw [e] at hb
  unfold frs at hb
  rw [List.filterMap_cons,hf] at hb
  exact hb
theorem Inv.stkFree (I:Inv X pins σ H s): ∀b∈frs X.stack,H b=none:=fun b hb=>by
 rcases List.mem_cons.mp (I.stkSub b hb) with e|hb
 ·rw [e];exact I.free
 ·obtain ⟨_,o,ho,_⟩:=I.ok.funs.mem hb
  exact I.base.free b o ho (I.ok.frf b hb) fun z=>I.ok.exfs b z hb
theorem Inv.step {g':Array GenState}{t':Nat}{d':Drawn}{ch:List Addr} (I:Inv X pins σ H s)
  (hch: ∀b∈ch,(b∈X.ex \/X.s₀.heap.objs.size<=b)/\b≠X.env.locals/\(∀x c,X.env.cells.lookup x=some c->c≠b)/\ ∀p∈X.pn++pins,p.1≠b)
  (keep: ∀b o,b≠X.env.locals->b∉X.fs->b∉ch->s.heap.get? b=some o->H b=none->h'.get? b=some o)
  (slot: ∀b o,b≠X.env.locals->b∈X.fs->b∉ch->s.heap.get? b=some o->H b=none-> ∃sl,h'.get? b=some {o with slots:=sl}) (free: ∀b o,b∉ch->s.heap.get? b=some o->H b=none->H' b=none)
  (there: ∀b o,b∉ch->s.heap.get? b=some o-> ∃o',h'.get? b=some o')
  (tups: ∀b xs,H b=some (.tup xs)->H' b=some (.tup xs)) (frzs: ∀b o u,H b=some (.frz o u)->H' b=some (.frz o u)) (tbls: ∀b q,H b=some (.tbl q)->H' b=some (.tbl q))
  (ns: ∀m,s.heap.Ns X.env.locals m->h'.Ns X.env.locals m) (hok:HOk X.prog X.w H' h') (hg:AllBare g'):
  Inv X pins σ H' {s with heap:=h',gens:=g',drawn:=d',toks:=t'}:=by
 have neL: ∀b o,X.s₀.heap.get? b=some o->b≠X.env.locals:=fun b o e=>Nat.ne_of_lt (Nat.lt_of_lt_of_le (Heap.lt_size e) I.ok.above)
 have neC: ∀b o,X.s₀.heap.get? b=some o->b∉X.ex->b∉ch:=fun b o e hx hb=>by
  rcases (hch b hb).1 with z|z
  ·exact hx z
  ·exact absurd (Nat.lt_of_lt_of_le (Heap.lt_size e) z) (Nat.lt_irrefl _)
 have cellK: ∀x c,X.env.cells.lookup x=some c-> ∀v,s.heap.IsCell c v->h'.IsCell c v:=fun x c e v ⟨o,ho,hd⟩=>by
  have nch:c∉ch:=fun z=>(hch c z).2.2.1 x c e rfl
  by_cases hc:c∈X.fs
  ·obtain ⟨sl,q⟩:=slot c o (I.cne x c e) hc nch ho (I.freeC x c e)
   exact ⟨_,q,hd⟩
  ·exact ⟨o,keep c o (I.cne x c e) hc nch ho (I.freeC x c e),hd⟩
 refine ⟨I.ok,I.os,hg,⟨fun b o e n hb hx=> ?_,fun b o e n hb hx=> ?_,fun b o e n hx=> ?_,fun b o e hx=> ?_,fun b xs e=>tups b xs (I.base.tups b xs e),fun b o xs e=>frzs b o xs (I.base.frzs b o xs e),fun b ps e=> ?_⟩,?_,fun x c e=> ?_,?_,fun x c e=> ?_,fun p hp=> ?_,hok,I.len⟩
 ·exact keep b o (neL b o e) hb (neC b o e hx) (I.base.keep b o e n hb hx) (I.base.free b o e n hx)
 ·obtain ⟨sl,e1⟩:=I.base.slot b o e n hb hx
  obtain ⟨sl',e2⟩:=slot b _ (neL b o e) hb (neC b o e hx) e1 (I.base.free b o e n hx)
  exact ⟨sl',e2⟩
 ·obtain ⟨o',e1⟩:=I.base.there b o e hx
  exact free b o' (neC b o e hx) e1 (I.base.free b o e n hx)
 ·obtain ⟨o',e1⟩:=I.base.there b o e hx
  exact there b o' (neC b o e hx) e1
 ·exact tbls b _ (I.base.tbls b ps e)
 ·obtain ⟨m,hn,hl⟩:=I.loc
  refine ⟨m,ns m hn,fun i x v e1 e2 e3=> ?_⟩
  obtain ⟨u,r,l⟩:=hl i x v e1 e2 e3
  refine ⟨u,r,?_⟩
  rcases l with l|⟨k,c,e,z⟩
  ·exact .inl l
  ·exact .inr ⟨k,c,e,cellK x c e _ z⟩
 ·obtain ⟨v,z⟩:=I.cell x c e
  exact ⟨v,cellK x c e v z⟩
 ·obtain ⟨m,⟨o,_,_,ho,_⟩,_⟩:=I.loc
  exact free _ o (fun z=>(hch _ z).2.1 rfl) ho I.free
 ·obtain ⟨v,o,ho,hd⟩:=I.cell x c e
  exact free c o (fun z=>(hch c z).2.2.1 x c e rfl) ho (I.freeC x c e)
 ·obtain ⟨e,n,ne,nf,d⟩:=I.pin p hp
  have nch:p.1∉ch:=fun z=>(hch p.1 z).2.2.2 p hp rfl
  exact ⟨keep p.1 p.2 ne nf nch e n,free p.1 p.2 nch e n,ne,nf,d⟩
theorem Inv.un {t':Nat} (I:Inv X pins σ H s) (u:Un X.fs [] H H' s.heap h') (hok:HOk X.prog X.w H' h'):Inv X pins σ H' {s with heap:=h',toks:=t'}:=by
 obtain ⟨m,⟨o,es,ep,ho,r⟩,_⟩:=id I.loc
 obtain ⟨sl,hL⟩:=u.any ho I.free (by simp)
 exact I.step (g':=s.gens) (d':=s.drawn) (ch:=[]) (fun _ z=>nomatch z) (fun b o _ hb _ e n=>u.keep b o e n hb (by simp)) (fun b o _ hb _ e n=>u.slot b o e n hb (by simp)) (fun b o _ e n=>u.free b o e n (by simp)) (fun b o _ e=>u.there b o e (by simp)) u.tups u.frzs u.tbls (fun m' hm=>by
  obtain ⟨o',es',ep',ho',r'⟩:=hm
  rw [ho] at ho';cases ho'
  exact ⟨_,es',ep',hL,r'⟩) hok I.bare
theorem Inv.call {g':Array GenState}{t':Nat}{d':Drawn}{ch:List Addr} (I:Inv X pins σ H s) (u:Un (frs X.stack) ch H H' s.heap h') (hok:HOk X.prog X.w H' h') (hg:AllBare g')
  (hch: ∀b∈ch,(b∈X.ex \/X.s₀.heap.objs.size<=b)/\b≠X.env.locals/\(∀x c,X.env.cells.lookup x=some c->c≠b)/\ ∀p∈X.pn++pins,p.1≠b):
  Inv X pins σ H' {s with heap:=h',gens:=g',drawn:=d',toks:=t'}:=by
 obtain ⟨m,⟨o,es,ep,ho,r⟩,_⟩:=id I.loc
 obtain ⟨sl,hL⟩:=u.any ho I.free fun z=>(hch _ z).2.1 rfl
 exact I.step (ch:=ch) hch (fun b o hL hb hc e n=>u.keep b o e n (fun z=>(List.mem_cons.mp (I.stkSub b z)).elim hL hb) hc) (fun b o _ _ hc e n=>u.any e n hc) (fun b o hc e n=>u.free b o e n hc) (fun b o hc e=>u.there b o e hc) u.tups u.frzs u.tbls (fun m' hm=>by
  obtain ⟨o',es',ep',ho',r'⟩:=hm
  rw [ho] at ho';cases ho'
  exact ⟨_,es',ep',hL,r'⟩) hok hg
theorem Inv.turned {t':Nat}{it:Addr} (I:Inv X pins σ H s) (k: ∀b o,b≠it->s.heap.get? b=some o->h'.get? b=some o) (hn:H it=none) (hL:it≠X.env.locals)
  (h1:it∈X.ex \/X.s₀.heap.objs.size<=it) (h2: ∀x c,X.env.cells.lookup x=some c->c≠it) (h3: ∀p∈X.pn++pins,p.1≠it):Inv X pins σ H {s with heap:=h',toks:=t'}:=by
 have nit: ∀b u,H b=some u->b≠it:=fun b u e z=>by rw [z,hn] at e;cases e
 refine I.step (g':=s.gens) (d':=s.drawn) (ch:=[it]) (fun b hb=> ?_) (fun b o _ _ hc e _=>k b o (fun z=>hc (by simp [z])) e) (fun b o _ _ hc e _=>⟨o.slots,k b o (fun z=>hc (by simp [z])) e⟩) (fun _ _ _ _ n=>n)
  (fun b o hc e=>⟨o,k b o (fun z=>hc (by simp [z])) e⟩) (fun _ _ e=>e) (fun _ _ _ e=>e) (fun _ _ e=>e) (fun m hm=> ?_) (fun b u e=> ?_) I.bare
 ·have e:b=it:=by simpa using hb
  subst e
  exact ⟨h1,hL,h2,h3⟩
 ·obtain ⟨o,es,ep,ho,r⟩:=hm
  exact ⟨o,es,ep,k _ o (Ne.symm hL) ho,r⟩
 ·refine (I.hok b u e).stay (fun c v hc q=>k c v ?_ q) (fun _ q=>q) fun _ _ q=>q
  rcases hc with z|z
  ·rw [z];exact nit b u e
  ·exact nit c _ z
theorem Inv.tok (I:Inv X pins σ H s) (t:Nat):Inv X pins σ H {s with toks:=t}:=I.un (h':=s.heap) (t':=t) Un.refl I.hok
theorem Inv.kept {t':Nat} (I:Inv X pins σ H s) (k: ∀b u,s.heap.get? b=some u->h'.get? b=some u):Inv X pins σ H {s with heap:=h',toks:=t'}:=I.un (Un.kept k) (I.hok.kept k)
theorem Inv.laid {a:Addr}{o:HO}{t':Nat} (I:Inv X pins σ H s) (k: ∀b u,s.heap.get? b=some u->h'.get? b=some u) (hp:s.heap.objs.size<=a) (new:ax X.prog X.w (upd H a o) h' a o):
  Inv X pins σ (upd H a o) {s with heap:=h',toks:=t'}:=I.un (Un.laid k hp (I.hok.fresh hp)) (I.hok.laid k hp new)
theorem Inv.write {x e:Addr}{o:HO}{t':Nat} (I:Inv X pins σ H s) (mu:Mut (H x)) (he:e=x \/H e=some (.own x)) (k: ∀b u,b≠e->s.heap.get? b=some u->h'.get? b=some u) (heo: ∃u,h'.get? e=some u)
  (new:ax X.prog X.w (upd H x o) h' x o):Inv X pins σ (upd H x o) {s with heap:=h',toks:=t'}:=I.un (Un.write mu he k heo) (I.hok.write mu he k heo new)
theorem Inv.pins_of {pins':List (Addr×Obj)} (I:Inv X pins σ H s) (h: ∀p∈pins',s.heap.get? p.1=some p.2/\H p.1=none/\p.1≠X.env.locals/\p.1∉X.fs/\ ∀v,p.2.data≠ .cell v):Inv X pins' σ H s:=
 ⟨I.ok,I.os,I.bare,I.base,I.loc,I.cell,I.free,I.freeC,fun p hp=>(List.mem_append.mp hp).elim (fun z=>I.pin p (List.mem_append_left _ z)) (h p),I.hok,I.len⟩
theorem jX {N:List Str} (hN:N.Nodup) {i j:Nat}{x:Str} (a:N[i]?=some x) (b:N[j]?=some x):i=j:=by
 obtain ⟨h1,e1⟩:=List.getElem?_eq_some_iff.mp a
 obtain ⟨h2,e2⟩:=List.getElem?_eq_some_iff.mp b
 exact (List.getElem_inj hN).mp (e1.trans e2.symm)
theorem mM {M:Model}{A:Around}{E:Value->Shared->Prop}{i:Nat}{x:Str}{v:V}{u:Value}{Q:Unit->Shared->Prop} (I:Inv X pins σ H s) (hN:X.N.Nodup) (hi:X.N[i]?=some x) (hx:Loc X.env.scope x) (r:RelV v u)
  (h: ∀s',Inv X pins (σ.set i (some v)) H s'->(∃a,Heap.SameBut a s.heap s'.heap/\(a=X.env.locals \/X.env.cells.lookup x=some a))->Q () s') (hf:X.fn x=true \/X.env.scope.names.lookup x=some .local:=by first|exact .inl rfl|exact .inr rfl|assumption):wpAny M A (storeName X.env x u) Q E s:=by
 obtain ⟨m,hn,hl⟩:=id I.loc
 have hcls:(X.env.scope.kind== .class||(X.env.scope.kind== .module&&X.env.locals !=X.env.globals))=false:=by rw [I.ok.kind];rfl
 have hiσ:i<σ.length:=by rw [I.len];exact (List.getElem?_eq_some_iff.mp hi).1
 have cne:=I.cne
 have tracked: ∀{a:Addr}{h':Heap},(∃o,s.heap.get? a=some o/\H a=none)->Heap.SameBut a s.heap h'->HOk X.prog X.w H h':=fun {a h'} ha hs b ob e=>by
  obtain ⟨_,_,hfree⟩:=ha
  refine (I.hok b ob e).stay (fun c w' hc q=>(hs.2 c ?_).trans q) (fun _ q=>q) fun _ _ q=>q
  rintro rfl
  rcases hc with rfl|hc
  ·rw [hfree] at e;cases e
  ·rw [hfree] at hc;cases hc
 rcases hx with hk|hk
 ·refine wpAny_storeName_local hk hn (fun h' hn' hs=> ?_) hcls
  obtain ⟨oL,_,_,hoL,_⟩:=id hn
  refine h _ ⟨I.ok,I.os,I.bare,⟨fun b o e n hb hx=> ?_,fun b o e n hb hx=> ?_,I.base.free,fun b o e hx=> ?_,I.base.tups,I.base.frzs,I.base.tbls⟩,⟨_,hn',fun j y v' e1 e2 e3=> ?_⟩,fun y c e=> ?_,I.free,I.freeC,fun p hp=> ?_,tracked ⟨oL,hoL,I.free⟩ hs,by simpa using I.len⟩ ⟨_,hs,.inl rfl⟩
  ·exact (hs.2 b (Nat.ne_of_lt (Nat.lt_of_lt_of_le (Heap.lt_size e) I.ok.above))).trans (I.base.keep b o e n hb hx)
  ·obtain ⟨sl,e1⟩:=I.base.slot b o e n hb hx
   exact ⟨sl,(hs.2 b (Nat.ne_of_lt (Nat.lt_of_lt_of_le (Heap.lt_size e) I.ok.above))).trans e1⟩
  ·obtain ⟨o',e1⟩:=I.base.there b o e hx
   exact ⟨o',(hs.2 b (Nat.ne_of_lt (Nat.lt_of_lt_of_le (Heap.lt_size e) I.ok.above))).trans e1⟩
  ·by_cases hj:j=i
   ·subst hj
    rw [hi] at e1;cases e1
    rw [List.getElem?_set_self hiσ] at e2
    cases e2
    exact ⟨u,r,.inl ⟨hk,by simp⟩⟩
   ·rw [List.getElem?_set_ne (Ne.symm hj)] at e2
    obtain ⟨u',r',q⟩:=hl j y v' e1 e2 e3
    refine ⟨u',r',?_⟩
    rcases q with ⟨k,e⟩|⟨k,c,e,z⟩
    ·refine .inl ⟨k,?_⟩
     have:y≠x:=fun e=>hj (jX hN e1 (e▸hi))
     simp [this,e]
    ·exact .inr ⟨k,c,e,z.sameBut hs (cne y c e)⟩
  ·obtain ⟨w',z⟩:=I.cell y c e
   exact ⟨w',z.sameBut hs (cne y c e)⟩
  ·obtain ⟨e,n,ne,nf,d⟩:=I.pin p hp
   exact ⟨(hs.2 p.1 ne).trans e,n,ne,nf,d⟩
 ·have hfn:X.fn x=true:=by
   rcases hf with z|z
   ·exact z
   ·rw [z] at hk;cases hk
  obtain ⟨c,hc⟩:=I.ok.has x (.inl hk)
  obtain ⟨w',z⟩:=I.cell x c hc
  refine wpAny_storeName_cell I.ok.kind hk hc z (fun h' hc' hs=> ?_)
  obtain ⟨oc,hoc,hocd⟩:=id z
  refine h {s with heap:=h'} ⟨I.ok,I.os,I.bare,⟨fun b o e n hb hx=> ?_,fun b o e n hb hx=> ?_,I.base.free,fun b o e hx=> ?_,I.base.tups,I.base.frzs,I.base.tbls⟩,⟨m,hn.sameBut hs (Ne.symm (cne x c hc)),fun j y v' e1 e2 e3=> ?_⟩,fun y c' e=> ?_,I.free,I.freeC,fun p hp=> ?_,tracked ⟨oc,hoc,I.freeC x c hc⟩ hs,by simpa using I.len⟩ ⟨c,hs,.inr hc⟩
  ·exact (hs.2 b (Nat.ne_of_lt (Nat.lt_of_lt_of_le (Heap.lt_size e) (I.ok.cab x c hfn hc)))).trans (I.base.keep b o e n hb hx)
  ·obtain ⟨sl,e1⟩:=I.base.slot b o e n hb hx
   exact ⟨sl,(hs.2 b (Nat.ne_of_lt (Nat.lt_of_lt_of_le (Heap.lt_size e) (I.ok.cab x c hfn hc)))).trans e1⟩
  ·obtain ⟨o',e1⟩:=I.base.there b o e hx
   exact ⟨o',(hs.2 b (Nat.ne_of_lt (Nat.lt_of_lt_of_le (Heap.lt_size e) (I.ok.cab x c hfn hc)))).trans e1⟩
  ·by_cases hj:j=i
   ·subst hj
    rw [hi] at e1;cases e1
    rw [List.getElem?_set_self hiσ] at e2
    cases e2
    exact ⟨u,r,.inr ⟨.inl hk,c,hc,hc'⟩⟩
   ·rw [List.getElem?_set_ne (Ne.symm hj)] at e2
    obtain ⟨u',r',q⟩:=hl j y v' e1 e2 e3
    refine ⟨u',r',?_⟩
    rcases q with q|⟨k,c',e,z'⟩
    ·exact .inl q
    ·refine .inr ⟨k,c',e,z'.sameBut hs ?_⟩
     rintro rfl
     exact hj (jX hN e1 (I.ok.inj _ _ _ e hc▸hi))
  ·by_cases hcc:c'=c
   ·subst hcc;exact ⟨_,hc'⟩
   ·obtain ⟨w2,z2⟩:=I.cell y c' e
    exact ⟨w2,z2.sameBut hs hcc⟩
  ·obtain ⟨e,n,ne,nf,d⟩:=I.pin p hp
   refine ⟨(hs.2 p.1 ?_).trans e,n,ne,nf,d⟩
   intro q
   rw [q,hoc] at e
   have q':oc=p.2:=Option.some.inj e
   exact d w' (by rw [<-q'];exact hocd)
theorem jY {M:Model}{A:Around}{E:Value->Shared->Prop}{i:Nat}{x:Str}{v:V}{u:Value}{Q:Unit->Shared->Prop} (I:Inv X pins σ H s) (hN:X.N.Nodup) (hi:X.N[i]?=some x) (hx:Loc X.env.scope x) (r:RelV v u)
  (h: ∀s',Inv X pins (σ.set i (some v)) H s'->Q () s') (hf:X.fn x=true \/X.env.scope.names.lookup x=some .local:=by first|exact .inl rfl|exact .inr rfl|assumption):wpAny M A (storeName X.env x u) Q E s:=
 mM I hN hi hx r (fun s' I' _=>h s' I') hf
theorem Inv.call' {s':Shared}{ch:List Addr} (I:Inv X pins σ H s) (ho:s'.os=s.os) (u:Un (frs X.stack) ch H H' s.heap s'.heap) (hok:HOk X.prog X.w H' s'.heap) (hg:AllBare s'.gens)
  (hch: ∀b∈ch,(b∈X.ex \/X.s₀.heap.objs.size<=b)/\b≠X.env.locals/\(∀x c,X.env.cells.lookup x=some c->c≠b)/\ ∀p∈X.pn++pins,p.1≠b):Inv X pins σ H' s':=by
 obtain ⟨h',g',d',t',o'⟩:=s'
 have e:o'=s.os:=ho
 subst e
 exact I.call (g':=g') (t':=t') (d':=d') u hok hg hch
end
noncomputable abbrev XK:=Value->Option Addr->Hp->Prop
noncomputable abbrev St:=List (Option V)
noncomputable abbrev VK:=V->Hp->Prop
noncomputable abbrev TE:=St->Hp->VK->Prop
noncomputable abbrev TT:=St->Hp->(Bool->Hp->Prop)->Prop
noncomputable abbrev TA:=St->Hp->(List V->Hp->Prop)->Prop
structure Ends where
 nx:St->Hp->Prop
 rt:VK
 bk:St->Hp->Prop:=fun _ _=>False
 ct:St->Hp->Prop:=fun _ _=>False
noncomputable abbrev TS:=Ends->St->Hp->Prop
noncomputable def EP (X:Cx) (pins:List (Addr×Obj)) (σ:St) (Q:VK) (u:Value) (s':Shared):Prop:= ∃v H',Inv X pins σ H' s'/\RelV v u/\Q v H'
noncomputable def TP (X:Cx) (pins:List (Addr×Obj)) (σ:St) (Q:Bool->Hp->Prop) (b:Bool) (s':Shared):Prop:= ∃H',Inv X pins σ H' s'/\Q b H'
noncomputable def AP (X:Cx) (pins:List (Addr×Obj)) (σ:St) (Q:List V->Hp->Prop) (us:List Value) (s':Shared):Prop:= ∃vs H',Inv X pins σ H' s'/\Vals vs us/\Q vs H'
noncomputable def SP (X:Cx) (pins:List (Addr×Obj)) (D:Ends) (f:Flow) (s':Shared):Prop:=
 match f with
 | .next=> ∃σ' H',Inv X pins σ' H' s'/\D.nx σ' H'
 | .brk=> ∃σ' H',Inv X pins σ' H' s'/\D.bk σ' H'
 | .cont=> ∃σ' H',Inv X pins σ' H' s'/\D.ct σ' H'
 | .ret u=> ∃v σ' H',Inv X pins σ' H' s'/\RelV v u/\D.rt v H'
noncomputable def PE (X:Cx) (e:Expr) (t:TE):Prop:=
 ∀(pins:List (Addr×Obj)) (s:Shared) (σ:St) (H:Hp) (Q:VK),Inv X pins σ H s->t σ H Q->wpAny (model X.prog X.w) X.A (eval e X.env) (EP X pins σ Q) X.xe s
noncomputable def PT (X:Cx) (e:Expr) (t:TT):Prop:=
 ∀(pins:List (Addr×Obj)) (s:Shared) (σ:St) (H:Hp) (Q:Bool->Hp->Prop),Inv X pins σ H s->t σ H Q->wpAny (model X.prog X.w) X.A (isTrue e X.env (eval e X.env)) (TP X pins σ Q) X.xe s
noncomputable def PW (X:Cx) (e:Expr) (t:TT):Prop:=
 ∀(whole:Sem Value) (pins:List (Addr×Obj)) (s:Shared) (σ:St) (H:Hp) (Q:Bool->Hp->Prop),Inv X pins σ H s->t σ H Q->wpAny (model X.prog X.w) X.A (isTrue e X.env whole) (TP X pins σ Q) X.xe s
theorem PW.pt {X:Cx}{e:Expr}{t:TT} (h:PW X e t):PT X e t:=h _
noncomputable def PA (X:Cx) (es:List Expr) (t:TA):Prop:=
 ∀(pos:Pos) (pins:List (Addr×Obj)) (s:Shared) (σ:St) (H:Hp) (Q:List V->Hp->Prop),Inv X pins σ H s->t σ H Q->wpAny (model X.prog X.w) X.A (spliced (backTo pos (starEach es X.env))) (AP X pins σ Q) X.xe s
noncomputable def PS (X:Cx) (st:Stmt) (t:TS):Prop:=
 ∀(pins:List (Addr×Obj)) (s:Shared) (σ:St) (H:Hp) (D:Ends),Inv X pins σ H s->t D σ H->wpAny (model X.prog X.w) X.A (exec st X.env) (SP X pins D) X.xe s
noncomputable def PSs (X:Cx) (st:List Stmt) (t:TS):Prop:=
 ∀(pins:List (Addr×Obj)) (s:Shared) (σ:St) (H:Hp) (D:Ends),Inv X pins σ H s->t D σ H->wpAny (model X.prog X.w) X.A (execs st X.env) (SP X pins D) X.xe s
theorem thn {α:Type}{t:Sem α}{Q Q':α->Shared->Prop}{M:Model}{A:Around}{E:Value->Shared->Prop}{s:Shared} (h:wpAny M A t Q E s) (hQ: ∀a s,Q a s->Q' a s):wpAny M A t Q' E s:=wpAny_mono h hQ fun _ _ x=>x
end L2
namespace L2
open PySem PySem.Spec PyProof.Rows
section
variable {X:Cx}
theorem bin {a b:Expr}{ta tb:TE} (ha:PE X a ta) (hb:PE X b tb) {pins:List (Addr×Obj)}{s:Shared}{σ:St}{H:Hp}{R:V->V->Hp->Prop} (I:Inv X pins σ H s) (h:ta σ H fun x H1=>tb σ H1 fun y H2=>R x y H2)
  {α:Type}{Q:α->Shared->Prop}{f:Value->Value->Sem α}
  (hf: ∀v u s2 x y H2,Inv X pins σ H2 s2->RelV x v->RelV y u->R x y H2->wpAny (model X.prog X.w) X.A (f v u) Q X.xe s2):
  wpAny (model X.prog X.w) X.A (eval a X.env) (fun v s₁=>wpAny (model X.prog X.w) X.A (eval b X.env) (fun u s₂=>wpAny (model X.prog X.w) X.A (f v u) Q X.xe s₂) X.xe s₁) X.xe s:=by
 refine thn (ha pins s σ H _ I h) fun v s1 ⟨x,H1,I1,r1,q1⟩=> ?_
 refine thn (hb pins s1 σ H1 _ I1 q1) fun u s2 ⟨y,H2,I2,r2,q2⟩=> ?_
 exact hf v u s2 x y H2 I2 r1 r2 q2
noncomputable def tVar (i:Nat):TE:=fun σ H Q=> ∃v,σ[i]?=some (some v)/\Q v H
noncomputable def tC (v:V):TE:=fun _ H Q=>Q v H
theorem mO {i:Nat}{x:Str}{pos:Pos} (hN:X.N[i]?=some x) (hv:Vis X.env.scope x) (hd:(x==("__debug__":Str))=false:=by decide) (hcd:(x==("__classdict__":Str))=false:=by decide):PE X (.Name x pos) (tVar i):=by
 intro pins s σ H Q I h
 obtain ⟨v,e,h⟩:=h
 obtain ⟨m,hn,hl⟩:=I.loc
 obtain ⟨u,r,l⟩:=hl i x v hN e hv
 have fin:EP X pins σ Q u s:=⟨v,H,I,r,h⟩
 rcases l with ⟨hk,hm⟩|⟨hk,c,hc,hcell⟩
 ·exact wpAny_Name (wpAny_loadName_local I.ok.kind hk hn hm fin) hd
 ·rcases hk with hk|hk
  ·exact wpAny_Name (wpAny_loadName_cell I.ok.kind hk hc hcell fin) hd
  ·exact wpAny_Name (wpAny_loadName_free I.ok.kind hk hc hcell fin hcd) hd
theorem sP {i j pos}:PE X (.Constant (.int i) j pos) (tC (.int i)):=fun _ _ _ H _ I h=>wpAny_Constant_int ⟨.int i,H,I.tok _,⟨_,rfl⟩,h⟩
theorem sQ {b j pos}:PE X (.Constant (.bool b) j pos) (tC (.bl b)):=fun _ _ _ H _ I h=>Constant_bool ⟨.bl b,H,I,rfl,h⟩
theorem sR {j pos}:PE X (.Constant .none j pos) (tC .non):=fun _ _ _ H _ I h=>Constant_none ⟨.non,H,I,rfl,h⟩
theorem sS {x j pos}:PE X (.Constant (.str x) j pos) (tC (.str x)):=fun _ _ _ H _ I h=>Calls.Constant_str ⟨.str x,H,I.tok _,⟨_,rfl⟩,h⟩
noncomputable def Gl (X:Cx) (x:Str):Prop:=X.env.kindOf x=some .globalImplicit
theorem gu {E:Value->Shared->Prop}{pins:List (Addr×Obj)}{s:Shared}{σ:St}{H:Hp}{x:Str}{u:Value}{pos:Pos}{Q:Value->Shared->Prop} (I:Inv X pins σ H s) (hg:Gl X x) (hm:X.mg x=some u) (h:Q u s)
  (hd:(x==("__debug__":Str))=false:=by decide):wpAny (model X.prog X.w) X.A (eval (.Name x pos) X.env) Q E s:=
 Calls.Name_function_global I.ok.kind hg (Calls.loadGlobal_global (by rw [I.ok.glob];exact I.mod.glob.keeps I.bk) hm h) hd
theorem gv {E:Value->Shared->Prop}{pins:List (Addr×Obj)}{s:Shared}{σ:St}{H:Hp}{x:Str}{u:Value}{pos:Pos}{Q:Value->Shared->Prop} (I:Inv X pins σ H s) (hg:Gl X x) (hm:X.mg x=none) (hv:bootBuiltins x=some u) (h:Q u s)
  (hn:x≠"__name__":=by decide) (hd:(x==("__debug__":Str))=false:=by decide):wpAny (model X.prog X.w) X.A (eval (.Name x pos) X.env) Q E s:=by
 obtain ⟨mb,h1,h2⟩:=I.mod.blt
 exact Calls.Name_function_global I.ok.kind hg (Calls.loadGlobal_builtin (by rw [I.ok.glob];exact I.mod.glob.keeps I.bk) hm (by rw [I.ok.blt];exact h1.keeps I.bk) ((h2 x hn).trans hv) h) hd
theorem bR {x:Str}{v:V}{u:Value}{pos:Pos} (hg:Gl X x) (hm:X.mg x=some u) (r:RelV v u) (hd:(x==("__debug__":Str))=false:=by decide):PE X (.Name x pos) (tC v):=
 fun _ _ _ H _ I h=>gu I hg hm ⟨v,H,I,r,h⟩ hd
theorem mP {x:Str}{v:V}{u:Value}{pos:Pos} (hg:Gl X x) (hm:X.mg x=none) (hv:bootBuiltins x=some u) (r:RelV v u) (hn:x≠"__name__":=by decide) (hd:(x==("__debug__":Str))=false:=by decide):PE X (.Name x pos) (tC v):=
 fun _ _ _ H _ I h=>gv I hg hm hv ⟨v,H,I,r,h⟩ hn hd
variable {a b:Expr}{ta tb:TE}{pos:Pos}
noncomputable def PC (X:Cx) (op:CmpOp) (a b:Expr) (t:TE):Prop:=
 ∀(pins:List (Addr×Obj)) (s:Shared) (σ:St) (H:Hp) (Q:VK),Inv X pins σ H s->t σ H Q->
  wpAny (model X.prog X.w) X.A (eval a X.env) (fun v s₁=>wpAny (model X.prog X.w) X.A (eval b X.env) (fun u s₂=>wpAny (model X.prog X.w) X.A (compareOp op v u) (EP X pins σ Q) X.xe s₂) X.xe s₁) X.xe s
theorem mQ (b:Expr) {op:CmpOp} (h:op≠ .In) (h2:op≠ .NotIn):behindInMarks op b=false:=by
 have e1:(op==CmpOp.In)=false:=by cases op<;>first|rfl|exact absurd rfl h
 have e2:(op==CmpOp.NotIn)=false:=by cases op<;>first|rfl|exact absurd rfl h2
 cases b<;>simp [behindInMarks,e1,e2]
noncomputable def mR (ta:TE):TE:=fun σ H Q=>ta σ H fun x H1=>Q (.bl (!decide (x= .non))) H1
theorem RelV.none_iff {x:V}{v:Value} (r:RelV x v):(v==Value.none)=decide (x= .non):=by
 cases x with
 |non=>cases r;rfl
 |bl _=>cases r;rfl
 |int _=>obtain ⟨t,rfl⟩:=r;rfl
 |str _=>obtain ⟨t,rfl⟩:=r;rfl
 |byt _=>obtain ⟨t,rfl⟩:=r;rfl
 |flt _=>obtain ⟨t,rfl⟩:=r;rfl
 |ref _=>cases r;rfl
 |ty _=>cases r;rfl
theorem sT {j pos'} (ha:PE X a ta):PC X .IsNot a (.Constant .none j pos') (mR ta):=by
 intro pins s σ H Q I h
 refine thn (ha pins s σ H _ I h) fun v s1 ⟨x,H1,I1,r1,q1⟩=> ?_
 exact Constant_none (isnot_none_gen ⟨.bl _,H1,I1,by rw [r1.none_iff];rfl,q1⟩)
noncomputable def tB (t:TE):TT:=fun σ H Q=>t σ H fun x H1=> ∃c,x= .bl c/\Q c H1
theorem sU {op:CmpOp}{t:TE} (h:PC X op a b t) (h1:behindInMarks op b=false:=by first|exact mQ _ (by decide) (by decide)|rfl):PE X (.Compare a [op] [b] pos) t:=fun pins s σ H Q I hw=>wpAny_Compare1 (h pins s σ H Q I hw) h1
theorem Cy {op:CmpOp}{t:TE} (h:PC X op a b t) (h1:behindInMarks op b=false:=by first|exact mQ _ (by decide) (by decide)|rfl):PT X (.Compare a [op] [b] pos) (tB t):=by
 intro pins s σ H Q I hw
 refine wpAny_isTrue_Compare1 (thn (h pins s σ H _ I hw) fun v s1 h1=>thn h1 fun u s2 h2=>thn h2 fun c s3 ⟨x,H1,I1,r1,q1⟩=> ?_) h1
 obtain ⟨d,rfl,q⟩:=q1
 cases r1
 exact wpAny_truthy_bool ⟨H1,I1,q⟩
theorem sV {e:Expr}{t:TE} (h:PE X e t) (he: ∀whole,isTrue e X.env whole=(do let v<-whole;standAt e.pos;holding [v] (truthy v)):=by intro _;rfl):PT X e (tB t):=by
 intro pins s σ H Q I hw
 refine isTrue_plain (thn (h pins s σ H _ I hw) fun v s1 ⟨x,H1,I1,r1,q1⟩=> ?_) (he _)
 obtain ⟨d,rfl,q⟩:=q1
 cases r1
 exact wpAny_truthy_bool ⟨H1,I1,q⟩
variable {tA tB':TT}{rest:List Expr}
noncomputable def tAnd (t u:TT):TT:=fun σ H Q=>t σ H fun c H1=>if c=true then u σ H1 Q else Q false H1
noncomputable def tOr (t u:TT):TT:=fun σ H Q=>t σ H fun c H1=>if c=true then Q true H1 else u σ H1 Q
noncomputable def tNot (t:TT):TT:=fun σ H Q=>t σ H fun c H1=>Q (!c) H1
theorem sW (ha:PT X a tA):PW X (.BoolOp .And [a] pos) tA:=by
 intro wh pins s σ H Q I h
 refine isTrue_and (thn (ha pins s σ H Q I h) fun c s1 e=> ?_)
 cases c with
 |true=>exact isTrue_and_nil e
 |false=>exact e
theorem sX (ha:PT X a tA):PW X (.BoolOp .Or [a] pos) tA:=by
 intro wh pins s σ H Q I h
 refine isTrue_or (thn (ha pins s σ H Q I h) fun c s1 e=> ?_)
 cases c with
 |false=>exact isTrue_or_nil e
 |true=>exact e
theorem sY (ha:PT X a tA) (hb:PW X (.BoolOp .And (b::rest) pos) tB'):PW X (.BoolOp .And (a::b::rest) pos) (tAnd tA tB'):=by
 intro wh pins s σ H Q I h
 refine isTrue_and (thn (ha pins s σ H _ I h) fun c s1 ⟨H1,I1,q1⟩=> ?_)
 cases c with
 |true=>exact hb wh pins s1 σ H1 Q I1 q1
 |false=>exact ⟨H1,I1,q1⟩
theorem sZ (ha:PT X a tA) (hb:PW X (.BoolOp .Or (b::rest) pos) tB'):PW X (.BoolOp .Or (a::b::rest) pos) (tOr tA tB'):=by
 intro wh pins s σ H Q I h
 refine isTrue_or (thn (ha pins s σ H _ I h) fun c s1 ⟨H1,I1,q1⟩=> ?_)
 cases c with
 |true=>exact ⟨H1,I1,q1⟩
 |false=>exact hb wh pins s1 σ H1 Q I1 q1
theorem tj (ha:PT X a tA):PT X (.UnaryOp .Not a pos) (tNot tA):=by
 intro pins s σ H Q I h
 exact isTrue_not (ha pins s σ H (fun c H1=>Q (!c) H1) I h)
noncomputable def jZ (ta tb:TE):TE:=fun σ H Q=>ta σ H fun x H1=> ∃c,x= .bl c/\if c=true then tb σ H1 Q else Q (.bl false) H1
noncomputable def mS (ta:TE):TE:=fun σ H Q=>ta σ H fun x H1=> ∃c,x= .bl c/\Q (.bl (!c)) H1
theorem mT {op}{t:TE} (h:PE X a t):PE X (.BoolOp op [a] pos) t:=fun pins s σ H Q I hw=>BoolOp_one (h pins s σ H Q I hw)
theorem j4 (ha:PE X a ta) (hb:PE X (.BoolOp .And (b::rest) pos) tb):PE X (.BoolOp .And (a::b::rest) pos) (jZ ta tb):=by
 intro pins s σ H Q I h
 refine BoolOp_and (thn (ha pins s σ H _ I h) fun v s1 ⟨x,H1,I1,r1,q1⟩=> ?_)
 obtain ⟨c,rfl,q1⟩:=q1
 cases r1
 refine wpAny_truthy_bool ?_
 cases c with
 |true=>exact hb pins s1 σ H1 Q I1 q1
 |false=>exact ⟨.bl false,H1,I1,rfl,q1⟩
theorem tm (ha:PE X a ta):PE X (.UnaryOp .Not a pos) (mS ta):=by
 intro pins s σ H Q I h
 refine UnaryOp_ (thn (ha pins s σ H _ I h) fun v s1 ⟨x,H1,I1,r1,q1⟩=> ?_)
 obtain ⟨c,rfl,q1⟩:=q1
 cases r1
 exact not_of (wpAny_truthy_bool ⟨.bl (!c),H1,I1,rfl,q1⟩)
end
end L2
namespace L2
open PySem PySem.Spec PyProof.Rows
noncomputable def SqL (K:PySem.W.Frag) (H:Hp) (a:Addr) (xs:List V):Prop:=
 Rd H a (.lst xs) \/
  ∃(o:Obj) (its:Array Value) (n:Nat),K.lookup a=some o/\o.cls= .type "list"/\o.dict=none/\o.data= .seq its n/\its.size<=sizeLine/\Vals xs its.toList
noncomputable def SqT (K:PySem.W.Frag) (H:Hp) (a:Addr) (xs:List V):Prop:=
 Rd H a (.tup xs) \/
  ∃(o:Obj) (its:Array Value) (n:Nat),K.lookup a=some o/\o.cls= .type "tuple"/\o.data= .seq its n/\its.size<=sizeLine/\Vals xs its.toList
noncomputable def absV:Value->Option V
 | .none=>some .non
 | .bool b=>some (.bl b)
 | .int i _=>some (.int i)
 | .str x _=>some (.str x)
 | .bytes b _=>some (.byt b)
 | .float b _=>some (.flt b)
 | .ref a=>some (.ref a)
 | .type n=>some (.ty n)
 |_=>none
theorem RelV.abs {x:V}{u:Value} (r:RelV x u):absV u=some x:=by
 cases x with
 |non=>cases r;rfl
 |bl _=>cases r;rfl
 |int _=>obtain ⟨t,rfl⟩:=r;rfl
 |str _=>obtain ⟨t,rfl⟩:=r;rfl
 |byt _=>obtain ⟨t,rfl⟩:=r;rfl
 |flt _=>obtain ⟨t,rfl⟩:=r;rfl
 |ref _=>cases r;rfl
 |ty _=>cases r;rfl
theorem RelV.inj {x y:V}{u:Value} (r:RelV x u) (q:RelV y u):x=y:=Option.some.inj (r.abs.symm.trans q.abs)
theorem Vals.inj: ∀{xs ys:List V}{us:List Value},Vals xs us->Vals ys us->xs=ys
 |_,_,_,.nil,.nil=>rfl
 |_,_,_,.cons r t,.cons r' t'=>by rw [r.inj r',Vals.inj t t']
section
variable {X:Cx}{pins:List (Addr×Obj)}{σ:St}{H:Hp}{s:Shared}{a:Addr}{xs ys:List V}
theorem SqL.of {K:PySem.W.Frag} (h:H a=some (.lst xs)):SqL K H a xs:= .inl (.inl h)
theorem SqT.of {K:PySem.W.Frag} (h:H a=some (.tup xs)):SqT K H a xs:= .inl (.inl h)
theorem Inv.list (I:Inv X pins σ H s) (h:SqL X.K H a xs): ∃its:List Value,Vals xs its/\PlainL s.heap a its.toArray/\xs.length<=sizeLine:=by
 rcases h with h|⟨o,its,n,hk,hc,hd,hs,hz,r⟩
 ·obtain ⟨z,its,n,r,e⟩:=h.ok I.hok
  exact ⟨its,r,⟨_,n,e,rfl,rfl,rfl⟩,z⟩
 ·refine ⟨its.toList,r,⟨o,n,I.kIn a o hk,hc,hd,by simpa using hs⟩,?_⟩
  have e:=r.length
  simp only [Array.length_toList] at e
  lia
theorem Inv.tuple (I:Inv X pins σ H s) (h:SqT X.K H a xs): ∃its:List Value,Vals xs its/\IsTup s.heap a its.toArray/\xs.length<=sizeLine:=by
 rcases h with h|⟨o,its,n,hk,hc,hs,hz,r⟩
 ·obtain ⟨z,its,r,p⟩:=h.ok I.hok
  exact ⟨its,r,p.tup,z⟩
 ·refine ⟨its.toList,r,⟨o,I.kIn a o hk,hc,n,by simpa using hs⟩,?_⟩
  have e:=r.length
  simp only [Array.length_toList] at e
  lia
theorem Inv.list_inj (I:Inv X pins σ H s) (h:SqL X.K H a xs) (h':SqL X.K H a ys):xs=ys:=by
 obtain ⟨its,r,⟨o,n,e,_,_,d⟩,_⟩:=I.list h
 obtain ⟨its',r',⟨o',n',e',_,_,d'⟩,_⟩:=I.list h'
 rw [e] at e';cases e'
 rw [d] at d'
 injection d' with d1 _
 have:its=its':=by simpa using congrArg Array.toList d1
 subst this
 exact r.inj r'
theorem Inv.tuple_inj (I:Inv X pins σ H s) (h:SqT X.K H a xs) (h':SqT X.K H a ys):xs=ys:=by
 obtain ⟨its,r,⟨o,e,_,n,d⟩,_⟩:=I.tuple h
 obtain ⟨its',r',⟨o',e',_,n',d'⟩,_⟩:=I.tuple h'
 rw [e] at e';cases e'
 rw [d] at d'
 injection d' with d1 _
 have:its=its':=by simpa using congrArg Array.toList d1
 subst this
 exact r.inj r'
end
noncomputable abbrev Cx.wish (X:Cx) (E:Value->Shared->Prop):Cx:={X with xe:=E}
noncomputable abbrev Cx.nox (X:Cx):Cx:=X.wish fun _ _=>False
theorem Cx.Ok.wish {X:Cx} (ok:X.Ok) (E:Value->Shared->Prop):(X.wish E).Ok:=
 ⟨ok.mod,ok.kind,ok.glob,ok.blt,ok.above,ok.inj,ok.has,ok.cab,ok.hd,ok.frames,ok.stk,ok.exf,ok.bs,ok.bsz,ok.noex,ok.exfs,ok.funs,ok.frf⟩
theorem Cx.Ok.unwish {X:Cx}{E:Value->Shared->Prop} (ok:(X.wish E).Ok):X.Ok:=
 ⟨ok.mod,ok.kind,ok.glob,ok.blt,ok.above,ok.inj,ok.has,ok.cab,ok.hd,ok.frames,ok.stk,ok.exf,ok.bs,ok.bsz,ok.noex,ok.exfs,ok.funs,ok.frf⟩
section
variable {X:Cx}{pins:List (Addr×Obj)}{σ:St}{H:Hp}{s:Shared}{E:Value->Shared->Prop}
theorem Inv.wish (I:Inv X pins σ H s) (E:Value->Shared->Prop):Inv (X.wish E) pins σ H s:=⟨I.ok.wish E,I.os,I.bare,I.base,I.loc,I.cell,I.free,I.freeC,I.pin,I.hok,I.len⟩
theorem Inv.unwish (I:Inv (X.wish E) pins σ H s):Inv X pins σ H s:=⟨I.ok.unwish,I.os,I.bare,I.base,I.loc,I.cell,I.free,I.freeC,I.pin,I.hok,I.len⟩
theorem SP.unwish {D:Ends}{f:Flow}{s':Shared} (h:SP (X.wish E) pins D f s'):SP X pins D f s':=by
 cases f with
 |next=>obtain ⟨σ',H',I,q⟩:=h;exact ⟨σ',H',I.unwish,q⟩
 |brk=>obtain ⟨σ',H',I,q⟩:=h;exact ⟨σ',H',I.unwish,q⟩
 |cont=>obtain ⟨σ',H',I,q⟩:=h;exact ⟨σ',H',I.unwish,q⟩
 |ret u=>obtain ⟨v,σ',H',I,r,q⟩:=h;exact ⟨v,σ',H',I.unwish,r,q⟩
theorem PSs.nox {st:List Stmt}{t:TS} (h:PSs X.nox st t):PSs X st t:=fun pins s σ H D I hw=>
 wpAny_mono (h pins s σ H D (I.wish _) hw) (fun _ _ q=>q.unwish) fun _ _ z=>False.elim z
end
section
variable {X:Cx}{st:Stmt}{rest:List Stmt}{t u:TS}{e:Expr}{te:TE}{pos:Pos}
noncomputable def j5:TS:=fun D σ H=>D.nx σ H
noncomputable def tSeq (t u:TS):TS:=fun D σ H=>t {D with nx:=u D} σ H
theorem j6:PSs X [] j5:=fun _ _ σ H _ I h=>wpAny_execs_nil ⟨σ,H,I,h⟩
theorem iD (h1:PS X st t) (h2:PSs X rest u):PSs X (st::rest) (tSeq t u):=by
 intro pins s σ H D I h
 refine wpAny_execs_cons (thn (h1 pins s σ H {D with nx:=u D} I h) fun f s1 q=> ?_)
 cases f with
 |next=>
  obtain ⟨σ',H',I',q⟩:=q
  exact h2 pins s1 σ' H' D I' q
 |ret v=>exact q
 |brk=>exact q
 |cont=>exact q
theorem tq (h1:PS X st t):PSs X [st] t:=by
 intro pins s σ H D I h
 refine wpAny_execs_cons (thn (h1 pins s σ H D I h) fun f s1 q=> ?_)
 cases f with
 |next=>exact wpAny_execs_nil q
 |ret v=>exact q
 |brk=>exact q
 |cont=>exact q
theorem Inv.quiet {pins:List (Addr×Obj)}{σ:St}{H:Hp}{s:Shared} (I:Inv X pins σ H s):interactive X.env=false:=by simp [interactive,I.ok.kind]
noncomputable def tu (te:TE):TS:=fun D σ H=>te σ H fun _ H1=>D.nx σ H1
theorem tw (he:PE X e te) (hs:swapsWith e none pos.line X.env=pure false:=by rfl):PS X (.Expr e pos) (tu te):=by
 intro pins s σ H D I h
 exact wpAny_Expr_any (thn (he pins s σ H _ I h) fun v s1 ⟨x,H1,I1,r1,q1⟩=>⟨σ,H1,I1,q1⟩) I.quiet hs
noncomputable def tRet (te:TE):TS:=fun D σ H=>te σ H D.rt
theorem j7 (he:PE X e te):PS X (.Return (some e) pos) (tRet te):=by
 intro pins s σ H D I h
 exact wpAny_Return_some (thn (he pins s σ H _ I h) fun v s1 ⟨x,H1,I1,r1,q1⟩=>⟨x,σ,H1,I1,r1,q1⟩)
noncomputable def tIfS (c:TT) (t u:TS):TS:=fun D σ H=>c σ H fun b H1=>if b=true then t D σ H1 else u D σ H1
theorem tD {c:Expr}{a b:List Stmt}{tc:TT} (hc:PT X c tc) (ha:PSs X a t) (hb:PSs X b u):PS X (.If c a b pos) (tIfS tc t u):=by
 intro pins s σ H D I h
 refine wpAny_If (thn (hc pins s σ H _ I h) fun d s1 ⟨H1,I1,q1⟩=> ?_)
 cases d with
 |true=>exact ha pins s1 σ H1 D I1 q1
 |false=>exact hb pins s1 σ H1 D I1 q1
end
noncomputable abbrev TG:=V->St->Hp->(St->Hp->Prop)->Prop
noncomputable abbrev TGs:=List V->St->Hp->(St->Hp->Prop)->Prop
noncomputable def PG (X:Cx) (target:Expr) (t:TG):Prop:=
 ∀(pins:List (Addr×Obj)) (s:Shared) (σ:St) (H:Hp) (v:V) (u:Value) (Q:St->Hp->Prop),Inv X pins σ H s->RelV v u->t v σ H Q->
  wpAny (model X.prog X.w) X.A (assign target X.env u) (fun _ s'=> ∃σ' H',Inv X pins σ' H' s'/\Q σ' H') X.xe s
noncomputable def PGs (X:Cx) (ts:List Expr) (t:TGs):Prop:=
 ∀(pins:List (Addr×Obj)) (s:Shared) (σ:St) (H:Hp) (vs:List V) (us:List Value) (Q:St->Hp->Prop),Inv X pins σ H s->Vals vs us->t vs σ H Q->
  wpAny (model X.prog X.w) X.A (assignInOrder ((assignEach ts X.env).map (·.2)) us) (fun _ s'=> ∃σ' H',Inv X pins σ' H' s'/\Q σ' H') X.xe s
noncomputable abbrev TSet:=V->V->V->Hp->(Hp->Prop)->Prop
noncomputable def PSet (X:Cx) (t:TSet):Prop:=
 ∀(pins:List (Addr×Obj)) (s:Shared) (σ:St) (H:Hp) (o i v:V) (ov iv u:Value) (Q:Hp->Prop),Inv X pins σ H s->RelV o ov->RelV i iv->RelV v u->t o i v H Q->
  wpAny (model X.prog X.w) X.A (setItem ov iv u) (fun _ s'=> ∃H',Inv X pins σ H' s'/\Q H') X.xe s
section
variable {X:Cx}{pos:Pos}
noncomputable def eD (i:Nat):TG:=fun v σ H Q=>Q (σ.set i (some v)) H
theorem aJ {i:Nat}{x:Str} (hN:X.N.Nodup) (hi:X.N[i]?=some x) (hx:Loc X.env.scope x) (hf:X.fn x=true \/X.env.scope.names.lookup x=some .local:=by first|exact .inl rfl|exact .inr rfl|assumption):PG X (.Name x pos) (eD i):=by
 intro pins s σ H v u Q I r h
 exact wpAny_assign_Name (jY I hN hi hx r (fun s' I'=>⟨_,H,I',h⟩) hf)
noncomputable def gNil:TGs:=fun vs σ H Q=>vs=[]/\Q σ H
noncomputable def tE (t:TG) (u:TGs):TGs:=fun vs σ H Q=> ∃v r,vs=v::r/\t v σ H fun σ' H'=>u r σ' H' Q
theorem tF:PGs X [] gNil:=by
 intro pins s σ H vs us Q I r h
 obtain ⟨e,h⟩:=h
 subst e
 cases r
 exact assignInOrder_nil ⟨σ,H,I,h⟩
theorem tG {e:Expr}{es:List Expr}{t:TG}{u:TGs} (h1:PG X e t) (h2:PGs X es u)
  (hs:(assignEach (e::es) X.env).map (·.2)=assign e X.env::(assignEach es X.env).map (·.2):=by rfl):PGs X (e::es) (tE t u):=by
 intro pins s σ H vs us Q I r h
 obtain ⟨v,vr,e1,h⟩:=h
 subst e1
 cases r with
 |cons r rr=>
  rw [hs]
  refine assignInOrder_cons (thn (h1 pins s σ H _ _ _ I r h) fun _ s1 ⟨σ1,H1,I1,q1⟩=> ?_)
  exact h2 pins s1 σ1 H1 _ _ Q I1 rr q1
noncomputable def gTup (K:PySem.W.Frag) (n:Nat) (t:TGs):TG:=fun v σ H Q=> ∃a xs,v= .ref a/\SqT K H a xs/\xs.length=n/\t xs σ H Q
theorem tH {es:List Expr}{k:Nat}{t:TGs}{n:Nat} (hc:X.calm=true) (h:PGs X es t)
  (hn:(assignEach es X.env).length=n:=by rfl) (hst:(assignEach es X.env).findIdx? (·.1)=none:=by rfl):PG X (.Tuple es k pos) (gTup X.K n t):=by
 intro pins s σ H v u Q I r hw
 obtain ⟨a,xs,e1,hq,hl,hw⟩:=hw
 subst e1
 cases r
 obtain ⟨its,rv,ht,hz⟩:=I.tuple hq
 refine assign_Tuple_tuple (I.ok.hd hc) ht (by simp [hn,<-hl,rv.length]) hst fun h' hx=> ?_
 have I1:Inv X pins σ H {s with heap:=h'}:=I.kept (t':=s.toks) fun b o e=>hx b o (Nat.ne_of_lt (Heap.lt_size e)) e
 exact h pins _ σ H xs _ Q I1 (by simpa using rv) hw
noncomputable def gSub (to ti:TE) (t:TSet):TG:=fun v σ H Q=>to σ H fun o H1=>ti σ H1 fun i H2=>t o i v H2 fun H3=>Q σ H3
theorem tJ {o i:Expr}{to ti:TE}{t:TSet} (ho:PE X o to) (hi:PE X i ti) (hs:PSet X t)
  (ha: ∀v,assign (.Subscript o i pos) X.env v=(do
   let ov<-holding [v] (eval o X.env)
   let iv<-holding [v,ov] (eval i X.env)
   standAt pos
   holding [v,ov,iv] (setItem ov iv v)
   release [v,ov,iv] []):=by intro _;rfl):PG X (.Subscript o i pos) (gSub to ti t):=by
 intro pins s σ H v u Q I r h
 rw [ha]
 refine wpAny_bind (wpAny_holding (thn (ho pins s σ H _ I h) fun ov s1 ⟨x,H1,I1,r1,q1⟩=> ?_))
 refine wpAny_bind (wpAny_holding (thn (hi pins s1 σ H1 _ I1 q1) fun iv s2 ⟨y,H2,I2,r2,q2⟩=> ?_))
 refine wpAny_bind (wpAny_standAt (wpAny_bind (wpAny_holding (thn (hs pins s2 σ H2 x y v ov iv u _ I2 r1 r2 r q2) fun _ s3 ⟨H3,I3,q3⟩=> ?_))))
 exact wpAny_release ⟨σ,H3,I3,q3⟩
noncomputable def tAsg (te:TE) (g:TG):TS:=fun D σ H=>te σ H fun x H1=>g x σ H1 D.nx
theorem mU {tg e:Expr}{te:TE}{g:TG} (he:PE X e te) (hg:PG X tg g) (hs:swapsWithSole [tg] e pos.line X.env=pure false:=by rfl) (hw:swappedStores [tg] e X.env=pure none:=by rfl)
  (h1:(assignEach [tg] X.env).map (·.2)=[assign tg X.env]:=by rfl):PS X (.Assign [tg] e pos) (tAsg te g):=by
 intro pins s σ H D I h
 refine wpAny_Assign_stores (thn (he pins s σ H _ I h) fun v s1 ⟨x,H1,I1,r1,q1⟩=> ?_) hs hw
 rw [h1]
 exact thn (hg pins s1 σ H1 x v _ I1 r1 q1) fun _ s2 q=>q
theorem iF {i:Nat}{x:Str}{e:Expr}{te:TE}{pos':Pos} (hN:X.N.Nodup) (hi:X.N[i]?=some x) (hx:Loc X.env.scope x) (he:PE X e te) (hs:swapsWith e (some (.Name x pos')) pos.line X.env=pure false:=by rfl) (hf:X.fn x=true \/X.env.scope.names.lookup x=some .local:=by first|exact .inl rfl|exact .inr rfl|assumption):
  PS X (.Assign [.Name x pos'] e pos) (tAsg te (eD i)):=by
 intro pins s σ H D I h
 refine wpAny_Assign_Name (thn (he pins s σ H _ I h) fun v s1 ⟨y,H1,I1,r1,q1⟩=> ?_) hs
 exact jY I1 hN hi hx r1 (fun s2 I2=>⟨_,H1,I2,q1⟩) hf
end
section
variable {X:Cx}{pos:Pos}
end
structure It where
 go:Nat->Hp->Prop
 yld:Nat->Hp->V->Hp->Prop
 stop:Nat->Hp->Prop
noncomputable def FpOk (X:Cx) (pins:List (Addr×Obj)) (H:Hp) (b:Addr):Prop:=
 H b=none/\b≠X.env.locals/\b∉X.fs/\(b∈X.ex \/X.s₀.heap.objs.size<=b)/\(∀x c,X.env.cells.lookup x=some c->c≠b)/\ ∀p∈X.pn++pins,p.1≠b
theorem Inv.fpOk {X:Cx}{pins:List (Addr×Obj)}{σ:St}{H H':Hp}{s:Shared}{b:Addr} (I:Inv X pins σ H s) (hb:s.heap.objs.size<=b) (hn:H' b=none):FpOk X pins H' b:=by
 refine ⟨hn,Nat.ne_of_gt (Nat.lt_of_lt_of_le I.lt hb),I.nofs hb,.inr (Nat.le_trans I.sz hb),fun x c e z=> ?_,fun p hp z=> ?_⟩
 ·obtain ⟨v,q⟩:=I.cell x c e
  exact absurd (Nat.lt_of_lt_of_le q.lt (by rw [z];exact hb)) (Nat.lt_irrefl _)
 ·exact absurd (Nat.lt_of_lt_of_le (Heap.lt_size (I.pin p hp).1) (by rw [z];exact hb)) (Nat.lt_irrefl _)
structure Turn (P:Program) (w:World) (K:PySem.W.Frag) (tg:Expr) (J:It) (fp:List Addr) (it:Addr) (tn:Nat->Heap->Prop):Prop where
 mem:it∈fp
 obj: ∀i h,tn i h-> ∀b∈fp,∃o,h.get? b=some o/\ ∀v,o.data≠ .cell v
 keep: ∀i h h',tn i h->(∀b∈fp,∀o,h.get? b=some o->h'.get? b=some o)->tn i h'
 item: ∀(X:Cx),X.prog=P->X.w=w->X.K=K->X.calm=true-> ∀(i:Nat) (pins:List (Addr×Obj)) (s:Shared) (σ:St) (H:Hp) (E:Value->Shared->Prop),Inv X pins σ H s->(∀b∈fp,FpOk X pins H b)->tn i s.heap->J.go i H->
  wpAny (model P w) X.A (pyNext (.ref it)) (fun r s1=> ∃u,r=some u/\
   wpAny (model P w) X.A (letOwnedTupleGo tg (.ref it) u) (fun _ s2=> ∃x H',Inv X pins σ H' s2/\RelV x u/\J.yld i H x H'/\tn (i+1) s2.heap/\ ∀b∈fp,H' b=none) E s1) E s
 done: ∀(X:Cx),X.prog=P->X.w=w->X.K=K->X.calm=true-> ∀(i:Nat) (pins:List (Addr×Obj)) (s:Shared) (σ:St) (H:Hp) (E:Value->Shared->Prop),Inv X pins σ H s->(∀b∈fp,FpOk X pins H b)->tn i s.heap->J.stop i H->
  wpAny (model P w) X.A (pyNext (.ref it)) (fun r s1=>r=none/\Inv X pins σ H s1) E s
 self: ∀(A:Around) (i:Nat) (s:Shared) (Q:Value->Shared->Prop) (E:Value->Shared->Prop),tn i s.heap->Q (.ref it) s->wpAny (model P w) A (pyIter (.ref it)) Q E s
noncomputable abbrev TI:=St->Hp->(It->Hp->Prop)->Prop
noncomputable def PIE (X:Cx) (pins:List (Addr×Obj)) (σ:St) (tg:Expr) (R:It->Hp->Prop) (itv:Value) (s2:Shared):Prop:=
 ∃(it:Addr) (fp:List Addr) (tn:Nat->Heap->Prop) (J:It) (H':Hp),itv= .ref it/\Inv X pins σ H' s2/\Turn X.prog X.w X.K tg J fp it tn/\tn 0 s2.heap/\(∀b∈fp,FpOk X pins H' b)/\R J H'
noncomputable def PI (X:Cx) (tg iter:Expr) (wi:TI):Prop:=
 ∀(pins:List (Addr×Obj)) (s:Shared) (σ:St) (H:Hp) (R:It->Hp->Prop),Inv X pins σ H s->wi σ H R->
  wpAny (model X.prog X.w) X.A (eval iter X.env) (fun v s1=>wpAny (model X.prog X.w) X.A (pyIter v) (PIE X pins σ tg R) X.xe s1) X.xe s
theorem iG {M:Model}{A:Around}{E:Value->Shared->Prop}{s:Shared}{tg:Expr}{it:Addr}{u:Value}{o:Obj}{n:String}{vs:Array Value}{Q:Unit->Shared->Prop} (ho:s.heap.get? it=some o) (hc:o.cls= .type n) (hd:o.data= .fields vs)
  (hn:["enumerate","zip","dict_itemiterator","dict_reverseitemiterator","odict_iterator","itertools.zip_longest","itertools.pairwise"].contains n=false) (hQ:Q () s):wpAny M A (letOwnedTupleGo tg (.ref it) u) Q E s:=by
 unfold letOwnedTupleGo
 cases tg<;>first
  |exact wpAny_pure hQ
  |(cases u<;>first
    |exact wpAny_pure hQ
    |(refine wpAny_bind (wpAny_load ho ?_);rw [hc,hd];show wpAny M A (if (["enumerate","zip","dict_itemiterator","dict_reverseitemiterator","odict_iterator","itertools.zip_longest","itertools.pairwise"].contains n&&vs[0]?==some (rawInt _))=true then _ else _) Q E s;rw [if_neg (by intro h;rw [hn,Bool.false_and] at h;cases h)];exact wpAny_pure hQ))
noncomputable def Itl (K:PySem.W.Frag) (a:Addr):It:=
 ⟨fun i H=> ∃xs x,SqL K H a xs/\xs[i]?=some x,fun i H x H'=>H'=H/\ ∀xs,SqL K H a xs->xs[i]?=some x,fun i H=> ∃xs,SqL K H a xs/\xs.length<=i⟩
noncomputable def Itt (K:PySem.W.Frag) (a:Addr):It:=
 ⟨fun i H=> ∃xs x,SqT K H a xs/\xs[i]?=some x,fun i H x H'=>H'=H/\ ∀xs,SqT K H a xs->xs[i]?=some x,fun i H=> ∃xs,SqT K H a xs/\xs.length<=i⟩
noncomputable def Itr (lo:Int) (n:Nat):It:=⟨fun i _=>i<n,fun i H x H'=>H'=H/\x= .int (lo+i),fun i _=>n<=i⟩
theorem tK {P:Program}{w:World}{K:PySem.W.Frag}{tg:Expr} (a it:Addr):Turn P w K tg (Itl K a) [it] it (fun i h=>h.IsListIter it a i) where
 mem:=by simp
 obj:=fun i h st b hb=>by
  have e:b=it:=by simpa using hb
  subst e
  obtain ⟨o,e,c,d⟩:=st
  exact ⟨o,e,fun v z=>by rw [d] at z;cases z⟩
 keep:=fun i h h' st k=>st.at fun o e=>k it (by simp) o e
 item:=by
  intro X hP hw hK hc i pins s σ H E I hf st hg
  subst hP hw hK
  obtain ⟨xs,x,hq,hx⟩:=hg
  obtain ⟨its,rv,p,hz⟩:=I.list hq
  obtain ⟨u,hu,ru⟩:=rv.get hx
  obtain ⟨f0,f1,f2,f3,f4,f5⟩:=hf it (by simp)
  refine wpAny_pyNext_list_item st p.isList (x:=u) (by simpa using hu) fun h' st' sb=> ?_
  have I1:Inv X pins σ H {s with heap:=h'}:=I.turned (t':=s.toks) (fun b o hb e=>(sb.2 b hb).trans e) f0 f1 f3 f4 f5
  obtain ⟨o,e,c,d⟩:=id st'
  exact ⟨u,rfl,iG (s:={s with heap:=h'}) e c d (by decide) ⟨x,H,I1,ru,⟨rfl,fun ys hy=>by rw [I.list_inj hy hq];exact hx⟩,st',fun b hb=>(hf b hb).1⟩⟩
 done:=by
  intro X hP hw hK hc i pins s σ H E I hf st hg
  subst hP hw hK
  obtain ⟨xs,hq,hx⟩:=hg
  obtain ⟨its,rv,p,hz⟩:=I.list hq
  obtain ⟨f0,f1,f2,f3,f4,f5⟩:=hf it (by simp)
  have hl:=rv.length
  exact wpAny_pyNext_list_end (I.ok.hd hc) st p.isList (by simp;lia) fun h' eb=>⟨rfl,I.turned (t':=s.toks) (fun b o hb e=>eb b o hb e) f0 f1 f3 f4 f5⟩
 self:=fun _ _ _ _ _ st h=>wpAny_pyIter_listiter st h
theorem tL {P:Program}{w:World}{K:PySem.W.Frag}{tg:Expr} (a it:Addr):Turn P w K tg (Itt K a) [it] it (fun i h=>h.IsTupleIter it a i) where
 mem:=by simp
 obj:=fun i h st b hb=>by
  have e:b=it:=by simpa using hb
  subst e
  obtain ⟨o,e,c,d⟩:=st
  exact ⟨o,e,fun v z=>by rw [d] at z;cases z⟩
 keep:=fun i h h' st k=>st.at fun o e=>k it (by simp) o e
 item:=by
  intro X hP hw hK hc i pins s σ H E I hf st hg
  subst hP hw hK
  obtain ⟨xs,x,hq,hx⟩:=hg
  obtain ⟨its,rv,p,hz⟩:=I.tuple hq
  obtain ⟨u,hu,ru⟩:=rv.get hx
  obtain ⟨f0,f1,f2,f3,f4,f5⟩:=hf it (by simp)
  refine wpAny_pyNext_tuple_item st (show s.heap.IsTuple a its.toArray from p) (x:=u) (by simpa using hu) fun h' st' sb=> ?_
  have I1:Inv X pins σ H {s with heap:=h'}:=I.turned (t':=s.toks) (fun b o hb e=>(sb.2 b hb).trans e) f0 f1 f3 f4 f5
  obtain ⟨o,e,c,d⟩:=id st'
  exact ⟨u,rfl,iG (s:={s with heap:=h'}) e c d (by decide) ⟨x,H,I1,ru,⟨rfl,fun ys hy=>by rw [I.tuple_inj hy hq];exact hx⟩,st',fun b hb=>(hf b hb).1⟩⟩
 done:=by
  intro X hP hw hK hc i pins s σ H E I hf st hg
  subst hP hw hK
  obtain ⟨xs,hq,hx⟩:=hg
  obtain ⟨its,rv,p,hz⟩:=I.tuple hq
  obtain ⟨f0,f1,f2,f3,f4,f5⟩:=hf it (by simp)
  have hl:=rv.length
  exact wpAny_pyNext_tuple_end (I.ok.hd hc) st (show s.heap.IsTuple a its.toArray from p) (by simp;lia) fun h' eb=>⟨rfl,I.turned (t':=s.toks) (fun b o hb e=>eb b o hb e) f0 f1 f3 f4 f5⟩
 self:=fun _ _ _ _ _ st h=>wpAny_pyIter_tupleiter st h
theorem tN {P:Program}{w:World}{K:PySem.W.Frag}{tg:Expr} (it:Addr) (lo:Int) (n:Nat):Turn P w K tg (Itr lo n) [it] it (fun i h=>IsRangeIter h it (lo+(i:Nat)*1) ((n:Int)-(i:Nat)) 1) where
 mem:=by simp
 obj:=fun i h st b hb=>by
  have e:b=it:=by simpa using hb
  subst e
  exact ⟨_,st,fun v z=>by
   have z':Data.fields _=Data.cell v:=z
   cases z'⟩
 keep:=fun i h h' st k=>k it (by simp) _ st
 item:=by
  intro X hP hw hK hc i pins s σ H E I hf st hg
  subst hP hw hK
  obtain ⟨f0,f1,f2,f3,f4,f5⟩:=hf it (by simp)
  have W:=Walks.range (prog:=X.prog) (w:=X.w) (I.ok.hd hc) it lo 1 n
  refine W.item i s _ _ hg st fun v h' tk hv st' kk=> ?_
  obtain ⟨t,rfl⟩:=hv
  have I1:Inv X pins σ H {s with heap:=h',toks:=tk}:=I.turned (fun b o hb e=>kk b o (by simpa using hb) e) f0 f1 f3 f4 f5
  refine ⟨_,rfl,iG (s:={s with heap:=h',toks:=tk}) (n:="range_iterator") st' rfl rfl (by decide) ⟨.int (lo+i),H,I1,⟨t,?_⟩,⟨rfl,rfl⟩,st',fun b hb=>(hf b hb).1⟩⟩
  rw [Int.mul_one]
 done:=by
  intro X hP hw hK hc i pins s σ H E I hf st hg
  subst hP hw hK
  obtain ⟨f0,f1,f2,f3,f4,f5⟩:=hf it (by simp)
  exact wpAny_pyNext_range_end (I.ok.hd hc) st (by have:n<=i:=hg;lia) fun h' eb=>⟨rfl,I.turned (t':=s.toks) (fun b o hb e=>eb b o hb e) f0 f1 f3 f4 f5⟩
 self:=fun _ _ _ _ _ st h=>wpAny_pyIter_rangeiter st h
end L2
namespace L2
open PySem PySem.Spec PyProof.Rows
section
variable {X:Cx}{tg:Expr}
noncomputable def tO (K:PySem.W.Frag) (tl:TE):TI:=fun σ H R=>tl σ H fun x H1=> ∃a,x= .ref a/\(∃xs,SqL K H1 a xs)/\R (Itl K a) H1
noncomputable def iTup (K:PySem.W.Frag) (tl:TE):TI:=fun σ H R=>tl σ H fun x H1=> ∃a,x= .ref a/\(∃xs,SqT K H1 a xs)/\R (Itt K a) H1
theorem mV {l:Expr}{tl:TE} (hl:PE X l tl):PI X tg l (tO X.K tl):=by
 intro pins s σ H R I h
 refine thn (hl pins s σ H _ I h) fun v s1 ⟨x,H1,I1,r1,q1⟩=> ?_
 obtain ⟨a,e,⟨xs,hq⟩,q⟩:=q1
 subst e
 cases r1
 obtain ⟨its,rv,p,hz⟩:=I1.list hq
 refine wpAny_pyIter_list p.isList ?_
 refine ⟨s1.heap.objs.size,[s1.heap.objs.size],_,_,H1,rfl,I1.kept (t':=s1.toks) fun b o e=>Heap.get?_push_of_some _ e,tK a _,⟨_,Heap.get?_push_size _ rfl,rfl,rfl⟩,fun b hb=> ?_,q⟩
 have e:b=s1.heap.objs.size:=by simpa using hb
 subst e
 exact I1.fpOk (Nat.le_refl _) (I1.hok.fresh (Nat.le_refl _))
theorem tP {l:Expr}{tl:TE} (hl:PE X l tl):PI X tg l (iTup X.K tl):=by
 intro pins s σ H R I h
 refine thn (hl pins s σ H _ I h) fun v s1 ⟨x,H1,I1,r1,q1⟩=> ?_
 obtain ⟨a,e,⟨xs,hq⟩,q⟩:=q1
 subst e
 cases r1
 obtain ⟨its,rv,p,hz⟩:=I1.tuple hq
 refine wpAny_pyIter_tuple (show s1.heap.IsTuple a its.toArray from p) ?_
 refine ⟨s1.heap.objs.size,[s1.heap.objs.size],_,_,H1,rfl,I1.kept (t':=s1.toks) fun b o e=>Heap.get?_push_of_some _ e,tL a _,⟨_,Heap.get?_push_size _ rfl,rfl,rfl⟩,fun b hb=> ?_,q⟩
 have e:b=s1.heap.objs.size:=by simpa using hb
 subst e
 exact I1.fpOk (Nat.le_refl _) (I1.hok.fresh (Nat.le_refl _))
theorem tQ {pins:List (Addr×Obj)}{σ:St}{H:Hp}{s:Shared}{R:It->Hp->Prop}{E:Value->Shared->Prop}{lo hi:Int}{t u v:Tok}{tk:Nat} (I:Inv X pins σ H s) (h1: -(2^62)<=lo) (h2:lo<2^62) (h3: -(2^62)<=hi) (h4:hi<2^62)
  (q:R (Itr lo (hi-lo).toNat) H):wpAny (model X.prog X.w) X.A (pyIter (.ref s.heap.objs.size)) (PIE X pins σ tg R) E {s with heap:=s.heap.push {cls:= .type "range",data:= .fields #[.int lo t,.int hi u,.int 1 v]},toks:=tk}:=by
 refine wpAny_pyIter_range (IsRange.new ..) (small_one h1 h2 h3 h4) ?_
 have I1:Inv X pins σ H {s with heap:=s.heap.push {cls:= .type "range",data:= .fields #[.int lo t,.int hi u,.int 1 v]},toks:=tk}:=I.kept fun b o e=>Heap.get?_push_of_some _ e
 refine ⟨(s.heap.push {cls:= .type "range",data:= .fields #[.int lo t,.int hi u,.int 1 v]}).objs.size,[(s.heap.push {cls:= .type "range",data:= .fields #[.int lo t,.int hi u,.int 1 v]}).objs.size],_,_,H,rfl,
  I1.kept (t':=tk) fun b o e=>Heap.get?_push_of_some _ e,tN _ lo (hi-lo).toNat,?_,fun b hb=> ?_,q⟩
 ·have e1:lo+((0:Nat):Int)*1=lo:=by simp
  have e2:(((hi-lo).toNat:Nat):Int)-((0:Nat):Int)=Builtin.Range.rangeSize lo hi 1:=by rw [rangeSize_one];split<;>lia
  show IsRangeIter _ _ (lo+((0:Nat):Int)*1) ((((hi-lo).toNat:Nat):Int)-((0:Nat):Int)) 1
  rw [e1,e2]
  exact Heap.get?_push_size _ rfl
 ·have e:b=(s.heap.push {cls:= .type "range",data:= .fields #[.int lo t,.int hi u,.int 1 v]}).objs.size:=by simpa using hb
  subst e
  exact I1.fpOk (Nat.le_refl _) (I1.hok.fresh (Nat.le_refl _))
noncomputable def tR (ta:TA):TI:=fun σ H R=>ta σ H fun vs H1=> ∃j:Int,vs=[.int j]/\ -(2^62)<=j/\j<2^62/\R (Itr 0 j.toNat) H1
theorem tS {a:Expr}{ta:TA}{p pos:Pos} (hg:Gl X "range") (hm:X.mg "range"=none) (ha:PA X [a] ta) (hs:starEach [a] X.env=[(false,eval a X.env)]:=by rfl):PI X tg (.Call (.Name "range" p) [a] [] pos) (tR ta):=by
 intro pins s σ H R I h
 refine Call_ (gv I hg hm boot_range (PyProof.Rows.callWith_type1 (thn (ha pos pins s σ H _ I h) fun us s1 ⟨vs,H1,I1,r1,q1⟩=> ?_) hs rfl))
 obtain ⟨j,e,q1,q2,q⟩:=q1
 subst e
 cases r1 with
 |cons r rr=>
  cases rr
  obtain ⟨t,rfl⟩:=r
  exact call_range_1 (tQ I1 (by lia) (by lia) q1 q2 (by simpa using q))
noncomputable def tFor (wi:TI) (g:TG) (tb:TS):TS:=fun D σ H=>wi σ H fun J H1=> ∃W:Nat->Nat->St->Hp->Prop,(∃m,W 0 m σ H1)/\ ∀i m σ H,W i m σ H->
 (J.stop i H/\D.nx σ H) \/(J.go i H/\ ∃N:St->Hp->Prop,(∀σ' H',N σ' H'-> ∃m',m'<m/\W (i+1) m' σ' H')/\ ∀x H',J.yld i H x H'->g x σ H' fun σ2 H2=>tb {D with nx:=N,ct:=N,bk:=D.nx} σ2 H2)
noncomputable def fe (fp:List Addr) (h:Heap):List (Addr×Obj):=fp.filterMap fun b=>(h.get? b).map fun o=>(b,o)
theorem ff {fp:List Addr}{h:Heap}{b:Addr}{o:Obj} (hb:b∈fp) (e:h.get? b=some o):(b,o)∈fe fp h:=List.mem_filterMap.mpr ⟨b,hb,by rw [e];rfl⟩
theorem tT {fp:List Addr}{h:Heap}{p:Addr×Obj} (hp:p∈fe fp h):p.1∈fp/\h.get? p.1=some p.2:=by
 obtain ⟨b,hb,e⟩:=List.mem_filterMap.mp hp
 cases q:h.get? b with
 |none=>rw [q] at e;cases e
 |some o=>
  rw [q] at e
  have e':(b,o)=p:=Option.some.inj e
  subst e'
  exact ⟨hb,q⟩
theorem Inv.pinned {pins:List (Addr×Obj)}{σ:St}{H:Hp}{s:Shared}{fp:List Addr} (I:Inv X pins σ H s) (hf: ∀b∈fp,FpOk X pins H b) (ho: ∀b∈fp,∃o,s.heap.get? b=some o/\ ∀v,o.data≠ .cell v):Inv X (pins++fe fp s.heap) σ H s:=
 I.pins_of fun p hp=>(List.mem_append.mp hp).elim (fun z=>I.pin p (List.mem_append_right _ z)) fun z=>by
  obtain ⟨hb,e⟩:=tT z
  obtain ⟨f0,f1,f2,_⟩:=hf p.1 hb
  obtain ⟨o,e',d⟩:=ho p.1 hb
  rw [e] at e';cases e'
  exact ⟨e,f0,f1,f2,d⟩
theorem Inv.unpinned {pins pl:List (Addr×Obj)}{σ:St}{H:Hp}{s:Shared} (I:Inv X (pins++pl) σ H s):Inv X pins σ H s:=I.pins_of fun p hp=>I.pin p (List.mem_append_right _ (List.mem_append_left _ hp))
theorem tU {iter:Expr}{body:List Stmt}{wi:TI}{g:TG}{tb:TS}{pos:Pos} (hp:PassesOwn (model X.prog X.w) X.A X.env X.xe) (hc:X.calm=true) (hi:PI X tg iter wi) (hg:PG X tg g) (hb:PSs X body tb)
  (hs: ∀x,foldedSetIterable iter X.env x=pure x:=by intro _;rfl):PS X (.For tg iter body [] pos) (tFor wi g tb):=by
 intro pins s σ H D I h
 refine wpAny_For (thn (hi pins s σ H _ I h) fun v s1 h1=>thn h1 fun itv s2 h2=> ?_) hs
 obtain ⟨it,fp,tn,J,H2,e,I2,T,st2,f2,W,⟨m0,w0⟩,turn⟩:=h2
 subst e
 have stat: ∀{H':Hp},(∀b∈fp,H' b=none)-> ∀b∈fp,FpOk X pins H' b:=fun hn b hb=>⟨hn b hb,(f2 b hb).2⟩
 refine codeAny_forLoop_any (fun n s'=> ∃i σ' H',Inv X pins σ' H' s'/\tn i s'.heap/\(∀b∈fp,H' b=none)/\W i n σ' H') ?_ m0 ⟨0,σ,H2,I2,st2,fun b hb=>(f2 b hb).1,w0⟩
 rintro n s3 ⟨i,σ3,H3,I3,st3,fr3,w3⟩
 rcases turn i n σ3 H3 w3 with ⟨stop,qn⟩|⟨go,N,hN,step⟩
 ·refine wpAny_passesOwn hp (thn (T.done X rfl rfl rfl hc i pins s3 σ3 H3 X.xe I3 (stat fr3) st3 stop) fun r s4 ⟨hr,I4⟩=> ?_)
  subst hr
  exact wpAny_execs_nil ⟨σ3,H3,I4,qn⟩
 ·refine wpAny_passesOwn hp (thn (T.item X rfl rfl rfl hc i pins s3 σ3 H3 X.xe I3 (stat fr3) st3 go) fun r s4 ⟨u,hr,h4⟩=> ?_)
  subst hr
  refine wpAny_passesOwn hp (thn h4 fun _ s5 ⟨x,H5,I5,r5,y5,st5,fr5⟩=> ?_)
  have I5':=I5.pinned (stat fr5) (T.obj _ _ st5)
  refine wpAny_passesOwn hp (thn (hg _ s5 σ3 H5 x u _ I5' r5 (step x H5 y5)) fun _ s6 ⟨σ6,H6,I6,q6⟩=> ?_)
  refine wpAny_passesOwn hp (thn (hb _ s6 σ6 H6 _ I6 q6) fun f s7 q7=> ?_)
  have again: ∀{σ7:St}{H7:Hp},Inv X (pins++fe fp s5.heap) σ7 H7 s7->N σ7 H7-> ∃m,m<n/\ ∃i σ' H',Inv X pins σ' H' s7/\tn i s7.heap/\(∀b∈fp,H' b=none)/\W i m σ' H':=fun {σ7 H7} I7 n7=>by
   obtain ⟨m',hm,w7⟩:=hN σ7 H7 n7
   refine ⟨m',hm,i+1,σ7,H7,I7.unpinned,T.keep _ _ _ st5 fun b hb o e=>(I7.pin (b,o) (List.mem_append_right _ (List.mem_append_right _ (ff hb e)))).1,fun b hb=> ?_,w7⟩
   obtain ⟨o,e,d⟩:=T.obj _ _ st5 b hb
   exact (I7.pin (b,o) (List.mem_append_right _ (List.mem_append_right _ (ff hb e)))).2.1
  cases f with
  |next=>obtain ⟨σ7,H7,I7,n7⟩:=q7;exact again I7 n7
  |cont=>obtain ⟨σ7,H7,I7,n7⟩:=q7;exact again I7 n7
  |brk=>obtain ⟨σ7,H7,I7,q7⟩:=q7;exact ⟨σ7,H7,I7.unpinned,q7⟩
  |ret v=>obtain ⟨x7,σ7,H7,I7,r7,q7⟩:=q7;exact ⟨x7,σ7,H7,I7.unpinned,r7,q7⟩
end
end L2
namespace L2
open PySem PySem.Spec PyProof.Rows
noncomputable abbrev R2:=V->V->Hp->VK->Prop
noncomputable def OpR (X:Cx) (f:Value->Value->Sem Value) (r:R2):Prop:=
 ∀(pins:List (Addr×Obj)) (s:Shared) (σ:St) (H:Hp) (x y:V) (v u:Value) (Q:VK),Inv X pins σ H s->RelV x v->RelV y u->r x y H Q->
  wpAny (model X.prog X.w) X.A (f v u) (EP X pins σ Q) X.xe s
noncomputable def UnR (X:Cx) (f:Value->Sem Value) (r:V->Hp->VK->Prop):Prop:=
 ∀(pins:List (Addr×Obj)) (s:Shared) (σ:St) (H:Hp) (x:V) (v:Value) (Q:VK),Inv X pins σ H s->RelV x v->r x H Q->
  wpAny (model X.prog X.w) X.A (f v) (EP X pins σ Q) X.xe s
noncomputable def bp (X:Cx) (f:Value) (r:List V->Hp->VK->Prop):Prop:=
 ∀(pins:List (Addr×Obj)) (s:Shared) (σ:St) (H:Hp) (xs:List V) (us:List Value) (Q:VK),Inv X pins σ H s->Vals xs us->r xs H Q->
  wpAny (model X.prog X.w) X.A (call f us) (EP X pins σ Q) X.xe s
noncomputable def tOp (r:R2) (ta tb:TE):TE:=fun σ H Q=>ta σ H fun x H1=>tb σ H1 fun y H2=>r x y H2 Q
noncomputable def tUn (r:V->Hp->VK->Prop) (ta:TE):TE:=fun σ H Q=>ta σ H fun x H1=>r x H1 Q
noncomputable def rI (C:Int->Int->Prop) (g:Int->Int->V):R2:=fun x y H Q=> ∃i j,x= .int i/\y= .int j/\C i j/\Q (g i j) H
noncomputable def rI0 (g:Int->Int->V):R2:=fun x y H Q=> ∃i j,x= .int i/\y= .int j/\Q (g i j) H
noncomputable def rU (g:Int->V):V->Hp->VK->Prop:=fun x H Q=> ∃i,x= .int i/\Q (g i) H
section
variable {X:Cx}{a b c:Expr}{ta tb tc:TE}{pos:Pos}
theorem binT (ha:PE X a ta) (hb:PE X b tb) {pins:List (Addr×Obj)}{s:Shared}{σ:St}{H:Hp}{R:V->V->Hp->Prop} (I:Inv X pins σ H s)
  (h:ta σ H fun x H1=>tb σ H1 fun y H2=>R x y H2) {Q:Value->Shared->Prop}{f:Value->Value->Sem Value}
  (hf: ∀v u s2 x y H2,Inv X pins σ H2 s2->RelV x v->RelV y u->R x y H2->wpAny (model X.prog X.w) X.A (f v u) Q X.xe s2):
  wpAny (model X.prog X.w) X.A (eval a X.env) (fun v s₁=>wpAny (model X.prog X.w) X.A (eval b X.env) (fun u s₂=>wpAny (model X.prog X.w) X.A (f v u) Q X.xe s₂) X.xe s₁) X.xe s:=by
 refine thn (ha pins s σ H _ I h) fun v s1 ⟨x,H1,I1,r1,q1⟩=> ?_
 refine thn (hb pins s1 σ H1 _ I1 q1) fun u s2 ⟨y,H2,I2,r2,q2⟩=> ?_
 exact hf v u s2 x y H2 I2 r1 r2 q2
theorem j8 {op:Operator}{r:R2} (ho:OpR X (binaryOp op) r) (ha:PE X a ta) (hb:PE X b tb):PE X (.BinOp a op b pos) (tOp r ta tb):=by
 intro pins s σ H Q I h
 exact wpAny_BinOp (binT ha hb I h fun v u s2 x y H2 I2 rx ry q=>ho pins s2 σ H2 x y v u Q I2 rx ry q)
theorem tV {op:UnaryOp}{r:V->Hp->VK->Prop} (ho:UnR X (unaryOp op) r) (ha:PE X a ta):PE X (.UnaryOp op a pos) (tUn r ta):=by
 intro pins s σ H Q I h
 exact UnaryOp_ (thn (ha pins s σ H _ I h) fun v s1 ⟨x,H1,I1,r1,q1⟩=>ho pins s1 σ H1 x v Q I1 r1 q1)
theorem opI {f:Value->Value->Sem Value}{C:Int->Int->Prop}{g:Int->Int->Int}
  (rule: ∀(i j:Int) (t u:Tok) (s:Shared) (Q:Value->Shared->Prop) (E:Value->Shared->Prop),C i j->Q (.int (g i j) s.toks) {s with toks:=s.toks+1}->wpAny (model X.prog X.w) X.A (f (.int i t) (.int j u)) Q E s):
  OpR X f (rI C fun i j=> .int (g i j)):=by
 intro pins s σ H x y v u Q I rx ry h
 obtain ⟨i,j,rfl,rfl,hc,q⟩:=h
 obtain ⟨t,rfl⟩:=rx
 obtain ⟨t',rfl⟩:=ry
 exact rule i j t t' s _ _ hc ⟨.int (g i j),H,I.tok _,⟨_,rfl⟩,q⟩
theorem opI0 {f:Value->Value->Sem Value}{g:Int->Int->Int}
  (rule: ∀(i j:Int) (t u:Tok) (s:Shared) (Q:Value->Shared->Prop) (E:Value->Shared->Prop),Q (.int (g i j) s.toks) {s with toks:=s.toks+1}->wpAny (model X.prog X.w) X.A (f (.int i t) (.int j u)) Q E s):
  OpR X f (rI0 fun i j=> .int (g i j)):=by
 intro pins s σ H x y v u Q I rx ry h
 obtain ⟨i,j,rfl,rfl,q⟩:=h
 obtain ⟨t,rfl⟩:=rx
 obtain ⟨t',rfl⟩:=ry
 exact rule i j t t' s _ _ ⟨.int (g i j),H,I.tok _,⟨_,rfl⟩,q⟩
theorem opB0 {f:Value->Value->Sem Value}{g:Int->Int->Bool}
  (rule: ∀(i j:Int) (t u:Tok) (s:Shared) (Q:Value->Shared->Prop) (E:Value->Shared->Prop),Q (.bool (g i j)) s->wpAny (model X.prog X.w) X.A (f (.int i t) (.int j u)) Q E s):
  OpR X f (rI0 fun i j=> .bl (g i j)):=by
 intro pins s σ H x y v u Q I rx ry h
 obtain ⟨i,j,rfl,rfl,q⟩:=h
 obtain ⟨t,rfl⟩:=rx
 obtain ⟨t',rfl⟩:=ry
 exact rule i j t t' s _ _ ⟨.bl (g i j),H,I,rfl,q⟩
noncomputable def CDiv (i j:Int):Prop:=0<j/\j<1073741824
noncomputable def CMul (i j:Int):Prop:=(-(2^64)<i/\i<2^64) \/(-(2^64)<j/\j<2^64)
theorem CMul.ok {i j:Int} (h:CMul i j):IntMulOk i j:=by
 rcases h with ⟨h1,h2⟩|⟨h1,h2⟩
 ·exact .of_left (intBits_le_64 h1 h2)
 ·exact .of_right (intBits_le_64 h1 h2)
theorem cF:OpR X (binaryOp .Add) (rI0 fun i j=> .int (i+j)):=opI0 fun _ _ _ _ _ _ _ q=>add_int q
theorem tW:OpR X (binaryOp .Sub) (rI0 fun i j=> .int (i-j)):=opI0 fun _ _ _ _ _ _ _ q=>sub_int q
theorem dP:OpR X (binaryOp .FloorDiv) (rI CDiv fun i j=> .int (i/j)):=opI fun i j _ _ _ _ _ hc q=>by
 have h1:(0:Int)<j:=hc.1
 have h2:j<1073741824:=hc.2
 exact floordiv_int (by lia) (by rw [Int.fdiv_eq_ediv_of_nonneg i (by lia)];exact q) (.inl (PyProof.noPylong_small (by lia)))
theorem bT:OpR X (binaryOp .Mod) (rI (fun _ j=>0<j) fun i j=> .int (i%j)):=opI fun i j _ _ _ _ _ hc q=>by
 have h1:(0:Int)<j:=hc
 exact mod_int' (by lia) (by rw [Int.fmod_eq_emod_of_nonneg i (by lia)];exact q)
theorem unI {f:Value->Sem Value}{g:Int->Int}
  (rule: ∀(i:Int) (t:Tok) (s:Shared) (Q:Value->Shared->Prop) (E:Value->Shared->Prop),Q (.int (g i) s.toks) {s with toks:=s.toks+1}->wpAny (model X.prog X.w) X.A (f (.int i t)) Q E s):
  UnR X f (rU fun i=> .int (g i)):=by
 intro pins s σ H x v Q I rx h
 obtain ⟨i,rfl,q⟩:=h
 obtain ⟨t,rfl⟩:=rx
 exact rule i t s _ _ ⟨.int (g i),H,I.tok _,⟨_,rfl⟩,q⟩
theorem tX:UnR X (unaryOp .USub) (rU fun i=> .int (-i)):=unI fun _ _ _ _ _ q=>neg_int q
end
section
variable {X:Cx}{a b c:Expr}{ta tb tc:TE}{pos:Pos}
theorem iH:OpR X (compareOp .Lt) (rI0 fun i j=> .bl (decide (i<j))):=opB0 fun _ _ _ _ _ _ _ q=>lt_int q
theorem fh:OpR X (compareOp .Gt) (rI0 fun i j=> .bl (decide (j<i))):=opB0 fun _ _ _ _ _ _ _ q=>gt_int q
theorem aF (b:Expr) {op:CmpOp} (h:op≠ .In:=by decide) (h2:op≠ .NotIn:=by decide):behindInMarks op b=false:=by
 have e1:(op==CmpOp.In)=false:=by cases op<;>first|rfl|exact absurd rfl h
 have e2:(op==CmpOp.NotIn)=false:=by cases op<;>first|rfl|exact absurd rfl h2
 cases b<;>simp [behindInMarks,e1,e2]
theorem tY {op:CmpOp}{r:R2} (ho:OpR X (compareOp op) r) (ha:PE X a ta) (hb:PE X b tb) (hm:behindInMarks op b=false):PE X (.Compare a [op] [b] pos) (tOp r ta tb):=by
 intro pins s σ H Q I h
 exact wpAny_Compare1 (binT ha hb I h fun v u s2 x y H2 I2 rx ry q=>ho pins s2 σ H2 x y v u Q I2 rx ry q) hm
noncomputable def tZ (t:TE):TT:=fun σ H Q=>t σ H fun x H'=> ∃k,x= .bl k/\Q k H'
theorem t0 {op:CmpOp}{r:R2} (ho:OpR X (compareOp op) r) (ha:PE X a ta) (hb:PE X b tb) (hm:behindInMarks op b=false):PT X (.Compare a [op] [b] pos) (tZ (tOp r ta tb)):=by
 intro pins s σ H Q I h
 refine wpAny_isTrue_Compare1 (thn (ha pins s σ H _ I h) fun v s1 ⟨x,H1,I1,r1,q1⟩=>thn (hb pins s1 σ H1 _ I1 q1) fun u s2 ⟨y,H2,I2,r2,q2⟩=>
  thn (ho pins s2 σ H2 x y v u _ I2 r1 r2 q2) fun c s3 ⟨z,H3,I3,r3,k,e,q3⟩=> ?_) hm
 subst e
 cases r3
 exact wpAny_truthy_bool ⟨H3,I3,q3⟩
theorem gw:(sizeLine:Nat)<2^63:=by rw [sizeLine_eq];decide
theorem al:OpR X (binaryOp .Add) (fun x y H Q=> ∃i j,x= .str i/\y= .str j/\i.length+j.length<=sizeLine/\Q (.str (i++j)) H):=by
 intro pins s σ H x y v u Q I rx ry h
 obtain ⟨i,j,rfl,rfl,hz,q⟩:=h
 obtain ⟨t,rfl⟩:=rx
 obtain ⟨t',rfl⟩:=ry
 exact add_str (fun t' tk=>⟨.str (i++j),H,I.tok _,⟨_,rfl⟩,q⟩) hz
theorem du {x:V}{us:List Value} (r:Vals [x] us): ∃u,us=[u]/\RelV x u:=by
 cases r with
 |cons r1 r2=>cases r2;exact ⟨_,rfl,r1⟩
theorem mW:bp X (.type "str") (fun xs H Q=> ∃i,xs=[.int i]/\i.natAbs.log2<1920/\Q (.str (toString i)) H):=by
 intro pins s σ H xs us Q I r h
 obtain ⟨i,rfl,hz,q⟩:=h
 obtain ⟨u,rfl,t,rfl⟩:=du r
 exact PySem.P.str_of_int hz ⟨.str _,H,I.tok _,⟨_,rfl⟩,q⟩
end
end L2
namespace L2
open PySem PySem.Spec PyProof.Rows
structure ObjM (h:Heap) (x dx C:Addr) (mA:Str->Option Value):Prop where
 obj:h.get? x=some (PySem.W.instObj C dx)
 ns:h.Ns1 dx mA
 ne:dx≠x
theorem t5 {h:Heap}{dx:Addr}{mA:Str->Option Value} (n:h.Ns1 dx mA): ∃od,h.get? dx=some od/\ ∀name,PySem.W.lookIn name od=some (mA name):=by
 obtain ⟨o,es,ep,ho,hd,hk,_,hm⟩:=n
 refine ⟨o,ho,fun name=> ?_⟩
 have e:=hm name
 unfold nsFind findBy at e
 rw [<-Array.find?_toList] at e
 unfold PySem.W.lookIn
 rw [hd]
 dsimp only
 split
 ·rename_i y q
  rw [q] at e
  exact congrArg some e
 ·rename_i q
  rw [q] at e
  have a:es.toList.any (·.refKey)=false:=by
   rw [List.any_eq_false]
   intro y hy
   obtain ⟨z,t,hkey⟩:=hk y (Array.mem_toList_iff.mp hy)
   simp [DictEntry.refKey,hkey]
  have a': ¬es.toList.any (·.refKey)=true:=by rw [a];exact Bool.false_ne_true
  rw [if_neg a']
  exact congrArg some e
theorem ObjM.look {h:Heap}{x dx C:Addr}{mA:Str->Option Value} (I:ObjM h x dx C mA): ∃od,PySem.W.InstAt h x (PySem.W.instObj C dx) C (some od)/\ ∀name,PySem.W.lookIn name od=some (mA name):=
 let ⟨od,ho,hl⟩:=t5 I.ns
 ⟨od,⟨I.obj,rfl,rfl,ho⟩,hl⟩
section
variable {prog:Program}{w:World}{A:Around}{E:Value->Shared->Prop}{s:Shared}{K:PySem.W.Frag}{x dx C f:Addr}{mA:Str->Option Value}{name:Str}{v:Value}
end
theorem RelO.some_of {v:V}{o:Option Value} (r:RelO (some v) o): ∃u,o=some u/\RelV v u:=by
 cases o with
 |none=>exact (show False from r).elim
 |some u=>exact ⟨u,rfl,r⟩
theorem RelO.none_of {o:Option Value} (r:RelO none o):o=none:=by
 cases o with
 |none=>rfl
 |some u=>exact (show False from r).elim
section
variable {P:Program}{w:World}{H H':Hp}{h h':Heap}{a C dx:Addr}{fs fs':List (Str×V)}
theorem t6 (hok:HOk P w H h) (e:H a=some (.ins C dx fs)): ∃mA,ObjM h a dx C mA/\(∀f,RelO (fs.lookup f) (mA f))/\PySem.Within mA (fs.map (·.1))/\fs.length<=1000/\H dx=some (.own a):=by
 obtain ⟨d,z,ne,ob,mA,n,r,q⟩:=(show ax P w H h a (.ins C dx fs) from hok a _ e)
 exact ⟨mA,⟨ob,n,ne⟩,r,q,z,d⟩
end
structure Cls (K:PySem.W.Frag) (C:Addr):Prop where
 pg:PySem.W.plainGet K C Str.empty=true
 hd:PySem.W.hasDictIn K C=true
 po:PySem.W.plainOver K C=true
 sa:PySem.W.findIn K (.ref C) "__setattr__"=some (some (.builtin "object.__setattr__"))
theorem Cls.get {K:PySem.W.Frag}{C:Addr} (c:Cls K C) (f:Str):PySem.W.plainGet K C f=true:=c.pg
section
variable {X:Cx}{pins:List (Addr×Obj)}{σ:St}{H:Hp}{s:Shared}{a C dx:Addr}{fs:List (Str×V)}{f:Str}{v:V}{A:Around}{E:Value->Shared->Prop}
end
section
variable {X:Cx}{o e value:Expr}{f:Str}{pos pos' tpos:Pos}{ta tv:TE}
end
section
variable {X:Cx}{pins:List (Addr×Obj)}{σ:St}{H:Hp}{s:Shared}{A:Around}{E:Value->Shared->Prop}{Q:Value->Shared->Prop}{c:Value}{b:Bool}
inductive TyOf (K:PySem.W.Frag) (H:Hp):V->Value->Prop where
 |non:TyOf K H .non (.type "NoneType")
 |bl (x:Bool):TyOf K H (.bl x) (.type "bool")
 |int (i:Int):TyOf K H (.int i) (.type "int")
 |str (x:Str):TyOf K H (.str x) (.type "str")
 |flt (x:UInt64):TyOf K H (.flt x) (.type "float")
 |lst {a:Addr}{xs:List V} (e:H a=some (.lst xs)):TyOf K H (.ref a) (.type "list")
 |frz {a:Addr}{o:Obj}{xs:List V} (e:H a=some (.frz o (.lst xs))):TyOf K H (.ref a) (.type "list")
 |tup {a:Addr}{xs:List V} (e:H a=some (.tup xs)):TyOf K H (.ref a) (.type "tuple")
 |dK {a:Addr}{kvs:List (Key×V)} (e:Rd H a (.dK kvs)):TyOf K H (.ref a) (.type "dict")
 |dT {a:Addr}{kvs:List (List Key×V)} (e:Rd H a (.dT kvs)):TyOf K H (.ref a) (.type "dict")
 |ins {a C dx:Addr}{fs:List (Str×V)} (e:H a=some (.ins C dx fs)) (cl:Cls K C) (ha:PySem.W.findIn K (.ref C) "__class__"=some (some (.builtin "object.__class__")))
   (hn:PySem.W.specialIn K (.builtin "object.__class__") "__get__"=some (some (.builtin "getset_descriptor.__get__"))) (htk:PySem.W.takesIn K (.builtin "object.__class__")=some true)
   (hm:PySem.W.mroIn K C (.type "object")=some true):TyOf K H (.ref a) (.ref C)
theorem t7 {x:V}{u t:Value} (I:Inv X pins σ H s) (rx:RelV x u) (ty:TyOf X.K H x t) (e:PySem.W.kitOne X.K t c=some b) (h: ∀tk,Q (.bool b) {s with toks:=tk}):
  wpAny (model X.prog X.w) A (call (.builtin "isinstance") [u,c]) Q E s:=by
 cases ty with
 |non=>cases (show u=Value.none from rx);exact PySem.W.kia_one PySem.W.kitx_none I.kIn True.intro e (fun z=>nomatch z) h
 |bl y=>cases (show u=Value.bool y from rx);exact PySem.W.kia_one PySem.W.kitx_bool I.kIn True.intro e (fun z=>nomatch z) h
 |int i=>obtain ⟨t,q⟩:=(show∃t,u=Value.int i t from rx);cases q;exact PySem.W.kia_one PySem.W.kitx_int I.kIn True.intro e (fun z=>nomatch z) h
 |str y=>obtain ⟨t,q⟩:=(show∃t,u=Value.str y t from rx);cases q;exact PySem.W.kia_one PySem.W.kitx_str I.kIn True.intro e (fun z=>nomatch z) h
 |flt y=>obtain ⟨t,q⟩:=(show∃t,u=Value.float y t from rx);cases q;exact PySem.W.kia_one PySem.W.kitx_float I.kIn True.intro e (fun z=>nomatch z) h
 | @lst a xs ea=>
  cases (show u=Value.ref a from rx)
  obtain ⟨_,_,n,_,h1⟩:=(show ax X.prog X.w H s.heap a (.lst xs) from I.hok a _ ea)
  exact PySem.W.kia_one PySem.W.kitx_list I.kIn ⟨_,h1,rfl⟩ e (fun z=>nomatch z) h
 | @frz a ob xs ea=>
  cases (show u=Value.ref a from rx)
  obtain ⟨_,_,_,n,_,h1⟩:=(show ax X.prog X.w H s.heap a (.frz ob (.lst xs)) from I.hok a _ ea)
  exact PySem.W.kia_one PySem.W.kitx_list I.kIn ⟨_,h1,rfl⟩ e (fun z=>nomatch z) h
 | @tup a xs ea=>
  cases (show u=Value.ref a from rx)
  obtain ⟨_,_,_,p⟩:=(show ax X.prog X.w H s.heap a (.tup xs) from I.hok a _ ea)
  obtain ⟨o,h1,h2,_⟩:=p
  exact PySem.W.kia_one PySem.W.kitx_tuple I.kIn ⟨o,h1,h2⟩ e (fun z=>nomatch z) h
 | @dK a kvs ea=>
  cases (show u=Value.ref a from rx)
  obtain ⟨_,_,vs,_,p⟩:=(show ax X.prog X.w H s.heap a (.dK kvs) from ea.ok I.hok)
  obtain ⟨o,es,ep,h1,h2,_⟩:=p
  exact PySem.W.kia_one PySem.W.kitx_dict I.kIn ⟨o,h1,h2.1⟩ e (fun z=>nomatch z) h
 | @dT a kvs ea=>
  cases (show u=Value.ref a from rx)
  obtain ⟨_,_,xs,_,o,es,ep,h1,h2,_⟩:=(show ax X.prog X.w H s.heap a (.dT kvs) from ea.ok I.hok)
  exact PySem.W.kia_one PySem.W.kitx_dict I.kIn ⟨o,h1,h2.1⟩ e (fun z=>nomatch z) h
 | @ins a C dx fs ea cl ha hn htk hm=>
  cases (show u=Value.ref a from rx)
  obtain ⟨mA,O,_⟩:=t6 I.hok ea
  obtain ⟨od,J,_⟩:=O.look
  exact PySem.W.kia_one (PySem.W.kitx_own (cl.get _) cl.hd ha hn htk hm) I.kIn J e (fun z=>nomatch z) h
end
end L2
namespace L2
open PySem PySem.Spec PyProof.Rows
structure Room (k:Nat) (A:Around):Prop where
 hd:A.handled=none
 dp:A.depth+3*k+5<recursionLimit
 un:A.units+16*k+200<cLine
theorem Room.mono {j k:Nat}{A:Around} (r:Room k A) (h:j<=k):Room j A:=⟨r.hd,by have:=r.dp;lia,by have:=r.un;lia⟩
theorem Room.deeper {k:Nat}{A:Around} (r:Room (k+1) A) (env:Env):Room k (A.deeper env):=
 ⟨r.hd,by have:=r.dp;show A.depth+1+3*k+5<_;lia,by have:=r.un;show A.units+3+16*k+200<_;lia⟩
theorem Room.depth {k:Nat}{A:Around} (r:Room k A):A.depth<recursionLimit:=by have:=r.dp;lia
theorem Room.units {k:Nat}{A:Around} (r:Room k A):A.units+64<cLine:=by have:=r.un;lia
noncomputable def tNil:TA:=fun _ H Q=>Q [] H
noncomputable def cQ (ta:TE) (tr:TA):TA:=fun σ H Q=>ta σ H fun x H1=>tr σ H1 fun xs H2=>Q (x::xs) H2
section
variable {X:Cx}{e:Expr}{es:List Expr}{te:TE}{t:TA}{pos:Pos}
theorem ci:PA X [] tNil:=fun _ _ _ _ H Q I h=>Calls.spliced_nil ⟨[],H,I,.nil,h⟩
theorem aU (ha:PE X e te) (hr:PA X es t) (hs:starEach (e::es) X.env=(false,eval e X.env)::starEach es X.env:=by rfl):PA X (e::es) (cQ te t):=by
 intro pos pins s σ H Q I h
 rw [hs]
 show wpAny _ _ (spliced ((false,eval e X.env)::backTo pos (starEach es X.env))) _ _ s
 refine Calls.spliced_cons (thn (ha pins s σ H _ I h) fun u s1 ⟨x,H1,I1,r1,q1⟩=> ?_)
 exact thn (hr pos pins s1 σ H1 _ I1 q1) fun us s2 ⟨xs,H2,I2,r2,q2⟩=>⟨x::xs,H2,I2,.cons r1 r2,q2⟩
noncomputable def tTup (t:TA):TE:=fun σ H Q=>t σ H fun xs H1=>xs.length<=sizeLine/\ ∀p,H1 p=none->Q (.ref p) (upd H1 p (.tup xs))
noncomputable def tLst (t:TA):TE:=fun σ H Q=>t σ H fun xs H1=>xs.length<=sizeLine/\ ∀p,H1 p=none->Q (.ref p) (upd H1 p (.lst xs))
theorem mX {x1} (h:PA X es t):PE X (.Tuple es x1 pos) (tTup t):=by
 intro pins s σ H Q I hq
 refine wpAny_Tuple_spliced (thn (h pos pins s σ H _ I hq) fun us s1 ⟨xs,H1,I1,r,z,q⟩=>⟨by rw [<-r.length];exact z,?_⟩)
 have hf:H1 s1.heap.objs.size=none:=I1.hok.fresh (Nat.le_refl _)
 refine ⟨.ref s1.heap.objs.size,upd H1 s1.heap.objs.size (.tup xs),I1.laid (t':=s1.toks) (fun b u e=>Heap.get?_push_of_some _ e) (Nat.le_refl _) ?_,rfl,q _ hf⟩
 exact ⟨z,us,r,⟨_,Heap.get?_push_size _ rfl,rfl,⟨_,rfl⟩,rfl⟩⟩
theorem mY (h:PA X es t):PE X (.List es pos) (tLst t):=by
 intro pins s σ H Q I hq
 refine wpAny_List_spliced (thn (h pos pins s σ H _ I hq) fun us s1 ⟨xs,H1,I1,r,z,q⟩=>⟨by rw [<-r.length];exact z,?_⟩)
 have hf:H1 s1.heap.objs.size=none:=I1.hok.fresh (Nat.le_refl _)
 refine ⟨.ref s1.heap.objs.size,upd H1 s1.heap.objs.size (.lst xs),I1.laid (t':=s1.toks) (fun b u e=>Heap.get?_push_of_some _ e) (Nat.le_refl _) ?_,rfl,q _ hf⟩
 exact ⟨z,us,0,r,Heap.get?_push_size _ rfl⟩
end
noncomputable abbrev Sp:=List V->Hp->VK->XK->Prop
noncomputable abbrev CXT:=List Env->Hp->Shared->XK->Value->Shared->Prop
structure Env0 (P:Program) (w:World) (K:PySem.W.Frag) (mg:Str->Option Value) (base:Heap) (A:Around) (outer:List Env) (s:Shared) (H:Hp):Prop where
 frames:A.frames=some outer
 mod:Mod K mg base
 bs: ∀b o,base.get? b=some o->s.heap.get? b=some o/\H b=none
 bsz:base.objs.size<=s.heap.objs.size
 funs:s.heap.FunFrames base outer
 frf: ∀b∈frs outer,H b=none
 hok:HOk P w H s.heap
 bare:AllBare s.gens
noncomputable def CE (outer:List Env) (P:Program) (w:World) (H:Hp) (s:Shared) (Q:VK) (u:Value) (s':Shared):Prop:=
 ∃v H',s'.os=s.os/\AllBare s'.gens/\Un (frs outer) [] H H' s.heap s'.heap/\HOk P w H' s'.heap/\RelV v u/\Q v H'
noncomputable def CR (CX:CXT) (outer:List Env) (P:Program) (w:World) (H:Hp) (s:Shared) (Q:VK) (E:XK) (r:Result) (s':Shared):Prop:=
 match r with
 | .ok (.ret u)=>CE outer P w H s Q u s'
 | .ok _=>False
 | .error e=>CX outer H s E e s'
structure FnOk (P:Program) (w:World) (K:PySem.W.Frag) (mg:Str->Option Value) (base:Heap) (CX:CXT) (k:Nat) (f:Addr) (fd:FuncData) (ps:List Str) (sp:Sp):Prop where
 len: ∀vs H Q E,sp vs H Q E->vs.length=ps.length
 run: ∀(A:Around) (outer:List Env) (s:Shared) (H:Hp) (args:Args) (us:List Value) (vs:List V) (Q:VK) (E:XK),Room k A->Env0 P w K mg base A outer s H->BindsTo s fd args (ps.zip us)->Vals vs us->sp vs H Q E->
  codeAny (model P w) A (.call (.ref f) args) (CR CX outer P w H s Q E) s
theorem FnOk.mono {P:Program}{w:World}{K:PySem.W.Frag}{mg:Str->Option Value}{base:Heap}{CX:CXT}{j k:Nat}{f:Addr}{fd:FuncData}{ps:List Str}{sp:Sp} (F:FnOk P w K mg base CX j f fd ps sp) (h:j<=k):
  FnOk P w K mg base CX k f fd ps sp:=⟨F.len,fun A outer s H args us vs Q E hr=>F.run A outer s H args us vs Q E (hr.mono h)⟩
section
variable {X:Cx}{pins:List (Addr×Obj)}{σ:St}{H:Hp}{s s':Shared}
theorem Inv.env0 (I:Inv X pins σ H s):Env0 X.prog X.w X.K X.mg X.base X.A X.stack s H:=
 ⟨I.ok.frames,I.ok.mod,I.bs,Nat.le_trans I.ok.bsz I.sz,I.stack,I.stkFree,I.hok,I.bare⟩
theorem Inv.after {Q:VK}{u:Value} (I:Inv X pins σ H s) (h:CE X.stack X.prog X.w H s Q u s'):EP X pins σ Q u s':=by
 obtain ⟨v,H',os,bare,un,hok,r,q⟩:=h
 obtain ⟨hh,g,d,t,os'⟩:=s'
 obtain rfl:os'=s.os:=os
 exact ⟨v,H',I.call (h':=hh) (g':=g) (d':=d) (t':=t) (ch:=[]) un hok bare (fun b z=>absurd z (by simp)),r,q⟩
end
noncomputable def iI (sp:Sp) (dvs:List V) (E:XK) (t:TA):TE:=fun σ H Q=>t σ H fun vs H1=>sp (vs++dvs) H1 Q E
noncomputable def cR (K:PySem.W.Frag) (fd:FuncData) (ps:List Str) (ds:List Value):Prop:=
 ∀(s:Shared) (us:List Value),K.In s.heap->(us++ds).length=ps.length->BindsTo s fd ⟨us,[]⟩ (ps.zip (us++ds))
theorem cR.all {K:PySem.W.Frag}{fd:FuncData}{ps:List Str} (h: ∀us:List Value,us.length=ps.length->bindArgs fd ⟨us,[]⟩=pure (ps.zip us)):cR K fd ps []:=fun s us _ hl=>by
 rw [List.append_nil] at hl|-
 exact .of_eq (h us hl)
noncomputable def gA (CX:CXT) (X:Cx) (E:XK):Prop:= ∀(pins:List (Addr×Obj)) (σ:St) (H:Hp) (s:Shared) (e:Value) (s':Shared),Inv X pins σ H s->CX X.stack H s E e s'->X.xe e s'
section
variable {X:Cx}{CX:CXT}{k:Nat}{f C:Addr}{fd:FuncData}{ps:List Str}{sp:Sp}{dvs:List V}{ds:List Value}{E:XK}{x m:Str}{p pos apos:Pos}{e o:Expr}{es:List Expr}{ta:TE}{t:TA}
theorem mZ {pins:List (Addr×Obj)}{σ:St}{H:Hp}{s:Shared}{Q:VK}{us:List Value}{vs:List V} (F:FnOk X.prog X.w X.K X.mg X.base CX k f fd ps sp) (hr:Room k X.A) (hb:cR X.K fd ps ds) (hd:Vals dvs ds) (hx:gA CX X E)
  (I:Inv X pins σ H s) (r:Vals vs us) (h:sp (vs++dvs) H Q E):wpAny (model X.prog X.w) X.A (call (.ref f) us) (EP X pins σ Q) X.xe s:=by
 have r2:Vals (vs++dvs) (us++ds):=r.append hd
 have hl:(us++ds).length=ps.length:=by rw [<-r2.length];exact F.len _ _ _ _ h
 refine wpAny_call (codeAny_mono (F.run X.A X.stack s H ⟨us,[]⟩ (us++ds) (vs++dvs) Q E hr I.env0 (hb s us I.kIn hl) r2 h) fun r s' hq=> ?_)
 cases r with
 |error e=>exact hx pins σ H s e s' I hq
 |ok fl=>
  cases fl with
  |ret u=>exact I.after hq
  |next=>exact False.elim hq
  |brk=>exact False.elim hq
  |cont=>exact False.elim hq
theorem m9 (F:FnOk X.prog X.w X.K X.mg X.base CX k f fd ps sp) (hr:Room k X.A) (hg:Gl X x) (hm:X.mg x=some (.ref f)) (hk:PySem.W.keepIn X.K (.ref f)=true) (hb:cR X.K fd ps ds) (hd:Vals dvs ds) (hx:gA CX X E)
  (ha:PA X (e::es) t) (hdb:(x==("__debug__":Str))=false:=by decide) (he:starEach (e::es) X.env=(false,eval e X.env)::starEach es X.env:=by rfl) (hpl:(backTo pos (starEach es X.env)).any (·.1)=false:=by rfl):
  PE X (.Call (.Name x p) (e::es) [] pos) (iI sp dvs E t):=by
 intro pins s σ H Q I h
 refine wpAny_Call_Name_kw (gu I hg hm ?_ hdb)
 refine PySem.W.callWith_K (h₀:=X.base) I.ok.mod.kin hk (thn (ha pos pins s σ H _ I h) fun us s1 ⟨vs,H1,I1,r,q⟩=>⟨I1.kIn,?_⟩) he hpl
 exact mZ F hr hb hd hx I1 r q
theorem t8 (F:FnOk X.prog X.w X.K X.mg X.base CX k f fd ps sp) (hr:Room k X.A) (hg:Gl X x) (hm:X.mg x=some (.ref f)) (hk:PySem.W.keepIn X.K (.ref f)=true) (hb:cR X.K fd ps ds) (hd:Vals dvs ds) (hx:gA CX X E)
  (hdb:(x==("__debug__":Str))=false:=by decide):PE X (.Call (.Name x p) [] [] pos) (iI sp dvs E tNil):=by
 intro pins s σ H Q I h
 refine wpAny_Call_Name_kw (gu I hg hm ?_ hdb)
 exact PySem.W.callWith_K0 I.kIn hk (mZ (us:=[]) F hr hb hd hx I .nil h)
end
section
variable {X:Cx}{CX:CXT}{k:Nat}{f C:Addr}{fd:FuncData}{ps ks:List Str}{sp:Sp}{E:XK}{x m:Str}{p pos apos kpos:Pos}{e o:Expr}{es:List Expr}{kws:List Keyword}{te ta:TE}{t tk:TA}{nm:Option Str}
variable {g:List Value->List Value->List Value}{gV:List V->List V->List V}
end
structure be (N P:List Str) (sc:Scope):Prop where
 kind:sc.kind= .function
 co:sc.isCoroutine=false
 gen:sc.isGenerator=false
 nd:N.Nodup
 pre:N.take P.length=P
 par: ∀x∈P,sc.names.lookup x=some .local \/sc.names.lookup x=some .cell
 nofree: ∀y∈sc.names,y.2≠ .free
theorem na {kindOf:Str->Option NameKind}{x:Str}: ∀{binds:List (Str×Value)}{m:Str->Option Value},(∀v,(x,v)∉binds)->bindL kindOf binds m x=m x
 |[],_,_=>rfl
 |(n,v)::r,m,h=>by
  unfold bindL
  rw [na fun w hw=>h w (List.mem_cons_of_mem _ hw)]
  split
  ·have:x≠n:=by rintro rfl;exact h v List.mem_cons_self
   simp [this]
  ·rfl
theorem ng {kindOf:Str->Option NameKind}{x:Str}: ∀{binds:List (Str×Value)}{m:Str->Option Value},(∀v,(x,v)∉binds)->bindC kindOf binds m x=m x
 |[],_,_=>rfl
 |(n,v)::r,m,h=>by
  unfold bindC
  rw [ng fun w hw=>h w (List.mem_cons_of_mem _ hw)]
  split
  ·rfl
  ·have:x≠n:=by rintro rfl;exact h v List.mem_cons_self
   simp [this]
theorem nh {kindOf:Str->Option NameKind}{x:Str}{v:Value}: ∀{P:List Str}{vs:List Value}{i:Nat}{m:Str->Option Value},P.Nodup->P[i]?=some x->vs[i]?=some v->kindOf x=some .local->
  bindL kindOf (P.zip vs) m x=some v
 |[],_,_,_,_,h,_,_=>by simp at h
 |_::_,[],_,_,_,_,h,_=>by simp at h
 |p::P,w::vs,0,m,nd,h1,h2,hk=>by
  simp at h1 h2;subst h1;subst h2
  show bindL kindOf ((p,w)::P.zip vs) m p=_
  unfold bindL
  rw [na fun v hv=>(List.nodup_cons.mp nd).1 (List.of_mem_zip hv).1,if_pos hk]
  simp
 |p::P,w::vs,i+1,m,nd,h1,h2,hk=>by
  show bindL kindOf ((p,w)::P.zip vs) m x=_
  unfold bindL
  exact nh (i:=i) (List.nodup_cons.mp nd).2 (by simpa using h1) (by simpa using h2) hk
theorem nj {kindOf:Str->Option NameKind}{x:Str}{v:Value}: ∀{P:List Str}{vs:List Value}{i:Nat}{m:Str->Option Value},P.Nodup->P[i]?=some x->vs[i]?=some v->kindOf x≠some .local->
  bindC kindOf (P.zip vs) m x=some v
 |[],_,_,_,_,h,_,_=>by simp at h
 |_::_,[],_,_,_,_,h,_=>by simp at h
 |p::P,w::vs,0,m,nd,h1,h2,hk=>by
  simp at h1 h2;subst h1;subst h2
  show bindC kindOf ((p,w)::P.zip vs) m p=_
  unfold bindC
  rw [ng fun v hv=>(List.nodup_cons.mp nd).1 (List.of_mem_zip hv).1,if_neg hk]
  simp
 |p::P,w::vs,i+1,m,nd,h1,h2,hk=>by
  show bindC kindOf ((p,w)::P.zip vs) m x=_
  unfold bindC
  exact nj (i:=i) (List.nodup_cons.mp nd).2 (by simpa using h1) (by simpa using h2) hk
noncomputable def bG (N:List Str) (vs:List V):St:=vs.map some++List.replicate (N.length-vs.length) none
noncomputable def cxOf (CX:CXT) (P:Program) (w:World) (K:PySem.W.Frag) (mg:Str->Option Value) (base:Heap) (N:List Str) (qual:Str) (scope:Scope) (f:Addr) (cd:Value) (A:Around) (outer:List Env) (s:Shared) (H:Hp) (E:XK):Cx where
 prog:=P
 w:=w
 K:=K
 mg:=mg
 base:=base
 A:=A.deeper (envOfC qual scope s.heap.objs.size f cd)
 N:=N
 s₀:=s
 H₀:=H
 env:=envOfC qual scope s.heap.objs.size f cd
 outer:=outer
 stack:=envOfC qual scope s.heap.objs.size f cd::outer
 ex:=[]
 calm:=true
 fn:=fun _=>true
 pn:=[]
 xe:=fun e s'=>wpAny (model P w) (A.deeper (envOfC qual scope s.heap.objs.size f cd)) (leaving (envOfC qual scope s.heap.objs.size f cd) e) (fun _ s''=>CX outer H s E e s'') (fun e' s''=>CX outer H s E e' s'') s'
theorem nk {sc:Scope}{n:Nat}{x:Str} (h:sc.names.lookup x=some .cell): ∃c,(cellsFrom n sc.names []).lookup x=some c:=by
 have q:=PySem.W.cellsFrom_some sc.names n [] (.inl h)
 exact Option.isSome_iff_exists.mp q
theorem t9 {CX:CXT}{P:Program}{w:World}{K:PySem.W.Frag}{mg:Str->Option Value}{base:Heap}{N ps:List Str}{qual:Str}{scope:Scope}{f:Addr}{cd:Value}{A:Around}{outer:List Env}{s s1:Shared}{H:Hp}{E:XK}{us:List Value}{vs:List V}
  (S:be N ps scope) (hd:A.handled=none) (e0:Env0 P w K mg base A outer s H) (hl:vs.length=ps.length) (r:Vals vs us)
  (x:InCallC s s.heap.objs.size (bindL (envOfC qual scope s.heap.objs.size f cd).kindOf (ps.zip us) fun _=>none) (cellsFrom (s.heap.objs.size+1) scope.names []) (bindC (envOfC qual scope s.heap.objs.size f cd).kindOf (ps.zip us) fun _=>none) s1):
  Inv (cxOf CX P w K mg base N qual scope f cd A outer s H E) [] (bG N vs) H s1:=by
 have hpl:ps.length<=N.length:=by have:=congrArg List.length S.pre;rw [List.length_take] at this;lia
 obtain ⟨h1,tk,rfl,hk⟩:=x.done
 have noA: ∀b:Addr,b∉(cxOf CX P w K mg base N qual scope f cd A outer s H E).ex:=fun b z=>absurd (show b∈([]:List Addr) from z) (by simp)
 refine ⟨⟨e0.mod,S.kind,rfl,rfl,Nat.le_refl _,fun y z c h1 h2=> ?_,fun y hy=> ?_,fun y c _ h=> ?_,fun _=>hd,Around.frames_deeper e0.frames,.inr ⟨rfl,rfl⟩,fun b z=>absurd z (noA b),e0.bs,e0.bsz,fun b _ _=>noA b,fun b z=>absurd z (noA b),e0.funs,e0.frf⟩,
  rfl,e0.bare,Un.kept hk,⟨_,x.toInCall.ns,fun i y v h1 h2 h3=> ?_⟩,fun y c h=>⟨_,x.cell y c h⟩,e0.hok.fresh (Nat.le_refl _),fun y c h=> ?_,fun p hp=>absurd (show p∈([]:List (Addr×Obj)) from hp) (by simp),e0.hok.kept hk,?_⟩
 ·exact name_of_addr x.apart (PySem.mem_of_lookup h1) (PySem.mem_of_lookup h2)
 ·have hy:scope.names.lookup y=some .cell \/scope.names.lookup y=some .free:=hy
  rcases hy with hy|hy
  ·exact nk hy
  ·exact absurd rfl (S.nofree _ (PySem.mem_of_lookup hy))
 ·exact Nat.le_of_lt (x.above y c (PySem.mem_of_lookup h))
 ·have hi:i<vs.length:=by
   unfold bG at h2
   by_cases hi:i<vs.length
   ·exact hi
   ·rw [List.getElem?_append_right (by simpa using hi)] at h2
    rw [List.getElem?_replicate] at h2
    split at h2<;>cases h2
  have ha:vs[i]?=some v:=by
   unfold bG at h2
   rw [List.getElem?_append_left (by simpa using hi),List.getElem?_map] at h2
   cases e:vs[i]? with
   |none=>rw [e] at h2;cases h2
   |some a=>rw [e] at h2;cases h2;rfl
  obtain ⟨u,hu,rv⟩:=r.get ha
  have hp:ps[i]?=some y:=by
   rw [<-S.pre,List.getElem?_take_of_lt (by lia)];exact h1
  have ndP:ps.Nodup:=by rw [<-S.pre];exact S.nd.sublist (List.take_sublist _ _)
  refine ⟨u,rv,?_⟩
  rcases S.par y (List.mem_of_getElem? hp) with k|k
  ·exact .inl ⟨k,nh ndP hp hu k⟩
  ·obtain ⟨c,e⟩:=nk (n:=s.heap.objs.size+1) k
   refine .inr ⟨.inl k,c,e,?_⟩
   have q:=x.cell y c e
   rw [nj ndP hp hu (by show scope.names.lookup y≠_;rw [k];decide)] at q
   exact q
 ·exact e0.hok.fresh (Nat.le_of_lt (x.above y c (PySem.mem_of_lookup h)))
 ·unfold bG
  show _=N.length
  rw [List.length_append,List.length_map,List.length_replicate]
  lia
theorem nl {CX:CXT}{P:Program}{w:World}{K:PySem.W.Frag}{mg:Str->Option Value}{base:Heap}{k:Nat}{f:Addr}{name qual:Str}{params:Arguments}{body:List Stmt}{scope:Scope}{dV kV doc pm cdv ct oc:Value}{an od:Option Addr}
  {osl:Array (Option Value)}{N ps:List Str}{sp:Sp} (lk:K.lookup f=some ⟨oc,od,.func (PySem.W.fnOf name qual params body scope dV kV doc pm an cdv ct),osl⟩) (hcd:PySem.W.codeIn K cdv qual=true) (S:be N ps scope)
  (len: ∀vs H Q E,sp vs H Q E->vs.length=ps.length)
  (hbody: ∀(A:Around) (outer:List Env) (s:Shared) (H:Hp) (vs:List V) (Q:VK) (E:XK),Room k (A.deeper (envOfC qual scope s.heap.objs.size f cdv))->sp vs H Q E->
   ∃t,PSs (cxOf CX P w K mg base N qual scope f cdv A outer s H E) body t/\t {nx:=fun _ H'=>Q .non H',rt:=Q} (bG N vs) H):
  FnOk P w K mg base CX (k+1) f (PySem.W.fnOf name qual params body scope dV kV doc pm an cdv ct) ps sp:=by
 refine ⟨len,fun A outer s H args us vs Q E hr e0 hb r hsp=> ?_⟩
 have hl:=len _ _ _ _ hsp
 have KX:K.In s.heap:=e0.mod.kin.keeps fun b o e=>(e0.bs b o e).1
 have lim:s.heap.NoLimit:=e0.mod.nolimit.keeps fun b o e=>(e0.bs b o e).1
 have hkind: ∀y∈ps.zip us,scope.names.lookup y.1=some .local \/(scope.names.lookup y.1=some .cell/\((cellsFrom (s.heap.objs.size+1) scope.names []).lookup y.1).isSome=true):=fun ⟨n,v⟩ hy=>by
  rcases S.par n (List.of_mem_zip hy).1 with q|q
  ·exact .inl q
  ·exact .inr ⟨q,PySem.W.cellsFrom_some _ _ _ (.inl q)⟩
 refine codeAny_call_function hr.depth (KX _ _ lk) rfl S.co S.gen rfl (PySem.W.codeRec_of KX hcd) (hb _ _ _ _ ?_)
 refine wpAny_newFunctionEnv_cells S.kind hkind fun env he s1 x=> ?_
 subst he
 refine ⟨lim.keeps x.toInCall.keep,codeAny_func ?_⟩
 obtain ⟨t,ht,hq⟩:=hbody A outer s H vs Q E (hr.deeper _) hsp
 have I:Inv (cxOf CX P w K mg base N qual scope f cdv A outer s H E) [] (bG N vs) H s1:=t9 S hr.hd e0 hl r x
 refine wpAny_mono (ht [] s1 (bG N vs) H _ I hq) (fun fl s' hs=> ?_) fun e s' hs=>hs
 have fin: ∀{σ':St}{H':Hp}{v:V}{u:Value},Inv (cxOf CX P w K mg base N qual scope f cdv A outer s H E) [] σ' H' s'->RelV v u->Q v H'->CE outer P w H s Q u s':=
  fun {σ' H' v u} J rv q=>⟨v,H',J.os,J.bare,J.base,J.hok,rv,q⟩
 cases fl with
 |ret u=>
  obtain ⟨v,σ',H',J,rv,q⟩:=hs
  exact fin J rv q
 |next=>
  obtain ⟨σ',H',J,q⟩:=hs
  exact fin (v:=V.non) (u:=Value.none) J rfl q
 |brk=>
  obtain ⟨_,_,_,q⟩:=hs
  exact False.elim q
 |cont=>
  obtain ⟨_,_,_,q⟩:=hs
  exact False.elim q
end L2
namespace L2
open PySem PySem.Spec PyProof.Rows
section
variable {X:Cx}{x:Str}{p pos:Pos}{e:Expr}{es:List Expr}{t:TA}{id T:String}{r:List V->Hp->VK->Prop}
noncomputable def tCB (r:List V->Hp->VK->Prop) (t:TA):TE:=fun σ H Q=>t σ H fun vs H1=>r vs H1 Q
theorem fj (hc:bp X (.builtin id) r) (hg:Gl X x) (hm:X.mg x=none) (hv:bootBuiltins x=some (.builtin id)) (ha:PA X (e::es) t) (hn:x≠"__name__":=by decide) (hdb:(x==("__debug__":Str))=false:=by decide)
  (he:starEach (e::es) X.env=(false,eval e X.env)::starEach es X.env:=by rfl) (hpl:(backTo pos (starEach es X.env)).any (·.1)=false:=by rfl):PE X (.Call (.Name x p) (e::es) [] pos) (tCB r t):=by
 intro pins s σ H Q I h
 refine wpAny_Call_Name_kw (gv I hg hm hv ?_ hn hdb)
 exact PyProof.Rows.callWith_builtin1 (thn (ha pos pins s σ H _ I h) fun us s1 ⟨vs,H1,I1,r1,q1⟩=>hc pins s1 σ H1 vs us Q I1 r1 q1) he hpl
theorem nq (hc:bp X (.type T) r) (hg:Gl X x) (hm:X.mg x=none) (hv:bootBuiltins x=some (.type T)) (ha:PA X (e::es) t) (hn:x≠"__name__":=by decide) (hdb:(x==("__debug__":Str))=false:=by decide)
  (he:starEach (e::es) X.env=(false,eval e X.env)::starEach es X.env:=by rfl) (hpl:(backTo pos (starEach es X.env)).any (·.1)=false:=by rfl):PE X (.Call (.Name x p) (e::es) [] pos) (tCB r t):=by
 intro pins s σ H Q I h
 refine wpAny_Call_Name_kw (gv I hg hm hv ?_ hn hdb)
 exact PyProof.Rows.callWith_type1 (thn (ha pos pins s σ H _ I h) fun us s1 ⟨vs,H1,I1,r1,q1⟩=>hc pins s1 σ H1 vs us Q I1 r1 q1) he hpl
end
end L2
namespace HT
open PySem PyProof.Rows
noncomputable def aA:List Int->List Int->Bool
 |[],[]=>false
 |[],_::_=>true
 |_::_,[]=>false
 |x::xs,y::ys=>if x=y then aA xs ys else decide (x<y)
theorem eE (x y:Int) (xs ys:List Int):aA (x::xs) (y::ys)=if x=y then aA xs ys else decide (x<y):=rfl
theorem ua (y:Int) (ys:List Int):aA [] (y::ys)=true:=rfl
theorem ub (x:Int) (xs:List Int):aA (x::xs) []=false:=rfl
section
open PySem.SeqAt
open PySem.AutoSeq1 (wpAny_loadPart')
open PySem.MeetsSeq PySem.MeetsSeq2 PySem.MeetsSeq3
end
section
variable {prog:Program}{w:World}{A:Around}{E:Value->Shared->Prop}{s:Shared}
noncomputable def sIx (n d:Nat):Option Int->Nat
 |none=>d
 |some v=>if v<0 then (v+(n:Int)).toNat else min v.toNat n
end
end HT
namespace L2
open PySem PySem.Spec PyProof.Rows
noncomputable abbrev TO:=St->Hp->(Option Int->Hp->Prop)->Prop
noncomputable def PO (X:Cx) (e:Option Expr) (t:TO):Prop:=
 ∀(pins:List (Addr×Obj)) (s:Shared) (σ:St) (H:Hp) (Q:Option Int->Hp->Prop),Inv X pins σ H s->t σ H Q->
  wpAny (model X.prog X.w) X.A (evalPart e X.env) (fun u s'=> ∃o H',Inv X pins σ H' s'/\IsPart u o/\Q o H') X.xe s
noncomputable def uc:TO:=fun _ H Q=>Q none H
noncomputable def ud (t:TE):TO:=fun σ H Q=>t σ H fun x H1=> ∃i,x= .int i/\Q (some i) H1
theorem ue {ns:List Int}: ∀{us:List Value},Vals (ns.map V.int) us->IntsAre us ns:=by
 induction ns with
 |nil=>intro us r;rw [List.map_nil] at r;cases r;exact .nil
 |cons n ns ih=>
  intro us r
  rw [List.map_cons] at r
  cases r with
  |cons r1 r2=>
   obtain ⟨t,e⟩:=r1
   subst e
   exact .cons n t (ih r2)
section
variable {X:Cx}{e:Expr}{te:TE}{lo hi:Option Expr}{tl th:TO}{pos p2:Pos}
theorem uf:PO X none uc:=by
 intro pins s σ H Q I h
 rw [evalPart_none]
 exact wpAny_pure ⟨none,H,I,.none,h⟩
theorem ug (h:PE X e te):PO X (some e) (ud te):=by
 intro pins s σ H Q I hw
 rw [evalPart_some]
 refine thn (h pins s σ H _ I hw) fun u s1 ⟨x,H1,I1,r1,q1⟩=> ?_
 obtain ⟨i,rfl,q⟩:=q1
 obtain ⟨t,rfl⟩:=r1
 exact ⟨some i,H1,I1,.int i t,q⟩
noncomputable def SlR (X:Cx) (r:V->Option Int->Option Int->Hp->VK->Prop):Prop:=
 ∀(pins:List (Addr×Obj)) (s:Shared) (σ:St) (H:Hp) (x:V) (v vl vu:Value) (lo hi:Option Int) (sl:Addr) (Q:VK),Inv X pins σ H s->RelV x v->s.heap.IsSliceOf sl vl vu .none->IsPart vl lo->IsPart vu hi->r x lo hi H Q->
  ∃T id,typeLookup (.type T) "__getitem__"=pure (some (.builtin id))/\s.TypeIs v T/\wpAny (model X.prog X.w) X.A (getItem v (.ref sl)) (EP X pins σ Q) X.xe s
noncomputable def tSl (r:V->Option Int->Option Int->Hp->VK->Prop) (te:TE) (tl th:TO):TE:=fun σ H Q=>te σ H fun x H1=>tl σ H1 fun l H2=>th σ H2 fun u H3=>r x l u H3 Q
theorem j9 {r:V->Option Int->Option Int->Hp->VK->Prop} (hr:SlR X r) (he:PE X e te) (hl:PO X lo tl) (hu:PO X hi th):PE X (.Subscript e (.Slice lo hi none p2) pos) (tSl r te tl th):=by
 intro pins s σ H Q I h
 refine Subscript_ (thn (he pins s σ H _ I h) fun v s1 ⟨x,H1,I1,r1,q1⟩=> ?_)
 refine wpAny_Slice (thn (hl pins s1 σ H1 _ I1 q1) fun vl s2 ⟨l,H2,I2,pl,q2⟩=>thn (hu pins s2 σ H2 _ I2 q2) fun vu s3 ⟨u,H3,I3,pu,q3⟩=> ?_)
 rw [evalPart_none]
 refine wpAny_pure ?_
 have I4:Inv X pins σ H3 {s3 with heap:=s3.heap.push {cls:= .type "slice",data:= .fields #[vl,vu,.none]}}:=I3.kept (t':=s3.toks) fun b ob q=>Heap.get?_push_of_some _ q
 obtain ⟨T,id,hT,ht,hg⟩:=hr pins {s3 with heap:=s3.heap.push {cls:= .type "slice",data:= .fields #[vl,vu,.none]}} σ H3 x v vl vu l u s3.heap.objs.size Q I4 r1 (Heap.IsSliceOf.new ..) pl pu q3
 show wpAny (model X.prog X.w) X.A (subscriptTail e (.Slice lo hi none p2) v (.ref s3.heap.objs.size)) (EP X pins σ Q) X.xe {s3 with heap:=s3.heap.push {cls:= .type "slice",data:= .fields #[vl,vu,.none]}}
 exact tail_any (ops:=[.ref s3.heap.objs.size,v]) ht hT hg (by with_unfolding_all rfl)
noncomputable def cutV (xs:List V) (lo hi:Option Int):List V:=(xs.drop (HT.sIx xs.length 0 lo)).take (HT.sIx xs.length xs.length hi-HT.sIx xs.length 0 lo)
theorem uh (xs:List V) (lo hi:Option Int):(cutV xs lo hi).length<=xs.length:=by
 unfold cutV
 rw [List.length_take,List.length_drop]
 lia
theorem Vals.nil_iff {xs:List V}{us:List Value} (r:Vals xs us):us=[]↔xs=[]:=by
 cases r with
 |nil=>simp
 |cons _ _=>simp
end
end L2
namespace L2
open PySem PySem.Spec PyProof.Rows
noncomputable def ixN (n:Nat) (i:Int):Option Nat:=if 0<=i then (if i<n then some i.toNat else none) else if-(n:Int)<=i then some (i+n).toNat else none
noncomputable def atI {α:Type} (xs:List α) (i:Int):Option α:=(ixN xs.length i).bind fun j=>xs[j]?
theorem nr {n:Nat}{i:Int}{j:Nat} (h:ixN n i=some j):seqIndex? i n=some j/\j<n/\ -(n:Int)<=i/\i<n:=by
 unfold ixN at h
 by_cases h0:0<=i
 ·rw [if_pos h0] at h
  by_cases h1:i<n
  ·rw [if_pos h1] at h
   have e:i.toNat=j:=Option.some.inj h
   exact ⟨by rw [seqIndex_of h0 h1,e],by lia,by lia,h1⟩
  ·rw [if_neg h1] at h;cases h
 ·rw [if_neg h0] at h
  by_cases h1: -(n:Int)<=i
  ·rw [if_pos h1] at h
   have e:(i+n).toNat=j:=Option.some.inj h
   exact ⟨by rw [seqIndex_neg (by lia) h1,e],by lia,h1,by lia⟩
  ·rw [if_neg h1] at h;cases h
theorem ka {α:Type}{xs:List α}{i:Int}{v:α} (h:atI xs i=some v): ∃j,seqIndex? i xs.length=some j/\xs[j]?=some v/\j<xs.length/\ -(xs.length:Int)<=i/\i<xs.length:=by
 unfold atI at h
 cases e:ixN xs.length i with
 |none=>rw [e] at h;cases h
 |some j=>
  rw [e] at h
  obtain ⟨h1,h2,h3,h4⟩:=nr e
  exact ⟨j,h1,h,h2,h3,h4⟩
theorem ui {α:Type}{xs:List α}{j:Nat}{v:α} (h:xs[j]?=some v):atI xs (j:Int)=some v:=by
 have hj:j<xs.length:=(List.getElem?_eq_some_iff.mp h).1
 have e:ixN xs.length (j:Int)=some j:=by
  unfold ixN
  rw [if_pos (by lia),if_pos (by lia)];simp
 unfold atI;rw [e];exact h
noncomputable def kc (b:Expr):Prop:= ∀o i,subscripted b false o i=operate [o,i] (getItem o i)
noncomputable def IxR (X:Cx) (r:R2):Prop:=
 ∀(value slice:Expr) (pins:List (Addr×Obj)) (s:Shared) (σ:St) (H:Hp) (x y:V) (v u:Value) (Q:VK),Inv X pins σ H s->RelV x v->RelV y u->r x y H Q->
  subscripted slice false v u=operate [v,u] (getItem v u)->wpAny (model X.prog X.w) X.A (subscriptTail value slice v u) (EP X pins σ Q) X.xe s
noncomputable def MtR (X:Cx) (id:String) (r:V->List V->Hp->VK->Prop):Prop:=
 ∀(pins:List (Addr×Obj)) (s:Shared) (σ:St) (H:Hp) (x:V) (xs:List V) (v:Value) (us:List Value) (Q:VK),Inv X pins σ H s->RelV x v->Vals xs us->r x xs H Q->
  wpAny (model X.prog X.w) X.A (call (.builtin id) (v::us)) (EP X pins σ Q) X.xe s
section
variable {X:Cx}{a b:Expr}{ta tb:TE}{pos:Pos}
theorem IxR.or {r r':R2} (h:IxR X r) (h':IxR X r'):IxR X (fun x y H Q=>r x y H Q \/r' x y H Q):=by
 intro value slice pins s σ H x y v u Q I rx ry q hs
 rcases q with q|q
 ·exact h value slice pins s σ H x y v u Q I rx ry q hs
 ·exact h' value slice pins s σ H x y v u Q I rx ry q hs
theorem nv {r:R2} (hr:IxR X r) (ha:PE X a ta) (hb:PE X b tb) (hs:kc b):PE X (.Subscript a b pos) (tOp r ta tb):=by
 intro pins s σ H Q I h
 exact Subscript_ (binT ha hb I h fun v u s2 x y H2 I2 rx ry q=>hr a b pins s2 σ H2 x y v u Q I2 rx ry q (hs _ _))
noncomputable def rIxL (K:PySem.W.Frag):R2:=fun x y H Q=> ∃p xs i v,x= .ref p/\y= .int i/\SqL K H p xs/\atI xs i=some v/\Q v H
noncomputable def rIxT (K:PySem.W.Frag):R2:=fun x y H Q=> ∃p xs i v,x= .ref p/\y= .int i/\SqT K H p xs/\atI xs i=some v/\Q v H
noncomputable def rIxS:R2:=fun x y H Q=> ∃z i c,x= .str z/\y= .int i/\z.length<=sizeLine/\atI z.cps.toList i=some c/\Q (.str ⟨#[c]⟩) H
theorem uj:IxR X (rIxL X.K):=by
 intro value slice pins s σ H x y v u Q I rx ry h hs
 obtain ⟨p,xs,i,z,rfl,rfl,hq,he,q⟩:=h
 cases rx
 obtain ⟨t,rfl⟩:=ry
 obtain ⟨its,r,pl,hz⟩:=I.list hq
 obtain ⟨j,h1,h2,h3,h4,h5⟩:=ka he
 obtain ⟨w,ew,rw'⟩:=r.get h2
 have hl:=r.length
 have hn:=gw
 have fin:EP X pins σ Q w s:=⟨z,H,I,rw',q⟩
 by_cases h0:0<=i
 ·have hj:i.toNat=j:=by
   rw [seqIndex_of h0 h5] at h1
   exact Option.some.inj h1
  exact item_listR pl.isList h0 (by lia) (by rw [hj];simpa using ew) fin hs
 ·have hj:(i+(its.toArray.size:Int)).toNat=j:=by
   rw [seqIndex_neg (by lia) h4] at h1
   rw [List.size_toArray,<-hl]
   exact Option.some.inj h1
  exact subscriptTail_builtinR (x:=w) pl.isList.typeIs slot_list_getitem.lookup
   (wpAny_getItem_list_neg (Q:=fun r s'=>r=w/\EP X pins σ Q r s') pl.isList (by lia) (by rw [List.size_toArray]<;>lia) (by lia) (by rw [hj];simpa using ew) ⟨rfl,fin⟩) hs
theorem uk:IxR X (rIxT X.K):=by
 intro value slice pins s σ H x y v u Q I rx ry h hs
 obtain ⟨p,xs,i,z,rfl,rfl,hq,he,q⟩:=h
 cases rx
 obtain ⟨t,rfl⟩:=ry
 obtain ⟨its,r,pl,hz⟩:=I.tuple hq
 obtain ⟨j,h1,h2,h3,h4,h5⟩:=ka he
 obtain ⟨w,ew,rw'⟩:=r.get h2
 have hl:=r.length
 have hn:=gw
 have fin:EP X pins σ Q w s:=⟨z,H,I,rw',q⟩
 exact subscriptTail_builtinR (x:=w) pl.typeIs slot_tuple_getitem.lookup
  (getItem_tuple (j:=j) (Q:=fun r s'=>r=w/\EP X pins σ Q r s') pl (by lia) (by lia) (by rw [List.size_toArray,<-hl];exact h1) (by simpa using ew) ⟨rfl,fin⟩) hs
theorem nw:IxR X rIxS:=by
 intro value slice pins s σ H x y v u Q I rx ry h hs
 obtain ⟨z,i,c,rfl,rfl,hz,he,q⟩:=h
 obtain ⟨t,rfl⟩:=rx
 obtain ⟨t',rfl⟩:=ry
 obtain ⟨j,h1,h2,h3,h4,h5⟩:=ka he
 have hl:z.cps.toList.length=z.length:=by simp [Str.length]
 rw [hl] at h1 h4 h5
 have hn:=gw
 exact tail_any (typeIs_str s z t) slot_str_getitem.lookup (getItem_str (c:=c) (by
  have e1:decide (i< -(2^63:Int))=false:=decide_eq_false (by lia)
  have e2:decide (i>=2^63)=false:=decide_eq_false (by lia)
  rw [e1,e2,Bool.or_false]) (by rw [h1];simpa using h2) ⟨.str ⟨#[c]⟩,H,I.tok _,⟨_,rfl⟩,q⟩) hs
noncomputable def rIx (K:PySem.W.Frag):R2:=fun x y H Q=>rIxL K x y H Q \/rIxT K x y H Q \/rIxS x y H Q
theorem ul:IxR X (rIx X.K):=uj.or (uk.or nw)
theorem um (its:List Value) (n j:Nat) (u:Value):Obj.mapSeq (·.setIfInBounds j u) {cls:= .type "list",data:= .seq its.toArray n}={cls:= .type "list",data:= .seq (its.set j u).toArray n}:=by
 simp [Obj.mapSeq]
theorem Inv.lst {pins:List (Addr×Obj)}{σ:St}{H:Hp}{s:Shared}{p:Addr}{xs:List V} (I:Inv X pins σ H s) (h:H p=some (.lst xs)):
  ∃(its:List Value) (n:Nat),Vals xs its/\s.heap.get? p=some {cls:= .type "list",data:= .seq its.toArray n}/\xs.length<=sizeLine:=by
 obtain ⟨z,its,n,r,e⟩:=I.hok p _ h
 exact ⟨its,n,r,e,z⟩
theorem Inv.lstUpd {pins:List (Addr×Obj)}{σ:St}{H:Hp}{s:Shared}{p:Addr}{xs ys:List V}{its its':List Value}{n n':Nat}{f:Obj->Obj} (I:Inv X pins σ H s) (h:H p=some (.lst xs))
  (ho:s.heap.get? p=some {cls:= .type "list",data:= .seq its.toArray n}) (hf:f {cls:= .type "list",data:= .seq its.toArray n}={cls:= .type "list",data:= .seq its'.toArray n'}) (r:Vals ys its') (hz:ys.length<=sizeLine) (t:Nat):
  Inv X pins σ (upd H p (.lst ys)) {s with heap:=s.heap.update p f,toks:=t}:=by
 have e:(s.heap.update p f).get? p=some {cls:= .type "list",data:= .seq its'.toArray n'}:=by
  rw [Heap.get?_update_self f ho (by rw [hf]<;>rfl),hf]
 refine I.write (x:=p) (e:=p) (by rw [h];trivial) (.inl rfl) (fun b u hb q=>(Heap.get?_update_other _ _ (Ne.symm hb)).trans q) ⟨_,e⟩ ?_
 exact ⟨hz,its',n',r,e⟩
noncomputable def uo:V->V->V->Hp->(Hp->Prop)->Prop:=fun o i v H Q=> ∃p xs k j,o= .ref p/\i= .int k/\H p=some (.lst xs)/\ixN xs.length k=some j/\Q (upd H p (.lst (xs.set j v)))
theorem uq:PSet X uo:=by
 intro pins s σ H o i v ov iv u Q I ro ri rv h
 obtain ⟨p,xs,k,j,rfl,rfl,hp,hj,q⟩:=h
 cases ro
 obtain ⟨t,rfl⟩:=ri
 obtain ⟨its,n,r,ho,hz⟩:=I.lst hp
 obtain ⟨h1,h2,h3,h4⟩:=nr hj
 have hl:=r.length
 have hn:=gw
 have I':Inv X pins σ (upd H p (.lst (xs.set j v))) {s with heap:=s.heap.update p (Obj.mapSeq (·.setIfInBounds j u))}:=
  I.lstUpd hp ho (um its n j u) (r.set rv j) (by rw [List.length_set];exact hz) s.toks
 by_cases h0:0<=k
 ·have hk:k.toNat=j:=by
   rw [seqIndex_of h0 h4] at h1
   exact Option.some.inj h1
  exact PySem.W.ki_setAt ho h0 (by lia) (by rw [List.size_toArray,<-hl];exact h4) (by rw [hk];exact ⟨_,I',q⟩)
 ·have hk:(k+(its.toArray.size:Int)).toNat=j:=by
   rw [seqIndex_neg (by lia) h3] at h1
   rw [List.size_toArray,<-hl]
   exact Option.some.inj h1
  exact PySem.W.ki_setBack ho (by lia) (by rw [List.size_toArray,<-hl];exact h3) (by lia) (by rw [hk];exact ⟨_,I',q⟩)
theorem ur (lo hi:Option Int) (n:Nat):(sliceBounds lo hi none n).1=((HT.sIx n 0 lo:Nat):Int)/\(sliceBounds lo hi none n).2.1=((HT.sIx n n hi:Nat):Int)/\(sliceBounds lo hi none n).2.2=1:=by
 refine ⟨?_,?_,rfl⟩
 ·cases lo with
  |none=>simp [sliceBounds,HT.sIx]
  |some i=>
   simp only [sliceBounds,HT.sIx,Option.getD_none,show (1:Int)>0 by decide,if_true]
   by_cases h:i<0
   ·simp only [h,if_true]<;>lia
   ·simp only [h,if_false]<;>lia
 ·cases hi with
  |none=>simp [sliceBounds,HT.sIx]
  |some i=>
   simp only [sliceBounds,HT.sIx,Option.getD_none,show (1:Int)>0 by decide,if_true]
   by_cases h:i<0
   ·simp only [h,if_true]<;>lia
   ·simp only [h,if_false]<;>lia
theorem ut (its:List Value) (lo hi:Option Int):slicePick its.toArray lo hi none=((its.drop (HT.sIx its.length 0 lo)).take (HT.sIx its.length its.length hi-HT.sIx its.length 0 lo)).toArray:=by
 obtain ⟨h1,h2,h3⟩:=ur lo hi its.toArray.size
 unfold slicePick
 rw [h1,h2,h3]
 simp only [sliceRange_one,pick_run,List.size_toArray]<;>rfl
noncomputable def rSlL (K:PySem.W.Frag):V->Option Int->Option Int->Hp->VK->Prop:=fun x lo hi H Q=> ∃a xs,x= .ref a/\SqL K H a xs/\ ∀p,H p=none->Q (.ref p) (upd H p (.lst (cutV xs lo hi)))
theorem uu:SlR X (rSlL X.K):=by
 intro pins s σ H x v vl vu lo hi sl Q I rx hs pl pu h
 obtain ⟨a,xs,rfl,hx,q⟩:=h
 cases rx
 obtain ⟨its,r,ht,hz⟩:=I.list hx
 have hlen:=r.length
 refine ⟨"list",_,slot_list_getitem.lookup,ht.isList.typeIs,?_⟩
 refine wpAny_getItem_list_slice ht.isList hs pl pu .none (by simp) ?_ (by rw [List.size_toArray]<;>lia)
 rw [ut,<-hlen]
 refine ⟨.ref s.heap.objs.size,_,I.laid (t':=s.toks) (o:= .lst (cutV xs lo hi)) (fun b ob q=>Heap.get?_push_of_some _ q) (Nat.le_refl _) ?_,rfl,q _ (I.hok.fresh (Nat.le_refl _))⟩
 exact ⟨Nat.le_trans (uh xs lo hi) hz,_,0,(r.drop (HT.sIx xs.length 0 lo)).take (HT.sIx xs.length xs.length hi-HT.sIx xs.length 0 lo),Heap.get?_push_size _ rfl⟩
theorem cG:bp X (.builtin "len") (fun xs H Q=> ∃p ys,xs=[.ref p]/\(SqL X.K H p ys \/SqT X.K H p ys)/\Q (.int ys.length) H):=by
 intro pins s σ H xs us Q I r h
 obtain ⟨p,ys,rfl,hq,q⟩:=h
 obtain ⟨u,rfl,rx⟩:=du r
 cases rx
 have hn:=gw
 rcases hq with hq|hq
 ·obtain ⟨its,r',pl,hz⟩:=I.list hq
  have hlen:=r'.length
  exact Calls.call_len_list pl.isList (by simp only [List.size_toArray]<;>lia) ⟨.int ys.length,H,I.tok _,⟨s.toks+1,by rw [List.size_toArray,hlen]⟩,q⟩
 ·obtain ⟨its,r',pl,hz⟩:=I.tuple hq
  have hlen:=r'.length
  exact len_tuple pl (by simp only [List.size_toArray]<;>lia) ⟨.int ys.length,H,I.tok _,⟨s.toks+1,by rw [List.size_toArray,hlen]⟩,q⟩
theorem uv:bp X (.type "list") (fun xs H Q=> ∃p ys,xs=[.ref p]/\(SqL X.K H p ys \/SqT X.K H p ys)/\ ∀l,H l=none->Q (.ref l) (upd H l (.lst ys))):=by
 intro pins s σ H xs us Q I r h
 obtain ⟨p,ys,rfl,hq,q⟩:=h
 obtain ⟨u,rfl,rx⟩:=du r
 cases rx
 have fin: ∀(its:List Value),Vals ys its->ys.length<=sizeLine-> ∀(h':Heap) (c':Nat),(∀b o',s.heap.get? b=some o'->h'.get? b=some o')->
   h'.get? s.heap.objs.size=some {cls:= .type "list",dict:=none,data:= .seq its.toArray c',slots:= #[]}->EP X pins σ Q (.ref s.heap.objs.size) {s with heap:=h'}:=fun its r' hz h' c' kp e=>
  ⟨.ref s.heap.objs.size,_,I.laid (t':=s.toks) kp (Nat.le_refl _) (show ax X.prog X.w _ h' _ (.lst ys) from ⟨hz,its,c',r',e⟩),rfl,q _ (I.hok.fresh (Nat.le_refl _))⟩
 rcases hq with hq|hq
 ·obtain ⟨its,r',pl,hz⟩:=I.list hq
  have hlen:=r'.length
  obtain ⟨o,ho,hc,n,hd⟩:=pl.isList
  exact call_list_seq p (.inl rfl) ho hc hd (fun h' c' kp e=>fin its r' hz h' c' kp e) (by simp only [List.size_toArray]<;>lia)
 ·obtain ⟨its,r',pl,hz⟩:=I.tuple hq
  have hlen:=r'.length
  obtain ⟨o,ho,hc,n,hd⟩:=pl
  exact call_list_seq p (.inr rfl) ho hc hd (fun h' c' kp e=>fin its r' hz h' c' kp e) (by simp only [List.size_toArray]<;>lia)
theorem nA:bp X (.type "tuple") (fun xs H Q=> ∃p ys,xs=[.ref p]/\((SqL X.K H p ys/\ ∀l,H l=none->Q (.ref l) (upd H l (.tup ys))) \/(SqT X.K H p ys/\Q (.ref p) H))):=by
 intro pins s σ H xs us Q I r h
 obtain ⟨p,ys,rfl,h⟩:=h
 obtain ⟨u,rfl,rx⟩:=du r
 cases rx
 rcases h with ⟨hq,q⟩|⟨hq,q⟩
 ·obtain ⟨its,r',pl,hz⟩:=I.list hq
  have hlen:=r'.length
  refine call_tuple_list pl.isList (fun h' kp=> ?_) (by simp only [List.size_toArray]<;>lia)
  have I1:Inv X pins σ H {s with heap:=h'}:=I.kept (t':=s.toks) kp
  have I2:Inv X pins σ (upd H h'.objs.size (.tup ys)) {s with heap:=h'.push {cls:= .type "tuple",data:= .seq its.toArray}}:=
   I1.laid (t':=s.toks) (fun b o e=>Heap.get?_push_of_some _ e) (Nat.le_refl _) (show ax X.prog X.w _ _ _ (.tup ys) from ⟨hz,its,r',fb.new _ _⟩)
  exact ⟨.ref h'.objs.size,_,I2,rfl,q _ (I1.hok.fresh (Nat.le_refl _))⟩
 ·obtain ⟨its,r',pl,hz⟩:=I.tuple hq
  exact call_tuple_same pl ⟨.ref p,H,I,rfl,q⟩
noncomputable def tyV (K:PySem.W.Frag) (T:String) (x:V) (H:Hp):Prop:=match x with
 | .str _=>T="str"
 | .int _=>T="int"
 | .ref p=>(T="list"/\ ∃xs,SqL K H p xs) \/(T="tuple"/\ ∃o,K.lookup p=some o/\o.cls= .type "tuple"/\o.dict=none) \/
   (T="dict"/\((∃kvs,H p=some (.dK kvs)) \/ ∃kvs,H p=some (.dT kvs))) \/(T="set"/\ ∃S n,H p=some (.set S n))
 |_=>False
theorem uw {pins:List (Addr×Obj)}{σ:St}{H:Hp}{s:Shared}{T:String}{x:V}{v:Value} (I:Inv X pins σ H s) (r:RelV x v) (ty:tyV X.K T x H):
  s.TypeIs v T/\ ∀a,v= .ref a-> ∃ob,s.heap.get? a=some ob/\ob.dict=none:=by
 cases x with
 |str z=>
  obtain ⟨t,rfl⟩:=r
  cases (show T="str" from ty)
  exact ⟨typeIs_str s z t,fun _ e=>nomatch e⟩
 |int i=>
  obtain ⟨t,rfl⟩:=r
  cases (show T="int" from ty)
  exact ⟨typeIs_int s i t,fun _ e=>nomatch e⟩
 |ref p=>
  cases r
  rcases ty with ⟨rfl,xs,hq⟩|⟨rfl,o,hk,hc,hd⟩|⟨rfl,hk⟩|⟨rfl,S,n,hk⟩
  ·obtain ⟨its,_,pl,_⟩:=I.list hq
   refine ⟨pl.isList.typeIs,fun a e=> ?_⟩
   cases e
   obtain ⟨o,n,e,c,hd,_⟩:=pl
   exact ⟨o,e,hd⟩
  ·refine ⟨⟨o,I.kIn p o hk,hc⟩,fun a e=> ?_⟩
   cases e
   exact ⟨o,I.kIn _ o hk,hd⟩
  ·have z: ∃o,s.heap.get? p=some o/\o.ExactDict:=by
    rcases hk with ⟨kvs,hk⟩|⟨kvs,hk⟩
    ·obtain ⟨_,_,_,_,o,_,_,e,ex,_⟩:=I.hok p _ hk
     exact ⟨o,e,ex⟩
    ·obtain ⟨_,_,_,_,o,_,_,e,ex,_⟩:=I.hok p _ hk
     exact ⟨o,e,ex⟩
   obtain ⟨o,e,ex⟩:=z
   refine ⟨⟨o,e,ex.1⟩,fun a e2=> ?_⟩
   cases e2
   exact ⟨o,e,ex.2.1⟩
  ·obtain ⟨o,_,_,_,e,ex,_⟩:=I.hok p _ hk
   refine ⟨⟨o,e,ex.1⟩,fun a e2=> ?_⟩
   cases e2
   exact ⟨o,e,ex.2.1⟩
 |_=>exact False.elim ty
noncomputable def tBM (K:PySem.W.Frag) (T:String) (r:V->List V->Hp->VK->Prop) (to:TE) (t:TA):TE:=fun σ H Q=>to σ H fun x H1=>tyV K T x H1/\t σ H1 fun xs H2=>r x xs H2 Q
variable {o e:Expr}{es:List Expr}{to:TE}{t:TA}{name:Str}{apos cpos:Pos}{T id:String}{r:V->List V->Hp->VK->Prop}
theorem nB (pa:PlainAttrs T) (slot:Slot T name id) (hty:typeOf (.builtin id)=pure (.type "method_descriptor")) (hm:MtR X id r) (ho:PE X o to) (ha:PA X (e::es) t)
  (hbase:attributeBase o name X.env (eval o X.env)=eval o X.env:=by rfl)
  (hfew:((backTo cpos (starEach (e::es) X.env)).all (fun x=> !x.1)&&(backToKw cpos (keywordEach [] X.env)).all (fun x=>x.1.isSome)
   &&decide ((e::es).length+([]:List Keyword).length+(if ([]:List Keyword).isEmpty then 0 else 1)<30))=true:=by rfl)
  (hline:(apos.endLine==cpos.line)=true:=by rfl) (hs:starEach (e::es) X.env=(false,eval e X.env)::starEach es X.env:=by rfl) (hplain:(backTo cpos (starEach es X.env)).any (·.1)=false:=by rfl):
  PE X (.Call (.Attribute o name apos) (e::es) [] cpos) (tBM X.K T r to t):=by
 intro pins s σ H Q I h
 refine wpAny_Call_method_late hbase hfew hline rfl (thn (ho pins s σ H _ I h) fun v s1 ⟨x,H1,I1,r1,ty,q1⟩=> ?_)
 obtain ⟨h1,h2⟩:=uw I1 r1 ty
 refine ⟨T,id,pa,slot,hty,h1,h2,?_⟩
 have hA:=ha cpos pins s1 σ H1 _ I1 q1
 rw [hs] at hA|-
 refine Calls.callWith_builtin (by show (false||(backTo cpos (starEach es X.env)).any (·.1))=false;rw [hplain]<;>rfl) (Calls.evalArgs_plain ?_)
 exact thn hA fun us s2 ⟨vs,H2,I2,r2,q2⟩=>hm pins s2 σ H2 x vs v us Q I2 r1 r2 q2
end
end L2
namespace L2
open PySem PySem.Spec PyProof.Rows
noncomputable def MtM (X:Cx) (id:String) (r:V->List V->Hp->VK->Prop):Prop:=
 ∀(pins:List (Addr×Obj)) (s:Shared) (σ:St) (H:Hp) (x:V) (xs:List V) (v:Value) (us:List Value) (Q:VK),Inv X pins σ H s->RelV x v->Vals xs us->r x xs H Q->
  wpAny (model X.prog X.w) X.A (call (.builtin id) (v::us)) (EP X pins σ Q) X.xe s
theorem Vals.one: ∀{x:V}{us:List Value},Vals [x] us-> ∃u,us=[u]/\RelV x u
 |_,_,.cons r .nil=>⟨_,rfl,r⟩
theorem Vals.two: ∀{x y:V}{us:List Value},Vals [x,y] us-> ∃u v,us=[u,v]/\RelV x u/\RelV y v
 |_,_,_,.cons r (.cons q .nil)=>⟨_,_,rfl,r,q⟩
theorem Vals.zero: ∀{us:List Value},Vals [] us->us=[]
 |_,.nil=>rfl
theorem Vals.dropLast {xs:List V}{us:List Value} (h:Vals xs us):Vals xs.dropLast us.dropLast:=by
 induction h with
 |nil=>exact .nil
 |cons r t ih=>
  cases t with
  |nil=>exact .nil
  |cons q t'=>exact .cons r ih
theorem Vals.eraseIdx: ∀{xs:List V}{us:List Value} (i:Nat),Vals xs us->Vals (xs.eraseIdx i) (us.eraseIdx i)
 |_,_,_,.nil=> .nil
 |_,_,0,.cons _ t=>t
 |_,_,i+1,.cons r t=> .cons r (Vals.eraseIdx i t)
theorem Vals.reverse {xs:List V}{us:List Value} (h:Vals xs us):Vals xs.reverse us.reverse:=by
 induction h with
 |nil=>exact .nil
 |cons r t ih=>rw [List.reverse_cons,List.reverse_cons];exact Vals.append ih (.cons r .nil)
theorem Vals.rep {xs:List V}{us:List Value} (h:Vals xs us): ∀k:Nat,Vals (List.replicate k xs).flatten (List.replicate k us).flatten
 |0=> .nil
 |k+1=>by
  rw [List.replicate_succ,List.replicate_succ,List.flatten_cons,List.flatten_cons]
  exact Vals.append h (Vals.rep h k)
section
variable {X:Cx}{pins:List (Addr×Obj)}{σ:St}{H:Hp}{s:Shared}{l b:Addr}{xs ys zs:List V}
theorem Inv.lset {its its':List Value}{n:Nat}{f:Array Value->Array Value}{t':Nat} (I:Inv X pins σ H s) (hH:H l=some (.lst xs))
  (e:s.heap.get? l=some {cls:= .type "list",data:= .seq its.toArray n}) (hf:f its.toArray=its'.toArray) (hv:Vals ys its') (hz:ys.length<=sizeLine):
  Inv X pins σ (upd H l (.lst ys)) {s with heap:=s.heap.update l (Obj.mapSeq f),toks:=t'}:=by
 have q:=PySem.IsL.update e f
 rw [hf] at q
 refine I.write (x:=l) (e:=l) (by rw [hH];exact trivial) (.inl rfl) (fun b' u hb hu=>(Heap.get?_update_other s.heap (Obj.mapSeq f) (Ne.symm hb)).trans hu) ⟨_,q⟩ ?_
 exact ⟨hz,its',_,hv,q⟩
theorem Inv.lnew {its:List Value}{t':Nat} (I:Inv X pins σ H s) (hv:Vals ys its) (hz:ys.length<=sizeLine):
  Inv X pins σ (upd H s.heap.objs.size (.lst ys)) {s with heap:=s.heap.push {cls:= .type "list",data:= .seq its.toArray},toks:=t'}:=
 I.laid (fun _ _ q=>Heap.get?_push_of_some _ q) (Nat.le_refl _) ⟨hz,its,0,hv,Heap.get?_push_size _ rfl⟩
theorem Inv.fresh (I:Inv X pins σ H s):H s.heap.objs.size=none:=I.hok.fresh (Nat.le_refl _)
theorem Inv.lstM (I:Inv X pins σ H s) (hH:H l=some (.lst xs)):xs.length<=sizeLine/\ ∃(its:List Value) (n:Nat),Vals xs its/\xs.length=its.length/\s.heap.get? l=some {cls:= .type "list",data:= .seq its.toArray n}:=by
 obtain ⟨z,its,n,r,e⟩:=I.hok l _ hH
 exact ⟨z,its,n,r,r.length,e⟩
theorem nC {n:Nat} (h:n<=sizeLine):Builtin.List.listTooLong n=false:=by
 unfold Builtin.List.listTooLong
 exact decide_eq_false (by lia)
end
section
variable {X:Cx}
noncomputable def ux:V->List V->Hp->VK->Prop:=fun x vs H Q=> ∃l xs y,x= .ref l/\vs=[y]/\H l=some (.lst xs)/\xs.length<sizeLine/\Q .non (upd H l (.lst (xs++[y])))
theorem uy:MtM X "list.append" ux:=by
 intro pins s σ H x vs v us Q I rx rv h
 obtain ⟨l,xs,y,rfl,rfl,hH,hz,q⟩:=h
 cases rx
 obtain ⟨u,rfl,ru⟩:=rv.one
 obtain ⟨z,its,n,r,hl,e⟩:=I.lstM hH
 refine call_meets F.slot_list_append ⟨_,e,rfl⟩ F.entry_list_append (F.args_list_append_2 _ _) (PySem.list_append l its.toArray n u (by rw [List.size_toArray];lia)) ⟨e,?_⟩
 refine ⟨.non,_,I.lset (its':=its++[u]) hH e (by simp) (r.append (.cons ru .nil)) ?_,rfl,q⟩
 rw [List.length_append,List.length_singleton]
 lia
end
section
variable {prog:Program}{w:World}{A:Around}{E:Value->Shared->Prop}{s:Shared}
theorem uz {a c n:Nat} (hac:a<=c) (hc:c<=n):sliceBounds (some (a:Int)) (some (c:Int)) none n=((a:Int),(c:Int),1):=by
 simp only [sliceBounds,Option.getD_none]
 have h1: ¬((a:Int)<0):=by lia
 have h2: ¬((c:Int)<0):=by lia
 simp only [h1,h2,if_false,show (1:Int)>0 by decide,if_true]
 congr 1
 ·lia
 ·congr 1;lia
set_option maxRecDepth 100000 in
theorem Cz {l b sl:Addr}{items new:Array Value}{n n2:Nat}{vl vu:Value}{a c:Nat}{Q:Unit->Shared->Prop}
  (e:s.heap.get? l=some {cls:= .type "list",data:= .seq items n}) (e2:s.heap.get? b=some {cls:= .type "list",data:= .seq new n2}) (hne:l≠b)
  (hs:s.heap.IsSliceOf sl vl vu .none) (pl:IsPart vl (some (a:Int))) (pu:IsPart vu (some (c:Int))) (hac:a<=c) (hc:c<=items.size)
  (hsz:items.size+new.size<=sizeLine) (h:Q () {s with heap:=s.heap.update l (Obj.mapSeq fun xs=>xs.extract 0 a++new++xs.extract c xs.size)}):
  wpAny (model prog w) A (setItem (.ref l) (.ref sl) (.ref b)) Q E s:=by
 have hl:s.heap.IsList l items:=PySem.IsL.isList e
 have hb:s.heap.IsList b new:=PySem.IsL.isList e2
 obtain ⟨os,hos,hcs,hds⟩:=id hs
 have hTs:s.TypeIs (.ref sl) "slice":=⟨os,hos,hcs⟩
 have hstep: ¬((rawPart none==rawInt 0)=true):=Bool.false_ne_true
 have hsame:Builtin.List.listSameRef (.ref l) (.ref b)=false:=by
  unfold Builtin.List.listSameRef
  exact beq_eq_false_iff_ne.mpr hne
 have hmax:(max (a:Int) (c:Int)).toNat=c:=by lia
 have hz':((fun xs:Array Value=>xs.extract 0 a++new++xs.extract c xs.size) items).size<=sizeLine+1:=by
  simp only [Array.size_append,Array.size_extract]
  lia
 unfold setItem
 try with_reducible refine wpAny_holding ?_
 first|refine wpAny_bind (wpAny_pure ?_)|skip
 refine wpAny_bind (wpAny_sequenceKey hl.typeIs (by decide) ?_)
 refine wpAny_bind (wpAny_callSpecial?_slot (name:=Str.ofString "__setitem__") hl.typeIs slot_list_setitem
  (wpAny_call_entry slot_list_setitem hl.typeIs entry_list_setitem ?_ (args_list_setitem _ _ _)))
 show wpAny _ _ (Builtin.List.listSubscript? (.ref sl)>>=_) _ _ s
 refine wpAny_bind ?_
 unfold Builtin.List.listSubscript?
 refine wpAny_bind (wpAny_specialOf hTs slice_no_index ?_)
 simp only [Option.isNone_none,if_true]
 refine wpAny_pure ?_
 show wpAny _ _ (typeOf (.ref sl)>>=_) _ _ s
 refine wpAny_bind (wpAny_typeOf hTs ?_)
 first
  |rw [if_neg (by decide)]
  |refine PySem.W.KFB.if_not (by decide) ?_
 rw [listSliceParts_eq]
 refine wpAny_bind (wpAny_bind (wpAny_field hos hds (x:= .none) rfl (wpAny_bind (wpAny_listPart .none ?_))))
 rw [if_neg hstep]
 refine wpAny_bind (wpAny_field hos hds (x:=vl) rfl (wpAny_bind (wpAny_listPart pl ?_)))
 refine wpAny_bind (wpAny_field hos hds (x:=vu) rfl (wpAny_bind (wpAny_listPart pu (wpAny_pure ?_))))
 first
  |simp only [hsame,Bool.false_eq_true,if_false]
  |refine PySem.W.KFB.if_not hsame ?_
  |(dsimp only;rw [if_neg (by rw [hsame];exact Bool.false_ne_true)])
 refine wpAny_bind (m:=Builtin.List.listAllItems (.ref b) "must assign iterable to extended slice") ?_
 unfold Builtin.List.listAllItems
 refine wpAny_bind (wpAny_typeOf hb.typeIs ?_)
 first
  |refine PySem.W.KFB.if_so (by decide) ?_
  |rw [if_pos (by decide)]
  |simp only [beq_self_eq_true,Bool.true_or,if_true]
 unfold Builtin.List.listItems
 refine wpAny_bind (wpAny_seqItems e2 rfl (wpAny_pure ?_))
 refine wpAny_bind (wpAny_bind (wpAny_seqItems e rfl (wpAny_pure ?_)))
 refine wpAny_bind (wpAny_of_eq ((sliceIndices_raw (some (a:Int)) (some (c:Int)) none items.size (by simp)).trans (congrArg (pure:Int×Int×Int->Sem (Int×Int×Int)) (uz hac hc))) ?_)
 show wpAny _ _ (if ((1:Int)==1)=true then _ else _) _ _ s
 rw [if_pos (by decide)]
 refine wpAny_bind (wpAny_rule ?_)
 first
  |simp only [nC hsz,Bool.false_eq_true,if_false]
  |refine PySem.W.KFB.if_not (nC hsz) ?_
 first|refine wpAny_bind (wpAny_pure ?_)|skip
 show wpAny _ _ (updateSeq l (fun xs=>xs.extract 0 ((a:Int)).toNat++new++xs.extract (max (a:Int) (c:Int)).toNat xs.size)>>=_) _ _ s
 rw [hmax,Int.toNat_natCast]
 refine wpAny_bind (wpAny_updateSeq (hz:=Nat.le_trans (Nat.le_add_right _ _) hsz) (_hz':=hz') e rfl ?_)
 refine wpAny_bind (wpAny_letGo ?_)
 first
  |exact wpAny_bind (wpAny_pure (wpAny_pure ⟨.none,rfl,wpAny_pure h⟩))
  |exact wpAny_pure ⟨.none,rfl,wpAny_pure h⟩
end
section
variable {X:Cx}
end
end L2
namespace L2
open PySem PySem.Spec PyProof.Rows
section
variable {κ:Type} [DecidableEq κ]
noncomputable def valV (kvs:List (κ×V)) (k:κ):Option V:=(kvs.find? fun kv=>decide (kv.1=k)).map (·.2)
noncomputable def putK (kvs:List (κ×V)) (k:κ) (v:V):List (κ×V):=
 if (kvs.any fun kv=>decide (kv.1=k))=true then kvs.map (fun kv=>if kv.1=k then (kv.1,v) else kv) else kvs++[(k,v)]
theorem iJ {p:κ×V}{r:List (κ×V)}{k:κ} (e:p.1=k):valV (p::r) k=some p.2:=by simp [valV,List.find?_cons,e]
theorem gB {p:κ×V}{r:List (κ×V)}{k:κ} (e: ¬p.1=k):valV (p::r) k=valV r k:=by simp [valV,List.find?_cons,e]
theorem nD (k:κ): ∀kvs:List (κ×V),(kvs.any fun kv=>decide (kv.1=k))=(valV kvs k).isSome
 |[]=>rfl
 |p::r=>by
  rw [List.any_cons]
  by_cases e:p.1=k
  ·simp only [iJ e,decide_eq_true e,Bool.true_or,Option.isSome_some]
  ·rw [gB e,decide_eq_false e,Bool.false_or];exact nD k r
theorem kg (kvs:List (κ×V)) (k:κ) (v:V):(putK kvs k v).length<=kvs.length+1:=by
 unfold putK
 split
 ·rw [List.length_map];lia
 ·rw [List.length_append,List.length_cons,List.length_nil];lia
theorem RelO.isSome_eq {o:Option V}{u:Option Value} (r:RelO o u):o.isSome=u.isSome:=by
 cases o with
 |none=>cases u with
  |none=>rfl
  |some _=>exact (show False from r).elim
 |some _=>cases u with
  |none=>exact (show False from r).elim
  |some _=>rfl
theorem RelO.getD {o:Option V}{u:Option Value}{d:V}{d':Value} (r:RelO o u) (rd:RelV d d'):RelV (o.getD d) (u.getD d'):=by
 cases o with
 |none=>cases u with
  |none=>exact rd
  |some _=>exact (show False from r).elim
 |some _=>cases u with
  |none=>exact (show False from r).elim
  |some _=>exact r
theorem KV.val {kvs:List (κ×V)}{vs:List (κ×Value)} (r:KV kvs vs) (k:κ):RelO (valV kvs k) (valueAt vs k):=by
 unfold KV at r
 induction r with
 |nil=>exact True.intro
 | @cons p q ps qs h t ih=>
  obtain ⟨h1,h2⟩:=h
  by_cases e:p.1=k
  ·have e':q.1=k:=h1.symm.trans e
   have b:valueAt (q::qs) k=some q.2:=by simp [valueAt,List.find?_cons,e']
   rw [iJ e,b];exact h2
  ·have e': ¬q.1=k:=fun z=>e (h1.trans z)
   have b:valueAt (q::qs) k=valueAt qs k:=by simp [valueAt,List.find?_cons,e']
   rw [gB e,b];exact ih
theorem KV.any {kvs:List (κ×V)}{vs:List (κ×Value)} (r:KV kvs vs) (k:κ):(kvs.any fun kv=>decide (kv.1=k))=vs.any fun kv=>decide (kv.1=k):=by
 unfold KV at r
 induction r with
 |nil=>rfl
 |cons h t ih=>rw [List.any_cons,List.any_cons,ih,h.1]
theorem KV.repl {kvs:List (κ×V)}{vs:List (κ×Value)} (r:KV kvs vs) (k:κ) {y:V}{u:Value} (ry:RelV y u):
  KV (kvs.map fun kv=>if kv.1=k then (kv.1,y) else kv) (vs.map fun kv=>if kv.1=k then (kv.1,u) else kv):=by
 unfold KV at r|-
 induction r with
 |nil=>exact .nil
 | @cons p q ps qs h t ih=>
  rw [List.map_cons,List.map_cons]
  refine .cons ?_ ih
  obtain ⟨h1,h2⟩:=h
  by_cases e:p.1=k
  ·rw [if_pos e,if_pos (h1.symm.trans e)];exact ⟨h1,ry⟩
  ·rw [if_neg e,if_neg (fun z=>e (h1.trans z))];exact ⟨h1,h2⟩
theorem KV.put {kvs:List (κ×V)}{vs:List (κ×Value)} (r:KV kvs vs) (k:κ) {y:V}{u:Value} (ry:RelV y u):KV (putK kvs k y) (stored vs k u):=by
 unfold putK stored
 rw [r.any k]
 by_cases e:(vs.any fun kv=>decide (kv.1=k))=true
 ·rw [if_pos e,if_pos e];exact r.repl k ry
 ·rw [if_neg e,if_neg e];exact Paired.snoc r ⟨rfl,ry⟩
theorem KV.length {kvs:List (κ×V)}{vs:List (κ×Value)} (r:KV kvs vs):kvs.length=vs.length:=Paired.length r
end
theorem gD {P:Program}{w:World}{k:Key}{u:Value} (r:RelV (kV k) u):(aI P w).is k u=true:=by
 cases k with
 |inl i=>obtain ⟨t,e⟩:=(show∃t,u=Value.int i t from r);subst e;exact sH P w i t
 |inr x=>obtain ⟨t,e⟩:=(show∃t,u=Value.str x t from r);subst e;exact sI P w x t
theorem nE {P:Program}{w:World}: ∀{ks:List Key}{us:List Value},Vals (ks.map kV) us->ItemsAre (aI P w) ks us
 |[],_,r=>by rw [List.map_nil] at r;cases r;exact .nil
 |k::ks,_,r=>by
  rw [List.map_cons] at r
  cases r with
  |cons h t=>exact .cons (gD h) (nE t)
noncomputable abbrev KT (H:Hp):List (List Key×V)->List (List Key×Addr×Value)->Prop:=Paired fun p q=>p.1=q.1/\H q.2.1=some (.tup (p.1.map kV))/\RelV p.2 q.2.2
theorem KT.val {H:Hp}{kvs:List (List Key×V)}{xs:List (List Key×Addr×Value)} (r:KT H kvs xs) (k:List Key):RelO (valV kvs k) ((atKey xs k).map (·.2)):=by
 induction r with
 |nil=>exact True.intro
 | @cons p q ps qs h t ih=>
  obtain ⟨h1,_,h2⟩:=h
  by_cases e:p.1=k
  ·have e':q.1=k:=h1.symm.trans e
   have b:atKey (q::qs) k=some q.2:=by simp [atKey,List.find?_cons,e']
   rw [iJ e,b];exact h2
  ·have e': ¬q.1=k:=fun z=>e (h1.trans z)
   have b:atKey (q::qs) k=atKey qs k:=by simp [atKey,List.find?_cons,e']
   rw [gB e,b];exact ih
theorem KT.repl {H:Hp}{kvs:List (List Key×V)}{xs:List (List Key×Addr×Value)} (r:KT H kvs xs) (k:List Key) {y:V}{u:Value} (ry:RelV y u):
  KT H (kvs.map fun kv=>if kv.1=k then (kv.1,y) else kv) (xs.map (putAt k u)):=by
 induction r with
 |nil=>exact .nil
 | @cons p q ps qs h t ih=>
  rw [List.map_cons,List.map_cons]
  refine .cons ?_ ih
  obtain ⟨h1,h2,h3⟩:=h
  unfold putAt
  by_cases e:p.1=k
  ·rw [if_pos e,if_pos (h1.symm.trans e)];exact ⟨h1,h2,ry⟩
  ·rw [if_neg e,if_neg (fun z=>e (h1.trans z))];exact ⟨h1,h2,h3⟩
theorem KT.put {H:Hp}{kvs:List (List Key×V)}{xs:List (List Key×Addr×Value)} (r:KT H kvs xs) (k:List Key) {b:Addr}{y:V}{u:Value} (hb:H b=some (.tup (k.map kV))) (ry:RelV y u):
  KT H (putK kvs k y) (storedH xs k b u):=by
 have e:(kvs.any fun kv=>decide (kv.1=k))=(atKey xs k).isSome:=by
  rw [nD,(r.val k).isSome_eq,Option.isSome_map]
 unfold putK storedH
 rw [e]
 by_cases q:(atKey xs k).isSome=true
 ·rw [if_pos q,if_pos q];exact r.repl k ry
 ·rw [if_neg q,if_neg q];exact Paired.snoc r ⟨rfl,hb,ry⟩
theorem KT.keeps {H H':Hp}{kvs:List (List Key×V)}{xs:List (List Key×Addr×Value)} (r:KT H kvs xs) (ht: ∀b ys,H b=some (.tup ys)->H' b=some (.tup ys)):KT H' kvs xs:=
 Paired.mapP r fun _ _ z=>⟨z.1,ht _ _ z.2.1,z.2.2⟩
section
variable {P:Program}{w:World}{H:Hp}{h:Heap}{a:Addr}
theorem kh {u:HO} (ok:HOk P w H h) (e:Rd H a u):ax P w H h a u:=e.ok ok
theorem gE {kvs:List (Key×V)} (ok:HOk P w H h) (e:Rd H a (.dK kvs)):kvs.length<=sizeLine/\(a==sysModules)=false/\ ∃vs,KV kvs vs/\h.DictOf (aI P w) a vs:=
 show ax P w H h a (.dK kvs) from kh ok e
theorem nF {kvs:List (Key×V)} (ok:HOk P w H h) (e:H a=some (.dK kvs)):kvs.length<=sizeLine/\(a==sysModules)=false/\ ∃vs,KV kvs vs/\h.DictOf (aI P w) a vs:=gE ok (.inl e)
theorem iK {ks:List Key} (ok:HOk P w H h) (e:H a=some (.tup (ks.map kV))):(tupleKind (aI P w)).is h ks a:=by
 obtain ⟨_,its,r,o,h1,h2,⟨n,h3⟩,_⟩:=(show ax P w H h a (.tup (ks.map kV)) from ok a _ e)
 exact ⟨o,its.toArray,n,h1,h2,h3,by simpa using nE r⟩
theorem gF {kvs:List (List Key×V)} (ok:HOk P w H h) (e:Rd H a (.dT kvs)):kvs.length<=sizeLine/\(a==sysModules)=false/\
  ∃xs,KT H kvs xs/\h.DictOfH (tupleKind (aI P w)) a xs:=by
 obtain ⟨z,y,xs,r,o,es,ep,h1,h2,h3,h4,h5⟩:=(show ax P w H h a (.dT kvs) from kh ok e)
 refine ⟨z,y,xs,r,o,es,ep,h1,h2,h3,h4,fun x hx=> ?_,h5⟩
 have all: ∀{l:List (List Key×V)}{m:List (List Key×Addr×Value)},KT H l m-> ∀x∈m,(tupleKind (aI P w)).is h x.1 x.2.1:=by
  intro l m q
  induction q with
  |nil=>intro x hx;exact nomatch hx
  | @cons p q ps qs hq t ih=>
   intro x hx
   rcases List.mem_cons.mp hx with e|hx
   ·subst e
    exact iK ok (by rw [<-hq.1];exact hq.2.1)
   ·exact ih x hx
 exact all r x hx
theorem uA {kvs:List (List Key×V)} (ok:HOk P w H h) (e:H a=some (.dT kvs)):kvs.length<=sizeLine/\(a==sysModules)=false/\
  ∃xs,KT H kvs xs/\h.DictOfH (tupleKind (aI P w)) a xs:=gF ok (.inl e)
end
noncomputable def DGet (H:Hp) (a:Addr) (y:V) (r:Option V):Prop:=
 (∃kvs k,Rd H a (.dK kvs)/\y=kV k/\r=valV kvs k) \/ ∃kvs k b,Rd H a (.dT kvs)/\y= .ref b/\H b=some (.tup (k.map kV))/\r=valV kvs k
noncomputable def DPut (H:Hp) (a:Addr) (y v:V) (H':Hp):Prop:=
 (∃kvs k,H a=some (.dK kvs)/\y=kV k/\kvs.length<sizeLine/\H'=upd H a (.dK (putK kvs k v))) \/
 ∃kvs k b,H a=some (.dT kvs)/\y= .ref b/\H b=some (.tup (k.map kV))/\kvs.length<sizeLine/\H'=upd H a (.dT (putK kvs k v))
theorem DPut.t {H:Hp}{a b:Addr}{kvs:List (List Key×V)}{k:List Key}{v:V} (e:H a=some (.dT kvs)) (eb:H b=some (.tup (k.map kV))) (hl:kvs.length<sizeLine):
  DPut H a (.ref b) v (upd H a (.dT (putK kvs k v))):= .inr ⟨kvs,k,b,e,rfl,eb,hl,rfl⟩
section
variable {X:Cx}{pins:List (Addr×Obj)}{σ:St}{H:Hp}{s:Shared}{a:Addr}{y v:V}{u r:Value}{o:Option V}{A:Around}{E:Value->Shared->Prop}
theorem Inv.big (I:Inv X pins σ H s):sysModules<s.heap.objs.size:=by
 have h:mainGlobals<s.heap.objs.size:=(I.mod.glob.keeps I.bk).lt
 exact Nat.lt_trans (by decide) h
theorem uB {Q:Value->Shared->Prop} (hu:A.units+1<cLine) (I:Inv X pins σ H s) (g:DGet H a y (some v)) (ry:RelV y u) (h: ∀w' s',Inv X pins σ H s'->RelV v w'->Q w' s'):
  wpAny (model X.prog X.w) A (getItem (.ref a) u) Q E s:=by
 rcases g with ⟨kvs,k,e,ey,l⟩|⟨kvs,k,b,e,ey,eb,l⟩
 ·subst ey
  obtain ⟨z,hd,vs,rel,dd⟩:=gE I.hok e
  obtain ⟨w',hw,rw'⟩:=RelO.some_of (v:=v) (o:=valueAt vs k) (by rw [l];exact rel.val k)
  exact wpAny_getItem_of (gD ry) dd.mapOf hw (h w' _ (I.tok _) rw')
 ·subst ey
  cases (show u=Value.ref b from ry)
  obtain ⟨z,hd,xs,rel,dd⟩:=gF I.hok e
  obtain ⟨w',hw,rw'⟩:=RelO.some_of (v:=v) (o:=(atKey xs k).map (·.2)) (by rw [l];exact rel.val k)
  obtain ⟨p,hp,hp2⟩:=Option.map_eq_some_iff.mp hw
  refine wpAny_getItem_heap (tupleKind_room_in1 hu) (iK I.hok eb) dd hp ?_
  rw [hp2]
  exact h w' _ (I.tok _) rw'
theorem ki {h':Heap}{t':Nat}{ob:HO} (I:Inv X pins σ H s) (mu:Mut (H a)) (hs:Heap.SameBut a s.heap h') (he: ∃q,h'.get? a=some q) (new:ax X.prog X.w (upd H a ob) h' a ob):
  Inv X pins σ (upd H a ob) {s with heap:=h',toks:=t'}:=
 I.write (x:=a) (e:=a) mu (.inl rfl) (fun b q hb z=>(hs.2 b hb).trans z) he new
theorem nG {P:Program}{w:World}{H':Hp}{h':Heap}{kvs:List (Key×V)}{vs:List (Key×Value)} (z:kvs.length<=sizeLine) (hd:(a==sysModules)=false) (rel:KV kvs vs) (dd:h'.DictOf (aI P w) a vs):
  ax P w H' h' a (.dK kvs):=⟨z,hd,vs,rel,dd⟩
theorem uC {H':Hp}{Q:Unit->Shared->Prop} (hu:A.units+1<cLine) (I:Inv X pins σ H s) (g:DPut H a y v H') (ry:RelV y u) (rv:RelV v r) (h: ∀s',Inv X pins σ H' s'->Q () s'):
  wpAny (model X.prog X.w) A (setItem (.ref a) u r) Q E s:=by
 rcases g with ⟨kvs,k,e,ey,l,eH⟩|⟨kvs,k,b,e,ey,eb,l,eH⟩
 ·subst ey eH
  obtain ⟨z,hd,vs,rel,dd⟩:=nF I.hok e
  have hz:vs.length<=sizeLine:=by rw [<-rel.length];exact z
  have hl:(putK kvs k v).length<=sizeLine:=by have:=kg kvs k v;lia
  refine wpAny_setItem_pairs (hsz:=hz) (gD ry) dd fun h' dd' hs=>h _ ?_
  have he: ∃q,h'.get? a=some q:=let ⟨q,_,_,hq,_⟩:=dd';⟨q,hq⟩
  exact ki I (by rw [e];exact True.intro) hs he (nG hl hd (rel.put k rv) dd')
 ·subst ey eH
  cases (show u=Value.ref b from ry)
  obtain ⟨z,hd,xs,rel,dd⟩:=uA I.hok e
  have hz:xs.length<=sizeLine:=by rw [<-Paired.length rel];exact z
  have hl:(putK kvs k v).length<=sizeLine:=by have:=kg kvs k v;lia
  refine wpAny_setItem_heap (hsz:=hz) (tupleKind_room_in1 hu) (iK I.hok eb) dd fun h' dd' hs=>h _ ?_
  obtain ⟨q,es,ep,hq,h2,h3,h4,_,h5⟩:=dd'
  refine ki I (by rw [e];exact True.intro) hs ⟨q,hq⟩ ⟨hl,hd,_,(rel.put k eb rv).keeps fun c ys ec=> ?_,q,es,ep,hq,h2,h3,h4,h5⟩
  rw [ao (sJ ec e (fun z=>nomatch z))]
  exact ec
end
section
variable {X:Cx}{pins:List (Addr×Obj)}{σ:St}{H:Hp}{s:Shared}{a:Addr}{kvs:List (Key×V)}{k:Key}{u:Value}{A:Around}{E:Value->Shared->Prop}
end
noncomputable def NoSl (i:Expr):Prop:= ∀ov iv,subscripted i false ov iv=operate [ov,iv] (getItem ov iv)
theorem uD {prog:Program}{w:World}{A:Around}{E:Value->Shared->Prop}{s:Shared}{env:Env}{value slice:Expr}{pos:Pos}{T id:String}{Q:Value->Shared->Prop}
  (hl:typeLookup (.type T) "__getitem__"=pure (some (.builtin id))) (hs:NoSl slice)
  (h:wpAny (model prog w) A (eval value env) (fun o s₁=>wpAny (model prog w) A (eval slice env) (fun i s₂=>s₂.TypeIs o T/\wpAny (model prog w) A (getItem o i) Q E s₂) E s₁) E s):
  wpAny (model prog w) A (eval (.Subscript value slice pos) env) Q E s:=by
 refine Subscript_ (wpAny_mono h (fun o s₁ h₁=>wpAny_mono h₁ (fun i s₂ h₂=> ?_) fun _ _ x=>x) fun _ _ x=>x)
 obtain ⟨hT,h₂⟩:=h₂
 unfold subscriptTail
 refine wpAny_bind ?_
 rw [getitemInPython_of_ne hT.not_modules]
 refine wpAny_bind (wpAny_specialOf hT hl ?_)
 have fin:wpAny (model prog w) A (subscripted slice false o i) (fun r s₃=>wpAny (model prog w) A (letTemporaryGo value o r>>=fun _=>pure r) Q E s₃) E s₂:=by
  rw [hs o i]
  exact wpAny_operating (wpAny_mono h₂ (fun r s₃ h₃=>wpAny_bind (wpAny_letTemporaryGo (wpAny_pure h₃))) fun _ _ x=>x)
 first
  |exact wpAny_pure (wpAny_bind fin)
  |exact wpAny_bind (wpAny_pure (wpAny_bind fin))
  |exact wpAny_bind fin
theorem uE {X:Cx}{pins:List (Addr×Obj)}{σ:St}{H:Hp}{s:Shared}{a:Addr}{y:V}{o:Option V} (I:Inv X pins σ H s) (g:DGet H a y o):s.TypeIs (.ref a) "dict":=by
 rcases g with ⟨kvs,k,e,_,_⟩|⟨kvs,k,b,e,_,_,_⟩
 ·obtain ⟨_,_,vs,_,dd⟩:=gE I.hok e
  exact dd.typeIs
 ·obtain ⟨_,_,xs,_,dd⟩:=gF I.hok e
  exact dd.typeIs
noncomputable def uF (td ty:TE):TE:=fun σ H Q=>td σ H fun x H1=>ty σ H1 fun y H2=> ∃a v,x= .ref a/\DGet H2 a y (some v)/\Q v H2
noncomputable def uG (td ty tv:TE):TS:=fun D σ H=>tv σ H fun v H1=>td σ H1 fun x H2=>ty σ H2 fun y H3=> ∃a H4,x= .ref a/\DPut H3 a y v H4/\D.nx σ H4
section
variable {X:Cx}{o i e value:Expr}{pos pos' tpos:Pos}{td ty tv:TE}
theorem uH (hu:X.A.units+1<cLine) (ho:PE X o td) (hi:PE X i ty) (hs:NoSl i):PE X (.Subscript o i pos) (uF td ty):=by
 intro pins s σ H Q I h
 refine uD PySem.F.slot_dict_getitem.lookup hs (thn (ho pins s σ H _ I h) fun u s1 ⟨x,H1,I1,rx,q1⟩=>thn (hi pins s1 σ H1 _ I1 q1) fun iv s2 ⟨y,H2,I2,ry,a,v,ex,g,q2⟩=> ?_)
 subst ex
 obtain rfl:u=Value.ref a:=rx
 exact ⟨uE I2 g,uB hu I2 g ry fun w' s3 I3 rw'=>⟨v,H2,I3,rw',q2⟩⟩
theorem uI (hu:X.A.units+1<cLine) (ho:PE X o td) (hi:PE X i ty) (hv:PE X value tv) (hs:swapsWith value (some (.Subscript o i pos')) pos.line X.env=pure false):
  PS X (.Assign [.Subscript o i pos'] value pos) (uG td ty tv):=by
 intro pins s σ H D I h
 refine wpAny_Assign_Subscript (thn (hv pins s σ H _ I h) fun r s1 ⟨v,H1,I1,rv,q1⟩=>thn (ho pins s1 σ H1 _ I1 q1) fun u s2 ⟨x,H2,I2,rx,q2⟩=>thn (hi pins s2 σ H2 _ I2 q2) fun iv s3 ⟨y,H3,I3,ry,a,H4,ex,g,q3⟩=> ?_) hs
 subst ex
 obtain rfl:u=Value.ref a:=rx
 exact uC hu I3 g ry rv fun s4 I4=>⟨σ,H4,I4,q3⟩
end
theorem uJ {P:Program}{w:World}{H:Hp} (h:Heap) (hb:sysModules<h.objs.size):ax P w H (h.push {cls:= .type "dict",data:= .dict #[]}) h.objs.size (.dK []):=
 ⟨Nat.zero_le _,beq_eq_false_iff_ne.mpr (Ne.symm (Nat.ne_of_lt hb)),[],.nil,Heap.DictOf.new h⟩
theorem uK {P:Program}{w:World}{H:Hp} (h:Heap) (hb:sysModules<h.objs.size):ax P w H (h.push {cls:= .type "dict",data:= .dict #[]}) h.objs.size (.dT []):=
 ⟨Nat.zero_le _,beq_eq_false_iff_ne.mpr (Ne.symm (Nat.ne_of_lt hb)),[],.nil,_,#[],0,Heap.get?_push_size _ rfl,⟨rfl,rfl,rfl⟩,rfl,rfl,List.nodup_nil⟩
noncomputable def uL:TE:=fun _ H Q=> ∀p,H p=none->Q (.ref p) (upd H p (.dT []))
section
variable {X:Cx}{pos:Pos}
theorem uM:PE X (.Dict [] [] pos) uL:=fun pins s σ H Q I h=>
 wpAny_Dict_empty ⟨.ref s.heap.objs.size,_,I.laid (a:=s.heap.objs.size) (o:= .dT []) (t':=s.toks) (fun _ _ q=>Heap.get?_push_of_some _ q) (Nat.le_refl _) (uK s.heap I.big),rfl,h _ (I.hok.fresh (Nat.le_refl _))⟩
end
noncomputable def kj:List (TE×TE)->St->Hp->(List (V×V)->Hp->Prop)->Prop
 |[],_,H,Q=>Q [] H
 |(tk,tv)::r,σ,H,Q=>tk σ H fun x H1=>tv σ H1 fun y H2=>kj r σ H2 fun ps H3=>Q ((x,y)::ps) H3
noncomputable abbrev VV:List (V×V)->List (Value×Value)->Prop:=Paired fun p q=>RelV p.1 q.1/\RelV p.2 q.2
noncomputable def PPs (X:Cx) (pos:Pos) (keys:List (Option Expr)) (values:List Expr) (trs:List (TE×TE)):Prop:=
 ∀(pins:List (Addr×Obj)) (s:Shared) (σ:St) (H:Hp) (Q:List (V×V)->Hp->Prop),Inv X pins σ H s->kj trs σ H Q->
  wpAny (model X.prog X.w) X.A (evalPairs (pairTrees keys values X.env pos)) (fun vs s'=> ∃ps H',Inv X pins σ H' s'/\VV ps vs/\Q ps H') X.xe s
theorem uN {X:Cx}{pos:Pos}:PPs X pos [] [] []:=fun pins s σ H Q I h=>pairTrees_nil_walk ⟨[],H,I,.nil,h⟩
theorem uO {X:Cx}{pos:Pos}{k v:Expr}{ks:List (Option Expr)}{vs:List Expr}{tk tv:TE}{trs:List (TE×TE)} (hk:PE X k tk) (hv:PE X v tv) (hr:PPs X pos ks vs trs):
  PPs X pos (some k::ks) (v::vs) ((tk,tv)::trs):=fun pins s σ H Q I h=>
 pairTrees_cons_walk (thn (hk pins s σ H _ I h) fun u s1 ⟨x,H1,I1,rx,q1⟩=>thn (hv pins s1 σ H1 _ I1 q1) fun w2 s2 ⟨y,H2,I2,ry,q2⟩=>
  thn (hr pins s2 σ H2 _ I2 q2) fun ws s3 ⟨ps,H3,I3,rel,q3⟩=>⟨(x,y)::ps,H3,I3,.cons ⟨rx,ry⟩ rel,q3⟩)
noncomputable def fk (kvs more:List (Key×V)):List (Key×V):=more.foldl (fun acc kv=>putK acc kv.1 kv.2) kvs
theorem KV.merge: ∀{more:List (Key×V)}{rs:List (Key×Value)}{kvs:List (Key×V)}{vs:List (Key×Value)},KV more rs->KV kvs vs->KV (fk kvs more) (merged vs rs):=by
 intro more rs kvs vs r
 unfold KV at r
 induction r generalizing kvs vs with
 |nil=>intro q;exact q
 | @cons p q ps qs h t ih=>
  intro r0
  have e:KV (putK kvs p.1 p.2) (stored vs q.1 q.2):=by
   have:=r0.put p.1 h.2
   rw [<-h.1];exact this
  exact ih e
theorem nH: ∀(more kvs:List (Key×V)),(fk kvs more).length<=kvs.length+more.length
 |[],kvs=>by show kvs.length<=kvs.length+0;lia
 |p::r,kvs=>by
  have h1:=nH r (putK kvs p.1 p.2)
  have h2:=kg kvs p.1 p.2
  show (fk (putK kvs p.1 p.2) r).length<=_
  rw [List.length_cons];lia
theorem nI {P:Program}{w:World}: ∀{kvs:List (Key×V)}{ws:List (Value×Value)},VV (kvs.map fun kv=>(kV kv.1,kv.2)) ws-> ∃rs,Carries (aI P w) ws rs/\KV kvs rs
 |[],_,r=>by rw [List.map_nil] at r;cases r;exact ⟨[],True.intro,.nil⟩
 |p::kvs,_,r=>by
  rw [List.map_cons] at r
  cases r with
  | @cons a b as bs h t=>
   obtain ⟨rs,c,q⟩:=nI (P:=P) (w:=w) t
   obtain ⟨b1,b2⟩:=b
   exact ⟨(p.1,b2)::rs,⟨gD h.1,rfl,c⟩,.cons ⟨rfl,h.2⟩ q⟩
noncomputable def uP (trs:List (TE×TE)):TE:=fun σ H Q=> ∀p,H p=none->kj trs σ (upd H p (.dK [])) fun ps H2=>H2 p=some (.dK [])/\ ∃kvs:List (Key×V),ps=kvs.map (fun kv=>(kV kv.1,kv.2))/\kvs.length<=15/\Q (.ref p) (upd H2 p (.dK (fk [] kvs)))
theorem uQ {X:Cx}{pos:Pos}{keys:List (Option Expr)}{values:List Expr}{trs:List (TE×TE)} (h:PPs X pos keys values trs) (hall:keys.all (·.isSome)=true) (hl:keys.length=values.length) (h0:keys≠[])
  (h15:keys.length<=15):PE X (.Dict keys values pos) (uP trs):=by
 intro pins s σ H Q I q
 have hn:=I.hok.fresh (Nat.le_refl s.heap.objs.size)
 have I1:=I.laid (a:=s.heap.objs.size) (o:= .dK []) (h':=s.heap.push {cls:= .type "dict",data:= .dict #[]}) (t':=s.toks) (fun _ _ q=>Heap.get?_push_of_some _ q) (Nat.le_refl _) (uJ s.heap I.big)
 refine wpAny_Dict_walk (knd:=aI X.prog X.w) hall hl h0 h15 (thn (h pins _ σ _ _ I1 (q _ hn)) fun ws s2 ⟨ps,H2,I2,rel,e,kvs,ep,lk,q2⟩=> ?_)
 subst ep
 obtain ⟨rs,c,rk⟩:=nI (P:=X.prog) (w:=X.w) rel
 obtain ⟨z,hd,vs0,r0,dd⟩:=nF I2.hok e
 cases r0
 refine ⟨rs,c,dd,fun h' dd' hs=>⟨.ref s.heap.objs.size,_,?_,rfl,q2⟩⟩
 have hz:(fk [] kvs).length<=sizeLine:=by
  have h1:=nH kvs []
  rw [List.length_nil] at h1
  rw [sizeLine_eq];lia
 have he: ∃q,h'.get? s.heap.objs.size=some q:=let ⟨q,_,_,hq,_⟩:=dd';⟨q,hq⟩
 exact ki I2 (by rw [e];exact True.intro) hs he (nG hz hd (rk.merge .nil) dd')
structure M2 (X:Cx) (o:Expr) (m:Str) (apos:Pos) (e f:Expr) (cpos:Pos):Prop where
 base:attributeBase o m X.env (eval o X.env)=eval o X.env
 few:((backTo cpos (starEach [e,f] X.env)).all (fun x=> !x.1)&&(backToKw cpos (keywordEach [] X.env)).all (fun x=>x.1.isSome)
  &&decide (([e,f]:List Expr).length+([]:List Keyword).length+(if ([]:List Keyword).isEmpty then 0 else 1)<30))=true
 line:(apos.endLine==cpos.line)=true
 trees:backTo cpos (starEach [e,f] X.env)=[(false,eval e X.env),(false,eval f X.env)]
noncomputable def IsD (H:Hp) (a:Addr):Prop:=(∃kvs,Rd H a (.dK kvs)) \/ ∃kvs,Rd H a (.dT kvs)
theorem uR {X:Cx}{pins:List (Addr×Obj)}{σ:St}{H:Hp}{s:Shared}{a:Addr} (I:Inv X pins σ H s) (d:IsD H a):
  s.TypeIs (.ref a) "dict"/\(∀b,Value.ref a= .ref b-> ∃ob,s.heap.get? b=some ob/\ob.dict=none)/\(a==sysModules)=false:=by
 rcases d with ⟨kvs,e⟩|⟨kvs,e⟩
 ·obtain ⟨_,hd,vs,_,dd⟩:=gE I.hok e
  refine ⟨dd.typeIs,fun b q=> ?_,hd⟩
  cases q
  obtain ⟨ob,_,_,h1,h2,_⟩:=dd
  exact ⟨ob,h1,h2.2.1⟩
 ·obtain ⟨_,hd,xs,_,dd⟩:=gF I.hok e
  refine ⟨dd.typeIs,fun b q=> ?_,hd⟩
  cases q
  obtain ⟨ob,_,_,h1,h2,_⟩:=dd
  exact ⟨ob,h1,h2.2.1⟩
section
variable {X:Cx}{pins:List (Addr×Obj)}{σ:St}{H:Hp}{s:Shared}{a:Addr}{y d:V}{u r:Value}{o:Option V}{A:Around}{E:Value->Shared->Prop}
theorem uS {Q:Value->Shared->Prop} (hu:A.units+1<cLine) (I:Inv X pins σ H s) (g:DGet H a y o) (ry:RelV y u) (rd:RelV d r) (h: ∀w' s',Inv X pins σ H s'->RelV (o.getD d) w'->Q w' s'):
  wpAny (model X.prog X.w) A (call (.builtin "dict.get") [.ref a,u,r]) Q E s:=by
 rcases g with ⟨kvs,k,e,ey,l⟩|⟨kvs,k,b,e,ey,eb,l⟩
 ·subst ey
  obtain ⟨z,hd,vs,rel,dd⟩:=gE I.hok e
  refine call_meetsIn PySem.F.slot_dict_get dd.typeIs PySem.F.entry_dict_get (PySem.F.args_dict_get_3 _ _ _) (meets_dict_get_default (aI X.prog X.w) a (gD ry) hd r) ⟨_,dd.mapOf,h _ _ (I.tok _) ?_⟩
  rw [l]
  exact (rel.val k).getD rd
 ·subst ey
  cases (show u=Value.ref b from ry)
  obtain ⟨z,hd,xs,rel,dd⟩:=gF I.hok e
  refine call_meetsIn PySem.F.slot_dict_get dd.typeIs PySem.F.entry_dict_get (PySem.F.args_dict_get_3 _ _ _) (meetsH_dict_get_default (tupleKind (aI X.prog X.w)) a b hd r) ⟨tupleKind_room_in1 hu,k,xs,iK I.hok eb,dd,h _ _ (I.tok _) ?_⟩
  rw [l]
  exact (rel.val k).getD rd
end
noncomputable def uT (td ty tx:TE):TE:=fun σ H Q=>td σ H fun x H1=> ∃a,x= .ref a/\IsD H1 a/\ty σ H1 fun y H2=>tx σ H2 fun z H3=> ∃o,DGet H3 a y o/\Q (o.getD z) H3
section
variable {X:Cx}{o e f:Expr}{apos cpos:Pos}{td ty tx:TE}
theorem uU (hu:X.A.units+1<cLine) (ho:PE X o td) (he:PE X e ty) (hf:PE X f tx) (m:M2 X o "get" apos e f cpos):PE X (.Call (.Attribute o "get" apos) [e,f] [] cpos) (uT td ty tx):=by
 intro pins s σ H Q I h
 refine wpAny_Call_method m.base m.few m.line PySem.F.plainAttrs_dict PySem.F.slot_dict_get PySem.F.type_dict_get (thn (ho pins s σ H _ I h) fun u s1 ⟨x,H1,I1,rx,a,ex,d,q1⟩=> ?_)
 subst ex
 obtain rfl:u=Value.ref a:=rx
 obtain ⟨t1,t2,_⟩:=uR I1 d
 refine ⟨t1,t2,?_⟩
 rw [m.trees]
 refine Calls.callWith_builtin rfl (Calls.evalArgs_plain (Calls.spliced_cons (thn (he pins s1 σ H1 _ I1 q1) fun iv s2 ⟨y,H2,I2,ry,q2⟩=>
  Calls.spliced_cons (thn (hf pins s2 σ H2 _ I2 q2) fun fv s3 ⟨z,H3,I3,rz,ov,g,q3⟩=>Calls.spliced_nil ?_))))
 exact uS hu I3 g ry rz fun w' s4 I4 rw'=>⟨_,H3,I4,rw',q3⟩
end
section
variable {X:Cx}{pins:List (Addr×Obj)}{σ:St}{H:Hp}{s:Shared}{a:Addr}{kvs:List (Key×V)}{A:Around}{E:Value->Shared->Prop}
end
section
variable {X:Cx}{pins:List (Addr×Obj)}{σ:St}{H:Hp}{s:Shared}{a:Addr}{y:V}{u:Value}{A:Around}{E:Value->Shared->Prop}
end
end L2
namespace Att
open PySem PySem.W PySem.Calls PyProof.Rows
theorem uV {P:Params}{h:Heap}: ∀(ns:List Int) (vs:List Value),WellAll P h vs (ns.map WData.int)->IntsAre vs ns:=by
 intro ns
 induction ns with
 |nil=>
  intro vs w
  rw [List.map_nil] at w
  cases w
  exact .nil
 |cons n ns ih=>
  intro vs w
  rw [List.map_cons] at w
  cases w with
  |cons a b=>
   cases a
   exact .cons _ _ (ih _ b)
theorem uW {l:OpenLaw}{n:Nat} (hn:l.most=some n) {P:Params}{h:Heap}{args:List WData}{vals:List Value}
  (hpre:l.row.toRowW.claim.pre args=true) (hwl:WellAll P h vals args):
  ∃a vs ns,vals=[Value.ref a]/\args=[WData.list (ns.map WData.int)]/\h.get? a=some {cls:= .type "list",data:= .seq vs.toArray}/\IntsAre vs ns/\ns.length<=n:=by
 have hsh:WShape.hasAll [] args [.list .int]=true:=(pre_splitW hpre).1
 have hc:l.pre.holds [] {args:=args}=true:=(pre_splitW hpre).2
 obtain ⟨d,r,rfl,h1,h2⟩:=hasAllW_cons hsh
 obtain rfl:=hasAllW_nil h2
 obtain ⟨xs,rfl,h3⟩:=hasW_list h1
 obtain ⟨ns,rfl⟩:=items_int h3
 have hlen:ns.length<=n:=by
  unfold OpenLaw.pre at hc
  have h4:(WTm.not (.lt (.lit (.int (n:Int))) (.len (.arg 0)))).holds [] {args:=[.list (ns.map .int)]}=true:=by
   have h4:=(holds_andW hc).1
   rw [hn] at h4
   exact h4
  have h5:=condW_of h4 (w_not (w_lt w_lit (w_len_list (w_arg rfl))))
  rw [List.length_map] at h5
  refine Nat.le_of_not_lt fun q=> ?_
  have q':(n:Int)<((ns.length:Nat):Int):=by lia
  first
   |(rw [decide_eq_true q'] at h5;exact absurd h5 (by decide))
   |(simp at h5;lia)
 cases hwl with
 |cons w1 w2=>
  cases w2
  cases w1 with
  |list ho hall=>exact ⟨_,_,ns,rfl,rfl,ho,uV ns _ hall,hlen⟩
theorem uX (l:OpenLaw) (args:List WData):l.row.toRowW.claim.post args (.bool true) args=true:=
 postW_of (r:=l.row.toRowW) (X:=(true==true))
  (show WShape.has [] (.bool true) .bool=true by first|rfl|decide|simp [WShape.has,WShape.arms,WShape.armsAll])
  (show (WTm.eq .res (.lit (.bool true))).value [] {args:=args,res:=some (.bool true),after:=args}=some (.bool (true==true)) from w_eq_bool (w_res rfl) w_lit) rfl
theorem uY {l:OpenLaw}{n:Nat}{q:Program}{loose:List Str}{XP:(Str->Option Value)->Heap->Prop}{YP:World->Heap->Prop}{d:DefRec}
  (hn:l.most=some n) (hdf:d.params.defaults=[])
  (call: ∀(w:World) (s₀ s₁:Shared) (mg mb:Str->Option Value) (fa:Addr) (o:Obj) (pm cd doc:Value) (a:Addr) (vs:List Value) (ns:List Int),
   Ground q loose [] XP w s₀ mg mb s₁.heap->YP w s₁.heap->
   s₁.heap.get? fa=some o->o.data= .func (docDef d.name d.params d.body d.scope pm cd doc)->s₁.heap.CodeRec cd d.name->mg d.name=some (.ref fa)->
   s₁.heap.get? a=some {cls:= .type "list",data:= .seq vs.toArray}->IntsAre vs ns->ns.length<=n->s₁.gens= #[]->
   codeAny (model l.prog w) callerA (.call (.ref fa) ⟨[.ref a],[]⟩) (fun r s'=>r= .ok (.ret (.bool true))/\OldK s₁.heap s'.heap/\s'.os=s₁.os/\AllBare s'.gens) s₁):
  WalkO q loose XP YP l.row.toRowW d [] (fun f vs=>PySem.call f vs):=by
 intro w s₀ s₁ mg mb G Y fa o pm cd doc dV kV ho hd hcd hD hmg hg args vals as hpre hlay hrd hwl hlo
 obtain rfl:dV= .none:=Dflts.none hD hdf
 obtain rfl:kV= .none:=Dflts.noKw hD
 obtain ⟨a,vs,ns,rfl,rfl,hobj,hints,hlen⟩:=uW hn hpre hwl
 refine enter_call (codeAny_mono (call w s₀ s₁ mg mb fa o pm cd doc a vs ns G Y ho (fd_plain hd) hcd hmg hobj hints hlen hg) fun r s' hq=> ?_)
 obtain ⟨rfl,h2,h3,h4⟩:=hq
 exact ⟨.inl ⟨.bool true,.bool true,[],rfl,fun _=>rfl,.bool true,uX l _,fun _=>⟨List.Pairwise.nil,fun _ hm=>(nomatch hm)⟩⟩,h2,h3,h4⟩
section
variable {prog:Program}{w:World}{A:Around}{E:Value->Shared->Prop}{s:Shared}{K:Frag}
end
end Att
namespace L2
open PySem PySem.Spec PyProof.Rows
theorem nJ: ∀{vs:List Value}{ns:List Int},IntsAre vs ns->Vals (ns.map V.int) vs
 |_,_,.nil=> .nil
 |_,_,.cons n t h=> .cons ⟨t,rfl⟩ (nJ h)
noncomputable def Only (H:Hp):Prop:= ∀b,H b=none \/ ∃o xs,H b=some (.frz o (.lst xs))
theorem uZ {P:Program}{w:World}{K:PySem.W.Frag}{mg mb:Str->Option Value}{CX:CXT}{k:Nat}{fa a:Addr}{fd:FuncData}{x:Str}{sp:Sp}{s₁:Shared}{vs:List Value}{ns:List Int}
  (KX:K.In s₁.heap) (hns:s₁.heap.Ns mainGlobals mg) (hb:s₁.heap.Ns builtinsNs mb) (hbb: ∀x:Str,x≠"__name__"->mb x=bootBuiltins x) (hlim:s₁.heap.NoLimit) (hg:s₁.gens= #[])
  (ha:s₁.heap.get? a=some {cls:= .type "list",data:= .seq vs.toArray}) (hi:IntsAre vs ns) (hl:ns.length<=sizeLine) (hr:Room k callerA)
  (F: ∀base:Heap,K.In base->base.Ns mainGlobals mg->FnOk P w K mg base CX k fa fd [x] sp) (hbind: ∀(s:Shared) (u:Value),BindsTo s fd ⟨[u],[]⟩ [(x,u)])
  (hsp: ∀H:Hp,Only H->SqL K H a (ns.map V.int)->sp [.ref a] H (fun v _=>v= .bl true) fun _ _ _=>False)
  (hCX: ∀H e s',CX [] H s₁ (fun _ _ _=>False) e s'->False):
  codeAny (model P w) callerA (.call (.ref fa) ⟨[.ref a],[]⟩) (fun r s'=>r= .ok (.ret (.bool true))/\OldK s₁.heap s'.heap/\s'.os=s₁.os/\AllBare s'.gens) s₁:=by
 have rv:=nJ hi
 have lenV:=hi.length
 have core: ∀H:Hp,Only H->SqL K H a (ns.map V.int)->HOk P w H s₁.heap->(∀b,H b≠none->b=a)->(H a≠none->K.lookup a=none)->
   codeAny (model P w) callerA (.call (.ref fa) ⟨[.ref a],[]⟩) (fun r s'=>r= .ok (.ret (.bool true))/\OldK s₁.heap s'.heap/\s'.os=s₁.os/\AllBare s'.gens) s₁:=by
  intro H hO hS hok hA hK
  have base_of: ∀{b:Addr}{o:Obj},s₁.heap.get? b=some o->H b=none->(hidT s₁.heap H).get? b=some o:=fun e n=>sL e n
  have noA: ∀{b:Addr}{o:Obj}{es:Array DictEntry}{ep:Nat},s₁.heap.get? b=some o->o.data= .dict es ep->H b=none:=fun {b o es ep} e d=>by
   cases q:H b with
   |none=>rfl
   |some u=>
    have e':b=a:=hA b (by rw [q];simp)
    subst e'
    rw [ha] at e;cases e
    have d':Data.seq vs.toArray _=Data.dict es ep:=d
    cases d'
  have nsK: ∀{b:Addr}{m:Str->Option Value},s₁.heap.Ns b m->(hidT s₁.heap H).Ns b m:=fun {b m} ⟨o,es,ep,e,d,r⟩=>⟨o,es,ep,base_of e (noA e d),d,r⟩
  have hKb:K.In (hidT s₁.heap H):=fun b o e=>base_of (KX b o e) (by
   cases q:H b with
   |none=>rfl
   |some u=>
    have e':b=a:=hA b (by rw [q];simp)
    subst e'
    rw [hK (by rw [q];simp)] at e;cases e)
  have hM:Mod K mg (hidT s₁.heap H):=⟨hKb,nsK hns,⟨mb,nsK hb,hbb⟩,let ⟨mc,h1,h2⟩:=hlim;⟨mc,nsK h1,h2⟩⟩
  have e0:Env0 P w K mg (hidT s₁.heap H) callerA [] s₁ H:=⟨rfl,hM,fun b o e=>sM e,Nat.le_of_eq (sK _ _),trivial,fun b hb=>absurd (show b∈([]:List Addr) from hb) (by simp),hok,.of_eq hg⟩
  refine codeAny_mono ((F _ hKb (nsK hns)).run callerA [] s₁ H ⟨[.ref a],[]⟩ [.ref a] [.ref a] _ _ hr e0 (hbind s₁ (.ref a)) (.cons rfl .nil) (hsp H hO hS)) fun r s' h=> ?_
  cases r with
  |error e=>exact (hCX H e s' h).elim
  |ok fl=>
   cases fl with
   |next=>exact False.elim h
   |brk=>exact False.elim h
   |cont=>exact False.elim h
   |ret u=>
    obtain ⟨v,H',os,bare,un,hok',r',q⟩:=h
    have q':v= .bl true:=q
    subst q'
    obtain rfl:u=Value.bool true:=r'
    refine ⟨rfl,OldK.of_keep fun b o e=> ?_,os,bare⟩
    cases q:H b with
    |none=>exact un.keep b o e q (by intro z;exact absurd (show b∈([]:List Addr) from z) (by simp)) (by simp)
    |some u=>
     rcases hO b with z|⟨ob,xs,z⟩
     ·rw [q] at z;cases z
     ·have z2:=un.frzs b ob _ z
      obtain ⟨e1,_⟩:=hok b _ z
      obtain ⟨e2,_⟩:=hok' b _ z2
      rw [e] at e1;cases e1
      exact e2
 cases hk:K.lookup a with
 |some o=>
  have e:=KX a o hk
  rw [ha] at e
  cases e
  refine core (fun _=>none) (fun _=> .inl rfl) (.inr ⟨_,vs.toArray,_,hk,rfl,rfl,rfl,by rw [List.size_toArray,lenV];exact hl,by simpa using rv⟩) (fun b u z=>by have z':(none:Option HO)=some u:=z;cases z') (fun b z=>absurd rfl z) fun z=>absurd rfl z
 |none=>
  refine core (fun b=>if b=a then some (.frz {cls:= .type "list",data:= .seq vs.toArray} (.lst (ns.map V.int))) else none) (fun b=> ?_) (.inl (.inr ⟨{cls:= .type "list",data:= .seq vs.toArray},if_pos rfl⟩)) (fun b u z=> ?_) (fun b z=> ?_) fun _=>hk
  ·by_cases hb:b=a
   ·exact .inr ⟨_,_,if_pos hb⟩
   ·exact .inl (if_neg hb)
  ·by_cases hb:b=a
   ·have z':=(if_pos hb).symm.trans z
    cases z'
    subst hb
    exact ⟨ha,by rw [List.length_map];exact hl,vs,_,rv,ha⟩
   ·have z':=(if_neg hb).symm.trans z
    cases z'
  ·by_cases hb:b=a
   ·exact hb
   ·exact absurd (if_neg hb) z
end L2
namespace L2
open PySem PySem.Spec PyProof.Rows
theorem u0 {l:PySem.W.OpenLaw}{n k:Nat}{q:Program}{loose:List Str}{XP:(Str->Option Value)->Heap->Prop}{YP:World->Heap->Prop}{d:DefRec}{K:Params->PySem.W.Frag}{CX:World->CXT}{sp:World->Sp}{x:Str}
  (hn:l.most=some n) (hn2:n<=sizeLine) (hdf:d.params.defaults=[]) (hr:Room k callerA)
  (hY: ∀(w:World) (h:Heap),YP w h->(K w.params).In h)
  (F: ∀(w:World) (mg:Str->Option Value) (fa:Addr) (h:Heap),(K w.params).In h->h.Ns mainGlobals mg->mg d.name=some (.ref fa)->
   ∃fd:FuncData,(∀(s:Shared) (u:Value),BindsTo s fd ⟨[u],[]⟩ [(x,u)])/\
    ∀base:Heap,(K w.params).In base->base.Ns mainGlobals mg->FnOk l.prog w (K w.params) mg base (CX w) k fa fd [x] (sp w))
  (hsp: ∀(w:World) (H:Hp) (a:Addr) (ns:List Int),ns.length<=n->Only H->SqL (K w.params) H a (ns.map V.int)->sp w [.ref a] H (fun v _=>v= .bl true) fun _ _ _=>False)
  (hCX: ∀(w:World) (H:Hp) (s:Shared) (e:Value) (s':Shared),CX w [] H s (fun _ _ _=>False) e s'->False):
  PySem.W.WalkO q loose XP YP l.row.toRowW d [] (fun f vs=>PySem.call f vs):=by
 refine Att.uY hn hdf fun w s₀ s₁ mg mb fa o pm cd doc a vs ns G Y ho hd hcd hmg hobj hints hlen hg=> ?_
 have KX:=hY w _ Y
 obtain ⟨fd,hb,hF⟩:=F w mg fa _ KX G.T.g hmg
 exact uZ KX G.T.g G.T.b G.T.builtins G.T.nolimit hg hobj hints (Nat.le_trans hlen hn2) hr hF hb (fun H hO hS=>hsp w H a ns hlen hO hS) fun H e s'=>hCX w H s₁ e s'
end L2
namespace L2
open PySem PySem.Spec PyProof.Rows
noncomputable def bi (s:Stmt):Arguments:=match s with
 | .FunctionDef _ a _ _ _ _ _ _ _ _=>a
 |_=>{posonlyargs:=[],args:=[],vararg:=none,kwonlyargs:=[],kw_defaults:=[],kwarg:=none,defaults:=[]}
noncomputable def aV (s:Stmt):List Stmt:=match s with
 | .FunctionDef _ _ b _ _ _ _ _ _ _=>b
 |_=>[]
noncomputable def au (s:Stmt):Scope:=match s with
 | .FunctionDef _ _ _ _ _ _ sc _ _ _=>sc
 |_=>{kind:= .function,names:=[],isGenerator:=false,isCoroutine:=false}
noncomputable abbrev CX0:CXT:=fun _ _ _ _ _ _=>False
noncomputable abbrev E0:XK:=fun _ _ _=>False
theorem nK {X:Cx}:gA CX0 X E0:=fun _ _ _ _ _ _ _ h=>h.elim
structure Fun (K:PySem.W.Frag) (x qual:Str) (st:Stmt) (f:Addr) (fd:FuncData):Prop where
 ex: ∃(oc:Value) (od:Option Addr) (kV doc pm:Value) (an:Option Addr) (cdv ct:Value) (osl:Array (Option Value)),
  fd=PySem.W.fnOf x qual (bi st) (aV st) (au st) .none kV doc pm an cdv ct/\K.lookup f=some ⟨oc,od,.func fd,osl⟩/\PySem.W.codeIn K cdv qual=true
 kp:PySem.W.keepIn K (.ref f)=true
section
variable {P:Program}{w:World}{K:PySem.W.Frag}{mg:Str->Option Value}{base:Heap}
theorem Fun.ok {x qual:Str}{st:Stmt}{f:Addr}{fd:FuncData}{N ps:List Str}{k:Nat}{sp:Sp} (F:Fun K x qual st f fd) (S:be N ps (au st)) (len: ∀vs H Q E,sp vs H Q E->vs.length=ps.length)
  (hbody: ∀(cdv:Value) (A:Around) (outer:List Env) (s:Shared) (H:Hp) (vs:List V) (Q:VK) (E:XK),Room k (A.deeper (envOfC qual (au st) s.heap.objs.size f cdv))->sp vs H Q E->
   ∃t,PSs (cxOf CX0 P w K mg base N qual (au st) f cdv A outer s H E).nox (aV st) t/\t {nx:=fun _ H'=>Q .non H',rt:=Q} (bG N vs) H):FnOk P w K mg base CX0 (k+1) f fd ps sp:=by
 obtain ⟨oc,od,kV,doc,pm,an,cdv,ct,osl,rfl,lk,hcd⟩:=F.ex
 refine nl lk hcd S len fun A outer s H vs Q E hr hsp=> ?_
 obtain ⟨t,h,q⟩:=hbody cdv A outer s H vs Q E hr hsp
 exact ⟨t,h.nox,q⟩
theorem Fun.binds {x qual:Str}{st:Stmt}{f:Addr}{fd:FuncData}{ps:List Str} (F:Fun K x qual st f fd)
  (h: ∀(kV doc pm:Value) (an:Option Addr) (cdv ct:Value) (us:List Value),us.length=ps.length->bindArgs (PySem.W.fnOf x qual (bi st) (aV st) (au st) .none kV doc pm an cdv ct) ⟨us,[]⟩=pure (ps.zip us)):cR K fd ps []:=by
 obtain ⟨oc,od,kV,doc,pm,an,cdv,ct,osl,rfl,lk,hcd⟩:=F.ex
 exact .all (h kV doc pm an cdv ct)
theorem bU {x qual:Str}{st:Stmt}{f:Addr}{oc:Value}{od an:Option Addr}{osl:Array (Option Value)}{kV doc pm cdv ct:Value} (l:K.lookup f=some ⟨oc,od,.func (PySem.W.fnOf x qual (bi st) (aV st) (au st) .none kV doc pm an cdv ct),osl⟩)
  (c:PySem.W.codeIn K cdv qual=true) (k:PySem.W.keepIn K (.ref f)=true):Fun K x qual st f (PySem.W.fnOf x qual (bi st) (aV st) (au st) .none kV doc pm an cdv ct):=⟨⟨oc,od,kV,doc,pm,an,cdv,ct,osl,rfl,l,c⟩,k⟩
end
theorem iM {A:Around}{k:Nat} (hr:Room k A):A.units+1<cLine:=Nat.lt_of_le_of_lt (Nat.add_le_add_left (by decide:1<=64) _) hr.units
theorem nM {n:Nat} (h:n<=1000):n<sizeLine:=Nat.lt_of_le_of_lt h (by decide)
section
variable {X:Cx}
theorem pv (i:Nat) {x:Str}{pos:Pos} (hN:X.N[i]?=some x:=by rfl) (hv:Vis X.env.scope x:=by first|exact Or.inl rfl|exact Or.inr (Or.inl rfl)|exact Or.inr (Or.inr rfl)) (hd:(x==("__debug__":Str))=false:=by decide)
  (hcd:(x==("__classdict__":Str))=false:=by decide):PE X (.Name x pos) (tVar i):=mO hN hv hd hcd
end
noncomputable def Same (H H':Hp):Prop:= ∀b o,H b=some o->H' b=some o
theorem Same.refl (H:Hp):Same H H:=fun _ _ h=>h
theorem Same.trans {H H1 H2:Hp} (a:Same H H1) (b:Same H1 H2):Same H H2:=fun c o h=>b c o (a c o h)
theorem Same.free {H H':Hp} (e:Same H H') {l:Addr} (h:H' l=Option.none):H l=Option.none:=by
 cases q:H l with
 |none=>rfl
 |some o=>
  rw [e l o q] at h
  cases h
section
variable {κ:Type} [DecidableEq κ]
end
end L2
set_option maxHeartbeats 4000000
namespace L2
open PySem PySem.Spec PyProof.Rows
noncomputable def pull (ρ:List (Option Nat)) (σ:St):St:=ρ.map fun o=>match o with
 |none=>none
 |some j=>(σ[j]?).getD none
theorem u5 {ρ:List (Option Nat)}{σ:St}{i:Nat}{v:V} (h:(pull ρ σ)[i]?=some (some v)): ∃j,ρ[i]?=some (some j)/\σ[j]?=some (some v):=by
 unfold pull at h
 rw [List.getElem?_map] at h
 cases e:ρ[i]? with
 |none=>rw [e] at h;cases h
 |some o=>
  rw [e] at h
  cases o with
  |none=>cases h
  |some j=>
   refine ⟨j,rfl,?_⟩
   have h':(σ[j]?).getD none=some v:=Option.some.inj h
   cases q:σ[j]? with
   |none=>rw [q] at h';cases h'
   |some z=>rw [q] at h';exact congrArg some h'
noncomputable def cH (scope:Scope) (env:Env):List (Str×Addr):=scope.names.foldl (fun cs x=>if x.2= .free then (x.1,(env.cells.lookup x.1).getD 0)::cs else cs) []
theorem nN {env:Env}: ∀{names:List (Str×NameKind)}{cs:List (Str×Addr)},(∀x∈names,x.2= .free-> ∃c,env.cells.lookup x.1=some c)->
  (forIn names cs fun (x:Str×NameKind) (r:List (Str×Addr))=>(match x with
   |(name,kind)=>if (kind== .free)=true then do
     let a<-cellOf env name
     pure (ForInStep.yield ((name,a)::r))
    else pure (ForInStep.yield r):Sem (ForInStep (List (Str×Addr)))))=pure (names.foldl (fun cs x=>if x.2= .free then (x.1,(env.cells.lookup x.1).getD 0)::cs else cs) cs)
 |[],cs,_=>rfl
 |(n,k)::r,cs,h=>by
  rw [List.forIn_cons,List.foldl_cons]
  have ih:=fun cs=>nN (names:=r) (cs:=cs) fun x hx=>h x (List.mem_cons_of_mem _ hx)
  by_cases hk:k= .free
  ·subst hk
   obtain ⟨c,e⟩:=h (n,.free) List.mem_cons_self rfl
   have e':env.cells.lookup n=some c:=e
   simp only [beq_self_eq_true,if_true,cellOf,e',pure_bind,Option.getD_some]
   exact ih _
  ·have hb:(k==NameKind.free)=false:=by simpa using hk
   simp only [hb,Bool.false_eq_true,if_false,hk,pure_bind]
   exact ih _
theorem nO {scope:Scope}{env:Env} (h: ∀x∈scope.names,x.2= .free-> ∃c,env.cells.lookup x.1=some c):closureFor scope env=pure (cH scope env):=by
 unfold closureFor cH
 have q:=nN (cs:=[]) h
 simp only [] at q|-
 rw [q]
 rfl
theorem km {env:Env}: ∀{names:List (Str×NameKind)}{cs:List (Str×Addr)},(∀x∈names,x.2= .free-> ∃c,env.cells.lookup x.1=some c)->(∀p∈cs,env.cells.lookup p.1=some p.2)->
  ∀p∈names.foldl (fun cs x=>if x.2= .free then (x.1,(env.cells.lookup x.1).getD 0)::cs else cs) cs,env.cells.lookup p.1=some p.2
 |[],_,_,hc=>hc
 |(n,k)::r,cs,h,hc=>by
  rw [List.foldl_cons]
  refine km (names:=r) (fun x hx=>h x (List.mem_cons_of_mem _ hx)) ?_
  by_cases hk:k= .free
  ·subst hk
   obtain ⟨c,e⟩:=h (n,.free) List.mem_cons_self rfl
   have e':env.cells.lookup n=some c:=e
   rw [if_pos rfl]
   intro p hp
   rcases List.mem_cons.mp hp with z|z
   ·subst z
    show env.cells.lookup n=some ((env.cells.lookup n).getD 0)
    rw [e']
    all_goals rfl
   ·exact hc p z
  ·rw [if_neg hk]
   exact hc
theorem nP {env:Env}{x:Str}: ∀{names:List (Str×NameKind)}{cs:List (Str×Addr)},((x,NameKind.free)∈names \/ ∃c,(x,c)∈cs)->
  ∃c,(x,c)∈names.foldl (fun cs x=>if x.2= .free then (x.1,(env.cells.lookup x.1).getD 0)::cs else cs) cs
 |[],cs,h=>h.elim (fun z=>nomatch z) fun z=>z
 |(n,k)::r,cs,h=>by
  rw [List.foldl_cons]
  refine nP (names:=r) ?_
  rcases h with h|⟨c,h⟩
  ·rcases List.mem_cons.mp h with z|z
   ·cases z
    rw [if_pos rfl]
    exact .inr ⟨_,List.mem_cons_self⟩
   ·exact .inl z
  ·right
   by_cases hk:k= .free
   ·rw [if_pos hk];exact ⟨c,List.mem_cons_of_mem _ h⟩
   ·rw [if_neg hk];exact ⟨c,h⟩
theorem nQ {α:Type}: ∀{l:List (Str×α)}{x:Str}{c:α},(x,c)∈l-> ∃d,l.lookup x=some d
 |[],_,_,h=>nomatch h
 |(n,a)::r,x,c,h=>by
  rw [List.lookup_cons]
  cases hx:x==n with
  |true=>exact ⟨a,rfl⟩
  |false=>
   rcases List.mem_cons.mp h with z|z
   ·injection z with z1 z2
    rw [z1] at hx
    simp at hx
   ·exact nQ z
theorem nR {scope:Scope}{env:Env}{x:Str} (h: ∀x∈scope.names,x.2= .free-> ∃c,env.cells.lookup x.1=some c) (hx:scope.names.lookup x=some .free): ∃c,(cH scope env).lookup x=some c/\env.cells.lookup x=some c:=by
 obtain ⟨c,hc⟩:=nP (env:=env) (cs:=[]) (.inl (PySem.mem_of_lookup hx))
 obtain ⟨d,hd⟩:=nQ hc
 exact ⟨d,hd,km (cs:=[]) h (fun p hp=>absurd hp (List.not_mem_nil)) _ (PySem.mem_of_lookup hd)⟩
theorem dQ {scope:Scope}{env:Env}{x:Str}{c:Addr} (h: ∀x∈scope.names,x.2= .free-> ∃c,env.cells.lookup x.1=some c) (e:(cH scope env).lookup x=some c):env.cells.lookup x=some c:=
 km (cs:=[]) h (fun p hp=>absurd hp (List.not_mem_nil)) _ (PySem.mem_of_lookup e)
theorem nS {f:Str×NameKind->NameKind}{x:Str}: ∀{names:List (Str×NameKind)},(names.map fun y=>(y.1,f y)).lookup x=(names.lookup x).map fun k=>f (x,k)
 |[]=>rfl
 |(n,k)::r=>by
  rw [List.map_cons,List.lookup_cons,List.lookup_cons]
  cases hx:x==n with
  |true=>
   have e:x=n:=by simpa using hx
   subst e
   rfl
  |false=>exact nS
theorem nU {env:Env}{names:List (Str×NameKind)}{x:Str}:(names.map fun (n,k)=>if (k==NameKind.free&&env.scope.kind== .function&&env.kindOf n==some .cell) then (n,NameKind.cell) else (n,k)).lookup x=
  (names.lookup x).map fun k=>if (k==NameKind.free&&env.scope.kind== .function&&env.kindOf x==some .cell) then NameKind.cell else k:=by
 have e:(fun (y:Str×NameKind)=>match y with|(n,k)=>if (k==NameKind.free&&env.scope.kind== .function&&env.kindOf n==some .cell) then (n,NameKind.cell) else (n,k))=
   fun y=>(y.1,if (y.2==NameKind.free&&env.scope.kind== .function&&env.kindOf y.1==some .cell) then NameKind.cell else y.2):=by
  funext ⟨n,k⟩
  dsimp only
  split<;>rfl
 rw [e]
 exact nS
theorem u6 {env:Env}{names:List (Str×NameKind)}{x:Str} (h:names.lookup x=some .free):
  (names.map fun (n,k)=>if (k==NameKind.free&&env.scope.kind== .function&&env.kindOf n==some .cell) then (n,NameKind.cell) else (n,k)).lookup x=some .cell \/
  (names.map fun (n,k)=>if (k==NameKind.free&&env.scope.kind== .function&&env.kindOf n==some .cell) then (n,NameKind.cell) else (n,k)).lookup x=some .free:=by
 rw [nU,h,Option.map_some]
 split
 ·exact .inl rfl
 ·exact .inr rfl
theorem relabel_of {env:Env}{names:List (Str×NameKind)}{x:Str}
  (h:(names.map fun (n,k)=>if (k==NameKind.free&&env.scope.kind== .function&&env.kindOf n==some .cell) then (n,NameKind.cell) else (n,k)).lookup x=some .cell \/
  (names.map fun (n,k)=>if (k==NameKind.free&&env.scope.kind== .function&&env.kindOf n==some .cell) then (n,NameKind.cell) else (n,k)).lookup x=some .free):names.lookup x=some .cell \/names.lookup x=some .free:=by
 rw [nU] at h
 cases e:names.lookup x with
 |none=>rw [e] at h;rcases h with h|h<;>cases h
 |some k=>
  rw [e,Option.map_some] at h
  by_cases hk:k= .free
  ·rw [hk];exact .inr rfl
  ·have hb:(k==NameKind.free)=false:=by simpa using hk
   rw [hb] at h
   simp only [Bool.false_and,Bool.false_eq_true,if_false] at h
   exact h
theorem fm: ∀(names:List (Str×NameKind)) (n:Nat) (acc:List (Str×Addr)),cellsFrom n names acc=cellsFrom n names []++acc
 |[],_,_=>rfl
 |(y,k)::r,n,acc=>by
  unfold cellsFrom
  split
  ·rw [fm r (n+1) ((y,n)::acc),fm r (n+1) [(y,n)],List.append_assoc]
   rfl
  ·exact fm r n acc
theorem cf_mem {x:Str}{c:Addr}: ∀(names:List (Str×NameKind)) (n:Nat) (acc:List (Str×Addr)),(x,c)∈cellsFrom n names acc->((x,NameKind.cell)∈names/\n<=c) \/(x,c)∈acc
 |[],_,_,h=> .inr h
 |(y,k)::r,n,acc,h=>by
  unfold cellsFrom at h
  split at h
  ·next hk=>
   have ek:k= .cell:=by simpa using hk
   rcases cf_mem r (n+1) _ h with ⟨h1,h2⟩|h1
   ·exact .inl ⟨List.mem_cons_of_mem _ h1,by lia⟩
   ·rcases List.mem_cons.mp h1 with z|z
    ·cases z
     exact .inl ⟨by rw [ek];exact List.mem_cons_self,Nat.le_refl _⟩
    ·exact .inr z
  ·rcases cf_mem r n acc h with ⟨h1,h2⟩|h1
   ·exact .inl ⟨List.mem_cons_of_mem _ h1,h2⟩
   ·exact .inr h1
theorem iN {x:Str}: ∀{a b:List (Str×Addr)},(a++b).lookup x=(a.lookup x).or (b.lookup x)
 |[],_=>rfl
 |(y,c)::r,b=>by
  rw [List.cons_append,List.lookup_cons,List.lookup_cons]
  cases x==y with
  |true=>rfl
  |false=>exact iN
theorem cf_look {names:List (Str×NameKind)}{n:Nat}{acc:List (Str×Addr)}{x:Str}{c:Addr} (h:(cellsFrom n names acc).lookup x=some c):
  ((x,NameKind.cell)∈names/\n<=c/\(x,c)∈cellsFrom n names []) \/acc.lookup x=some c:=by
 rw [fm,iN] at h
 cases e:(cellsFrom n names []).lookup x with
 |some d=>
  rw [e] at h
  cases h
  have m:=PySem.mem_of_lookup e
  rcases cf_mem _ _ _ m with ⟨h1,h2⟩|z
  ·exact .inl ⟨h1,h2,m⟩
  ·exact nomatch z
 |none=>rw [e] at h;exact .inr h
theorem u7 {names:List (Str×NameKind)}{n:Nat}{acc:List (Str×Addr)}{x:Str}{c:Addr} (nc:(x,NameKind.cell)∉names) (h:acc.lookup x=some c):(cellsFrom n names acc).lookup x=some c:=by
 rw [fm,iN]
 cases e:(cellsFrom n names []).lookup x with
 |some d=>
  rcases cf_mem _ _ _ (PySem.mem_of_lookup e) with ⟨h1,_⟩|z
  ·exact absurd h1 nc
  ·exact nomatch z
 |none=>exact h
theorem nV {M:Model}{A:Around}{E:Value->Shared->Prop}{s:Shared}{scope:Scope}{globals:Addr}{cl:List (Str×Addr)}{qual:Str}{env:Env}{builtins:Addr}{Q:Env->Shared->Prop}
  (hQ: ∀h',h'.Ns s.heap.objs.size (fun _=>none)->(∀b o,s.heap.get? b=some o->h'.get? b=some o)->(∀n c,(n,c)∈cellsFrom (s.heap.objs.size+1) scope.names []->h'.IsCell c none)->((cellsFrom (s.heap.objs.size+1) scope.names []).Pairwise fun x y=>x.2≠y.2)->
   Q (newEnv scope s.heap.objs.size globals (cellsFrom (s.heap.objs.size+1) scope.names cl) qual none .none (some env) builtins) {s with heap:=h'}):
  wpAny M A (newFunctionEnv scope globals cl [] qual none .none (some env) builtins) Q E s:=by
 simp only [newFunctionEnv,Option.isSome_some,if_true]
 refine wpAny_bind (wpAny_alloc ?_)
 refine wpAny_bind (wpAny_layCells _ (fun name kind cells=>by cases hkc:kind==NameKind.cell<;>simp [hkc]) _ _ _ _ ?_)
 have ok:=cellsFrom_ok scope.names (s.heap.push {cls:= .type "dict",data:= .dict #[]}) (s.heap.objs.size+1) [] ⟨fun _ _ hm=>(nomatch hm),List.Pairwise.nil⟩ (by rw [Heap.size_push];exact Nat.le_refl _)
 rw [Heap.size_push] at ok
 rw [show ({s with heap:=s.heap.push {cls:= .type "dict",data:= .dict #[]}}:Shared).heap.objs.size=s.heap.objs.size+1 from Heap.size_push ..]
 rw [List.forIn_nil]
 refine wpAny_bind (wpAny_pure (wpAny_pure ?_))
 exact hQ _ ((Heap.Ns.new s.heap (.type "dict")).keeps (pushCells_keeps _ _)) (fun b o e=>pushCells_keeps _ _ b o (Heap.get?_push_of_some _ e)) (fun n c hm=>(ok.empty n c hm).1) ok.apart
noncomputable def cS (sc osc:Scope) (N N':List Str) (ρ:List (Option Nat)):Bool:=
 decide (sc.kind= .function)&&decide (N'.length=ρ.length)&&
 sc.names.all (fun y=>(decide (y.2≠ .cell)||decide (sc.names.lookup y.1=some .cell))&&(decide (y.2≠ .local)||decide (sc.names.lookup y.1=some .local))&&(decide (y.2≠ .free)||(decide (osc.names.lookup y.1=some .cell)||decide (osc.names.lookup y.1=some .free))))&&
 (N'.zip ρ).all (fun p=>match p.2 with
  |none=>true
  |some j=>decide (N[j]?=some p.1)&&decide (sc.names.lookup p.1=some .free))
structure gG (sc osc:Scope) (N N':List Str) (ρ:List (Option Nat)):Prop where
 kind:sc.kind= .function
 len:N'.length=ρ.length
 cell: ∀y∈sc.names,y.2= .cell->sc.names.lookup y.1=some .cell
 loc: ∀y∈sc.names,y.2= .local->sc.names.lookup y.1=some .local
 free: ∀y∈sc.names,y.2= .free->osc.names.lookup y.1=some .cell \/osc.names.lookup y.1=some .free
 from_: ∀(i j:Nat) (x:Str),N'[i]?=some x->ρ[i]?=some (some j)->N[j]?=some x/\sc.names.lookup x=some .free
theorem iO {sc osc:Scope}{N N':List Str}{ρ:List (Option Nat)} (h:cS sc osc N N' ρ=true):gG sc osc N N' ρ:=by
 unfold cS at h
 rw [Bool.and_eq_true,Bool.and_eq_true,Bool.and_eq_true] at h
 obtain ⟨⟨⟨h1,h2⟩,h3⟩,h4⟩:=h
 have h3':=List.all_eq_true.mp h3
 have h4':=List.all_eq_true.mp h4
 refine ⟨of_decide_eq_true h1,of_decide_eq_true h2,fun y hy e=> ?_,fun y hy e=> ?_,fun y hy e=> ?_,fun i j x e1 e2=> ?_⟩
 ·have q:=h3' y hy
  rw [Bool.and_eq_true,Bool.and_eq_true,Bool.or_eq_true] at q
  rcases q.1.1 with z|z
  ·exact absurd e (of_decide_eq_true z)
  ·exact of_decide_eq_true z
 ·have q:=h3' y hy
  rw [Bool.and_eq_true,Bool.and_eq_true,Bool.or_eq_true,Bool.or_eq_true] at q
  rcases q.1.2 with z|z
  ·exact absurd e (of_decide_eq_true z)
  ·exact of_decide_eq_true z
 ·have q:=h3' y hy
  rw [Bool.and_eq_true,Bool.or_eq_true,Bool.or_eq_true] at q
  rcases q.2 with z|z|z
  ·exact absurd e (of_decide_eq_true z)
  ·exact .inl (of_decide_eq_true z)
  ·exact .inr (of_decide_eq_true z)
 ·have hm:(x,some j)∈N'.zip ρ:=by
   refine List.mem_of_getElem? (i:=i) ?_
   rw [List.getElem?_zip_eq_some]
   exact ⟨e1,e2⟩
  have q:=h4' _ hm
  rw [Bool.and_eq_true] at q
  exact ⟨of_decide_eq_true q.1,of_decide_eq_true q.2⟩
noncomputable def ak (X:Cx) (scope:Scope) (N':List Str) (C:Addr) (s:Shared) (H:Hp) (fp:List Addr):Cx where
 prog:=X.prog
 w:=X.w
 K:=X.K
 mg:=X.mg
 base:=X.base
 A:=X.A
 N:=N'
 s₀:=s
 H₀:=H
 env:=compEnvC scope (cellsFrom (C+1) scope.names (cH scope X.env)) C X.env
 outer:=X.stack
 stack:=X.stack
 ex:=fp
 fn:=fun x=>scope.names.lookup x==some .cell
 calm:=X.calm
 pn:=[]
 xe:=fun _ _=>False
section
variable {X:Cx}{pins:List (Addr×Obj)}{σ:St}{H:Hp}{s:Shared}{scope:Scope}{N':List Str}{ρ:List (Option Nat)}
theorem Inv.cells_of (I:Inv X pins σ H s) (ck:gG scope X.env.scope X.N N' ρ): ∀x∈scope.names,x.2= .free-> ∃c,X.env.cells.lookup x.1=some c:=fun x hx e=>I.ok.has x.1 (ck.free x hx e)
theorem u8 (I:Inv X pins σ H s) {fp:List Addr} (hf: ∀b∈fp,FpOk X pins H b) {b:Addr}{o:Obj} (e:X.base.get? b=some o):b∉fp:=fun hb=>by
 obtain ⟨_,_,_,h,_⟩:=hf b hb
 rcases h with h|h
 ·exact I.ok.noex b o e h
 ·exact absurd (Nat.lt_of_lt_of_le (Heap.lt_size (I.ok.bs b o e).1) h) (Nat.lt_irrefl _)
theorem ko (I:Inv X pins σ H s) {fp:List Addr} (hf: ∀b∈fp,FpOk X pins H b) {b:Addr} (hb:b∈fp):b∉frs X.stack:=fun h=>by
 obtain ⟨_,n1,n2,_⟩:=hf b hb
 rcases List.mem_cons.mp (I.stkSub b h) with z|z
 ·exact n1 z
 ·exact n2 z
theorem Inv.block (I:Inv X pins σ H s) (ck:gG scope X.env.scope X.N N' ρ) {fp:List Addr} (hf: ∀b∈fp,FpOk X pins H b) (hfo: ∀b∈fp,∃o,s.heap.get? b=some o)
  {C l:Addr}{lo:Obj}{h':Heap}{t':Nat} (hk: ∀b o,s.heap.get? b=some o->h'.get? b=some o) (hC:s.heap.objs.size<=C) (hn:h'.Ns C fun _=>none) (hcl: ∀n c,(n,c)∈cellsFrom (C+1) scope.names []->h'.IsCell c none) (hap:(cellsFrom (C+1) scope.names []).Pairwise fun x y=>x.2≠y.2)
  (hl:s.heap.objs.size<=l) (hlC:l≠C) (hlo:h'.get? l=some lo) (hld: ∀v,lo.data≠ .cell v):Inv (ak X scope N' C s H fp) [(l,lo)] (pull ρ σ) H {s with heap:=h',toks:=t'}:=by
 have hfr:=I.cells_of ck
 have young: ∀{b:Addr}{o:Obj},s.heap.get? b=some o-> ∀{a:Addr},s.heap.objs.size<=a->b≠a:=fun e _ ha z=>by
  subst z
  exact absurd (Nat.lt_of_lt_of_le (Heap.lt_size e) ha) (Nat.lt_irrefl _)
 have cold: ∀{x:Str}{c:Addr},(cH scope X.env).lookup x=some c->c<s.heap.objs.size:=fun {x c} e=>by
  obtain ⟨v,o,ho,_⟩:=I.cell x c (dQ hfr e)
  exact Heap.lt_size ho
 refine ⟨⟨I.ok.mod,ck.kind,I.ok.glob,I.ok.blt,hC,fun x y c h1 h2=> ?_,fun x hx=> ?_,fun x c hfn h=> ?_,I.ok.hd,I.ok.frames,.inl rfl,fun b hb=>⟨?_,fun x c e=> ?_⟩,I.bs,Nat.le_trans I.ok.bsz I.sz,fun b o e=>u8 I hf e,
  fun b hb=>ko I hf hb,I.stack,I.stkFree⟩,rfl,I.bare,Un.kept hk,⟨_,hn,fun i x v e1 e2 e3=> ?_⟩,fun x c e=> ?_,I.hok.fresh hC,fun x c e=> ?_,fun p hp=> ?_,I.hok.kept hk,?_⟩
 ·rcases cf_look h1 with ⟨_,g1,m1⟩|h1<;>rcases cf_look h2 with ⟨_,g2,m2⟩|h2
  ·exact PySem.name_of_addr hap m1 m2
  ·exact absurd (Nat.lt_of_lt_of_le (Nat.lt_of_lt_of_le (cold h2) hC) (Nat.le_of_succ_le g1)) (Nat.lt_irrefl _)
  ·exact absurd (Nat.lt_of_lt_of_le (Nat.lt_of_lt_of_le (cold h1) hC) (Nat.le_of_succ_le g2)) (Nat.lt_irrefl _)
  ·exact I.ok.inj x y c (dQ hfr h1) (dQ hfr h2)
 ·rcases relabel_of hx with hx|hx
  ·exact Option.isSome_iff_exists.mp (PySem.W.cellsFrom_some scope.names (C+1) (cH scope X.env) (.inl hx))
  ·obtain ⟨c,e,_⟩:=nR hfr hx
   exact Option.isSome_iff_exists.mp (PySem.W.cellsFrom_some scope.names (C+1) (cH scope X.env) (.inr (by rw [e];rfl)))
 ·have hfn':scope.names.lookup x=some .cell:=by
   have q:(scope.names.lookup x==some NameKind.cell)=true:=hfn
   simpa using q
  have hh:(cellsFrom (C+1) scope.names (cH scope X.env)).lookup x=some c:=h
  obtain ⟨d,hd⟩:=Option.isSome_iff_exists.mp (PySem.W.cellsFrom_some scope.names (C+1) [] (.inl hfn'))
  rw [fm,iN,hd] at hh
  cases hh
  rcases cf_mem _ _ _ (PySem.mem_of_lookup hd) with ⟨_,g⟩|z
  ·exact Nat.le_trans hC (Nat.le_of_succ_le g)
  ·exact nomatch z
 ·obtain ⟨o,e⟩:=hfo b hb
  exact young e hC
 ·rcases cf_look e with ⟨_,g,_⟩|e
  ·obtain ⟨o,eo⟩:=hfo b hb
   exact Ne.symm (young eo (by lia))
  ·exact (hf b hb).2.2.2.2.1 x c (dQ hfr e)
 ·obtain ⟨j,r1,r2⟩:=u5 e2
  obtain ⟨n1,n2⟩:=ck.from_ i j x e1 r1
  obtain ⟨m,hm,hl'⟩:=I.loc
  have kd:=ck.free _ (PySem.mem_of_lookup n2) rfl
  obtain ⟨u,r,lk⟩:=hl' j x v n1 r2 (.inr kd)
  refine ⟨u,r,.inr ⟨u6 n2,?_⟩⟩
  obtain ⟨c,c1,c2⟩:=nR hfr n2
  refine ⟨c,u7 (fun z=>by have:=ck.cell _ z rfl;rw [n2] at this;cases this) c1,?_⟩
  rcases lk with ⟨k,_⟩|⟨_,c',e',⟨o,ho,hd⟩⟩
  ·rcases kd with kd|kd
   ·have k':X.env.scope.names.lookup x=some .local:=k
    rw [show X.env.scope.names.lookup x=some .cell from kd] at k';cases k'
   ·have k':X.env.scope.names.lookup x=some .local:=k
    rw [show X.env.scope.names.lookup x=some .free from kd] at k';cases k'
  ·rw [c2] at e';cases e'
   exact ⟨o,hk _ o ho,hd⟩
 ·rcases cf_look e with ⟨_,_,m⟩|e
  ·exact ⟨none,hcl x c m⟩
  ·obtain ⟨v,o,ho,hd⟩:=I.cell x c (dQ hfr e)
   exact ⟨v,o,hk _ o ho,hd⟩
 ·rcases cf_look e with ⟨_,g,_⟩|e
  ·exact I.hok.fresh (by lia)
  ·exact I.freeC x c (dQ hfr e)
 ·have hp':p∈[(l,lo)]:=hp
  rcases List.mem_cons.mp hp' with z|z
  ·subst z
   refine ⟨hlo,I.hok.fresh hl,hlC,fun z=> ?_,hld⟩
   have z':l∈frs X.stack:=z
   rcases List.mem_cons.mp (I.stkSub l z') with q|q
   ·exact absurd (Nat.lt_of_lt_of_le (q▸I.lt) hl) (Nat.lt_irrefl _)
   ·exact I.nofs hl q
  ·exact nomatch z
 ·show (pull ρ σ).length=N'.length
  unfold pull
  rw [List.length_map,ck.len]
theorem Inv.unblock {s':Shared}{fp:List Addr}{C l:Addr}{σc:St}{Hc:Hp}{acc:List V}{its:List Value}{n:Nat} (I:Inv X pins σ H s) (hf: ∀b∈fp,FpOk X pins H b)
  (hC:s.heap.objs.size<=C) (hl:s.heap.objs.size<=l) (J:Inv (ak X scope N' C s H fp) [(l,{cls:= .type "list",data:= .seq its.toArray n})] σc Hc s') (r:Vals acc its) (hz:acc.length<=sizeLine):
  Hc l=none/\Inv X pins σ (upd Hc l (.lst acc)) s':=by
 obtain ⟨hlo,hln,hlC,hlf,_⟩:=J.pin (l,{cls:= .type "list",data:= .seq its.toArray n}) (List.mem_append_right _ List.mem_cons_self)
 have hln:Hc l=none:=hln
 have hlo:s'.heap.get? l=some {cls:= .type "list",data:= .seq its.toArray n}:=hlo
 refine ⟨hln,?_⟩
 have hb:=J.base
 have young: ∀{b:Addr}{o:Obj},s.heap.get? b=some o->b≠l:=fun e z=>by
  subst z
  exact absurd (Nat.lt_of_lt_of_le (Heap.lt_size e) hl) (Nat.lt_irrefl _)
 refine I.call' (ch:=fp) J.os ⟨fun b o e n h1 h2=>hb.keep b o e n h1 h2,fun b o e n h1 h2=>hb.slot b o e n h1 h2,fun b o e n h2=> ?_,fun b o e h2=>hb.there b o e h2,fun b xs e=> ?_,fun b o u e=> ?_,fun b ps e=> ?_⟩ ?_ J.bare fun b hb'=> ?_
 ·rw [ao (young e)]
  exact hb.free b o e n h2
 ·have q:=hb.tups b xs e
  rw [ao (bQ q hln)]
  exact q
 ·have q:=hb.frzs b o u e
  rw [ao (bQ q hln)]
  exact q
 ·have q:=hb.tbls b ps e
  rw [ao (bQ q hln)]
  exact q
 ·intro a o e
  by_cases ha:a=l
  ·subst ha
   rw [az] at e
   cases e
   exact ⟨hz,its,n,r,hlo⟩
  ·rw [ao ha] at e
   exact (J.hok a o e).stay (fun _ _ _ q=>q) (fun c q=>by rw [ao (bQ q hln)];exact q) (fun c xs q=>by rw [ao (bQ q hln)];exact q) fun c _ _ _ q=>by rw [ao (bQ q hln)];exact q
 ·obtain ⟨f0,f1,f2,f3,f4,f5⟩:=hf b hb'
  exact ⟨f3,f1,f4,f5⟩
end
section
variable {prog:Program}{w:World}{A:Around}{R:Result->Shared->Prop}{s:Shared}
noncomputable abbrev X0:Value->Shared->Prop:=fun _ _=>False
theorem kr {α:Type}{t:Sem α}{M:Model}{Q:α->Shared->Prop}{E:Value->Shared->Prop} (h:wpAny M A t Q X0 s):wpAny M A t Q E s:=wpAny_mono h (fun _ _ q=>q) fun _ _ z=>False.elim z
theorem nW {l:Addr}{its:List Value}{k:Nat}{y:Value}{E:Value->Shared->Prop}{Q:Value->Shared->Prop} (hl:s.heap.get? l=some {cls:= .type "list",data:= .seq its.toArray k}) (hz:its.length<=sizeLine)
  (h: ∀h' k',h'.get? l=some {cls:= .type "list",data:= .seq (its++[y]).toArray k'}->(∀b o,b≠l->s.heap.get? b=some o->h'.get? b=some o)->Q .none {s with heap:=h'}):
  wpAny (model prog w) A (call (.builtin "list.append") [.ref l,y]) Q E s:=by
 refine wpAny_list_append_plain ⟨k,hl⟩ (fun h' hp sb=> ?_) (by rw [List.size_toArray];exact hz)
 obtain ⟨k',e⟩:=hp
 refine h h' k' ?_ fun b o hb q=>(sb.2 b hb).trans q
 rw [e]
 simp
theorem u9 {elt target iter:Expr}{ifs:List Expr}{scope:Scope}{pos:Pos}{it acc:Value}{env:Env} (I:Nat->Shared->Prop)
  (turn: ∀n s,I n s->wpAny (model prog w) A (pyNext it) (fun r s₁=>match r with
   |none=>R (.ok .next) s₁
   |some v=>wpAny (model prog w) A (letOwnedTupleGo target it v) (fun _ s₁'=>wpAny (model prog w) A (assign target env v) (fun _ s₂=>
     wpAny (model prog w) A (forIn ifs true fun c r=>if r=true then do let ok<-isTrue c env (eval c env);pure (ForInStep.yield ok) else pure (ForInStep.yield r)) (fun ok s₃=>
      if ok=true then wpAny (model prog w) A (eval elt env) (fun x s₄=>
       wpAny (model prog w) A (call (.builtin "list.append") [acc,x]) (fun _ s₅=> ∃m,m<n/\I m s₅) X0 s₄) X0 s₃
      else∃m,m<n/\I m s₃) X0 s₂) X0 s₁') X0 s₁) X0 s)
  (n:Nat) (h:I n s):codeAny (model prog w) A (.compLoop (.ListComp elt [⟨target,iter,ifs,0⟩] scope pos) 0 it acc env) R s:=by
 refine codeAny_loop rfl I (fun n s hI=> ?_) n h
 show wpAny _ A ((compTurn (.ListComp elt [⟨target,iter,ifs,0⟩] scope pos) 0 it acc env).onRaise (fun x=>do noteFrame x env;theTreesLotGoes x)) _ _ s
 refine wpAny_noted ?_
 rw [compTurn_list]
 refine wpAny_bind (wpAny_standAt (wpAny_bind (kr (wpAny_mono (turn n s hI) (fun r s₁ h₁=> ?_) fun _ _ h'=>False.elim h'))))
 cases r with
 |none=>exact wpAny_pure h₁
 |some v=>
  refine wpAny_bind (wpAny_mono h₁ (fun _ s₁' h₁'=> ?_) fun _ _ h'=>False.elim h')
  refine wpAny_bind (wpAny_mono h₁' (fun _ s₂ h₂=>wpAny_bind (wpAny_mono h₂ (fun ok s₃ h₃=> ?_) fun _ _ h'=>False.elim h')) fun _ _ h'=>False.elim h')
  cases ok with
  |false=>exact wpAny_pure ⟨rfl,h₃⟩
  |true=>
   exact wpAny_bind (wpAny_bind (wpAny_mono h₃ (fun x s₄ h₄=>wpAny_bind (wpAny_mono h₄ (fun _ s₅ h₅=>wpAny_pure (wpAny_pure ⟨rfl,h₅⟩)) fun _ _ h'=>False.elim h')) fun _ _ h'=>False.elim h'))
end
noncomputable def PTs (X:Cx) (ifs:List Expr) (t:TT):Prop:=
 ∀(pins:List (Addr×Obj)) (s:Shared) (σ:St) (H:Hp) (Q:Bool->Hp->Prop),Inv X pins σ H s->t σ H Q->
  wpAny (model X.prog X.w) X.A (forIn ifs true fun c r=>if r=true then do let ok<-isTrue c X.env (eval c X.env);pure (ForInStep.yield ok) else pure (ForInStep.yield r)) (TP X pins σ Q) X.xe s
noncomputable def tYes:TT:=fun _ H Q=>Q true H
theorem va {X:Cx}:PTs X [] tYes:=fun _ _ _ H _ I h=>wpAny_tests_nil ⟨H,I,h⟩
theorem vb {X:Cx}{c:Expr}{t:TT} (h:PT X c t):PTs X [c] t:=fun pins s σ H Q I hq=>wpAny_tests_one (h pins s σ H Q I hq)
noncomputable def iP (ρ:List (Option Nat)) (wi:TI) (g:TG) (tt:TT) (te:TE):TE:=fun σ H Q=>wi σ H fun J H1=> ∃W:Nat->Nat->List V->St->Hp->Prop,(∃m,W 0 m [] (pull ρ σ) H1)/\ ∀i m acc σc Hc,W i m acc σc Hc->
 (J.stop i Hc/\acc.length<=sizeLine/\ ∀l,Hc l=none->Q (.ref l) (upd Hc l (.lst acc))) \/
 (J.go i Hc/\acc.length<sizeLine/\ ∃N:List V->St->Hp->Prop,(∀acc' σ' H',N acc' σ' H'-> ∃m',m'<m/\W (i+1) m' acc' σ' H')/\
  ∀x H',J.yld i Hc x H'->g x σc H' fun σ2 H2=>tt σ2 H2 fun b H3=>if b=true then te σ2 H3 fun v H4=>N (acc++[v]) σ2 H4 else N acc σ2 H3)
section
variable {X:Cx}{scope:Scope}{N':List Str}{ρ:List (Option Nat)}{tg iter elt:Expr}{ifs:List Expr}{pos:Pos}{wi:TI}{g:TG}{tt:TT}{te:TE}
theorem nX {use:Option (Value->Sem Unit)}{pins:List (Addr×Obj)}{s:Shared}{σ:St}{H:Hp}{Q:VK}{QQ:Value->Shared->Prop} (hc:X.calm=true) (hi:PI X tg iter wi)
  (hg: ∀C s H fp,PG (ak X scope N' C s H fp) tg g) (ht: ∀C s H fp,PTs (ak X scope N' C s H fp) ifs tt) (he: ∀C s H fp,PE (ak X scope N' C s H fp) elt te)
  (ck:gG scope X.env.scope X.N N' ρ) (hs: ∀x,foldedSetIterable iter X.env x=pure x) (I:Inv X pins σ H s) (h:iP ρ wi g tt te σ H Q)
  (post: ∀(l C:Addr) (m:Str->Option Value) (H':Hp) (s':Shared),Inv X pins σ H' s'->Q (.ref l) H'->s'.heap.Ns C m->H' C=none->C≠X.env.locals->(X.s₀.heap.objs.size<=C)->(∀x c,X.env.cells.lookup x=some c->c≠C)->(∀p∈X.pn++pins,p.1≠C)->
   compPost (model X.prog X.w) X.A X.xe use QQ (.ref l) C (.ok .next) s'):
  wpAny (model X.prog X.w) X.A (comprehension (.ListComp elt [⟨tg,iter,ifs,0⟩] scope pos) scope X.env (firstIterPos [⟨tg,iter,ifs,0⟩] pos) (newList []) false (eval iter X.env) use) QQ X.xe s:=by
 have hfr:=I.cells_of ck
 refine wpAny_comprehension_free rfl hs (nO hfr) ck.kind ck.loc ?_
 refine thn (hi pins s σ H _ I h) fun v s1 h1=>thn h1 fun itv s2 h2=> ?_
 obtain ⟨it,fp,tn,J,H2,e,I2,T,st2,f2,W,⟨m0,w0⟩,turn⟩:=h2
 subst e
 refine wpAny_newObj_type (nV fun h₁ hns₁ hsb₁ hcl₁ hap₁=> ?_)
 dsimp only at hns₁ hsb₁ hcl₁ hap₁|-
 generalize hH2:s2.heap.push {cls:= .type "list",dict:=none,data:= .seq ([]:List Value).toArray}=G2 at hns₁ hsb₁ hcl₁ hap₁|-
 have hCs:G2.objs.size=s2.heap.objs.size+1:=by rw [<-hH2,Heap.size_push]
 have hlC:s2.heap.objs.size≠G2.objs.size:=by rw [hCs];exact Nat.ne_of_lt (Nat.lt_succ_self _)
 have hC:s2.heap.objs.size<=G2.objs.size:=by rw [hCs];exact Nat.le_succ _
 have old: ∀b o,s2.heap.get? b=some o->h₁.get? b=some o:=fun b o e=>hsb₁ b o (hH2▸Heap.get?_push_of_some _ e)
 have hlo:h₁.get? s2.heap.objs.size=some {cls:= .type "list",data:= .seq ([]:List Value).toArray}:=hsb₁ _ _ (hH2▸Heap.get?_push_size _ rfl)
 have hfo: ∀b∈fp,∃o,s2.heap.get? b=some o:=fun b hb=>let ⟨o,e,_⟩:=T.obj _ _ st2 b hb;⟨o,e⟩
 have I3:Inv (ak X scope N' G2.objs.size s2 H2 fp) [(s2.heap.objs.size,{cls:= .type "list",data:= .seq ([]:List Value).toArray})] (pull ρ σ) H2 {s2 with heap:=h₁}:=
  I2.block (t':=s2.toks) ck f2 hfo old hC hns₁ hcl₁ hap₁ (Nat.le_refl _) hlC hlo (fun v z=>nomatch z)
 have st3:tn 0 h₁:=T.keep _ _ _ st2 fun b _ o e=>old b o e
 have fpok: ∀{Hc:Hp}{lo:Obj},(∀b∈fp,Hc b=none)-> ∀b∈fp,FpOk (ak X scope N' G2.objs.size s2 H2 fp) [(s2.heap.objs.size,lo)] Hc b:=fun {Hc lo} hn b hb=>by
  obtain ⟨o,ho⟩:=hfo b hb
  have ne: ∀{a:Addr},s2.heap.objs.size<=a->b≠a:=fun ha z=>by
   subst z
   exact absurd (Nat.lt_of_lt_of_le (Heap.lt_size ho) ha) (Nat.lt_irrefl _)
  refine ⟨hn b hb,ne hC,ko I2 f2 hb,.inl hb,fun x c e=>by
   rcases cf_look e with ⟨_,g,_⟩|e
   ·exact Ne.symm (ne (by lia))
   ·exact (f2 b hb).2.2.2.2.1 x c (dQ hfr e),fun p hp=> ?_⟩
  have hp':p∈[(s2.heap.objs.size,lo)]:=hp
  rcases List.mem_cons.mp hp' with z|z
  ·subst z;exact Ne.symm (ne (Nat.le_refl _))
  ·exact nomatch z
 have loop: ∀s₃:Shared,s₃={s2 with heap:=h₁}->
   codeAny (model X.prog X.w) X.A (.compLoop (.ListComp elt [⟨tg,iter,ifs,0⟩] scope pos) 0 (.ref it) (.ref s2.heap.objs.size) (compEnvC scope (cellsFrom (G2.objs.size+1) scope.names (cH scope X.env)) G2.objs.size X.env))
    (compPost (model X.prog X.w) X.A X.xe use QQ (.ref s2.heap.objs.size) G2.objs.size) s₃:=by
  rintro s₃ rfl
  refine u9 (fun n s'=> ∃i acc its k σc Hc,Inv (ak X scope N' G2.objs.size s2 H2 fp) [(s2.heap.objs.size,{cls:= .type "list",data:= .seq (its:List Value).toArray k})] σc Hc s'/\Vals acc its/\tn i s'.heap/\(∀b∈fp,Hc b=none)/\W i n acc σc Hc) ?_ m0
   ⟨0,[],[],0,_,_,I3,.nil,st3,fun b hb=>(f2 b hb).1,w0⟩
  rintro n s4 ⟨i,acc,its,k,σ4,H4,I4,rv,st4,fr4,w4⟩
  rcases turn i n acc σ4 H4 w4 with ⟨stop,hz,q⟩|⟨go,hz,N,hN,step⟩
  ·refine thn (T.done (ak X scope N' G2.objs.size s2 H2 fp) rfl rfl rfl hc i _ s4 σ4 H4 X0 I4 (fpok fr4) st4 stop) fun r s5 ⟨hr,I5⟩=> ?_
   subst hr
   obtain ⟨hln,I6⟩:=I2.unblock f2 hC (Nat.le_refl _) I5 rv hz
   obtain ⟨m,hm,_⟩:=I5.loc
   have hcn:H4 G2.objs.size=none:=I5.free
   have f6:=I2.fpOk hC (H':=H2) (I2.hok.fresh hC)
   exact post s2.heap.objs.size G2.objs.size m _ s5 I6 (q _ hln) hm (by rw [ao (Ne.symm hlC)];exact hcn) f6.2.1 (Nat.le_trans I2.sz hC) f6.2.2.2.2.1 f6.2.2.2.2.2
  ·refine thn (T.item (ak X scope N' G2.objs.size s2 H2 fp) rfl rfl rfl hc i _ s4 σ4 H4 X0 I4 (fpok fr4) st4 go) fun r s5 ⟨u,hr,h5⟩=> ?_
   subst hr
   refine thn h5 fun _ s6 ⟨x,H6,I6,r6,y6,st6,fr6⟩=> ?_
   have I6':=I6.pinned (fpok fr6) (T.obj _ _ st6)
   refine thn (hg G2.objs.size s2 H2 fp _ s6 σ4 H6 x u _ I6' r6 (step x H6 y6)) fun _ s7 ⟨σ7,H7,I7,q7⟩=> ?_
   refine thn (ht G2.objs.size s2 H2 fp _ s7 σ7 H7 _ I7 q7) fun b s8 ⟨H8,I8,q8⟩=> ?_
   have stay: ∀{σ9:St}{H9:Hp}{s9:Shared},Inv (ak X scope N' G2.objs.size s2 H2 fp) ([(s2.heap.objs.size,{cls:= .type "list",data:= .seq its.toArray k})]++fe fp s6.heap) σ9 H9 s9->tn (i+1) s9.heap/\ ∀b∈fp,H9 b=none:=fun {σ9 H9 s9} I9=>by
    refine ⟨T.keep _ _ _ st6 fun b hb o e=>(I9.pin (b,o) (List.mem_append_right _ (List.mem_append_right _ (ff hb e)))).1,fun b hb=> ?_⟩
    obtain ⟨o,e,d⟩:=T.obj _ _ st6 b hb
    exact (I9.pin (b,o) (List.mem_append_right _ (List.mem_append_right _ (ff hb e)))).2.1
   cases b with
   |false=>
    rw [if_neg Bool.false_ne_true]
    rw [if_neg Bool.false_ne_true] at q8
    obtain ⟨m',hm,w9⟩:=hN _ _ _ q8
    obtain ⟨a1,a2⟩:=stay I8
    exact ⟨m',hm,i+1,acc,its,k,σ7,H8,I8.unpinned,rv,a1,a2,w9⟩
   |true=>
    rw [if_pos rfl]
    rw [if_pos rfl] at q8
    refine thn (he G2.objs.size s2 H2 fp _ s8 σ7 H8 _ I8 q8) fun y s9 ⟨v,H9,I9,r9,q9⟩=> ?_
    obtain ⟨m',hm,w9⟩:=hN _ _ _ q9
    obtain ⟨a1,a2⟩:=stay I9
    have J9:=I9.unpinned
    obtain ⟨p1,p2,p3,p4,p5⟩:=J9.pin (s2.heap.objs.size,{cls:= .type "list",data:= .seq its.toArray k}) (List.mem_append_right _ List.mem_cons_self)
    have p1:s9.heap.get? s2.heap.objs.size=some {cls:= .type "list",data:= .seq its.toArray k}:=p1
    have hlen:=rv.length
    refine nW p1 (by lia) fun h10 k' g10 sb10=>⟨m',hm,i+1,acc++[v],its++[y],k',σ7,H9,?_,Vals.append rv (.cons r9 .nil),?_,a2,w9⟩
    ·have nfp:s2.heap.objs.size∉fp:=fun z=>by
      obtain ⟨o,e⟩:=hfo _ z
      exact absurd (Heap.lt_size e) (Nat.lt_irrefl _)
     have J10:Inv (ak X scope N' G2.objs.size s2 H2 fp) [] σ7 H9 s9:=J9.pins_of fun p hp=>nomatch hp
     have ncell: ∀x c,(ak X scope N' G2.objs.size s2 H2 fp).env.cells.lookup x=some c->c≠s2.heap.objs.size:=fun x c e z=>by
      obtain ⟨v',o',ho',hd'⟩:=J10.cell x c e
      rw [z,p1] at ho'
      cases ho'
      cases hd'
     have J11:Inv (ak X scope N' G2.objs.size s2 H2 fp) [] σ7 H9 {s9 with heap:=h10}:=J10.turned (t':=s9.toks) (it:=s2.heap.objs.size) (fun b o hb e=>sb10 b o hb e) p2 p3 (.inr (Nat.le_refl _)) ncell (fun p hp=>nomatch hp)
     refine J11.pins_of fun p hp=> ?_
     rcases List.mem_cons.mp hp with z|z
     ·subst z
      exact ⟨g10,p2,p3,p4,fun v z=>nomatch z⟩
     ·exact nomatch z
    ·refine T.keep _ _ _ a1 fun b hb o e=>sb10 b o (fun z=> ?_) e
     subst z
     obtain ⟨o',e'⟩:=hfo _ hb
     exact absurd (Heap.lt_size e') (Nat.lt_irrefl _)
 exact codeAny_compStart_list (loop _ rfl) (T.self X.A 0 _ _ _ st3 (loop _ rfl))
theorem vc (N':List Str) (ρ:List (Option Nat)) (hc:X.calm=true) (hi:PI X tg iter wi)
  (hg: ∀C s H fp,PG (ak X scope N' C s H fp) tg g) (ht: ∀C s H fp,PTs (ak X scope N' C s H fp) ifs tt) (he: ∀C s H fp,PE (ak X scope N' C s H fp) elt te)
  (ck:cS scope X.env.scope X.N N' ρ=true) (hs: ∀x,foldedSetIterable iter X.env x=pure x:=by intro _;rfl):
  PE X (.ListComp elt [⟨tg,iter,ifs,0⟩] scope pos) (iP ρ wi g tt te):=by
 intro pins s σ H Q I h
 rw [eval_ListComp]
 refine nX (use:=none) hc hi hg ht he (iO ck) hs I h fun l C m H' s' I' q hm hC h1 h2 h3 h4=> ?_
 refine ⟨m,hm,fun h'' sb=> ?_⟩
 refine ⟨.ref l,H',?_,rfl,q⟩
 exact I'.turned (t':=s'.toks) (it:=C) (fun b o hb e=>(sb.2 b hb).trans e) hC h1 (.inr h2) h3 h4
theorem nY {i:Nat}{x:Str}{pos' spos:Pos} (N':List Str) (ρ:List (Option Nat)) (hN:X.N.Nodup) (hx:X.N[i]?=some x) (hl:Loc X.env.scope x) (hc:X.calm=true) (hi:PI X tg iter wi)
  (hg: ∀C s H fp,PG (ak X scope N' C s H fp) tg g) (ht: ∀C s H fp,PTs (ak X scope N' C s H fp) ifs tt) (he: ∀C s H fp,PE (ak X scope N' C s H fp) elt te)
  (ck:cS scope X.env.scope X.N N' ρ=true) (hsw:swapsWith (.ListComp elt [⟨tg,iter,ifs,0⟩] scope pos) (some (.Name x pos')) spos.line X.env=pure true:=by rfl)
  (hs: ∀x,foldedSetIterable iter X.env x=pure x:=by intro _;rfl) (hf:X.fn x=true \/X.env.scope.names.lookup x=some .local:=by first|exact .inl rfl|exact .inr rfl|assumption):
  PS X (.Assign [.Name x pos'] (.ListComp elt [⟨tg,iter,ifs,0⟩] scope pos) spos) (tAsg (iP ρ wi g tt te) (eD i)):=by
 intro pins s σ H D I h
 rw [exec_Assign_Name_used _ _ _ _ hsw]
 refine wpAny_bind (wpAny_standAt (wpAny_bind ?_))
 show wpAny _ X.A (do let _<-comprehension (.ListComp elt [⟨tg,iter,ifs,0⟩] scope pos) scope X.env _ (newList []) false (eval iter X.env) (some (assign (.Name x pos') X.env))) _ _ s
 refine wpAny_bind (wpAny_mono (nX (use:=some (assign (.Name x pos') X.env)) (QQ:=fun _ s'=>SP X pins D .next s') (Q:=fun v H'=>D.nx (σ.set i (some v)) H') hc hi hg ht he (iO ck) hs I h fun l C m H' s' I' q hm hC h1 h2 h3 h4=> ?_)
  (fun _ s' hq=>wpAny_pure (wpAny_pure hq)) fun _ _ e=>e)
 show wpAny _ X.A (assign (.Name x pos') X.env (.ref l)) _ _ _
 refine wpAny_assign_Name (mM I' hN hx hl (v:= .ref l) rfl (fun s2 I2 ⟨a,sb,ha⟩=> ?_) hf)
 have neC:C≠a:=by
  rcases ha with z|z
  ·rw [z];exact h1
  ·exact Ne.symm (h3 x a z)
 refine ⟨m,hm.sameBut sb neC,fun h'' sb''=> ?_⟩
 refine ⟨σ.set i (some (.ref l)),H',?_,q⟩
 exact I2.turned (t':=s2.toks) (it:=C) (fun b o hb e=>(sb''.2 b hb).trans e) hC h1 (.inr h2) h3 h4
end
end L2
set_option maxHeartbeats 4000000
namespace L2
open PySem PySem.Spec PyProof.Rows
section
variable {X:Cx}
theorem vd:bp X (.builtin "isinstance") (fun xs H Q=> ∃x T t b,xs=[x,.ty T]/\TyOf X.K H x t/\PySem.W.kitOne X.K t (.type T)=some b/\Q (.bl b) H):=by
 intro pins s σ H xs us Q I r h
 obtain ⟨x,T,t,b,rfl,ty,e,q⟩:=h
 obtain ⟨u,v,rfl,ru,rv⟩:=r.two
 have ev:v=Value.type T:=rv
 subst ev
 exact t7 I ru ty e fun tk=>⟨.bl b,H,I.tok _,rfl,q⟩
noncomputable def nZ (i j:Int):Prop:=IntMulOk i j
theorem gH:OpR X (binaryOp .Mult) (rI nZ fun i j=> .int (i*j)):=opI fun _ _ _ _ _ _ _ hc q=>mul_int q hc
noncomputable def Def (P:Program) (w:World) (K:PySem.W.Frag) (mg:Str->Option Value) (base:Heap) (k:Nat) (x:Str) (ps:List Str) (sp:Sp):Prop:=
 ∃f fd,FnOk P w K mg base CX0 k f fd ps sp/\mg x=some (.ref f)/\PySem.W.keepIn K (.ref f)=true/\cR K fd ps []
noncomputable def tCal (sp:Sp) (t:TA):TE:=fun σ H Q=>t σ H fun vs H1=>sp vs H1 Q E0
theorem n4 {k:Nat}{x:Str}{ps:List Str}{sp:Sp}{e:Expr}{es:List Expr}{t:TA}{p pos:Pos} (D:Def X.prog X.w X.K X.mg X.base k x ps sp) (hr:Room k X.A) (ha:PA X (e::es) t) (hg:Gl X x:=by rfl)
  (hdb:(x==("__debug__":Str))=false:=by decide) (he:starEach (e::es) X.env=(false,eval e X.env)::starEach es X.env:=by rfl) (hpl:(backTo pos (starEach es X.env)).any (·.1)=false:=by rfl):
  PE X (.Call (.Name x p) (e::es) [] pos) (tCal sp t):=by
 obtain ⟨f,fd,F,hm,kp,hb⟩:=D
 intro pins s σ H Q I h
 refine m9 (E:=E0) (dvs:=[]) (ds:=[]) F hr hg hm kp hb .nil nK ha hdb he hpl pins s σ H Q I ?_
 have e:iI sp [] E0 t=tCal sp t:=by
  funext σ H Q
  unfold iI tCal
  congr 1
  funext vs H1
  rw [List.append_nil]
 rw [e]
 exact h
theorem cj {P:Program}{w:World}{K:PySem.W.Frag}{mg:Str->Option Value}{base:Heap}{k:Nat}{x:Str}{ps:List Str}{sp:Sp}{st:Stmt}{f:Addr}{fd:FuncData} (F:Fun K x x st f fd) (hm:mg x=some (.ref f))
  (G:FnOk P w K mg base CX0 k f fd ps sp) (b:cR K fd ps []):Def P w K mg base k x ps sp:=⟨f,fd,G,hm,F.kp,b⟩
end
theorem Same.upd {H:Hp}{a:Addr}{o:HO} (h:H a=none):Same H (upd H a o):=fun b u e=>by
 rw [ao (bQ e h)]
 exact e
theorem bH:bootBuiltins "len"=some (.builtin "len"):=by decide+kernel
theorem iQ:bootBuiltins "isinstance"=some (.builtin "isinstance"):=by decide+kernel
theorem ve:bootBuiltins "sorted"=some (.builtin "sorted"):=by decide+kernel
theorem vf:bootBuiltins "all"=some (.builtin "all"):=by decide+kernel
theorem vg:bootBuiltins "int"=some (.type "int"):=by decide+kernel
theorem cm:bootBuiltins "str"=some (.type "str"):=by decide+kernel
theorem vh:bootBuiltins "list"=some (.type "list"):=by decide+kernel
theorem ku:bootBuiltins "tuple"=some (.type "tuple"):=by decide+kernel
end L2
set_option maxHeartbeats 4000000
namespace L2
open PySem PySem.Spec PyProof.Rows
variable {KF:PySem.W.Frag}
structure LamD where
 qual:Str
 params:Arguments
 body:Expr
 scope:Scope
noncomputable def FnG (H:Hp) (a:Addr) (L:LamD):Prop:= ∃(pm ctv:Value) (c:Addr) (oc:Obj) (vs:Array Value) (t:Tok),H a=some (.frz (PySem.W.kla_obj "<lambda>" L.qual L.params L.body L.scope [] pm c ctv) (.own 0))/\H c=some (.frz oc (.own 0))/\oc.data= .fields vs/\vs[1]?=some (.str L.qual t)
noncomputable def FnC (H:Hp) (a:Addr) (L:LamD) (x:Str) (i:Int):Prop:= ∃(pm ctv:Value) (c cl:Addr) (oc ol:Obj) (vs:Array Value) (t tk:Tok),H a=some (.frz (PySem.W.kla_obj "<lambda>" L.qual L.params L.body L.scope [(x,cl)] pm c ctv) (.own 0))/\H c=some (.frz oc (.own 0))/\H cl=some (.frz ol (.own 0))/\oc.data= .fields vs/\vs[1]?=some (.str L.qual t)/\ol.data= .cell (some (.int i tk))
inductive Dv where
 |non|bl (b:Bool)|int (i:Int)|str (x:Str)|lst (xs:List Dv)|tup (xs:List Dv)|dic (kvs:List (List Key×Dv))
 |scr (ns:List Int)
 |fn (L:LamD)
 |fc (L:LamD) (x:Str) (i:Int)
 |dik (kvs:List (Key×Dv))
 |ins (C:Addr) (fs:List (Str×Dv))
instance:Inhabited Dv:=⟨.non⟩
mutual
noncomputable def Dv.toPy:Dv->PyData
 | .non=> .none
 | .bl b=> .bool b
 | .int i=> .int i
 | .str x=> .str x
 | .lst xs=> .list (dR xs)
 | .tup xs=> .tuple (dR xs)
 | .dic _=> .dict []
 | .scr _=> .dict []
 | .fn _=> .dict []
 | .fc _ _ _=> .dict []
 | .dik _=> .dict []
 | .ins _ _=> .dict []
noncomputable def dR:List Dv->List PyData
 |[]=>[]
 |x::r=>x.toPy::dR r
end
mutual
noncomputable def Dv.imm:Dv->Bool
 | .lst _=>false
 | .dic _=>false
 | .scr _=>false
 | .fn _=>false
 | .fc _ _ _=>false
 | .dik _=>false
 | .ins _ _=>false
 | .tup xs=>imms xs
 |_=>true
noncomputable def imms:List Dv->Bool
 |[]=>true
 |x::r=>x.imm&&imms r
end
noncomputable def Scr (KF:PySem.W.Frag) (H:Hp) (a:Addr) (ns:List Int):Prop:=(∃o,H a=some (.frz o (.lst (ns.map V.int)))) \/
 ∃(o:Obj) (its:Array Value) (n:Nat),KF.lookup a=some o/\o.cls= .type "list"/\o.dict=none/\o.data= .seq its n/\its.size<=sizeLine/\Vals (ns.map V.int) its.toList
theorem Scr.sq {KF:PySem.W.Frag}{H:Hp}{a:Addr}{ns:List Int} (h:Scr KF H a ns):SqL KF H a (ns.map V.int):=by
 rcases h with ⟨o,h⟩|h
 ·exact .inl (.inr ⟨o,h⟩)
 ·exact .inr h
mutual
inductive RepF (KF:PySem.W.Frag) (S:Addr->Prop) (H:Hp):V->Dv->Prop
 |non:RepF KF S H .non .non
 |bl (b:Bool):RepF KF S H (.bl b) (.bl b)
 |int (i:Int):RepF KF S H (.int i) (.int i)
 |str (x:Str):RepF KF S H (.str x) (.str x)
 |lst {a:Addr}{xs:List V}{ds:List Dv}:S a->H a=some (.lst xs)->RepsF KF S H xs ds->RepF KF S H (.ref a) (.lst ds)
 |tup {a:Addr}{xs:List V}{ds:List Dv}:H a=some (.tup xs)->RepsF KF S H xs ds->RepF KF S H (.ref a) (.tup ds)
 |dic {a:Addr}{xs:List (List Key×V)}{ds:List (List Key×Dv)}:S a->Rd H a (.dT xs)->RepsK KF S H xs ds->RepF KF S H (.ref a) (.dic ds)
 |scr {a:Addr}{ns:List Int}:Scr KF H a ns->RepF KF S H (.ref a) (.scr ns)
 |fn {a:Addr}{L:LamD}:FnG H a L->RepF KF S H (.ref a) (.fn L)
 |fc {a:Addr}{L:LamD}{x:Str}{i:Int}:FnC H a L x i->RepF KF S H (.ref a) (.fc L x i)
 |dik {a:Addr}{xs:List (Key×V)}{ds:List (Key×Dv)}:S a->Rd H a (.dK xs)->RepsK KF S H xs ds->RepF KF S H (.ref a) (.dik ds)
 |ins {a C dx:Addr}{xs:List (Str×V)}{ds:List (Str×Dv)}:S a->H a=some (.ins C dx xs)->RepsK KF S H xs ds->RepF KF S H (.ref a) (.ins C ds)
inductive RepsF (KF:PySem.W.Frag) (S:Addr->Prop) (H:Hp):List V->List Dv->Prop
 |nil:RepsF KF S H [] []
 |cons {v:V}{vs:List V}{d:Dv}{ds:List Dv}:RepF KF S H v d->RepsF KF S H vs ds->RepsF KF S H (v::vs) (d::ds)
inductive RepsK (KF:PySem.W.Frag) (S:Addr->Prop) (H:Hp):{κ:Type}->List (κ×V)->List (κ×Dv)->Prop
 |nil {κ:Type}:RepsK KF S H ([]:List (κ×V)) []
 |cons {κ:Type}{k:κ}{v:V}{vs:List (κ×V)}{d:Dv}{ds:List (κ×Dv)}:RepF KF S H v d->RepsK KF S H vs ds->RepsK KF S H ((k,v)::vs) ((k,d)::ds)
end
noncomputable abbrev Imm:Addr->Prop:=fun _=>False
noncomputable def aG (S:Addr->Prop) (H H':Hp):Prop:= ∀a o,H a=some o->((∃xs,o= .tup xs) \/(∃b u,o= .frz b u) \/S a)->H' a=some o
theorem aG.of {S:Addr->Prop}{H H':Hp} (e:Same H H'):aG S H H':=fun a o h _=>e a o h
theorem aG.mono {S S':Addr->Prop}{H H':Hp} (e:aG S' H H') (m: ∀a,S a->S' a):aG S H H':=fun a o h c=>e a o h (c.imp id (.imp id (m a)))
structure Mv (P:Dv->Prop) (KF:PySem.W.Frag) (S S':Addr->Prop) (H H':Hp):Prop where
 lst: ∀{a:Addr}{xs:List V}{ds:List Dv},P (.lst ds)->S a->H a=some (.lst xs)->(S' a/\H' a=some (.lst xs))/\ ∀d∈ds,P d
 tup: ∀{a:Addr}{xs:List V}{ds:List Dv},P (.tup ds)->H a=some (.tup xs)->H' a=some (.tup xs)/\ ∀d∈ds,P d
 dic: ∀{a:Addr}{xs:List (List Key×V)}{ds:List (List Key×Dv)},P (.dic ds)->S a->Rd H a (.dT xs)->(S' a/\Rd H' a (.dT xs))/\ ∀p∈ds,P p.2
 scr: ∀{a:Addr}{ns:List Int},P (.scr ns)->Scr KF H a ns->Scr KF H' a ns
 fn: ∀{a:Addr}{L:LamD},P (.fn L)->FnG H a L->FnG H' a L
 fc: ∀{a:Addr}{L:LamD}{x:Str}{i:Int},P (.fc L x i)->FnC H a L x i->FnC H' a L x i
 dik: ∀{a:Addr}{xs:List (Key×V)}{ds:List (Key×Dv)},P (.dik ds)->S a->Rd H a (.dK xs)->(S' a/\Rd H' a (.dK xs))/\ ∀p∈ds,P p.2
 ins: ∀{a C dx:Addr}{xs:List (Str×V)}{ds:List (Str×Dv)},P (.ins C ds)->S a->H a=some (.ins C dx xs)->(S' a/\H' a=some (.ins C dx xs))/\ ∀p∈ds,P p.2
theorem RepF.mv {P:Dv->Prop}{S S':Addr->Prop}{H H':Hp} (m:Mv P KF S S' H H') {v:V}{d:Dv} (r:RepF KF S H v d):P d->RepF KF S' H' v d:=
 RepF.rec (motive_1:=fun v d _=>P d->RepF KF S' H' v d) (motive_2:=fun vs ds _=>(∀d∈ds,P d)->RepsF KF S' H' vs ds) (motive_3:=fun vs ds _=>(∀p∈ds,P p.2)->RepsK KF S' H' vs ds)
  (fun _=> .non) (fun b _=> .bl b) (fun i _=> .int i) (fun x _=> .str x)
  (fun s h _ f p=>have q:=m.lst p s h; .lst q.1.1 q.1.2 (f q.2))
  (fun h _ f p=>have q:=m.tup p h; .tup q.1 (f q.2))
  (fun s h _ f p=>have q:=m.dic p s h; .dic q.1.1 q.1.2 (f q.2))
  (fun h p=> .scr (m.scr p h)) (fun h p=> .fn (m.fn p h)) (fun h p=> .fc (m.fc p h))
  (fun s h _ f p=>have q:=m.dik p s h; .dik q.1.1 q.1.2 (f q.2))
  (fun s h _ f p=>have q:=m.ins p s h; .ins q.1.1 q.1.2 (f q.2))
  (fun _=> .nil) (fun _ _ f g p=> .cons (f (p _ (List.mem_cons_self ..))) (g fun d hd=>p d (List.mem_cons_of_mem _ hd)))
  (fun _=> .nil) (fun _ _ f g p=> .cons (f (p _ (List.mem_cons_self ..))) (g fun d hd=>p d (List.mem_cons_of_mem _ hd))) r
theorem RepsF.mv {P:Dv->Prop}{S S':Addr->Prop}{H H':Hp} (m:Mv P KF S S' H H'): ∀{vs:List V}{ds:List Dv},RepsF KF S H vs ds->(∀d∈ds,P d)->RepsF KF S' H' vs ds
 |_,_,.nil,_=> .nil
 |_,_,.cons h r,p=> .cons (h.mv m (p _ (List.mem_cons_self ..))) (RepsF.mv m r fun d hd=>p d (List.mem_cons_of_mem _ hd))
theorem RepsK.mv {P:Dv->Prop}{S S':Addr->Prop}{H H':Hp} (m:Mv P KF S S' H H'): ∀{κ:Type}{vs:List (κ×V)}{ds:List (κ×Dv)},RepsK KF S H vs ds->(∀p∈ds,P p.2)->RepsK KF S' H' vs ds
 |_,_,_,.nil,_=> .nil
 |_,_,_,.cons h r,p=> .cons (h.mv m (p _ (List.mem_cons_self ..))) (RepsK.mv m r fun d hd=>p d (List.mem_cons_of_mem _ hd))
noncomputable abbrev AllD:Dv->Prop:=fun _=>True
theorem Mv.of {S S':Addr->Prop}{H H':Hp} (h1: ∀{a:Addr}{xs:List V},S a->H a=some (.lst xs)->S' a/\H' a=some (.lst xs)) (h2: ∀{a:Addr}{xs:List V},H a=some (.tup xs)->H' a=some (.tup xs))
  (h3: ∀{a:Addr}{xs:List (List Key×V)},S a->Rd H a (.dT xs)->S' a/\Rd H' a (.dT xs)) (h4: ∀{a:Addr}{xs:List (Key×V)},S a->Rd H a (.dK xs)->S' a/\Rd H' a (.dK xs))
  (h5: ∀{a C dx:Addr}{xs:List (Str×V)},S a->H a=some (.ins C dx xs)->S' a/\H' a=some (.ins C dx xs)) (h6: ∀{a:Addr}{b:Obj}{u},H a=some (.frz b u)->(∀xs,u≠ .dT xs)->H' a=some (.frz b u)):Mv AllD KF S S' H H':=
 ⟨fun _ s h=>⟨h1 s h,fun _ _=>trivial⟩,fun _ h=>⟨h2 h,fun _ _=>trivial⟩,fun _ s h=>⟨h3 s h,fun _ _=>trivial⟩,fun _ h=>h.imp (fun ⟨o,q⟩=>⟨o,h6 q fun _=>nofun⟩) id,
  fun _ ⟨pm,ctv,c,oc,vs,t,q1,q2,q3⟩=>⟨pm,ctv,c,oc,vs,t,h6 q1 fun _=>nofun,h6 q2 fun _=>nofun,q3⟩,
  fun _ ⟨pm,ctv,c,cl,oc,ol,vs,t,tk,q1,q2,q3,q4⟩=>⟨pm,ctv,c,cl,oc,ol,vs,t,tk,h6 q1 fun _=>nofun,h6 q2 fun _=>nofun,h6 q3 fun _=>nofun,q4⟩,
  fun _ s h=>⟨h4 s h,fun _ _=>trivial⟩,fun _ s h=>⟨h5 s h,fun _ _=>trivial⟩⟩
theorem aG.rd {S:Addr->Prop}{H H':Hp}{a:Addr}{u} (e:aG S H H') (s:S a) (h:Rd H a u):Rd H' a u:=h.imp (fun h=>e _ _ h (.inr (.inr s))) fun ⟨o,h⟩=>⟨o,e _ _ h (.inr (.inl ⟨_,_,rfl⟩))⟩
theorem aG.mv {S:Addr->Prop}{H H':Hp} (e:aG S H H'):Mv AllD KF S S H H':=
 .of (fun s h=>⟨s,e _ _ h (.inr (.inr s))⟩) (fun h=>e _ _ h (.inl ⟨_,rfl⟩)) (fun s h=>⟨s,e.rd s h⟩) (fun s h=>⟨s,e.rd s h⟩) (fun s h=>⟨s,e _ _ h (.inr (.inr s))⟩) (fun h _=>e _ _ h (.inr (.inl ⟨_,_,rfl⟩)))
theorem RepF.keep {S:Addr->Prop}{H H':Hp} (e:aG S H H') {v:V}{d:Dv} (r:RepF KF S H v d):RepF KF S H' v d:=r.mv e.mv trivial
theorem RepsF.keep {S:Addr->Prop}{H H':Hp} (e:aG S H H') {vs:List V}{ds:List Dv} (r:RepsF KF S H vs ds):RepsF KF S H' vs ds:=r.mv e.mv fun _ _=>trivial
theorem RepsK.keep {S:Addr->Prop}{H H':Hp} (e:aG S H H') {κ:Type}{vs:List (κ×V)}{ds:List (κ×Dv)} (r:RepsK KF S H vs ds):RepsK KF S H' vs ds:=r.mv e.mv fun _ _=>trivial
theorem iR {H:Hp}{a:Addr}{o} (h:H a=some o):H a≠none:=by rw [h];exact fun z=>nomatch z
theorem Rd.ne {H:Hp}{a:Addr}{u} (h:Rd H a u):H a≠none:=h.elim iR fun ⟨_,h⟩=>iR h
theorem kw {S S':Addr->Prop}{H:Hp} (m: ∀a,H a≠none->S a->S' a):Mv AllD KF S S' H H:=
 .of (fun s h=>⟨m _ (iR h) s,h⟩) id (fun s h=>⟨m _ h.ne s,h⟩) (fun s h=>⟨m _ h.ne s,h⟩) (fun s h=>⟨m _ (iR h) s,h⟩) fun h _=>h
theorem RepF.mono {S S':Addr->Prop}{H:Hp} (m: ∀a,H a≠none->S a->S' a) {v:V}{d:Dv} (r:RepF KF S H v d):RepF KF S' H v d:=r.mv (kw m) trivial
theorem RepsF.mono {S S':Addr->Prop}{H:Hp} (m: ∀a,H a≠none->S a->S' a) {vs:List V}{ds:List Dv} (r:RepsF KF S H vs ds):RepsF KF S' H vs ds:=r.mv (kw m) fun _ _=>trivial
theorem RepsK.mono {S S':Addr->Prop}{H:Hp} (m: ∀a,H a≠none->S a->S' a) {κ:Type}{vs:List (κ×V)}{ds:List (κ×Dv)} (r:RepsK KF S H vs ds):RepsK KF S' H vs ds:=r.mv (kw m) fun _ _=>trivial
theorem ky: ∀{ds:List Dv},imms ds=true-> ∀d∈ds,d.imm=true
 |[],_,_,h=>nomatch h
 |x::r,h,d,hd=>by
  rw [imms,Bool.and_eq_true] at h
  rcases List.mem_cons.mp hd with rfl|hd
  ·exact h.1
  ·exact ky h.2 d hd
theorem n5 {S S':Addr->Prop}{H:Hp}:Mv (fun d=>d.imm=true) KF S S' H H:=
 ⟨nofun,fun p h=>⟨h,ky p⟩,nofun,nofun,nofun,nofun,nofun,nofun⟩
theorem RepF.imm {S S':Addr->Prop}{H:Hp}{v:V}{d:Dv} (r:RepF KF S H v d) (h:d.imm=true):RepF KF S' H v d:=r.mv n5 h
theorem RepsF.imm {S S':Addr->Prop}{H:Hp}{vs:List V}{ds:List Dv} (r:RepsF KF S H vs ds) (h:imms ds=true):RepsF KF S' H vs ds:=r.mv n5 (ky h)
theorem RepF.same {S:Addr->Prop}{H H':Hp} (e:Same H H') {v:V}{d:Dv} (r:RepF KF S H v d):RepF KF S H' v d:=r.keep (.of e)
theorem RepsF.same {S:Addr->Prop}{H H':Hp} (e:Same H H') {v:List V}{d:List Dv} (r:RepsF KF S H v d):RepsF KF S H' v d:=r.keep (.of e)
theorem RepsF.append {S:Addr->Prop}{H:Hp}: ∀{xs ys:List V}{ds es:List Dv},RepsF KF S H xs ds->RepsF KF S H ys es->RepsF KF S H (xs++ys) (ds++es)
 |_,_,_,_,.nil,s=>s
 |_,_,_,_,.cons h r,s=> .cons h (RepsF.append r s)
theorem RepsF.length {S:Addr->Prop}{H:Hp}: ∀{xs:List V}{ds:List Dv},RepsF KF S H xs ds->xs.length=ds.length
 |_,_,.nil=>rfl
 |_,_,.cons _ r=>congrArg (· +1) (RepsF.length r)
theorem RepsF.get {S:Addr->Prop}{H:Hp}: ∀{xs:List V}{ds:List Dv}{i:Nat}{d:Dv},RepsF KF S H xs ds->ds[i]?=some d-> ∃x,xs[i]?=some x/\RepF KF S H x d
 |_,_,_,_,.nil,e=>by simp at e
 |_,_,0,_,.cons h _,e=>by simp at e;subst e;exact ⟨_,rfl,h⟩
 |_,_,i+1,x,.cons _ r,e=>by
  obtain ⟨d,h1,h2⟩:=RepsF.get (i:=i) r (by simpa using e)
  exact ⟨d,by simpa using h1,h2⟩
theorem RepsF.get' {S:Addr->Prop}{H:Hp}: ∀{xs:List V}{ds:List Dv}{i:Nat}{x:V},RepsF KF S H xs ds->xs[i]?=some x-> ∃d,ds[i]?=some d/\RepF KF S H x d
 |_,_,_,_,.nil,e=>by simp at e
 |_,_,0,_,.cons h _,e=>by simp at e;subst e;exact ⟨_,rfl,h⟩
 |_,_,i+1,x,.cons _ r,e=>by
  obtain ⟨d,h1,h2⟩:=RepsF.get' (i:=i) r (by simpa using e)
  exact ⟨d,by simpa using h1,h2⟩
theorem RepsF.drop {S:Addr->Prop}{H:Hp}: ∀(k:Nat) {xs:List V}{ds:List Dv},RepsF KF S H xs ds->RepsF KF S H (xs.drop k) (ds.drop k)
 |0,_,_,r=>by simpa using r
 |k+1,_,_,.nil=>by simpa using RepsF.nil
 |k+1,_,_,.cons _ r=>by simpa using RepsF.drop k r
theorem RepsF.take {S:Addr->Prop}{H:Hp}: ∀(k:Nat) {xs:List V}{ds:List Dv},RepsF KF S H xs ds->RepsF KF S H (xs.take k) (ds.take k)
 |0,_,_,_=>by simpa using RepsF.nil
 |k+1,_,_,.nil=>by simpa using RepsF.nil
 |k+1,_,_,.cons h r=>by simpa using RepsF.cons h (RepsF.take k r)
theorem RepsF.reverse {S:Addr->Prop}{H:Hp}: ∀{xs:List V}{ds:List Dv},RepsF KF S H xs ds->RepsF KF S H xs.reverse ds.reverse
 |_,_,.nil=> .nil
 |_,_,.cons h r=>by
  rw [List.reverse_cons,List.reverse_cons]
  exact RepsF.append (RepsF.reverse r) (.cons h .nil)
theorem RepsF.set {S:Addr->Prop}{H:Hp}: ∀{xs:List V}{ds:List Dv} (i:Nat) {x:V}{d:Dv},RepsF KF S H xs ds->RepF KF S H x d->RepsF KF S H (xs.set i x) (ds.set i d)
 |_,_,_,_,_,.nil,_=> .nil
 |_,_,0,_,_,.cons _ r,h=> .cons h r
 |_,_,i+1,_,_,.cons a r,h=> .cons a (RepsF.set i r h)
theorem gI {S:Addr->Prop}{H:Hp}: ∀(r:List Int),RepsF KF S H (r.map V.int) (r.map Dv.int)
 |[]=> .nil
 |i::r=> .cons (.int i) (gI r)
theorem RepsF.ints {S:Addr->Prop}{H:Hp}: ∀{xs:List V}{r:List Int},RepsF KF S H xs (r.map Dv.int)->xs=r.map V.int
 |_,[],.nil=>rfl
 |_,i::r,.cons h q=>by
  cases h
  rw [RepsF.ints q]
  all_goals rfl
theorem RepsF.bls {S:Addr->Prop}{H:Hp}: ∀{xs:List V}{r:List Bool},RepsF KF S H xs (r.map Dv.bl)->xs=r.map V.bl
 |_,[],.nil=>rfl
 |_,i::r,.cons h q=>by
  cases h
  rw [RepsF.bls q]
  all_goals rfl
section
variable {X:Cx}{pins:List (Addr×Obj)}{σ:St}{H:Hp}{s:Shared}{S:Addr->Prop}
mutual
theorem RepF.reads (I:Inv X pins σ H s): ∀{v:V}{d:Dv}{u:Value},RepF KF S H v d->RelV v u->PyData.canLay0 d.toPy=true-> ∃as,Reads s.heap u d.toPy as
 |_,_,_,.non,r,_=>by cases r;exact ⟨_,.none⟩
 |_,_,_,.bl b,r,_=>by cases r;exact ⟨_,.bool b⟩
 |_,_,_,.int i,r,_=>by obtain ⟨t,rfl⟩:=r;exact ⟨_,.int i t⟩
 |_,_,_,.str x,r,_=>by obtain ⟨t,rfl⟩:=r;exact ⟨_,.str x t⟩
 |_,_,_,.lst _ h q,r,c=>by
  cases r
  obtain ⟨its,rv,⟨o,n,ho,hc,_,hd⟩,_⟩:=I.list (SqL.of h)
  obtain ⟨as,ra⟩:=RepsF.reads I q rv (by simpa [Dv.toPy,PyData.canLay0] using c)
  exact ⟨_,.list ho hc hd (by simpa using ra)⟩
 |_,_,_,.tup h q,r,c=>by
  cases r
  obtain ⟨its,rv,⟨o,ho,hc,n,hd⟩,_⟩:=I.tuple (SqT.of h)
  obtain ⟨as,ra⟩:=RepsF.reads I q rv (by simpa [Dv.toPy,PyData.canLay0] using c)
  exact ⟨_,.tuple ho hc hd (by simpa using ra)⟩
 |_,_,_,.dic _ _ _,_,c=>by simp [Dv.toPy,PyData.canLay0] at c
 |_,_,_,.scr _,_,c=>by simp [Dv.toPy,PyData.canLay0] at c
 |_,_,_,.fn _,_,c=>by simp [Dv.toPy,PyData.canLay0] at c
 |_,_,_,.fc _,_,c=>by simp [Dv.toPy,PyData.canLay0] at c
 |_,_,_,.dik _ _ _,_,c=>by simp [Dv.toPy,PyData.canLay0] at c
 |_,_,_,.ins _ _ _,_,c=>by simp [Dv.toPy,PyData.canLay0] at c
theorem RepsF.reads (I:Inv X pins σ H s): ∀{vs:List V}{ds:List Dv}{us:List Value},RepsF KF S H vs ds->Vals vs us->PyData.canLayAll0 (dR ds)=true-> ∃as,ReadsAll s.heap us (dR ds) as
 |_,_,_,.nil,r,_=>by cases r;exact ⟨_,.nil⟩
 |_,_,_,.cons h q,r,c=>by
  rw [dR,PyData.canLayAll0,Bool.and_eq_true] at c
  cases r with
  |cons r1 r2=>
   obtain ⟨as,ra⟩:=RepF.reads I h r1 c.1
   obtain ⟨bs,rb⟩:=RepsF.reads I q r2 c.2
   exact ⟨_,.cons ra rb⟩
end
noncomputable def eqOk (x y:Dv):Bool:=x.toPy.canLay0&&y.toPy.canLay0&&decide (min x.toPy.depth y.toPy.depth<=60)
noncomputable def rEqF (KF:PySem.W.Frag):R2:=fun x y H Q=> ∃dx dy,RepF KF (fun _=>True) H x dx/\RepF KF (fun _=>True) H y dy/\eqOk dx dy=true/\Q (.bl (PyData.eqv dx.toPy dy.toPy)) H
noncomputable def rNeF (KF:PySem.W.Frag):R2:=fun x y H Q=> ∃dx dy,RepF KF (fun _=>True) H x dx/\RepF KF (fun _=>True) H y dy/\eqOk dx dy=true/\Q (.bl (!PyData.eqv dx.toPy dy.toPy)) H
theorem n6 {x y:Dv} (h:eqOk x y=true):x.toPy.canLay0=true/\y.toPy.canLay0=true/\min x.toPy.depth y.toPy.depth<=60:=by
 unfold eqOk at h
 rw [Bool.and_eq_true,Bool.and_eq_true] at h
 exact ⟨h.1.1,h.1.2,of_decide_eq_true h.2⟩
theorem cI (hu:X.A.units+64<cLine):OpR X (compareOp .Eq) (rEqF X.K):=by
 intro pins s σ H x y v u Q I rx ry h
 obtain ⟨dx,dy,hx,hy,ok,q⟩:=h
 obtain ⟨cx,cy,dp⟩:=n6 ok
 obtain ⟨as,ra⟩:=hx.reads I rx cx
 obtain ⟨bs,rb⟩:=hy.reads I ry cy
 exact SeqAt.compareEq_reads ra rb cx cy (by lia) ⟨.bl _,H,I,rfl,q⟩
theorem eF (hu:X.A.units+64<cLine):OpR X (compareOp .NotEq) (rNeF X.K):=by
 intro pins s σ H x y v u Q I rx ry h
 obtain ⟨dx,dy,hx,hy,ok,q⟩:=h
 obtain ⟨cx,cy,dp⟩:=n6 ok
 obtain ⟨as,ra⟩:=hx.reads I rx cx
 obtain ⟨bs,rb⟩:=hy.reads I ry cy
 exact SeqAt.compareNe_reads ra rb cx cy (by lia) ⟨.bl _,H,I,rfl,q⟩
end
end L2
set_option maxHeartbeats 4000000
namespace L2
open PySem PySem.Spec PyProof.Rows
variable {KF:PySem.W.Frag}{W W':Addr->Prop}
noncomputable abbrev Dt:=List (Option Dv)
noncomputable abbrev EM:=Dt->Option Dv
noncomputable def isOwn (ms:List Nat) (i:Nat):Bool:=decide (i∈ms)||(decide (i+1000∈ms)||decide (i+2000∈ms))
noncomputable abbrev W0:Addr->Prop:=fun _=>False
noncomputable def Cell (KF:PySem.W.Frag) (H:Hp) (a:Addr):Dv->Prop
 | .lst ds=> ∃xs,H a=some (.lst xs)/\RepsF KF Imm H xs ds
 | .dic ds=> ∃xs,H a=some (.dT xs)/\RepsK KF Imm H xs ds
 |_=>False
mutual
inductive Tree (KF:PySem.W.Frag) (H:Hp):V->Dv->List Addr->Prop
 |imm {v:V}{d:Dv}:RepF KF Imm H v d->Tree KF H v d []
 |lst {a:Addr}{xs:List V}{ds:List Dv}{F:List Addr}:H a=some (.lst xs)->aQ KF H xs ds F->Tree KF H (.ref a) (.lst ds) (a::F)
 |dic {a:Addr}{xs:List (List Key×V)}{ds:List (List Key×Dv)}{F:List Addr}:H a=some (.dT xs)->aR KF H xs ds F->Tree KF H (.ref a) (.dic ds) (a::F)
 |dik {a:Addr}{xs:List (Key×V)}{ds:List (Key×Dv)}{F:List Addr}:H a=some (.dK xs)->aR KF H xs ds F->Tree KF H (.ref a) (.dik ds) (a::F)
 |ins {a C dx:Addr}{xs:List (Str×V)}{ds:List (Str×Dv)}{F:List Addr}:H a=some (.ins C dx xs)->aR KF H xs ds F->Tree KF H (.ref a) (.ins C ds) (a::F)
inductive aQ (KF:PySem.W.Frag) (H:Hp):List V->List Dv->List Addr->Prop
 |nil:aQ KF H [] [] []
 |cons {v:V}{vs:List V}{d:Dv}{ds:List Dv}{F G:List Addr}:Tree KF H v d F->aQ KF H vs ds G->aQ KF H (v::vs) (d::ds) (F++G)
inductive aR (KF:PySem.W.Frag) (H:Hp):{κ:Type}->List (κ×V)->List (κ×Dv)->List Addr->Prop
 |nil {κ:Type}:aR KF H ([]:List (κ×V)) [] []
 |cons {κ:Type}{k:κ}{v:V}{vs:List (κ×V)}{d:Dv}{ds:List (κ×Dv)}{F G:List Addr}:Tree KF H v d F->aR KF H vs ds G->aR KF H ((k,v)::vs) ((k,d)::ds) (F++G)
end
inductive Kd where
 |one|imm|frh|any|bor|dp
noncomputable def Got (KF:PySem.W.Frag) (k:Kd) (W:Addr->Prop) (H H':Hp) (v:V) (d:Dv):Prop:=match k with
 | .one=> ∃a,v= .ref a/\H a=none/\Cell KF H' a d
 | .dp=> ∃F:List Addr,F.Nodup/\(∀b∈F,H b=none)/\Tree KF H' v d F
 | .imm=>RepF KF Imm H' v d
 | .frh=>RepF KF (fun a=>H a=none) H' v d
 | .any=>RepF KF (fun a=> ¬W a) H' v d
 | .bor=>RepF KF (fun _=>True) H' v d
noncomputable def Sft (o:HO):Prop:=(∀xs,o≠ .tup xs)/\ ∀b u,o≠ .frz b u
noncomputable def AnyL (KF:PySem.W.Frag) (W:Addr->Prop) (H:Hp) (a:Addr) (d:Dv):Prop:= ∃xs ds,d= .lst ds/\H a=some (.lst xs)/\RepsF KF (fun b=> ¬W b) H xs ds
noncomputable def cU (KF:PySem.W.Frag) (ms:List Nat) (W:Addr->Prop) (H:Hp) (i:Nat) (a:Addr) (d:Dv) (F:List Addr):Prop:=(i∈ms/\F=[a]/\Cell KF H a d) \/(i∉ms/\i+1000∈ms/\Tree KF H (.ref a) d F) \/(i∉ms/\i+1000∉ms/\F=[a]/\AnyL KF W H a d)
structure Foot (KF:PySem.W.Frag) (ms:List Nat) (W:Addr->Prop) (H0:Hp) (δ:Dt) (σ:St) (H:Hp) (Φ:Nat->List Addr):Prop where
 wr: ∀i b,b∈Φ i->W b/\H0 b=none
 dj: ∀i j b,b∈Φ i->b∈Φ j->i=j
 nd: ∀i,(Φ i).Nodup
 at_: ∀i d,isOwn ms i=true->δ[i]?=some (some d)-> ∃a,σ[i]?=some (some (.ref a))/\cU KF ms W H i a d (Φ i)
structure Rel (KF:PySem.W.Frag) (ms:List Nat) (W:Addr->Prop) (H0:Hp) (δ:Dt) (σ:St) (H:Hp):Prop where
 len:σ.length=δ.length
 keep:Same H0 H
 soft: ∀a,W a-> ∃o,H a=some o/\Sft o
 get: ∀i d,isOwn ms i=false->δ[i]?=some (some d)-> ∃v,σ[i]?=some (some v)/\RepF KF (fun a=> ¬W a) H v d
 foot: ∃Φ,Foot KF ms W H0 δ σ H Φ
theorem Cell.there {H:Hp}{a:Addr}{d:Dv} (h:Cell KF H a d): ∃o,H a=some o/\Sft o:=by
 cases d with
 |lst ds=>obtain ⟨xs,h,_⟩:=h;exact ⟨_,h,fun _ z=>(nomatch z),fun _ _ z=>(nomatch z)⟩
 |dic ds=>obtain ⟨xs,h,_⟩:=h;exact ⟨_,h,fun _ z=>(nomatch z),fun _ _ z=>(nomatch z)⟩
 |_=>exact h.elim
theorem Cell.keep {H H':Hp}{a:Addr}{d:Dv} (h:Cell KF H a d) (e:aG Imm H H') (ha: ∀o,H a=some o->H' a=some o):Cell KF H' a d:=by
 cases d with
 |lst ds=>obtain ⟨xs,h,r⟩:=h;exact ⟨xs,ha _ h,r.keep e⟩
 |dic ds=>obtain ⟨xs,h,r⟩:=h;exact ⟨xs,ha _ h,r.keep e⟩
 |_=>exact h.elim
theorem Cell.same {H H':Hp}{a:Addr}{d:Dv} (h:Cell KF H a d) (e:Same H H'):Cell KF H' a d:=h.keep (.of e) fun o q=>e a o q
theorem Cell.rep {H:Hp}{a:Addr}{d:Dv}{S:Addr->Prop} (h:Cell KF H a d) (s:S a):RepF KF S H (.ref a) d:=by
 cases d with
 |lst ds=>obtain ⟨xs,h,r⟩:=h;exact .lst s h (r.mono fun _ _ z=>z.elim)
 |dic ds=>obtain ⟨xs,h,r⟩:=h;exact .dic s (.inl h) (r.mono fun _ _ z=>z.elim)
 |_=>exact h.elim
section
variable {ms:List Nat}{σ σ':St}{H0 H H1 H2:Hp}{δ:Dt}{v:V}{d:Dv}{k:Kd}
theorem Rel.own (R:Rel KF ms W H0 δ σ H) {a:Addr} (h:W a): ∃o,H a=some o/\Sft o:=R.soft a h
theorem Rel.fresh (R:Rel KF ms W H0 δ σ H) {a:Addr} (h:H a=none): ¬W a:=fun z=>by
 obtain ⟨o,e,_⟩:=R.own z
 rw [h] at e;cases e
theorem Tree.ind {m1:V->Dv->List Addr->Prop}{m2:List V->List Dv->List Addr->Prop}{m3:(κ:Type)->List (κ×V)->List (κ×Dv)->List Addr->Prop} (c1: ∀{v:V}{d:Dv},RepF KF Imm H v d->m1 v d [])
  (c2: ∀{a:Addr}{xs:List V}{ds:List Dv}{F:List Addr},H a=some (.lst xs)->m2 xs ds F->m1 (.ref a) (.lst ds) (a::F))
  (c3: ∀{a:Addr}{xs:List (List Key×V)}{ds:List (List Key×Dv)}{F:List Addr},H a=some (.dT xs)->m3 _ xs ds F->m1 (.ref a) (.dic ds) (a::F))
  (c4: ∀{a:Addr}{xs:List (Key×V)}{ds:List (Key×Dv)}{F:List Addr},H a=some (.dK xs)->m3 _ xs ds F->m1 (.ref a) (.dik ds) (a::F))
  (c5: ∀{a C dx:Addr}{xs:List (Str×V)}{ds:List (Str×Dv)}{F:List Addr},H a=some (.ins C dx xs)->m3 _ xs ds F->m1 (.ref a) (.ins C ds) (a::F))
  (c6:m2 [] [] []) (c7: ∀{v:V}{vs:List V}{d:Dv}{ds:List Dv}{F G:List Addr},m1 v d F->m2 vs ds G->m2 (v::vs) (d::ds) (F++G))
  (c8: ∀{κ:Type},m3 κ [] [] []) (c9: ∀{κ:Type}{k:κ}{v:V}{vs:List (κ×V)}{d:Dv}{ds:List (κ×Dv)}{F G:List Addr},m1 v d F->m3 κ vs ds G->m3 κ ((k,v)::vs) ((k,d)::ds) (F++G)):
  (∀{v:V}{d:Dv}{F:List Addr},Tree KF H v d F->m1 v d F)/\(∀{vs:List V}{ds:List Dv}{F:List Addr},aQ KF H vs ds F->m2 vs ds F)/\ ∀{κ:Type}{vs:List (κ×V)}{ds:List (κ×Dv)}{F:List Addr},aR KF H vs ds F->m3 κ vs ds F:=
 ⟨fun t=>Tree.rec (motive_1:=fun v d F _=>m1 v d F) (motive_2:=fun v d F _=>m2 v d F) (motive_3:=fun {κ} v d F _=>m3 κ v d F) (fun r=>c1 r) (fun h _ f=>c2 h f) (fun h _ f=>c3 h f) (fun h _ f=>c4 h f) (fun h _ f=>c5 h f) c6 (fun _ _ f g=>c7 f g) c8 (fun _ _ f g=>c9 f g) t,
  fun t=>aQ.rec (motive_1:=fun v d F _=>m1 v d F) (motive_2:=fun v d F _=>m2 v d F) (motive_3:=fun {κ} v d F _=>m3 κ v d F) (fun r=>c1 r) (fun h _ f=>c2 h f) (fun h _ f=>c3 h f) (fun h _ f=>c4 h f) (fun h _ f=>c5 h f) c6 (fun _ _ f g=>c7 f g) c8 (fun _ _ f g=>c9 f g) t,
  fun t=>aR.rec (motive_1:=fun v d F _=>m1 v d F) (motive_2:=fun v d F _=>m2 v d F) (motive_3:=fun {κ} v d F _=>m3 κ v d F) (fun r=>c1 r) (fun h _ f=>c2 h f) (fun h _ f=>c3 h f) (fun h _ f=>c4 h f) (fun h _ f=>c5 h f) c6 (fun _ _ f g=>c7 f g) c8 (fun _ _ f g=>c9 f g) t⟩
theorem n9 {xs:List V}:Sft (.lst xs):=⟨fun _ z=>(nomatch z),fun _ _ z=>(nomatch z)⟩
theorem og {xs:List (List Key×V)}:Sft (.dT xs):=⟨fun _ z=>(nomatch z),fun _ _ z=>(nomatch z)⟩
theorem oh {xs:List (Key×V)}:Sft (.dK xs):=⟨fun _ z=>(nomatch z),fun _ _ z=>(nomatch z)⟩
theorem oi {C dx:Addr}{xs:List (Str×V)}:Sft (.ins C dx xs):=⟨fun _ z=>(nomatch z),fun _ _ z=>(nomatch z)⟩
noncomputable abbrev fq (H H1:Hp) (F:List Addr):Prop:= ∀b∈F,∀o,H b=some o->Sft o->H1 b=some o
theorem kz (im: ∀{v:V}{d:Dv},RepF KF Imm H v d->RepF KF Imm H1 v d):(∀{v:V}{d:Dv}{F:List Addr},Tree KF H v d F->fq H H1 F->Tree KF H1 v d F)/\(∀{vs:List V}{ds:List Dv}{F:List Addr},aQ KF H vs ds F->fq H H1 F->aQ KF H1 vs ds F)/\ ∀{κ:Type}{vs:List (κ×V)}{ds:List (κ×Dv)}{F:List Addr},aR KF H vs ds F->fq H H1 F->aR KF H1 vs ds F:=
 Tree.ind (m1:=fun v d F=>fq H H1 F->Tree KF H1 v d F) (m2:=fun v d F=>fq H H1 F->aQ KF H1 v d F) (m3:=fun _ v d F=>fq H H1 F->aR KF H1 v d F) (fun r _=> .imm (im r))
  (fun h r f=> .lst (f _ (List.mem_cons_self ..) _ h n9) (r fun b hb=>f b (List.mem_cons_of_mem _ hb))) (fun h r f=> .dic (f _ (List.mem_cons_self ..) _ h og) (r fun b hb=>f b (List.mem_cons_of_mem _ hb)))
  (fun h r f=> .dik (f _ (List.mem_cons_self ..) _ h oh) (r fun b hb=>f b (List.mem_cons_of_mem _ hb))) (fun h r f=> .ins (f _ (List.mem_cons_self ..) _ h oi) (r fun b hb=>f b (List.mem_cons_of_mem _ hb)))
  (fun _=> .nil) (fun h r f=> .cons (h fun b hb=>f b (List.mem_append_left _ hb)) (r fun b hb=>f b (List.mem_append_right _ hb))) (fun _=> .nil) (fun h r f=> .cons (h fun b hb=>f b (List.mem_append_left _ hb)) (r fun b hb=>f b (List.mem_append_right _ hb)))
theorem Tree.keep (e:aG Imm H H1) {v:V}{d:Dv}{F:List Addr} (t:Tree KF H v d F) (f: ∀b∈F,∀o,H b=some o->H1 b=some o):Tree KF H1 v d F:=(kz fun r=>r.keep e).1 t fun b hb o h _=>f b hb o h
theorem aQ.keep (e:aG Imm H H1) {v:List V}{d:List Dv}{F:List Addr} (t:aQ KF H v d F) (f: ∀b∈F,∀o,H b=some o->H1 b=some o):aQ KF H1 v d F:=(kz fun r=>r.keep e).2.1 t fun b hb o h _=>f b hb o h
theorem aR.keep (e:aG Imm H H1) {κ:Type}{v:List (κ×V)}{d:List (κ×Dv)}{F:List Addr} (t:aR KF H v d F) (f: ∀b∈F,∀o,H b=some o->H1 b=some o):aR KF H1 v d F:=(kz fun r=>r.keep e).2.2 t fun b hb o h _=>f b hb o h
theorem kA {S:Addr->Prop}:(∀{v:V}{d:Dv}{F:List Addr},Tree KF H v d F->(∀b∈F,S b)->RepF KF S H v d)/\(∀{vs:List V}{ds:List Dv}{F:List Addr},aQ KF H vs ds F->(∀b∈F,S b)->RepsF KF S H vs ds)/\ ∀{κ:Type}{vs:List (κ×V)}{ds:List (κ×Dv)}{F:List Addr},aR KF H vs ds F->(∀b∈F,S b)->RepsK KF S H vs ds:=
 Tree.ind (m1:=fun v d F=>(∀b∈F,S b)->RepF KF S H v d) (m2:=fun v d F=>(∀b∈F,S b)->RepsF KF S H v d) (m3:=fun _ v d F=>(∀b∈F,S b)->RepsK KF S H v d) (fun r _=>r.mono fun _ _ z=>z.elim)
  (fun h r f=> .lst (f _ (List.mem_cons_self ..)) h (r fun b hb=>f b (List.mem_cons_of_mem _ hb))) (fun h r f=> .dic (f _ (List.mem_cons_self ..)) (.inl h) (r fun b hb=>f b (List.mem_cons_of_mem _ hb)))
  (fun h r f=> .dik (f _ (List.mem_cons_self ..)) (.inl h) (r fun b hb=>f b (List.mem_cons_of_mem _ hb))) (fun h r f=> .ins (f _ (List.mem_cons_self ..)) h (r fun b hb=>f b (List.mem_cons_of_mem _ hb)))
  (fun _=> .nil) (fun h r f=> .cons (h fun b hb=>f b (List.mem_append_left _ hb)) (r fun b hb=>f b (List.mem_append_right _ hb))) (fun _=> .nil) (fun h r f=> .cons (h fun b hb=>f b (List.mem_append_left _ hb)) (r fun b hb=>f b (List.mem_append_right _ hb)))
theorem Tree.rep {S:Addr->Prop}{v:V}{d:Dv}{F:List Addr} (t:Tree KF H v d F) (f: ∀b∈F,S b):RepF KF S H v d:=kA.1 t f
theorem aQ.rep {S:Addr->Prop}{v:List V}{d:List Dv}{F:List Addr} (t:aQ KF H v d F) (f: ∀b∈F,S b):RepsF KF S H v d:=kA.2.1 t f
theorem aR.rep {S:Addr->Prop}{κ:Type}{v:List (κ×V)}{d:List (κ×Dv)}{F:List Addr} (t:aR KF H v d F) (f: ∀b∈F,S b):RepsK KF S H v d:=kA.2.2 t f
noncomputable abbrev bq (H:Hp) (F:List Addr):Prop:= ∀b∈F,∃o,H b=some o/\Sft o
theorem bq.cons {a:Addr}{F:List Addr}{o:HO} (h:H a=some o) (s:Sft o) (f:bq H F):bq H (a::F):=fun b hb=>(List.mem_cons.mp hb).elim (fun z=>z▸⟨o,h,s⟩) (f b)
theorem bq.app {F G:List Addr} (f:bq H F) (g:bq H G):bq H (F++G):=fun b hb=>(List.mem_append.mp hb).elim (f b) (g b)
theorem kB:(∀{v:V}{d:Dv}{F:List Addr},Tree KF H v d F->bq H F)/\(∀{vs:List V}{ds:List Dv}{F:List Addr},aQ KF H vs ds F->bq H F)/\ ∀{κ:Type}{vs:List (κ×V)}{ds:List (κ×Dv)}{F:List Addr},aR KF H vs ds F->bq H F:=
 Tree.ind (m1:=fun _ _ F=>bq H F) (m2:=fun _ _ F=>bq H F) (m3:=fun _ _ _ F=>bq H F) (fun _ _ hb=>nomatch hb)
  (fun h r=>bq.cons h n9 r) (fun h r=>bq.cons h og r) (fun h r=>bq.cons h oh r) (fun h r=>bq.cons h oi r) (fun _ hb=>nomatch hb) (fun f g=>f.app g) (fun _ hb=>nomatch hb) (fun f g=>f.app g)
theorem Tree.there {v:V}{d:Dv}{F:List Addr} (t:Tree KF H v d F): ∀b∈F,∃o,H b=some o/\Sft o:=kB.1 t
theorem aQ.there {v:List V}{d:List Dv}{F:List Addr} (t:aQ KF H v d F): ∀b∈F,∃o,H b=some o/\Sft o:=kB.2.1 t
theorem aR.there {κ:Type}{v:List (κ×V)}{d:List (κ×Dv)}{F:List Addr} (t:aR KF H v d F): ∀b∈F,∃o,H b=some o/\Sft o:=kB.2.2 t
theorem oj: ∀{xs:List V}{ds:List Dv},RepsF KF Imm H xs ds->aQ KF H xs ds []
 |_,_,.nil=> .nil
 |_,_,.cons h r=> .cons (F:=[]) (G:=[]) (.imm h) (oj r)
theorem om: ∀{xs:List (List Key×V)}{ds:List (List Key×Dv)},RepsK KF Imm H xs ds->aR KF H xs ds []
 |_,_,.nil=> .nil
 |_,_,.cons h r=> .cons (F:=[]) (G:=[]) (.imm h) (om r)
theorem Cell.tree {a:Addr} (c:Cell KF H a d):Tree KF H (.ref a) d [a]:=by
 cases d with
 |lst ds=>obtain ⟨xs,h,r⟩:=c;exact .lst h (oj r)
 |dic ds=>obtain ⟨xs,h,r⟩:=c;exact .dic h (om r)
 |_=>exact c.elim
theorem cU.keep {W':Addr->Prop}{i:Nat}{a:Addr}{F:List Addr} (h:cU KF ms W H i a d F) (e:aG (fun b=> ¬W b) H H1) (f: ∀b∈F,∀o,H b=some o->H1 b=some o) (g: ∀b,¬W b->H b≠none-> ¬W' b):cU KF ms W' H1 i a d F:=by
 have ei:aG Imm H H1:=e.mono fun _ z=>z.elim
 rcases h with ⟨m,ef,c⟩|⟨n,n3,r⟩|⟨n,n2,ef,xs,ds,rfl,h,r⟩
 ·subst ef;exact .inl ⟨m,rfl,c.keep ei (f a (List.mem_cons_self ..))⟩
 ·exact .inr (.inl ⟨n,n3,r.keep ei f⟩)
 ·subst ef
  refine .inr (.inr ⟨n,n2,rfl,xs,ds,rfl,f a (List.mem_cons_self ..) _ h,?_⟩)
  exact (RepsF.keep (S:=fun b=> ¬W b/\H b≠none) (e.mono fun _ z=>z.1) (r.mono fun _ h n=>⟨n,h⟩)).mono fun b _ z=>g b z.1 z.2
theorem cU.rep {i:Nat}{a:Addr}{F:List Addr}{S:Addr->Prop} (h:cU KF ms W H i a d F) (f: ∀b∈F,S b) (g: ∀b,¬W b->S b):RepF KF S H (.ref a) d:=by
 rcases h with ⟨m,ef,c⟩|⟨n,n3,r⟩|⟨n,n2,ef,xs,ds,rfl,h,r⟩
 ·subst ef;exact c.rep (f a (List.mem_cons_self ..))
 ·exact r.rep f
 ·subst ef;exact .lst (f a (List.mem_cons_self ..)) h (r.mono fun b _ z=>g b z)
theorem cU.there {i:Nat}{a:Addr}{F:List Addr} (h:cU KF ms W H i a d F): ∀b∈F,∃o,H b=some o/\Sft o:=by
 rcases h with ⟨m,ef,c⟩|⟨n,n3,r⟩|⟨n,n2,ef,xs,ds,rfl,h,r⟩
 ·subst ef
  intro b hb
  rw [List.mem_singleton.mp hb]
  exact c.there
 ·exact r.there
 ·subst ef
  intro b hb
  rw [List.mem_singleton.mp hb]
  exact ⟨_,h,fun _ z=>(nomatch z),fun _ _ z=>(nomatch z)⟩
theorem Rel.same (R:Rel KF ms W H0 δ σ H) (e:Same H H1):Rel KF ms W H0 δ σ H1:=by
 refine ⟨R.len,fun a o h=>e a o (R.keep a o h),fun a w=> ?_,fun i d n hd=> ?_,?_⟩
 ·obtain ⟨o,ho,so⟩:=R.soft a w
  exact ⟨o,e a o ho,so⟩
 ·obtain ⟨v,hv,r⟩:=R.get i d n hd
  exact ⟨v,hv,r.same e⟩
 ·obtain ⟨Φ,f⟩:=R.foot
  refine ⟨Φ,f.wr,f.dj,f.nd,fun i d n hd=> ?_⟩
  obtain ⟨a,ha,o⟩:=f.at_ i d n hd
  exact ⟨a,ha,o.keep (.of e) (fun b _ o h=>e b o h) fun _ z _=>z⟩
theorem Rel.any (R:Rel KF ms W H0 δ σ H) {i:Nat}{d:Dv} (hd:δ[i]?=some (some d)): ∃v,σ[i]?=some (some v)/\RepF KF (fun _=>True) H v d:=by
 cases n:isOwn ms i with
 |false=>
  obtain ⟨v,hv,r⟩:=R.get i d n hd
  exact ⟨v,hv,r.mono fun _ _ _=>trivial⟩
 |true=>
  obtain ⟨Φ,f⟩:=R.foot
  obtain ⟨a,ha,o⟩:=f.at_ i d n hd
  exact ⟨_,ha,o.rep (fun _ _=>trivial) fun _ _=>trivial⟩
theorem Got.same (g:Got KF k W H H1 v d) (e:Same H1 H2):Got KF k W H H2 v d:=by
 cases k with
 |dp=>obtain ⟨F,nd,h,c⟩:=g;exact ⟨F,nd,h,c.keep (.of e) fun b _ o z=>e b o z⟩
 |one=>obtain ⟨a,ea,h,c⟩:=g;exact ⟨a,ea,h,c.same e⟩
 |imm=>exact RepF.same e g
 |frh=>exact RepF.same e g
 |any=>exact RepF.same e g
 |bor=>exact RepF.same e g
theorem bI (e:Same H H1) {a:Addr} (h:H1 a=none):H a=none:=by
 cases q:H a with
 |none=>rfl
 |some o=>rw [e a o q] at h;cases h
theorem Got.back (g:Got KF k W H1 H2 v d) (e:Same H H1):Got KF k W H H2 v d:=by
 cases k with
 |dp=>obtain ⟨F,nd,h,c⟩:=g;exact ⟨F,nd,fun b hb=>bI e (h b hb),c⟩
 |one=>obtain ⟨a,ea,h,c⟩:=g;exact ⟨a,ea,bI e h,c⟩
 |imm=>exact g
 |frh=>exact RepF.mono (fun a _ h=>bI e h) g
 |any=>exact g
 |bor=>exact g
theorem Got.bor (g:Got KF k W H H1 v d):RepF KF (fun _=>True) H1 v d:=by
 cases k with
 |dp=>obtain ⟨F,nd,h,c⟩:=g;exact c.rep fun _ _=>trivial
 |one=>obtain ⟨a,ea,h,c⟩:=g;subst ea;exact c.rep trivial
 |imm=>exact RepF.mono (fun _ _ z=>z.elim) g
 |frh=>exact RepF.mono (fun _ _ z=>trivial) g
 |any=>exact RepF.mono (fun _ _ z=>trivial) g
 |bor=>exact g
inductive Kd.le:Kd->Kd->Prop
 |refl (k:Kd):Kd.le k k
 |one_frh:Kd.le .one .frh
 |one_any:Kd.le .one .any
 |imm_frh:Kd.le .imm .frh
 |imm_any:Kd.le .imm .any
 |frh_any:Kd.le .frh .any
 |bor (k:Kd):Kd.le k .bor
 |dp_frh:Kd.le .dp .frh
 |dp_any:Kd.le .dp .any
 |one_dp:Kd.le .one .dp
 |imm_dp:Kd.le .imm .dp
theorem Got.le (R:Rel KF ms W H0 δ σ H) {k':Kd} (l:Kd.le k k') (g:Got KF k W H H1 v d):Got KF k' W H H1 v d:=by
 cases l with
 |refl=>exact g
 |one_frh=>obtain ⟨a,ea,h,c⟩:=g;subst ea;exact c.rep h
 |one_any=>obtain ⟨a,ea,h,c⟩:=g;subst ea;exact c.rep (R.fresh h)
 |imm_frh=>exact RepF.mono (fun _ _ z=>z.elim) g
 |imm_any=>exact RepF.mono (fun _ _ z=>z.elim) g
 |frh_any=>exact RepF.mono (fun _ _ z=>R.fresh z) g
 |bor=>exact g.bor
 |dp_frh=>obtain ⟨F,nd,h,c⟩:=g;exact c.rep h
 |dp_any=>obtain ⟨F,nd,h,c⟩:=g;exact c.rep fun b hb=>R.fresh (h b hb)
 |one_dp=>
  obtain ⟨a,ea,h,c⟩:=g
  subst ea
  exact ⟨[a],by simp,fun b hb=>by rw [List.mem_singleton.mp hb];exact h,c.tree⟩
 |imm_dp=>exact ⟨[],List.nodup_nil,fun b hb=>(List.not_mem_nil hb).elim,.imm g⟩
theorem Got.imm (g:Got KF k W H H1 v d) (h:d.imm=true):RepF KF Imm H1 v d:=g.bor.imm h
end
noncomputable def DE (KF:PySem.W.Frag) (ms:List Nat) (k:Kd) (te:TE) (m:EM):Prop:=
 ∀{W:Addr->Prop} (δ:Dt) (σ:St) (H0 H:Hp) (Q:VK) (d:Dv),Rel KF ms W H0 δ σ H->m δ=some d->(∀v H',Same H H'->Got KF k W H H' v d->Q v H')->te σ H Q
noncomputable def PD (X:Cx) (ms:List Nat) (k:Kd) (e:Expr) (m:EM):Prop:= ∃te,PE X e te/\DE X.K ms k te m
noncomputable def DTs (KF:PySem.W.Frag) (ms:List Nat) (tt:TT) (m:Dt->Option Bool):Prop:=
 ∀{W:Addr->Prop} (δ:Dt) (σ:St) (H0 H:Hp) (Q:Bool->Hp->Prop) (b:Bool),Rel KF ms W H0 δ σ H->m δ=some b->(∀H',Same H H'->Q b H')->tt σ H Q
noncomputable def PDt (X:Cx) (ms:List Nat) (e:Expr) (m:Dt->Option Bool):Prop:= ∃tt,PT X e tt/\DTs X.K ms tt m
noncomputable def PDw (X:Cx) (ms:List Nat) (e:Expr) (m:Dt->Option Bool):Prop:= ∃tt,PW X e tt/\DTs X.K ms tt m
noncomputable def Gots (KF:PySem.W.Frag) (k:Kd) (W:Addr->Prop) (H H':Hp):List V->List Dv->Prop
 |[],[]=>True
 |v::vs,d::ds=>Got KF k W H H' v d/\Gots KF k W H H' vs ds
 |_,_=>False
noncomputable def DA (KF:PySem.W.Frag) (ms:List Nat) (k:Kd) (ta:TA) (m:Dt->Option (List Dv)):Prop:=
 ∀{W:Addr->Prop} (δ:Dt) (σ:St) (H0 H:Hp) (Q:List V->Hp->Prop) (ds:List Dv),Rel KF ms W H0 δ σ H->m δ=some ds->(∀vs H',Same H H'->Gots KF k W H H' vs ds->Q vs H')->ta σ H Q
noncomputable def PDa (X:Cx) (ms:List Nat) (k:Kd) (es:List Expr) (m:Dt->Option (List Dv)):Prop:= ∃ta,PA X es ta/\DA X.K ms k ta m
section
variable {ms:List Nat}{σ:St}{H H1 H2:Hp}{k:Kd}
theorem Gots.back: ∀{vs:List V}{ds:List Dv},Gots KF k W H1 H2 vs ds->Same H H1->Gots KF k W H H2 vs ds
 |[],[],_,_=>trivial
 |_::_,_::_,h,e=>⟨h.1.back e,Gots.back h.2 e⟩
 |[],_::_,h,_=>h.elim
 |_::_,[],h,_=>h.elim
theorem Gots.length: ∀{vs:List V}{ds:List Dv},Gots KF k W H H1 vs ds->vs.length=ds.length
 |[],[],_=>rfl
 |_::_,_::_,h=>congrArg (· +1) (Gots.length h.2)
 |[],_::_,h=>h.elim
 |_::_,[],h=>h.elim
theorem Gots.bor: ∀{vs:List V}{ds:List Dv},Gots KF k W H H1 vs ds->RepsF KF (fun _=>True) H1 vs ds
 |[],[],_=> .nil
 |_::_,_::_,h=> .cons h.1.bor (Gots.bor h.2)
 |[],_::_,h=>h.elim
 |_::_,[],h=>h.elim
theorem Gots.anys: ∀{vs:List V}{ds:List Dv},Gots KF .any W H H1 vs ds->RepsF KF (fun a=> ¬W a) H1 vs ds
 |[],[],_=> .nil
 |_::_,_::_,h=> .cons h.1 (Gots.anys h.2)
 |[],_::_,h=>h.elim
 |_::_,[],h=>h.elim
theorem Gots.frhs: ∀{vs:List V}{ds:List Dv},Gots KF .frh W H H1 vs ds->RepsF KF (fun a=>H a=none) H1 vs ds
 |[],[],_=> .nil
 |_::_,_::_,h=> .cons h.1 (Gots.frhs h.2)
 |[],_::_,h=>h.elim
 |_::_,[],h=>h.elim
theorem Gots.imms: ∀{vs:List V}{ds:List Dv},Gots KF .imm W H H1 vs ds->RepsF KF Imm H1 vs ds
 |[],[],_=> .nil
 |_::_,_::_,h=> .cons h.1 (Gots.imms h.2)
 |[],_::_,h=>h.elim
 |_::_,[],h=>h.elim
end
noncomputable def eVar (i:Nat):EM:=fun δ=>(δ[i]?).join
noncomputable def eC (d:Dv):EM:=fun _=>some d
noncomputable def eOp (f:Dv->Dv->Option Dv) (a b:EM):EM:=fun δ=>(a δ).bind fun x=>(b δ).bind fun y=>f x y
noncomputable def eUn (f:Dv->Option Dv) (a:EM):EM:=fun δ=>(a δ).bind f
noncomputable def eImm (a:EM):EM:=fun δ=>(a δ).bind fun x=>if x.imm=true then some x else none
noncomputable def eAnd (a b:EM):EM:=fun δ=>(a δ).bind fun x=>match x with
 | .bl true=>b δ
 | .bl false=>some (.bl false)
 |_=>none
noncomputable def eOr (a b:EM):EM:=fun δ=>(a δ).bind fun x=>match x with
 | .bl true=>some (.bl true)
 | .bl false=>b δ
 |_=>none
noncomputable def eIf (c:Dt->Option Bool) (a b:EM):EM:=fun δ=>(c δ).bind fun x=>if x=true then a δ else b δ
noncomputable def fu:Dv->Option Bool
 | .bl b=>some b
 |_=>none
noncomputable def tOf (a:EM):Dt->Option Bool:=fun δ=>(a δ).bind fu
noncomputable def tyes:Dt->Option Bool:=fun _=>some true
noncomputable def tnot (a:Dt->Option Bool):Dt->Option Bool:=fun δ=>(a δ).map (!·)
noncomputable def tand (a b:Dt->Option Bool):Dt->Option Bool:=fun δ=>(a δ).bind fun x=>if x=true then b δ else some false
noncomputable def tor (a b:Dt->Option Bool):Dt->Option Bool:=fun δ=>(a δ).bind fun x=>if x=true then some true else b δ
noncomputable def aNil:Dt->Option (List Dv):=fun _=>some []
noncomputable def aa (a:EM) (r:Dt->Option (List Dv)):Dt->Option (List Dv):=fun δ=>(a δ).bind fun x=>(r δ).bind fun xs=>some (x::xs)
noncomputable def lim:Nat:=100000
theorem dw {n:Nat} (h:n<=lim):n<sizeLine:=Nat.lt_of_le_of_lt h (by decide)
noncomputable def eTup (a:Dt->Option (List Dv)):EM:=fun δ=>(a δ).bind fun xs=>if xs.length<=lim then some (.tup xs) else none
noncomputable def eLst (a:Dt->Option (List Dv)):EM:=fun δ=>(a δ).bind fun xs=>if xs.length<=lim then some (.lst xs) else none
noncomputable def ba (a:Dt->Option (List Dv)):EM:=fun δ=>(a δ).bind fun xs=>if xs.length<=lim/\imms xs=true then some (.lst xs) else none
noncomputable def dAdd:Dv->Dv->Option Dv
 | .int i,.int j=>some (.int (i+j))
 |_,_=>none
noncomputable def dSub:Dv->Dv->Option Dv
 | .int i,.int j=>some (.int (i-j))
 |_,_=>none
noncomputable def dA (i j:Int):Bool:=decide (i.natAbs<2^64)||decide (j.natAbs<2^64)||(decide (i.natAbs<2^2048)&&decide (j.natAbs<2^2048))
noncomputable def dMul:Dv->Dv->Option Dv
 | .int i,.int j=>if dA i j=true then some (.int (i*j)) else none
 |_,_=>none
noncomputable def dDiv:Dv->Dv->Option Dv
 | .int i,.int j=>if 0<j/\j<1073741824 then some (.int (i/j)) else none
 |_,_=>none
noncomputable def dMod:Dv->Dv->Option Dv
 | .int i,.int j=>if 0<j then some (.int (i%j)) else none
 |_,_=>none
noncomputable def dNeg:Dv->Option Dv
 | .int i=>some (.int (-i))
 |_=>none
noncomputable def dNot:Dv->Option Dv
 | .bl b=>some (.bl (!b))
 |_=>none
noncomputable def dLt:Dv->Dv->Option Dv
 | .int i,.int j=>some (.bl (decide (i<j)))
 |_,_=>none
noncomputable def dLe:Dv->Dv->Option Dv
 | .int i,.int j=>some (.bl (decide (i<=j)))
 |_,_=>none
noncomputable def dGt:Dv->Dv->Option Dv
 | .int i,.int j=>some (.bl (decide (j<i)))
 |_,_=>none
noncomputable def dGe:Dv->Dv->Option Dv
 | .int i,.int j=>some (.bl (decide (j<=i)))
 |_,_=>none
noncomputable def dEq (x y:Dv):Option Dv:=if eqOk x y=true then some (.bl (PyData.eqv x.toPy y.toPy)) else none
noncomputable def dNe (x y:Dv):Option Dv:=if eqOk x y=true then some (.bl (!PyData.eqv x.toPy y.toPy)) else none
noncomputable def dIx:Dv->Dv->Option Dv
 | .lst xs,.int i=>atI xs i
 | .scr ns,.int i=>(atI ns i).map .int
 | .tup xs,.int i=>atI xs i
 |_,_=>none
noncomputable def dLen:Dv->Option Dv
 | .lst xs=>some (.int xs.length)
 | .scr xs=>some (.int xs.length)
 | .tup xs=>some (.int xs.length)
 |_=>none
noncomputable def dCat:Dv->Dv->Option Dv
 | .lst xs,.lst ys=>if xs.length+ys.length<=lim then some (.lst (xs++ys)) else none
 |_,_=>none
section
variable {X:Cx}{ms:List Nat}{k k':Kd}{e a b:Expr}{m ma mb:EM}{pos:Pos}
theorem PD.le (h:PD X ms k e m) (l:Kd.le k k'):PD X ms k' e m:=by
 obtain ⟨te,p,q⟩:=h
 exact ⟨te,p,fun δ σ H0 H Q d R hm hq=>q δ σ H0 H Q d R hm fun v H' s g=>hq v H' s (g.le R l)⟩
theorem kC (h:PD X ms k e m):PD X ms .imm e (eImm m):=by
 obtain ⟨te,p,q⟩:=h
 refine ⟨te,p,fun δ σ H0 H Q d R hm hq=> ?_⟩
 obtain ⟨x,hx,e⟩:=Option.bind_eq_some_iff.mp hm
 split at e
 ·next h=>cases e;exact q δ σ H0 H Q _ R hx fun v H' s g=>hq v H' s (g.imm h)
 ·cases e
theorem PE.pd_c {v:V}{d:Dv} (h:PE X e (tC v)) (r: ∀H,RepF X.K Imm H v d):PD X ms .imm e (eC d):=
 ⟨_,h,fun δ σ H0 H Q d' R hm hq=>by cases hm;exact hq v H (fun _ _ z=>z) (r H)⟩
theorem ai {i j}:PD X ms .imm (.Constant (.int i) j pos) (eC (.int i)):=PE.pd_c sP fun _=> .int i
theorem eG {i j}:PD X ms .imm (.Constant (.bool i) j pos) (eC (.bl i)):=PE.pd_c sQ fun _=> .bl i
theorem on {j}:PD X ms .imm (.Constant .none j pos) (eC .non):=PE.pd_c sR fun _=> .non
theorem pd_str {i j}:PD X ms .imm (.Constant (.str i) j pos) (eC (.str i)):=PE.pd_c sS fun _=> .str i
theorem fw {i:Nat}{δ:Dt}{d:Dv} (h:eVar i δ=some d):δ[i]?=some (some d):=by
 unfold eVar at h
 cases e:δ[i]? with
 |none=>rw [e] at h;cases h
 |some o=>rw [e] at h;cases o with
  |none=>cases h
  |some x=>cases h;rfl
theorem ad (i:Nat) {x:Str} (hi:isOwn ms i=false) (h:PE X (.Name x pos) (tVar i)):PD X ms .any (.Name x pos) (eVar i):=by
 refine ⟨_,h,fun δ σ H0 H Q d R hm hq=> ?_⟩
 obtain ⟨v,hv,r⟩:=R.get i d hi (fw hm)
 exact ⟨v,hv,hq v H (fun _ _ z=>z) r⟩
theorem cV (i:Nat) {x:Str} (h:PE X (.Name x pos) (tVar i)):PD X ms .bor (.Name x pos) (eVar i):=by
 refine ⟨_,h,fun δ σ H0 H Q d R hm hq=> ?_⟩
 obtain ⟨v,hv,r⟩:=R.any (fw hm)
 exact ⟨v,hv,hq v H (fun _ _ z=>z) r⟩
noncomputable def OpD (KF:PySem.W.Frag) (r:R2) (f:Dv->Dv->Option Dv):Prop:=
 ∀(H:Hp) (x y:V) (dx dy d:Dv) (Q:VK),RepF KF (fun _=>True) H x dx->RepF KF (fun _=>True) H y dy->f dx dy=some d->(∀v,RepF KF Imm H v d->Q v H)->r x y H Q
theorem iU {r:R2}{f:Dv->Dv->Option Dv}{ta tb:TE}{k1 k2:Kd} (hf:OpD KF r f) (ha:DE KF ms k1 ta ma) (hb:DE KF ms k2 tb mb):DE KF ms .imm (tOp r ta tb) (eOp f ma mb):=by
 intro W δ σ H0 H Q d R hm hq
 obtain ⟨x,hx,e⟩:=Option.bind_eq_some_iff.mp hm
 obtain ⟨y,hy,e⟩:=Option.bind_eq_some_iff.mp e
 refine ha δ σ H0 H _ x R hx fun v H1 s1 g1=> ?_
 refine hb δ σ H0 H1 _ y (R.same s1) hy fun u H2 s2 g2=> ?_
 exact hf H2 v u x y d Q (g1.same s2).bor g2.bor e fun z rz=>hq z H2 (fun a o h=>s2 a o (s1 a o h)) rz
theorem ag {op:Operator}{r:R2}{f:Dv->Dv->Option Dv}{k1 k2:Kd} (ho:OpR X (binaryOp op) r) (hf:OpD X.K r f) (ha:PD X ms k1 a ma) (hb:PD X ms k2 b mb):PD X ms .imm (.BinOp a op b pos) (eOp f ma mb):=by
 obtain ⟨ta,pa,qa⟩:=ha
 obtain ⟨tb,pb,qb⟩:=hb
 exact ⟨_,j8 ho pa pb,iU hf qa qb⟩
theorem oq {op:CmpOp}{r:R2}{f:Dv->Dv->Option Dv}{k1 k2:Kd} (ho:OpR X (compareOp op) r) (hf:OpD X.K r f) (ha:PD X ms k1 a ma) (hb:PD X ms k2 b mb) (hm:behindInMarks op b=false):PD X ms .imm (.Compare a [op] [b] pos) (eOp f ma mb):=by
 obtain ⟨ta,pa,qa⟩:=ha
 obtain ⟨tb,pb,qb⟩:=hb
 exact ⟨_,tY ho pa pb hm,iU hf qa qb⟩
theorem aK {op:CmpOp}{r:R2}{f:Dv->Dv->Option Dv}{k1 k2:Kd} (ho:OpR X (compareOp op) r) (hf:OpD X.K r f) (ha:PD X ms k1 a ma) (hb:PD X ms k2 b mb) (hm:behindInMarks op b=false):PDt X ms (.Compare a [op] [b] pos) (tOf (eOp f ma mb)):=by
 obtain ⟨ta,pa,qa⟩:=ha
 obtain ⟨tb,pb,qb⟩:=hb
 refine ⟨_,t0 ho pa pb hm,fun δ σ H0 H Q c R hm hq=> ?_⟩
 obtain ⟨x,hx,e⟩:=Option.bind_eq_some_iff.mp hm
 refine iU hf qa qb δ σ H0 H _ x R hx fun v H' s g=> ?_
 cases x with
 |bl z=>cases e;cases g;exact ⟨_,rfl,hq H' s⟩
 |_=>cases e
theorem cJ:OpD KF (rI0 fun i j=> .int (i+j)) dAdd:=by
 intro H x y dx dy d Q rx ry h hq
 unfold dAdd at h
 split at h
 ·cases h;cases rx;cases ry;exact ⟨_,_,rfl,rfl,hq _ (.int _)⟩
 ·cases h
theorem vi:OpD KF (rI0 fun i j=> .int (i-j)) dSub:=by
 intro H x y dx dy d Q rx ry h hq
 unfold dSub at h
 split at h
 ·cases h;cases rx;cases ry;exact ⟨_,_,rfl,rfl,hq _ (.int _)⟩
 ·cases h
theorem iV:OpD KF (rI0 fun i j=> .bl (decide (i<j))) dLt:=by
 intro H x y dx dy d Q rx ry h hq
 unfold dLt at h
 split at h
 ·cases h;cases rx;cases ry;exact ⟨_,_,rfl,rfl,hq _ (.bl _)⟩
 ·cases h
theorem fy:OpD KF (rI0 fun i j=> .bl (decide (j<i))) dGt:=by
 intro H x y dx dy d Q rx ry h hq
 unfold dGt at h
 split at h
 ·cases h;cases rx;cases ry;exact ⟨_,_,rfl,rfl,hq _ (.bl _)⟩
 ·cases h
theorem bV:OpD KF (rI (fun _ j=>0<j) fun i j=> .int (i%j)) dMod:=by
 intro H x y dx dy d Q rx ry h hq
 unfold dMod at h
 split at h
 rotate_left
 ·cases h
 cases rx
 cases ry
 split at h
 ·next c=>cases h;exact ⟨_,_,rfl,rfl,c,hq _ (.int _)⟩
 ·cases h
theorem dU:OpD KF (rI CDiv fun i j=> .int (i/j)) dDiv:=by
 intro H x y dx dy d Q rx ry h hq
 unfold dDiv at h
 split at h
 rotate_left
 ·cases h
 cases rx
 cases ry
 split at h
 ·next c=>cases h;exact ⟨_,_,rfl,rfl,c,hq _ (.int _)⟩
 ·cases h
theorem cK:OpD KF (rEqF KF) dEq:=by
 intro H x y dx dy d Q rx ry h hq
 unfold dEq at h
 split at h
 ·next c=>cases h;exact ⟨_,_,rx,ry,c,hq _ (.bl _)⟩
 ·cases h
theorem eI:OpD KF (rNeF KF) dNe:=by
 intro H x y dx dy d Q rx ry h hq
 unfold dNe at h
 split at h
 ·next c=>cases h;exact ⟨_,_,rx,ry,c,hq _ (.bl _)⟩
 ·cases h
theorem ou {i:Int}{n:Nat} (h:i.natAbs<2^n):Builtin.Int.intBits i<=n:=by
 unfold Builtin.Int.intBits
 split
 ·exact Nat.zero_le _
 ·next h0=>
  have hn:i.natAbs≠0:=fun z=>h0 (by simpa using z)
  exact (Nat.log2_lt hn).mpr h
theorem vj {i j:Int} (h:dA i j=true):IntMulOk i j:=by
 unfold dA at h
 rw [Bool.or_eq_true,Bool.or_eq_true,Bool.and_eq_true] at h
 rcases h with (h|h)|⟨h1,h2⟩
 ·have:=of_decide_eq_true h
  exact (CMul.ok (.inl ⟨by lia,by lia⟩))
 ·have:=of_decide_eq_true h
  exact (CMul.ok (.inr ⟨by lia,by lia⟩))
 ·have h1:=of_decide_eq_true h1
  have h2:=of_decide_eq_true h2
  have b1:=ou h1
  have b2:=ou h2
  exact IntMulOk.of_bits (Nat.le_trans b1 (by decide)) (Nat.le_trans b2 (by decide))
theorem gJ:OpD KF (rI nZ fun i j=> .int (i*j)) dMul:=by
 intro H x y dx dy d Q rx ry h hq
 unfold dMul at h
 split at h
 rotate_left
 ·cases h
 cases rx
 cases ry
 split at h
 ·next c=>cases h;exact ⟨_,_,rfl,rfl,vj c,hq _ (.int _)⟩
 ·cases h
theorem vk {op:UnaryOp}{r:V->Hp->VK->Prop}{f:Dv->Option Dv} (ho:UnR X (unaryOp op) r) (hf: ∀(H:Hp) (x:V) (dx d:Dv) (Q:VK),RepF X.K (fun _=>True) H x dx->f dx=some d->(∀v,RepF X.K Imm H v d->Q v H)->r x H Q)
  (ha:PD X ms k a ma):PD X ms .imm (.UnaryOp op a pos) (eUn f ma):=by
 obtain ⟨ta,pa,qa⟩:=ha
 refine ⟨_,tV ho pa,fun δ σ H0 H Q d R hm hq=> ?_⟩
 obtain ⟨x,hx,e⟩:=Option.bind_eq_some_iff.mp hm
 refine qa δ σ H0 H _ x R hx fun v H1 s1 g1=> ?_
 exact hf H1 v x d Q g1.bor e fun z rz=>hq z H1 s1 rz
theorem vm (ha:PD X ms k a ma):PD X ms .imm (.UnaryOp .USub a pos) (eUn dNeg ma):=vk tX (fun H x dx d Q rx h hq=>by
 cases rx<;>simp only [dNeg] at h<;>first|cases h|skip
 exact ⟨_,rfl,hq _ (.int _)⟩) ha
theorem vn {op} (h:PD X ms k a ma):PD X ms k (.BoolOp op [a] pos) ma:=by
 obtain ⟨ta,pa,qa⟩:=h
 exact ⟨ta,mT pa,qa⟩
theorem vo {rest:List Expr}{k2:Kd} (ha:PD X ms k a ma) (hb:PD X ms k2 (.BoolOp .And (b::rest) pos) mb):PD X ms .bor (.BoolOp .And (a::b::rest) pos) (eAnd ma mb):=by
 obtain ⟨ta,pa,qa⟩:=ha
 obtain ⟨tb,pb,qb⟩:=hb
 refine ⟨_,j4 pa pb,fun δ σ H0 H Q d R hm hq=> ?_⟩
 obtain ⟨x,hx,e⟩:=Option.bind_eq_some_iff.mp hm
 refine qa δ σ H0 H _ x R hx fun v H1 s1 g1=> ?_
 have g:=g1.bor
 cases g with
 |bl c=>
  refine ⟨c,rfl,?_⟩
  cases c with
  |true=>exact qb δ σ H0 H1 _ d (R.same s1) e fun u H2 s2 g2=>hq u H2 (fun a o h=>s2 a o (s1 a o h)) g2.bor
  |false=>cases e;exact hq _ H1 s1 (.bl false)
 |_=>cases e
theorem bJ (h:PD X ms k e m) (he: ∀whole,isTrue e X.env whole=(do let v<-whole;standAt e.pos;holding [v] (truthy v)):=by intro _;rfl):PDt X ms e (tOf m):=by
 obtain ⟨te,pe,qe⟩:=h
 refine ⟨_,sV pe he,fun δ σ H0 H Q c R hm hq=> ?_⟩
 obtain ⟨x,hx,e⟩:=Option.bind_eq_some_iff.mp hm
 refine qe δ σ H0 H _ x R hx fun v H' s g=> ?_
 have g:=g.bor
 cases g with
 |bl z=>cases e;exact ⟨_,rfl,hq H' s⟩
 |_=>cases e
variable {ta' tb':Dt->Option Bool}
theorem bW (h:PDt X ms a ta'):PDt X ms (.UnaryOp .Not a pos) (tnot ta'):=by
 obtain ⟨t,p,q⟩:=h
 refine ⟨_,tj p,fun δ σ H0 H Q c R hm hq=> ?_⟩
 obtain ⟨x,hx,e⟩:=Option.map_eq_some_iff.mp hm
 subst e
 exact q δ σ H0 H _ x R hx fun H' s=>hq H' s
theorem oA (h:PDt X ms a ta'):PDw X ms (.BoolOp .And [a] pos) ta':=by
 obtain ⟨t,p,q⟩:=h
 exact ⟨t,sW p,q⟩
theorem eJ (h:PDt X ms a ta'):PDw X ms (.BoolOp .Or [a] pos) ta':=by
 obtain ⟨t,p,q⟩:=h
 exact ⟨t,sX p,q⟩
theorem oB {rest:List Expr} (h:PDt X ms a ta') (hb:PDw X ms (.BoolOp .And (b::rest) pos) tb'):PDw X ms (.BoolOp .And (a::b::rest) pos) (tand ta' tb'):=by
 obtain ⟨t,p,q⟩:=h
 obtain ⟨u,p2,q2⟩:=hb
 refine ⟨_,sY p p2,fun δ σ H0 H Q c R hm hq=> ?_⟩
 obtain ⟨x,hx,e⟩:=Option.bind_eq_some_iff.mp hm
 refine q δ σ H0 H _ x R hx fun H1 s1=> ?_
 cases x with
 |true=>exact q2 δ σ H0 H1 _ c (R.same s1) e fun H2 s2=>hq H2 fun a o h=>s2 a o (s1 a o h)
 |false=>cases e;exact hq H1 s1
theorem eK {rest:List Expr} (h:PDt X ms a ta') (hb:PDw X ms (.BoolOp .Or (b::rest) pos) tb'):PDw X ms (.BoolOp .Or (a::b::rest) pos) (tor ta' tb'):=by
 obtain ⟨t,p,q⟩:=h
 obtain ⟨u,p2,q2⟩:=hb
 refine ⟨_,sZ p p2,fun δ σ H0 H Q c R hm hq=> ?_⟩
 obtain ⟨x,hx,e⟩:=Option.bind_eq_some_iff.mp hm
 refine q δ σ H0 H _ x R hx fun H1 s1=> ?_
 cases x with
 |false=>exact q2 δ σ H0 H1 _ c (R.same s1) e fun H2 s2=>hq H2 fun a o h=>s2 a o (s1 a o h)
 |true=>cases e;exact hq H1 s1
theorem PDw.pt (h:PDw X ms a ta'):PDt X ms a ta':=by
 obtain ⟨t,p,q⟩:=h
 exact ⟨t,p.pt,q⟩
variable {es:List Expr}{ml:Dt->Option (List Dv)}
theorem aj:PDa X ms k [] aNil:=⟨_,ci,fun δ σ H0 H Q ds R hm hq=>by cases hm;exact hq [] H (fun _ _ z=>z) trivial⟩
theorem af (ha:PD X ms k a ma) (hr:PDa X ms k es ml) (hs:starEach (a::es) X.env=(false,eval a X.env)::starEach es X.env:=by rfl):PDa X ms k (a::es) (aa ma ml):=by
 obtain ⟨ta,pa,qa⟩:=ha
 obtain ⟨tr,pr,qr⟩:=hr
 refine ⟨_,aU pa pr hs,fun δ σ H0 H Q ds R hm hq=> ?_⟩
 obtain ⟨x,hx,e⟩:=Option.bind_eq_some_iff.mp hm
 obtain ⟨xs,hxs,e⟩:=Option.bind_eq_some_iff.mp e
 cases e
 refine qa δ σ H0 H _ x R hx fun v H1 s1 g1=> ?_
 refine qr δ σ H0 H1 _ xs (R.same s1) hxs fun vs H2 s2 g2=> ?_
 exact hq (v::vs) H2 (fun a o h=>s2 a o (s1 a o h)) ⟨g1.same s2,g2.back s1⟩
theorem Same.new {H:Hp}{p:Addr}{o:HO} (h:H p=none):Same H (L2.upd H p o):=Same.upd h
theorem gK {x1} (h:PDa X ms k es ml) (hk:k= .imm \/k= .frh \/k= .any \/k= .bor):PD X ms k (.Tuple es x1 pos) (eTup ml):=by
 obtain ⟨t,p,q⟩:=h
 refine ⟨_,mX p,fun δ σ H0 H Q d R hm hq=> ?_⟩
 obtain ⟨xs,hx,e⟩:=Option.bind_eq_some_iff.mp hm
 split at e
 ·next hl=>
  cases e
  refine q δ σ H0 H _ xs R hx fun vs H1 s1 g1=>⟨?_,fun p hp=> ?_⟩
  ·rw [g1.length];exact Nat.le_of_lt (dw hl)
  ·have s2:=Same.new (o:= .tup vs) hp
   refine hq _ _ (fun a o h=>s2 a o (s1 a o h)) ?_
   rcases hk with rfl|rfl|rfl|rfl
   ·exact .tup az (g1.imms.same s2)
   ·exact .tup az (g1.frhs.same s2)
   ·exact .tup az (g1.anys.same s2)
   ·exact .tup az (g1.bor.same s2)
 ·cases e
theorem cn (h:PDa X ms k es ml):PD X ms .one (.List es pos) (ba ml):=by
 obtain ⟨t,p,q⟩:=h
 refine ⟨_,mY p,fun δ σ H0 H Q d R hm hq=> ?_⟩
 obtain ⟨xs,hx,e⟩:=Option.bind_eq_some_iff.mp hm
 split at e
 ·next hl=>
  cases e
  refine q δ σ H0 H _ xs R hx fun vs H1 s1 g1=>⟨?_,fun p hp=> ?_⟩
  ·rw [g1.length];exact Nat.le_of_lt (dw hl.1)
  ·have s2:=Same.new (o:= .lst vs) hp
   exact hq _ _ (fun a o h=>s2 a o (s1 a o h)) ⟨p,rfl,bI s1 hp,vs,az,(g1.bor.imm hl.2).same s2⟩
 ·cases e
theorem oC (h:PDa X ms .any es ml):PD X ms .any (.List es pos) (eLst ml):=by
 obtain ⟨t,p,q⟩:=h
 refine ⟨_,mY p,fun δ σ H0 H Q d R hm hq=> ?_⟩
 obtain ⟨xs,hx,e⟩:=Option.bind_eq_some_iff.mp hm
 split at e
 ·next hl=>
  cases e
  refine q δ σ H0 H _ xs R hx fun vs H1 s1 g1=>⟨?_,fun p hp=> ?_⟩
  ·rw [g1.length];exact Nat.le_of_lt (dw hl)
  ·have s2:=Same.new (o:= .lst vs) hp
   exact hq _ _ (fun a o h=>s2 a o (s1 a o h)) (.lst ((R.same s1).fresh hp) az (g1.anys.same s2))
 ·cases e
end
end L2
set_option maxHeartbeats 4000000
namespace L2
open PySem PySem.Spec PyProof.Rows
variable {KF:PySem.W.Frag}{W W':Addr->Prop}
theorem Same.tr {H H1 H2:Hp} (a:Same H H1) (b:Same H1 H2):Same H H2:=fun x o h=>b x o (a x o h)
noncomputable def ixKd:Kd->Kd
 | .one=> .imm
 | .dp=> .frh
 |k=>k
section
variable {ms:List Nat}{σ:St}{H H1 H2:Hp}{k:Kd}
theorem RepsF.gots_imm: ∀{xs:List V}{ds:List Dv},RepsF KF Imm H1 xs ds->Gots KF .imm W H H1 xs ds
 |_,_,.nil=>trivial
 |_,_,.cons h r=>⟨h,RepsF.gots_imm r⟩
theorem RepsF.gots_frh: ∀{xs:List V}{ds:List Dv},RepsF KF (fun a=>H a=none) H1 xs ds->Gots KF .frh W H H1 xs ds
 |_,_,.nil=>trivial
 |_,_,.cons h r=>⟨h,RepsF.gots_frh r⟩
theorem RepsF.gots_any: ∀{xs:List V}{ds:List Dv},RepsF KF (fun a=> ¬W a) H1 xs ds->Gots KF .any W H H1 xs ds
 |_,_,.nil=>trivial
 |_,_,.cons h r=>⟨h,RepsF.gots_any r⟩
theorem RepsF.gots_bor: ∀{xs:List V}{ds:List Dv},RepsF KF (fun _=>True) H1 xs ds->Gots KF .bor W H H1 xs ds
 |_,_,.nil=>trivial
 |_,_,.cons h r=>⟨h,RepsF.gots_bor r⟩
theorem Got.lst {v:V}{ds:List Dv} (g:Got KF k W H H1 v (.lst ds)): ∃a xs,v= .ref a/\H1 a=some (.lst xs)/\Gots KF (ixKd k) W H H1 xs ds:=by
 cases k with
 |one=>obtain ⟨a,rfl,_,xs,e,r⟩:=g;exact ⟨a,xs,rfl,e,r.gots_imm⟩
 |dp=>
  obtain ⟨F,nd,h,c⟩:=g
  cases c.rep h with
  |lst s h r=>exact ⟨_,_,rfl,h,r.gots_frh⟩
 |imm=>cases g with|lst s h r=>exact s.elim
 |frh=>cases g with|lst s h r=>exact ⟨_,_,rfl,h,r.gots_frh⟩
 |any=>cases g with|lst s h r=>exact ⟨_,_,rfl,h,r.gots_any⟩
 |bor=>cases g with|lst s h r=>exact ⟨_,_,rfl,h,r.gots_bor⟩
theorem Got.tup {v:V}{ds:List Dv} (g:Got KF k W H H1 v (.tup ds)): ∃a xs,v= .ref a/\H1 a=some (.tup xs)/\Gots KF (ixKd k) W H H1 xs ds:=by
 cases k with
 |one=>obtain ⟨a,rfl,_,c⟩:=g;exact c.elim
 |dp=>
  obtain ⟨F,nd,h,c⟩:=g
  cases c.rep h with
  |tup h r=>exact ⟨_,_,rfl,h,r.gots_frh⟩
 |imm=>cases g with|tup h r=>exact ⟨_,_,rfl,h,r.gots_imm⟩
 |frh=>cases g with|tup h r=>exact ⟨_,_,rfl,h,r.gots_frh⟩
 |any=>cases g with|tup h r=>exact ⟨_,_,rfl,h,r.gots_any⟩
 |bor=>cases g with|tup h r=>exact ⟨_,_,rfl,h,r.gots_bor⟩
theorem vp {v:V}{d:Dv} (r:RepF KF Imm H1 v d):Got KF (ixKd k) W H H1 v d:=by
 cases k with
 |one=>exact r
 |dp=>exact r.mono fun _ _ z=>z.elim
 |imm=>exact r
 |frh=>exact r.mono fun _ _ z=>z.elim
 |any=>exact r.mono fun _ _ z=>z.elim
 |bor=>exact r.mono fun _ _ z=>z.elim
theorem Gots.get: ∀{xs:List V}{ds:List Dv}{j:Nat}{d:Dv},Gots KF k W H H1 xs ds->ds[j]?=some d-> ∃u,xs[j]?=some u/\Got KF k W H H1 u d
 |[],[],_,_,_,e=>by simp at e
 |x::_,_::_,0,_,g,e=>by simp at e;subst e;exact ⟨x,rfl,g.1⟩
 |_::_,_::_,j+1,d,g,e=>by
  obtain ⟨u,h1,h2⟩:=Gots.get (j:=j) (d:=d) g.2 (by simpa using e)
  exact ⟨u,by simpa using h1,h2⟩
 |[],_::_,_,_,g,_=>g.elim
 |_::_,[],_,_,g,_=>g.elim
theorem Gots.atI {xs:List V}{ds:List Dv}{i:Int}{d:Dv} (g:Gots KF k W H H1 xs ds) (e:L2.atI ds i=some d): ∃u,L2.atI xs i=some u/\Got KF k W H H1 u d:=by
 unfold L2.atI at e|-
 rw [g.length]
 obtain ⟨j,hj,e⟩:=Option.bind_eq_some_iff.mp e
 obtain ⟨u,hu,q⟩:=g.get e
 exact ⟨u,by rw [hj];exact hu,q⟩
end
section
variable {X:Cx}{ms:List Nat}{k k1 k2:Kd}{e a b:Expr}{m ma mb:EM}{pos:Pos}
theorem bK (ha:PD X ms k a ma) (hb:PD X ms k2 b mb) (hs:kc b):PD X ms (ixKd k) (.Subscript a b pos) (eOp dIx ma mb):=by
 obtain ⟨ta,pa,qa⟩:=ha
 obtain ⟨tb,pb,qb⟩:=hb
 refine ⟨_,nv ul pa pb hs,fun δ σ H0 H Q d R hm hq=> ?_⟩
 obtain ⟨x,hx,e⟩:=Option.bind_eq_some_iff.mp hm
 obtain ⟨y,hy,e⟩:=Option.bind_eq_some_iff.mp e
 refine qa δ σ H0 H _ x R hx fun v H1 s1 g1=> ?_
 refine qb δ σ H0 H1 _ y (R.same s1) hy fun u H2 s2 g2=> ?_
 have g1:=g1.same s2
 have s12:=s1.tr s2
 have g2:=g2.bor
 cases x with
 |lst ds=>
  cases g2<;>simp only [dIx] at e<;>first|cases e|skip
  obtain ⟨p,xs,rfl,h,r⟩:=g1.lst
  obtain ⟨z,hz,gz⟩:=r.atI e
  exact .inl ⟨p,xs,_,z,rfl,rfl,SqL.of h,hz,hq z H2 s12 gz⟩
 |scr ns=>
  cases g2<;>simp only [dIx] at e<;>first|cases e|skip
  have g:=g1.bor
  cases g with
  |scr h=>
   obtain ⟨z,hz,rfl⟩:=Option.map_eq_some_iff.mp e
   refine .inl ⟨_,_,_,.int z,rfl,rfl,h.sq,?_,hq _ H2 s12 (vp (.int z))⟩
   unfold atI at hz|-
   rw [List.length_map]
   obtain ⟨j,hj,e⟩:=Option.bind_eq_some_iff.mp hz
   rw [hj]
   show (ns.map V.int)[j]?=_
   rw [List.getElem?_map,e]
   rfl
 |tup ds=>
  cases g2<;>simp only [dIx] at e<;>first|cases e|skip
  obtain ⟨p,xs,rfl,h,r⟩:=g1.tup
  obtain ⟨z,hz,gz⟩:=r.atI e
  exact .inr (.inl ⟨p,xs,_,z,rfl,rfl,SqT.of h,hz,hq z H2 s12 gz⟩)
 |_=>cases g2<;>simp only [dIx] at e<;>cases e
noncomputable def PDo (X:Cx) (ms:List Nat) (e:Option Expr) (m:Dt->Option (Option Int)):Prop:= ∃t,PO X e t/\
 ∀{W:Addr->Prop} (δ:Dt) (σ:St) (H0 H:Hp) (Q:Option Int->Hp->Prop) (o:Option Int),Rel X.K ms W H0 δ σ H->m δ=some o->(∀H',Same H H'->Q o H')->t σ H Q
noncomputable def cr:Dt->Option (Option Int):=fun _=>some none
noncomputable def oD:Dv->Option Int
 | .int i=>some i
 |_=>none
noncomputable def bX (m:EM):Dt->Option (Option Int):=fun δ=>(m δ).bind fun d=>(oD d).map some
theorem iW:PDo X ms none cr:=⟨_,uf,fun δ σ H0 H Q o R hm hq=>by cases hm;exact hq H fun _ _ z=>z⟩
theorem iX (h:PD X ms k e m):PDo X ms (some e) (bX m):=by
 obtain ⟨te,p,q⟩:=h
 refine ⟨_,ug p,fun δ σ H0 H Q o R hm hq=> ?_⟩
 obtain ⟨x,hx,e⟩:=Option.bind_eq_some_iff.mp hm
 refine q δ σ H0 H _ x R hx fun v H1 s1 g1=> ?_
 have g:=g1.bor
 cases g<;>simp only [oD] at e<;>cases e
 exact ⟨_,rfl,hq H1 s1⟩
noncomputable def cutD {α:Type} (xs:List α) (lo hi:Option Int):List α:=(xs.drop (HT.sIx xs.length 0 lo)).take (HT.sIx xs.length xs.length hi-HT.sIx xs.length 0 lo)
noncomputable def eSl (m:EM) (lo hi:Dt->Option (Option Int)):EM:=fun δ=>(m δ).bind fun x=>(lo δ).bind fun l=>(hi δ).bind fun h=>match x with
 | .lst ds=>if imms (cutD ds l h)=true then some (.lst (cutD ds l h)) else none
 | .scr ns=>some (.lst (cutD (ns.map Dv.int) l h))
 |_=>none
theorem vq {lo hi:Option Expr}{ml mh:Dt->Option (Option Int)}{p2:Pos} (he:PD X ms k e m) (hl:PDo X ms lo ml) (hh:PDo X ms hi mh):PD X ms .one (.Subscript e (.Slice lo hi none p2) pos) (eSl m ml mh):=by
 obtain ⟨te,p,q⟩:=he
 obtain ⟨tl,pl,ql⟩:=hl
 obtain ⟨th,ph,qh⟩:=hh
 refine ⟨_,j9 uu p pl ph,fun δ σ H0 H Q d R hm hq=> ?_⟩
 obtain ⟨x,hx,e⟩:=Option.bind_eq_some_iff.mp hm
 obtain ⟨l,hl,e⟩:=Option.bind_eq_some_iff.mp e
 obtain ⟨h,hh,e⟩:=Option.bind_eq_some_iff.mp e
 refine q δ σ H0 H _ x R hx fun v H1 s1 g1=> ?_
 refine ql δ σ H0 H1 _ l (R.same s1) hl fun H2 s2=> ?_
 refine qh δ σ H0 H2 _ h (R.same (s1.tr s2)) hh fun H3 s3=> ?_
 have g:=(g1.same (s2.tr s3)).bor
 cases g with
 | @lst a xs ds _ hr r=>
  simp only at e
  split at e
  ·next hi=>
   cases e
   refine ⟨a,xs,rfl,SqL.of hr,fun p hp=> ?_⟩
   have s4:=Same.new (o:= .lst (cutV xs l h)) hp
   have s03:=s1.tr (s2.tr s3)
   refine hq _ _ (s03.tr s4) ⟨p,rfl,bI s03 hp,_,az,?_⟩
   have rr:RepsF X.K (fun _=>True) H3 (cutV xs l h) (cutD ds l h):=by
    unfold cutV cutD
    rw [r.length]
    exact (r.drop _).take _
   exact (rr.imm hi).same s4
  ·cases e
 | @scr a ns hr=>
  cases e
  refine ⟨a,_,rfl,hr.sq,fun p hp=> ?_⟩
  have s4:=Same.new (o:= .lst (cutV (ns.map V.int) l h)) hp
  have s03:=s1.tr (s2.tr s3)
  refine hq _ _ (s03.tr s4) ⟨p,rfl,bI s03 hp,_,az,?_⟩
  have r: ∀HH,RepsF X.K Imm HH (ns.map V.int) (ns.map Dv.int):=fun _=>gI ns
  generalize L2.upd H3 p (.lst (cutV (ns.map V.int) l h))=HH
  unfold cutV cutD
  have:=((r HH).drop (HT.sIx (ns.map V.int).length 0 l)).take (HT.sIx (ns.map V.int).length (ns.map V.int).length h-HT.sIx (ns.map V.int).length 0 l)
  simpa using this
 |_=>cases e
noncomputable def cW (KF:PySem.W.Frag) (r:List V->Hp->VK->Prop) (k:Kd) (f:List Dv->Option Dv):Prop:=
 ∀(W:Addr->Prop) (H:Hp) (vs:List V) (ds:List Dv) (d:Dv) (Q:VK),RepsF KF (fun _=>True) H vs ds->f ds=some d->(∀v H',Same H H'->Got KF k W H H' v d->Q v H')->r vs H Q
noncomputable def ah (f:List Dv->Option Dv) (a:Dt->Option (List Dv)):EM:=fun δ=>(a δ).bind f
variable {es:List Expr}{ml:Dt->Option (List Dv)}{r:List V->Hp->VK->Prop}{f:List Dv->Option Dv}{x:Str}{p:Pos}
theorem bz {id:String} (hc:bp X (.builtin id) r) (hf:cW X.K r k f) (hg:Gl X x) (hm:X.mg x=none) (hv:bootBuiltins x=some (.builtin id)) (ha:PDa X ms k1 (a::es) ml) (hn:x≠"__name__":=by decide) (hdb:(x==("__debug__":Str))=false:=by decide)
  (he:starEach (a::es) X.env=(false,eval a X.env)::starEach es X.env:=by rfl) (hpl:(backTo pos (starEach es X.env)).any (·.1)=false:=by rfl):
  PD X ms k (.Call (.Name x p) (a::es) [] pos) (ah f ml):=by
 obtain ⟨ta,pa,qa⟩:=ha
 refine ⟨_,fj hc hg hm hv pa hn hdb he hpl,fun δ σ H0 H Q d R hm hq=> ?_⟩
 obtain ⟨xs,hx,e⟩:=Option.bind_eq_some_iff.mp hm
 refine qa δ σ H0 H _ xs R hx fun vs H1 s1 g1=> ?_
 exact hf _ H1 vs xs d Q g1.bor e fun v H' s g=>hq v H' (s1.tr s) (g.back s1)
theorem fz {T:String} (hc:bp X (.type T) r) (hf:cW X.K r k f) (hg:Gl X x) (hm:X.mg x=none) (hv:bootBuiltins x=some (.type T)) (ha:PDa X ms k1 (a::es) ml) (hn:x≠"__name__":=by decide) (hdb:(x==("__debug__":Str))=false:=by decide)
  (he:starEach (a::es) X.env=(false,eval a X.env)::starEach es X.env:=by rfl) (hpl:(backTo pos (starEach es X.env)).any (·.1)=false:=by rfl):
  PD X ms k (.Call (.Name x p) (a::es) [] pos) (ah f ml):=by
 obtain ⟨ta,pa,qa⟩:=ha
 refine ⟨_,nq hc hg hm hv pa hn hdb he hpl,fun δ σ H0 H Q d R hm hq=> ?_⟩
 obtain ⟨xs,hx,e⟩:=Option.bind_eq_some_iff.mp hm
 refine qa δ σ H0 H _ xs R hx fun vs H1 s1 g1=> ?_
 exact hf _ H1 vs xs d Q g1.bor e fun v H' s g=>hq v H' (s1.tr s) (g.back s1)
noncomputable def fLen:List Dv->Option Dv
 |[d]=>dLen d
 |_=>none
theorem cL:cW KF (fun xs H Q=> ∃p ys,xs=[.ref p]/\(SqL KF H p ys \/SqT KF H p ys)/\Q (.int ys.length) H) .imm fLen:=by
 intro W H vs ds d Q r e hq
 cases r with
 |nil=>cases e
 |cons h r=>
  cases r with
  |cons _ _=>cases e
  |nil=>
   cases h<;>simp only [fLen,dLen] at e<;>cases e
   ·next a xs ds s h q=>
    refine ⟨a,xs,rfl,.inl (SqL.of h),?_⟩
    rw [q.length]
    exact hq _ H (fun _ _ z=>z) (RepF.int _)
   ·next a xs ds h q=>
    refine ⟨a,xs,rfl,.inr (SqT.of h),?_⟩
    rw [q.length]
    exact hq _ H (fun _ _ z=>z) (RepF.int _)
   ·next a ns h=>
    refine ⟨a,_,rfl,.inl h.sq,?_⟩
    rw [List.length_map]
    exact hq _ H (fun _ _ z=>z) (RepF.int _)
noncomputable def eL:List Dv->Option Dv
 |[.scr ns]=>some (.tup (ns.map .int))
 |[.lst ds]=>if imms ds=true then some (.tup ds) else none
 |[.tup ds]=>if imms ds=true then some (.tup ds) else none
 |_=>none
theorem oE:cW KF (fun xs H Q=> ∃p ys,xs=[.ref p]/\((SqL KF H p ys/\ ∀l,H l=none->Q (.ref l) (upd H l (.tup ys))) \/(SqT KF H p ys/\Q (.ref p) H))) .imm eL:=by
 intro W H vs ds d Q r e hq
 cases r with
 |nil=>cases e
 |cons h r=>
  cases r with
  |cons _ _=>unfold eL at e;split at e<;>first|(next z=>cases z;done)|cases e
  |nil=>
   cases h<;>simp only [eL] at e<;>first|cases e|skip
   ·next a xs ds s h q=>
    split at e
    ·next hi=>
     cases e
     refine ⟨a,xs,rfl,.inl ⟨SqL.of h,fun l hl=> ?_⟩⟩
     have s:=Same.new (o:= .tup xs) hl
     exact hq _ _ s (RepF.tup az ((q.imm hi).same s))
    ·cases e
   ·next a xs ds h q=>
    split at e
    ·next hi=>cases e;exact ⟨a,xs,rfl,.inr ⟨SqT.of h,hq _ H (fun _ _ z=>z) (RepF.tup h (q.imm hi))⟩⟩
    ·cases e
   ·next a ns h=>
    refine ⟨a,_,rfl,.inl ⟨h.sq,fun l hl=> ?_⟩⟩
    exact hq _ _ (Same.new hl) (RepF.tup az (gI ns))
noncomputable def eM:List Dv->Option Dv
 |[.scr ns]=>some (.lst (ns.map .int))
 |[.lst ds]=>if imms ds=true then some (.lst ds) else none
 |[.tup ds]=>if imms ds=true then some (.lst ds) else none
 |_=>none
theorem vt:cW KF (fun xs H Q=> ∃p ys,xs=[.ref p]/\(SqL KF H p ys \/SqT KF H p ys)/\ ∀l,H l=none->Q (.ref l) (upd H l (.lst ys))) .one eM:=by
 intro W H vs ds d Q r e hq
 cases r with
 |nil=>cases e
 |cons h r=>
  cases r with
  |cons _ _=>unfold eM at e;split at e<;>first|(next z=>cases z;done)|cases e
  |nil=>
   cases h<;>simp only [eM] at e<;>first|cases e|skip
   ·next a xs ds s h q=>
    split at e
    ·next hi=>
     cases e
     refine ⟨a,xs,rfl,.inl (SqL.of h),fun l hl=> ?_⟩
     have s:=Same.new (o:= .lst xs) hl
     exact hq _ _ s ⟨l,rfl,hl,_,az,(q.imm hi).same s⟩
    ·cases e
   ·next a xs ds h q=>
    split at e
    ·next hi=>
     cases e
     refine ⟨a,xs,rfl,.inr (SqT.of h),fun l hl=> ?_⟩
     have s:=Same.new (o:= .lst xs) hl
     exact hq _ _ s ⟨l,rfl,hl,_,az,(q.imm hi).same s⟩
    ·cases e
   ·next a ns h=>
    refine ⟨a,_,rfl,.inl h.sq,fun l hl=> ?_⟩
    exact hq _ _ (Same.new hl) ⟨l,rfl,hl,_,az,gI ns⟩
noncomputable def gL (x y:Dv):Option Dv:=(dCat x y).bind fun z=>match z with
 | .lst ds=>if imms ds=true then some (.lst ds) else none
 |_=>none
noncomputable def vv:R2:=fun x y H Q=> ∃l b xs zs,x= .ref l/\y= .ref b/\H l=some (.lst xs)/\H b=some (.lst zs)/\xs.length+zs.length<=sizeLine/\ ∀p,H p=none->Q (.ref p) (upd H p (.lst (xs++zs)))
theorem oF:OpR X (binaryOp .Add) vv:=by
 intro pins s σ H x y v u Q I rx ry h
 obtain ⟨l,b,xs,zs,rfl,rfl,hH,hB,hz,q⟩:=h
 cases rx
 cases ry
 obtain ⟨z,its,n,r,e⟩:=(show Rd H l (.lst xs) from .inl hH).ok I.hok
 obtain ⟨z2,its2,n2,r2,e2⟩:=(show Rd H b (.lst zs) from .inl hB).ok I.hok
 have hl:=r.length
 have hl2:=r2.length
 refine PySem.P.add_list e e2 ?_ (by rw [List.size_toArray,List.size_toArray];lia)
 have ea:its.toArray++its2.toArray=(its++its2).toArray:=by simp
 rw [ea]
 exact ⟨.ref _,_,I.lnew (t':=s.toks) (r.append r2) (by rw [List.length_append];lia),rfl,q _ I.fresh⟩
theorem vw (ha:PD X ms k1 a ma) (hb:PD X ms k2 b mb):PD X ms .one (.BinOp a .Add b pos) (eOp gL ma mb):=by
 obtain ⟨ta,pa,qa⟩:=ha
 obtain ⟨tb,pb,qb⟩:=hb
 refine ⟨_,j8 oF pa pb,fun δ σ H0 H Q d R hm hq=> ?_⟩
 obtain ⟨x,hx,e⟩:=Option.bind_eq_some_iff.mp hm
 obtain ⟨y,hy,e⟩:=Option.bind_eq_some_iff.mp e
 obtain ⟨z,hz,e⟩:=Option.bind_eq_some_iff.mp e
 refine qa δ σ H0 H _ x R hx fun v H1 s1 g1=> ?_
 refine qb δ σ H0 H1 _ y (R.same s1) hy fun u H2 s2 g2=> ?_
 have g1:=(g1.same s2).bor
 have g2:=g2.bor
 cases g1 with
 | @lst p1 vs xs _ e1 r1=>
  cases g2 with
  | @lst p2 us ys _ e2 r2=>
   simp only [dCat] at hz
   split at hz
   ·next hl=>
    cases hz
    simp only at e
    split at e
    ·next hi=>
     cases e
     refine ⟨p1,p2,vs,us,rfl,rfl,e1,e2,?_,fun p hp=> ?_⟩
     ·rw [r1.length,r2.length];exact Nat.le_of_lt (dw hl)
     ·have s:=Same.new (o:= .lst (vs++us)) hp
      exact hq _ _ (s1.tr (s2.tr s)) ⟨p,rfl,bI (s1.tr s2) hp,_,az,((r1.append r2).imm hi).same s⟩
    ·cases e
   ·cases hz
  |_=>cases hz
 |_=>cases hz
end
end L2
set_option maxHeartbeats 4000000
namespace L2
open PySem PySem.Spec PyProof.Rows
variable {KF:PySem.W.Frag}{W W':Addr->Prop}
noncomputable def dB (W:Addr->Prop) (H H':Hp):Prop:= ∀a o,H a=some o-> ¬W a->H' a=some o
noncomputable def IOk (KF:PySem.W.Frag) (W:Addr->Prop) (lp:Bool) (H:Hp) (J:It) (ds:List Dv):Prop:=
 ds.length<=lim/\ ∀H',Same H H' \/(lp=true/\dB W H H')->(∀i,i<ds.length->J.go i H')/\(∀i x H'',i<ds.length->J.yld i H' x H''->H''=H'/\ ∃d,ds[i]?=some d/\RepF KF (fun a=> ¬W a/\H a≠none) H' x d)/\J.stop ds.length H'
noncomputable def PDi (X:Cx) (ms:List Nat) (lp:Bool) (tg iter:Expr) (m:Dt->Option (List Dv)):Prop:= ∃wi,PI X tg iter wi/\
 ∀{W:Addr->Prop} (δ:Dt) (σ:St) (H0 H:Hp) (R:It->Hp->Prop) (ds:List Dv),Rel X.K ms W H0 δ σ H->m δ=some ds->(∀J H',Same H H'->IOk X.K W lp H' J ds->R J H')->wi σ H R
noncomputable def iL (m:EM):Dt->Option (List Dv):=fun δ=>(m δ).bind fun x=>match x with
 | .scr ns=>if ns.length<=lim then some (ns.map .int) else none
 | .lst ds=>if ds.length<=lim then some ds else none
 |_=>none
noncomputable def iLI (m:EM):Dt->Option (List Dv):=fun δ=>(m δ).bind fun x=>match x with
 | .lst ds=>if ds.length<=lim/\imms ds=true then some ds else none
 |_=>none
noncomputable def iT (m:EM):Dt->Option (List Dv):=fun δ=>(m δ).bind fun x=>match x with
 | .tup ds=>if ds.length<=lim then some ds else none
 |_=>none
noncomputable def iTI (m:EM):Dt->Option (List Dv):=fun δ=>(m δ).bind fun x=>match x with
 | .tup ds=>if ds.length<=lim/\imms ds=true then some ds else none
 |_=>none
noncomputable def bS (lo:Int) (n:Nat):List Dv:=(List.range n).map fun (i:Nat)=> .int (lo+(i:Int))
noncomputable def iR1 (m:EM):Dt->Option (List Dv):=fun δ=>(m δ).bind fun x=>match x with
 | .int j=>if-(2^60)<=j/\j<=lim then some (bS 0 j.toNat) else none
 |_=>none
theorem dB.keeps {ms:List Nat}{σ:St}{H H':Hp}{H0:Hp}{δ:Dt} (R:Rel KF ms W H0 δ σ H) (s:dB W H H'):aG (fun a=> ¬W a) H H':=fun a o h c=>by
 rcases c with ⟨xs,rfl⟩|⟨b,u,rfl⟩|c
 ·exact s a _ h fun z=>by
   obtain ⟨o',e',n⟩:=R.own z
   rw [h] at e';cases e'
   exact n.1 xs rfl
 ·exact s a _ h fun z=>by
   obtain ⟨o',e',n⟩:=R.own z
   rw [h] at e';cases e'
   exact n.2 b u rfl
 ·exact s a o h c
theorem kD {lo:Int}{n i:Nat} (h:i<n):(bS lo n)[i]?=some (.int (lo+(i:Int))):=by
 unfold bS
 rw [List.getElem?_map,List.getElem?_range h]
 rfl
theorem gM (lo:Int) (n:Nat):(bS lo n).length=n:=by unfold bS;simp
section
variable {X:Cx}{ms:List Nat}{k:Kd}{lp:Bool}{tg e a b:Expr}{m ma mb:EM}{pos:Pos}
theorem vx {σ:St}{H H0:Hp}{δ:Dt}{p:Addr}{xs:List V}{ds:List Dv} (R:Rel KF ms W H0 δ σ H) (n: ¬W p) (h:H p=some (.lst xs)) (r:RepsF KF (fun a=> ¬W a) H xs ds) (hz:ds.length<=lim):IOk KF W lp H (Itl KF p) ds:=by
 refine ⟨hz,fun H' s=> ?_⟩
 have kp:aG (fun a=> ¬W a) H H':=by
  rcases s with s|⟨_,s⟩
  ·exact .of s
  ·exact dB.keeps R s
 have h':=kp _ _ h (.inr (.inr n))
 have r':=RepsF.keep (S:=fun a=> ¬W a/\H a≠none) (kp.mono fun _ z=>z.1) (r.mono fun _ h n=>⟨n,h⟩)
 refine ⟨fun i hi=> ?_,fun i x H'' hi y=> ?_,⟨xs,SqL.of h',by rw [r.length];exact Nat.le_refl _⟩⟩
 ·have hx:i<xs.length:=by rw [r.length];exact hi
  exact ⟨xs,xs[i],SqL.of h',by simp [hx]⟩
 ·obtain ⟨e1,e2⟩:=y
  obtain ⟨d,hd,rd⟩:=r'.get' (e2 xs (SqL.of h'))
  exact ⟨e1,d,hd,rd⟩
theorem vy {H:Hp}{p:Addr}{xs:List V}{ds:List Dv} (h:H p=some (.lst xs)) (r:RepsF KF Imm H xs ds) (hz:ds.length<=lim):IOk KF W false H (Itl KF p) ds:=by
 refine ⟨hz,fun H' s=> ?_⟩
 have s:Same H H':=by
  rcases s with s|⟨z,_⟩
  ·exact s
  ·cases z
 have h':=s _ _ h
 have r':=r.same s
 refine ⟨fun i hi=> ?_,fun i x H'' hi y=> ?_,⟨xs,SqL.of h',by rw [r.length];exact Nat.le_refl _⟩⟩
 ·have hx:i<xs.length:=by rw [r.length];exact hi
  exact ⟨xs,xs[i],SqL.of h',by simp [hx]⟩
 ·obtain ⟨e1,e2⟩:=y
  obtain ⟨d,hd,rd⟩:=r'.get' (e2 xs (SqL.of h'))
  exact ⟨e1,d,hd,rd.mono fun _ _ z=>z.elim⟩
theorem vz {σ:St}{H H0:Hp}{δ:Dt}{p:Addr}{ns:List Int} (R:Rel KF ms W H0 δ σ H) (h:Scr KF H p ns) (hz:ns.length<=lim):IOk KF W lp H (Itl KF p) (ns.map .int):=by
 refine ⟨by rw [List.length_map];exact hz,fun H' s=> ?_⟩
 have kp:aG (fun a=> ¬W a) H H':=by
  rcases s with s|⟨_,s⟩
  ·exact .of s
  ·exact dB.keeps R s
 have h':Scr KF H' p ns:=h.imp (fun ⟨o,q⟩=>⟨o,kp _ _ q (.inr (.inl ⟨_,_,rfl⟩))⟩) id
 rw [List.length_map]
 refine ⟨fun i hi=> ?_,fun i x H'' hi y=> ?_,⟨_,h'.sq,by rw [List.length_map];exact Nat.le_refl _⟩⟩
 ·exact ⟨_,.int ns[i],h'.sq,by simp [hi]⟩
 ·obtain ⟨e1,e2⟩:=y
  have e3:=e2 _ h'.sq
  rw [List.getElem?_map,List.getElem?_eq_getElem hi] at e3
  cases e3
  exact ⟨e1,.int ns[i],by simp [hi],.int _⟩
theorem vA {σ:St}{H H0:Hp}{δ:Dt}{p:Addr}{xs:List V}{ds:List Dv} (R:Rel KF ms W H0 δ σ H) (h:H p=some (.tup xs)) (r:RepsF KF (fun a=> ¬W a) H xs ds) (hz:ds.length<=lim):IOk KF W lp H (Itt KF p) ds:=by
 refine ⟨hz,fun H' s=> ?_⟩
 have kp:aG (fun a=> ¬W a) H H':=by
  rcases s with s|⟨_,s⟩
  ·exact .of s
  ·exact dB.keeps R s
 have h':=kp _ _ h (.inl ⟨xs,rfl⟩)
 have r':=RepsF.keep (S:=fun a=> ¬W a/\H a≠none) (kp.mono fun _ z=>z.1) (r.mono fun _ h n=>⟨n,h⟩)
 refine ⟨fun i hi=> ?_,fun i x H'' hi y=> ?_,⟨xs,SqT.of h',by rw [r.length];exact Nat.le_refl _⟩⟩
 ·have hx:i<xs.length:=by rw [r.length];exact hi
  exact ⟨xs,xs[i],SqT.of h',by simp [hx]⟩
 ·obtain ⟨e1,e2⟩:=y
  obtain ⟨d,hd,rd⟩:=r'.get' (e2 xs (SqT.of h'))
  exact ⟨e1,d,hd,rd⟩
theorem vB {H:Hp}{lo:Int}{n:Nat} (hz:n<=lim):IOk KF W lp H (Itr lo n) (bS lo n):=by
 refine ⟨by rw [gM];exact hz,fun H' s=> ?_⟩
 rw [gM]
 refine ⟨fun i hi=>hi,fun i x H'' hi y=> ?_,Nat.le_refl n⟩
 obtain ⟨e1,e2⟩:=y
 subst e2
 exact ⟨e1,_,kD hi,.int _⟩
theorem cu (h:PD X ms .any e m):PDi X ms lp tg e (iL m):=by
 obtain ⟨te,p,q⟩:=h
 refine ⟨_,mV p,fun δ σ H0 H R ds L hm hq=> ?_⟩
 obtain ⟨x,hx,e⟩:=Option.bind_eq_some_iff.mp hm
 refine q δ σ H0 H _ x L hx fun v H1 s1 g=> ?_
 cases x with
 |lst zs=>
  simp only at e
  split at e
  ·next hz=>
   cases e
   cases g with
   |lst n h r=>exact ⟨_,rfl,⟨_,SqL.of h⟩,hq _ H1 s1 (vx (L.same s1) n h r hz)⟩
  ·cases e
 |scr ns=>
  simp only at e
  split at e
  ·next hz=>
   cases e
   cases g with
   |scr h=>exact ⟨_,rfl,⟨_,h.sq⟩,hq _ H1 s1 (vz (L.same s1) h hz)⟩
  ·cases e
 |_=>cases e
theorem vC (h:PD X ms k e m):PDi X ms false tg e (iLI m):=by
 obtain ⟨te,p,q⟩:=h
 refine ⟨_,mV p,fun δ σ H0 H R ds L hm hq=> ?_⟩
 obtain ⟨x,hx,e⟩:=Option.bind_eq_some_iff.mp hm
 refine q δ σ H0 H _ x L hx fun v H1 s1 g=> ?_
 cases x with
 |lst zs=>
  simp only at e
  split at e
  ·next hi=>
   cases e
   cases g.bor with
   |lst n h r=>exact ⟨_,rfl,⟨_,SqL.of h⟩,hq _ H1 s1 (vy h (r.imm hi.2) hi.1)⟩
  ·cases e
 |_=>cases e
theorem vD (h:PD X ms .any e m):PDi X ms lp tg e (iT m):=by
 obtain ⟨te,p,q⟩:=h
 refine ⟨_,tP p,fun δ σ H0 H R ds L hm hq=> ?_⟩
 obtain ⟨x,hx,e⟩:=Option.bind_eq_some_iff.mp hm
 refine q δ σ H0 H _ x L hx fun v H1 s1 g=> ?_
 cases x with
 |tup zs=>
  simp only at e
  split at e
  ·next hz=>
   cases e
   cases g with
   |tup h r=>exact ⟨_,rfl,⟨_,SqT.of h⟩,hq _ H1 s1 (vA (L.same s1) h r hz)⟩
  ·cases e
 |_=>cases e
theorem vE {j:Int} (h:j<=(lim:Int)):j<2^62:=Int.lt_of_le_of_lt h (by decide)
theorem kE {p:Pos} (hg:Gl X "range") (hm:X.mg "range"=none) (h:PD X ms k a m) (hs:starEach [a] X.env=[(false,eval a X.env)]:=by rfl):PDi X ms lp tg (.Call (.Name "range" p) [a] [] pos) (iR1 m):=by
 obtain ⟨te,pe,q⟩:=h
 refine ⟨_,tS hg hm (aU pe ci hs) hs,fun δ σ H0 H R ds L hm hq=> ?_⟩
 obtain ⟨x,hx,e⟩:=Option.bind_eq_some_iff.mp hm
 refine q δ σ H0 H _ x L hx fun v H1 s1 g=> ?_
 have g:=g.bor
 cases g with
 |int j=>
  simp only at e
  split at e
  ·next hl=>
   cases e
   exact ⟨j,rfl,Int.le_trans (by decide) hl.1,vE hl.2,hq _ H1 s1 (vB (by have:=hl.2;lia))⟩
  ·cases e
 |_=>cases e
end
noncomputable def bt (ms:List Nat) (σ σ':St):Prop:= ∀i,isOwn ms i=true->σ'[i]?=σ[i]?
theorem bt.refl {ms:List Nat}{σ:St}:bt ms σ σ:=fun _ _=>rfl
theorem bt.tr {ms:List Nat}{σ σ1 σ2:St} (a:bt ms σ σ1) (b:bt ms σ1 σ2):bt ms σ σ2:=fun i h=>(b i h).trans (a i h)
noncomputable def DG (KF:PySem.W.Frag) (ms:List Nat) (g:TG) (m:Dv->Dt->Option Dt):Prop:=
 ∀{W:Addr->Prop} (δ δ1:Dt) (σ:St) (H0 H:Hp) (v:V) (d:Dv) (Q:St->Hp->Prop),Rel KF ms W H0 δ σ H->RepF KF (fun a=> ¬W a) H v d->m d δ=some δ1->(∀σ1,Rel KF ms W H0 δ1 σ1 H->bt ms σ σ1->Q σ1 H)->g v σ H Q
noncomputable def DGs (KF:PySem.W.Frag) (ms:List Nat) (g:TGs) (m:List Dv->Dt->Option Dt):Prop:=
 ∀{W:Addr->Prop} (δ δ1:Dt) (σ:St) (H0 H:Hp) (vs:List V) (ds:List Dv) (Q:St->Hp->Prop),Rel KF ms W H0 δ σ H->RepsF KF (fun a=> ¬W a) H vs ds->m ds δ=some δ1->(∀σ1,Rel KF ms W H0 δ1 σ1 H->bt ms σ σ1->Q σ1 H)->g vs σ H Q
noncomputable def PDg (X:Cx) (ms:List Nat) (tg:Expr) (m:Dv->Dt->Option Dt):Prop:= ∃g,PG X tg g/\DG X.K ms g m
noncomputable def PDgs (X:Cx) (ms:List Nat) (tgs:List Expr) (m:List Dv->Dt->Option Dt):Prop:= ∃g,PGs X tgs g/\DGs X.K ms g m
noncomputable def gN (i:Nat):Dv->Dt->Option Dt:=fun d δ=>some (δ.set i (some d))
noncomputable def gZ:List Dv->Dt->Option Dt
 |[],δ=>some δ
 |_,_=>none
noncomputable def gC (g:Dv->Dt->Option Dt) (r:List Dv->Dt->Option Dt):List Dv->Dt->Option Dt
 |d::ds,δ=>(g d δ).bind (r ds)
 |_,_=>none
noncomputable def gT (n:Nat) (g:List Dv->Dt->Option Dt):Dv->Dt->Option Dt
 | .tup ds,δ=>if ds.length=n then g ds δ else none
 |_,_=>none
theorem Rel.set {ms:List Nat}{H0 H:Hp}{δ:Dt}{σ:St}{i:Nat}{v:V}{d:Dv} (R:Rel KF ms W H0 δ σ H) (hi:isOwn ms i=false) (r:RepF KF (fun a=> ¬W a) H v d):
  Rel KF ms W H0 (δ.set i (some d)) (σ.set i (some v)) H/\bt ms σ (σ.set i (some v)):=by
 refine ⟨⟨by rw [List.length_set,List.length_set];exact R.len,R.keep,R.soft,fun j d' n hd=> ?_,?_⟩,fun j hj=>List.getElem?_set_ne (fun z=>by subst z;rw [hi] at hj;cases hj)⟩
 ·by_cases hj:i=j
  ·subst hj
   have hl:i<δ.length:=by
    have:=(List.getElem?_eq_some_iff.mp hd).1
    rwa [List.length_set] at this
   rw [List.getElem?_set_self hl] at hd
   cases hd
   exact ⟨v,List.getElem?_set_self (by rw [R.len];exact hl),r⟩
  ·rw [List.getElem?_set_ne hj] at hd
   obtain ⟨u,hu,q⟩:=R.get j d' n hd
   exact ⟨u,by rw [List.getElem?_set_ne hj];exact hu,q⟩
 ·obtain ⟨Φ,f⟩:=R.foot
  refine ⟨Φ,f.wr,f.dj,f.nd,fun j d' n hd=> ?_⟩
  have hj:i≠j:=fun z=>by rw [z,n] at hi;cases hi
  rw [List.getElem?_set_ne hj] at hd|-
  exact f.at_ j d' n hd
section
variable {X:Cx}{ms:List Nat}{pos:Pos}
theorem aL {i:Nat}{x:Str} (hi:isOwn ms i=false) (h:PG X (.Name x pos) (eD i)):PDg X ms (.Name x pos) (gN i):=
 ⟨_,h,fun δ δ1 σ H0 H v d Q R r hm hq=>by
  cases hm
  obtain ⟨R',so⟩:=R.set hi r
  exact hq _ R' so⟩
theorem dW:PDgs X ms [] gZ:=⟨_,tF,fun δ δ1 σ H0 H vs ds Q R r hm hq=>by
 cases r with
 |nil=>cases hm;exact ⟨rfl,hq σ R .refl⟩
 |cons _ _=>cases hm⟩
theorem bA {e:Expr}{es:List Expr}{g:Dv->Dt->Option Dt}{gs:List Dv->Dt->Option Dt} (h1:PDg X ms e g) (h2:PDgs X ms es gs)
  (hs:(assignEach (e::es) X.env).map (·.2)=assign e X.env::(assignEach es X.env).map (·.2):=by rfl):PDgs X ms (e::es) (gC g gs):=by
 obtain ⟨t,p,q⟩:=h1
 obtain ⟨u,p2,q2⟩:=h2
 refine ⟨_,tG p p2 hs,fun δ δ1 σ H0 H vs ds Q R r hm hq=> ?_⟩
 cases r with
 |nil=>cases hm
 |cons h r=>
  obtain ⟨δ2,e1,e2⟩:=Option.bind_eq_some_iff.mp hm
  refine ⟨_,_,rfl,q δ δ2 σ H0 H _ _ _ R h e1 fun σ1 R1 so1=> ?_⟩
  exact q2 δ2 δ1 σ1 H0 H _ _ _ R1 r e2 fun σ2 R2 so2=>hq σ2 R2 (so1.tr so2)
theorem dX {es:List Expr}{k:Nat}{g:List Dv->Dt->Option Dt}{n:Nat} (hc:X.calm=true) (h:PDgs X ms es g)
  (hn:(assignEach es X.env).length=n:=by rfl) (hst:(assignEach es X.env).findIdx? (·.1)=none:=by rfl):PDg X ms (.Tuple es k pos) (gT n g):=by
 obtain ⟨t,p,q⟩:=h
 refine ⟨_,tH hc p hn hst,fun δ δ1 σ H0 H v d Q R r hm hq=> ?_⟩
 cases r with
 |tup h r=>
  simp only [gT] at hm
  split at hm
  ·next hl=>exact ⟨_,_,rfl,SqT.of h,by rw [r.length];exact hl,q δ δ1 σ H0 H _ _ Q R r hm hq⟩
  ·cases hm
 |_=>cases hm
end
noncomputable def aB (ρ:List (Option Nat)) (δ:Dt):Dt:=ρ.map fun o=>match o with
 |none=>none
 |some j=>(δ[j]?).join
noncomputable def bb (g:Dv->Dt->Option Dt) (c:Dt->Option Bool) (el:EM) (δ:Dt):List Dv->Option (List Dv)
 |[]=>some []
 |d::ds=>(g d δ).bind fun δ1=>(c δ1).bind fun b=>if b=true then (el δ1).bind fun x=>if x.imm=true then (bb g c el δ ds).map (x:: ·) else none else bb g c el δ ds
noncomputable def aS (ρ:List (Option Nat)) (it:Dt->Option (List Dv)) (g:Dv->Dt->Option Dt) (c:Dt->Option Bool) (el:EM):EM:=fun δ=>(it δ).bind fun ds=>(bb g c el (aB ρ δ) ds).map .lst
noncomputable def dY (ρ:List (Option Nat)) (ms ms':List Nat):Bool:=
 (List.range ρ.length).all (fun i=>match ρ[i]? with|some (some j)=>(decide (i∈ms')==decide (j∈ms))&&(decide (i+1000∈ms')==decide (j+1000∈ms))&&(decide (i+2000∈ms')==decide (j+2000∈ms))|_=>true)&&decide ((ρ.filterMap id).Nodup)
theorem gO {ρ:List (Option Nat)}{δ:Dt}{i:Nat}{d:Dv} (h:(aB ρ δ)[i]?=some (some d)): ∃j,ρ[i]?=some (some j)/\δ[j]?=some (some d):=by
 unfold aB at h
 rw [List.getElem?_map] at h
 cases e:ρ[i]? with
 |none=>rw [e] at h;cases h
 |some o=>
  rw [e] at h
  cases o with
  |none=>cases h
  |some j=>
   refine ⟨j,rfl,?_⟩
   have h':(δ[j]?).join=some d:=Option.some.inj h
   cases q:δ[j]? with
   |none=>rw [q] at h';cases h'
   |some z=>rw [q] at h';exact congrArg some h'
theorem oG {ρ:List (Option Nat)}{σ:St}{i j:Nat}{v:V} (h:ρ[i]?=some (some j)) (e:σ[j]?=some (some v)):(pull ρ σ)[i]?=some (some v):=by
 unfold pull
 rw [List.getElem?_map,h]
 show some ((σ[j]?).getD none)=_
 rw [e];rfl
theorem vF {ρ:List (Option Nat)} (h:(ρ.filterMap id).Nodup): ∀{i i' j:Nat},ρ[i]?=some (some j)->ρ[i']?=some (some j)->i=i':=by
 induction ρ with
 |nil=>intro i i' j e;simp at e
 |cons o r ih=>
  intro i i' j e e'
  have hr:(r.filterMap id).Nodup:=by
   cases o with
   |none=>simpa using h
   |some x=>simp only [List.filterMap_cons,id] at h;exact (List.nodup_cons.mp h).2
  have hm: ∀{q:Nat},r[q]?=some (some j)->j∈r.filterMap id:=fun {q} e=>by
   rw [List.mem_filterMap]
   exact ⟨some j,List.mem_of_getElem? e,rfl⟩
  cases i with
  |zero=>
   cases i' with
   |zero=>rfl
   |succ i'=>
    simp only [List.getElem?_cons_zero,Option.some.injEq] at e
    subst e
    simp only [List.filterMap_cons,id] at h
    exact absurd (hm (by simpa using e')) (List.nodup_cons.mp h).1
  |succ i=>
   cases i' with
   |zero=>
    simp only [List.getElem?_cons_zero,Option.some.injEq] at e'
    subst e'
    simp only [List.filterMap_cons,id] at h
    exact absurd (hm (by simpa using e)) (List.nodup_cons.mp h).1
   |succ i'=>exact congrArg (· +1) (ih hr (by simpa using e) (by simpa using e'))
structure gP (ρ:List (Option Nat)) (ms ms':List Nat):Prop where
 flat: ∀(i j:Nat),ρ[i]?=some (some j)->(i∈ms'↔j∈ms)
 deep: ∀(i j:Nat),ρ[i]?=some (some j)->(i+1000∈ms'↔j+1000∈ms)
 anyl: ∀(i j:Nat),ρ[i]?=some (some j)->(i+2000∈ms'↔j+2000∈ms)
 inj: ∀(i i' j:Nat),ρ[i]?=some (some j)->ρ[i']?=some (some j)->i=i'
theorem gQ {ρ:List (Option Nat)}{ms ms':List Nat} (h:dY ρ ms ms'=true):gP ρ ms ms':=by
 unfold dY at h
 rw [Bool.and_eq_true] at h
 obtain ⟨h2,h3⟩:=h
 have key: ∀(i j:Nat),ρ[i]?=some (some j)->((i∈ms'↔j∈ms)/\(i+1000∈ms'↔j+1000∈ms))/\(i+2000∈ms'↔j+2000∈ms):=fun i j e=>by
  have hl:=(List.getElem?_eq_some_iff.mp e).1
  have q:=List.all_eq_true.mp h2 i (List.mem_range.mpr hl)
  rw [e] at q
  simp only [Bool.and_eq_true,beq_iff_eq,decide_eq_decide] at q
  exact q
 exact ⟨fun i j e=>(key i j e).1.1,fun i j e=>(key i j e).1.2,fun i j e=>(key i j e).2,fun i i' j e e'=>vF (of_decide_eq_true h3) e e'⟩
section
variable {ρ:List (Option Nat)}{ms ms':List Nat}{δ:Dt}{σ:St}{H0 H:Hp}
theorem gP.own (P:gP ρ ms ms') {i j:Nat} (h:ρ[i]?=some (some j)):isOwn ms' i=isOwn ms j:=by
 unfold isOwn
 rw [decide_eq_decide.mpr (P.flat i j h),decide_eq_decide.mpr (P.deep i j h),decide_eq_decide.mpr (P.anyl i j h)]
theorem Rel.pull (R:Rel KF ms W H0 δ σ H) (P:gP ρ ms ms'):Rel KF ms' W H0 (aB ρ δ) (L2.pull ρ σ) H:=by
 refine ⟨by unfold L2.pull aB;simp,R.keep,R.soft,fun i d n hd=> ?_,?_⟩
 ·obtain ⟨j,er,ed⟩:=gO hd
  rw [P.own er] at n
  obtain ⟨v,ev,q⟩:=R.get j d n ed
  exact ⟨v,oG er ev,q⟩
 ·obtain ⟨Φ,f⟩:=R.foot
  refine ⟨fun i=>match ρ[i]? with|some (some j)=>Φ j|_=>[],fun i b hb=> ?_,fun i i' b hb hb'=> ?_,fun i=> ?_,fun i d n hd=> ?_⟩
  ·split at hb
   ·exact f.wr _ b hb
   ·exact nomatch hb
  ·split at hb
   ·next j e=>
    split at hb'
    ·next j' e'=>
     have:=f.dj j j' b hb hb'
     subst this
     exact P.inj i i' j e e'
    ·exact nomatch hb'
   ·exact nomatch hb
  ·split
   ·exact f.nd _
   ·exact List.nodup_nil
  ·obtain ⟨j,er,ed⟩:=gO hd
   rw [P.own er] at n
   obtain ⟨a,ha,o⟩:=f.at_ j d n ed
   refine ⟨a,oG er ha,?_⟩
   rw [er]
   rcases o with ⟨m,e,c⟩|⟨m,m3,r⟩|⟨m,m2,e,c⟩
   ·exact .inl ⟨(P.flat i j er).mpr m,e,c⟩
   ·exact .inr (.inl ⟨fun z=>m ((P.flat i j er).mp z),(P.deep i j er).mpr m3,r⟩)
   ·exact .inr (.inr ⟨fun z=>m ((P.flat i j er).mp z),fun z=>m2 ((P.deep i j er).mp z),e,c⟩)
theorem Rel.forget {δ1:Dt} (R:Rel KF ms W H0 δ1 σ H) (hl:δ.length=δ1.length) (h: ∀(i:Nat) (d:Dv),δ[i]?=some (some d)->δ1[i]?=some (some d)):Rel KF ms W H0 δ σ H:=by
 refine ⟨R.len.trans hl.symm,R.keep,R.soft,fun i d n hd=>R.get i d n (h i d hd),?_⟩
 obtain ⟨Φ,f⟩:=R.foot
 exact ⟨Φ,f.wr,f.dj,f.nd,fun i d n hd=>f.at_ i d n (h i d hd)⟩
end
end L2
set_option maxHeartbeats 4000000
namespace L2
open PySem PySem.Spec PyProof.Rows
variable {KF:PySem.W.Frag}{W W':Addr->Prop}
noncomputable def tM (KF:PySem.W.Frag) (ms:List Nat) (k:Kd) (m:EM):TE:=fun σ H Q=> ∃(W:Addr->Prop) (H0:Hp) (δ:Dt) (d:Dv),Rel KF ms W H0 δ σ H/\m δ=some d/\ ∀v H',Same H H'->Got KF k W H H' v d->Q v H'
noncomputable def ttM (KF:PySem.W.Frag) (ms:List Nat) (m:Dt->Option Bool):TT:=fun σ H Q=> ∃(W:Addr->Prop) (H0:Hp) (δ:Dt) (b:Bool),Rel KF ms W H0 δ σ H/\m δ=some b/\ ∀H',Same H H'->Q b H'
noncomputable def tgM (KF:PySem.W.Frag) (ms:List Nat) (m:Dv->Dt->Option Dt):TG:=fun v σ H Q=> ∃(W:Addr->Prop) (H0:Hp) (δ:Dt) (d:Dv) (δ1:Dt),Rel KF ms W H0 δ σ H/\RepF KF (fun a=> ¬W a) H v d/\m d δ=some δ1/\ ∀σ1,Rel KF ms W H0 δ1 σ1 H->bt ms σ σ1->Q σ1 H
noncomputable def PDts (X:Cx) (ms:List Nat) (ifs:List Expr) (m:Dt->Option Bool):Prop:= ∃tt,PTs X ifs tt/\DTs X.K ms tt m
noncomputable def GExt (z:List Nat) (g:Dv->Dt->Option Dt):Prop:= ∀d δ δ1,g d δ=some δ1->δ1.length=δ.length/\ ∀i:Nat,i∉z->δ1[i]?=δ[i]?
noncomputable def iY (z:List Nat) (g:List Dv->Dt->Option Dt):Prop:= ∀d δ δ1,g d δ=some δ1->δ1.length=δ.length/\ ∀i:Nat,i∉z->δ1[i]?=δ[i]?
theorem aZ (i:Nat):GExt [i] (gN i):=fun d δ δ1 h=>by
 cases h
 refine ⟨List.length_set,fun j hj=> ?_⟩
 have ne:i≠j:=fun z=>hj (by simp [z])
 exact List.getElem?_set_ne ne
theorem fA:iY [] gZ:=fun d δ δ1 h=>by
 cases d with
 |nil=>cases h;exact ⟨rfl,fun _ _=>rfl⟩
 |cons _ _=>cases h
theorem cA {z z':List Nat}{g:Dv->Dt->Option Dt}{gs:List Dv->Dt->Option Dt} (h:GExt z g) (h':iY z' gs):iY (z++z') (gC g gs):=fun d δ δ1 e=>by
 cases d with
 |nil=>cases e
 |cons d ds=>
  obtain ⟨δ2,e1,e2⟩:=Option.bind_eq_some_iff.mp e
  obtain ⟨l1,f1⟩:=h d δ δ2 e1
  obtain ⟨l2,f2⟩:=h' ds δ2 δ1 e2
  exact ⟨l2.trans l1,fun i hi=>(f2 i fun z=>hi (List.mem_append_right _ z)).trans (f1 i fun z=>hi (List.mem_append_left _ z))⟩
theorem fB {z:List Nat}{n:Nat}{g:List Dv->Dt->Option Dt} (h:iY z g):GExt z (gT n g):=fun d δ δ1 e=>by
 cases d with
 |tup ds=>
  simp only [gT] at e
  split at e
  ·exact h ds δ δ1 e
  ·cases e
 |_=>cases e
section
variable {X:Cx}{ms:List Nat}{k:Kd}{e:Expr}{m:EM}{pos:Pos}
theorem PD.pe (h:PD X ms k e m):PE X e (tM X.K ms k m):=by
 obtain ⟨te,p,q⟩:=h
 intro pins s σ H Q I ⟨W,H0,δ,d,R,hm,hq⟩
 exact p pins s σ H Q I (q δ σ H0 H Q d R hm hq)
theorem cB:PDts X ms [] tyes:=⟨_,va,fun δ σ H0 H Q b R hm hq=>by cases hm;exact hq H fun _ _ z=>z⟩
theorem vG {t:Dt->Option Bool} (h:PDt X ms e t):PDts X ms [e] t:=by
 obtain ⟨tt,p,q⟩:=h
 exact ⟨_,vb p,q⟩
theorem PDts.pts {ifs:List Expr}{t:Dt->Option Bool} (h:PDts X ms ifs t):PTs X ifs (ttM X.K ms t):=by
 obtain ⟨te,p,q⟩:=h
 intro pins s σ H Q I ⟨W,H0,δ,d,R,hm,hq⟩
 exact p pins s σ H Q I (q δ σ H0 H Q d R hm hq)
theorem PDg.pg {g:Dv->Dt->Option Dt} (h:PDg X ms e g):PG X e (tgM X.K ms g):=by
 obtain ⟨te,p,q⟩:=h
 intro pins s σ H v u Q I r ⟨W,H0,δ,d,δ1,R,rd,hm,hq⟩
 exact p pins s σ H v u Q I r (q δ δ1 σ H0 H v d Q R rd hm hq)
end
section
variable {ms ms':List Nat}{ρ:List (Option Nat)}{k:Kd}{wi:TI}{it:Dt->Option (List Dv)}{g:Dv->Dt->Option Dt}{c:Dt->Option Bool}{el:EM}{z:List Nat}
noncomputable def vH (ρ:List (Option Nat)) (g:TG) (tt:TT) (te:TE) (J:It) (σ:St) (H1:Hp) (Q:VK):Prop:= ∃W:Nat->Nat->List V->St->Hp->Prop,(∃m,W 0 m [] (pull ρ σ) H1)/\ ∀i m acc σc Hc,W i m acc σc Hc->
 (J.stop i Hc/\acc.length<=sizeLine/\ ∀l,Hc l=none->Q (.ref l) (upd Hc l (.lst acc))) \/
 (J.go i Hc/\acc.length<sizeLine/\ ∃N:List V->St->Hp->Prop,(∀acc' σ' H',N acc' σ' H'-> ∃m',m'<m/\W (i+1) m' acc' σ' H')/\
  ∀x H',J.yld i Hc x H'->g x σc H' fun σ2 H2=>tt σ2 H2 fun b H3=>if b=true then te σ2 H3 fun v H4=>N (acc++[v]) σ2 H4 else N acc σ2 H3)
theorem vI {δ:Dt}{σ:St}{H0 H1:Hp}{J:It}{ds out:List Dv}{Q:VK} (R1:Rel KF ms' W H0 (aB ρ δ) (L2.pull ρ σ) H1) (ok:IOk KF W false H1 J ds) (ho:bb g c el (aB ρ δ) ds=some out) (hz:GExt z g) (hz':z.all (fun i=>decide (ρ[i]?=some none))=true)
  (hq: ∀(l:Addr) (acc:List V) (Hc:Hp),Same H1 Hc->Hc l=none->RepsF KF Imm Hc acc out->Q (.ref l) (upd Hc l (.lst acc))):vH ρ (tgM KF ms' g) (ttM KF ms' c) (tM KF ms' k el) J σ H1 Q:=by
 obtain ⟨hlim,ok⟩:=ok
 have notz: ∀{i:Nat}{x:Dv},(aB ρ δ)[i]?=some (some x)->i∉z:=fun {i x} e hzi=>by
  obtain ⟨j,er,_⟩:=gO e
  have:=of_decide_eq_true (List.all_eq_true.mp hz' i hzi)
  rw [er] at this;cases this
 refine ⟨fun i n acc σc Hc=>n=ds.length-i/\i<=ds.length/\Same H1 Hc/\Rel KF ms' W H0 (aB ρ δ) σc Hc/\bt ms' (pull ρ σ) σc/\acc.length<=i/\
  ∃done rest,RepsF KF Imm Hc acc done/\bb g c el (aB ρ δ) (ds.drop i)=some rest/\done++rest=out,⟨ds.length,by simp,Nat.zero_le _,Same.refl _,R1,.refl,Nat.le_refl _,[],out,.nil,by simpa using ho,by simp⟩,?_⟩
 rintro i n acc σc Hc ⟨rfl,hi',sc,Rc,so,hl,done,rest,ra,hr,hout⟩
 obtain ⟨go,yl,st⟩:=ok Hc (.inl sc)
 by_cases hlt:i<ds.length
 ·right
  refine ⟨go i hlt,?_,fun acc' σ' H'=>Same H1 H'/\Rel KF ms' W H0 (aB ρ δ) σ' H'/\bt ms' (pull ρ σ) σ'/\acc'.length<=i+1/\ ∃done rest,RepsF KF Imm H' acc' done/\bb g c el (aB ρ δ) (ds.drop (i+1))=some rest/\done++rest=out,
   fun acc' σ' H' ⟨a1,a2,a3,a4,a5⟩=>⟨ds.length-(i+1),by lia,rfl,hlt,a1,a2,a3,a4,a5⟩,fun x H' y=> ?_⟩
  ·have:=dw hlim;lia
  ·obtain ⟨rfl,d,hd,rx⟩:=yl i x H' hlt y
   have hdrop:ds.drop i=d::ds.drop (i+1):=by
    rw [List.drop_eq_getElem_cons hlt]
    congr 1
    rw [List.getElem?_eq_getElem hlt] at hd
    exact Option.some.inj hd
   rw [hdrop,bb] at hr
   obtain ⟨δ1,h1,hr⟩:=Option.bind_eq_some_iff.mp hr
   obtain ⟨b,hb,hr⟩:=Option.bind_eq_some_iff.mp hr
   obtain ⟨l1,f1⟩:=hz d _ δ1 h1
   refine ⟨W,H0,aB ρ δ,d,δ1,Rc,rx.mono fun a _ n z=>n.1 z,h1,fun σ1 R1' so1=> ?_⟩
   have forget: ∀{H2:Hp},Rel KF ms' W H0 δ1 σ1 H2->Rel KF ms' W H0 (aB ρ δ) σ1 H2:=fun {H2} R2=>by
    refine R2.forget l1.symm (fun j x e=> ?_)
    rw [f1 j (notz e)];exact e
   refine ⟨W,H0,δ1,b,R1',hb,fun H2 s2=> ?_⟩
   cases b with
   |true=>
    rw [if_pos rfl] at hr
    obtain ⟨y,hy,hr⟩:=Option.bind_eq_some_iff.mp hr
    split at hr
    ·next him=>
     obtain ⟨rest',hr',rfl⟩:=Option.map_eq_some_iff.mp hr
     rw [if_pos rfl]
     refine ⟨W,H0,δ1,y,R1'.same s2,hy,fun v H3 s3 g3=> ?_⟩
     have s23:=s2.tr s3
     refine ⟨sc.tr s23,forget (R1'.same s23),so.tr so1,by rw [List.length_append];exact Nat.add_le_add_right hl 1,done++[y],rest',(ra.same s23).append (.cons (g3.imm him) .nil),hr',by rw [<-hout,List.append_assoc];rfl⟩
    ·cases hr
   |false=>
    rw [if_neg Bool.false_ne_true] at hr
    rw [if_neg Bool.false_ne_true]
    exact ⟨sc.tr s2,forget (R1'.same s2),so.tr so1,Nat.le_succ_of_le hl,done,rest,ra.same s2,hr,hout⟩
 ·left
  have hie:i=ds.length:=by lia
  subst hie
  rw [List.drop_length,bb] at hr
  cases hr
  rw [List.append_nil] at hout
  subst hout
  have:=dw hlim
  refine ⟨st,by lia,fun l hln=> ?_⟩
  exact hq l acc Hc sc hln ra
theorem kF (hi: ∀{W:Addr->Prop} (δ:Dt) (σ:St) (H0 H:Hp) (R:It->Hp->Prop) (ds:List Dv),Rel KF ms W H0 δ σ H->it δ=some ds->(∀J H',Same H H'->IOk KF W false H' J ds->R J H')->wi σ H R)
  (P:gP ρ ms ms') (hz:GExt z g) (hz':z.all (fun i=>decide (ρ[i]?=some none))=true):DE KF ms .one (iP ρ wi (tgM KF ms' g) (ttM KF ms' c) (tM KF ms' k el)) (aS ρ it g c el):=by
 intro W δ σ H0 H Q d R hm hq
 obtain ⟨ds,hds,e⟩:=Option.bind_eq_some_iff.mp hm
 obtain ⟨out,ho,rfl⟩:=Option.map_eq_some_iff.mp e
 refine hi δ σ H0 H _ ds R hds fun J H1 s1 ok=> ?_
 refine vI ((R.same s1).pull P) ok ho hz hz' fun l acc Hc sc hln ra=> ?_
 have s2:=Same.new (o:= .lst acc) hln
 exact hq _ _ (s1.tr (sc.tr s2)) ⟨l,rfl,bI (s1.tr sc) hln,acc,az,ra.same s2⟩
variable {X:Cx}{scope:Scope}{tg iter elt:Expr}{ifs:List Expr}{pos:Pos}
theorem dC (N':List Str) (ρ:List (Option Nat)) (ms':List Nat) (hc:X.calm=true) (hi:PDi X ms false tg iter it) (hg: ∀C s H fp,PDg (ak X scope N' C s H fp) ms' tg g)
  (ht: ∀C s H fp,PDts (ak X scope N' C s H fp) ms' ifs c) (he: ∀C s H fp,PD (ak X scope N' C s H fp) ms' k elt el) (hz:GExt z g)
  (ck:cS scope X.env.scope X.N N' ρ=true) (hp:dY ρ ms ms'=true) (hz':z.all (fun i=>decide (ρ[i]?=some none))=true) (hs: ∀x,foldedSetIterable iter X.env x=pure x:=by intro _;rfl):
  PD X ms .one (.ListComp elt [⟨tg,iter,ifs,0⟩] scope pos) (aS ρ it g c el):=by
 obtain ⟨wi,pi,qi⟩:=hi
 exact ⟨_,vc N' ρ hc pi (fun C s H fp=>(hg C s H fp).pg) (fun C s H fp=>(ht C s H fp).pts) (fun C s H fp=>(he C s H fp).pe) ck hs,kF qi (gQ hp) hz hz'⟩
end
inductive Fl where
 |nx (δ:Dt)|rt (d:Dv) (δ:Dt)|bk (δ:Dt)|ct (δ:Dt)
noncomputable abbrev SM:=Dt->Option Fl
noncomputable def Stp (ms:List Nat) (H0:Hp) (W:Addr->Prop) (σ:St) (H:Hp) (W':Addr->Prop) (σ':St) (H':Hp):Prop:=dB W H H'/\(∀a,W' a->W a \/H a=none)/\(∀a,W a->W' a \/H0 a=none)/\(∀i,isOwn ms i=true->i+3000∈ms->σ'[i]?=σ[i]?)/\ ∀b o,H b=some o->Sft o-> ∃o',H' b=some o'/\Sft o'
theorem Stp.refl {ms:List Nat}{σ:St}{H0 H:Hp}:Stp ms H0 W σ H W σ H:=⟨fun _ _ h _=>h,fun _ h=> .inl h,fun _ h=> .inl h,fun _ _ _=>rfl,fun _ o h s=>⟨o,h,s⟩⟩
theorem Stp.of {ms:List Nat}{σ σ':St}{H0 H H':Hp} (s:Same H H') (so:bt ms σ σ'):Stp ms H0 W σ H W σ' H':=⟨fun a o h _=>s a o h,fun a h=> .inl h,fun _ h=> .inl h,fun i hi _=>so i hi,fun b o h q=>⟨o,s b o h,q⟩⟩
theorem Stp.sm {ms:List Nat}{σ:St}{H0 H H':Hp} (s:Same H H'):Stp ms H0 W σ H W σ H':=⟨fun a o h _=>s a o h,fun a h=> .inl h,fun _ h=> .inl h,fun _ _ _=>rfl,fun b o h q=>⟨o,s b o h,q⟩⟩
theorem Stp.tr {ms:List Nat}{σ σ1 σ2:St}{W1 W2:Addr->Prop}{H0 H H1 H2:Hp} (a:Stp ms H0 W σ H W1 σ1 H1) (b:Stp ms H0 W1 σ1 H1 W2 σ2 H2):Stp ms H0 W σ H W2 σ2 H2:=by
 refine ⟨fun x o h n=>b.1 x o (a.1 x o h n) fun z=> ?_,fun x h=> ?_,fun x h=>(a.2.2.1 x h).elim (b.2.2.1 x) .inr,fun i hi hp=>(b.2.2.2.1 i hi hp).trans (a.2.2.2.1 i hi hp),fun x o h q=>by obtain ⟨o1,h1,q1⟩:=a.2.2.2.2 x o h q;exact b.2.2.2.2 x o1 h1 q1⟩
 ·rcases a.2.1 x z with q|q
  ·exact n q
  ·rw [h] at q;cases q
 ·rcases b.2.1 x h with q|q
  ·exact a.2.1 x q
  ·by_cases n:W x
   ·exact .inl n
   ·right
    cases e:H x with
    |none=>rfl
    |some o=>rw [a.1 x o e n] at q;cases q
noncomputable def WE (W:Addr->Prop) (H0:Hp):Addr->Prop:=fun a=>W a/\H0 a≠none
noncomputable def vJ (ms:List Nat) (rk:Kd) (Φ:Nat->List Addr) (v:V):Prop:=rk= .one-> ∀j a,j+3000∈ms->v= .ref a->a∉Φ j
noncomputable def iZ (KF:PySem.W.Frag) (ms:List Nat) (rk:Kd) (W:Addr->Prop) (H0:Hp) (σ:St) (H:Hp) (D:Ends):Fl->Prop
 | .nx δ=> ∀(W':Addr->Prop) (σ':St) (H':Hp),Stp ms H0 W σ H W' σ' H'->Rel KF ms W' H0 δ σ' H'->D.nx σ' H'
 | .rt d δ=> ∀(v:V) (W':Addr->Prop) (σ':St) (H':Hp) (Φ:Nat->List Addr),Stp ms H0 W σ H W' σ' H'->Rel KF ms W' H0 δ σ' H'->Foot KF ms W' H0 δ σ' H' Φ->Got KF rk (WE W' H0) H0 H' v d->vJ ms rk Φ v->D.rt v H'
 | .bk δ=> ∀(W':Addr->Prop) (σ':St) (H':Hp),Stp ms H0 W σ H W' σ' H'->Rel KF ms W' H0 δ σ' H'->D.bk σ' H'
 | .ct δ=> ∀(W':Addr->Prop) (σ':St) (H':Hp),Stp ms H0 W σ H W' σ' H'->Rel KF ms W' H0 δ σ' H'->D.ct σ' H'
theorem Got.weak {rk:Kd}{W1:Addr->Prop}{H0 H':Hp}{v:V}{d:Dv} (g:Got KF rk W1 H0 H' v d) (h: ∀a,W a->W1 a):Got KF rk W H0 H' v d:=by
 cases rk with
 |any=>exact RepF.mono (fun a _ n z=>n (h a z)) g
 |_=>exact g
theorem iZ.step {ms:List Nat}{rk:Kd}{H0:Hp}{W1:Addr->Prop}{σ σ1:St}{H H1:Hp}{D:Ends}{r:Fl} (h:iZ KF ms rk W H0 σ H D r) (s:Stp ms H0 W σ H W1 σ1 H1):iZ KF ms rk W1 H0 σ1 H1 D r:=by
 cases r with
 |nx δ=>exact fun W' σ' H' s' R=>h W' σ' H' (s.tr s') R
 |rt d δ=>exact fun v W' σ' H' Φ s'=>h v W' σ' H' Φ (s.tr s')
 |bk δ=>exact fun W' σ' H' s' R=>h W' σ' H' (s.tr s') R
 |ct δ=>exact fun W' σ' H' s' R=>h W' σ' H' (s.tr s') R
noncomputable def DS (KF:PySem.W.Frag) (ms:List Nat) (rk:Kd) (ts:TS) (m:SM):Prop:=
 ∀{W:Addr->Prop} (δ:Dt) (σ:St) (H0 H:Hp) (D:Ends) (r:Fl),Rel KF ms W H0 δ σ H->m δ=some r->iZ KF ms rk W H0 σ H D r->ts D σ H
noncomputable def PDs (X:Cx) (ms:List Nat) (rk:Kd) (st:Stmt) (m:SM):Prop:= ∃ts,PS X st ts/\DS X.K ms rk ts m
noncomputable def PDss (X:Cx) (ms:List Nat) (rk:Kd) (st:List Stmt) (m:SM):Prop:= ∃ts,PSs X st ts/\DS X.K ms rk ts m
noncomputable def av:SM:=fun δ=>some (.nx δ)
noncomputable def sSeq (a b:SM):SM:=fun δ=>(a δ).bind fun r=>match r with
 | .nx δ1=>b δ1
 |r=>some r
noncomputable def sSet (i:Nat) (m:EM):SM:=fun δ=>(m δ).map fun d=> .nx (δ.set i (some d))
noncomputable def sRet (m:EM):SM:=fun δ=>(m δ).map fun d=> .rt d δ
noncomputable def sIf (c:Dt->Option Bool) (a b:SM):SM:=fun δ=>(c δ).bind fun x=>if x=true then a δ else b δ
noncomputable def oH (m:EM):SM:=fun δ=>(m δ).map fun _=> .nx δ
noncomputable def loopM (g:Dv->Dt->Option Dt) (body:SM):List Dv->SM
 |[],δ=>some (.nx δ)
 |d::ds,δ=>(g d δ).bind fun δ1=>(body δ1).bind fun r=>match r with
  | .nx δ2=>loopM g body ds δ2
  | .ct δ2=>loopM g body ds δ2
  | .bk δ2=>some (.nx δ2)
  | .rt d δ2=>some (.rt d δ2)
noncomputable def sFor (it:Dt->Option (List Dv)) (g:Dv->Dt->Option Dt) (body:SM):SM:=fun δ=>(it δ).bind fun ds=>loopM g body ds δ
noncomputable def sApp (i:Nat) (m:EM):SM:=fun δ=>(m δ).bind fun d=>(eVar i δ).bind fun x=>match x with
 | .lst ds=>if ds.length<lim/\d.imm=true then some (.nx (δ.set i (some (.lst (ds++[d]))))) else none
 |_=>none
section
variable {X:Cx}{ms:List Nat}{rk k:Kd}{e:Expr}{m:EM}{pos pos':Pos}{st:Stmt}{rest a b:List Stmt}{ma mb:SM}
theorem aN:PDss X ms rk [] av:=⟨_,j6,fun δ σ H0 H D r R hm hq=>by cases hm;exact hq _ σ H .refl R⟩
theorem aq (h1:PDs X ms rk st ma) (h2:PDss X ms rk rest mb):PDss X ms rk (st::rest) (sSeq ma mb):=by
 obtain ⟨t,p,q⟩:=h1
 obtain ⟨u,p2,q2⟩:=h2
 refine ⟨_,iD p p2,fun δ σ H0 H D r R hm hq=> ?_⟩
 obtain ⟨r1,h1,e⟩:=Option.bind_eq_some_iff.mp hm
 refine q δ σ H0 H _ r1 R h1 ?_
 cases r1 with
 |nx δ1=>exact fun W' σ' H' s' R'=>q2 δ1 σ' H0 H' D r R' e (hq.step s')
 |rt d δ1=>cases e;exact hq
 |bk d=>cases e;exact hq
 |ct d=>cases e;exact hq
theorem aw (h1:PDs X ms rk st ma):PDss X ms rk [st] ma:=by
 obtain ⟨t,p,q⟩:=h1
 exact ⟨_,tq p,q⟩
theorem Got.ret {H0 H H1:Hp}{v:V}{d:Dv} (g:Got KF k W H H1 v d) (s:Same H0 H) (l:Kd.le k rk) (fr: ∀a,H a=none-> ¬W a):Got KF rk (WE W H0) H0 H1 v d:=by
 cases l with
 |refl=>
  cases rk with
  |one=>obtain ⟨a,ea,h,c⟩:=g;exact ⟨a,ea,bI s h,c⟩
  |dp=>obtain ⟨F,nd,h,c⟩:=g;exact ⟨F,nd,fun b hb=>bI s (h b hb),c⟩
  |imm=>exact g
  |frh=>exact RepF.mono (fun a _ h=>bI s h) g
  |any=>exact RepF.mono (S':=fun b=> ¬WE W H0 b) (fun a _ n (z:WE W H0 a)=>n z.1) g
  |bor=>exact g
 |one_frh=>obtain ⟨a,ea,h,c⟩:=g;subst ea;exact c.rep (bI s h)
 |one_any=>obtain ⟨a,ea,h,c⟩:=g;subst ea;exact c.rep (S:=fun b=> ¬WE W H0 b) (show¬WE W H0 a from fun z=>fr _ h z.1)
 |imm_frh=>exact RepF.mono (fun _ _ z=>z.elim) g
 |imm_any=>exact RepF.mono (fun _ _ z=>z.elim) g
 |frh_any=>exact RepF.mono (S':=fun b=> ¬WE W H0 b) (fun a _ h (z:WE W H0 a)=>fr a h z.1) g
 |bor=>exact g.bor
 |dp_frh=>obtain ⟨F,nd,h,c⟩:=g;exact c.rep fun b hb=>bI s (h b hb)
 |dp_any=>obtain ⟨F,nd,h,c⟩:=g;exact c.rep (S:=fun b=> ¬WE W H0 b) (fun b hb (z:WE W H0 b)=>fr b (h b hb) z.1)
 |one_dp=>
  obtain ⟨a,ea,h,c⟩:=g
  subst ea
  exact ⟨[a],by simp,fun b hb=>by rw [List.mem_singleton.mp hb];exact bI s h,c.tree⟩
 |imm_dp=>exact ⟨[],List.nodup_nil,fun b hb=>(List.not_mem_nil hb).elim,.imm g⟩
theorem eN (h:PD X ms k e m) (l:Kd.le k rk):PDs X ms rk (.Return (some e) pos) (sRet m):=by
 obtain ⟨te,p,q⟩:=h
 refine ⟨_,j7 p,fun δ σ H0 H D r R hm hq=> ?_⟩
 obtain ⟨d,hd,rfl⟩:=Option.map_eq_some_iff.mp hm
 refine q δ σ H0 H _ d R hd fun v H' s g=> ?_
 obtain ⟨Φ,f⟩:=(R.same s).foot
 refine hq v _ σ H' Φ (.sm s) (R.same s) f (g.ret R.keep l fun _ z=>R.fresh z) fun e1 j a hj ev ha=> ?_
 subst e1
 cases l with
 |refl=>
  obtain ⟨a',ea,h,_⟩:=g
  rw [ev] at ea;cases ea
  exact R.fresh h (f.wr j a ha).1
theorem bf (h:PD X ms k e m) (l:Kd.le k rk) (n:rk≠ .any):PDs X ms rk (.Return (some e) pos) (sRet m):=eN h l
theorem i2 {i:Nat} (hi:i∈ms):isOwn ms i=true:=by unfold isOwn;rw [decide_eq_true hi];rfl
theorem Rel.own1 {σ:St}{H0 H:Hp}{δ:Dt}{i:Nat}{d:Dv} (R:Rel KF ms W H0 δ σ H) (hi:i∈ms) (hd:δ[i]?=some (some d)): ∃a,σ[i]?=some (some (.ref a))/\H0 a=none/\Cell KF H a d:=by
 obtain ⟨Φ,f⟩:=R.foot
 obtain ⟨a,ha,o⟩:=f.at_ i d (i2 hi) hd
 rcases o with ⟨_,e,c⟩|⟨n,_⟩|⟨n,_⟩
 ·exact ⟨a,ha,(f.wr i a (by rw [e];exact List.mem_cons_self ..)).2,c⟩
 ·exact absurd hi n
 ·exact absurd hi n
theorem aO {c:Expr}{tc:Dt->Option Bool} (hc:PDt X ms c tc) (ha:PDss X ms rk a ma) (hb:PDss X ms rk b mb):PDs X ms rk (.If c a b pos) (sIf tc ma mb):=by
 obtain ⟨t,p,q⟩:=hc
 obtain ⟨ta,pa,qa⟩:=ha
 obtain ⟨tb,pb,qb⟩:=hb
 refine ⟨_,tD p pa pb,fun δ σ H0 H D r R hm hq=> ?_⟩
 obtain ⟨x,hx,e⟩:=Option.bind_eq_some_iff.mp hm
 refine q δ σ H0 H _ x R hx fun H1 s1=> ?_
 have hq':=hq.step (Stp.sm s1)
 cases x with
 |true=>exact qa δ σ H0 H1 D r (R.same s1) e hq'
 |false=>exact qb δ σ H0 H1 D r (R.same s1) e hq'
theorem oI {te:TE}{i:Nat} (hi:isOwn ms i=false) (q:DE KF ms k te m) (l:Kd.le k .any):DS KF ms rk (tAsg te (eD i)) (sSet i m):=by
 intro W δ σ H0 H D r R hm hq
 obtain ⟨d,hd,rfl⟩:=Option.map_eq_some_iff.mp hm
 refine q δ σ H0 H _ d R hd fun v H' s g=> ?_
 obtain ⟨R',so⟩:=(R.same s).set hi (g.le R l)
 exact hq _ _ H' (.of s so) R'
theorem Rel.chgF {H0 H H':Hp}{δ:Dt}{σ:St}{i:Nat}{a:Addr}{d:Dv}{F G P:List Addr}{Φ:Nat->List Addr} (R:Rel KF ms W H0 δ σ H) (f:Foot KF ms W H0 δ σ H Φ) (hi:isOwn ms i=true) (hP: ∀b∈P,b∈Φ i)
  (c1: ∀b o,H b=some o->b∉P->H' b=some o) (c2: ∀b∈P,∃o,H' b=some o/\Sft o) (c3:F.Nodup) (hG: ∀b∈F,b∈G) (c4: ∀b∈G,b∈P \/H b=none) (c7: ∀b∈G,∃o,H' b=some o/\Sft o) (c5:cU KF ms (fun b=>W b \/b∈G) H' i a d F) (c6:i+3000∈ms->σ[i]?=some (some (.ref a))):
  Rel KF ms (fun b=>W b \/b∈G) H0 (δ.set i (some d)) (σ.set i (some (.ref a))) H'/\Stp ms H0 W σ H (fun b=>W b \/b∈G) (σ.set i (some (.ref a))) H'/\Foot KF ms (fun b=>W b \/b∈G) H0 (δ.set i (some d)) (σ.set i (some (.ref a))) H' (fun j=>if j=i then F else Φ j):=by
 have wP: ∀b∈P,W b:=fun b hb=>(f.wr i b (hP b hb)).1
 have st:dB W H H':=fun b o h n=>c1 b o h fun z=>n (wP b z)
 have kp:aG (fun a=> ¬W a) H H':=dB.keeps R st
 have kpI:aG Imm H H':=kp.mono fun _ z=>z.elim
 have h0P: ∀b∈P,H0 b=none:=fun b hb=>(f.wr i b (hP b hb)).2
 have ft:Foot KF ms (fun b=>W b \/b∈G) H0 (δ.set i (some d)) (σ.set i (some (.ref a))) H' (fun j=>if j=i then F else Φ j):=by
  refine ⟨fun j b hb=> ?_,fun j j' b hb hb'=> ?_,fun j=> ?_,fun j d' n hd=> ?_⟩
  ·split at hb
   ·exact ⟨.inr (hG b hb),(c4 b (hG b hb)).elim (h0P b) (bI R.keep)⟩
   ·exact ⟨.inl (f.wr j b hb).1,(f.wr j b hb).2⟩
  ·have key: ∀{j:Nat},j≠i->b∈F->b∈Φ j->False:=fun {j} ne h1 h2=>by
    rcases c4 b (hG b h1) with z|z
    ·exact ne (f.dj j i b h2 (hP b z))
    ·obtain ⟨o,ho,_⟩:=R.own (f.wr j b h2).1
     rw [z] at ho;cases ho
   split at hb
   ·next e=>
    split at hb'
    ·next e'=>rw [e,e']
    ·next e'=>exact (key e' hb hb').elim
   ·next e=>
    split at hb'
    ·next e'=>exact (key e hb' hb).elim
    ·exact f.dj j j' b hb hb'
  ·split
   ·exact c3
   ·exact f.nd j
  ·by_cases hj:i=j
   ·subst hj
    have hl:i<δ.length:=by
     have:=(List.getElem?_eq_some_iff.mp hd).1
     rwa [List.length_set] at this
    rw [List.getElem?_set_self hl] at hd
    cases hd
    refine ⟨a,List.getElem?_set_self (by rw [R.len];exact hl),?_⟩
    rw [if_pos rfl]
    exact c5
   ·rw [List.getElem?_set_ne hj] at hd|-
    obtain ⟨a',ha',o⟩:=f.at_ j d' n hd
    refine ⟨a',ha',?_⟩
    rw [if_neg (Ne.symm hj)]
    exact o.keep kp (fun b hb ob h=>c1 b ob h fun z=>hj (f.dj i j b (hP b z) hb)) fun b n1 n2 z=>by
     rcases z with z|z
     ·exact n1 z
     ·rcases c4 b z with z|z
      ·exact n1 (wP b z)
      ·exact n2 z
 refine ⟨⟨by rw [List.length_set,List.length_set];exact R.len,fun b o h=> ?_,fun b w=> ?_,fun j d' n hd=> ?_,⟨_,ft⟩⟩,⟨st,fun b w=> ?_,fun b w=> .inl (.inl w),fun j hj hp=> ?_,fun b o h q=> ?_⟩,ft⟩
 ·exact c1 b o (R.keep b o h) fun z=>by rw [h0P b z] at h;cases h
 ·rcases w with w|w
  ·obtain ⟨o,ho,so⟩:=R.soft b w
   by_cases z:b∈P
   ·exact c2 b z
   ·exact ⟨o,c1 b o ho z,so⟩
  ·exact c7 b w
 ·have hj:i≠j:=fun z=>by rw [<-z,hi] at n;cases n
  rw [List.getElem?_set_ne hj] at hd|-
  obtain ⟨v,hv,r⟩:=R.get j d' n hd
  refine ⟨v,hv,(RepF.keep (S:=fun a=> ¬W a/\H a≠none) (kp.mono fun _ z=>z.1) (r.mono fun _ h n=>⟨n,h⟩)).mono fun b _ ⟨n1,n2⟩ z=> ?_⟩
  rcases z with z|z
  ·exact n1 z
  ·rcases c4 b z with z|z
   ·exact n1 (wP b z)
   ·exact n2 z
 ·rcases w with w|w
  ·exact .inl w
  ·rcases c4 b w with z|z
   ·exact .inl (wP b z)
   ·exact .inr z
 ·by_cases e:i=j
  ·subst e
   rw [c6 hp]
   exact List.getElem?_set_self (List.getElem?_eq_some_iff.mp (c6 hp)).1
  ·exact List.getElem?_set_ne e
 ·by_cases z:b∈P
  ·exact c2 b z
  ·exact ⟨o,c1 b o h z,q⟩
theorem Rel.chg {H0 H H':Hp}{δ:Dt}{σ:St}{i:Nat}{a:Addr}{d:Dv}{F P:List Addr}{Φ:Nat->List Addr} (R:Rel KF ms W H0 δ σ H) (f:Foot KF ms W H0 δ σ H Φ) (hi:isOwn ms i=true) (hP: ∀b∈P,b∈Φ i)
  (c1: ∀b o,H b=some o->b∉P->H' b=some o) (c2: ∀b∈P,∃o,H' b=some o/\Sft o) (c3:F.Nodup) (c4: ∀b∈F,b∈P \/H b=none) (c5:cU KF ms (fun b=>W b \/b∈F) H' i a d F) (c6:i+3000∈ms->σ[i]?=some (some (.ref a))):
  Rel KF ms (fun b=>W b \/b∈F) H0 (δ.set i (some d)) (σ.set i (some (.ref a))) H'/\Stp ms H0 W σ H (fun b=>W b \/b∈F) (σ.set i (some (.ref a))) H':=
 let q:=R.chgF f hi hP c1 c2 c3 (fun _ z=>z) c4 c5.there c5 c6;⟨q.1,q.2.1⟩
theorem Rel.setOwn {H0 H H':Hp}{δ:Dt}{σ:St}{i:Nat}{a:Addr}{d:Dv} (R:Rel KF ms W H0 δ σ H) (hi:i∈ms) (s:Same H H') (hn:H a=none) (c:Cell KF H' a d) (hz:i+3000∉ms):
  ∃W':Addr->Prop,Rel KF ms W' H0 (δ.set i (some d)) (σ.set i (some (.ref a))) H'/\Stp ms H0 W σ H W' (σ.set i (some (.ref a))) H':=by
 obtain ⟨Φ,f⟩:=R.foot
 exact ⟨_,R.chg (P:=[]) f (i2 hi) (fun _ z=>nomatch z) (fun b o h _=>s b o h) (fun _ z=>nomatch z) (by simp) (fun b hb=> .inr (by rw [List.mem_singleton.mp hb];exact hn)) (.inl ⟨hi,rfl,c⟩) fun z=>absurd z hz⟩
theorem oJ {te:TE}{i:Nat} (hi:decide (i∈ms)=true) (hz:decide (i+3000∈ms)=false) (q:DE KF ms .one te m):DS KF ms rk (tAsg te (eD i)) (sSet i m):=by
 intro W δ σ H0 H D r R hm hq
 obtain ⟨d,hd,rfl⟩:=Option.map_eq_some_iff.mp hm
 refine q δ σ H0 H _ d R hd fun v H' s g=> ?_
 obtain ⟨a,rfl,hn,c⟩:=g
 obtain ⟨W',R',st⟩:=R.setOwn (of_decide_eq_true hi) s hn c (of_decide_eq_false hz)
 exact hq W' _ H' st R'
theorem aW {i:Nat}{x:Str} (hi:isOwn ms i=false) (h:PD X ms k e m) (l:Kd.le k .any) (hN:X.N.Nodup) (hx:X.N[i]?=some x) (hl:Loc X.env.scope x) (hs:swapsWith e (some (.Name x pos')) pos.line X.env=pure false:=by rfl)
  (hf:X.fn x=true \/X.env.scope.names.lookup x=some .local:=by first|exact .inl rfl|exact .inr rfl|assumption):PDs X ms rk (.Assign [.Name x pos'] e pos) (sSet i m):=by
 obtain ⟨te,p,q⟩:=h
 exact ⟨_,iF hN hx hl p hs hf,oI hi q l⟩
theorem oK {i:Nat}{x:Str} (hi:decide (i∈ms)=true) (h:PD X ms .one e m) (hN:X.N.Nodup) (hx:X.N[i]?=some x) (hl:Loc X.env.scope x) (hs:swapsWith e (some (.Name x pos')) pos.line X.env=pure false:=by rfl)
  (hf:X.fn x=true \/X.env.scope.names.lookup x=some .local:=by first|exact .inl rfl|exact .inr rfl|assumption) (hz:decide (i+3000∈ms)=false:=by rfl):PDs X ms rk (.Assign [.Name x pos'] e pos) (sSet i m):=by
 obtain ⟨te,p,q⟩:=h
 exact ⟨_,iF hN hx hl p hs hf,oJ hi hz q⟩
section
variable {ms':List Nat}{ρ:List (Option Nat)}{it:Dt->Option (List Dv)}{g:Dv->Dt->Option Dt}{c:Dt->Option Bool}{el:EM}{z:List Nat}{scope:Scope}{tg iter elt:Expr}{ifs:List Expr}{spos cpos:Pos}
theorem kG {i:Nat}{x:Str} (N':List Str) (ρ:List (Option Nat)) (ms':List Nat) (hi':isOwn ms i=false) (hN:X.N.Nodup) (hx:X.N[i]?=some x) (hl:Loc X.env.scope x) (hc:X.calm=true) (hi:PDi X ms false tg iter it) (hg: ∀C s H fp,PDg (ak X scope N' C s H fp) ms' tg g)
  (ht: ∀C s H fp,PDts (ak X scope N' C s H fp) ms' ifs c) (he: ∀C s H fp,PD (ak X scope N' C s H fp) ms' k elt el) (hz:GExt z g)
  (ck:cS scope X.env.scope X.N N' ρ=true) (hp:dY ρ ms ms'=true) (hz':z.all (fun i=>decide (ρ[i]?=some none))=true)
  (hsw:swapsWith (.ListComp elt [⟨tg,iter,ifs,0⟩] scope cpos) (some (.Name x pos')) spos.line X.env=pure true:=by rfl) (hs: ∀x,foldedSetIterable iter X.env x=pure x:=by intro _;rfl)
  (hf:X.fn x=true \/X.env.scope.names.lookup x=some .local:=by first|exact .inl rfl|exact .inr rfl|assumption):
  PDs X ms rk (.Assign [.Name x pos'] (.ListComp elt [⟨tg,iter,ifs,0⟩] scope cpos) spos) (sSet i (aS ρ it g c el)):=by
 obtain ⟨wi,pi,qi⟩:=hi
 exact ⟨_,nY N' ρ hN hx hl hc pi (fun C s H fp=>(hg C s H fp).pg) (fun C s H fp=>(ht C s H fp).pts) (fun C s H fp=>(he C s H fp).pe) ck hsw hs hf,oI hi' (kF qi (gQ hp) hz hz') .one_any⟩
theorem vK {i:Nat}{x:Str} (N':List Str) (ρ:List (Option Nat)) (ms':List Nat) (hi':decide (i∈ms)=true) (hN:X.N.Nodup) (hx:X.N[i]?=some x) (hl:Loc X.env.scope x) (hc:X.calm=true) (hi:PDi X ms false tg iter it) (hg: ∀C s H fp,PDg (ak X scope N' C s H fp) ms' tg g)
  (ht: ∀C s H fp,PDts (ak X scope N' C s H fp) ms' ifs c) (he: ∀C s H fp,PD (ak X scope N' C s H fp) ms' k elt el) (hz:GExt z g)
  (ck:cS scope X.env.scope X.N N' ρ=true) (hp:dY ρ ms ms'=true) (hz':z.all (fun i=>decide (ρ[i]?=some none))=true)
  (hsw:swapsWith (.ListComp elt [⟨tg,iter,ifs,0⟩] scope cpos) (some (.Name x pos')) spos.line X.env=pure true:=by rfl) (hs: ∀x,foldedSetIterable iter X.env x=pure x:=by intro _;rfl)
  (hf:X.fn x=true \/X.env.scope.names.lookup x=some .local:=by first|exact .inl rfl|exact .inr rfl|assumption) (hzz:decide (i+3000∈ms)=false:=by rfl):
  PDs X ms rk (.Assign [.Name x pos'] (.ListComp elt [⟨tg,iter,ifs,0⟩] scope cpos) spos) (sSet i (aS ρ it g c el)):=by
 obtain ⟨wi,pi,qi⟩:=hi
 exact ⟨_,nY N' ρ hN hx hl hc pi (fun C s H fp=>(hg C s H fp).pg) (fun C s H fp=>(ht C s H fp).pts) (fun C s H fp=>(he C s H fp).pe) ck hsw hs hf,oJ hi' hzz (kF qi (gQ hp) hz hz')⟩
end
theorem kH {iter tg:Expr}{body:List Stmt}{it:Dt->Option (List Dv)}{g:Dv->Dt->Option Dt}{mb:SM} (hp:PassesOwn (model X.prog X.w) X.A X.env X.xe) (hc:X.calm=true) (hi:PDi X ms true tg iter it) (hg:PDg X ms tg g) (hb:PDss X ms rk body mb)
  (hs: ∀x,foldedSetIterable iter X.env x=pure x:=by intro _;rfl):PDs X ms rk (.For tg iter body [] pos) (sFor it g mb):=by
 obtain ⟨wi,pi,qi⟩:=hi
 obtain ⟨tg',pg,qg⟩:=hg
 obtain ⟨tb,pb,qb⟩:=hb
 refine ⟨_,tU hp hc pi pg pb hs,fun {W} δ σ H0 H D r R hm hq=> ?_⟩
 obtain ⟨ds,hds,e⟩:=Option.bind_eq_some_iff.mp hm
 refine qi δ σ H0 H _ ds R hds fun J H1 s1 ok=> ?_
 obtain ⟨hlim,ok⟩:=ok
 have hq1:=hq.step (Stp.sm s1)
 refine ⟨fun i n σc Hc=>n=ds.length-i/\i<=ds.length/\(∃Wc:Addr->Prop,Stp ms H0 W σ H1 Wc σc Hc/\ ∃δc,Rel X.K ms Wc H0 δc σc Hc/\loopM g mb (ds.drop i) δc=some r),⟨ds.length,by simp,Nat.zero_le _,W,.refl,δ,R.same s1,by simpa using e⟩,?_⟩
 rintro i n σc Hc ⟨rfl,hi',Wc,sc,δc,Rc,hr⟩
 obtain ⟨go,yl,st⟩:=ok Hc (.inr ⟨rfl,sc.1⟩)
 by_cases hlt:i<ds.length
 ·right
  refine ⟨go i hlt,fun σ' H'=> ∃Wc:Addr->Prop,Stp ms H0 W σ H1 Wc σ' H'/\ ∃δc,Rel X.K ms Wc H0 δc σ' H'/\loopM g mb (ds.drop (i+1)) δc=some r,fun σ' H' a1=>⟨ds.length-(i+1),by lia,rfl,hlt,a1⟩,fun x H' y=> ?_⟩
  obtain ⟨rfl,d,hd,rx⟩:=yl i x H' hlt y
  have hdrop:ds.drop i=d::ds.drop (i+1):=by
   rw [List.drop_eq_getElem_cons hlt]
   congr 1
   rw [List.getElem?_eq_getElem hlt] at hd
   exact Option.some.inj hd
  rw [hdrop,loopM] at hr
  obtain ⟨δ1,h1,hr⟩:=Option.bind_eq_some_iff.mp hr
  obtain ⟨r1,h2,hr⟩:=Option.bind_eq_some_iff.mp hr
  have rx':RepF X.K (fun a=> ¬Wc a) H' x d:=rx.mono fun a ha n z=>by
   rcases sc.2.1 a z with q|q
   ·exact n.1 q
   ·exact n.2 q
  refine qg δc δ1 σc H0 H' x d _ Rc rx' h1 fun σ1 R1 so1=> ?_
  have sc1:=sc.tr (Stp.of (Same.refl _) so1)
  refine qb δ1 σ1 H0 H' _ r1 R1 h2 ?_
  cases r1 with
  |nx δ2=>exact fun W2 σ2 H2 s2 R2=>⟨W2,sc1.tr s2,δ2,R2,hr⟩
  |ct δ2=>exact fun W2 σ2 H2 s2 R2=>⟨W2,sc1.tr s2,δ2,R2,hr⟩
  |bk δ2=>
   cases hr
   exact fun W2 σ2 H2 s2 R2=>hq1 W2 σ2 H2 (sc1.tr s2) R2
  |rt d' δ'=>
   cases hr
   exact hq1.step sc1
 ·left
  have hie:i=ds.length:=by lia
  subst hie
  rw [List.drop_length,loopM] at hr
  cases hr
  exact ⟨st,hq1 Wc σc Hc sc Rc⟩
end
end L2
set_option maxHeartbeats 4000000
namespace L2
open PySem PySem.Spec PyProof.Rows
variable {KF:PySem.W.Frag}{W W':Addr->Prop}
noncomputable def aX (n:Nat) (ds:List Dv):Dt:=ds.map some++List.replicate (n-ds.length) none
noncomputable def aP (n np:Nat) (body:SM) (ds:List Dv):Option Dv:=if ds.length=np then (body (aX n ds)).bind fun r=>match r with
 | .rt d _=>some d
 |_=>none
 else none
noncomputable def spD (KF:PySem.W.Frag) (rk:Kd) (m:List Dv->Option Dv):Sp:=fun vs H Q _=> ∃ds d,RepsF KF (fun _=>True) H vs ds/\m ds=some d/\ ∀v H',Same H H'->Got KF rk W0 H H' v d->Q v H'
theorem Got.call {rk:Kd}{H H1:Hp}{v:V}{d:Dv} (g:Got KF rk W0 H H1 v d) (n:rk≠ .any):Got KF rk W H H1 v d:=by
 cases rk with
 |any=>exact absurd rfl n
 |_=>exact g
theorem oM {ms:List Nat}{H:Hp}{vs:List V}{ds:List Dv}{N:List Str} (r:RepsF KF (fun a=> ¬W a) H vs ds) (hW: ∀a,W a-> ∃o,H a=some o/\Sft o) (hms: ∀i,isOwn ms i=true->ds.length<=i) (hn:ds.length<=N.length):Rel KF ms W H (aX N.length ds) (bG N vs) H:=by
 have hl:=r.length
 have no: ∀{i:Nat}{d:Dv},(aX N.length ds)[i]?=some (some d)->i<ds.length/\ds[i]?=some d:=fun {i d} hd=>by
  unfold aX at hd
  by_cases hi:i<ds.length
  ·rw [List.getElem?_append_left (by rw [List.length_map];exact hi),List.getElem?_map] at hd
   obtain ⟨d',e1,e2⟩:=Option.map_eq_some_iff.mp hd
   cases e2
   exact ⟨hi,e1⟩
  ·rw [List.getElem?_append_right (by rw [List.length_map];lia)] at hd
   have:=List.mem_of_getElem? hd
   rw [List.mem_replicate] at this
   exact nomatch this.2
 refine ⟨?_,fun _ _ z=>z,hW,fun i d n hd=> ?_,fun _=>[],⟨fun _ b hb=>(List.not_mem_nil hb).elim,fun _ _ b hb=>(List.not_mem_nil hb).elim,fun _=>List.nodup_nil,fun i d n hd=> ?_⟩⟩
 ·unfold bG aX
  simp only [List.length_append,List.length_map,List.length_replicate,hl]
 ·obtain ⟨hi,e1⟩:=no hd
  obtain ⟨v,hv,rv⟩:=r.get e1
  refine ⟨v,?_,rv⟩
  unfold bG
  rw [List.getElem?_append_left (by rw [List.length_map];lia),List.getElem?_map,hv]
  rfl
 ·have:=(no hd).1
  have:=hms i n
  lia
theorem oN {ms:List Nat}{H:Hp}{vs:List V}{ds:List Dv}{N:List Str} (r:RepsF KF (fun _=>True) H vs ds) (hms: ∀i,isOwn ms i=true->ds.length<=i) (hn:ds.length<=N.length):Rel KF ms W0 H (aX N.length ds) (bG N vs) H:=
 oM (r.mono fun _ _ _ z=>z) (fun _ w=>w.elim) hms hn
theorem kI {ms:List Nat}{n:Nat} (hms:ms.all (fun i=>decide (n<=if 2000<=i then i-2000 else if 1000<=i then i-1000 else i))=true) {i:Nat} (hi:isOwn ms i=true):n<=i:=by
 unfold isOwn at hi
 rw [Bool.or_eq_true,Bool.or_eq_true] at hi
 rcases hi with hi|hi|hi
 all_goals
  have:=of_decide_eq_true (List.all_eq_true.mp hms _ (of_decide_eq_true hi))
  split at this<;>(try split at this)<;>lia
section
variable {P:Program}{w:World}{K:PySem.W.Frag}{mg:Str->Option Value}{base:Heap}
theorem cC {x qual:Str}{st:Stmt}{f:Addr}{fd:FuncData}{N ps:List Str}{k:Nat}{rk:Kd}{body:SM} (ms:List Nat) (F:Fun K x qual st f fd) (S:be N ps (au st)) (hms:ms.all (fun i=>decide (ps.length<=if 2000<=i then i-2000 else if 1000<=i then i-1000 else i))=true) (hps:decide (ps.length<=N.length)=true)
  (hb: ∀(cdv:Value) (A:Around) (outer:List Env) (s:Shared) (H:Hp) (E:XK),Room k (A.deeper (envOfC qual (au st) s.heap.objs.size f cdv))->PDss (cxOf CX0 P w K mg base N qual (au st) f cdv A outer s H E).nox ms rk (aV st) body):
  FnOk P w K mg base CX0 (k+1) f fd ps (spD K rk (aP N.length ps.length body)):=by
 have len: ∀{ds:List Dv}{d:Dv},aP N.length ps.length body ds=some d->ds.length=ps.length:=fun {ds d} h=>by
  unfold aP at h
  split at h
  ·assumption
  ·cases h
 refine F.ok (k:=k) S (fun vs H Q E h=> ?_) fun cdv A outer s H vs Q E hr h=> ?_
 ·obtain ⟨ds,d,r,hm,_⟩:=h
  rw [r.length]
  exact len hm
 ·obtain ⟨ds,d,r,hm,hq⟩:=h
  obtain ⟨t,p,q⟩:=hb cdv A outer s H E hr
  refine ⟨t,p,?_⟩
  have hl:=len hm
  have hps':=of_decide_eq_true hps
  have R:Rel K ms W0 H (aX N.length ds) (bG N vs) H:=oN r (fun i hi=>by rw [hl];exact kI hms hi) (by lia)
  unfold aP at hm
  rw [if_pos hl] at hm
  obtain ⟨fl,hf,e⟩:=Option.bind_eq_some_iff.mp hm
  cases fl with
  |rt d' δ'=>cases e;exact q _ _ H H _ _ R hf fun v W' σ' H' Φ _ R' _ g _=>hq v H' R'.keep (g.weak fun _ z=>z.elim)
  |_=>cases e
end
section
variable {X:Cx}{ms:List Nat}{rk k1:Kd}{a:Expr}{es:List Expr}{ml:Dt->Option (List Dv)}{m:List Dv->Option Dv}{x:Str}{ps:List Str}{p pos:Pos}
theorem bj {k:Nat} (D:Def X.prog X.w X.K X.mg X.base k x ps (spD X.K rk m)) (hr:Room k X.A) (n:rk≠ .any) (ha:PDa X ms k1 (a::es) ml) (hg:Gl X x:=by rfl)
  (hdb:(x==("__debug__":Str))=false:=by decide) (he:starEach (a::es) X.env=(false,eval a X.env)::starEach es X.env:=by rfl) (hpl:(backTo pos (starEach es X.env)).any (·.1)=false:=by rfl):
  PD X ms rk (.Call (.Name x p) (a::es) [] pos) (ah m ml):=by
 obtain ⟨ta,pa,qa⟩:=ha
 refine ⟨_,n4 D hr pa hg hdb he hpl,fun δ σ H0 H Q d R hm hq=> ?_⟩
 obtain ⟨xs,hx,e⟩:=Option.bind_eq_some_iff.mp hm
 refine qa δ σ H0 H _ xs R hx fun vs H1 s1 g1=> ?_
 exact ⟨xs,d,g1.bor,e,fun v H' s g=>hq v H' (s1.tr s) ((g.call n).back s1)⟩
end
noncomputable def tyN:Dv->String
 | .non=>"NoneType"
 | .bl _=>"bool"
 | .int _=>"int"
 | .str _=>"str"
 | .lst _=>"list"
 | .tup _=>"tuple"
 | .dic _=>"dict"
 | .scr _=>"list"
 | .fn _=>"list"
 | .fc _ _ _=>"list"
 | .dik _=>"dict"
 | .ins _ _=>"list"
noncomputable def Dv.isScr:Dv->Bool
 | .scr _=>true
 | .fn _=>true
 | .fc _ _ _=>true
 | .ins _ _=>true
 |_=>false
theorem RepF.ty {S:Addr->Prop}{H:Hp}{v:V}{d:Dv} (r:RepF KF S H v d) (hs:d.isScr=false):TyOf KF H v (.type (tyN d)):=by
 cases r with
 |non=>exact .non
 |bl b=>exact .bl b
 |int i=>exact .int i
 |str x=>exact .str x
 |lst s h r=>exact .lst h
 |tup h r=>exact .tup h
 |dic s h r=>exact .dT h
 |scr h=>cases hs
 |fn h=>cases hs
 |fc h=>cases hs
 |dik s h r=>exact .dK h
 |ins s h r=>cases hs
noncomputable def isiN (T C:String):Bool:=T==C||(T=="bool"&&C=="int")
noncomputable def tys:List String:=["NoneType","bool","int","str","list","tuple","dict"]
theorem vL (d:Dv):tyN d∈tys:=by cases d<;>simp [tyN,tys]
noncomputable def kitB (T C:String):Option Bool:=if (Value.type T==Value.type C)=true then some true else (if PySem.W.kitMeta C=true then (fastBuiltinMro T).map (·.contains (.type C)) else none)
theorem vM:(tys.all fun T=>tys.all fun C=>decide (kitB T C=some (isiN T C)))=true:=by decide+kernel
theorem vN {K:PySem.W.Frag}{T C:String} (h:T∈tys) (h':C∈tys):PySem.W.kitOne K (.type T) (.type C)=some (isiN T C):=by
 have q:=of_decide_eq_true (List.all_eq_true.mp (List.all_eq_true.mp vM T h) C h')
 exact q
noncomputable def eIsi (C:String) (m:EM):EM:=fun δ=>(m δ).bind fun d=>if d.isScr=false then some (.bl (isiN (tyN d) C)) else none
section
variable {X:Cx}{ms:List Nat}{k:Kd}{a:Expr}{m:EM}{p p2 pos:Pos}{c:Str}
theorem cX (C:String) (ha:PD X ms k a m) (hg:Gl X "isinstance") (hm:X.mg "isinstance"=none) (hcg:Gl X c) (hcm:X.mg c=none) (hcb:bootBuiltins c=some (.type C)) (hC:C∈tys:=by decide) (hn:c≠"__name__":=by decide) (hd:(c==("__debug__":Str))=false:=by decide)
  (he:starEach [a,.Name c p2] X.env=(false,eval a X.env)::starEach [.Name c p2] X.env:=by rfl) (he2:starEach [.Name c p2] X.env=(false,eval (.Name c p2) X.env)::starEach [] X.env:=by rfl) (hpl:(backTo pos (starEach [.Name c p2] X.env)).any (·.1)=false:=by rfl):
  PD X ms .imm (.Call (.Name "isinstance" p) [a,.Name c p2] [] pos) (eIsi C m):=by
 obtain ⟨ta,pa,qa⟩:=ha
 have pc:PE X (.Name c p2) (tC (.ty C)):=mP hcg hcm hcb rfl hn hd
 refine ⟨_,fj vd hg hm iQ (aU pa (aU pc ci he2) he) (by decide) (by decide) he hpl,fun δ σ H0 H Q d R hm hq=> ?_⟩
 obtain ⟨x,hx,e⟩:=Option.bind_eq_some_iff.mp hm
 split at e
 case isFalse=>cases e
 next hsc=>
 cases e
 refine qa δ σ H0 H _ x R hx fun v H1 s1 g1=> ?_
 exact ⟨v,C,_,_,rfl,g1.bor.ty hsc,vN (vL x) hC,hq _ H1 s1 (RepF.bl _)⟩
end
section
variable {X:Cx}
theorem oO: ∀{bs:List Bool}{us:List Value},Vals (bs.map V.bl) us->us=bs.map Value.bool
 |[],us,r=>by cases r;rfl
 |b::bs,us,r=>by
  cases r with
  |cons r1 r2=>
   have e:_=Value.bool b:=r1
   rw [e,oO r2]
   all_goals rfl
theorem vO (bs:List Bool):(List.range bs.length).all (fun i=>bs.getD i true)=bs.all id:=by
 have e:(List.range bs.length).map (fun i=>bs.getD i true)=bs:=by
  apply List.ext_getElem
  ·simp
  ·intro i h1 h2
   simp [List.getD,h2]
 conv=>rhs;rw [<-e]
 rw [List.all_map]
 rfl
theorem PlainL.lt {h:Heap}{a:Addr}{its:Array Value} (p:PlainL h a its):a<h.objs.size:=by
 obtain ⟨o,n,ho,_⟩:=p
 exact Heap.lt_size ho
theorem vP (hc:X.calm=true):bp X (.builtin "all") (fun xs H Q=> ∃(a:Addr) (bs:List Bool),xs=[.ref a]/\H a=some (.lst (bs.map V.bl))/\Q (.bl (bs.all id)) H):=by
 intro pins s σ H xs us Q I r h
 obtain ⟨a,bs,rfl,hq,q⟩:=h
 obtain ⟨u,rfl,ru⟩:=r.one
 cases ru
 obtain ⟨its,rv,pl,hz⟩:=I.list (SqL.of hq)
 have ei:=oO rv
 subst ei
 have hlt:=PlainL.lt pl
 refine call_all_walk (wpAny_pyIter_list pl.isList ?_)
 refine ⟨s.heap.objs.size,_,_,_,_,_,fun i=>bs.getD i true,rfl,Walks.list (A:=X.A.in1) (I.ok.hd hc) s.heap.objs.size a (Nat.ne_of_lt hlt) (bs.map Value.bool).toArray,⟨⟨_,Heap.get?_push_size _ rfl,rfl,rfl⟩,?_⟩,?_,fun h' tk hk=> ?_⟩
 ·obtain ⟨o,n,ho,hcl,hdi,hd⟩:=pl
  exact ⟨o,Heap.get?_push_of_some _ ho,hcl,n,hd⟩
 ·intro i v s' Q' E' hv hQ
  have hv':(bs.map Value.bool)[i]?=some v:=by simpa using hv
  rw [List.getElem?_map] at hv'
  cases e:bs[i]? with
  |none=>rw [e] at hv';cases hv'
  |some b=>
   rw [e] at hv'
   have hv'':v=Value.bool b:=(Option.some.inj hv').symm
   subst hv''
   have eb:bs.getD i true=b:=by simp [List.getD,e]
   have hQ:Q' (bs.getD i true) s':=hQ
   rw [eb] at hQ
   exact wpAny_truthy_bool hQ
 ·have es:(bs.map Value.bool).toArray.size=bs.length:=by simp
  rw [es,vO]
  refine ⟨.bl (bs.all id),H,I.kept (h':=h') (t':=tk) (fun b o e=>hk b o (fun z=> ?_) (Heap.get?_push_of_some _ e)),rfl,q⟩
  have z':b=s.heap.objs.size:=by simpa using z
  rw [z'] at e
  exact absurd (Heap.lt_size e) (Nat.lt_irrefl _)
end
noncomputable def eO:List Dv->Option (List Bool)
 |[]=>some []
 | .bl b::r=>(eO r).map (b:: ·)
 |_::_=>none
theorem oP: ∀{ds:List Dv}{bs:List Bool},eO ds=some bs->ds=bs.map Dv.bl
 |[],_,h=>by cases h;rfl
 |d::r,bs,h=>by
  cases d with
  |bl b=>
   obtain ⟨bs',h',rfl⟩:=Option.map_eq_some_iff.mp h
   rw [oP h']
   all_goals rfl
  |_=>cases h
noncomputable def fAll:List Dv->Option Dv
 |[.lst ds]=>(eO ds).map fun bs=> .bl (bs.all id)
 |_=>none
theorem vQ:cW KF (fun xs H Q=> ∃(a:Addr) (bs:List Bool),xs=[.ref a]/\H a=some (.lst (bs.map V.bl))/\Q (.bl (bs.all id)) H) .imm fAll:=by
 intro W H vs ds d Q r e hq
 cases r with
 |nil=>cases e
 |cons h r=>
  cases r with
  |cons _ _=>cases h<;>cases e
  |nil=>
   cases h with
   |lst s h q=>
    obtain ⟨bs,hb,rfl⟩:=Option.map_eq_some_iff.mp e
    have:=oP hb
    subst this
    have:=q.bls
    subst this
    exact ⟨_,bs,rfl,h,hq _ H (fun _ _ z=>z) (RepF.bl _)⟩
   |_=>cases e
noncomputable def dD:List Dv->Option (List Int)
 |[]=>some []
 | .int b::r=>(dD r).map (b:: ·)
 |_::_=>none
theorem oQ: ∀{ds:List Dv}{bs:List Int},dD ds=some bs->ds=bs.map Dv.int
 |[],_,h=>by cases h;rfl
 |d::r,bs,h=>by
  cases d with
  |int b=>
   obtain ⟨bs',h',rfl⟩:=Option.map_eq_some_iff.mp h
   rw [oQ h']
   all_goals rfl
  |_=>cases h
theorem i3: ∀(bs:List Int),dD (bs.map Dv.int)=some bs
 |[]=>rfl
 |b::r=>by rw [List.map_cons,dD,i3 r];rfl
theorem kJ: ∀(bs:List Bool),eO (bs.map Dv.bl)=some bs
 |[]=>rfl
 |b::r=>by rw [List.map_cons,eO,kJ r];rfl
noncomputable def fSum:List Dv->Option Dv
 |[.scr ns]=>some (.int ns.sum)
 |[.lst ds]=>(dD ds).map fun ns=> .int ns.sum
 |_=>none
noncomputable def fAbs:List Dv->Option Dv
 |[.int i]=>some (.int (if i<0 then-i else i))
 |_=>none
noncomputable def fInt:List Dv->Option Dv
 |[.int i]=>some (.int i)
 |[.bl b]=>some (.int (if b then 1 else 0))
 |_=>none
noncomputable def fStr:List Dv->Option Dv
 |[.int i]=>if i.natAbs<2^1920 then some (.str (toString i)) else none
 |_=>none
theorem oR:cW KF (fun xs H Q=> ∃i:Int,xs=[.int i]/\i.natAbs.log2<1920/\Q (.str (toString i)) H) .imm fStr:=by
 intro W H vs ds d Q r e hq
 cases r with
 |nil=>cases e
 |cons h r=>
  cases r with
  |cons _ _=>cases h<;>cases e
  |nil=>
   cases h with
   |int i=>
    simp only [fStr] at e
    split at e
    ·next hi=>
     cases e
     refine ⟨_,rfl,?_,hq _ H (fun _ _ z=>z) (RepF.str _)⟩
     by_cases h0:i.natAbs=0
     ·rw [h0];decide
     ·exact (Nat.log2_lt h0).mpr hi
    ·cases e
   |_=>cases e
theorem oS {α:Type}: ∀{l:List α}{i:Nat}{x:α},l[i]?=some x->l.set i x=l
 |[],_,_,h=>by simp at h
 |y::l,0,x,h=>by simp at h;subst h;rfl
 |y::l,i+1,x,h=>by rw [List.set_cons_succ,oS (by simpa using h)]
theorem Rel.mut {ms:List Nat}{H0 H:Hp}{δ:Dt}{σ:St}{i:Nat}{a:Addr}{d d0:Dv}{o:HO} (R:Rel KF ms W H0 δ σ H) (hi:i∈ms) (hs:σ[i]?=some (some (.ref a))) (hd:δ[i]?=some (some d0)) (ho: ∀xs,o≠ .tup xs) (hf: ∀b u,o≠ .frz b u) (c:Cell KF (L2.upd H a o) a d):
  ∃W':Addr->Prop,Rel KF ms W' H0 (δ.set i (some d)) σ (L2.upd H a o)/\Stp ms H0 W σ H W' σ (L2.upd H a o):=by
 obtain ⟨Φ,f⟩:=R.foot
 obtain ⟨a',ha',oo⟩:=f.at_ i d0 (i2 hi) hd
 rw [hs] at ha';cases ha'
 have e:Φ i=[a]:=by
  rcases oo with ⟨_,e,_⟩|⟨n,_⟩|⟨n,_⟩
  ·exact e
  ·exact absurd hi n
  ·exact absurd hi n
 have:=R.chg (P:=[a]) (H':=L2.upd H a o) f (i2 hi) (fun b hb=>by rw [e];exact hb) (fun b ob h n=>by rw [ao (fun z=>n (by rw [z];exact List.mem_cons_self ..))];exact h)
  (fun b hb=>by rw [List.mem_singleton.mp hb];exact ⟨o,az,ho,hf⟩) (by simp) (fun b hb=> .inl hb) (.inl ⟨hi,rfl,c⟩)
 rw [oS hs] at this
 exact ⟨_,this fun _=>hs⟩
theorem Rel.getOwn {ms:List Nat}{H0 H:Hp}{δ:Dt}{σ:St}{i:Nat}{d:Dv} (R:Rel KF ms W H0 δ σ H) (hi:i∈ms) (h:eVar i δ=some d): ∃a,σ[i]?=some (some (.ref a))/\Cell KF H a d:=by
 obtain ⟨a,ha,_,c⟩:=R.own1 hi (fw h)
 exact ⟨a,ha,c⟩
section
variable {X:Cx}{ms:List Nat}{rk k:Kd}{e:Expr}{m:EM}{i:Nat}{x:Str}{np apos cpos pos:Pos}
theorem vR (hi:decide (i∈ms)=true) (hx:PE X (.Name x np) (tVar i)) (h:PD X ms k e m) (he:starEach [e] X.env=(false,eval e X.env)::starEach [] X.env:=by rfl)
  (hbase:attributeBase (.Name x np) "append" X.env (eval (.Name x np) X.env)=eval (.Name x np) X.env:=by rfl) (hline:(apos.endLine==cpos.line)=true:=by rfl)
  (hfew:((backTo cpos (starEach [e] X.env)).all (fun x=> !x.1)&&(backToKw cpos (keywordEach [] X.env)).all (fun x=>x.1.isSome)
   &&decide (([e]:List Expr).length+([]:List Keyword).length+(if ([]:List Keyword).isEmpty then 0 else 1)<30))=true:=by rfl)
  (hplain:(backTo cpos (starEach [] X.env)).any (·.1)=false:=by rfl)
  (hs:swapsWith (.Call (.Attribute (.Name x np) "append" apos) [e] [] cpos) none pos.line X.env=pure false:=by rfl):
  PDs X ms rk (.Expr (.Call (.Attribute (.Name x np) "append" apos) [e] [] cpos) pos) (sApp i m):=by
 obtain ⟨te,p,q⟩:=h
 refine ⟨_,tw (nB PySem.F.plainAttrs_list PySem.F.slot_list_append PySem.F.type_list_append uy hx (aU p ci he) hbase hfew hline he hplain) hs,fun δ σ H0 H D r R hm hq=> ?_⟩
 have hi:=of_decide_eq_true hi
 obtain ⟨d,hd,e1⟩:=Option.bind_eq_some_iff.mp hm
 obtain ⟨z,hz,e2⟩:=Option.bind_eq_some_iff.mp e1
 cases z with
 |lst ds=>
  simp only at e2
  split at e2
  ·next hl=>
   cases e2
   obtain ⟨a,hsa,xs,hxs,rx⟩:=R.getOwn hi hz
   refine ⟨_,hsa,.inl ⟨rfl,xs,SqL.of hxs⟩,?_⟩
   refine q δ σ H0 H _ d R hd fun v H1 s1 g1=> ?_
   have R1:=R.same s1
   obtain ⟨a',hsa',xs',hxs',rx'⟩:=R1.getOwn hi hz
   rw [hsa] at hsa';cases hsa'
   refine ⟨a,xs',v,rfl,rfl,hxs',by rw [rx'.length];exact Nat.lt_trans hl.1 (by decide),?_⟩
   have nt: ∀ys,HO.lst (xs'++[v])≠ .tup ys:=fun _ z=>nomatch z
   have kp:aG Imm H1 (L2.upd H1 a (.lst (xs'++[v]))):=fun b ob hb k=>by
    rcases k with ⟨ys,rfl⟩|⟨c,u,rfl⟩|k
    ·rw [ao (fun z=>by rw [z,hxs'] at hb;cases hb)];exact hb
    ·rw [ao (fun z=>by rw [z,hxs'] at hb;cases hb)];exact hb
    ·exact k.elim
   have c:Cell X.K (L2.upd H1 a (.lst (xs'++[v]))) a (.lst (ds++[d])):=⟨_,az,(rx'.keep kp).append (.cons ((g1.imm hl.2).keep kp) .nil)⟩
   obtain ⟨W9,R2,st⟩:=R1.mut hi hsa (fw hz) nt (fun _ _ z=>nomatch z) c
   exact hq W9 σ _ ((Stp.sm s1).tr st) R2
  ·cases e2
 |_=>cases e2
end
end L2
set_option maxHeartbeats 4000000
namespace L2
open PySem PySem.Spec PyProof.Rows
variable {KF:PySem.W.Frag}{W W':Addr->Prop}
theorem eP:Kd.one≠ .any:=fun z=>nomatch z
theorem aC:Kd.imm≠ .any:=fun z=>nomatch z
theorem oU:Kd.frh≠ .any:=fun z=>nomatch z
theorem vS {H:Hp}{a:Addr}{ns:List Int}{m:List Dv->Option Dv}{E:XK} (hO:Only H) (hS:SqL KF H a (ns.map V.int)) (h:m [.scr ns]=some (.bl true)):spD KF .imm m [.ref a] H (fun v _=>v= .bl true) E:=by
 refine ⟨[.scr ns],_,.cons (.scr ?_) .nil,h,fun v H' s g=> ?_⟩
 ·rcases hS with (hS|⟨o,hS⟩)|hS
  ·rcases hO a with e|⟨o,xs,e⟩
   ·rw [hS] at e;cases e
   ·rw [hS] at e;cases e
  ·exact .inl ⟨o,hS⟩
  ·exact .inr hS
 ·cases g;rfl
noncomputable def opB (f:Dv->Dv->Option Dv):Option Dv->Option Dv->Option Dv
 |some x,some y=>f x y
 |_,_=>none
noncomputable def unB (f:Dv->Option Dv):Option Dv->Option Dv
 |some x=>f x
 |_=>none
noncomputable def immB:Option Dv->Option Dv
 |some x=>if x.imm=true then some x else none
 |_=>none
noncomputable def andB (a:Option Dv) (b:EM) (δ:Dt):Option Dv:=match a with
 |some (.bl true)=>b δ
 |some (.bl false)=>some (.bl false)
 |_=>none
noncomputable def orB (a:Option Dv) (b:EM) (δ:Dt):Option Dv:=match a with
 |some (.bl true)=>some (.bl true)
 |some (.bl false)=>b δ
 |_=>none
noncomputable def ifB {α:Type} (c:Option Bool) (a b:Dt->Option α) (δ:Dt):Option α:=match c with
 |some true=>a δ
 |some false=>b δ
 |none=>none
noncomputable def tofB:Option Dv->Option Bool
 |some (.bl b)=>some b
 |_=>none
noncomputable def i4 (c:Option Bool) (b:Dt->Option Bool) (δ:Dt):Option Bool:=match c with
 |some true=>b δ
 |some false=>some false
 |none=>none
noncomputable def torB (c:Option Bool) (b:Dt->Option Bool) (δ:Dt):Option Bool:=match c with
 |some true=>some true
 |some false=>b δ
 |none=>none
noncomputable def oV:Option Bool->Option Bool
 |some b=>some (!b)
 |none=>none
noncomputable def oW:Option Dv->Option (List Dv)->Option (List Dv)
 |some x,some xs=>some (x::xs)
 |_,_=>none
noncomputable def tupB:Option (List Dv)->Option Dv
 |some xs=>if xs.length<=lim then some (.tup xs) else none
 |none=>none
noncomputable def lstB:Option (List Dv)->Option Dv
 |some xs=>if xs.length<=lim then some (.lst xs) else none
 |none=>none
noncomputable def oX:Option (List Dv)->Option Dv
 |some xs=>if xs.length<=lim/\imms xs=true then some (.lst xs) else none
 |none=>none
noncomputable def oY (f:List Dv->Option Dv):Option (List Dv)->Option Dv
 |some xs=>f xs
 |none=>none
noncomputable def slB:Option Dv->Option (Option Int)->Option (Option Int)->Option Dv
 |some (.lst ds),some l,some h=>if imms (cutD ds l h)=true then some (.lst (cutD ds l h)) else none
 |some (.scr ns),some l,some h=>some (.lst (cutD (ns.map Dv.int) l h))
 |_,_,_=>none
noncomputable def oZ:Option Dv->Option (Option Int)
 |some (.int i)=>some (some i)
 |_=>none
noncomputable def seqB (a:Option Fl) (b:SM):Option Fl:=match a with
 |some (.nx δ)=>b δ
 |some r=>some r
 |none=>none
noncomputable def setB (i:Nat) (a:Option Dv) (δ:Dt):Option Fl:=match a with
 |some d=>some (.nx (δ.set i (some d)))
 |none=>none
noncomputable def retB (δ:Dt):Option Dv->Option Fl
 |some d=>some (.rt d δ)
 |none=>none
noncomputable def o0 (a:Option Dv) (δ:Dt):Option Fl:=match a with
 |some _=>some (.nx δ)
 |none=>none
noncomputable def forB (a:Option (List Dv)) (g:Dv->Dt->Option Dt) (b:SM) (δ:Dt):Option Fl:=match a with
 |some ds=>loopM g b ds δ
 |none=>none
noncomputable def o3 (a:Option (List Dv)) (g:Dv->Dt->Option Dt) (c:Dt->Option Bool) (el:EM) (δ:Dt):Option Dv:=match a with
 |some ds=>(bb g c el δ ds).map .lst
 |none=>none
noncomputable def appB (i:Nat) (a x:Option Dv) (δ:Dt):Option Fl:=match a,x with
 |some d,some (.lst ds)=>if ds.length<lim/\d.imm=true then some (.nx (δ.set i (some (.lst (ds++[d]))))) else none
 |_,_=>none
noncomputable def endB:Option Fl->Option Dv
 |some (.rt d _)=>some d
 |_=>none
theorem dZ {f:Dv->Dv->Option Dv}{a b:EM}{δ:Dt}:eOp f a b δ=opB f (a δ) (b δ):=by unfold eOp;cases a δ<;>cases b δ<;>rfl
theorem vT {f:Dv->Option Dv}{a:EM}{δ:Dt}:eUn f a δ=unB f (a δ):=by unfold eUn;cases a δ<;>rfl
theorem vU {a:EM}{δ:Dt}:eImm a δ=immB (a δ):=by unfold eImm;cases a δ<;>rfl
theorem vV {a b:EM}{δ:Dt}:eAnd a b δ=andB (a δ) b δ:=by
 unfold eAnd andB
 cases a δ with
 |none=>rfl
 |some x=>cases x with
  |bl b=>cases b<;>rfl
  |_=>rfl
theorem vW {a b:EM}{δ:Dt}:eOr a b δ=orB (a δ) b δ:=by
 unfold eOr orB
 cases a δ with
 |none=>rfl
 |some x=>cases x with
  |bl b=>cases b<;>rfl
  |_=>rfl
theorem vX {c:Dt->Option Bool}{a b:EM}{δ:Dt}:eIf c a b δ=ifB (c δ) a b δ:=by
 unfold eIf ifB
 cases c δ with
 |none=>rfl
 |some x=>cases x<;>rfl
theorem vY {c:Dt->Option Bool}{a b:SM}{δ:Dt}:sIf c a b δ=ifB (c δ) a b δ:=by
 unfold sIf ifB
 cases c δ with
 |none=>rfl
 |some x=>cases x<;>rfl
theorem vZ {a:EM}{δ:Dt}:tOf a δ=tofB (a δ):=by
 unfold tOf tofB fu
 cases a δ with
 |none=>rfl
 |some x=>cases x<;>rfl
theorem v9 {a b:Dt->Option Bool}{δ:Dt}:tand a b δ=i4 (a δ) b δ:=by
 unfold tand i4
 cases a δ with
 |none=>rfl
 |some x=>cases x<;>rfl
theorem wb {a b:Dt->Option Bool}{δ:Dt}:tor a b δ=torB (a δ) b δ:=by
 unfold tor torB
 cases a δ with
 |none=>rfl
 |some x=>cases x<;>rfl
theorem wc {a:Dt->Option Bool}{δ:Dt}:tnot a δ=oV (a δ):=by unfold tnot;cases a δ<;>rfl
theorem we {δ:Dt}:tyes δ=some true:=rfl
theorem wf {δ:Dt}:aNil δ=some []:=rfl
theorem wg {a:EM}{r:Dt->Option (List Dv)}{δ:Dt}:aa a r δ=oW (a δ) (r δ):=by unfold aa;cases a δ<;>cases r δ<;>rfl
theorem wj {a:Dt->Option (List Dv)}{δ:Dt}:eTup a δ=tupB (a δ):=by unfold eTup;cases a δ<;>rfl
theorem wk {a:Dt->Option (List Dv)}{δ:Dt}:eLst a δ=lstB (a δ):=by unfold eLst;cases a δ<;>rfl
theorem wl {a:Dt->Option (List Dv)}{δ:Dt}:ba a δ=oX (a δ):=by unfold ba;cases a δ<;>rfl
theorem wo {f:List Dv->Option Dv}{a:Dt->Option (List Dv)}{δ:Dt}:ah f a δ=oY f (a δ):=by unfold ah;cases a δ<;>rfl
theorem wq {m:EM}{lo hi:Dt->Option (Option Int)}{δ:Dt}:eSl m lo hi δ=slB (m δ) (lo δ) (hi δ):=by
 unfold eSl
 cases m δ with
 |none=>rfl
 |some x=>cases lo δ<;>cases hi δ<;>cases x<;>rfl
theorem wt {δ:Dt}:cr δ=some none:=rfl
theorem ww {m:EM}{δ:Dt}:bX m δ=oZ (m δ):=by
 unfold bX
 cases m δ with
 |none=>rfl
 |some x=>cases x<;>rfl
theorem wy {a b:SM}{δ:Dt}:sSeq a b δ=seqB (a δ) b:=by
 unfold sSeq
 cases a δ with
 |none=>rfl
 |some x=>cases x<;>rfl
theorem wz {i:Nat}{m:EM}{δ:Dt}:sSet i m δ=setB i (m δ) δ:=by unfold sSet;cases m δ<;>rfl
theorem wA {m:EM}{δ:Dt}:sRet m δ=retB δ (m δ):=by unfold sRet;cases m δ<;>rfl
theorem wB {m:EM}{δ:Dt}:oH m δ=o0 (m δ) δ:=by unfold oH;cases m δ<;>rfl
theorem wC {δ:Dt}:av δ=some (.nx δ):=rfl
theorem wD {it:Dt->Option (List Dv)}{g:Dv->Dt->Option Dt}{b:SM}{δ:Dt}:sFor it g b δ=forB (it δ) g b δ:=by unfold sFor;cases it δ<;>rfl
theorem wE {ρ:List (Option Nat)}{it:Dt->Option (List Dv)}{g:Dv->Dt->Option Dt}{c:Dt->Option Bool}{el:EM}{δ:Dt}:aS ρ it g c el δ=o3 (it δ) g c el (aB ρ δ):=by unfold aS;cases it δ<;>rfl
theorem wF {i:Nat}{m:EM}{δ:Dt}:sApp i m δ=appB i (m δ) (eVar i δ) δ:=by
 unfold sApp
 cases m δ with
 |none=>rfl
 |some d=>
  cases eVar i δ with
  |none=>rfl
  |some x=>cases x<;>rfl
theorem eC_b {d:Dv}{δ:Dt}:eC d δ=some d:=rfl
theorem wG {n np:Nat}{body:SM}{ds:List Dv} (h:ds.length=np):aP n np body ds=endB (body (aX n ds)):=by
 unfold aP
 rw [if_pos h]
 cases body (aX n ds) with
 |none=>rfl
 |some x=>cases x<;>rfl
theorem wH {d:Option Dv}{δ:Dt}:eVar 0 (d::δ)=d:=rfl
theorem wI {i:Nat}{d:Option Dv}{δ:Dt}:eVar (i+1) (d::δ)=eVar i δ:=rfl
theorem wJ {f:Dv->Dv->Option Dv}{x y:Dv}:opB f (some x) (some y)=f x y:=rfl
theorem wK {f:Dv->Option Dv}{x:Dv}:unB f (some x)=f x:=rfl
theorem wL {x:Dv} (h:x.imm=true):immB (some x)=some x:=by show (if _ then _ else _)=_;rw [if_pos h]
theorem wM {b:EM}{δ:Dt}:andB (some (.bl true)) b δ=b δ:=rfl
theorem wN {b:EM}{δ:Dt}:andB (some (.bl false)) b δ=some (.bl false):=rfl
theorem wO {b:EM}{δ:Dt}:orB (some (.bl true)) b δ=some (.bl true):=rfl
theorem wQ {b:EM}{δ:Dt}:orB (some (.bl false)) b δ=b δ:=rfl
theorem wR {α:Type}{a b:Dt->Option α}{δ:Dt}:ifB (some true) a b δ=a δ:=rfl
theorem wS {α:Type}{a b:Dt->Option α}{δ:Dt}:ifB (some false) a b δ=b δ:=rfl
theorem wT {b:Bool}:tofB (some (.bl b))=some b:=rfl
theorem wU {b:Dt->Option Bool}{δ:Dt}:i4 (some true) b δ=b δ:=rfl
theorem wV {b:Dt->Option Bool}{δ:Dt}:i4 (some false) b δ=some false:=rfl
theorem wW {b:Dt->Option Bool}{δ:Dt}:torB (some true) b δ=some true:=rfl
theorem wX {b:Dt->Option Bool}{δ:Dt}:torB (some false) b δ=b δ:=rfl
theorem wY {b:Bool}:oV (some b)=some (!b):=rfl
theorem wZ {x:Dv}{xs:List Dv}:oW (some x) (some xs)=some (x::xs):=rfl
theorem xa {xs:List Dv} (h:xs.length<=lim):tupB (some xs)=some (.tup xs):=by show (if _ then _ else _)=_;rw [if_pos h]
theorem xb {xs:List Dv} (h:xs.length<=lim):lstB (some xs)=some (.lst xs):=by show (if _ then _ else _)=_;rw [if_pos h]
theorem xc {xs:List Dv} (h:xs.length<=lim) (h':imms xs=true):oX (some xs)=some (.lst xs):=by show (if xs.length<=lim/\imms xs=true then _ else _)=_;rw [if_pos ⟨h,h'⟩]
theorem xf {f:List Dv->Option Dv}{xs:List Dv}:oY f (some xs)=f xs:=rfl
theorem xg {i:Int}:oZ (some (.int i))=some (some i):=rfl
theorem xh {ns:List Int}{l h:Option Int}:slB (some (.scr ns)) (some l) (some h)=some (.lst (cutD (ns.map Dv.int) l h)):=rfl
theorem xi {ds:List Dv}{l h:Option Int} (hi:imms (cutD ds l h)=true):slB (some (.lst ds)) (some l) (some h)=some (.lst (cutD ds l h)):=by
 show (if imms (cutD ds l h)=true then _ else _)=_
 rw [if_pos hi]
theorem xj {δ:Dt}{b:SM}:seqB (some (.nx δ)) b=b δ:=rfl
theorem xk {d:Dv}{δ:Dt}{b:SM}:seqB (some (.rt d δ)) b=some (.rt d δ):=rfl
theorem xl {i:Nat}{d:Dv}{δ:Dt}:setB i (some d) δ=some (.nx (δ.set i (some d))):=rfl
theorem xm {d:Dv}{δ:Dt}:retB δ (some d)=some (.rt d δ):=rfl
theorem xo {d:Dv}{δ:Dt}:o0 (some d) δ=some (.nx δ):=rfl
theorem xp {ds:List Dv}{g:Dv->Dt->Option Dt}{b:SM}{δ:Dt}:forB (some ds) g b δ=loopM g b ds δ:=rfl
theorem xq {ds:List Dv}{g:Dv->Dt->Option Dt}{c:Dt->Option Bool}{el:EM}{δ:Dt}:o3 (some ds) g c el δ=(bb g c el δ ds).map .lst:=rfl
theorem xr {d:Dv}{δ:Dt}:endB (some (.rt d δ))=some d:=rfl
theorem o4 {i:Nat}{d:Dv}{ds:List Dv}{δ:Dt} (h:ds.length<lim) (h':d.imm=true):appB i (some d) (some (.lst ds)) δ=some (.nx (δ.set i (some (.lst (ds++[d]))))):=by
 show (if ds.length<lim/\d.imm=true then _ else _)=_
 rw [if_pos ⟨h,h'⟩]
theorem gN_b {i:Nat}{d:Dv}{δ:Dt}:gN i d δ=some (δ.set i (some d)):=rfl
theorem xu {i j:Int}:dAdd (.int i) (.int j)=some (.int (i+j)):=rfl
theorem xv {i j:Int}:dSub (.int i) (.int j)=some (.int (i-j)):=rfl
theorem kK {i j:Int} (h:0<j):dMod (.int i) (.int j)=some (.int (i%j)):=by show (if 0<j then _ else _)=_;rw [if_pos h]
theorem xw {i j:Int} (h:0<j/\j<1073741824):dDiv (.int i) (.int j)=some (.int (i/j)):=by show (if 0<j/\j<1073741824 then _ else _)=_;rw [if_pos h]
theorem gR {i j:Int} (h:dA i j=true):dMul (.int i) (.int j)=some (.int (i*j)):=by show (if dA i j=true then _ else _)=_;rw [if_pos h]
theorem xx {i j:Int}:dLt (.int i) (.int j)=some (.bl (decide (i<j))):=rfl
theorem xy {i j:Int}:dLe (.int i) (.int j)=some (.bl (decide (i<=j))):=rfl
theorem xz {i j:Int}:dGt (.int i) (.int j)=some (.bl (decide (j<i))):=rfl
theorem xA {i j:Int}:dGe (.int i) (.int j)=some (.bl (decide (j<=i))):=rfl
theorem xB {i:Int}:dNeg (.int i)=some (.int (-i)):=rfl
theorem xC {b:Bool}:dNot (.bl b)=some (.bl (!b)):=rfl
theorem xD {i j:Int}:dEq (.int i) (.int j)=some (.bl (decide (i=j))):=by
 have h:eqOk (.int i) (.int j)=true:=by
  show (true&&true&&decide (min 1 1<=60))=true
  rfl
 show (if eqOk _ _=true then _ else _)=_
 rw [if_pos h]
 rfl
theorem xE {i j:Int}:dNe (.int i) (.int j)=some (.bl (!decide (i=j))):=by
 have h:eqOk (.int i) (.int j)=true:=by
  show (true&&true&&decide (min 1 1<=60))=true
  rfl
 show (if eqOk _ _=true then _ else _)=_
 rw [if_pos h]
 rfl
theorem xF {i j:Bool}:dEq (.bl i) (.bl j)=some (.bl (i==j)):=by
 have h:eqOk (.bl i) (.bl j)=true:=by
  show (true&&true&&decide (min 1 1<=60))=true
  rfl
 show (if eqOk _ _=true then _ else _)=_
 rw [if_pos h]
 rfl
theorem xG {xs:List Dv}{i:Int}:dIx (.lst xs) (.int i)=atI xs i:=rfl
theorem xH {xs:List Dv}{i:Int}:dIx (.tup xs) (.int i)=atI xs i:=rfl
theorem xI {xs:List Int}{i:Int}:dIx (.scr xs) (.int i)=(atI xs i).map .int:=rfl
theorem i5 {α:Type}{xs:List α}{i:Int}{x:α} (h0:0<=i) (h:xs[i.toNat]?=some x):atI xs i=some x:=by
 have e:((i.toNat:Nat):Int)=i:=Int.toNat_of_nonneg h0
 have:=ui h
 rwa [e] at this
theorem xJ {zs:List Int}{i:Int} (h0:0<=i) (h1:i<(zs.length:Int)):atI (zs.map Dv.int) i=some (.int (zs.getD i.toNat 0)):=by
 refine i5 h0 ?_
 have hlt:i.toNat<zs.length:=by lia
 rw [List.getElem?_map,List.getElem?_eq_getElem hlt]
 simp [List.getD,hlt]
theorem d4: ∀(zs:List Int),imms (zs.map Dv.int)=true
 |[]=>rfl
 |z::r=>by rw [List.map_cons,imms,d4 r];rfl
theorem kL:lim=100000:=(rfl)
theorem lenc {α:Type}{a:α}{l:List α}:(a::l).length=l.length+1:=(rfl)
theorem lenn {α:Type}:([]:List α).length=0:=(rfl)
theorem o5 {i:Int}:Dv.imm (.int i)=true:=(rfl)
theorem xK {i:Bool}:Dv.imm (.bl i)=true:=(rfl)
theorem xL {i:Str}:Dv.imm (.str i)=true:=(rfl)
theorem xM:Dv.imm .non=true:=(rfl)
theorem o6 {ds:List Dv}:Dv.imm (.tup ds)=imms ds:=(rfl)
theorem xN:imms []=true:=(rfl)
theorem kM {d:Dv}{ds:List Dv}:imms (d::ds)=(d.imm&&imms ds):=(rfl)
theorem o7: ∀{a b:List Dv},imms (a++b)=(imms a&&imms b)
 |[],b=>rfl
 |x::a,b=>by rw [List.cons_append,imms,imms,o7,Bool.and_assoc]
theorem xO {ds:List Dv}:fLen [.lst ds]=some (.int ds.length):=rfl
theorem xP {ds:List Dv}:fLen [.tup ds]=some (.int ds.length):=rfl
theorem xQ {ds:List Int}:fLen [.scr ds]=some (.int ds.length):=rfl
theorem xR {ds:List Dv} (h:imms ds=true):eL [.lst ds]=some (.tup ds):=by show (if _ then _ else _)=_;rw [if_pos h]
theorem xS {ds:List Dv} (h:imms ds=true):eL [.tup ds]=some (.tup ds):=by show (if _ then _ else _)=_;rw [if_pos h]
theorem xT {ds:List Dv} (h:imms ds=true):eM [.lst ds]=some (.lst ds):=by show (if _ then _ else _)=_;rw [if_pos h]
theorem xU {ds:List Dv} (h:imms ds=true):eM [.tup ds]=some (.lst ds):=by show (if _ then _ else _)=_;rw [if_pos h]
theorem xV {ds:List Int}:eM [.scr ds]=some (.lst (ds.map .int)):=rfl
theorem xW {a b:List Dv} (h:a.length+b.length<=lim) (h':imms (a++b)=true):gL (.lst a) (.lst b)=some (.lst (a++b)):=by
 unfold gL
 show (Option.bind (if a.length+b.length<=lim then _ else _) _)=_
 rw [if_pos h]
 show (if imms (a++b)=true then _ else _)=_
 rw [if_pos h']
theorem xX {C:String}{m:EM}{δ:Dt}:eIsi C m δ=(match m δ with|some d=>if d.isScr=false then some (.bl (isiN (tyN d) C)) else none|none=>none):=by unfold eIsi;cases m δ<;>rfl
theorem kN {m:EM}{δ:Dt}{j:Int} (h:m δ=some (.int j)) (hl:0<=j/\j<=100000):iR1 m δ=some (bS 0 j.toNat):=by
 unfold iR1;rw [h]
 show (if _ then _ else _)=_
 rw [if_pos]
 have:(lim:Int)=100000:=rfl
 lia
theorem gS {x y:Str}{b:Bool} (h:eqOk (.str x) (.str y)=true) (h':(x==y)=b):dEq (.str x) (.str y)=some (.bl b):=by
 show (if eqOk _ _=true then _ else _)=_
 rw [if_pos h,<-h']
 rfl
theorem xY {α β:Type} (f:α->β) (xs:List α) (l h:Option Int):cutD (xs.map f) l h=(cutD xs l h).map f:=by
 unfold cutD
 rw [List.length_map,<-List.map_drop,<-List.map_take]
theorem kO {i j:Int} (h: -(2^63)<=i/\i<=2^63):dA i j=true:=by
 unfold dA
 rw [decide_eq_true (show i.natAbs<2^64 by lia)]
 rfl
theorem o8 {i j:Int} (h: -(2^63)<=j/\j<=2^63):dA i j=true:=by
 unfold dA
 rw [decide_eq_true (show j.natAbs<2^64 by lia),Bool.or_true]
 rfl
theorem i6 {g:Dv->Dt->Option Dt}{body:SM}: ∀{ds:List Dv}{δ:Dt} (I:Nat->Dt->Prop),I 0 δ->(∀i d δ,ds[i]?=some d->I i δ-> ∃δ1 δ2,g d δ=some δ1/\body δ1=some (.nx δ2)/\I (i+1) δ2)-> ∃δ',loopM g body ds δ=some (.nx δ')/\I ds.length δ'
 |[],δ,I,h0,_=>⟨δ,rfl,h0⟩
 |d::ds,δ,I,h0,st=>by
  obtain ⟨δ1,δ2,h1,h2,h3⟩:=st 0 d δ rfl h0
  obtain ⟨δ',e,h⟩:=i6 (ds:=ds) (δ:=δ2) (fun i=>I (i+1)) h3 fun i d δ hd hi=>st (i+1) d δ (by simpa using hd) hi
  refine ⟨δ',?_,h⟩
  rw [loopM,h1]
  show Option.bind (body δ1) _=_
  rw [h2]
  exact e
noncomputable def celM (g:Dv->Dt->Option Dt) (c:Dt->Option Bool) (el:EM) (δ:Dt) (d:Dv):Option (Option Dv):=match g d δ with
 |none=>none
 |some δ1=>match c δ1 with
  |none=>none
  |some false=>some none
  |some true=>match el δ1 with
   |none=>none
   |some x=>if x.imm=true then some (some x) else none
theorem kP {α:Type}{g:Dv->Dt->Option Dt}{c:Dt->Option Bool}{el:EM}{δ:Dt} (enc:α->Dv) (f:α->Option Dv): ∀(xs:List α),(∀x,x∈xs->celM g c el δ (enc x)=some (f x))->bb g c el δ (xs.map enc)=some (xs.filterMap f)
 |[],_=>rfl
 |x::xs,h=>by
  have h0:=h x List.mem_cons_self
  have ih:=kP enc f xs fun y hy=>h y (List.mem_cons_of_mem _ hy)
  rw [List.map_cons,bb,List.filterMap_cons]
  unfold celM at h0
  cases e1:g (enc x) δ with
  |none=>rw [e1] at h0;cases h0
  |some δ1=>
   rw [e1] at h0
   simp only at h0
   rw [Option.bind_some]
   cases e2:c δ1 with
   |none=>rw [e2] at h0;cases h0
   |some b=>
    rw [e2] at h0
    rw [Option.bind_some]
    cases b with
    |false=>
     have e4:none=f x:=Option.some.inj h0
     rw [if_neg Bool.false_ne_true,ih,<-e4]
    |true=>
     simp only at h0
     rw [if_pos rfl]
     cases e3:el δ1 with
     |none=>rw [e3] at h0;cases h0
     |some y=>
      rw [e3] at h0
      simp only at h0
      rw [Option.bind_some]
      split at h0
      ·next hi=>
       have e4:=Option.some.inj h0
       rw [if_pos hi,ih,<-e4]
       rfl
      ·cases h0
noncomputable def cel3:Option Dv->Option (Option Dv)
 |some x=>if x.imm=true then some (some x) else none
 |none=>none
noncomputable def cel2 (b:Option Bool) (el:EM) (δ:Dt):Option (Option Dv):=match b with
 |some true=>cel3 (el δ)
 |some false=>some none
 |none=>none
noncomputable def celB (o:Option Dt) (c:Dt->Option Bool) (el:EM):Option (Option Dv):=match o with
 |some δ=>cel2 (c δ) el δ
 |none=>none
theorem xZ {g:Dv->Dt->Option Dt}{c:Dt->Option Bool}{el:EM}{δ:Dt}{d:Dv}:celM g c el δ d=celB (g d δ) c el:=by
 unfold celM celB cel2 cel3
 cases g d δ with
 |none=>rfl
 |some δ1=>
  simp only
  cases c δ1 with
  |none=>rfl
  |some b=>cases b<;>first|rfl|(cases el δ1<;>rfl)
theorem x0 {δ:Dt}{c:Dt->Option Bool}{el:EM}:celB (some δ) c el=cel2 (c δ) el δ:=rfl
theorem x5 {δ:Dt}{el:EM}:cel2 (some true) el δ=cel3 (el δ):=rfl
theorem x6 {δ:Dt}{el:EM}:cel2 (some false) el δ=some none:=rfl
theorem x8 {x:Dv} (h:x.imm=true):cel3 (some x)=some (some x):=by show (if _ then _ else _)=_;rw [if_pos h]
theorem o9 {α:Type}{xs:List α}{i:Int} (h0:0<=i) (h1:i<(xs.length:Int)): ∃x,x∈xs/\atI xs i=some x:=by
 have hlt:i.toNat<xs.length:=by lia
 exact ⟨xs[i.toNat],List.getElem_mem hlt,i5 h0 (by simp [hlt])⟩
noncomputable def lp2 (r:Option Fl) (g:Dv->Dt->Option Dt) (body:SM) (ds:List Dv):Option Fl:=match r with
 |some (.nx δ)=>loopM g body ds δ
 |some (.ct δ)=>loopM g body ds δ
 |some (.bk δ)=>some (.nx δ)
 |some (.rt d δ)=>some (.rt d δ)
 |none=>none
noncomputable def lp1 (o:Option Dt) (g:Dv->Dt->Option Dt) (body:SM) (ds:List Dv):Option Fl:=match o with
 |some δ=>lp2 (body δ) g body ds
 |none=>none
theorem x9 {g:Dv->Dt->Option Dt}{body:SM}{d:Dv}{ds:List Dv}{δ:Dt}:loopM g body (d::ds) δ=lp1 (g d δ) g body ds:=by
 rw [loopM]
 cases g d δ with
 |none=>rfl
 |some δ1=>
  show Option.bind (body δ1) _=lp2 (body δ1) g body ds
  unfold lp2
  cases body δ1 with
  |none=>rfl
  |some r=>cases r<;>rfl
theorem ya {g:Dv->Dt->Option Dt}{body:SM}{δ:Dt}:loopM g body [] δ=some (.nx δ):=rfl
theorem yb {g:Dv->Dt->Option Dt}{body:SM}{ds:List Dv}{δ:Dt}:lp1 (some δ) g body ds=lp2 (body δ) g body ds:=rfl
theorem yc {g:Dv->Dt->Option Dt}{body:SM}{ds:List Dv}{δ:Dt}:lp2 (some (.nx δ)) g body ds=loopM g body ds δ:=rfl
theorem yd {g:Dv->Dt->Option Dt}{body:SM}{ds:List Dv}{δ:Dt}:lp2 (some (.ct δ)) g body ds=loopM g body ds δ:=rfl
theorem ye {g:Dv->Dt->Option Dt}{body:SM}{ds:List Dv}{δ:Dt}:lp2 (some (.bk δ)) g body ds=some (.nx δ):=rfl
theorem yf {g:Dv->Dt->Option Dt}{body:SM}{ds:List Dv}{d:Dv}{δ:Dt}:lp2 (some (.rt d δ)) g body ds=some (.rt d δ):=rfl
theorem gT_b {n:Nat}{g:List Dv->Dt->Option Dt}{ds:List Dv}{δ:Dt} (h:ds.length=n):gT n g (.tup ds) δ=g ds δ:=by
 show (if ds.length=n then _ else _)=_
 rw [if_pos h]
noncomputable def gcB (o:Option Dt) (r:List Dv->Dt->Option Dt) (ds:List Dv):Option Dt:=match o with
 |some δ=>r ds δ
 |none=>none
theorem gC_b {g:Dv->Dt->Option Dt}{r:List Dv->Dt->Option Dt}{d:Dv}{ds:List Dv}{δ:Dt}:gC g r (d::ds) δ=gcB (g d δ) r ds:=by
 show Option.bind (g d δ) (r ds)=_
 cases g d δ<;>rfl
theorem yg {r:List Dv->Dt->Option Dt}{ds:List Dv}{δ:Dt}:gcB (some δ) r ds=r ds δ:=rfl
theorem gZ_b {δ:Dt}:gZ [] δ=some δ:=rfl
noncomputable def ilB:Option Dv->Option (List Dv)
 |some (.lst ds)=>if ds.length<=lim then some ds else none
 |some (.scr ns)=>if ns.length<=lim then some (ns.map .int) else none
 |_=>none
noncomputable def iliB:Option Dv->Option (List Dv)
 |some (.lst ds)=>if ds.length<=lim/\imms ds=true then some ds else none
 |_=>none
noncomputable def itB:Option Dv->Option (List Dv)
 |some (.tup ds)=>if ds.length<=lim then some ds else none
 |_=>none
noncomputable def itiB:Option Dv->Option (List Dv)
 |some (.tup ds)=>if ds.length<=lim/\imms ds=true then some ds else none
 |_=>none
theorem iL_b {m:EM}{δ:Dt}:iL m δ=ilB (m δ):=by
 unfold iL
 cases m δ with
 |none=>rfl
 |some x=>cases x<;>rfl
theorem yh {m:EM}{δ:Dt}:iLI m δ=iliB (m δ):=by
 unfold iLI
 cases m δ with
 |none=>rfl
 |some x=>cases x<;>rfl
theorem iT_b {m:EM}{δ:Dt}:iT m δ=itB (m δ):=by
 unfold iT
 cases m δ with
 |none=>rfl
 |some x=>cases x<;>rfl
theorem yi {m:EM}{δ:Dt}:iTI m δ=itiB (m δ):=by
 unfold iTI
 cases m δ with
 |none=>rfl
 |some x=>cases x<;>rfl
theorem yj {ds:List Dv} (h:ds.length<=lim):ilB (some (.lst ds))=some ds:=by show (if _ then _ else _)=_;rw [if_pos h]
theorem yk {ds:List Int} (h:ds.length<=lim):ilB (some (.scr ds))=some (ds.map .int):=by show (if _ then _ else _)=_;rw [if_pos h]
theorem ym {ds:List Dv} (h:ds.length<=lim) (h':imms ds=true):iliB (some (.lst ds))=some ds:=by show (if ds.length<=lim/\imms ds=true then _ else _)=_;rw [if_pos ⟨h,h'⟩]
theorem yn {ds:List Dv} (h:ds.length<=lim):itB (some (.tup ds))=some ds:=by show (if _ then _ else _)=_;rw [if_pos h]
theorem yo {ds:List Dv} (h:ds.length<=lim) (h':imms ds=true):itiB (some (.tup ds))=some ds:=by show (if ds.length<=lim/\imms ds=true then _ else _)=_;rw [if_pos ⟨h,h'⟩]
end L2
set_option maxHeartbeats 4000000
namespace DhSort
open PySem PyProof.Rows
structure Wk where
 lt:Keyed->Keyed->Bool
 irr: ∀p,lt p p=false
 tra: ∀p q r,lt p q=true->lt q r=true->lt p r=true
 neg: ∀p q r,lt p r=true->lt p q=true \/lt q r=true
namespace Wk
variable {W:Wk}{p q r:Keyed}
noncomputable def le (W:Wk) (p q:Keyed):Prop:=W.lt q p=false
theorem bB:W.le p p:=W.irr p
theorem bL (a:W.le p q) (b:W.le q r):W.le p r:=by
 unfold le at*
 cases h:W.lt r p with
 |false=>rfl
 |true=>
  rcases W.neg r q p h with z|z
  ·rw [b] at z;cases z
  ·rw [a] at z;cases z
theorem i8 (a:W.lt p q=true):W.le p q:=by
 unfold le
 cases h:W.lt q p with
 |false=>rfl
 |true=>have:=W.tra _ _ _ a h;rw [W.irr] at this;cases this
theorem yq (a:W.lt p q=true) (b:W.le q r):W.lt p r=true:=by
 rcases W.neg p r q a with z|z
 ·exact z
 ·unfold le at b;rw [b] at z;cases z
end Wk
noncomputable def kAt (xs:Array Keyed) (i:Nat):Keyed:=(xs[i]?).getD (Value.none,Value.none)
theorem i9 {xs:Array Keyed}{i:Nat} (h:i<xs.size):xs[i]?=some (kAt xs i):=by
 unfold kAt
 rw [getElem?_pos xs i h]
 rfl
theorem gU {xs ys:Array Keyed}{i j:Nat} (h:xs[i]?=ys[j]?):kAt xs i=kAt ys j:=by unfold kAt;rw [h]
noncomputable def bn (W:Wk) (xs:Array Keyed) (lo hi:Nat):Prop:= ∀i j,lo<=i->i<=j->j<hi->W.le (kAt xs i) (kAt xs j)
structure Cmp (W:Wk) (kd:SortKind) (good:Keyed->Prop) (prog:Program) (w:World) (A:Around) (s:Shared):Prop where
 ok: ∀p q,good p->good q-> ∀(E:Value->Shared->Prop) (Q:Bool->Shared->Prop),Q (W.lt p q) s->wpAny (model prog w) A (keyLt' kd p.1 q.1) Q E s
structure Bs (a₀:Array Keyed) (kd:SortKind) (P:Array (Nat×Nat×Nat)) (st:SortSt):Prop where
 perm:(arrOf st).Perm a₀
 kind:kindOf st=kd
 failed:failedOf st=none
 pend:pendingOf st=P
section
variable {prog:Program}{w:World}{A:Around}{E:Value->Shared->Prop}{s:Shared}{W:Wk}{kd:SortKind}{good:Keyed->Prop}{a₀:Array Keyed}{P:Array (Nat×Nat×Nat)}{st:SortSt}
theorem Bs.sz (B:Bs a₀ kd P st):(arrOf st).size=a₀.size:=B.perm.size_eq
theorem Bs.gd (B:Bs a₀ kd P st) (hg: ∀p,p∈a₀.toList->good p) {i:Nat} (h:i<a₀.size):good (kAt (arrOf st) i):=by
 have h':i<(arrOf st).size:=by rw [B.sz];exact h
 apply hg
 have e:=i9 h'
 have hm:(arrOf st)[i]∈a₀.toList:=(Array.perm_iff_toList_perm.mp B.perm).mem_iff.mp (by simp)
 rw [getElem?_pos _ i h'] at e
 rw [<-Option.some.inj e]
 exact hm
theorem Bs.set (B:Bs a₀ kd P st) {xs:Array Keyed} (hp:xs.Perm (arrOf st)):Bs a₀ kd P (setArr st xs):=⟨hp.trans B.perm,B.kind,B.failed,B.pend⟩
theorem yr (C:Cmp W kd good prog w A s) {p q:Keyed} (hk:kindOf st=kd) (hp:good p) (hq:good q) {Q:Option Bool->SortSt->Prop} (h:Q (some (W.lt p q)) st):wpS (model prog w) A E s (lt' p q) Q st:=by
 rw [lt'_eq]
 refine wpS_bind (wpS_get ?_)
 rw [hk]
 refine wpS_bind (wpS_lift (wpAny_attempt (C.ok p q hp hq _ _ ⟨rfl,?_⟩)))
 exact wpS_pure h
theorem pd {arr:Array Keyed}{i:Nat} (hi:i<arr.size) {Q:Keyed->SortSt->Prop} (h:Q (kAt arr i) st):wpS (model prog w) A E s (elem' arr i) Q st:=by
 rw [elem'_eq,i9 hi]
 exact wpS_pure h
theorem gW (C:Cmp W kd good prog w A s) (hg: ∀p,p∈a₀.toList->good p) (B:Bs a₀ kd P st) {i j:Nat} (hi:i<a₀.size) (hj:j<a₀.size) {Q:Option Bool->SortSt->Prop}
  (h:Q (some (W.lt (kAt (arrOf st) i) (kAt (arrOf st) j))) st):wpS (model prog w) A E s (ltAt' i j) Q st:=by
 rw [ltAt'_eq]
 refine wpS_bind (wpS_get ?_)
 refine wpS_bind (pd (by rw [B.sz];exact hi) (wpS_bind (pd (by rw [B.sz];exact hj) ?_)))
 exact yr C B.kind (B.gd hg hi) (B.gd hg hj) h
theorem kQ {xs:Array Keyed}{src d:Nat} (hs:src<xs.size) (hd:d<=src) (k:Nat):
  kAt (bubble xs src d) k=if k=src-d then kAt xs src else if src-d<k/\k<=src then kAt xs (k-1) else kAt xs k:=by
 have e:=getElem?_bubble hs d hd k
 split
 ·next h=>rw [if_pos h] at e;exact gU e
 ·next h=>
  rw [if_neg h] at e
  split
  ·next h'=>rw [if_pos h'] at e;exact gU e
  ·next h'=>rw [if_neg h'] at e;exact gU e
theorem yt (C:Cmp W kd good prog w A s) (hg: ∀p,p∈a₀.toList->good p) {lo n ok:Nat}{Q:Bool->SortSt->Prop} (hn:lo+n<=a₀.size) (hok:ok<=n) (B:Bs a₀ kd P st) (hs:bn W (arrOf st) lo (lo+ok))
  (h: ∀st',Bs a₀ kd P st'->bn W (arrOf st') lo (lo+n)->(∀i,i<lo->kAt (arrOf st') i=kAt (arrOf st) i)->Q true st'):wpS (model prog w) A E s (binarySort' lo n ok) Q st:=by
 rw [binarySort'_eq]
 refine wpS_bind (wpS_mono (wpS_forRange (I:=fun k c st'=>c=(none,())/\Bs a₀ kd P st'/\bn W (arrOf st') lo (lo+min k n)/\ ∀i,i<lo->kAt (arrOf st') i=kAt (arrOf st) i)
  (Q:=fun c st'=>c=(none,())/\Bs a₀ kd P st'/\bn W (arrOf st') lo (lo+n)/\ ∀i,i<lo->kAt (arrOf st') i=kAt (arrOf st) i) ?stp ?lst ?beg) ?aft)
 case aft=>
  rintro c st' ⟨rfl,B',hs',hf⟩
  exact wpS_pure (h st' B' hs' hf)
 case beg=>
  refine ⟨rfl,B,fun i j h1 h2 h3=> ?_,fun _ _=>rfl⟩
  by_cases h0:i=j
  ·subst h0;exact Wk.bB
  ·exact hs i j h1 h2 (by lia)
 case lst=>
  rintro c st' ⟨hc,B',hs',hf⟩
  refine ⟨hc,B',?_,hf⟩
  rwa [show min (max (max ok 1) n) n=n by lia] at hs'
 case stp=>
  rintro k c st' h1 h2 ⟨rfl,B',hs',hf⟩
  rw [show min k n=k by lia] at hs'
  have hk:lo+k<a₀.size:=by lia
  refine wpS_bind (wpS_mono (wpS_forRange (I:=fun x c st2=>st2=st'/\ ∃l r,c=(none,l,r)/\l<=r/\r<=k/\r-l<=k-x/\
    (∀i,i<l->W.le (kAt (arrOf st') (lo+i)) (kAt (arrOf st') (lo+k)))/\(∀i,r<=i->i<k->W.lt (kAt (arrOf st') (lo+k)) (kAt (arrOf st') (lo+i))=true))
   (Q:=fun c st2=>st2=st'/\ ∃l r,c=(none,l,r)/\l<=k/\
    (∀i,i<l->W.le (kAt (arrOf st') (lo+i)) (kAt (arrOf st') (lo+k)))/\(∀i,l<=i->i<k->W.lt (kAt (arrOf st') (lo+k)) (kAt (arrOf st') (lo+i))=true)) ?a ?b ?c) ?d)
  case c=>exact ⟨rfl,0,k,rfl,by lia,by lia,by lia,fun i hi=>by lia,fun i h1 h2=>by lia⟩
  case b=>
   rintro c st2 ⟨rfl,l,r,rfl,q1,q2,q3,q4,q5⟩
   obtain rfl:l=r:=by lia
   exact ⟨rfl,l,l,rfl,q2,q4,q5⟩
  case a=>
   rintro x c st2 _ hx ⟨rfl,l,r,rfl,q1,q2,q3,q4,q5⟩
   dsimp only
   by_cases hge:l>=r
   ·rw [if_pos hge]
    obtain rfl:l=r:=by lia
    exact wpS_pure ⟨rfl,l,l,rfl,q2,q4,q5⟩
   ·rw [if_neg hge]
    refine wpS_bind (gW C hg B' hk (by lia) ?_)
    cases hl:W.lt (kAt (arrOf st2) (lo+k)) (kAt (arrOf st2) (lo+(l+r)/2)) with
    |true=>
     simp only [if_true]
     refine wpS_pure ⟨rfl,l,(l+r)/2,rfl,by lia,by lia,by lia,q4,fun i z1 z2=> ?_⟩
     exact Wk.yq hl (hs' _ _ (by lia) (by lia) (by lia))
    |false=>
     simp only [Bool.false_eq_true,if_false]
     refine wpS_pure ⟨rfl,(l+r)/2+1,r,rfl,by lia,by lia,by lia,fun i z1=> ?_,q5⟩
     exact Wk.bL (hs' (lo+i) (lo+(l+r)/2) (by lia) (by lia) (by lia)) hl
  case d=>
   rintro c st2 ⟨rfl,l,r,rfl,q2,q4,q5⟩
   show wpS _ _ _ _ (do moveDown' (lo+k) (lo+l);pure (ForInStep.yield (none,()))) _ _
   rw [moveDown'_eq]
   have hks:lo+k<(arrOf st2).size:=by rw [B'.sz];exact hk
   refine wpS_bind (wpS_modify (wpS_pure ⟨rfl,B'.set (bubble_perm _ _ _),?_,?_⟩))
   ·rw [show min (k+1) n=k+1 by lia]
    intro i j z1 z2 z3
    show W.le (kAt (bubble (arrOf st2) (lo+k) (lo+k-(lo+l))) i) (kAt (bubble (arrOf st2) (lo+k) (lo+k-(lo+l))) j)
    rw [kQ hks (by lia),kQ hks (by lia),show lo+k-(lo+k-(lo+l))=lo+l by lia]
    have g4: ∀i,lo<=i->i<lo+l->W.le (kAt (arrOf st2) i) (kAt (arrOf st2) (lo+k)):=fun i y1 y2=>by
     have:=q4 (i-lo) (by lia)
     rwa [show lo+(i-lo)=i by lia] at this
    have g5: ∀i,lo+l<=i->i<lo+k->W.le (kAt (arrOf st2) (lo+k)) (kAt (arrOf st2) i):=fun i y1 y2=>by
     have:=q5 (i-lo) (by lia) (by lia)
     rw [show lo+(i-lo)=i by lia] at this
     exact Wk.i8 this
    repeat' split
    all_goals first
     |(exfalso;lia)
     |exact Wk.bB
     |exact g4 _ (by lia) (by lia)
     |exact g5 _ (by lia) (by lia)
     |exact hs' _ _ (by lia) (by lia) (by lia)
   ·intro i hi
    show kAt (bubble (arrOf st2) (lo+k) (lo+k-(lo+l))) i=_
    rw [kQ hks (by lia),if_neg (by lia),if_neg (by lia)]
    exact hf i hi
end
end DhSort
set_option maxHeartbeats 4000000
namespace DhSort
open PySem PyProof.Rows
section
variable {prog:Program}{w:World}{A:Around}{E:Value->Shared->Prop}{s:Shared}{W:Wk}{kd:SortKind}{good:Keyed->Prop}{a₀:Array Keyed}{P:Array (Nat×Nat×Nat)}{st:SortSt}
noncomputable def cM (W:Wk) (xs:Array Keyed) (lo hi:Nat):Prop:= ∀i j,lo<=i->i<=j->j<hi->W.le (kAt xs j) (kAt xs i)
theorem cN {xs:Array Keyed}{i j:Nat} (hj:j<=xs.size) (k:Nat):kAt (mirror xs i j ((j-i)/2)) k=if i<=k/\k<j then kAt xs (i+j-1-k) else kAt xs k:=by
 have e:=getElem?_mirror_all (i:=i) hj k
 split
 ·next h=>rw [if_pos h] at e;exact gU e
 ·next h=>rw [if_neg h] at e;exact gU e
theorem gX (C:Cmp W kd good prog w A s) (hg: ∀p,p∈a₀.toList->good p) {lo a nrem:Nat} (hn:lo+nrem<=a₀.size) (h1:1<=a) (h2:a<=nrem) (B:Bs a₀ kd P st) (hs:bn W (arrOf st) lo (lo+a))
  {Q:Option (Option Nat)×Nat->SortSt->Prop} (h: ∀m,a<=m->m<=nrem->bn W (arrOf st) lo (lo+m)->(m=nrem \/W.lt (kAt (arrOf st) (lo+m)) (kAt (arrOf st) (lo+m-1))=true)->Q (none,m) st):
  wpS (model prog w) A E s (forIn [a:nrem] ((none,a):Option (Option Nat)×Nat) fun _ c=>do
   let x<-ltAt' (lo+c.snd) (lo+c.snd-1)
   match x with
   |some b=>if b=true then pure (ForInStep.done (none,c.snd)) else pure (ForInStep.yield (none,c.snd+1))
   |_=>pure (ForInStep.done (some none,c.snd))) Q st:=by
 refine wpS_mono (wpS_forRange (I:=fun x c st'=>st'=st/\c=(none,x)/\a<=x/\x<=nrem/\bn W (arrOf st) lo (lo+x))
  (Q:=fun c st'=>st'=st/\ ∃m,c=(none,m)/\a<=m/\m<=nrem/\bn W (arrOf st) lo (lo+m)/\(m=nrem \/W.lt (kAt (arrOf st) (lo+m)) (kAt (arrOf st) (lo+m-1))=true)) ?_ ?_ ⟨rfl,rfl,Nat.le_refl _,h2,hs⟩) ?_
 ·rintro x c st' hx1 hx2 ⟨rfl,rfl,q1,q2,q3⟩
  refine wpS_bind (gW C hg B (by lia) (by lia) ?_)
  cases hl:W.lt (kAt (arrOf st') (lo+x)) (kAt (arrOf st') (lo+x-1)) with
  |true=>
   dsimp only
   rw [if_pos rfl]
   exact wpS_pure ⟨rfl,x,rfl,q1,q2,q3,.inr hl⟩
  |false=>
   dsimp only
   rw [if_neg Bool.false_ne_true]
   refine wpS_pure ⟨rfl,rfl,by lia,by lia,fun i j z1 z2 z3=> ?_⟩
   by_cases hj:j<lo+x
   ·exact q3 i j z1 z2 hj
   ·obtain rfl:j=lo+x:=by lia
    by_cases hi:i=lo+x
    ·rw [hi];exact Wk.bB
    ·exact Wk.bL (q3 i (lo+x-1) z1 (by lia) (by lia)) hl
 ·rintro c st' ⟨rfl,rfl,q1,q2,q3⟩
  rw [show max a nrem=nrem by lia] at*
  exact ⟨rfl,nrem,rfl,q1,q2,q3,.inl rfl⟩
 ·rintro c st' ⟨rfl,m,rfl,q1,q2,q3,q4⟩
  exact h m q1 q2 q3 q4
noncomputable def Sim (W:Wk) (xs ys:Array Keyed):Prop:= ∀k,W.le (kAt xs k) (kAt ys k)/\W.le (kAt ys k) (kAt xs k)
theorem ja {xs:Array Keyed}{i j:Nat} (hj:j<=xs.size) (h: ∀k l,i<=k->k<j->i<=l->l<j->W.le (kAt xs k) (kAt xs l)):Sim W xs (mirror xs i j ((j-i)/2)):=by
 intro k
 rw [cN hj]
 split
 ·next q=>exact ⟨h _ _ q.1 q.2 (by lia) (by lia),h _ _ (by lia) (by lia) q.1 q.2⟩
 ·exact ⟨Wk.bB,Wk.bB⟩
theorem cM.sim {xs ys:Array Keyed}{lo hi:Nat} (n:cM W xs lo hi) (m:Sim W xs ys):cM W ys lo hi:=fun i j z1 z2 z3=>Wk.bL (m j).2 (Wk.bL (n i j z1 z2 z3) (m i).1)
theorem d5 {i j:Nat}{Q:Unit->SortSt->Prop} (h:Q () (setArr st (mirror (arrOf st) i j ((j-i)/2)))):wpS (model prog w) A E s (reverseSlice' i j) Q st:=by
 rw [reverseSlice'_eq]
 exact wpS_modify h
theorem jb {xs:Array Keyed}{lo n:Nat} (hsz:lo+n<=xs.size) (hd:cM W xs lo (lo+n)):bn W (mirror xs lo (lo+n) ((lo+n-lo)/2)) lo (lo+n):=fun i j z1 z2 z3=>by
 rw [cN hsz,cN hsz,if_pos ⟨z1,by lia⟩,if_pos ⟨by lia,z3⟩]
 exact hd _ _ (by lia) (by lia) (by lia)
theorem pf (C:Cmp W kd good prog w A s) (hg: ∀p,p∈a₀.toList->good p) {lo m nrem:Nat} (hn:lo+nrem<=a₀.size) (h1:1<=m) (h2:m+1<=nrem) (B:Bs a₀ kd P st) (hd:cM W (arrOf st) lo (lo+(m+1)))
  {Q:Option (Option Nat)×Nat×Nat->SortSt->Prop} (h: ∀x e st',e+1<=x->m+1<=x->x<=nrem->Bs a₀ kd P st'->cM W (arrOf st') lo (lo+x)->
   (∀i j,lo+x-(e+1)<=i->i<lo+x->lo+x-(e+1)<=j->j<lo+x->W.le (kAt (arrOf st') i) (kAt (arrOf st') j))->(∀i,i<lo->kAt (arrOf st') i=kAt (arrOf st) i)->Q (none,x,e) st'):
  wpS (model prog w) A E s (forIn [m+1:nrem] ((none,m+1,0):Option (Option Nat)×Nat×Nat) fun _ c=>do
    let x<-ltAt' (lo+c.snd.fst) (lo+c.snd.fst-1)
    match x with
    |some b=>
     if b=true then
      if c.snd.snd>0 then do
       reverseSlice' (lo+c.snd.fst-(c.snd.snd+1)) (lo+c.snd.fst)
       pure (ForInStep.yield (none,c.snd.fst+1,0))
      else pure (ForInStep.yield (none,c.snd.fst+1,0))
     else do
      let x<-ltAt' (lo+c.snd.fst-1) (lo+c.snd.fst)
      match x with
      |some b=>if b=true then pure (ForInStep.done (none,c.snd.fst,c.snd.snd)) else pure (ForInStep.yield (none,c.snd.fst+1,c.snd.snd+1))
      |_=>pure (ForInStep.done (some none,c.snd.fst,c.snd.snd))
    |_=>pure (ForInStep.done (some none,c.snd.fst,c.snd.snd))) Q st:=by
 have blk: ∀{st':SortSt}{x e:Nat},x<=nrem->Bs a₀ kd P st'->(∀i j,lo+x-(e+1)<=i->i<lo+x->lo+x-(e+1)<=j->j<lo+x->W.le (kAt (arrOf st') i) (kAt (arrOf st') j))->
   Sim W (arrOf st') (mirror (arrOf st') (lo+x-(e+1)) (lo+x) ((lo+x-(lo+x-(e+1)))/2)):=fun {st' x e} hx B' hb=>
  ja (by rw [B'.sz];lia) fun k l z1 z2 z3 z4=>hb k l z1 z2 z3 z4
 have far: ∀{st':SortSt}{x e i:Nat},x<=nrem->e+1<=x->Bs a₀ kd P st'->i<lo \/lo+x<=i->kAt (mirror (arrOf st') (lo+x-(e+1)) (lo+x) ((lo+x-(lo+x-(e+1)))/2)) i=kAt (arrOf st') i:=fun {st' x e i} hx he B' hi=>by
  rw [cN (by rw [B'.sz];lia),if_neg (by lia)]
 refine wpS_mono (wpS_forRange (I:=fun x c st'=> ∃e,c=(none,x,e)/\e+1<=x/\m+1<=x/\x<=nrem/\Bs a₀ kd P st'/\cM W (arrOf st') lo (lo+x)/\
   (∀i j,lo+x-(e+1)<=i->i<lo+x->lo+x-(e+1)<=j->j<lo+x->W.le (kAt (arrOf st') i) (kAt (arrOf st') j))/\ ∀i,i<lo->kAt (arrOf st') i=kAt (arrOf st) i)
  (Q:=fun c st'=> ∃x e,c=(none,x,e)/\e+1<=x/\m+1<=x/\x<=nrem/\Bs a₀ kd P st'/\cM W (arrOf st') lo (lo+x)/\
   (∀i j,lo+x-(e+1)<=i->i<lo+x->lo+x-(e+1)<=j->j<lo+x->W.le (kAt (arrOf st') i) (kAt (arrOf st') j))/\ ∀i,i<lo->kAt (arrOf st') i=kAt (arrOf st) i)
  ?stp ?lst ?beg) ?aft
 case beg=>
  refine ⟨0,rfl,by lia,Nat.le_refl _,h2,B,hd,fun i j z1 z2 z3 z4=> ?_,fun _ _=>rfl⟩
  obtain rfl:i=j:=by lia
  exact Wk.bB
 case lst=>
  rintro c st' ⟨e,rfl,q⟩
  exact ⟨_,e,rfl,q⟩
 case stp=>
  rintro x c st' y1 y2 ⟨e,rfl,q1,q2,q3,B',q5,q6,q7⟩
  dsimp only
  refine wpS_bind (gW C hg B' (by lia) (by lia) ?_)
  cases hl:W.lt (kAt (arrOf st') (lo+x)) (kAt (arrOf st') (lo+x-1)) with
  |true=>
   dsimp only
   rw [if_pos rfl]
   have ext: ∀{ys:Array Keyed},Sim W (arrOf st') ys->cM W ys lo (lo+(x+1)):=fun {ys} sm i j z1 z2 z3=>by
    by_cases hj:j<lo+x
    ·exact (q5.sim sm) i j z1 z2 hj
    ·obtain rfl:j=lo+x:=by lia
     by_cases hi:i=lo+x
     ·rw [hi];exact Wk.bB
     ·exact Wk.bL (sm _).2 (Wk.bL (Wk.i8 hl) (Wk.bL (q5 i (lo+x-1) z1 (by lia) (by lia)) (sm i).1))
   have one: ∀{ys:Array Keyed} (i j:Nat),lo+(x+1)-(0+1)<=i->i<lo+(x+1)->lo+(x+1)-(0+1)<=j->j<lo+(x+1)->W.le (kAt ys i) (kAt ys j):=fun i j z1 z2 z3 z4=>by
    obtain rfl:i=j:=by lia
    exact Wk.bB
   by_cases he:e>0
   ·rw [if_pos he]
    refine wpS_bind (d5 (wpS_pure ⟨0,rfl,by lia,by lia,by lia,B'.set (mirror_perm _ _ _ _),ext (blk q3 B' q6),one,fun i hi=> ?_⟩))
    exact (far q3 q1 B' (.inl hi)).trans (q7 i hi)
   ·rw [if_neg he]
    exact wpS_pure ⟨0,rfl,by lia,by lia,by lia,B',ext fun _=>⟨Wk.bB,Wk.bB⟩,one,q7⟩
  |false=>
   dsimp only
   rw [if_neg Bool.false_ne_true]
   refine wpS_bind (gW C hg B' (by lia) (by lia) ?_)
   cases hl2:W.lt (kAt (arrOf st') (lo+x-1)) (kAt (arrOf st') (lo+x)) with
   |true=>
    dsimp only
    rw [if_pos rfl]
    exact wpS_pure ⟨x,e,rfl,q1,q2,q3,B',q5,q6,q7⟩
   |false=>
    dsimp only
    rw [if_neg Bool.false_ne_true]
    refine wpS_pure ⟨e+1,rfl,by lia,by lia,by lia,B',fun i j z1 z2 z3=> ?_,fun i j z1 z2 z3 z4=> ?_,q7⟩
    ·by_cases hj:j<lo+x
     ·exact q5 i j z1 z2 hj
     ·obtain rfl:j=lo+x:=by lia
      by_cases hi:i=lo+x
      ·rw [hi];exact Wk.bB
      ·exact Wk.bL hl2 (q5 i (lo+x-1) z1 (by lia) (by lia))
    ·by_cases hi:i=lo+x
     ·by_cases hj:j=lo+x
      ·rw [hi,hj];exact Wk.bB
      ·rw [hi];exact Wk.bL hl2 (q6 (lo+x-1) j (by lia) (by lia) (by lia) (by lia))
     ·by_cases hj:j=lo+x
      ·rw [hj];exact Wk.bL (q6 i (lo+x-1) (by lia) (by lia) (by lia) (by lia)) hl
      ·exact q6 i j (by lia) (by lia) (by lia) (by lia)
 case aft=>
  rintro c st' ⟨x,e,rfl,q1,q2,q3,B',q5,q6,q7⟩
  exact h x e st' q1 q2 q3 B' q5 q6 q7
theorem yu (C:Cmp W kd good prog w A s) (hg: ∀p,p∈a₀.toList->good p) {lo nrem:Nat} (hn:lo+nrem<=a₀.size) (h1:1<=nrem) (B:Bs a₀ kd P st)
  {Q:Option Nat->SortSt->Prop} (h: ∀m st',1<=m->m<=nrem->Bs a₀ kd P st'->bn W (arrOf st') lo (lo+m)->(∀i,i<lo->kAt (arrOf st') i=kAt (arrOf st) i)->Q (some m) st'):
  wpS (model prog w) A E s (countRun' lo nrem) Q st:=by
 rw [countRun'_eq]
 refine wpS_bind (gX C hg hn (Nat.le_refl 1) h1 B (fun i j z1 z2 z3=> ?_) fun m q1 q2 q3 q4=> ?_)
 ·obtain rfl:i=j:=by lia
  exact Wk.bB
 dsimp only
 by_cases he:m=nrem
 ·rw [if_pos (by simpa using he)]
  exact wpS_pure (h m st q1 q2 B q3 fun _ _=>rfl)
 ·rw [if_neg (by simpa using he)]
  have hl:W.lt (kAt (arrOf st) (lo+m)) (kAt (arrOf st) (lo+m-1))=true:=q4.resolve_left he
  have hsz:lo+m<=(arrOf st).size:=by rw [B.sz];lia
  by_cases hm:m>1
  ·rw [if_pos hm]
   refine wpS_bind (gW C hg B (by lia) (by lia) ?_)
   cases hr:W.lt (kAt (arrOf st) lo) (kAt (arrOf st) (lo+m-1)) with
   |true=>
    dsimp only
    rw [if_pos rfl]
    exact wpS_pure (h m st q1 q2 B q3 fun _ _=>rfl)
   |false=>
    dsimp only
    rw [if_neg Bool.false_ne_true]
    refine wpS_bind (d5 ?_)
    have eq: ∀k l,lo<=k->k<lo+m->lo<=l->l<lo+m->W.le (kAt (arrOf st) k) (kAt (arrOf st) l):=fun k l z1 z2 z3 z4=>
     Wk.bL (q3 k (lo+m-1) z1 (by lia) (by lia)) (Wk.bL hr (q3 lo l (Nat.le_refl _) z3 z4))
    have sm:=ja (W:=W) (i:=lo) hsz eq
    have B1:=B.set (mirror_perm (arrOf st) lo (lo+m) ((lo+m-lo)/2))
    have fr: ∀i,i<lo->kAt (mirror (arrOf st) lo (lo+m) ((lo+m-lo)/2)) i=kAt (arrOf st) i:=fun i hi=>by rw [cN hsz,if_neg (by lia)]
    have hd:cM W (mirror (arrOf st) lo (lo+m) ((lo+m-lo)/2)) lo (lo+(m+1)):=fun i j z1 z2 z3=>by
     refine Wk.bL (sm j).2 (Wk.bL ?_ (sm i).1)
     by_cases hj:j<lo+m
     ·exact eq j i (by lia) hj z1 (by lia)
     ·obtain rfl:j=lo+m:=by lia
      by_cases hi:i=lo+m
      ·rw [hi];exact Wk.bB
      ·exact Wk.bL (Wk.i8 hl) (eq _ _ (by lia) (by lia) z1 (by lia))
    refine wpS_bind (wpS_lift (wpAny_rule ⟨rfl,?_⟩))
    refine wpS_bind (pf C hg hn q1 (by lia) B1 hd fun x e st' r1 r2 r3 B' r5 r6 r7=> ?_)
    dsimp only
    have hx:lo+x<=(arrOf st').size:=by rw [B'.sz];lia
    by_cases he:e>0
    ·rw [if_pos he]
     refine wpS_bind (d5 (wpS_bind (d5 ?_)))
     have sm:Sim W (arrOf st') (mirror (arrOf st') (lo+x-(e+1)) (lo+x) ((lo+x-(lo+x-(e+1)))/2)):=ja hx fun k l z1 z2 z3 z4=>r6 k l z1 z2 z3 z4
     have nu:=r5.sim sm
     have hx2:lo+x<=(mirror (arrOf st') (lo+x-(e+1)) (lo+x) ((lo+x-(lo+x-(e+1)))/2)).size:=by rw [mirror_size];exact hx
     have B2:=(B'.set (mirror_perm (arrOf st') (lo+x-(e+1)) (lo+x) ((lo+x-(lo+x-(e+1)))/2))).set (mirror_perm _ lo (lo+x) ((lo+x-lo)/2))
     refine wpS_bind (gX C hg hn (by lia) r3 B2 (jb hx2 nu) fun m2 u1 u2 u3 u4=>wpS_pure (h m2 _ (by lia) u2 B2 u3 fun i hi=> ?_))
     have e1:kAt (mirror (mirror (arrOf st') (lo+x-(e+1)) (lo+x) ((lo+x-(lo+x-(e+1)))/2)) lo (lo+x) ((lo+x-lo)/2)) i=kAt (arrOf st') i:=by
      rw [cN hx2,if_neg (by lia),cN hx,if_neg (by lia)]
     exact e1.trans ((r7 i hi).trans (fr i hi))
    ·rw [if_neg he]
     refine wpS_bind (d5 ?_)
     have B2:=B'.set (mirror_perm (arrOf st') lo (lo+x) ((lo+x-lo)/2))
     refine wpS_bind (gX C hg hn (by lia) r3 B2 (jb hx r5) fun m2 u1 u2 u3 u4=>wpS_pure (h m2 _ (by lia) u2 B2 u3 fun i hi=> ?_))
     have e1:kAt (mirror (arrOf st') lo (lo+x) ((lo+x-lo)/2)) i=kAt (arrOf st') i:=by
      rw [cN hx,if_neg (by lia)]
     exact e1.trans ((r7 i hi).trans (fr i hi))
  ·rw [if_neg hm]
   obtain rfl:m=1:=by lia
   have B1:=B
   have fr: ∀i,i<lo->kAt (arrOf st) i=kAt (arrOf st) i:=fun _ _=>rfl
   have hd:cM W (arrOf st) lo (lo+(1+1)):=fun i j z1 z2 z3=>by
    by_cases hij:i=j
    ·subst hij;exact Wk.bB
    ·obtain rfl:i=lo:=by lia
     obtain rfl:j=i+1:=by lia
     exact Wk.i8 hl
   refine wpS_bind (wpS_lift (wpAny_rule ⟨rfl,?_⟩))
   refine wpS_bind (pf C hg hn q1 (by lia) B1 hd fun x e st' r1 r2 r3 B' r5 r6 r7=> ?_)
   dsimp only
   have hx:lo+x<=(arrOf st').size:=by rw [B'.sz];lia
   by_cases he:e>0
   ·rw [if_pos he]
    refine wpS_bind (d5 (wpS_bind (d5 ?_)))
    have sm:Sim W (arrOf st') (mirror (arrOf st') (lo+x-(e+1)) (lo+x) ((lo+x-(lo+x-(e+1)))/2)):=ja hx fun k l z1 z2 z3 z4=>r6 k l z1 z2 z3 z4
    have nu:=r5.sim sm
    have hx2:lo+x<=(mirror (arrOf st') (lo+x-(e+1)) (lo+x) ((lo+x-(lo+x-(e+1)))/2)).size:=by rw [mirror_size];exact hx
    have B2:=(B'.set (mirror_perm (arrOf st') (lo+x-(e+1)) (lo+x) ((lo+x-(lo+x-(e+1)))/2))).set (mirror_perm _ lo (lo+x) ((lo+x-lo)/2))
    refine wpS_bind (gX C hg hn (by lia) r3 B2 (jb hx2 nu) fun m2 u1 u2 u3 u4=>wpS_pure (h m2 _ (by lia) u2 B2 u3 fun i hi=> ?_))
    have e1:kAt (mirror (mirror (arrOf st') (lo+x-(e+1)) (lo+x) ((lo+x-(lo+x-(e+1)))/2)) lo (lo+x) ((lo+x-lo)/2)) i=kAt (arrOf st') i:=by
     rw [cN hx2,if_neg (by lia),cN hx,if_neg (by lia)]
    exact e1.trans ((r7 i hi).trans (fr i hi))
   ·rw [if_neg he]
    refine wpS_bind (d5 ?_)
    have B2:=B'.set (mirror_perm (arrOf st') lo (lo+x) ((lo+x-lo)/2))
    refine wpS_bind (gX C hg hn (by lia) r3 B2 (jb hx r5) fun m2 u1 u2 u3 u4=>wpS_pure (h m2 _ (by lia) u2 B2 u3 fun i hi=> ?_))
    have e1:kAt (mirror (arrOf st') lo (lo+x) ((lo+x-lo)/2)) i=kAt (arrOf st') i:=by
     rw [cN hx,if_neg (by lia)]
    exact e1.trans ((r7 i hi).trans (fr i hi))
end
end DhSort
set_option maxHeartbeats 4000000
namespace DhSort
open PySem PyProof.Rows
section
variable {prog:Program}{w:World}{A:Around}{E:Value->Shared->Prop}{s:Shared}{W:Wk}{kd:SortKind}{good:Keyed->Prop}{a₀:Array Keyed}{st:SortSt}
theorem yv (C:Cmp W kd good prog w A s) (hg: ∀p,p∈a₀.toList->good p) (B:Bs a₀ kd #[] st) (h2:2<=a₀.size) (h64:a₀.size<64) {Q:Unit->SortSt->Prop}
  (h: ∀st',(arrOf st').Perm a₀->failedOf st'=none->bn W (arrOf st') 0 a₀.size->Q () st'):wpS (model prog w) A E s sortRuns' Q st:=by
 rw [sortRuns'_eq]
 refine wpS_bind (wpS_get ?_)
 try dsimp only
 rw [B.sz]
 have hmr:minRun' a₀.size a₀.size 0=a₀.size:=by
  obtain ⟨f,hf⟩: ∃f,a₀.size=f+1:=⟨a₀.size-1,by lia⟩
  have:minRun' (f+1) a₀.size 0=a₀.size:=by rw [minRun'_succ,if_pos h64];rfl
  rwa [<-hf] at this
 rw [hmr]
 refine wpS_bind (wpS_mono (wpS_forRange (I:=fun x c st'=>(c=(none,0)/\x=0/\Bs a₀ kd #[] st') \/(c=(none,a₀.size)/\Bs a₀ kd #[(0,a₀.size,0)] st'/\bn W (arrOf st') 0 a₀.size))
  (Q:=fun c st'=>c=(none,a₀.size)/\Bs a₀ kd #[(0,a₀.size,0)] st'/\bn W (arrOf st') 0 a₀.size) ?stp ?lst (.inl ⟨rfl,rfl,B⟩)) ?aft)
 case lst=>
  rintro c st' (⟨_,z,_⟩|z)
  ·lia
  ·exact z
 case stp=>
  rintro x c st' _ hx (⟨rfl,rfl,B0⟩|⟨rfl,B0,sr⟩)
  ·try dsimp only
   rw [if_neg (by lia)]
   refine wpS_bind (yu C hg (by lia) (by lia) B0 fun m st1 m1 m2 B1 sr1 fr=> ?_)
   try dsimp only
   by_cases hlt:m<a₀.size
   ·rw [if_pos hlt]
    refine wpS_bind (wpS_lift (wpAny_rule ⟨rfl,?_⟩))
    refine wpS_bind (yt C hg (n:=min (a₀.size-0) a₀.size) (by lia) (by lia) B1 sr1 fun st4 B4 sr4 fr4=> ?_)
    try dsimp only
    rw [if_neg (by decide)]
    have e:min (a₀.size-0) a₀.size=a₀.size:=by lia
    rw [e] at sr4|-
    rw [Nat.zero_add] at sr4
    refine wpS_bind (wpS_get ?_)
    rw [B4.pend]
    try dsimp only
    refine wpS_bind (wpS_modify (wpS_pure ?_))
    refine .inr ⟨by rw [Nat.zero_add],⟨B4.perm,B4.kind,B4.failed,?_⟩,sr4⟩
    show (pendingOf st4).push _=_
    rw [B4.pend]
    rfl
   ·rw [if_neg hlt]
    have e:m=a₀.size:=by lia
    rw [e] at sr1|-
    rw [Nat.zero_add] at sr1
    refine wpS_bind (wpS_get ?_)
    rw [B1.pend]
    try dsimp only
    refine wpS_bind (wpS_modify (wpS_pure ?_))
    refine .inr ⟨by rw [Nat.zero_add],⟨B1.perm,B1.kind,B1.failed,?_⟩,sr1⟩
    show (pendingOf st1).push _=_
    rw [B1.pend]
    rfl
  ·try dsimp only
   rw [if_pos (Nat.le_refl _)]
   exact wpS_pure ⟨rfl,B0,sr⟩
 case aft=>
  rintro c st' ⟨rfl,B1,sr⟩
  try dsimp only
  refine wpS_bind (wpS_mono (wpS_forRange (I:=fun x c st'=>c=(none,())/\Bs a₀ kd #[(0,a₀.size,0)] st'/\bn W (arrOf st') 0 a₀.size)
   (Q:=fun c st'=>c=(none,())/\Bs a₀ kd #[(0,a₀.size,0)] st'/\bn W (arrOf st') 0 a₀.size) ?s2 (fun _ _ z=>z) ⟨rfl,B1,sr⟩) ?a2)
  case a2=>
   rintro c st' ⟨rfl,B1,sr⟩
   try dsimp only
   exact wpS_pure (h st' B1.perm B1.failed sr)
  case s2=>
   rintro x c st' _ hx ⟨rfl,B1,sr⟩
   refine wpS_bind (wpS_get ?_)
   rw [B1.pend]
   try dsimp only
   rw [if_pos (show (#[(0,a₀.size,0)]:Array (Nat×Nat×Nat)).size<=1 from Nat.le_refl 1)]
   exact wpS_pure ⟨rfl,B1,sr⟩
end
end DhSort
set_option maxHeartbeats 4000000
namespace DhSort
open PySem PySem.Calls PyProof.Rows PySem.W L2
theorem gY: ∀p:List Int,HT.aA p p=false
 |[]=>rfl
 |x::r=>by rw [HT.eE,if_pos rfl];exact gY r
theorem je: ∀p q r:List Int,HT.aA p q=true->HT.aA q r=true->HT.aA p r=true
 |[],[],_,a,_=>by cases a
 |[],_::_,[],_,b=>by cases b
 |[],_::_,_::_,_,_=>rfl
 |_::_,[],_,a,_=>by cases a
 |_::_,_::_,[],_,b=>by cases b
 |x::p,y::q,z::r,a,b=>by
  rw [HT.eE] at a b|-
  by_cases e1:x=y
  ·subst e1
   rw [if_pos rfl] at a
   by_cases e2:x=z
   ·rw [if_pos e2] at b|-;exact je p q r a b
   ·rw [if_neg e2] at b|-;exact b
  ·rw [if_neg e1] at a
   have a':=of_decide_eq_true a
   by_cases e2:y=z
   ·subst e2;rw [if_neg e1];exact a
   ·rw [if_neg e2] at b
    have b':=of_decide_eq_true b
    rw [if_neg (by lia)]
    exact decide_eq_true (by lia)
theorem kR: ∀p q r:List Int,HT.aA p r=true->HT.aA p q=true \/HT.aA q r=true
 |[],[],_,a=> .inr a
 |[],_::_,_,_=> .inl rfl
 |_::_,_,[],a=>by cases a
 |_::_,[],_::_,_=> .inr rfl
 |x::p,y::q,z::r,a=>by
  rw [HT.eE] at a|-
  rw [HT.eE]
  by_cases e1:x=y
  ·subst e1
   rw [if_pos rfl]
   by_cases e2:x=z
   ·rw [if_pos e2] at a|-;exact kR p q r a
   ·rw [if_neg e2] at a|-;exact .inr a
  ·rw [if_neg e1]
   by_cases e2:x=z
   ·subst e2
    rw [if_neg (fun e=>e1 e.symm)]
    by_cases e3:x<y
    ·exact .inl (decide_eq_true e3)
    ·exact .inr (decide_eq_true (by lia))
   ·rw [if_neg e2] at a
    have a':=of_decide_eq_true a
    by_cases e3:x<y
    ·exact .inl (decide_eq_true e3)
    ·refine .inr ?_
     rw [if_neg (by lia)]
     exact decide_eq_true (by lia)
theorem kS: ∀p q:List Int,HT.aA p q=false->HT.aA q p=false->p=q
 |[],[],_,_=>rfl
 |[],_::_,a,_=>by cases a
 |_::_,[],_,b=>by cases b
 |x::p,y::q,a,b=>by
  rw [HT.eE] at a b
  by_cases e1:x=y
  ·subst e1
   rw [if_pos rfl] at a b
   rw [kS p q a b]
  ·rw [if_neg e1] at a
   rw [if_neg (fun e=>e1 e.symm)] at b
   have a':=of_decide_eq_false a
   have b':=of_decide_eq_false b
   lia
noncomputable def lexW (kf:Value->List Int):Wk where
 lt p q:=HT.aA (kf p.1) (kf q.1)
 irr p:=gY _
 tra p q r:=je _ _ _
 neg p q r:=kR _ _ _
noncomputable def RowAt (h:Heap) (v:Value) (ns:List Int):Prop:= ∃x ob us n,v= .ref x/\h.get? x=some ob/\ob.cls= .type "tuple"/\ob.data= .seq us n/\IntsAre us.toList ns
theorem RowAt.keep {h h':Heap}{v:Value}{ns:List Int} (r:RowAt h v ns) (k: ∀x ob,v= .ref x->h.get? x=some ob->h'.get? x=some ob):RowAt h' v ns:=by
 obtain ⟨x,ob,us,n,e,g,c,d,i⟩:=r
 exact ⟨x,ob,us,n,e,k x ob e g,c,d,i⟩
section
variable {prog:Program}{w:World}{A:Around}{E:Value->Shared->Prop}{s:Shared}
theorem pj {b fin:Bool}{Q:Bool->Shared->Prop}: ∀(us vs:List Value) (xs ys:List Int) (i:Nat),IntsAre us xs->IntsAre vs ys->(fin=decide (xs.length<ys.length))->Q (HT.aA xs ys) s->KatLex prog w A b fin Q (us.zip vs) i s
 |_,_,_,_,i,.nil,.nil,f,q=>by subst f;exact kat_nil q
 |_,_,_,_,i,.nil,.cons _ _ _,f,q=>by subst f;simp only [List.zip_nil_left];exact kat_nil (by simpa [HT.ua] using q)
 |_,_,_,_,i,.cons _ _ _,.nil,f,q=>by subst f;simp only [List.zip_nil_right];exact kat_nil (by simpa [HT.ub] using q)
 |_,_,_,_,i,.cons x _ h1,.cons y _ h2,f,q=>by
  rw [List.zip_cons_cons]
  refine kat_cons (wpAny_eqBool_int ?_)
  rw [HT.eE] at q
  by_cases e:x=y
  ·subst e
   rw [beq_self_eq_true]
   rw [if_pos rfl] at q
   exact kat_yes (pj _ _ _ _ (i+1) h1 h2 (by simpa using f) q)
  ·rw [beq_eq_false_iff_ne.mpr e]
   rw [if_neg e] at q
   refine kat_no ?_
   by_cases hb:(b&&i==0)=true
   ·rw [hb];exact oneLt_int q
   ·rw [Bool.not_eq_true] at hb
    rw [hb]
    exact kat_one _ _ (PyProof.Rows.lt_int (show PySem.W.BoolBack Q (.bool _) s from q))
theorem yw {p q:Value}{xs ys:List Int}{b:Bool}{Q:Bool->Shared->Prop} (hp:RowAt s.heap p xs) (hq:RowAt s.heap q ys) (h:Q (HT.aA xs ys) s):wpAny (model prog w) A (keyLt' (tuples' b) p q) Q E s:=by
 obtain ⟨x,ox,us,n,rfl,gx,_,dx,ix⟩:=hp
 obtain ⟨y,oy,vs,k,rfl,gy,_,dy,iy⟩:=hq
 refine kat_lt gx dx gy dy (pj _ _ _ _ 0 ix iy ?_ h)
 rw [<-ix.length,<-iy.length,Array.length_toList,Array.length_toList]
theorem yx {kf:Value->List Int}{b:Bool}:Cmp (lexW kf) (tuples' b) (fun p=>RowAt s.heap p.1 (kf p.1)) prog w A s:=⟨fun p q hp hq _ _ h=>yw hp hq h⟩
theorem pp {h:Heap}: ∀{vs:List Value},(∀v∈vs,∃x r,RowAt h v (x::r))-> ∃fs:List Value,KatTups h vs fs/\fs.length=vs.length/\ ∀f∈fs,∃i t,f= .int i t
 |[],_=>⟨[],trivial,rfl,fun _ z=>by cases z⟩
 |v::vs,g=>by
  obtain ⟨fs,k,l,a⟩:=pp (vs:=vs) fun u z=>g u (.tail _ z)
  obtain ⟨x,r,y,ob,us,n,e,g1,c,d,i⟩:=g v (.head _)
  obtain ⟨us⟩:=us
  cases i with
  |cons _ t i'=>
   refine ⟨.int x t::fs,⟨⟨y,ob,_,n,e,g1,c,d,rfl⟩,k⟩,by simp [l],fun f z=> ?_⟩
   rcases List.mem_cons.mp z with rfl|z
   ·exact ⟨_,_,rfl⟩
   ·exact a f z
theorem yy {vs:List Value}{Q:SortKind->Shared->Prop} (g: ∀v∈vs,∃x r,RowAt s.heap v (x::r)) (h1:0<vs.length) (h:Q (tuples' true) s):wpAny (model prog w) A (keyKind' vs.toArray) Q E s:=by
 obtain ⟨fs,k,l,a⟩:=pp g
 refine kat_kind (T:= .type "int") k (by lia) (fun v z=> ?_) rfl h
 obtain ⟨i,t,rfl⟩:=a v z
 exact Looks.of_pure rfl
end
end DhSort
set_option maxHeartbeats 4000000
namespace DhSort
open PySem PySem.Calls PyProof.Rows PySem.W L2
theorem kT {vs:List Value}{p:Keyed} (h:p∈(pairsOf vs).toList):p.1=p.2/\p.2∈vs:=by
 unfold pairsOf at h
 rw [Array.toList_zip] at h
 have h1:=List.mem_iff_getElem?.mp h
 obtain ⟨i,hi⟩:=h1
 rw [List.getElem?_zip_eq_some] at hi
 obtain ⟨a,b⟩:=hi
 have e:some p.1=some p.2:=a.symm.trans b
 exact ⟨Option.some.inj e,List.mem_of_getElem? b⟩
structure kU (kf:Value->List Int) (vs out:List Value):Prop where
 perm:out.Perm vs
 ord: ∀(i j:Nat) (x y:Value),i<=j->out[i]?=some x->out[j]?=some y->HT.aA (kf y) (kf x)=false
theorem yz {kf:Value->List Int}{vs:List Value}{arr:Array Keyed} (hp:arr.Perm (pairsOf vs)) (hs:bn (lexW kf) arr 0 (pairsOf vs).size):kU kf vs (arr.map (·.2)).toList:=by
 have hp':=Array.perm_iff_toList_perm.mp hp
 refine ⟨?_,fun i j x y hij hx hy=> ?_⟩
 ·rw [Array.toList_map]
  have:=hp'.map (fun p:Keyed=>p.2)
  refine this.trans ?_
  have e:(pairsOf vs).toList.map (fun p:Keyed=>p.2)=vs:=by
   unfold pairsOf
   rw [Array.toList_zip]
   simp [List.map_snd_zip]
  rw [e]
 ·rw [Array.toList_map,List.getElem?_map] at hx hy
  have hj:j<arr.size:=by
   rcases Nat.lt_or_ge j arr.size with z|z
   ·exact z
   ·rw [List.getElem?_eq_none (by simpa using z)] at hy;cases hy
  have hi:i<arr.size:=by lia
  have ex:=i9 hi
  have ey:=i9 hj
  rw [<-Array.getElem?_toList] at ex ey
  rw [ex] at hx
  rw [ey] at hy
  have q:=hs i j (Nat.zero_le _) hij (by rw [<-hp.size_eq];exact hj)
  have mx:=(kT (hp'.mem_iff.mp (List.mem_of_getElem? ex))).1
  have my:=(kT (hp'.mem_iff.mp (List.mem_of_getElem? ey))).1
  have hx':(kAt arr i).2=x:=Option.some.inj hx
  have hy':(kAt arr j).2=y:=Option.some.inj hy
  show HT.aA (kf y) (kf x)=false
  rw [<-hx',<-hy',<-mx,<-my]
  exact q
section
variable {prog:Program}{w:World}{A:Around}{E:Value->Shared->Prop}{s:Shared}
theorem yA {kf:Value->List Int}{l:Addr}{vs:List Value}{c:Nat}{P:PySem.Fin->Shared->Prop} (hl:s.heap.get? l=some (seqObj "list" vs.toArray c)) (sz:vs.length<=sizeLine) (h64:vs.length<64)
  (rows: ∀v∈vs,v≠ .ref l/\RowAt s.heap v (kf v)/\(kf v≠[] \/vs.length<2))
  (h: ∀out:Array Value,kU kf vs out.toList->P (.done (.ret .none)) {s with heap:=sortedHeap s.heap l vs out}):
  wpAny (model prog w) A (Builtin.«list.sort» ⟨[.ref l],[]⟩) P E s:=by
 have lt:=Heap.lt_size hl
 rw [list_sort_plain]
 refine wpAny_bind (listItems_at hl rfl (wpAny_bind (listUpdate_at hl rfl ?_ (by simpa using sz) (Nat.zero_le _))))
 obtain ⟨c1,g1⟩: ∃c1,(s.heap.update l (Obj.mapSeq fun _=> #[])).get? l=some (seqObj "list" #[] c1):=⟨_,get?_update_seq hl fun _=> #[]⟩
 refine wpAny_bind (seqEpoch_at g1 rfl (wpAny_bind (wpAny_newTuple ?_ (by simpa using sz))))
 refine wpAny_bind (wpAny_newList ?_ (Nat.zero_le _))
 refine wpAny_holding ?_
 let mid:Heap:=((s.heap.update l (Obj.mapSeq fun _=> #[])).push (seqObj "tuple" vs.toArray 0)).push (seqObj "list" #[] 0)
 have kp: ∀b ob,b≠l->s.heap.get? b=some ob->mid.get? b=some ob:=fun b ob z e=>by
  refine Heap.get?_push_of_some _ (Heap.get?_push_of_some _ ?_)
  rw [Heap.get?_update_ne _ _ _ _ z]
  exact e
 have g2:mid.get? l=some (seqObj "list" #[] c1):=Heap.get?_push_of_some _ (Heap.get?_push_of_some _ g1)
 show wpAny (model prog w) A _ P E {s with heap:=mid}
 dsimp only
 have rows': ∀v∈vs,RowAt mid v (kf v):=fun v z=>(rows v z).2.1.keep fun x ob e g=>kp x ob (fun q=>(rows v z).1 (by rw [e,q])) g
 have fin: ∀st':SortSt,(arrOf st').Perm (pairsOf vs)->bn (lexW kf) (arrOf st') 0 (pairsOf vs).size->
   P (.done (.ret .none)) {s with heap:=sortedHeap s.heap l vs ((arrOf st').map (·.2))}:=fun st' a b=>h _ (yz a b)
 have szo: ∀st':SortSt,(arrOf st').Perm (pairsOf vs)->((arrOf st').map (·.2)).size<=sizeLine:=fun st' a=>by
  rw [Array.size_map,a.size_eq,pairsOf_size];exact sz
 by_cases two:vs.toArray.size<2
 ·rw [if_pos two,if_pos two]
  refine wpAny_bind (wpAny_pure ?_)
  rw [StateT.run_pure]
  refine wpAny_bind (wpAny_pure ?_)
  dsimp only
  refine wpAny_bind (seqEpoch_at g2 rfl (wpAny_bind (listUpdate_at g2 rfl ?_ (hsz2:=Nat.le_succ_of_le (szo (SortSt.mk' general' (vs.toArray.zip vs.toArray) #[] 7 none) (Array.Perm.refl _))))))
  simp only [bne_self_eq_false,Bool.false_eq_true,if_false]
  refine wpAny_pure (fin (SortSt.mk' general' (vs.toArray.zip vs.toArray) #[] 7 none) (Array.Perm.refl _) ?_)
  intro i j _ z1 z2
  have:i=j:=by rw [pairsOf_size] at z2;rw [List.size_toArray] at two;lia
  subst this
  exact Wk.bB
 ·rw [if_neg two,if_neg two]
  rw [List.size_toArray] at two
  refine wpAny_bind (yy (s:={s with heap:=mid}) (fun v z=> ?_) (by lia) ?_)
  ·have r:=rows' v z
   cases e:kf v with
   |nil=>exact absurd e ((rows v z).2.2.resolve_right (by lia))
   |cons x t=>rw [e] at r;exact ⟨x,t,r⟩
  refine wpAny_bind (wpAny_mono (yv (E:=E) (W:=lexW kf) (kd:=tuples' true) (good:=fun p=>RowAt mid p.1 (kf p.1)) (a₀:=pairsOf vs) (st:=SortSt.mk' (tuples' true) (vs.toArray.zip vs.toArray) #[] 7 none) (s:={s with heap:=mid})
   (Q:=fun _ st'=>(arrOf st').Perm (pairsOf vs)/\failedOf st'=none/\bn (lexW kf) (arrOf st') 0 (pairsOf vs).size)
   (yx (s:={s with heap:=mid}) (kf:=kf)) (fun p z=> ?_) ⟨Array.Perm.refl _,rfl,rfl,rfl⟩ (by rw [pairsOf_size];lia) (by rw [pairsOf_size];lia) fun st' a b d=>⟨a,b,d⟩) ?_ fun _ _ e=>e)
  ·obtain ⟨e,m⟩:=kT z
   rw [e]
   exact rows' _ m
  rintro ⟨⟨⟩,st'⟩ s' ⟨rfl,a,b,d⟩
  dsimp only
  refine wpAny_bind (seqEpoch_at g2 rfl (wpAny_bind (listUpdate_at g2 rfl ?_ (hsz2:=Nat.le_succ_of_le (szo st' a)))))
  rw [b]
  simp only [bne_self_eq_false,Bool.false_eq_true,if_false]
  exact wpAny_pure (fin st' a d)
end
end DhSort
set_option maxHeartbeats 4000000
namespace DhSort
open PySem PySem.Calls PyProof.Rows PySem.W L2
noncomputable def DEnt (h:Heap) (d:Addr) (es:Array DictEntry) (ep:Nat):Prop:= ∃ob,h.get? d=some ob/\ob.ExactDict/\ob.data= .dict es ep
theorem DEnt.ty {t:Shared}{d:Addr}{es:Array DictEntry}{ep:Nat} (x:DEnt t.heap d es ep):t.TypeIs (.ref d) "dict":=let ⟨ob,g,c,_⟩:=x;⟨ob,g,c.1⟩
theorem DEnt.mono {h h':Heap}{d:Addr}{es:Array DictEntry}{ep:Nat} (x:DEnt h d es ep) (k: ∀ob,h.get? d=some ob->h'.get? d=some ob):DEnt h' d es ep:=let ⟨ob,g,r⟩:=x;⟨ob,k ob g,r⟩
theorem DEnt.lt {h:Heap}{d:Addr}{es:Array DictEntry}{ep:Nat} (x:DEnt h d es ep):d<h.objs.size:=let ⟨_,g,_⟩:=x;Heap.lt_size g
noncomputable def yB (d:Addr) (n ep:Nat):Obj:={cls:= .type "dict_keyiterator",data:= .fields #[.ref d,.int 0 0,.int n 0,.int ep 0]}
section
variable {prog:Program}{w:World}{A:Around}{E:Value->Shared->Prop}{t:Shared}{d z:Addr}{es:Array DictEntry}{ep i:Nat}
theorem yC {Q:Value->Shared->Prop} (nm:(d==sysModules)=false) (x:DEnt t.heap d es ep) (q:Q (.ref t.heap.objs.size) {t with heap:=t.heap.push (yB d es.size ep)}):wpAny (model prog w) A (pyIter (.ref d)) Q E t:=by
 obtain ⟨ob,g,c,dd⟩:=id x
 refine wpAny_pyIter_slot x.ty F.slot_dict_iter (wpAny_call_entry F.slot_dict_iter x.ty F.entry_dict_iter ?_ (F.args_dict_iter_1 _))
 unfold Builtin.«dict.__iter__» Builtin.Dict.dictSlotNone
 refine wpAny_bind (wpAny_bind (wpAny_notOrdered_dict x.ty (wpAny_pure ?_)))
 show wpAny _ _ (Builtin.Dict.showsAll d>>=_) _ _ t
 unfold Builtin.Dict.showsAll
 rw [if_neg (by rw [nm];simp)]
 refine wpAny_bind (wpAny_pure (wpAny_bind (wpAny_dictEntries g dd (wpAny_bind (wpAny_dictEpoch g dd ?_)))))
 exact wpAny_bind (wpAny_newObj_type (wpAny_pure ⟨_,rfl,"dict_keyiterator",_,⟨_,Heap.get?_push_size _ rfl,rfl⟩,F.slot_dict_keyiterator_next.lookup,q⟩))
theorem yD {e:DictEntry}{Q:Option Value->Shared->Prop} (y:t.heap.IsKeyIter z d i es.size ep) (x:DEnt t.heap d es ep) (he:es[i]?=some e)
  (q: ∀h',h'.IsKeyIter z d (i+1) es.size ep->Heap.SameBut z t.heap h'->Q (some e.key) {t with heap:=h'}):wpAny (model prog w) A (pyNext (.ref z)) Q E t:=by
 obtain ⟨oz,gz,cz,dz⟩:=id y
 obtain ⟨ob,g,c,dd⟩:=id x
 have li:i<es.size:=by
  rcases Nat.lt_or_ge i es.size with l|l
  ·exact l
  ·rw [Array.getElem?_eq_none l] at he;cases he
 have hk:es[i]=e:=by rw [Array.getElem?_eq_getElem li] at he;exact Option.some.inj he
 have own0:Builtin.Dict_items.ownsTuple "dict_keyiterator"=false:=by decide
 unfold pyNext
 refine wpAny_bind (wpAny_attempt (wpAny_callSpecial?_slot (name:=Str.ofString "__next__") y.typeIs F.slot_dict_keyiterator_next
  (wpAny_call_entry F.slot_dict_keyiterator_next y.typeIs F.entry_dict_keyiterator_next ?_ (F.args_dict_keyiterator_next_1 _))))
 refine wpAny_bind (wpAny_pure (wpAny_bind (wpAny_bind ?_)))
 first|refine wpAny_bind (wpAny_typeNameOfWhole_keyiter y.typeIs (wpAny_pure ?_))|refine wpAny_bind (wpAny_typeNameOf_keyiter y.typeIs (wpAny_pure ?_))
 refine wpAny_bind (wpAny_fieldsOf gz dz ?_)
 simp only [own0,Bool.false_eq_true,if_false]
 show wpAny _ _ (if (Value.ref d==Value.none)=true then _ else _) _ _ t
 rw [if_neg (show¬((Value.ref d==Value.none)=true) by exact Bool.false_ne_true)]
 refine wpAny_bind (wpAny_pure (wpAny_bind (wpAny_dictEntries g dd ?_)))
 rw [if_neg (by simp)]
 refine wpAny_bind (wpAny_pure (wpAny_bind (wpAny_dictEpoch g dd ?_)))
 rw [if_neg (by simp)]
 refine wpAny_pure ?_
 simp only [show¬((i:Int)<0) by lia,if_false,Int.toNat_natCast,Array.getElem?_eq_getElem li]
 refine wpAny_bind ?_
 first|refine wpAny_bind (wpAny_typeNameOfWhole_keyiter y.typeIs (wpAny_pure ?_))|refine wpAny_bind (wpAny_typeNameOf_keyiter y.typeIs (wpAny_pure ?_))
 refine wpAny_bind (wpAny_isOneOf_keyiter y.typeIs ?_)
 show wpAny _ _ (setField (.ref z) 1 (rawInt ((i:Int)+1))>>=_) _ _ t
 refine wpAny_bind (wpAny_setField gz dz (by simp) ?_)
 have y':(t.heap.update z (Obj.mapFields (·.setIfInBounds 1 (rawInt ((i:Int)+1))))).IsKeyIter z d (i+1) es.size ep:=
  ⟨_,Heap.get?_update_self _ gz (Obj.isFreed_of_fields (Obj.data_mapFields dz _)),(Obj.cls_mapFields ..).trans cz,by rw [Obj.data_mapFields dz];simp [rawInt]⟩
 refine wpAny_bind (wpAny_holding (wpAny_bind (wpAny_isOneOf_keyiter (s:={t with heap:=t.heap.update z (Obj.mapFields (·.setIfInBounds 1 (rawInt ((i:Int)+1))))}) y'.typeIs ?_)))
 show wpAny _ _ (pure es[i].key) _ _ _
 rw [hk]
 exact wpAny_pure (wpAny_pure ⟨_,rfl,wpAny_pure (q _ y' (Heap.SameBut.update ..))⟩)
theorem yE {Q:Option Value->Shared->Prop} (hh:A.handled=none) (y:t.heap.IsKeyIter z d i es.size ep) (x:DEnt t.heap d es ep) (he:es[i]?=none)
  (q: ∀h',Heap.ExtBut z t.heap h'->Q none {t with heap:=h'}):wpAny (model prog w) A (pyNext (.ref z)) Q E t:=by
 obtain ⟨oz,gz,cz,dz⟩:=id y
 obtain ⟨ob,g,c,dd⟩:=id x
 have li:es.size<=i:=by simpa using he
 have own0:Builtin.Dict_items.ownsTuple "dict_keyiterator"=false:=by decide
 unfold pyNext
 refine wpAny_bind (wpAny_attempt (wpAny_callSpecial?_slot (name:=Str.ofString "__next__") y.typeIs F.slot_dict_keyiterator_next
  (wpAny_call_entry F.slot_dict_keyiterator_next y.typeIs F.entry_dict_keyiterator_next ?_ (F.args_dict_keyiterator_next_1 _))))
 refine wpAny_bind (wpAny_pure (wpAny_bind (wpAny_bind ?_)))
 first|refine wpAny_bind (wpAny_typeNameOfWhole_keyiter y.typeIs (wpAny_pure ?_))|refine wpAny_bind (wpAny_typeNameOf_keyiter y.typeIs (wpAny_pure ?_))
 refine wpAny_bind (wpAny_fieldsOf gz dz ?_)
 simp only [own0,Bool.false_eq_true,if_false]
 show wpAny _ _ (if (Value.ref d==Value.none)=true then _ else _) _ _ t
 rw [if_neg (show¬((Value.ref d==Value.none)=true) by exact Bool.false_ne_true)]
 refine wpAny_bind (wpAny_pure (wpAny_bind (wpAny_dictEntries g dd ?_)))
 rw [if_neg (by simp)]
 refine wpAny_bind (wpAny_pure (wpAny_bind (wpAny_dictEpoch g dd ?_)))
 rw [if_neg (by simp)]
 refine wpAny_pure ?_
 simp only [show¬((i:Int)<0) by lia,if_false,Int.toNat_natCast,Array.getElem?_eq_none li]
 refine wpAny_bind ?_
 first|refine wpAny_bind (wpAny_typeNameOfWhole_keyiter y.typeIs (wpAny_pure ?_))|refine wpAny_bind (wpAny_typeNameOf_keyiter y.typeIs (wpAny_pure ?_))
 show wpAny _ _ (setField (.ref z) 0 .none>>=_) _ _ t
 refine wpAny_bind (wpAny_setField gz dz (by simp) ?_)
 show wpAny _ _ (newExc (.type "StopIteration") []>>=_) _ _ _
 refine wpAny_bind ?_
 simp only [newExc,newTuple]
 refine wpAny_bind (wpAny_newObj_type ?_ (by size_fits))
 refine wpAny_bind (m:=firstArgMember _ _) (wpAny_of_eq (a:=Value.none) (by first|rfl|(simp only [firstArgMember];rfl)) ?_)
 refine wpAny_newObj_type ?_ (by size_fits)
 simp only [raiseNew]
 refine wpAny_bind (wpAny_handled ?_)
 rw [show A.in1.handled=none by exact hh]
 refine wpAny_bind (wpAny_pure (wpAny_throw ?_))
 refine wpAny_bind (wpAny_isInstance (T:="StopIteration") (b:=true) ⟨_,Heap.get?_push_size _ rfl,rfl⟩ isSubtype_stop ?_)
 exact wpAny_pure (q _ (((Heap.SameBut.update ..).extBut.push _).push _))
theorem yF (hh:A.handled=none) (nd:d≠z):Walks prog w A z [z,d] [z] es.size (fun i v=> ∃e,es[i]?=some e/\v=e.key) (fun i h=>h.IsKeyIter z d i es.size ep/\DEnt h d es ep) where
 sub:=fun b hb=>by simp at hb;simp [hb]
 frame:=fun _ _ _ st hk=>⟨st.1.at fun o e=>hk z (by simp) o e,st.2.mono fun o e=>hk d (by simp) o e⟩
 item:=fun i t' Q E hi st hQ=>by
  refine yD st.1 st.2 (Array.getElem?_eq_getElem hi) fun h' a b=> ?_
  exact hQ _ h' t'.toks ⟨_,Array.getElem?_eq_getElem hi,rfl⟩ ⟨a,st.2.mono fun o e=>b.extBut d o nd e⟩ fun c o hc e=>b.extBut c o (fun r=>hc (by simp [r])) e
 done:=fun t' Q E st hQ=>yE hh st.1 st.2 (by simp) fun h' a=>hQ h' t'.toks fun c o hc e=>a c o (fun r=>hc (by simp [r])) e
 self:=fun _ _ _ _ st hQ=>wpAny_pyIter_keyiter st.1 hQ
theorem yG (nm:(d==sysModules)=false):KdlSrc prog w "dict" d d es.size (fun i v=> ∃e,es[i]?=some e/\v=e.key) (fun h=>DEnt h d es ep) where
 type:=fun _ x=>x.ty
 there:=fun _ x=>⟨x.lt,x.lt⟩
 keep:=fun _ _ x hk=>x.mono fun o e=>hk d (.inl rfl) o e
 notList:=by decide
 notTuple:=by decide
 hint:=fun _ _ _ _ x hq=>kdl_hint_dict x.ty hq
 iter:=fun A' t' hh x=>⟨_,_,fun _ _ hq=>yC nm x hq,yF hh (Nat.ne_of_lt x.lt),⟨⟨_,Heap.get?_push_size _ rfl,rfl,rfl⟩,x.mono fun o e=>Heap.get?_push_of_some _ e⟩⟩
theorem yH {R:List Value->Shared->Prop} (nm:(d==sysModules)=false) (hh:A.handled=none) (x:DEnt t.heap d es ep) (sz:es.size<=sizeLine)
  (h: ∀(h':Heap) (tk:Nat),(∀b o,t.heap.get? b=some o->h'.get? b=some o)->R (es.toList.map (·.key)) {t with heap:=h',toks:=tk}):wpAny (model prog w) A (collect (.ref d)) R E t:=by
 refine kdu_collect (yG nm) hh x sz fun h' tk acc hk ha=> ?_
 have e:acc.toList=es.toList.map (·.key):=by
  refine List.ext_getElem? fun j=> ?_
  rw [Array.getElem?_toList,List.getElem?_map,Array.getElem?_toList]
  by_cases hj:j<acc.size
  ·obtain ⟨en,h1,h2⟩:=ha.2 j acc[j] (Array.getElem?_eq_getElem hj)
   rw [Array.getElem?_eq_getElem hj,h1,h2]
   rfl
  ·have h2: ¬j<es.size:=by rw [<-ha.1];exact hj
   rw [Array.getElem?_eq_none (by lia),Array.getElem?_eq_none (by lia)]
   rfl
 rw [e]
 exact h h' tk hk
theorem yI {kf:Value->List Int}{it:Value}{vs:List Value}{Q:Value->Shared->Prop}
  (hc: ∀R:List Value->Shared->Prop,(∀(h':Heap) (tk:Nat),(∀b o,t.heap.get? b=some o->h'.get? b=some o)->R vs {t with heap:=h',toks:=tk})->wpAny (model prog w) A.in1 (collect it) R E t)
  (sz:vs.length<=sizeLine) (h64:vs.length<64) (rows: ∀v∈vs,RowAt t.heap v (kf v)/\(kf v≠[] \/vs.length<2))
  (h: ∀(l:Addr) (h1 h':Heap) (tk c:Nat) (out:List Value),(∀b o,t.heap.get? b=some o->h1.get? b=some o)->h1.objs.size<=l->(∀b o,h1.get? b=some o->h'.get? b=some o)->h'.get? l=some (seqObj "list" out.toArray c)->kU kf vs out->Q (.ref l) {t with heap:=h',toks:=tk}):
  wpAny (model prog w) A (call (.builtin "sorted") [it]) Q E t:=by
 refine call_function_entry kind_sorted plain_sorted entry_sorted (args_sorted1 _) ?_
 unfold Builtin.«sorted»
 refine wpAny_bind (m:=checkCount "sorted" 1 1 _) (wpAny_pure (wpAny_bind (hc _ fun h1 k1 kp=> ?_)))
 refine wpAny_bind (wpAny_newList ?_ sz)
 have gl:(h1.push (seqObj "list" vs.toArray 0)).get? h1.objs.size=some (seqObj "list" vs.toArray 0):=Heap.get?_push_size _ rfl
 have kp2: ∀b o,t.heap.get? b=some o->(h1.push (seqObj "list" vs.toArray 0)).get? b=some o:=fun b o e=>Heap.get?_push_of_some _ (kp b o e)
 show wpAny _ _ _ _ _ {t with heap:=h1.push (seqObj "list" vs.toArray 0),toks:=k1}
 refine wpAny_bind (wpAny_holding (wpAny_call_entry slot_list_sort ⟨_,gl,rfl⟩ entry_list_sort (yA (kf:=kf) gl sz h64 (fun v z=> ?_) fun out so=>⟨_,rfl,wpAny_pure ⟨_,rfl,?_⟩⟩) (args_list_sort _)))
 ·obtain ⟨r,ne⟩:=rows v z
  refine ⟨fun e=> ?_,r.keep fun x ob _ g=>kp2 x ob g,ne⟩
  obtain ⟨x,ob,_,_,e2,g,_⟩:=r
  rw [e] at e2
  cases e2
  exact absurd (Heap.lt_size (kp _ _ g)) (Nat.lt_irrefl _)
 ·obtain ⟨c2,g2⟩: ∃c2,(sortedHeap (h1.push (seqObj "list" vs.toArray 0)) h1.objs.size vs out).get? h1.objs.size=some (seqObj "list" out c2):=by
   obtain ⟨c1,g1⟩: ∃c1,((h1.push (seqObj "list" vs.toArray 0)).update h1.objs.size (Obj.mapSeq fun _=> #[])).get? h1.objs.size=some (seqObj "list" #[] c1):=⟨_,get?_update_seq gl fun _=> #[]⟩
   exact ⟨_,get?_update_seq (Heap.get?_push_of_some _ (Heap.get?_push_of_some _ g1)) fun _=>out⟩
  refine h _ h1 _ _ c2 out.toList kp (Nat.le_refl _) (fun b o e=> ?_) (by simpa using g2) so
  have nb:b≠h1.objs.size:=Nat.ne_of_lt (Heap.lt_size e)
  unfold sortedHeap
  rw [Heap.get?_update_ne _ _ _ _ nb]
  refine Heap.get?_push_of_some _ (Heap.get?_push_of_some _ ?_)
  rw [Heap.get?_update_ne _ _ _ _ nb]
  exact Heap.get?_push_of_some _ e
end
end DhSort
set_option maxHeartbeats 4000000
namespace L2
open PySem PySem.Spec PyProof.Rows
noncomputable def ins (x:List Int):List (List Int)->List (List Int)
 |[]=>[x]
 |y::r=>if HT.aA y x=true then y::ins x r else x::y::r
noncomputable def srt:List (List Int)->List (List Int)
 |[]=>[]
 |x::r=>ins x (srt r)
noncomputable def NoLt (x y:List Int):Prop:=HT.aA y x=false
theorem kW (x:List Int): ∀l:List (List Int),(ins x l).Perm (x::l)
 |[]=> .refl _
 |y::r=>by
  unfold ins
  split
  ·exact ((kW x r).cons y).trans (.swap x y r)
  ·exact .refl _
theorem fC: ∀l:List (List Int),(srt l).Perm l
 |[]=> .refl _
 |x::r=>(kW x _).trans ((fC r).cons x)
theorem yJ {x y z:List Int} (a:NoLt x y) (b:NoLt y z):NoLt x z:=by
 unfold NoLt at*
 cases h:HT.aA z x with
 |false=>rfl
 |true=>
  rcases DhSort.kR z y x h with q|q
  ·rw [b] at q;cases q
  ·rw [a] at q;cases q
theorem yK {x y:List Int} (a:HT.aA x y=true):NoLt x y:=by
 unfold NoLt
 cases h:HT.aA y x with
 |false=>rfl
 |true=>have:=DhSort.je _ _ _ a h;rw [DhSort.gY] at this;cases this
theorem pq (x:List Int): ∀l:List (List Int),l.Pairwise NoLt->(ins x l).Pairwise NoLt
 |[],_=>List.pairwise_singleton _ _
 |y::r,h=>by
  have h':=List.pairwise_cons.mp h
  unfold ins
  split
  ·next q=>
   refine List.pairwise_cons.mpr ⟨fun z hz=> ?_,pq x r h'.2⟩
   rcases List.mem_cons.mp ((kW x r).mem_iff.mp hz) with rfl|hz
   ·exact yK q
   ·exact h'.1 z hz
  ·next q=>
   have q':NoLt x y:=by unfold NoLt;simpa using q
   refine List.pairwise_cons.mpr ⟨fun z hz=> ?_,h⟩
   rcases List.mem_cons.mp hz with rfl|hz
   ·exact q'
   ·exact yJ q' (h'.1 z hz)
theorem kX: ∀l:List (List Int),(srt l).Pairwise NoLt
 |[]=> .nil
 |x::r=>pq x _ (kX r)
theorem pw: ∀{a b:List (List Int)},a.Perm b->a.Pairwise NoLt->b.Pairwise NoLt->a=b
 |[],b,p,_,_=>(List.nil_perm.mp p).symm▸rfl
 |x::a,[],p,_,_=>absurd p.length_eq (by simp)
 |x::a,y::b,p,ha,hb=>by
  have ha':=List.pairwise_cons.mp ha
  have hb':=List.pairwise_cons.mp hb
  have e:x=y:=by
   rcases List.mem_cons.mp (p.mem_iff.mp (List.mem_cons_self)) with e|hx
   ·exact e
   ·rcases List.mem_cons.mp (p.mem_iff.mpr (List.mem_cons_self)) with e|hy
    ·exact e.symm
    ·exact DhSort.kS _ _ (hb'.1 x hx) (ha'.1 y hy)|>.symm▸rfl
  subst e
  rw [pw (p.cons_inv) ha'.2 hb'.2]
noncomputable def vInt:V->Int
 | .int i=>i
 |_=>0
noncomputable def rowV (H:Hp):V->List Int
 | .ref b=>(match H b with
  |some (.tup xs)=>xs.map vInt
  |_=>[])
 |_=>[]
theorem yL (ns:List Int):(ns.map V.int).map vInt=ns:=by
 induction ns with
 |nil=>rfl
 |cons n r ih=>simp only [List.map_cons,ih];rfl
theorem jf {H:Hp}{b:Addr}{ns:List Int} (h:H b=some (.tup (ns.map V.int))):rowV H (.ref b)=ns:=by
 show (match H b with
  |some (.tup xs)=>xs.map vInt
  |_=>[])=ns
 rw [h]
 exact yL ns
noncomputable def toV:Value->V
 | .ref b=> .ref b
 |_=> .non
noncomputable def eQ (H:Hp) (v:V):Prop:= ∃b ns,v= .ref b/\ns≠[]/\H b=some (.tup (ns.map V.int))
theorem py: ∀{ys:List V}{us:List Value},Vals ys us->(∀y∈ys,∃b,y=V.ref b)->us.map toV=ys
 |_,_,.nil,_=>rfl
 |_,_,.cons (a:=y) (b:=u) r t,h=>by
  obtain ⟨b,rfl⟩:=h y (.head _)
  obtain rfl:u=Value.ref b:=r
  rw [List.map_cons,py t fun z hz=>h z (.tail _ hz)]
  rfl
theorem pz: ∀{us:List Value},(∀u∈us,∃b,u=Value.ref b)->Vals (us.map toV) us
 |[],_=> .nil
 |u::us,h=>by
  obtain ⟨b,rfl⟩:=h u (.head _)
  exact .cons (show RelV (.ref b) (.ref b) from rfl) (pz fun z hz=>h z (.tail _ hz))
theorem kY: ∀{ys:List V}{us:List Value},Vals ys us-> ∀u∈us,∃y∈ys,RelV y u
 |_,_,.nil,_,h=>by cases h
 |_,_,.cons r t,u,h=>by
  rcases List.mem_cons.mp h with rfl|h
  ·exact ⟨_,.head _,r⟩
  ·obtain ⟨y,h1,h2⟩:=kY t u h
   exact ⟨y,.tail _ h1,h2⟩
theorem pA: ∀{ns:List Int}{us:List Value},Vals (ns.map V.int) us->IntsAre us ns
 |[],_,.nil=> .nil
 |n::ns,_,.cons r t=>by
  obtain ⟨k,rfl⟩:=r
  exact .cons _ _ (pA t)
section
variable {X:Cx}{KF:PySem.W.Frag}{pins:List (Addr×Obj)}{σ:St}{H:Hp}{s:Shared}
structure fD (H:Hp) (ys zs:List V):Prop where
 perm:zs.Perm ys
 ord:(zs.map (rowV H)).Pairwise NoLt
theorem fD.eq {ys zs:List V} (h:fD H ys zs):zs.map (rowV H)=srt (ys.map (rowV H)):=
 pw ((h.perm.map _).trans (fC _).symm) h.ord (kX _)
noncomputable def pB (n:Nat) (H:Hp) (v:V):Prop:= ∃b ns,v= .ref b/\(ns≠[] \/n<2)/\H b=some (.tup (ns.map V.int))
theorem eQ.n {n:Nat}{v:V} (h:eQ H v):pB n H v:=let ⟨b,ns,e,ne,q⟩:=h;⟨b,ns,e,.inl ne,q⟩
theorem yM {it:Value}{ys:List V}{us:List Value}{Q:VK} (I:Inv X pins σ H s) (r:Vals ys us) (rows: ∀y∈ys,pB ys.length H y) (sz:ys.length<=sizeLine) (h64:ys.length<64)
  (hc: ∀R:List Value->Shared->Prop,(∀(h':Heap) (tk:Nat),(∀b o,s.heap.get? b=some o->h'.get? b=some o)->R us {s with heap:=h',toks:=tk})->wpAny (model X.prog X.w) X.A.in1 (collect it) R X.xe s)
  (q: ∀l zs,H l=none->fD H ys zs->Q (.ref l) (upd H l (.lst zs))):wpAny (model X.prog X.w) X.A (call (.builtin "sorted") [it]) (EP X pins σ Q) X.xe s:=by
 have rl:=r.length
 refine DhSort.yI (kf:=fun u=>rowV H (toV u)) hc (by lia) (by lia) (fun u hu=> ?_) fun l h1 h' tk c out k1 hl k2 g so=> ?_
 ·obtain ⟨y,hy,ry⟩:=kY r u hu
  obtain ⟨b,ns,rfl,ne,e⟩:=rows y hy
  obtain rfl:u=Value.ref b:=ry
  have e2:rowV H (toV (Value.ref b))=ns:=jf e
  rw [e2]
  obtain ⟨_,its,rv,ob,g1,g2,⟨n,g3⟩,_⟩:=(show ax X.prog X.w H s.heap b (.tup (ns.map V.int)) from I.hok b _ e)
  exact ⟨⟨b,ob,its.toArray,n,rfl,g1,g2,g3,by simpa using pA rv⟩,ne.imp id fun z=>by lia⟩
 ·have back:=py r fun y hy=>let ⟨b,_,e,_⟩:=rows y hy;⟨b,e⟩
  have refs: ∀u∈out,∃b,u=Value.ref b:=fun u hu=>by
   obtain ⟨y,hy,ry⟩:=kY r u (so.perm.mem_iff.mp hu)
   obtain ⟨b,ns,rfl,_⟩:=rows y hy
   exact ⟨b,ry⟩
  have perm:(out.map toV).Perm ys:=back▸so.perm.map toV
  have I1:Inv X pins σ H {s with heap:=h1,toks:=tk}:=I.kept k1
  have I2:Inv X pins σ (upd H l (.lst (out.map toV))) {s with heap:=h',toks:=tk}:=I1.laid (s:={s with heap:=h1,toks:=tk}) k2 hl (show ax X.prog X.w _ h' l (.lst (out.map toV)) from ⟨by rw [perm.length_eq];exact sz,out,c,pz refs,g⟩)
  refine ⟨.ref l,_,I2,rfl,q l _ (I1.hok.fresh hl) ⟨perm,?_⟩⟩
  rw [List.map_map,List.pairwise_map,List.pairwise_iff_getElem]
  intro i j hi hj hij
  exact so.ord i j _ _ (Nat.le_of_lt hij) (List.getElem?_eq_getElem hi) (List.getElem?_eq_getElem hj)
theorem yN {it:Value}{ys:List V}{us:List Value}{Q:VK} (I:Inv X pins σ H s) (r:Vals ys us) (rows: ∀y∈ys,eQ H y) (sz:ys.length<=sizeLine) (h64:ys.length<64)
  (hc: ∀R:List Value->Shared->Prop,(∀(h':Heap) (tk:Nat),(∀b o,s.heap.get? b=some o->h'.get? b=some o)->R us {s with heap:=h',toks:=tk})->wpAny (model X.prog X.w) X.A.in1 (collect it) R X.xe s)
  (q: ∀l zs,H l=none->fD H ys zs->Q (.ref l) (upd H l (.lst zs))):wpAny (model X.prog X.w) X.A (call (.builtin "sorted") [it]) (EP X pins σ Q) X.xe s:=yM I r (fun y hy=>(rows y hy).n) sz h64 hc q
theorem yO (hc:X.calm=true):bp X (.builtin "sorted") (fun xs H Q=> ∃a kvs,xs=[.ref a]/\Rd H a (.dT kvs)/\kvs.length<64/\(∀p∈kvs,∃ns:List Int,ns≠[]/\p.1=ns.map Sum.inl)/\
  ∀l ys zs,H l=none->Paired (fun (p:List Key×V) (y:V)=> ∃b,y= .ref b/\H b=some (.tup (p.1.map kV))) kvs ys->fD H ys zs->Q (.ref l) (upd H l (.lst zs))):=by
 intro pins s σ H xs us Q I r h
 obtain ⟨a,kvs,rfl,ha,h64,ks,q⟩:=h
 obtain ⟨u,rfl,rx⟩:=du r
 cases rx
 obtain ⟨z,y,en,kt,ob,es,ep,h1,h2,h3,h4,h5⟩:=(show ax X.prog X.w H s.heap a (.dT kvs) from kh I.hok ha)
 have sz:es.size=kvs.length:=by rw [<-Array.length_toList,h4,List.length_map,kt.length]
 have pr: ∀{l:List (List Key×V)}{m:List (List Key×Addr×Value)},Paired (fun (p:List Key×V) (q:List Key×Addr×Value)=>p.1=q.1/\H q.2.1=some (.tup (p.1.map kV))/\RelV p.2 q.2.2) l m->
   Paired (fun (p:List Key×V) (y:V)=> ∃b,y= .ref b/\H b=some (.tup (p.1.map kV))) l (m.map fun x=>V.ref x.2.1)/\Vals (m.map fun x=>V.ref x.2.1) (m.map fun x=>Value.ref x.2.1):=by
  intro l m q
  induction q with
  |nil=>exact ⟨.nil,.nil⟩
  |cons hq t ih=>exact ⟨.cons ⟨_,rfl,hq.2.1⟩ ih.1,.cons rfl ih.2⟩
 obtain ⟨p1,p2⟩:=pr kt
 have rows: ∀{l:List (List Key×V)}{m:List V},Paired (fun (p:List Key×V) (y:V)=> ∃b,y= .ref b/\H b=some (.tup (p.1.map kV))) l m->(∀p∈l,∃ns:List Int,ns≠[]/\p.1=ns.map Sum.inl)-> ∀y∈m,eQ H y:=by
  intro l m q
  induction q with
  |nil=>intro _ y hy;cases hy
  |cons hq t ih=>
   intro hl y hy
   rcases List.mem_cons.mp hy with rfl|hy
   ·obtain ⟨b,rfl,e⟩:=hq
    obtain ⟨ns,ne,e2⟩:=hl _ (.head _)
    refine ⟨b,ns,rfl,ne,?_⟩
    rw [e,e2,List.map_map]
    rfl
   ·exact ih (fun p hp=>hl p (.tail _ hp)) y hy
 refine yN (us:=en.map fun x=>Value.ref x.2.1) I p2 (rows p1 ks) (by rw [List.length_map,<-kt.length];exact z) (by rw [List.length_map,<-kt.length];exact h64) (fun R hR=> ?_) fun l zs hl so=>q l _ zs hl p1 so
 refine DhSort.yH y (I.ok.hd hc) ⟨ob,h1,h2,h3⟩ (by lia) fun h' tk kp=> ?_
 have e:es.toList.map (·.key)=en.map fun x=>Value.ref x.2.1:=by rw [h4,List.map_map];rfl
 rw [e]
 exact hR h' tk kp
noncomputable def dRow:Dv->Option (List Int)
 | .tup ds=>ds.mapM fun d=>match d with| .int i=>some i|_=>none
 |_=>none
noncomputable def bu (ns:List Int):Dv:= .tup (ns.map .int)
noncomputable def eR (rs:List (List Int)):Bool:=rs.all fun r=> !r.isEmpty
noncomputable def CA:List Dv->Option Dv
 |[.lst ds]=>(ds.mapM dRow).bind fun rs=>if eR rs=true/\rs.length<64 then some (.lst ((srt rs).map bu)) else none
 |_=>none
noncomputable def keyI:Key->Option Int
 | .inl i=>some i
 | .inr _=>none
noncomputable def fE:List Dv->Option Dv
 |[.dic kvs]=>(kvs.mapM fun p:List Key×Dv=>p.1.mapM keyI).bind fun rs=>if eR rs=true/\rs.length<64 then some (.lst ((srt rs).map bu)) else none
 |_=>none
theorem pC {S:Addr->Prop}: ∀{zs:List V},(∀z∈zs,eQ H z)->RepsF KF S H zs ((zs.map (rowV H)).map bu)
 |[],_=> .nil
 |z::zs,h=>by
  obtain ⟨b,ns,rfl,_,e⟩:=h z (.head _)
  refine .cons ?_ (pC fun y hy=>h y (.tail _ hy))
  rw [jf e]
  exact .tup e (gI ns)
theorem pD {S:Addr->Prop}: ∀{vs:List V}{ds:List Dv}{ns:List Int},RepsF KF S H vs ds->(ds.mapM fun d=>match d with|Dv.int i=>some i|_=>none)=some ns->vs=ns.map V.int
 |_,_,ns,.nil,h=>by rw [List.mapM_nil] at h;cases h;rfl
 |_,_,ns,.cons (d:=d) r t,h=>by
  rw [List.mapM_cons] at h
  obtain ⟨i,h1,h⟩:=Option.bind_eq_some_iff.mp h
  obtain ⟨js,h2,h⟩:=Option.bind_eq_some_iff.mp h
  cases h
  cases d<;>simp only [Option.some.injEq,reduceCtorEq] at h1
  subst h1
  cases r
  rw [pD t h2]
  rfl
theorem yP {S:Addr->Prop}: ∀{vs:List V}{ds:List Dv}{rs:List (List Int)},RepsF KF S H vs ds->ds.mapM dRow=some rs->eR rs=true->(∀v∈vs,eQ H v)/\vs.map (rowV H)=rs
 |_,_,_,.nil,h,_=>by rw [List.mapM_nil] at h;cases h;exact ⟨(fun _ z=>nomatch z),rfl⟩
 |_,_,_,.cons (d:=d) r t,h,ok=>by
  rw [List.mapM_cons] at h
  obtain ⟨ns,h1,h⟩:=Option.bind_eq_some_iff.mp h
  obtain ⟨js,h2,h⟩:=Option.bind_eq_some_iff.mp h
  cases h
  unfold eR at ok
  rw [List.all_cons,Bool.and_eq_true] at ok
  obtain ⟨a1,a2⟩:=yP t h2 ok.2
  cases d<;>simp only [dRow,reduceCtorEq] at h1
  cases r with
  |tup e q=>
   have e2:=pD q h1
   subst e2
   refine ⟨fun v hv=> ?_,?_⟩
   ·rcases List.mem_cons.mp hv with rfl|hv
    ·refine ⟨_,ns,rfl,fun z=> ?_,e⟩
     rw [z] at ok
     exact absurd ok.1 (by simp)
    ·exact a1 v hv
   ·rw [List.map_cons,jf e,a2]
theorem pE {S:Addr->Prop}: ∀{xs:List (List Key×V)}{ds:List (List Key×Dv)},RepsK KF S H xs ds->xs.length=ds.length
 |_,_,.nil=>rfl
 |_,_,.cons _ t=>congrArg (· +1) (pE t)
theorem pF {α β:Type}{f:α->Option β}: ∀{l:List α}{r:List β},l.mapM f=some r->r.length=l.length
 |[],r,h=>by rw [List.mapM_nil] at h;cases h;rfl
 |x::l,r,h=>by
  rw [List.mapM_cons] at h
  obtain ⟨i,h1,h⟩:=Option.bind_eq_some_iff.mp h
  obtain ⟨js,h2,h⟩:=Option.bind_eq_some_iff.mp h
  cases h
  rw [List.length_cons,List.length_cons,pF h2]
theorem pG: ∀{ks:List Key}{ns:List Int},ks.mapM keyI=some ns->ks=ns.map Sum.inl
 |[],_,h=>by rw [List.mapM_nil] at h;cases h;rfl
 |k::ks,_,h=>by
  rw [List.mapM_cons] at h
  obtain ⟨i,h1,h⟩:=Option.bind_eq_some_iff.mp h
  obtain ⟨js,h2,h⟩:=Option.bind_eq_some_iff.mp h
  cases h
  rw [pG h2]
  cases k with
  |inl j=>cases h1;rfl
  |inr _=>cases h1
theorem pH {S:Addr->Prop}: ∀{xs:List (List Key×V)}{ds:List (List Key×Dv)}{rs:List (List Int)},RepsK KF S H xs ds->(ds.mapM fun p:List Key×Dv=>p.1.mapM keyI)=some rs->eR rs=true->
  (∀p∈xs,∃ns:List Int,ns≠[]/\p.1=ns.map Sum.inl)/\ ∀ys:List V,Paired (fun (p:List Key×V) (y:V)=> ∃b,y= .ref b/\H b=some (.tup (p.1.map kV))) xs ys->(∀y∈ys,eQ H y)/\ys.map (rowV H)=rs
 |_,_,_,.nil,h,_=>by
  rw [List.mapM_nil] at h;cases h
  exact ⟨(fun _ z=>nomatch z),fun ys q=>by cases q;exact ⟨(fun _ z=>nomatch z),rfl⟩⟩
 |_,_,_,.cons (k:=k) r t,h,ok=>by
  rw [List.mapM_cons] at h
  obtain ⟨ns,h1,h⟩:=Option.bind_eq_some_iff.mp h
  obtain ⟨js,h2,h⟩:=Option.bind_eq_some_iff.mp h
  cases h
  unfold eR at ok
  rw [List.all_cons,Bool.and_eq_true] at ok
  obtain ⟨a1,a2⟩:=pH t h2 ok.2
  have e:=pG (show k.mapM keyI=some ns from h1)
  have ne:ns≠[]:=fun z=>by rw [z] at ok;exact absurd ok.1 (by simp)
  subst e
  refine ⟨fun p hp=> ?_,fun ys q=> ?_⟩
  ·rcases List.mem_cons.mp hp with rfl|hp
   ·exact ⟨ns,ne,rfl⟩
   ·exact a1 p hp
  ·cases q with
   |cons q1 q2=>
    obtain ⟨b1,b2⟩:=a2 _ q2
    obtain ⟨b,rfl,e⟩:=q1
    have e':H b=some (.tup (ns.map V.int)):=by rw [e,List.map_map];rfl
    refine ⟨fun y hy=> ?_,?_⟩
    ·rcases List.mem_cons.mp hy with rfl|hy
     ·exact ⟨b,ns,rfl,ne,e'⟩
     ·exact b1 y hy
    ·rw [List.map_cons,jf e',b2]
theorem yQ:cW KF (fun xs H Q=> ∃a kvs,xs=[.ref a]/\Rd H a (.dT kvs)/\kvs.length<64/\(∀p∈kvs,∃ns:List Int,ns≠[]/\p.1=ns.map Sum.inl)/\
  ∀l ys zs,H l=none->Paired (fun (p:List Key×V) (y:V)=> ∃b,y= .ref b/\H b=some (.tup (p.1.map kV))) kvs ys->fD H ys zs->Q (.ref l) (upd H l (.lst zs))) .one fE:=by
 intro W H vs ds d Q r e hq
 cases r with
 |nil=>cases e
 |cons h r=>
  cases r with
  |cons _ _=>unfold fE at e;split at e<;>first|(next z=>cases z;done)|cases e
  |nil=>
   cases h<;>simp only [fE] at e<;>first|cases e|skip
   next a xs ds s h q=>
   obtain ⟨rs,h1,e⟩:=Option.bind_eq_some_iff.mp e
   split at e
   ·next ok=>
    cases e
    obtain ⟨a1,a2⟩:=pH q h1 ok.1
    refine ⟨a,xs,rfl,h,by rw [pE q,<-pF h1];exact ok.2,a1,fun l ys zs hl pr so=> ?_⟩
    obtain ⟨b1,b2⟩:=a2 ys pr
    have sm:=Same.new (o:= .lst zs) hl
    refine hq _ _ sm ⟨l,rfl,hl,zs,az,?_⟩
    have:=pC (KF:=KF) (S:=Imm) (zs:=zs) (H:=H) fun z hz=>b1 z (so.perm.mem_iff.mp hz)
    rw [so.eq,b2] at this
    exact this.same sm
   ·cases e
end
end L2
set_option maxHeartbeats 4000000
namespace L2
open PySem PySem.Spec PyProof.Rows
variable {KF:PySem.W.Frag}{W W':Addr->Prop}
noncomputable def jg:Dv->Option Key
 | .int i=>some (.inl i)
 | .str x=>some (.inr x)
 |_=>none
noncomputable def dKey:Dv->Option (List Key)
 | .tup ds=>ds.mapM jg
 |_=>none
noncomputable def valD (kvs:List (List Key×Dv)) (k:List Key):Option Dv:=(kvs.find? fun kv=>decide (kv.1=k)).map (·.2)
noncomputable def putD (kvs:List (List Key×Dv)) (k:List Key) (v:Dv):List (List Key×Dv):=
 if (kvs.any fun kv=>decide (kv.1=k))=true then kvs.map (fun kv=>if kv.1=k then (kv.1,v) else kv) else kvs++[(k,v)]
noncomputable def dGet:Dv->Dv->Option Dv
 | .dic kvs,y=>(dKey y).bind (valD kvs)
 |_,_=>none
noncomputable def g8 (a b c:EM):EM:=fun δ=>(a δ).bind fun x=>(b δ).bind fun y=>(c δ).bind fun z=>match x with
 | .dic kvs=>(dKey y).bind fun k=>let r:=(valD kvs k).getD z;if r.imm=true then some r else none
 |_=>none
noncomputable def sPut (i:Nat) (mk mv:EM):SM:=fun δ=>(mv δ).bind fun v=>(mk δ).bind fun y=>(eVar i δ).bind fun x=>match x with
 | .dic kvs=>(dKey y).bind fun k=>if kvs.length<lim/\v.imm=true then some (.nx (δ.set i (some (.dic (putD kvs k v))))) else none
 |_=>none
noncomputable def pI (i:Nat):SM:=fun δ=>(eVar i δ).bind fun x=>match x with
 | .lst ds=>some (.nx (δ.set i (some (.lst []))))
 |_=>none
noncomputable def pJ (i:Nat):SM:=fun δ=>(eVar i δ).bind fun x=>match x with
 | .lst ds=>some (.nx (δ.set i (some (.lst ds.reverse))))
 |_=>none
section
variable {S:Addr->Prop}{H:Hp}
theorem pK: ∀{vs:List V}{ds:List Dv}{ks:List Key},RepsF KF S H vs ds->ds.mapM jg=some ks->vs=ks.map kV
 |_,_,_,.nil,h=>by rw [List.mapM_nil] at h;cases h;rfl
 |_,_,_,.cons (d:=d) r t,h=>by
  rw [List.mapM_cons] at h
  obtain ⟨i,h1,h⟩:=Option.bind_eq_some_iff.mp h
  obtain ⟨js,h2,h⟩:=Option.bind_eq_some_iff.mp h
  cases h
  rw [pK t h2]
  cases d<;>simp only [jg,reduceCtorEq,Option.some.injEq] at h1<;>subst h1<;>cases r<;>rfl
theorem kZ {v:V}{d:Dv}{k:List Key} (r:RepF KF S H v d) (h:dKey d=some k): ∃b,v= .ref b/\H b=some (.tup (k.map kV)):=by
 cases d<;>simp only [dKey,reduceCtorEq] at h
 cases r with
 |tup e q=>exact ⟨_,rfl,by rw [e,pK q h]⟩
theorem RepsK.val: ∀{xs:List (List Key×V)}{ds:List (List Key×Dv)} (k:List Key),RepsK KF S H xs ds->(valD ds k=none/\valV xs k=none) \/ ∃v d,valD ds k=some d/\valV xs k=some v/\RepF KF S H v d
 |_,_,k,.nil=> .inl ⟨rfl,rfl⟩
 |_,_,k,.cons (k:=k1) r t=>by
  by_cases e:k1=k
  ·exact .inr ⟨_,_,by simp [valD,List.find?_cons,e],iJ e,r⟩
  ·rcases RepsK.val k t with ⟨a,b⟩|⟨v,d,a,b,q⟩
   ·exact .inl ⟨by simpa [valD,List.find?_cons,e] using a,by rw [gB e];exact b⟩
   ·exact .inr ⟨v,d,by simpa [valD,List.find?_cons,e] using a,by rw [gB e];exact b,q⟩
theorem RepsK.length: ∀{xs:List (List Key×V)}{ds:List (List Key×Dv)},RepsK KF S H xs ds->xs.length=ds.length
 |_,_,.nil=>rfl
 |_,_,.cons _ t=>by rw [List.length_cons,List.length_cons,RepsK.length t]
theorem RepsK.app: ∀{xs:List (List Key×V)}{ds:List (List Key×Dv)}{k:List Key}{v:V}{d:Dv},RepsK KF S H xs ds->RepF KF S H v d->RepsK KF S H (xs++[(k,v)]) (ds++[(k,d)])
 |_,_,_,_,_,.nil,r=> .cons r .nil
 |_,_,_,_,_,.cons q t,r=> .cons q (RepsK.app t r)
theorem RepsK.any: ∀{xs:List (List Key×V)}{ds:List (List Key×Dv)}{k:List Key},RepsK KF S H xs ds->(xs.any fun kv=>decide (kv.1=k))=ds.any fun kv=>decide (kv.1=k)
 |_,_,_,.nil=>rfl
 |_,_,_,.cons q t=>by rw [List.any_cons,List.any_cons,RepsK.any t]
theorem RepsK.rep: ∀{xs:List (List Key×V)}{ds:List (List Key×Dv)}{k:List Key}{v:V}{d:Dv},RepsK KF S H xs ds->RepF KF S H v d->
  RepsK KF S H (xs.map fun kv=>if kv.1=k then (kv.1,v) else kv) (ds.map fun kv=>if kv.1=k then (kv.1,d) else kv)
 |_,_,_,_,_,.nil,r=> .nil
 |_,_,k,_,_,.cons (k:=k1) q t,r=>by
  rw [List.map_cons,List.map_cons]
  by_cases e:k1=k
  ·rw [if_pos e,if_pos e];exact .cons r (RepsK.rep t r)
  ·rw [if_neg e,if_neg e];exact .cons q (RepsK.rep t r)
theorem RepsK.put {xs:List (List Key×V)}{ds:List (List Key×Dv)}{k:List Key}{v:V}{d:Dv} (q:RepsK KF S H xs ds) (r:RepF KF S H v d):RepsK KF S H (putK xs k v) (putD ds k d):=by
 unfold putK putD
 rw [q.any]
 split
 ·exact q.rep r
 ·exact q.app r
end
theorem lf {H:Hp}{a b:Addr}{kvs:List (List Key×V)}{k:List Key} (e:Rd H a (.dT kvs)) (eb:H b=some (.tup (k.map kV))):DGet H a (.ref b) (valV kvs k):= .inr ⟨kvs,k,b,e,rfl,eb,rfl⟩
theorem Rd.sm {H H':Hp}{a:Addr}{u:HO} (r:Rd H a u) (s:Same H H'):Rd H' a u:=r.elim (fun h=> .inl (s _ _ h)) fun ⟨o,h⟩=> .inr ⟨o,s _ _ h⟩
section
variable {X:Cx}{ms:List Nat}{k k1 k2 k3 rk:Kd}{e a b c:Expr}{m ma mb mc:EM}{pos:Pos}
theorem pL (hu:X.A.units+1<cLine) (ha:PD X ms k1 a ma) (hb:PD X ms k2 b mb) (hs:NoSl b):PD X ms .bor (.Subscript a b pos) (eOp dGet ma mb):=by
 obtain ⟨ta,pa,qa⟩:=ha
 obtain ⟨tb,pb,qb⟩:=hb
 refine ⟨_,uH hu pa pb hs,fun δ σ H0 H Q d R hm hq=> ?_⟩
 obtain ⟨x,hx,e⟩:=Option.bind_eq_some_iff.mp hm
 obtain ⟨y,hy,e⟩:=Option.bind_eq_some_iff.mp e
 refine qa δ σ H0 H _ x R hx fun v H1 s1 g1=> ?_
 refine qb δ σ H0 H1 _ y (R.same s1) hy fun u H2 s2 g2=> ?_
 have g1:=(g1.same s2).bor
 cases x<;>simp only [dGet,reduceCtorEq] at e
 obtain ⟨kk,h1,h2⟩:=Option.bind_eq_some_iff.mp e
 obtain ⟨p,rfl,hp⟩:=kZ g2.bor h1
 cases g1 with
 |dic _ hd q=>
  rcases q.val kk with ⟨n,_⟩|⟨w',d',n,n2,r⟩
  ·rw [n] at h2;cases h2
  ·rw [n] at h2;cases h2
   exact ⟨_,w',rfl,n2▸lf hd hp,hq w' H2 (s1.tr s2) r⟩
theorem yR (hu:X.A.units+1<cLine) {apos cpos:Pos} (ha:PD X ms k1 a ma) (hb:PD X ms k2 b mb) (hc:PD X ms k3 c mc) (m:M2 X a "get" apos b c cpos):PD X ms .imm (.Call (.Attribute a "get" apos) [b,c] [] cpos) (g8 ma mb mc):=by
 obtain ⟨ta,pa,qa⟩:=ha
 obtain ⟨tb,pb,qb⟩:=hb
 obtain ⟨tc,pc,qc⟩:=hc
 refine ⟨_,uU hu pa pb pc m,fun δ σ H0 H Q d R hm hq=> ?_⟩
 obtain ⟨x,hx,e⟩:=Option.bind_eq_some_iff.mp hm
 obtain ⟨y,hy,e⟩:=Option.bind_eq_some_iff.mp e
 obtain ⟨z,hz,e⟩:=Option.bind_eq_some_iff.mp e
 refine qa δ σ H0 H _ x R hx fun v H1 s1 g1=> ?_
 cases x<;>simp only [reduceCtorEq] at e
 obtain ⟨kk,h1,h2⟩:=Option.bind_eq_some_iff.mp e
 have g1':=g1.bor
 cases g1' with
 |dic _ hd0 q0=>
  refine ⟨_,rfl,.inr ⟨_,hd0⟩,?_⟩
  refine qb δ σ H0 H1 _ y (R.same s1) hy fun u H2 s2 g2=> ?_
  refine qc δ σ H0 H2 _ z ((R.same s1).same s2) hz fun w' H3 s3 g3=> ?_
  obtain ⟨p,rfl,hp⟩:=kZ (g2.same s3).bor h1
  have hd:=(hd0.sm s2).sm s3
  have q:=(q0.keep (.of s2)).keep (.of s3)
  split at h2
  ·next im=>
   cases h2
   rcases q.val kk with ⟨n,n2⟩|⟨w2,d2,n,n2,r⟩
   ·rw [n] at im hq
    exact ⟨none,n2▸lf hd hp,hq w' H3 (s1.tr (s2.tr s3)) (g3.bor.imm im)⟩
   ·rw [n] at im hq
    exact ⟨some w2,n2▸lf hd hp,hq w2 H3 (s1.tr (s2.tr s3)) (r.imm im)⟩
  ·cases h2
theorem yS:PD X ms .one (.Dict [] [] pos) (eC (.dic [])):=by
 refine ⟨_,uM,fun δ σ H0 H Q d R hm hq=> ?_⟩
 cases hm
 exact fun p hp=>hq _ _ (Same.new hp) ⟨p,rfl,hp,[],az,.nil⟩
theorem yT {i:Nat}{x:Str}{np pos':Pos}{v:Expr}{mv:EM} (hu:X.A.units+1<cLine) (hi:decide (i∈ms)=true) (hx:PE X (.Name x np) (tVar i)) (hk:PD X ms k1 b mb) (hv:PD X ms k2 v mv)
  (hs:swapsWith v (some (.Subscript (.Name x np) b pos')) pos.line X.env=pure false):PDs X ms rk (.Assign [.Subscript (.Name x np) b pos'] v pos) (sPut i mb mv):=by
 obtain ⟨tb,pb,qb⟩:=hk
 obtain ⟨tv,pv,qv⟩:=hv
 refine ⟨_,uI hu hx pb pv hs,fun δ σ H0 H D r R hm hq=> ?_⟩
 have hi:=of_decide_eq_true hi
 obtain ⟨dv,hv,e⟩:=Option.bind_eq_some_iff.mp hm
 obtain ⟨y,hy,e⟩:=Option.bind_eq_some_iff.mp e
 obtain ⟨z,hz,e⟩:=Option.bind_eq_some_iff.mp e
 cases z<;>simp only [reduceCtorEq] at e
 obtain ⟨kk,h1,e⟩:=Option.bind_eq_some_iff.mp e
 split at e
 ·next hl=>
  cases e
  refine qv δ σ H0 H _ dv R hv fun w1 H1 s1 g1=> ?_
  have R1:=R.same s1
  obtain ⟨p,hsp,xs0,hp0,q0⟩:=R1.getOwn hi hz
  refine ⟨_,hsp,?_⟩
  refine qb δ σ H0 H1 _ y R1 hy fun u H2 s2 g2=> ?_
  have R2:=R1.same s2
  obtain ⟨p',hsp',xs,hp,q⟩:=R2.getOwn hi hz
  rw [hsp] at hsp';cases hsp'
  obtain ⟨kb,rfl,hkb⟩:=kZ g2.bor h1
  refine ⟨p,_,rfl,DPut.t hp hkb (by rw [q.length];exact Nat.lt_trans hl.1 (by decide)),?_⟩
  have nt: ∀ys,HO.dT (putK xs kk w1)≠ .tup ys:=fun _ z=>nomatch z
  have kp:aG Imm H2 (L2.upd H2 p (.dT (putK xs kk w1))):=fun b ob hb kq=>by
   rcases kq with ⟨ys,rfl⟩|⟨c,u,rfl⟩|kq
   ·rw [ao (fun z=>by rw [z,hp] at hb;cases hb)];exact hb
   ·rw [ao (fun z=>by rw [z,hp] at hb;cases hb)];exact hb
   ·exact kq.elim
  have cl:Cell X.K (L2.upd H2 p (.dT (putK xs kk w1))) p (.dic (putD _ kk dv)):=⟨_,az,(q.put ((g1.same s2).bor.imm hl.2)).keep kp⟩
  obtain ⟨W9,R3,st⟩:=R2.mut hi hsp (fw hz) nt (fun _ _ z=>nomatch z) cl
  exact hq W9 σ _ ((Stp.sm (s1.tr s2)).tr st) R3
 ·cases e
end
end L2
set_option maxHeartbeats 4000000
namespace L2
open PySem PySem.Spec PyProof.Rows
noncomputable def putB (i:Nat) (v y x:Option Dv) (δ:Dt):Option Fl:=match v,y,x with
 |some v,some y,some (.dic kvs)=>(match dKey y with
  |some k=>if kvs.length<lim/\v.imm=true then some (.nx (δ.set i (some (.dic (putD kvs k v))))) else none
  |none=>none)
 |_,_,_=>none
theorem yU {i:Nat}{mk mv:EM}{δ:Dt}:sPut i mk mv δ=putB i (mv δ) (mk δ) (eVar i δ) δ:=by
 unfold sPut putB
 cases mv δ with
 |none=>rfl
 |some v=>
  cases mk δ with
  |none=>rfl
  |some y=>
   cases eVar i δ with
   |none=>rfl
   |some x=>
    cases x<;>try rfl
    cases h:dKey y<;>simp [h]
theorem yV {i:Nat}{v y:Dv}{kvs:List (List Key×Dv)}{k:List Key}{δ:Dt} (hk:dKey y=some k) (h:kvs.length<lim) (h':v.imm=true):putB i (some v) (some y) (some (.dic kvs)) δ=some (.nx (δ.set i (some (.dic (putD kvs k v))))):=by
 show (match dKey y with
  |some k=>if kvs.length<lim/\v.imm=true then some (Fl.nx (δ.set i (some (.dic (putD kvs k v))))) else none
  |none=>none)=_
 rw [hk]
 exact if_pos ⟨h,h'⟩
noncomputable def clrB (i:Nat) (x:Option Dv) (δ:Dt):Option Fl:=match x with
 |some (.lst _)=>some (.nx (δ.set i (some (.lst []))))
 |_=>none
theorem yW {i:Nat}{δ:Dt}:pI i δ=clrB i (eVar i δ) δ:=by
 unfold pI clrB
 cases eVar i δ with
 |none=>rfl
 |some x=>cases x<;>rfl
theorem yX {i:Nat}{ds:List Dv}{δ:Dt}:clrB i (some (.lst ds)) δ=some (.nx (δ.set i (some (.lst [])))):=rfl
noncomputable def revB (i:Nat) (x:Option Dv) (δ:Dt):Option Fl:=match x with
 |some (.lst ds)=>some (.nx (δ.set i (some (.lst ds.reverse))))
 |_=>none
theorem yY {i:Nat}{δ:Dt}:pJ i δ=revB i (eVar i δ) δ:=by
 unfold pJ revB
 cases eVar i δ with
 |none=>rfl
 |some x=>cases x<;>rfl
theorem yZ {i:Nat}{ds:List Dv}{δ:Dt}:revB i (some (.lst ds)) δ=some (.nx (δ.set i (some (.lst ds.reverse)))):=rfl
noncomputable def lg (x y z:Option Dv):Option Dv:=match x,y,z with
 |some (.dic kvs),some y,some z=>(match dKey y with
  |some k=>if ((valD kvs k).getD z).imm=true then some ((valD kvs k).getD z) else none
  |none=>none)
 |_,_,_=>none
theorem y4 {a b c:EM}{δ:Dt}:g8 a b c δ=lg (a δ) (b δ) (c δ):=by
 unfold g8 lg
 cases a δ with
 |none=>rfl
 |some x=>
  cases b δ with
  |none=>cases x<;>rfl
  |some y=>
   cases c δ with
   |none=>cases x<;>rfl
   |some z=>
    cases x<;>try rfl
    cases h:dKey y<;>simp [h]
theorem y7 {d:Dv} (c:d.toPy.canLay0=true) (h:d.toPy.depth<=60):eqOk d d=true/\PyData.eqv d.toPy d.toPy=true:=by
 refine ⟨?_,PySem.SeqAt.eqv_refl _ c⟩
 unfold eqOk
 rw [c,Nat.min_self,decide_eq_true h]
 rfl
theorem y8 {d:Dv} (c:d.toPy.canLay0=true) (h:d.toPy.depth<=60):dNe d d=some (.bl false):=by
 obtain ⟨a,b⟩:=y7 c h
 unfold dNe
 rw [if_pos a,b]
 rfl
theorem g9 {α:Type} (f:α->Dv): ∀xs:List α,dR (xs.map f)=xs.map fun x=>(f x).toPy
 |[]=>rfl
 |x::xs=>by rw [List.map_cons,dR,g9 f xs];rfl
theorem lh {α:Type}{f:α->PyData}: ∀{xs:List α},(∀x∈xs,(f x).canLay0=true)->PyData.canLayAll0 (xs.map f)=true
 |[],_=>rfl
 |x::xs,h=>by rw [List.map_cons,PyData.canLayAll0,h x (.head _),lh fun y hy=>h y (.tail _ hy)];rfl
theorem lj {α:Type}{f:α->PyData}{n:Nat}: ∀{xs:List α},(∀x∈xs,(f x).depth<=n)->PyData.depthAll (xs.map f)<=n
 |[],_=>Nat.zero_le _
 |x::xs,h=>by rw [List.map_cons,PyData.depthAll];exact Nat.max_le.mpr ⟨h x (.head _),lj fun y hy=>h y (.tail _ hy)⟩
theorem lq (r:List Int):(bu r).toPy.canLay0=true:=by
 unfold bu Dv.toPy
 rw [g9]
 exact lh fun _ _=>rfl
theorem pM (r:List Int):(bu r).toPy.depth<=1:=by
 unfold bu Dv.toPy
 rw [g9,PyData.depth]
 exact Nat.succ_le_succ (lj fun _ _=>Nat.le_refl _)
noncomputable def ent (p:List Int×Int):Dv:= .tup [.tup (p.1.map .int),.int p.2]
theorem y9 (p:List Int×Int):(ent p).toPy.canLay0=true:=by
 have h:=lq p.1
 show (PyData.canLay0 (bu p.1).toPy&&true)=true
 rw [h];rfl
theorem za (p:List Int×Int):(ent p).toPy.depth<=2:=by
 have h:=pM p.1
 show max (bu p.1).toPy.depth (max 0 0)+1<=2
 lia
theorem zb (h:List (List Int×Int)):(Dv.lst (h.map ent)).toPy.canLay0=true:=by
 unfold Dv.toPy
 rw [g9]
 exact lh fun p _=>y9 p
theorem zc (h:List (List Int×Int)):(Dv.lst (h.map ent)).toPy.depth<=3:=by
 unfold Dv.toPy
 rw [g9,PyData.depth]
 exact Nat.succ_le_succ (lj fun p _=>za p)
theorem zd (h:List (List Int×Int)):dNe (.lst (h.map ent)) (.lst (h.map ent))=some (.bl false):=y8 (zb h) (Nat.le_trans (zc h) (by decide))
theorem jh {p:List Int×Int}:(ent p).imm=true:=by
 show imms [.tup (p.1.map .int),.int p.2]=true
 rw [kM,o6,d4]
 rfl
theorem pN {r:List Int}:(bu r).imm=true:=d4 r
theorem pO {α:Type}{f:α->Dv}: ∀{xs:List α},(∀x∈xs,(f x).imm=true)->imms (xs.map f)=true
 |[],_=>rfl
 |x::xs,h=>by rw [List.map_cons,kM,h x (.head _),pO fun y hy=>h y (.tail _ hy)];rfl
theorem ze {h:List (List Int×Int)}:imms (h.map ent)=true:=pO fun _ _=>jh
noncomputable def dct (kws:List (List Int×Int)):List (List Key×Dv):=kws.map fun p=>(p.1.map Sum.inl,.int p.2)
noncomputable def getL (kws:List (List Int×Int)) (r:List Int):Option Int:=(kws.find? fun p=>decide (p.1=r)).map (·.2)
noncomputable def putL (kws:List (List Int×Int)) (r:List Int) (w:Int):List (List Int×Int):=
 if (kws.any fun p=>decide (p.1=r))=true then kws.map (fun p=>if p.1=r then (p.1,w) else p) else kws++[(r,w)]
theorem ji {a b:List Int}:(a.map (Sum.inl:Int->Key)=b.map Sum.inl)↔a=b:=
 ⟨fun h=>by
  have:=congrArg (fun l:List Key=>l.map fun k=>match k with| .inl i=>i| .inr _=>0) h
  simpa [List.map_map,Function.comp_def] using this,fun h=>by rw [h]⟩
theorem pP (r:List Int):dKey (bu r)=some (r.map Sum.inl):=by
 show (r.map Dv.int).mapM jg=_
 induction r with
 |nil=>rfl
 |cons x r ih=>rw [List.map_cons,List.mapM_cons,ih];rfl
theorem pQ (r:List Int):dKey (.tup (r.map .int))=some (r.map Sum.inl):=pP r
theorem lu: ∀(kws:List (List Int×Int)) (r:List Int),valD (dct kws) (r.map Sum.inl)=(getL kws r).map .int
 |[],_=>rfl
 |p::kws,r=>by
  have ih:=lu kws r
  unfold valD dct getL at ih|-
  rw [List.map_cons,List.find?_cons,List.find?_cons]
  by_cases e:p.1=r
  ·simp [e]
  ·have e': ¬p.1.map (Sum.inl:Int->Key)=r.map Sum.inl:=fun h=>e (ji.mp h)
   simp only [decide_eq_false e,decide_eq_false e']
   exact ih
theorem zf (kws:List (List Int×Int)) (r:List Int):((dct kws).any fun kv=>decide (kv.1=r.map Sum.inl))=kws.any fun p=>decide (p.1=r):=by
 unfold dct
 rw [List.any_map]
 refine congrArg (fun f=>kws.any f) (funext fun p=> ?_)
 exact decide_eq_decide.mpr ji
theorem zg (kws:List (List Int×Int)) (r:List Int) (w:Int):putD (dct kws) (r.map Sum.inl) (.int w)=dct (putL kws r w):=by
 unfold putD putL
 rw [zf]
 split
 ·unfold dct
  rw [List.map_map,List.map_map]
  refine List.map_congr_left fun p _=> ?_
  show (if p.1.map (Sum.inl:Int->Key)=r.map Sum.inl then (p.1.map Sum.inl,Dv.int w) else (p.1.map Sum.inl,.int p.2))=_
  by_cases e:p.1=r
  ·rw [if_pos (ji.mpr e)];simp [e]
  ·rw [if_neg fun h=>e (ji.mp h)];simp [e]
 ·unfold dct
  rw [List.map_append]
  rfl
theorem zh (kws:List (List Int×Int)):(dct kws).length=kws.length:=List.length_map ..
theorem zi (kws:List (List Int×Int)) (r:List Int) (w:Int):(putL kws r w).length<=kws.length+1:=by
 unfold putL
 split
 ·rw [List.length_map];lia
 ·rw [List.length_append];exact Nat.le_refl _
theorem putL_mem {kws:List (List Int×Int)}{r:List Int}{w:Int}{p:List Int×Int} (h:p∈putL kws r w):p∈kws \/p=(r,w):=by
 unfold putL at h
 split at h
 ·obtain ⟨q,hq,e⟩:=List.mem_map.mp h
  split at e
  ·next e2=>right;rw [<-e,e2]
  ·left;rw [<-e];exact hq
 ·rcases List.mem_append.mp h with h|h
  ·exact .inl h
  ·exact .inr (List.mem_singleton.mp h)
theorem zj {kws:List (List Int×Int)}{r:List Int}{w:Int} (nd:(kws.map (·.1)).Nodup):((putL kws r w).map (·.1)).Nodup:=by
 unfold putL
 split
 ·have e:(kws.map fun p=>if p.1=r then (p.1,w) else p).map (·.1)=kws.map (·.1):=by
   rw [List.map_map]
   refine List.map_congr_left fun p _=> ?_
   show (if p.1=r then (p.1,w) else p).1=p.1
   split<;>rfl
  rw [e];exact nd
 ·next h=>
  rw [List.map_append,List.nodup_append]
  refine ⟨nd,by simp,fun a ha b hb=> ?_⟩
  obtain rfl:b=r:=by simpa using hb
  rintro rfl
  obtain ⟨p,hp,e⟩:=List.mem_map.mp ha
  exact h (List.any_eq_true.mpr ⟨p,hp,decide_eq_true e⟩)
theorem pR: ∀kws:List (List Int×Int),((dct kws).mapM fun p:List Key×Dv=>p.1.mapM keyI)=some (kws.map (·.1))
 |[]=>rfl
 |p::kws=>by
  have ih:=pR kws
  unfold dct at ih|-
  have e: ∀l:List Int,(l.map (Sum.inl:Int->Key)).mapM keyI=some l:=by
   intro l
   induction l with
   |nil=>rfl
   |cons x l il=>rw [List.map_cons,List.mapM_cons,il];rfl
  rw [List.map_cons,List.mapM_cons,ih]
  show ((p.1.map (Sum.inl:Int->Key)).mapM keyI).bind _=_
  rw [e]
  rfl
theorem zk {kws:List (List Int×Int)} (h: ∀p∈kws,p.1≠[]) (hl:kws.length<64):fE [.dic (dct kws)]=some (.lst ((srt (kws.map (·.1))).map bu)):=by
 show (Option.bind _ _)=_
 rw [pR]
 refine if_pos ⟨?_,by rw [List.length_map];exact hl⟩
 unfold eR
 rw [List.all_eq_true]
 intro r hr
 obtain ⟨p,hp,rfl⟩:=List.mem_map.mp hr
 have:=h p hp
 cases e:p.1 with
 |nil=>exact absurd e this
 |cons _ _=>rfl
theorem lv {kws:List (List Int×Int)}{r:List Int} (h:r∈kws.map (·.1)): ∃w,getL kws r=some w/\(r,w)∈kws:=by
 unfold getL
 cases e:kws.find? fun p=>decide (p.1=r) with
 |none=>
  obtain ⟨p,hp,e2⟩:=List.mem_map.mp h
  have:=List.find?_eq_none.mp e p hp
  exact absurd (decide_eq_true e2) this
 |some q=>
  have h1:=List.find?_some e
  have h2:=List.mem_of_find?_eq_some e
  have h3:q.1=r:=of_decide_eq_true h1
  refine ⟨q.2,rfl,?_⟩
  rw [<-h3]
  exact h2
noncomputable def wOf (kws:List (List Int×Int)) (r:List Int):Int:=(getL kws r).getD 0
theorem pS {kws:List (List Int×Int)}{r:List Int} (h:r∈kws.map (·.1)):dGet (.dic (dct kws)) (bu r)=some (.int (wOf kws r)):=by
 obtain ⟨w,e,_⟩:=lv h
 show (dKey (bu r)).bind _=_
 rw [pP]
 show valD _ _=_
 rw [lu]
 unfold wOf
 rw [e]
 rfl
theorem zm (l:List (List Int)):(srt l).length=l.length:=(fC l).length_eq
theorem cY {α:Type}{g:Dv->Dt->Option Dt}{c:Dt->Option Bool}{el:EM}{δ:Dt} (enc f:α->Dv) (xs:List α) (h: ∀x,x∈xs->celM g c el δ (enc x)=some (some (f x))):bb g c el δ (xs.map enc)=some (xs.map f):=by
 rw [kP enc (fun x=>some (f x)) xs h]
 congr 1
 clear h
 induction xs with
 |nil=>rfl
 |cons x xs ih=>rw [List.filterMap_cons,ih];rfl
theorem zn {i:Int}:fInt [.int i]=some (.int i):=rfl
theorem zo {b:Bool}:fInt [.bl b]=some (.int (if b then 1 else 0)):=rfl
theorem zp {ns:List Int}:fSum [.lst (ns.map .int)]=some (.int ns.sum):=by
 show (dD _).map _=_
 rw [i3]
 rfl
theorem at20 {a b:Dv}:atI [a,b] 0=some a:=rfl
theorem at21 {a b:Dv}:atI [a,b] 1=some b:=rfl
theorem c2:((2:Nat):Int)=2:=rfl
theorem cZ (a b:Int) (h:0<b):0<=a%b/\a%b<b:=⟨Int.emod_nonneg _ (by lia),Int.emod_lt_of_pos _ h⟩
theorem zq {α:Type}{g:Dv->Dt->Option Dt}{c:Dt->Option Bool}{el:EM}{δ:Dt} (enc f:α->Dv) (p:α->Bool) (xs:List α) (h: ∀x,x∈xs->celM g c el δ (enc x)=some (if p x=true then some (f x) else none)):bb g c el δ (xs.map enc)=some ((xs.filter p).map f):=by
 rw [kP enc (fun x=>if p x=true then some (f x) else none) xs h]
 congr 1
 clear h
 induction xs with
 |nil=>rfl
 |cons x xs ih=>
  rw [List.filterMap_cons,List.filter_cons]
  by_cases e:p x=true
  ·rw [if_pos e,if_pos e,List.map_cons,ih]
  ·rw [if_neg e,if_neg e,ih]
theorem zr (kws:List (List Int×Int)) (r:List Int):lg (some (.dic (dct kws))) (some (.tup (r.map .int))) (some (.int 0))=some (.int (wOf kws r)):=by
 show (match dKey (.tup (r.map .int)) with
  |some k=>if ((valD (dct kws) k).getD (.int 0)).imm=true then some ((valD (dct kws) k).getD (.int 0)) else none
  |none=>none)=_
 rw [pQ]
 show (if ((valD (dct kws) (r.map Sum.inl)).getD (.int 0)).imm=true then some ((valD (dct kws) (r.map Sum.inl)).getD (.int 0)) else none)=_
 rw [lu]
 unfold wOf
 cases getL kws r<;>rfl
theorem zt {α:Type} (xs:List α) (l h:Option Int):(cutD xs l h).length<=xs.length:=by
 unfold cutD
 rw [List.length_take,List.length_drop]
 lia
end L2
set_option maxHeartbeats 4000000
local macro_rules
 | `(tactic| simp_arith $cfg:optConfig [$xs,*]) => `(tactic| simp $cfg:optConfig only [$xs,*,L2.dZ,L2.vT,L2.vU,L2.vV,L2.vW,L2.vX,L2.vY,L2.vZ,L2.v9,L2.wb,L2.wc,L2.we,L2.wf,L2.wg,L2.wj,L2.wk,L2.wl,L2.wo,L2.wq,L2.wt,L2.ww,L2.wy,L2.wz,L2.wA,L2.wB,L2.wC,L2.wD,L2.wE,L2.wF,L2.eC_b,L2.wH,L2.wI,L2.wJ,L2.wK,L2.wL,L2.wM,L2.wN,L2.wO,L2.wQ,L2.wR,L2.wS,L2.wT,L2.wU,L2.wV,L2.wW,L2.wX,L2.wY,L2.wZ,L2.xa,L2.xb,L2.xc,L2.xf,L2.xg,L2.xh,L2.xi,L2.xj,L2.xk,L2.xl,L2.xm,L2.xo,L2.xp,L2.xq,L2.xr,L2.o4,L2.gN_b,L2.xu,L2.xv,L2.kK,L2.xw,L2.xx,L2.xy,L2.xz,L2.xA,L2.xB,L2.xC,L2.xD,L2.xE,L2.xF,L2.xG,L2.xH,L2.xI,L2.o5,L2.xK,L2.xL,L2.xM,L2.o6,L2.xN,L2.kM,L2.d4,L2.xO,L2.xP,L2.xQ,L2.xR,L2.xS,L2.xT,L2.xU,L2.xV,List.set_cons_zero,List.set_cons_succ,Option.map_some,L2.lenc,L2.lenn,Nat.reduceAdd,Nat.reduceLeDiff,Int.reduceLT,Int.reduceLE,List.length_map,L2.kL,Bool.and_true,Bool.and_self,Bool.not_true,Bool.not_false,L2.aB,List.map_cons,List.map_nil,List.getElem?_cons_zero,List.getElem?_cons_succ,Option.join_some,L2.aX,List.cons_append,List.nil_append,List.replicate,and_self,and_true,true_and,L2.xX,L2.Dv.isScr,L2.tyN,L2.wG,L2.xZ,L2.x0,L2.x5,L2.x6,L2.x8,L2.x9,L2.ya,L2.yb,L2.yc,L2.yd,L2.ye,L2.yf,L2.gT_b,L2.gC_b,L2.yg,L2.gZ_b,L2.iL_b,L2.yh,L2.iT_b,L2.yi,L2.yj,L2.yk,L2.ym,L2.yn,L2.yo,L2.yU,L2.yW,L2.yX,L2.yY,L2.yZ,L2.zn,L2.zo,L2.zp,L2.at20,L2.at21,L2.c2])
namespace L2
open PySem PySem.Spec PyProof.Rows
end L2
set_option maxHeartbeats 4000000
namespace L2
open PySem PySem.Spec PyProof.Rows
noncomputable def hJ (i:Nat) (mk mv:EM):SM:=fun δ=>(mv δ).bind fun v=>(mk δ).bind fun y=>(eVar i δ).bind fun x=>match x,y with
 | .lst ds,.int k=>(ixN ds.length k).bind fun j=>if v.imm=true then some (.nx (δ.set i (some (.lst (ds.set j v))))) else none
 |_,_=>none
section
variable {X:Cx}{ms:List Nat}{k k1 k2 k3 rk:Kd}{e a b c:Expr}{m ma mb mc:EM}{pos:Pos}
theorem zu {i:Nat}{x:Str}{np pos':Pos}{v:Expr}{mv:EM} (hi:decide (i∈ms)=true) (hx:PE X (.Name x np) (tVar i)) (hk:PD X ms k1 b mb) (hv:PD X ms k2 v mv)
  (hs:swapsWithSole [.Subscript (.Name x np) b pos'] v pos.line X.env=pure false:=by rfl) (hw:swappedStores [.Subscript (.Name x np) b pos'] v X.env=pure none:=by rfl)
  (h1:(assignEach [.Subscript (.Name x np) b pos'] X.env).map (·.2)=[assign (.Subscript (.Name x np) b pos') X.env]:=by rfl)
  (ha: ∀v,assign (.Subscript (.Name x np) b pos') X.env v=(do
   let ow<-holding [v] (eval (.Name x np) X.env)
   let iw<-holding [v,ow] (eval b X.env)
   standAt pos'
   holding [v,ow,iw] (setItem ow iw v)
   release [v,ow,iw] []):=by intro _;rfl):PDs X ms rk (.Assign [.Subscript (.Name x np) b pos'] v pos) (hJ i mb mv):=by
 obtain ⟨tb,pb,qb⟩:=hk
 obtain ⟨tv,pv,qv⟩:=hv
 refine ⟨_,mU pv (tJ hx pb uq ha) hs hw h1,fun δ σ H0 H D r R hm hq=> ?_⟩
 have hi:=of_decide_eq_true hi
 obtain ⟨dv,hv,e⟩:=Option.bind_eq_some_iff.mp hm
 obtain ⟨y,hy,e⟩:=Option.bind_eq_some_iff.mp e
 obtain ⟨z,hz,e⟩:=Option.bind_eq_some_iff.mp e
 have sh: ∃ds kk,z= .lst ds/\y= .int kk:=by
  cases z<;>first|(cases e;done)|(cases y<;>first|(cases e;done)|exact ⟨_,_,rfl,rfl⟩)
 obtain ⟨ds,kk,rfl,rfl⟩:=sh
 obtain ⟨j,hj,e⟩:=Option.bind_eq_some_iff.mp e
 split at e
 ·next im=>
  cases e
  refine qv δ σ H0 H _ dv R hv fun w1 H1 s1 g1=> ?_
  have R1:=R.same s1
  obtain ⟨p,hsp,xs0,hp0,q0⟩:=R1.getOwn hi hz
  refine ⟨_,hsp,?_⟩
  refine qb δ σ H0 H1 _ _ R1 hy fun u H2 s2 g2=> ?_
  have R2:=R1.same s2
  obtain ⟨p',hsp',xs,hp,q⟩:=R2.getOwn hi hz
  rw [hsp] at hsp';cases hsp'
  have g2:=g2.bor
  cases g2
  refine ⟨p,xs,kk,j,rfl,rfl,hp,by rw [q.length];exact hj,?_⟩
  have nt: ∀ys,HO.lst (xs.set j w1)≠ .tup ys:=fun _ z=>nomatch z
  have kp:aG Imm H2 (L2.upd H2 p (.lst (xs.set j w1))):=fun b ob hb kq=>by
   rcases kq with ⟨ys,rfl⟩|⟨c,u,rfl⟩|kq
   ·rw [ao (fun z=>by rw [z,hp] at hb;cases hb)];exact hb
   ·rw [ao (fun z=>by rw [z,hp] at hb;cases hb)];exact hb
   ·exact kq.elim
  have cl:Cell X.K (L2.upd H2 p (.lst (xs.set j w1))) p (.lst (ds.set j dv)):=⟨_,az,(q.set j ((g1.same s2).bor.imm im)).keep kp⟩
  obtain ⟨W9,R3,st⟩:=R2.mut hi hsp (fw hz) nt (fun _ _ z=>nomatch z) cl
  exact hq W9 σ _ ((Stp.sm (s1.tr s2)).tr st) R3
 ·cases e
theorem CB (t:Tok) (l:Addr) (its:Array Value) (n:Nat) (dc:Option Addr) (sl:Array (Option Value)):
  Meets (Builtin.«tuple.__mul__» ⟨[.ref l,.int 1 t],[]⟩) (fun _ R s=>s.heap.get? l=some ⟨.type "tuple",dc,.seq its n,sl⟩/\R (.ok (.ret (.ref l))) s):=
 .of_wp fun prog w A R s h=>by obtain ⟨hp,g,d,tk,os⟩:=s;obtain ⟨hl,h⟩:=h;wp_walk;exact ⟨_,rfl,h⟩
theorem RepsF.rep {KF:PySem.W.Frag}{S:Addr->Prop}{H:Hp}{xs:List V}{ds:List Dv} (r:RepsF KF S H xs ds): ∀n:Nat,RepsF KF S H (List.replicate n xs).flatten (List.replicate n ds).flatten
 |0=> .nil
 |n+1=>by rw [List.replicate_succ,List.replicate_succ,List.flatten_cons,List.flatten_cons];exact r.append (RepsF.rep r n)
end
end L2
set_option maxHeartbeats 4000000
namespace L2
open PySem PySem.Spec PyProof.Rows
theorem row_ok (a b:List Int):eqOk (bu a) (bu b)=true:=by
 unfold eqOk
 rw [lq,lq,decide_eq_true (Nat.le_trans (Nat.min_le_left _ _) (Nat.le_trans (pM a) (by decide)))]
 rfl
theorem fF (p:List Int×Int) (h:List (List Int×Int)) (r:List Int):getL (p::h) r=if p.1=r then some p.2 else getL h r:=by
 unfold getL
 rw [List.find?_cons]
 by_cases e:p.1=r
 ·rw [decide_eq_true e,if_pos e];rfl
 ·rw [decide_eq_false e,if_neg e]
theorem jj: ∀{h:List (List Int×Int)}{r:List Int},r∉h.map (·.1)->getL h r=none
 |[],_,_=>rfl
 |p::h,r,n=>by
  rw [List.map_cons,List.mem_cons] at n
  rw [fF,if_neg fun e=>n (.inl e.symm)]
  exact jj fun z=>n (.inr z)
noncomputable def hOf (kws:List (List Int×Int)):List (List Int×Int):=(srt (kws.map (·.1))).map fun r=>(r,wOf kws r)
theorem pT {n:Nat}{k:Int} (h0:0<=k) (h1:k<(n:Int)):ixN n k=some k.toNat:=by
 unfold ixN
 rw [if_pos h0,if_pos h1]
end L2
set_option maxHeartbeats 4000000
namespace L2
open PySem PySem.Spec PyProof.Rows
section
variable {X:Cx}{pins:List (Addr×Obj)}{σ:St}{H:Hp}{s:Shared}{h':Heap}
end
end L2
set_option maxHeartbeats 4000000
namespace L2
open PySem PySem.Spec PyProof.Rows
section
variable {X:Cx}
variable {ms:List Nat}{rk:Kd}
end
end L2
set_option maxHeartbeats 4000000
namespace L2
open PySem PySem.Spec PyProof.Rows
noncomputable def sUnp (m:EM) (g:Dv->Dt->Option Dt):SM:=fun δ=>(m δ).bind fun d=>(g d δ).map .nx
section
variable {X:Cx}{ms:List Nat}{k k1 rk:Kd}{e tg:Expr}{m:EM}{g:Dv->Dt->Option Dt}{pos:Pos}
theorem zv (h:PD X ms .any e m) (hg:PDg X ms tg g) (hs:swapsWithSole [tg] e pos.line X.env=pure false:=by rfl) (hw:swappedStores [tg] e X.env=pure none:=by rfl)
  (h1:(assignEach [tg] X.env).map (·.2)=[assign tg X.env]:=by rfl):PDs X ms rk (.Assign [tg] e pos) (sUnp m g):=by
 obtain ⟨te,pe,qe⟩:=h
 obtain ⟨tg',pg,qg⟩:=hg
 refine ⟨_,mU pe pg hs hw h1,fun δ σ H0 H D r R hm hq=> ?_⟩
 obtain ⟨d,hd,e⟩:=Option.bind_eq_some_iff.mp hm
 obtain ⟨δ1,h2,rfl⟩:=Option.map_eq_some_iff.mp e
 refine qe δ σ H0 H _ d R hd fun v H1 s1 g1=> ?_
 exact qg δ δ1 σ H0 H1 v d _ (R.same s1) g1 h2 fun σ1 R1 so1=>hq _ σ1 H1 (Stp.of s1 so1) R1
end
end L2
set_option maxHeartbeats 4000000
namespace HT
open PySem PyProof.Rows
section
open PySem.SeqAt
open PySem.AutoSeq1 (wpAny_loadPart')
open PySem.MeetsSeq PySem.MeetsSeq2 PySem.MeetsSeq3
end
section
variable {prog:Program}{w:World}{A:Around}{E:Value->Shared->Prop}{s:Shared}
end
end HT
namespace L2
open PySem PySem.Spec PyProof.Rows
variable {KF:PySem.W.Frag}{W W':Addr->Prop}
section
variable {X:Cx}
end
section
variable {X:Cx}{ms:List Nat}{k k1 k2 k3 rk:Kd}{e a b c:Expr}{m ma mb mc:EM}{pos:Pos}
noncomputable def tOf2 (f:Dv->Dv->Option Dv) (ma mb:EM):Dt->Option Bool:=tOf (eOp f ma mb)
end
end L2
set_option maxHeartbeats 4000000
namespace L2
open PySem PySem.Spec PyProof.Rows
variable {KF:PySem.W.Frag}{W W':Addr->Prop}
section
variable {X:Cx}{ms:List Nat}{rk k:Kd}{e:Expr}{m:EM}{pos pos':Pos}{st:Stmt}{rest a b:List Stmt}{ma mb:SM}
end
section
variable {X:Cx}
end
section
variable {X:Cx}{ms:List Nat}{k k1 k2 k3 rk:Kd}{e a b c:Expr}{m ma mb mc:EM}{pos:Pos}
theorem RepsF.pick {S:Addr->Prop}{H:Hp}{xs:List V}{ds:List Dv} (r:RepsF KF S H xs ds): ∀(l:List Nat),RepsF KF S H (l.filterMap fun i=>xs[i]?) (l.filterMap fun i=>ds[i]?)
 |[]=> .nil
 |i::l=>by
  rw [List.filterMap_cons,List.filterMap_cons]
  cases hx:xs[i]? with
  |none=>
   have:ds[i]?=none:=by rw [List.getElem?_eq_none_iff] at hx|-;rw [<-r.length];exact hx
   rw [this]
   exact r.pick l
  |some x=>
   obtain ⟨d,hd,rd⟩:=r.get' hx
   rw [hd]
   exact .cons rd (r.pick l)
theorem Vals.pick {xs:List V}{us:List Value} (r:Vals xs us): ∀(l:List Nat),Vals (l.filterMap fun i=>xs[i]?) (l.filterMap fun i=>us[i]?)
 |[]=> .nil
 |i::l=>by
  rw [List.filterMap_cons,List.filterMap_cons]
  cases hx:xs[i]? with
  |none=>
   have:us[i]?=none:=by rw [List.getElem?_eq_none_iff] at hx|-;rw [<-r.length];exact hx
   rw [this]
   exact Vals.pick r l
  |some x=>
   obtain ⟨d,hd,rd⟩:=r.get hx
   rw [hd]
   exact .cons rd (Vals.pick r l)
end
end L2
set_option maxHeartbeats 4000000
namespace L2
open PySem PySem.Spec PyProof.Rows
noncomputable abbrev Hl:=List (List Int×Int)
noncomputable def tot:Hl->List Int->Int
 |[],_=>0
 |p::ps,r=>(if p.1=r then p.2 else 0)+tot ps r
theorem ly {ps:Hl}{r:List Int} (h:r∉ps.map (·.1)):tot ps r=0:=by
 induction ps with
 |nil=>rfl
 |cons p ps ih=>
  rw [List.map_cons,List.mem_cons,not_or] at h
  rw [tot,if_neg (fun e=>h.1 e.symm),ih h.2]
  rfl
theorem zw {ps:Hl}{r:List Int} (h:tot ps r≠0):r∈ps.map (·.1):=Classical.byContradiction fun n=>h (ly n)
theorem lz {ps:Hl} (nd:(ps.map (·.1)).Nodup) {r:List Int}{w:Int} (h:(r,w)∈ps):tot ps r=w:=by
 induction ps with
 |nil=>cases h
 |cons p ps ih=>
  rw [List.map_cons,List.nodup_cons] at nd
  rw [tot]
  rcases List.mem_cons.mp h with e|h'
  ·subst e
   rw [if_pos rfl,ly nd.1]
   exact Int.add_zero w
  ·have hm:r∈ps.map (·.1):=List.mem_map.mpr ⟨(r,w),h',rfl⟩
   rw [if_neg (fun e=>nd.1 (by rw [e];exact hm)),ih nd.2 h']
   exact Int.zero_add w
theorem pU (kws:Hl) (r q:List Int) (w:Int):getL (putL kws r w) q=if r=q then some w else getL kws q:=by
 unfold putL
 split
 ·next h=>
  have key: ∀l:Hl,getL (l.map fun p=>if p.1=r then (p.1,w) else p) q=if r=q then (getL l q).map fun _=>w else getL l q:=by
   intro l
   induction l with
   |nil=>simp [getL]
   |cons p l ih=>
    rw [List.map_cons,fF,fF,ih]
    by_cases e:p.1=r
    ·rw [if_pos e]
     by_cases e2:r=q
     ·rw [if_pos (by rw [e,e2]),if_pos e2,if_pos (by rw [e,e2])];rfl
     ·rw [if_neg (fun z=>e2 (e▸z)),if_neg e2,if_neg e2,if_neg (fun z=>e2 (e▸z))]
    ·rw [if_neg e]
     by_cases e2:r=q
     ·rw [if_neg (fun z=>e (by rw [z,e2])),if_pos e2,if_pos e2,if_neg (fun z=>e (by rw [z,e2]))]
     ·by_cases e3:p.1=q
      ·rw [if_pos e3,if_neg e2,if_pos e3]
      ·rw [if_neg e3,if_neg e2,if_neg e2,if_neg e3]
  rw [key]
  split
  ·next e=>
   subst e
   obtain ⟨p,hp,e⟩:=List.any_eq_true.mp h
   have hm:r∈kws.map (·.1):=List.mem_map.mpr ⟨p,hp,of_decide_eq_true e⟩
   obtain ⟨v,hv,_⟩:=lv hm
   rw [hv];rfl
  ·rfl
 ·next h=>
  have hn:r∉kws.map (·.1):=fun z=>by
   obtain ⟨p,hp,e⟩:=List.mem_map.mp z
   exact h (List.any_eq_true.mpr ⟨p,hp,decide_eq_true e⟩)
  have key: ∀l:Hl,getL (l++[(r,w)]) q=(getL l q).or (if r=q then some w else none):=by
   intro l
   induction l with
   |nil=>rw [List.nil_append,fF];simp [getL]
   |cons p l ih=>
    rw [List.cons_append,fF,fF,ih]
    split<;>simp
  rw [key]
  by_cases e:r=q
  ·subst e
   rw [jj hn,if_pos rfl];rfl
  ·rw [if_neg e,if_neg e]
   cases getL kws q<;>rfl
theorem zx (kws:Hl) (r q:List Int) (w:Int):wOf (putL kws r w) q=if r=q then w else wOf kws q:=by
 unfold wOf
 rw [pU]
 split<;>rfl
theorem zy {kws:Hl}{r q:List Int}{w:Int}:q∈(putL kws r w).map (·.1)↔q=r \/q∈kws.map (·.1):=by
 constructor
 ·intro h
  obtain ⟨p,hp,rfl⟩:=List.mem_map.mp h
  rcases putL_mem hp with h|rfl
  ·exact .inr (List.mem_map.mpr ⟨p,h,rfl⟩)
  ·exact .inl rfl
 ·intro h
  refine Classical.byContradiction fun n=> ?_
  have e:=jj n
  rw [pU] at e
  rcases h with rfl|h
  ·rw [if_pos rfl] at e;cases e
  ·by_cases c:r=q
   ·rw [if_pos c] at e;cases e
   ·rw [if_neg c] at e
    obtain ⟨v,hv,_⟩:=lv h
    rw [hv] at e;cases e
noncomputable def addL (kws:Hl) (p:List Int×Int):Hl:=putL kws p.1 (wOf kws p.1+p.2)
theorem zz (ps:Hl): ∀(kws:Hl) (r:List Int),wOf (ps.foldl addL kws) r=wOf kws r+tot ps r:=by
 induction ps with
 |nil=>intro kws r;simp [tot]
 |cons p ps ih=>
  intro kws r
  rw [List.foldl_cons,ih,tot]
  unfold addL
  rw [zx]
  split
  ·next e=>subst e;lia
  ·lia
theorem zA (ps:Hl): ∀(kws:Hl),(kws.map (·.1)).Nodup->((ps.foldl addL kws).map (·.1)).Nodup:=by
 induction ps with
 |nil=>intro kws h;exact h
 |cons p ps ih=>intro kws h;rw [List.foldl_cons];exact ih _ (zj h)
theorem zB (ps:Hl): ∀(kws:Hl) (r:List Int),r∈(ps.foldl addL kws).map (·.1)↔r∈kws.map (·.1) \/r∈ps.map (·.1):=by
 induction ps with
 |nil=>intro kws r;simp
 |cons p ps ih=>
  intro kws r
  rw [List.foldl_cons,ih]
  unfold addL
  rw [zy,List.map_cons,List.mem_cons]
  constructor
  ·rintro ((h|h)|h)
   ·exact .inr (.inl h)
   ·exact .inl h
   ·exact .inr (.inr h)
  ·rintro (h|h|h)
   ·exact .inl (.inr h)
   ·exact .inl (.inl h)
   ·exact .inr h
theorem pV (ps:Hl): ∀(kws:Hl),(ps.foldl addL kws).length<=kws.length+ps.length:=by
 induction ps with
 |nil=>intro kws;exact Nat.le_refl _
 |cons p ps ih=>
  intro kws
  rw [List.foldl_cons,List.length_cons]
  have:=ih (addL kws p)
  have:=zi kws p.1 (wOf kws p.1+p.2)
  unfold addL at*
  lia
noncomputable def aY (ps:Hl):Hl:=ps.foldl addL []
theorem zC (ps:Hl) (r:List Int):wOf (aY ps) r=tot ps r:=by
 unfold aY
 rw [zz]
 exact Int.zero_add _
theorem pW (ps:Hl):((aY ps).map (·.1)).Nodup:=zA ps [] List.nodup_nil
theorem zD (ps:Hl) (r:List Int):r∈(aY ps).map (·.1)↔r∈ps.map (·.1):=by
 unfold aY
 rw [zB]
 simp
theorem pX (ps:Hl):(aY ps).length<=ps.length:=by
 have:=pV ps []
 rw [List.length_nil,Nat.zero_add] at this
 exact this
noncomputable def nzOf (kws:Hl):Hl:=(hOf kws).filter fun p=> !decide (p.2=0)
noncomputable def cO (ps:Hl):Hl:=nzOf (aY ps)
noncomputable def Rise (h:Hl):Prop:=h.Pairwise fun p q=>HT.aA p.1 q.1=true
theorem Rise.nd {h:Hl} (r:Rise h):(h.map (·.1)).Nodup:=by
 refine List.Pairwise.map _ (fun a b e=> ?_) r
 intro z
 have e':HT.aA a.1 b.1=true:=e
 rw [z,DhSort.gY] at e'
 cases e'
theorem Rise.filter {h:Hl} (r:Rise h) (f:List Int×Int->Bool):Rise (h.filter f):=List.Pairwise.filter f r
theorem zE {kws:Hl} (nd:(kws.map (·.1)).Nodup):Rise (hOf kws):=by
 have h1:=kX (kws.map (·.1))
 have h2:(srt (kws.map (·.1))).Nodup:=(fC _).nodup_iff.mpr nd
 unfold Rise hOf
 rw [List.pairwise_map]
 refine (h1.and h2).imp fun {a b} h=> ?_
 obtain ⟨h1,h2⟩:=h
 show HT.aA a b=true
 cases e:HT.aA a b with
 |true=>rfl
 |false=>exact absurd (DhSort.kS a b e h1) h2
theorem Rise.ext: ∀{a b:Hl},Rise a->Rise b->(∀p,p∈a↔p∈b)->a=b
 |[],[],_,_,_=>rfl
 |[],y::b,_,_,h=>absurd ((h y).mpr (List.mem_cons_self ..)) (by simp)
 |x::a,[],_,_,h=>absurd ((h x).mp (List.mem_cons_self ..)) (by simp)
 |x::a,y::b,ra,rb,h=>by
  obtain ⟨ra1,ra2⟩:=List.pairwise_cons.mp ra
  obtain ⟨rb1,rb2⟩:=List.pairwise_cons.mp rb
  have irr: ∀{p:List Int×Int},HT.aA p.1 p.1=true->False:=fun {p} z=>by rw [DhSort.gY] at z;cases z
  have e:x=y:=by
   rcases List.mem_cons.mp ((h x).mp (List.mem_cons_self ..)) with e|hx
   ·exact e
   rcases List.mem_cons.mp ((h y).mpr (List.mem_cons_self ..)) with e|hy
   ·exact e.symm
   exact (irr (DhSort.je _ _ _ (ra1 y hy) (rb1 x hx))).elim
  subst e
  congr 1
  refine Rise.ext ra2 rb2 fun p=>⟨fun hp=> ?_,fun hp=> ?_⟩
  ·rcases List.mem_cons.mp ((h p).mp (List.mem_cons_of_mem _ hp)) with e|hx
   ·subst e;exact (irr (ra1 _ hp)).elim
   ·exact hx
  ·rcases List.mem_cons.mp ((h p).mpr (List.mem_cons_of_mem _ hp)) with e|hx
   ·subst e;exact (irr (rb1 _ hp)).elim
   ·exact hx
theorem zF {kws:Hl} (nd:(kws.map (·.1)).Nodup) (p:List Int×Int):p∈nzOf kws↔p.2=wOf kws p.1/\p.2≠0:=by
 unfold nzOf hOf
 rw [List.mem_filter]
 constructor
 ·rintro ⟨h,h0⟩
  obtain ⟨r,hr,rfl⟩:=List.mem_map.mp h
  exact ⟨rfl,by simpa using h0⟩
 ·rintro ⟨h,h0⟩
  refine ⟨List.mem_map.mpr ⟨p.1,?_,by rw [<-h]⟩,by simpa using h0⟩
  refine (fC _).mem_iff.mpr (Classical.byContradiction fun n=>h0 ?_)
  rw [h]
  unfold wOf
  rw [jj n]
  rfl
theorem lA (ps:Hl) (p:List Int×Int):p∈cO ps↔p.2=tot ps p.1/\p.2≠0:=by
 unfold cO
 rw [zF (pW ps),zC]
theorem zG {kws:Hl} (nd:(kws.map (·.1)).Nodup):Rise (nzOf kws):=(zE nd).filter _
theorem pY (ps:Hl):Rise (cO ps):=zG (pW ps)
theorem zH (ps:Hl) (r:List Int):tot (cO ps) r=tot ps r:=by
 by_cases h:tot ps r=0
 ·rw [h]
  refine ly fun z=> ?_
  obtain ⟨p,hp,rfl⟩:=List.mem_map.mp z
  have:=(lA ps p).mp hp
  exact this.2 (this.1.trans h)
 ·exact lz (pY ps).nd ((lA ps (r,tot ps r)).mpr ⟨rfl,h⟩)
structure IsH (h:Hl):Prop where
 rise:Rise h
 nz: ∀p∈h,p.2≠0
theorem zI (ps:Hl):IsH (cO ps):=⟨pY ps,fun p hp=>((lA ps p).mp hp).2⟩
theorem IsH.mem {h:Hl} (i:IsH h) (p:List Int×Int):p∈h↔p.2=tot h p.1/\p.2≠0:=by
 constructor
 ·exact fun hp=>⟨(lz i.rise.nd hp).symm,i.nz p hp⟩
 ·rintro ⟨e,n⟩
  have hm:p.1∈h.map (·.1):=zw (by rw [<-e];exact n)
  obtain ⟨q,hq,eq⟩:=List.mem_map.mp hm
  have e2:=lz i.rise.nd hq
  rw [eq,<-e] at e2
  rwa [show p=q from Prod.ext eq.symm e2]
theorem IsH.ext {a b:Hl} (ia:IsH a) (ib:IsH b) (h: ∀r,tot a r=tot b r):a=b:=
 Rise.ext ia.rise ib.rise fun p=>by rw [ia.mem,ib.mem,h]
theorem zJ {h:Hl} (i:IsH h):cO h=h:=IsH.ext (zI h) i (zH h)
noncomputable def l_hp:SM:=
 (sPut 1 (eVar 2) (eOp dAdd (g8 (eVar 1) (eVar 2) (eC (.int 0))) (eVar 3)))
noncomputable def q_hp:Dt->Option Bool:=
 (tOf (eOp dNe (eOp dGet (eVar 1) (eVar 0)) (eC (.int 0))))
noncomputable def c_hp:EM:=
 (eTup (aa (eVar 0) (aa (eImm (eOp dGet (eVar 1) (eVar 0))) aNil)))
noncomputable def b_hp:SM:=
 (sSeq (sSet 1 (eC (.dic [])))
  (sSeq (sFor (iL (eVar 0)) (gT 2 (gC (gN 2) (gC (gN 3) gZ))) l_hp)
  (sRet (aS [none,some 1] (iL (ah fE (aa (eVar 1) aNil))) (gN 0) q_hp c_hp))))
noncomputable def M_hp:List Dv->Option Dv:=aP 4 1 b_hp
theorem m_hp (ps:Hl) (hl:ps.length<=10000) (ne: ∀p∈ps,p.1≠[]) (h64:(aY ps).length<64):M_hp [.lst (ps.map ent)]=some (.lst ((cO ps).map ent)):=by
 obtain ⟨δ',e,v2,v3,rfl⟩:=i6 (g:=gT 2 (gC (gN 2) (gC (gN 3) gZ))) (body:=l_hp) (ds:=ps.map ent) (δ:=[some (.lst (ps.map ent)),some (.dic []),none,none])
  (fun i δ=> ∃v2 v3:Option Dv,δ=[some (.lst (ps.map ent)),some (.dic (dct ((ps.take i).foldl addL []))),v2,v3]) ⟨none,none,rfl⟩ (by
  rintro i d δ hd ⟨v2,v3,rfl⟩
  rw [List.getElem?_map] at hd
  obtain ⟨p,hp,rfl⟩:=Option.map_eq_some_iff.mp hd
  have hi:=(List.getElem?_eq_some_iff.mp hp).1
  have tk:(ps.take (i+1)).foldl addL []=addL ((ps.take i).foldl addL []) p:=by
   rw [List.take_add_one,hp,List.foldl_append]
   rfl
  have hkl:((ps.take i).foldl addL []).length<=i:=by
   have:=pV (ps.take i) []
   rw [List.length_take,List.length_nil] at this
   lia
  obtain ⟨r,w⟩:=p
  generalize hk:(ps.take i).foldl addL []=kws at tk hkl
  have hl2:(dct kws).length<lim:=by rw [zh,kL];lia
  refine ⟨_,_,rfl,?_,⟨some (.tup (r.map .int)),some (.int w),rfl⟩⟩
  rw [tk]
  unfold addL
  dsimp only
  simp_arith [l_hp,ent,y4,zr,yV (pQ r) hl2 o5,zg])
 rw [List.length_map,List.take_length] at e
 have e':loopM (gT 2 (gC (gN 2) (gC (gN 3) gZ))) l_hp (ps.map ent) [some (.lst (ps.map ent)),some (.dic []),none,none]=some (.nx [some (.lst (ps.map ent)),some (.dic (dct (aY ps))),v2,v3]):=e
 have hs:=zk (kws:=aY ps) (fun p hp=>by
  obtain ⟨q,hq,e⟩:=List.mem_map.mp ((zD ps p.1).mp (List.mem_map.mpr ⟨p,hp,rfl⟩))
  rw [<-e]
  exact ne q hq) h64
 have kl:(srt ((aY ps).map (·.1))).length<=100000:=by rw [zm,List.length_map];have:=pX ps;lia
 have pl:ps.length<=100000:=by lia
 have hc:=zq (g:=gN 0) (c:=q_hp) (el:=c_hp) (δ:=[none,some (.dic (dct (aY ps)))]) bu (fun r=>ent (r,wOf (aY ps) r)) (fun r=> !decide (wOf (aY ps) r=0)) (srt ((aY ps).map (·.1))) (fun r hr=>by
  have mem:r∈(aY ps).map (·.1):=(fC _).mem_iff.mp hr
  by_cases h0:wOf (aY ps) r=0
  ·simp_arith [c_hp,q_hp,pS mem,pN,h0,decide_true,Bool.false_eq_true,if_false]
  ·simp_arith [c_hp,q_hp,pS mem,pN,decide_eq_false h0,if_true]
   rfl)
 have fin:((srt ((aY ps).map (·.1))).filter fun r=> !decide (wOf (aY ps) r=0)).map (fun r=>ent (r,wOf (aY ps) r))=(cO ps).map ent:=by
  unfold cO nzOf hOf
  rw [List.filter_map,List.map_map]
  rfl
 rw [fin] at hc
 simp_arith [M_hp,b_hp,pl,e',hs,kl,hc]
end L2
set_option maxHeartbeats 4000000
namespace DhRev
open PySem PySem.Calls PyProof.Rows PySem.W
section
variable {prog:Program}{w:World}{A:Around}{E:Value->Shared->Prop}{s:Shared}{r:Addr}
end
end DhRev
namespace L2
open PySem PySem.Spec PyProof.Rows
variable {KF:PySem.W.Frag}{W W':Addr->Prop}
section
variable {X:Cx}{ms:List Nat}{k k1 k2 k3 rk:Kd}{e a b c:Expr}{m ma mb mc:EM}{pos:Pos}{te:TE}
end
end L2
set_option maxHeartbeats 4000000
namespace L2
open PySem PySem.Spec PyProof.Rows
variable {KF:PySem.W.Frag}{W W':Addr->Prop}
theorem aQ.length {H:Hp}: ∀{vs:List V}{ds:List Dv}{F:List Addr},aQ KF H vs ds F->vs.length=ds.length
 |_,_,_,.nil=>rfl
 |_,_,_,.cons _ r=>congrArg (· +1) (aQ.length r)
section
variable {X:Cx}{ms:List Nat}{k k' rk:Kd}{e a b:Expr}{m ma mb:EM}{pos pos':Pos}{es:List Expr}{ml:Dt->Option (List Dv)}
theorem Tree.ref {H:Hp}{v:V}{d:Dv}{F:List Addr} (t:Tree KF H v d F) (h:(∃ds,d= .lst ds) \/ ∃ds,d= .dic ds): ∃a,v= .ref a:=by
 cases t with
 |imm r=>
  rcases h with ⟨ds,rfl⟩|⟨ds,rfl⟩
  ·cases r with|lst s _ _=>exact s.elim
  ·cases r with|dic s _ _=>exact s.elim
 |lst _ _=>exact ⟨_,rfl⟩
 |dic _ _=>exact ⟨_,rfl⟩
 |dik _ _=>exact ⟨_,rfl⟩
 |ins _ _=>exact ⟨_,rfl⟩
noncomputable def pZ (i:Nat) (m:EM):SM:=fun δ=>(m δ).bind fun d=>match d with
 | .lst _=>some (.nx (δ.set i (some d)))
 | .dic _=>some (.nx (δ.set i (some d)))
 |_=>none
end
theorem aQ.get {H:Hp}: ∀{xs:List V}{ds:List Dv}{F:List Addr}{j:Nat}{d:Dv},aQ KF H xs ds F->ds[j]?=some d-> ∃v,xs[j]?=some v
 |_,_,_,_,_,.nil,h=>by simp at h
 |_,_,_,0,_,.cons t r,h=>⟨_,rfl⟩
 |_,_,_,j+1,_,.cons t r,h=>by
  obtain ⟨v,hv⟩:=aQ.get (j:=j) r (by simpa using h)
  exact ⟨v,by simpa using hv⟩
section
variable {X:Cx}{ms:List Nat}{k k2 rk:Kd}{ix:Expr}{m mi:EM}{pos:Pos}{i:Nat}{x:Str}{np apos cpos ipos:Pos}
noncomputable def jk (i:Nat) (j:Option Dv) (f:List Dv->Option (List Dv)):SM:=fun δ=>j.bind fun y=>(eVar i δ).bind fun z=>match z,y with
 | .lst ds,.int q=>(ixN ds.length q).bind fun j=>match ds[j]? with
  |some (.lst es)=>(f es).map fun es'=> .nx (δ.set i (some (.lst (ds.set j (.lst es')))))
  |_=>none
 |_,_=>none
noncomputable def zK (i:Nat) (mi:EM):SM:=fun δ=>jk i (mi δ) (fun _=>some []) δ
noncomputable def p0 (i:Nat) (mi m:EM):SM:=fun δ=>jk i (mi δ) (fun es=>(m δ).bind fun d=>if es.length<lim/\d.imm=true then some (es++[d]) else none) δ
end
end L2
set_option maxHeartbeats 4000000
namespace PySem
section
variable {prog:Program}{w:World}{K:Type} [DecidableEq K] {knd:HeapKind prog w K}{A:Around}{E:Value->Shared->Prop}{s:Shared}{d a:Addr}{k:K}{xs:List (K×Addr×Value)}
end
end PySem
namespace L2
open PySem PySem.Spec PyProof.Rows
variable {KF:PySem.W.Frag}{W W':Addr->Prop}
section
variable {X:Cx}{pins:List (Addr×Obj)}{σ:St}{H:Hp}{s:Shared}{a b:Addr}{v:V}{r:Value}{A:Around}{E:Value->Shared->Prop}
end
section
variable {X:Cx}{o e f:Expr}{td ty tz:TE}{apos cpos:Pos}
end
theorem aR.length {H:Hp}: ∀{vs:List (List Key×V)}{ds:List (List Key×Dv)}{F:List Addr},aR KF H vs ds F->vs.length=ds.length
 |_,_,_,.nil=>rfl
 |_,_,_,.cons _ r=>congrArg (· +1) (aR.length r)
section
variable {X:Cx}{ms:List Nat}{k1 k2 rk:Kd}{ke e:Expr}{mk mv:EM}{pos:Pos}{i:Nat}{x:Str}{np apos1 cpos1 lpos apos cpos:Pos}
end
end L2
set_option maxHeartbeats 4000000
namespace L2
open PySem PySem.Spec PyProof.Rows
noncomputable def unpB (o:Option Dv) (g:Dv->Dt->Option Dt) (δ:Dt):Option Fl:=match o with
 |some d=>nxB (g d δ)
 |none=>none
where nxB:Option Dt->Option Fl
 |some δ=>some (.nx δ)
 |none=>none
theorem zL {m:EM}{g:Dv->Dt->Option Dt}{δ:Dt}:sUnp m g δ=unpB (m δ) g δ:=by
 unfold sUnp unpB
 cases m δ with
 |none=>rfl
 |some d=>
  show (g d δ).map Fl.nx=unpB.nxB (g d δ)
  cases g d δ<;>rfl
theorem zM {d:Dv}{g:Dv->Dt->Option Dt}{δ:Dt}:unpB (some d) g δ=unpB.nxB (g d δ):=rfl
theorem zN {δ:Dt}:unpB.nxB (some δ)=some (.nx δ):=rfl
noncomputable def jm (i:Nat) (o:Option Dv) (δ:Dt):Option Fl:=match o with
 |some (.lst ds)=>some (.nx (δ.set i (some (.lst ds))))
 |some (.dic ds)=>some (.nx (δ.set i (some (.dic ds))))
 |_=>none
theorem zO {i:Nat}{m:EM}{δ:Dt}:pZ i m δ=jm i (m δ) δ:=by
 unfold pZ jm
 cases m δ with
 |none=>rfl
 |some d=>cases d<;>rfl
theorem zP {i:Nat}{ds:List Dv}{δ:Dt}:jm i (some (.lst ds)) δ=some (.nx (δ.set i (some (.lst ds)))):=rfl
theorem zQ {i:Nat}{ds:List (List Key×Dv)}{δ:Dt}:jm i (some (.dic ds)) δ=some (.nx (δ.set i (some (.dic ds)))):=rfl
noncomputable def subB (i:Nat) (o z:Option Dv) (f:List Dv->Option (List Dv)) (δ:Dt):Option Fl:=match o,z with
 |some (.int q),some (.lst ds)=>(ixN ds.length q).bind fun j=>match ds[j]? with
  |some (.lst es)=>(f es).map fun es'=> .nx (δ.set i (some (.lst (ds.set j (.lst es')))))
  |_=>none
 |_,_=>none
theorem p6 {i:Nat}{o:Option Dv}{f:List Dv->Option (List Dv)}{δ:Dt}:jk i o f δ=subB i o (eVar i δ) f δ:=by
 unfold jk subB
 cases o with
 |none=>rfl
 |some y=>
  show (eVar i δ).bind _=_
  cases eVar i δ with
  |none=>cases y<;>rfl
  |some z=>cases z<;>cases y<;>rfl
theorem zR {i:Nat}{mi:EM}{δ:Dt}:zK i mi δ=subB i (mi δ) (eVar i δ) (fun _=>some []) δ:=p6
noncomputable def appE (o:Option Dv) (es:List Dv):Option (List Dv):=match o with
 |some d=>if es.length<lim/\d.imm=true then some (es++[d]) else none
 |none=>none
theorem zS {i:Nat}{mi m:EM}{δ:Dt}:p0 i mi m δ=subB i (mi δ) (eVar i δ) (appE (m δ)) δ:=by
 unfold p0
 rw [p6]
 congr 1
 funext es
 cases m δ<;>rfl
theorem zT {i:Nat}{es:List Dv}{r:List Dv}{f:List Dv->Option (List Dv)}{δ:Dt}:subB i (some (.int 0)) (some (.lst (.lst es::r))) f δ=(f es).map fun es'=> .nx (δ.set i (some (.lst (.lst es'::r)))):=by
 unfold subB
 have:ixN ((.lst es::r:List Dv).length) 0=some 0:=by
  unfold ixN
  rw [if_pos (by decide),if_pos (by simp only [List.length_cons];lia)]
  rfl
 dsimp only
 rw [this]
 rfl
theorem zU {i:Nat}{a:Dv}{es:List Dv}{r:List Dv}{f:List Dv->Option (List Dv)}{δ:Dt}:subB i (some (.int 1)) (some (.lst (a:: .lst es::r))) f δ=(f es).map fun es'=> .nx (δ.set i (some (.lst (a:: .lst es'::r)))):=by
 unfold subB
 have:ixN ((a:: .lst es::r).length) 1=some 1:=by
  unfold ixN
  rw [if_pos (by decide),if_pos (by simp only [List.length_cons];lia)]
  rfl
 dsimp only
 rw [this]
 rfl
theorem zV {d:Dv}{es:List Dv} (h:es.length<lim) (h':d.imm=true):appE (some d) es=some (es++[d]):=by show (if _ then _ else _)=_;rw [if_pos ⟨h,h'⟩]
theorem zW {f:Dv->Dv->Option Dv}{a b:EM}{δ:Dt}:tOf2 f a b δ=tOf (eOp f a b) δ:=rfl
end L2
set_option maxHeartbeats 4000000
local macro_rules
 | `(tactic| simp_arith $cfg:optConfig only [$xs,*]) => `(tactic| simp_arith $cfg:optConfig [$xs,*,L2.zL,L2.zM,L2.zN,L2.zO,L2.zP,L2.zQ,L2.zR,L2.zS,L2.zT,L2.zU,L2.zV,L2.zW])
namespace L2
open PySem PySem.Spec PyProof.Rows
noncomputable def cutR (pl r:List Int):List Int:=pl.map fun a=>r.getD a.toNat 0
noncomputable def pos (h:Hl):List (List Int):=(h.filter fun p=>decide (0<p.2)).map (·.1)
end L2
set_option maxHeartbeats 4000000
namespace L2
open PySem PySem.Spec PyProof.Rows
variable {KF:PySem.W.Frag}{W W':Addr->Prop}
section
variable {X:Cx}{pins:List (Addr×Obj)}{σ:St}{H:Hp}{s:Shared}{a:Addr}{ob:Obj}{kvs:List (List Key×V)}
end
section
variable {X:Cx}{tg:Expr}
end
section
variable {H:Hp}{a:Addr}{ob:Obj}{xs:List (List Key×V)}{S:Addr->Prop}
end
section
variable {X:Cx}{scope:Scope}{tg iter elt:Expr}{ifs:List Expr}{pos:Pos}{ms:List Nat}{k:Kd}{m:EM}{g:Dv->Dt->Option Dt}{c:Dt->Option Bool}{el:EM}{z:List Nat}
end
end L2
set_option maxHeartbeats 4000000
namespace L2
open PySem PySem.Spec PyProof.Rows
variable {KF:PySem.W.Frag}{W W':Addr->Prop}
section
variable {X:Cx}{ms:List Nat}{rk k k2 k3:Kd}{st:Stmt}{rest a b:List Stmt}{ma mb:SM}{pos:Pos}{e:Expr}{m:EM}{pos':Pos}
variable {i:Nat}{x:Str}{np ipos:Pos}{ix jx v:Expr}{mi mj mv:EM}
end
section
variable {P:Program}{w:World}{K:PySem.W.Frag}{mg:Str->Option Value}{base:Heap}
end
section
variable {X:Cx}{ms:List Nat}{rk:Kd}{i:Nat}{x y:Str}{ps:List Str}{np p pos spos:Pos}{es:List Expr}{ml:Dt->Option (List Dv)}{m:List Dv->Option Dv}
theorem Gots.reps_any {H H1:Hp}: ∀{vs:List V}{ds:List Dv},Gots KF .any W H H1 vs ds->RepsF KF (fun a=> ¬W a) H1 vs ds
 |[],[],_=> .nil
 |v::vs,d::ds,⟨g,r⟩=> .cons g (Gots.reps_any r)
 |[],_::_,g=>g.elim
 |_::_,[],g=>g.elim
end
end L2
set_option maxHeartbeats 4000000
namespace L2
open PySem PySem.Spec PyProof.Rows
section
variable {prog:Program}{w:World}{A:Around}{E:Value->Shared->Prop}{s:Shared}
end
section
variable {X:Cx}{ms:List Nat}{k rk:Kd}{e st:Expr}{m:EM}{mst:Dt->Option (Option Int)}{pos p2:Pos}
end
end L2
set_option maxHeartbeats 4000000
namespace HT
open PySem PySem.Spec PyProof.Rows
section
variable {prog:Program}{w:World}{A:Around}{E:Value->Shared->Prop}{s:Shared}
end
end HT
namespace L2
open PySem PySem.Spec PyProof.Rows
section
variable {X:Cx}{ms:List Nat}{k k1 k2:Kd}{e a b:Expr}{m ma mb:EM}{pos:Pos}
end
end L2
set_option maxHeartbeats 4000000
namespace L2
open PySem PySem.Spec PyProof.Rows
section
variable {X:Cx}{ms:List Nat}{k1 k2 k3:Kd}{a b c:Expr}{ma mb mc:EM}{pos:Pos}
end
end L2
set_option maxHeartbeats 4000000
namespace L2
open PySem PySem.Spec PyProof.Rows
section
variable {X:Cx}{ms:List Nat}{k k1 k2:Kd}{a b:Expr}{ma mb:EM}{pos:Pos}
end
end L2
set_option maxHeartbeats 4000000
namespace L2
open PySem PySem.Spec PyProof.Rows
variable {KF:PySem.W.Frag}{W W':Addr->Prop}
section
variable {X:Cx}{k:Kd}{st:Stmt}{rest a b:List Stmt}{ma mb:SM}{pos pos':Pos}{e:Expr}{m:EM}
end
noncomputable def NSf (H:Hp) (a:Addr):Prop:= ∀o,H a=some o-> ¬Sft o
theorem NSf.none {H:Hp}{a:Addr} (h:H a=none):NSf H a:=fun o e=>by rw [h] at e;cases e
noncomputable def spA (KF:PySem.W.Frag) (m:List Dv->Option Dv):Sp:=fun vs H Q _=> ∃(S:Addr->Prop) (ds:List Dv) (d:Dv),RepsF KF S H vs ds/\m ds=some d/\ ∀v H',Same H H'->RepF KF (fun a=>S a \/NSf H a) H' v d->Q v H'
section
variable {P:Program}{w:World}{K:PySem.W.Frag}{mg:Str->Option Value}{base:Heap}
theorem zX {x qual:Str}{st:Stmt}{f:Addr}{fd:FuncData}{N ps:List Str}{k:Nat}{body:SM} (ms:List Nat) (F:Fun K x qual st f fd) (S:be N ps (au st)) (hms:ms.all (fun i=>decide (ps.length<=if 2000<=i then i-2000 else if 1000<=i then i-1000 else i))=true) (hps:decide (ps.length<=N.length)=true)
  (hb: ∀(cdv:Value) (A:Around) (outer:List Env) (s:Shared) (H:Hp) (E:XK),Room k (A.deeper (envOfC qual (au st) s.heap.objs.size f cdv))->PDss (cxOf CX0 P w K mg base N qual (au st) f cdv A outer s H E).nox ms .any (aV st) body):
  FnOk P w K mg base CX0 (k+1) f fd ps (spA K (aP N.length ps.length body)):=by
 have len: ∀{ds:List Dv}{d:Dv},aP N.length ps.length body ds=some d->ds.length=ps.length:=fun {ds d} h=>by
  unfold aP at h
  split at h
  ·assumption
  ·cases h
 refine F.ok (k:=k) S (fun vs H Q E h=> ?_) fun cdv A outer s H vs Q E hr h=> ?_
 ·obtain ⟨S,ds,d,r,hm,_⟩:=h
  rw [r.length]
  exact len hm
 ·obtain ⟨S,ds,d,r,hm,hq⟩:=h
  obtain ⟨t,p,q⟩:=hb cdv A outer s H E hr
  refine ⟨t,p,?_⟩
  have hl:=len hm
  have hps':=of_decide_eq_true hps
  have R:Rel K ms (fun a=>(∃o,H a=some o/\Sft o)/\ ¬S a) H (aX N.length ds) (bG N vs) H:=oM (r.mono fun _ _ s z=>z.2 s) (fun _ w=>w.1) (fun i hi=>by rw [hl];exact kI hms hi) (by lia)
  unfold aP at hm
  rw [if_pos hl] at hm
  obtain ⟨fl,hf,e⟩:=Option.bind_eq_some_iff.mp hm
  cases fl with
  |rt d' δ'=>
   cases e
   refine q _ _ H H _ _ R hf fun v W' σ' H' Φ st R' _ g _=>hq v H' R'.keep ?_
   refine RepF.mono (fun a _ n=> ?_) g
   have n: ¬WE (fun a=>(∃o,H a=some o/\Sft o)/\ ¬S a) H a:=fun z=>n ⟨(st.2.2.1 a z.1).elim id fun q=>absurd q z.2,z.2⟩
   by_cases hS:S a
   ·exact .inl hS
   ·exact .inr fun o ho so=>n ⟨⟨⟨o,ho,so⟩,hS⟩,fun z=>by rw [z] at ho;cases ho⟩
  |_=>cases e
end
section
variable {X:Cx}{ms:List Nat}{a:Expr}{es:List Expr}{ml:Dt->Option (List Dv)}{m:List Dv->Option Dv}{x:Str}{ps:List Str}{p pos:Pos}
theorem zY {k:Nat} (D:Def X.prog X.w X.K X.mg X.base k x ps (spA X.K m)) (hr:Room k X.A) (ha:PDa X ms .any (a::es) ml) (hg:Gl X x:=by rfl)
  (hdb:(x==("__debug__":Str))=false:=by decide) (he:starEach (a::es) X.env=(false,eval a X.env)::starEach es X.env:=by rfl) (hpl:(backTo pos (starEach es X.env)).any (·.1)=false:=by rfl):
  PD X ms .any (.Call (.Name x p) (a::es) [] pos) (ah m ml):=by
 obtain ⟨ta,pa,qa⟩:=ha
 refine ⟨_,n4 D hr pa hg hdb he hpl,fun {W} δ σ H0 H Q d R hm hq=> ?_⟩
 obtain ⟨xs,hx,e⟩:=Option.bind_eq_some_iff.mp hm
 refine qa δ σ H0 H _ xs R hx fun vs H1 s1 g1=> ?_
 refine ⟨fun a=> ¬W a,xs,d,g1.reps_any,e,fun v H' s g=>hq v H' (s1.tr s) ?_⟩
 show RepF X.K (fun a=> ¬W a) H' v d
 refine g.mono fun a _ q=> ?_
 rcases q with q|q
 ·exact q
 ·intro wa
  obtain ⟨o,ho,so⟩:=R.soft a wa
  exact q o (s1 a o ho) so
end
end L2
set_option maxHeartbeats 4000000
namespace L2
open PySem PySem.Spec PyProof.Rows
end L2
set_option maxHeartbeats 4000000
namespace L2
open PySem PySem.Spec PyProof.Rows
end L2
set_option maxHeartbeats 4000000
namespace L2
open PySem PySem.Spec PyProof.Rows
noncomputable def rng (lo:Int) (n:Nat):List Int:=(List.range n).map fun (i:Nat)=>lo+(i:Int)
end L2
set_option maxHeartbeats 4000000
namespace L2
open PySem PySem.Spec PyProof.Rows
variable {KF:PySem.W.Frag}{W W':Addr->Prop}
section
variable {X:Cx}{ms:List Nat}{k k1 k2 k3 rk:Kd}{e a b c:Expr}{m ma mb mc:EM}{pos:Pos}
end
end L2
set_option maxHeartbeats 4000000
namespace DhDct
open PySem PySem.Calls PyProof.Rows PySem.W
section
variable {prog:Program}{w:World}{A:Around}{E:Value->Shared->Prop}{s:Shared}
section
variable {K:Type} [DecidableEq K] {knd:HeapKind prog w K}
variable {I:Addr}{fp wr:List Addr}{n:Nat}{P:Nat->Value->Prop}{St:Nat->Shared->Prop}{R:Result->Shared->Prop}
end
end
end DhDct
namespace L2
open PySem PySem.Spec PyProof.Rows
variable {KF:PySem.W.Frag}{W W':Addr->Prop}
section
variable {X:Cx}
end
end L2
set_option maxHeartbeats 4000000
namespace DhUnp
open PySem PySem.Calls PyProof.Rows PySem.W
section
variable {prog:Program}{w:World}{A:Around}{E:Value->Shared->Prop}{s:Shared}
end
end DhUnp
namespace L2
open PySem PySem.Spec PyProof.Rows
variable {KF:PySem.W.Frag}{W W':Addr->Prop}
section
variable {X:Cx}{pos:Pos}{ms:List Nat}
end
end L2
set_option maxHeartbeats 4000000
namespace DhExt
open PySem PySem.Calls PyProof.Rows PySem.W Sem
open Builtin
end DhExt
namespace L2
open PySem PySem.Spec PyProof.Rows
variable {KF:PySem.W.Frag}{W W':Addr->Prop}
noncomputable def ae:Dv->Dv->Option Dv
 | .str a,.str b=>if a.length+b.length<=100000 then some (.str (a++b)) else none
 |_,_=>none
theorem am:OpD KF (fun x y H Q=> ∃i j,x= .str i/\y= .str j/\i.length+j.length<=sizeLine/\Q (.str (i++j)) H) ae:=by
 intro H x y dx dy d Q rx ry h hq
 unfold ae at h
 split at h
 rotate_left
 ·cases h
 cases rx
 cases ry
 split at h
 ·next c=>cases h;exact ⟨_,_,rfl,rfl,Nat.le_trans c (by decide),hq _ (.str _)⟩
 ·cases h
noncomputable def dIxS:Dv->Dv->Option Dv
 | .str z,.int i=>if z.length<=100000 then (atI z.cps.toList i).map fun c=> .str ⟨#[c]⟩ else none
 |_,_=>none
section
variable {X:Cx}{ms:List Nat}{k k1 k2 k3 rk:Kd}{e a b c:Expr}{m ma mb mc:EM}{pos:Pos}
theorem zZ (ha:PD X ms k1 a ma) (hb:PD X ms k2 b mb) (hs:kc b):PD X ms .imm (.Subscript a b pos) (eOp dIxS ma mb):=by
 obtain ⟨ta,pa,qa⟩:=ha
 obtain ⟨tb,pb,qb⟩:=hb
 refine ⟨_,nv nw pa pb hs,fun δ σ H0 H Q d R hm hq=> ?_⟩
 obtain ⟨x,hx,e⟩:=Option.bind_eq_some_iff.mp hm
 obtain ⟨y,hy,e⟩:=Option.bind_eq_some_iff.mp e
 refine qa δ σ H0 H _ x R hx fun v H1 s1 g1=> ?_
 refine qb δ σ H0 H1 _ y (R.same s1) hy fun u H2 s2 g2=> ?_
 have g1:=(g1.same s2).bor
 have g2:=g2.bor
 unfold dIxS at e
 split at e
 rotate_left
 ·cases e
 split at e
 ·next hl=>
  obtain ⟨ch,hc,rfl⟩:=Option.map_eq_some_iff.mp e
  cases g1
  cases g2
  exact ⟨_,_,ch,rfl,rfl,Nat.le_trans hl (by decide),hc,hq _ H2 (s1.tr s2) (RepF.str _)⟩
 ·cases e
noncomputable def CC (i:Nat) (m:EM):SM:=fun δ=>(m δ).bind fun d=>(eVar i δ).bind fun x=>match x,d with
 | .lst ds,.tup es=>if ds.length+es.length<=lim/\imms es=true then some (.nx (δ.set i (some (.lst (ds++es))))) else none
 |_,_=>none
noncomputable def d6:Dv->Dv->Option Dv
 | .lst a,.lst b=>if a.length+b.length<=lim then some (.lst (a++b)) else none
 |_,_=>none
theorem jo (ha:PD X ms .any a ma) (hb:PD X ms .any b mb):PD X ms .any (.BinOp a .Add b pos) (eOp d6 ma mb):=by
 obtain ⟨ta,pa,qa⟩:=ha
 obtain ⟨tb,pb,qb⟩:=hb
 refine ⟨_,j8 oF pa pb,fun {W} δ σ H0 H Q d R hm hq=> ?_⟩
 obtain ⟨x,hx,e⟩:=Option.bind_eq_some_iff.mp hm
 obtain ⟨y,hy,e⟩:=Option.bind_eq_some_iff.mp e
 refine qa δ σ H0 H _ x R hx fun v H1 s1 g1=> ?_
 refine qb δ σ H0 H1 _ y (R.same s1) hy fun u H2 s2 g2=> ?_
 have g1:RepF X.K (fun a=> ¬W a) H2 v x:=g1.same s2
 have g2:RepF X.K (fun a=> ¬W a) H2 u y:=g2
 unfold d6 at e
 split at e
 rotate_left
 ·cases e
 split at e
 ·next hl=>
  cases e
  cases g1 with
  | @lst p1 vs _ sp1 e1 r1=>
   cases g2 with
   | @lst p2 us _ sp2 e2 r2=>
    refine ⟨p1,p2,vs,us,rfl,rfl,e1,e2,by rw [r1.length,r2.length];exact Nat.le_of_lt (dw hl),fun p hp=> ?_⟩
    have s:=Same.new (o:= .lst (vs++us)) hp
    refine hq _ _ (s1.tr (s2.tr s)) (RepF.lst ?_ az ((r1.append r2).same s))
    intro wa
    obtain ⟨o,ho,_⟩:=(R.same (s1.tr s2)).soft p wa
    rw [hp] at ho
    cases ho
 ·cases e
end
end L2
set_option maxHeartbeats 4000000
namespace L2
open PySem PySem.Spec PyProof.Rows
variable {KF:PySem.W.Frag}{W W':Addr->Prop}
section
variable {ms ms':List Nat}{ρ:List (Option Nat)}{k:Kd}{wi:TI}{it:Dt->Option (List Dv)}{g:Dv->Dt->Option Dt}{c:Dt->Option Bool}{el:EM}{z:List Nat}
variable {X:Cx}{scope:Scope}{tg iter elt:Expr}{ifs:List Expr}{pos:Pos}
end
section
variable {X:Cx}{ms:List Nat}{k:Kd}{e:Expr}{m:EM}{pos:Pos}
end
end L2
set_option maxHeartbeats 4000000
namespace L2
open PySem PySem.Spec PyProof.Rows
variable {KF:PySem.W.Frag}{W W':Addr->Prop}
section
variable {X:Cx}{params:Arguments}{body:Expr}{scope:Scope}{pos:Pos}{T c:Addr}{q:Str}
end
section
variable {CX:CXT}{P:Program}{w:World}{K:PySem.W.Frag}{mg:Str->Option Value}{base:Heap}{k:Nat}{f:Addr}{L:LamD}{N ps:List Str}{A:Around}{outer:List Env}{s:Shared}{H:Hp}{us:List Value}{vs:List V}{Q:VK}{E:XK}
end
section
variable {X:Cx}{ms:List Nat}{rk k1:Kd}{a:Expr}{es:List Expr}{ml:Dt->Option (List Dv)}{m:List Dv->Option Dv}{x:Str}{p pos:Pos}{i:Nat}{L:LamD}
end
end L2
set_option maxHeartbeats 4000000
namespace L2
open PySem PySem.Spec PyProof.Rows
variable {KF:PySem.W.Frag}{W W':Addr->Prop}
section
variable {P:Program}{w:World}{K:PySem.W.Frag}{mg:Str->Option Value}{base:Heap}{T:Addr}{q:Str}
end
section
variable {X:Cx}{ms:List Nat}{rk k1:Kd}{a:Expr}{es:List Expr}{ml:Dt->Option (List Dv)}{m:List Dv->Option Dv}{x:Str}{ps:List Str}{p pos:Pos}{T:Addr}{q:Str}
end
end L2
set_option maxHeartbeats 4000000
namespace L2
open PySem PySem.Spec PyProof.Rows
variable {KF:PySem.W.Frag}{W W':Addr->Prop}
section
variable {X:Cx}{ms:List Nat}{rk k:Kd}{e:Expr}{m:EM}{pos pos':Pos}{st:Stmt}{rest a b:List Stmt}{ma mb:SM}
section
variable {ms':List Nat}{ρ:List (Option Nat)}{it:Dt->Option (List Dv)}{g:Dv->Dt->Option Dt}{c:Dt->Option Bool}{el:EM}{z:List Nat}{scope:Scope}{tg iter elt:Expr}{ifs:List Expr}{spos cpos:Pos}
end
end
end L2
set_option maxHeartbeats 4000000
namespace L2
open PySem PySem.Spec PyProof.Rows
variable {KF:PySem.W.Frag}{W W':Addr->Prop}
section
variable {X:Cx}
end
section
variable {H:Hp}
end
end L2
set_option maxHeartbeats 4000000
namespace L2
open PySem PySem.Spec PyProof.Rows
variable {KF:PySem.W.Frag}{W W':Addr->Prop}
section
variable {H:Hp}{c:Addr}{ol:Obj}{S:Addr->Prop}
end
section
variable {X:Cx}{params:Arguments}{body:Expr}{scope:Scope}{pos:Pos}{T c:Addr}{q:Str}{clos:List (Str×Addr)}
end
section
variable {P:Program}{w:World}{K:PySem.W.Frag}{mg:Str->Option Value}{base:Heap}{k:Nat}{f:Addr}{L:LamD}{p x:Str}{A:Around}{outer:List Env}{s:Shared}{H:Hp}{u:Value}{v:V}{Q:VK}{E:XK}{iv:Int}
end
section
variable {X:Cx}{ms:List Nat}{k1:Kd}{a:Expr}{es:List Expr}{ml:Dt->Option (List Dv)}{m:Int->List Dv->Option Dv}{y x:Str}{p pos:Pos}{i:Nat}{L:LamD}
end
end L2
set_option maxHeartbeats 4000000
namespace L2
open PySem PySem.Spec PyProof.Rows
variable {KF:PySem.W.Frag}{W W':Addr->Prop}
section
variable {X:Cx}
end
end L2
set_option maxHeartbeats 4000000
namespace L2
open PySem PySem.Spec PyProof.Rows
variable {KF:PySem.W.Frag}{W W':Addr->Prop}
noncomputable abbrev Tbs:=List (Addr×Str)
section
variable {P:Program}{w:World}{K:PySem.W.Frag}{mg:Str->Option Value}{base:Heap}{ts:Tbs}
end
section
variable {X:Cx}{ms:List Nat}{rk k1:Kd}{a:Expr}{es:List Expr}{ml:Dt->Option (List Dv)}{m:List Dv->Option Dv}{x:Str}{ps:List Str}{p pos:Pos}{ts:Tbs}
end
end L2
set_option maxHeartbeats 4000000
namespace L2
open PySem PySem.Spec PyProof.Rows
variable {KF:PySem.W.Frag}{W W':Addr->Prop}
section
variable {X:Cx}
end
section
variable {X:Cx}{ms:List Nat}{rk k k1 k2:Kd}{e b:Expr}{m mb:EM}{pos pos':Pos}
end
section
variable {prog:Program}{w:World}{A:Around}{E:Value->Shared->Prop}{s:Shared}
end
section
variable {X:Cx}{ms:List Nat}{k1 k2:Kd}{o e:Expr}{mo me:EM}{apos cpos:Pos}
end
end L2
set_option maxHeartbeats 4000000
namespace DhSort
open PySem PySem.Calls PyProof.Rows PySem.W L2
noncomputable def lB (l:Addr) (len:Nat) (h:Heap) (v:Value) (ns:List Int):Prop:= ∃(x y:Addr) (ob:Obj) (us:Array Value) (n:Nat) (w:Int) (t:Tok) (r:List Int),v= .ref x/\h.get? x=some ob/\ob.cls= .type "tuple"/\ob.data= .seq us n/\us.toList=[.ref y,.int w t]/\RowAt h (.ref y) r/\y≠l/\r.length=len/\ns=r++[w]
theorem lB.keep {l:Addr}{len:Nat}{h h':Heap}{v:Value}{ns:List Int} (e:lB l len h v ns) (n1: ∀x,v= .ref x->x≠l) (k: ∀x ob,x≠l->h.get? x=some ob->h'.get? x=some ob):lB l len h' v ns:=by
 obtain ⟨x,y,ob,us,n,w,t,r,e1,g,c,d,u,rr,ny,rl,en⟩:=e
 exact ⟨x,y,ob,us,n,w,t,r,e1,k x ob (n1 x e1) g,c,d,u,rr.keep fun z oz ez gz=>k z oz (by cases ez;exact ny) gz,ny,rl,en⟩
section
variable {prog:Program}{w:World}{A:Around}{E:Value->Shared->Prop}{s:Shared}
end
section
variable {prog:Program}{w:World}{A:Around}{E:Value->Shared->Prop}{t:Shared}
end
end DhSort
namespace L2
open PySem PySem.Spec PyProof.Rows
variable {KF:PySem.W.Frag}{W W':Addr->Prop}
section
variable {X:Cx}
end
end L2
set_option maxHeartbeats 4000000
namespace L2
open PySem PySem.Spec PyProof.Rows
variable {KF:PySem.W.Frag}{W W':Addr->Prop}
section
variable {X:Cx}
end
end L2
set_option maxHeartbeats 4000000
namespace L2
open PySem PySem.Spec PyProof.Rows
section
variable {X:Cx}{ms:List Nat}{k1 k2:Kd}{o e:Expr}{mo me:EM}{apos cpos:Pos}{td ty:TE}
end
end L2
set_option maxHeartbeats 4000000
namespace L2
open PySem PySem.Spec PyProof.Rows
variable {KF:PySem.W.Frag}
section
variable {X:Cx}
noncomputable def p8:V->List V->Hp->VK->Prop:=fun x xs H Q=> ∃a b,x= .str a/\xs=[.str b]/\Q (.bl (Txt.startswith a b)) H
theorem p9:MtM X "str.startswith" p8:=by
 intro pins s σ H x vs v us Q I rx rv h
 obtain ⟨a,b,rfl,rfl,q⟩:=h
 obtain ⟨t,rfl⟩:=rx
 obtain ⟨u,rfl,t',rfl⟩:=rv.one
 exact call_gives F.slot_str_startswith (typeIs_str s a t) F.entry_str_startswith (F.args_str_startswith_2 _ _) (gives_str_startswith a b t t') ⟨.bl _,H,I,rfl,q⟩
noncomputable def qd:V->List V->Hp->VK->Prop:=fun x xs H Q=> ∃a b,x= .str a/\xs=[.str b]/\(b.length==0)=false/\a.length+2<=sizeLine/\ ∀p,H p=none->Q (.ref p) (upd H p (.lst ((Txt.split a b).map V.str)))
theorem qf: ∀l:List (Str×Tok),Vals ((l.map (·.1)).map V.str) (strValues l)
 |[]=> .nil
 |p::l=> .cons ⟨p.2,rfl⟩ (qf l)
theorem qj {a b:Str} (hz:a.length+2<=sizeLine):(Builtin.Str.partsBetween a (Builtin.Str.occurrences a b 0 a.length (a.length+1)) b.length).length<=sizeLine:=by
 have e1:=StrLaws.occ_length_le a b 0 a.length (a.length+1)
 rw [length_partsBetween]
 lia
theorem Aa {a b:Str} (hz:a.length+2<=sizeLine):(Txt.split a b).length<=sizeLine:=by
 unfold Txt.split
 split
 ·show 1<=sizeLine;decide
 ·split
  ·show 1<=sizeLine;decide
  ·exact qj hz
theorem dE:MtM X "str.split" qd:=by
 intro pins s σ H x vs v us Q I rx rv h
 obtain ⟨a,b,rfl,rfl,hy,hz,q⟩:=h
 obtain ⟨t,rfl⟩:=rx
 obtain ⟨u,rfl,t',rfl⟩:=rv.one
 have fin: ∀(l:List (Str×Tok)) (tk:Nat),l.map (·.1)=Txt.split a b->EP X pins σ Q (.ref s.heap.objs.size) {s with heap:=s.heap.push {cls:= .type "list",data:= .seq (strValues l).toArray},toks:=tk}:=fun l tk e=>
  ⟨.ref s.heap.objs.size,_,I.laid (t':=tk) (o:= .lst ((Txt.split a b).map V.str)) (fun b ob q=>Heap.get?_push_of_some _ q) (Nat.le_refl _) ⟨by rw [List.length_map];exact Aa hz,strValues l,0,e▸qf l,Heap.get?_push_size _ rfl⟩,rfl,q _ (I.hok.fresh (Nat.le_refl _))⟩
 cases h1:(decide (a.length<b.length)||decide (Builtin.Str.strKind a<Builtin.Str.strKind b))
 ·cases hf:(Builtin.Str.occurrences a b 0 a.length (a.length+1)).isEmpty
  ·refine call_meets F.slot_str_split (typeIs_str _ _ _) F.entry_str_split (F.args_str_split_2 _ _) (meets_str_split_sep a b t t' h1 hy hf (by lia) (qj hz)) ?_
   show EP X pins σ Q (.ref s.heap.objs.size) {s with toks:=_,heap:=s.heap.push {cls:= .type "list",data:= .seq (strsFrom s.toks (Builtin.Str.partsBetween a (Builtin.Str.occurrences a b 0 a.length (a.length+1)) b.length)).toArray}}
   rw [strsFrom_eq]
   exact fin (numbered s.toks _) _ ((numbered_texts _ _).trans ((if_neg (ne_true_of_eq_false h1)).trans (if_neg (ne_true_of_eq_false hf))).symm)
  ·exact call_meets F.slot_str_split (typeIs_str _ _ _) F.entry_str_split (F.args_str_split_2 _ _) (meets_str_split_not_found a b t t' h1 hy hf) (fin [(a,t)] s.toks ((if_neg (ne_true_of_eq_false h1)).trans (if_pos hf)).symm)
 ·exact call_meets F.slot_str_split (typeIs_str _ _ _) F.entry_str_split (F.args_str_split_2 _ _) (meets_str_split_cannot_occur a b t t' h1) (fin [(a,t)] s.toks (if_pos h1).symm)
noncomputable def qk (K:PySem.W.Frag):V->List V->Hp->VK->Prop:=fun x xs H Q=> ∃a p ys,x= .str a/\xs=[.ref p]/\SqL K H p (ys.map V.str)/\(ys.map (·.length)).sum+ys.length*a.length<=16777216/\Q (.str (Txt.join a ys)) H
theorem qm: ∀{ys:List Str}{us:List Value},Vals (ys.map V.str) us->StrsAre us ys
 |[],_,.nil=> .nil
 |_::_,_,.cons ⟨_,rfl⟩ r=> .cons _ _ (qm r)
theorem jp:MtM X "str.join" (qk X.K):=by
 intro pins s σ H x vs v us Q I rx rv h
 obtain ⟨a,p,ys,rfl,rfl,hl,hz,q⟩:=h
 obtain ⟨t,rfl⟩:=rx
 obtain ⟨u,rfl,ru⟩:=rv.one
 cases ru
 obtain ⟨its,r,pl,_⟩:=I.list hl
 exact join_list pl.isList (by simpa using qm r) hz fun t' k=>⟨.str _,H,I.tok k,⟨_,rfl⟩,q⟩
theorem Ab:OpR X (compareOp .In) (fun x y H Q=> ∃a b,x= .str a/\y= .str b/\Q (.bl (!(Builtin.Str.occurrences b a 0 b.length 1).isEmpty)) H):=by
 intro pins s σ H x y v u Q I rx ry h
 obtain ⟨a,b,rfl,rfl,q⟩:=h
 obtain ⟨t,rfl⟩:=rx
 obtain ⟨t',rfl⟩:=ry
 exact P.in_str ⟨.bl _,H,I,rfl,q⟩
noncomputable def dInS:Dv->Dv->Option Dv
 | .str a,.str b=>some (.bl (!(Builtin.Str.occurrences b a 0 b.length 1).isEmpty))
 |_,_=>none
theorem Ac:OpD KF (fun x y H Q=> ∃a b,x= .str a/\y= .str b/\Q (.bl (!(Builtin.Str.occurrences b a 0 b.length 1).isEmpty)) H) dInS:=by
 intro H x y dx dy d Q rx ry h hq
 unfold dInS at h
 split at h
 rotate_left
 ·cases h
 cases rx
 cases ry
 cases h
 exact ⟨_,_,rfl,rfl,hq _ (.bl _)⟩
theorem Ad:bp X (.type "int") (fun xs H Q=> ∃x n,xs=[.str x]/\PySem.intText? x=some n/\x.length<=640/\Q (.int n) H):=by
 intro pins s σ H xs us Q I r h
 obtain ⟨x,n,rfl,hn,hl,q⟩:=h
 obtain ⟨u,rfl,t,rfl⟩:=du r
 exact PySem.W.KIN.call_text hn hl ⟨.int n,H,I.tok _,⟨_,rfl⟩,q⟩
noncomputable def jq:List Dv->Option Dv
 |[.str x]=>if x.length<=640 then (PySem.intText? x).map .int else none
 |_=>none
theorem Ae:cW KF (fun xs H Q=> ∃x n,xs=[.str x]/\PySem.intText? x=some n/\x.length<=640/\Q (.int n) H) .imm jq:=by
 intro W H vs ds d Q r e hq
 unfold jq at e
 split at e
 rotate_left
 ·cases e
 split at e
 rotate_left
 ·cases e
 next hl=>
  obtain ⟨n,hn,rfl⟩:=Option.map_eq_some_iff.mp e
  cases r with
  |cons h r=>
   cases h
   cases r
   exact ⟨_,n,rfl,hn,hl,hq _ H (fun _ _ z=>z) (.int n)⟩
theorem lC:bp X (.builtin "len") (fun xs H Q=> ∃x,xs=[.str x]/\x.length<=sizeLine/\Q (.int x.length) H):=by
 intro pins s σ H xs us Q I r h
 obtain ⟨x,rfl,hl,q⟩:=h
 obtain ⟨u,rfl,t,rfl⟩:=du r
 have h1:(sizeLine:Int)<2^63:=by decide
 exact P.len_str (by lia) ⟨.int x.length,H,I.tok _,⟨_,rfl⟩,q⟩
noncomputable def dg:List Dv->Option Dv
 |[.str x]=>if x.length<=lim then some (.int x.length) else none
 |_=>none
theorem lD:cW KF (fun xs H Q=> ∃x,xs=[.str x]/\x.length<=sizeLine/\Q (.int x.length) H) .imm dg:=by
 intro W H vs ds d Q r e hq
 unfold dg at e
 split at e
 rotate_left
 ·cases e
 split at e
 rotate_left
 ·cases e
 next hl=>
  cases e
  cases r with
  |cons h r=>
   cases h
   cases r
   exact ⟨_,rfl,Nat.le_trans hl (by decide),hq _ H (fun _ _ z=>z) (.int _)⟩
end
end L2
set_option maxHeartbeats 4000000
namespace L2
open PySem PySem.Spec PyProof.Rows
variable {KF:PySem.W.Frag}
section
variable {X:Cx}{ms:List Nat}{k k1 k2 rk:Kd}{o e:Expr}{mo me:EM}{apos cpos pos:Pos}{name:Str}{id:String}{r:V->List V->Hp->VK->Prop}{f:Dv->Dv->Option Dv}
noncomputable def MtS (KF:PySem.W.Frag) (r:V->List V->Hp->VK->Prop) (k:Kd) (f:Dv->Dv->Option Dv):Prop:=
 ∀{W:Addr->Prop} (H:Hp) (x:Str) (u:V) (dy d:Dv) (Q:VK),RepF KF (fun _=>True) H u dy->f (.str x) dy=some d->(∀v H',Same H H'->Got KF k W H H' v d->Q v H')->r (.str x) [u] H Q
theorem bM (slot:Slot "str" name id) (hty:typeOf (.builtin id)=pure (.type "method_descriptor")) (hm:MtM X id r) (hd:MtS X.K r k f) (hs: ∀x y d,f x y=some d-> ∃z,x= .str z) (ho:PD X ms k1 o mo) (he:PD X ms k2 e me)
  (hbase:attributeBase o name X.env (eval o X.env)=eval o X.env:=by rfl)
  (hfew:((backTo cpos (starEach [e] X.env)).all (fun x=> !x.1)&&(backToKw cpos (keywordEach [] X.env)).all (fun x=>x.1.isSome)
   &&decide (([e]:List Expr).length+([]:List Keyword).length+(if ([]:List Keyword).isEmpty then 0 else 1)<30))=true:=by rfl)
  (hline:(apos.endLine==cpos.line)=true:=by rfl) (hst:starEach [e] X.env=(false,eval e X.env)::starEach [] X.env:=by rfl) (hplain:(backTo cpos (starEach [] X.env)).any (·.1)=false:=by rfl):
  PD X ms k (.Call (.Attribute o name apos) [e] [] cpos) (eOp f mo me):=by
 obtain ⟨ta,pa,qa⟩:=ho
 obtain ⟨tb,pb,qb⟩:=he
 refine ⟨_,nB PySem.F.plainAttrs_str slot hty hm pa (aU pb ci hst) hbase hfew hline hst hplain,fun δ σ H0 H Q d R hm hq=> ?_⟩
 obtain ⟨x,hx,e⟩:=Option.bind_eq_some_iff.mp hm
 obtain ⟨y,hy,e⟩:=Option.bind_eq_some_iff.mp e
 obtain ⟨z,rfl⟩:=hs x y d e
 refine qa δ σ H0 H _ _ R hx fun v H1 s1 g1=> ?_
 have g1:=g1.bor
 cases g1
 refine ⟨rfl,?_⟩
 refine qb δ σ H0 H1 _ y (R.same s1) hy fun u H2 s2 g2=> ?_
 exact hd H2 z u y d Q g2.bor e fun v H' s g=>hq v H' ((s1.tr s2).tr s) (g.back (s1.tr s2))
noncomputable def dh:Dv->Dv->Option Dv
 | .str a,.str b=>some (.bl (Txt.startswith a b))
 |_,_=>none
theorem qo:MtS KF p8 .imm dh:=by
 intro W H x u dy d Q ru h hq
 cases dy<;>simp only [dh,reduceCtorEq] at h
 cases h
 cases ru
 exact ⟨_,_,rfl,rfl,hq _ H (fun _ _ z=>z) (RepF.bl _)⟩
theorem qp (x y d:Dv) (h:dh x y=some d): ∃z,x= .str z:=by
 cases x<;>first|exact ⟨_,rfl⟩|cases h
noncomputable def aT:Dv->Dv->Option Dv
 | .str a,.str b=>if (b.length==0)=false/\a.length<=lim then some (.lst ((Txt.split a b).map Dv.str)) else none
 |_,_=>none
theorem qq {S:Addr->Prop}{H:Hp}: ∀l:List Str,RepsF KF S H (l.map V.str) (l.map Dv.str)
 |[]=> .nil
 |x::r=> .cons (.str x) (qq r)
theorem RepsF.strs {S:Addr->Prop}{H:Hp}: ∀{xs:List V}{r:List Str},RepsF KF S H xs (r.map Dv.str)->xs=r.map V.str
 |_,[],.nil=>rfl
 |_,_::_,.cons (.str _) q=>by rw [List.map_cons,RepsF.strs q]
theorem dF:MtS KF qd .one aT:=by
 intro W H x u dy d Q ru h hq
 cases dy<;>simp only [aT,reduceCtorEq] at h
 split at h
 rotate_left
 ·cases h
 next c=>
  cases h
  cases ru
  refine ⟨_,_,rfl,rfl,c.1,Nat.le_trans (Nat.add_le_add_right c.2 2) (by decide),fun p hp=> ?_⟩
  exact hq _ _ (Same.new hp) ⟨p,rfl,hp,_,az,qq _⟩
theorem dG (x y d:Dv) (h:aT x y=some d): ∃z,x= .str z:=by
 cases x<;>first|exact ⟨_,rfl⟩|cases h
noncomputable def fG:List Dv->Option (List Str)
 |[]=>some []
 | .str b::r=>(fG r).map (b:: ·)
 |_::_=>none
theorem qt: ∀{ds:List Dv}{bs:List Str},fG ds=some bs->ds=bs.map Dv.str
 |[],_,h=>by cases h;rfl
 |d::r,bs,h=>by
  cases d with
  |str b=>
   obtain ⟨bs',h',rfl⟩:=Option.map_eq_some_iff.mp h
   rw [qt h']
   all_goals rfl
  |_=>cases h
theorem qu: ∀(bs:List Str),fG (bs.map Dv.str)=some bs
 |[]=>rfl
 |b::r=>by rw [List.map_cons,fG,qu r];rfl
noncomputable def bN:Dv->Dv->Option Dv
 | .str a,.lst ds=>(fG ds).bind fun ys=>if (ys.map (·.length)).sum+ys.length*a.length<=1000000 then some (.str (Txt.join a ys)) else none
 |_,_=>none
theorem jr:MtS KF (qk KF) .imm bN:=by
 intro W H x u dy d Q ru h hq
 cases dy<;>simp only [bN,reduceCtorEq] at h
 obtain ⟨ys,h1,h⟩:=Option.bind_eq_some_iff.mp h
 split at h
 rotate_left
 ·cases h
 next c=>
  cases h
  have es:=qt h1
  subst es
  cases ru with
  |lst s hp q=>
   have ev:=q.strs
   subst ev
   exact ⟨_,_,ys,rfl,rfl,SqL.of hp,Nat.le_trans c (by decide),hq _ H (fun _ _ z=>z) (RepF.str _)⟩
theorem jt (x y d:Dv) (h:bN x y=some d): ∃z,x= .str z:=by
 cases x<;>first|exact ⟨_,rfl⟩|cases h
noncomputable def rSlS:V->Option Int->Option Int->Hp->VK->Prop:=fun x lo hi H Q=> ∃a i,x= .str a/\lo=some i/\hi=none/\a.length<=sizeLine/\Q (.str (Txt.slice a (some i) none)) H
theorem Af:SlR X rSlS:=by
 intro pins s σ H x v vl vu lo hi sl Q I rx hs pl pu h
 obtain ⟨a,i,rfl,rfl,rfl,hz,q⟩:=h
 obtain ⟨t,rfl⟩:=rx
 cases pl with
 |int _ ti=>
  cases pu with
  |none=>
   refine ⟨"str",_,F.slot_str_getitem.lookup,typeIs_str _ _ _,?_⟩
   exact wpAny_getItem_str_slice (l:=some (i,ti)) (u:=none) (st:=none) hs rfl (post_val_or_str ⟨Nat.le_trans (Txt.slice_le a _ _) hz,fun t' k=>⟨.str _,H,I.tok k,⟨_,rfl⟩,q⟩⟩)
noncomputable def eS (m:EM) (lo hi:Dt->Option (Option Int)):EM:=fun δ=>(m δ).bind fun x=>(lo δ).bind fun l=>(hi δ).bind fun h=>match x,l,h with
 | .str a,some i,none=>if a.length<=lim then some (.str (Txt.slice a (some i) none)) else none
 |_,_,_=>none
theorem qw {lo hi:Option Expr}{ml mh:Dt->Option (Option Int)}{p2:Pos} (he:PD X ms k1 e me) (hl:PDo X ms lo ml) (hh:PDo X ms hi mh):PD X ms .imm (.Subscript e (.Slice lo hi none p2) pos) (eS me ml mh):=by
 obtain ⟨te,p,q⟩:=he
 obtain ⟨tl,pl,ql⟩:=hl
 obtain ⟨th,ph,qh⟩:=hh
 refine ⟨_,j9 Af p pl ph,fun δ σ H0 H Q d R hm hq=> ?_⟩
 obtain ⟨x,hx,e⟩:=Option.bind_eq_some_iff.mp hm
 obtain ⟨l,hl,e⟩:=Option.bind_eq_some_iff.mp e
 obtain ⟨h,hh,e⟩:=Option.bind_eq_some_iff.mp e
 refine q δ σ H0 H _ x R hx fun v H1 s1 g1=> ?_
 refine ql δ σ H0 H1 _ l (R.same s1) hl fun H2 s2=> ?_
 refine qh δ σ H0 H2 _ h (R.same (s1.tr s2)) hh fun H3 s3=> ?_
 cases x<;>cases l<;>cases h<;>simp only [reduceCtorEq] at e
 split at e
 rotate_left
 ·cases e
 next c=>
  cases e
  have g1:=g1.bor
  cases g1
  exact ⟨_,_,rfl,rfl,rfl,Nat.le_trans c (by decide),hq _ H3 ((s1.tr s2).tr s3) (RepF.str _)⟩
theorem qy:OpR X (binaryOp .Mult) (fun x y H Q=> ∃a n,x= .str a/\y= .int n/\1<n/\n<=1000/\0<a.length/\a.length<=1000/\Q (.str ⟨(List.replicate n.toNat a.cps).foldl (· ++ ·) #[]⟩) H):=by
 intro pins s σ H x y v u Q I rx ry h
 obtain ⟨a,n,rfl,rfl,n1,n2,a1,a2,q⟩:=h
 obtain ⟨t,rfl⟩:=rx
 obtain ⟨t',rfl⟩:=ry
 have pb:a.length*n.toNat<=1000*1000:=Nat.mul_le_mul a2 (by lia)
 have f1:(n==1||a.length==0)=false:=by
  rw [Bool.or_eq_false_iff]
  exact ⟨beq_eq_false_iff_ne.mpr (by lia),beq_eq_false_iff_ne.mpr (by lia)⟩
 have fo: ∀(k:Nat) (acc:Array Nat),((List.replicate k a.cps).foldl (· ++ ·) acc).size=acc.size+a.cps.size*k:=by
  intro k
  induction k with
  |zero=>intro acc;simp
  |succ k ih=>intro acc;rw [List.replicate_succ,List.foldl_cons,ih,Array.size_append,Nat.mul_succ];lia
 have ln:(⟨(List.replicate n.toNat a.cps).foldl (· ++ ·) #[]⟩:Str).length<=sizeLine:=by
  have:=fo n.toNat #[]
  show ((List.replicate n.toNat a.cps).foldl (· ++ ·) #[]).size<=sizeLine
  rw [this]
  have e:a.cps.size*n.toNat=a.length*n.toNat:=rfl
  rw [e]
  exact Nat.le_trans (by simp;lia) (show 1000000<=sizeLine by decide)
 refine P.mul_str (by rw [decide_eq_false (by lia),decide_eq_false (by lia)];rfl) (fun _ _=> ?_) (fun _ _=> ?_) ?_
 ·have:(1000:Int)<=(2^63-1)/n:=Int.le_ediv_of_mul_le (by lia) (by lia)
  lia
 ·unfold Builtin.Str.tooLong
  exact decide_eq_false (by have:sizeLine=16777216:=rfl;lia)
 ·rw [if_neg (by lia),if_neg (by rw [f1];exact Bool.false_ne_true)]
  exact ⟨ln,⟨.str _,H,I.tok _,⟨_,rfl⟩,q⟩⟩
noncomputable def d7:Dv->Dv->Option Dv
 | .str a,.int n=>if 1<n/\n<=1000/\0<a.length/\a.length<=1000 then some (.str ⟨(List.replicate n.toNat a.cps).foldl (· ++ ·) #[]⟩) else none
 |_,_=>none
theorem qz:OpD KF (fun x y H Q=> ∃a n,x= .str a/\y= .int n/\1<n/\n<=1000/\0<a.length/\a.length<=1000/\Q (.str ⟨(List.replicate n.toNat a.cps).foldl (· ++ ·) #[]⟩) H) d7:=by
 intro H x y dx dy d Q rx ry h hq
 unfold d7 at h
 split at h
 rotate_left
 ·cases h
 cases rx
 cases ry
 split at h
 ·next c=>cases h;exact ⟨_,_,rfl,rfl,c.1,c.2.1,c.2.2.1,c.2.2.2,hq _ (.str _)⟩
 ·cases h
noncomputable def sNo:SM:=fun _=>none
theorem cD {st:Stmt}:PDs X ms rk st sNo:=⟨fun _ _ _=>False,fun _ _ _ _ _ _ h=>h.elim,fun _ _ _ _ _ _ _ h _=>by cases h⟩
noncomputable def Its (x:Str):It:=⟨fun i _=>i<x.cps.size,fun i H v H'=>H'=H/\ ∃c,x.cps[i]?=some c/\v= .str ⟨#[c]⟩,fun i _=>x.cps.size<=i⟩
theorem Ag {P:Program}{w:World}{K:PySem.W.Frag}{tg:Expr} (x:Str) (t:Tok) (it:Addr):Turn P w K tg (Its x) [it] it (fun i h=>h.IsStrIter it "str_ascii_iterator" x t i) where
 mem:=by simp
 obj:=fun i h st b hb=>by
  have e:b=it:=by simpa using hb
  subst e
  obtain ⟨o,e,c,d⟩:=st
  exact ⟨o,e,fun v z=>by rw [d] at z;cases z⟩
 keep:=fun i h h' st k=>by
  obtain ⟨o,e,c⟩:=st
  exact ⟨o,k it (by simp) o e,c⟩
 item:=by
  intro X hP hw hK hc i pins s σ H E I hf st hg
  subst hP hw hK
  obtain ⟨f0,f1,f2,f3,f4,f5⟩:=hf it (by simp)
  have hx:x.cps[i]?=some (x.cps[i]'hg):=Array.getElem?_eq_getElem hg
  refine wpAny_pyNext_ascii_item st hx fun h' st' sb=> ?_
  have I1:Inv X pins σ H {s with heap:=h',toks:=s.toks+1}:=I.turned (t':=s.toks+1) (fun b o hb e=>(sb.2 b hb).trans e) f0 f1 f3 f4 f5
  obtain ⟨o,e,c,d⟩:=id st'
  exact ⟨_,rfl,iG (s:={s with heap:=h',toks:=s.toks+1}) e c d (by decide) ⟨.str ⟨#[x.cps[i]'hg]⟩,H,I1,⟨_,rfl⟩,⟨rfl,_,hx,rfl⟩,st',fun b hb=>(hf b hb).1⟩⟩
 done:=by
  intro X hP hw hK hc i pins s σ H E I hf st hg
  subst hP hw hK
  obtain ⟨f0,f1,f2,f3,f4,f5⟩:=hf it (by simp)
  exact wpAny_pyNext_ascii_end (I.ok.hd hc) st (Array.getElem?_eq_none hg) fun h' eb=>⟨rfl,I.turned (t':=s.toks) (fun b o hb e=>eb b o hb e) f0 f1 f3 f4 f5⟩
 self:=fun _ _ _ _ _ st h=>wpAny_pyIter_striter_ascii st h
noncomputable def iStr (tl:TE):TI:=fun σ H R=>tl σ H fun x H1=> ∃a,x= .str a/\a.cps.all (· <128)=true/\R (Its a) H1
theorem Ah {tg l:Expr}{tl:TE} (hl:PE X l tl):PI X tg l (iStr tl):=by
 intro pins s σ H R I h
 refine thn (hl pins s σ H _ I h) fun v s1 ⟨x,H1,I1,r1,q1⟩=> ?_
 obtain ⟨a,e,ha,q⟩:=q1
 subst e
 obtain ⟨t,rfl⟩:=r1
 refine wpAny_pyIter_ascii ha ?_
 refine ⟨s1.heap.objs.size,[s1.heap.objs.size],_,_,H1,rfl,I1.kept (t':=s1.toks) fun b o e=>Heap.get?_push_of_some _ e,Ag a t _,⟨_,Heap.get?_push_size _ rfl,rfl,rfl⟩,fun b hb=> ?_,q⟩
 have e:b=s1.heap.objs.size:=by simpa using hb
 subst e
 exact I1.fpOk (Nat.le_refl _) (I1.hok.fresh (Nat.le_refl _))
noncomputable def d8 (a:Str):List Dv:=a.cps.toList.map fun c=> .str ⟨#[c]⟩
noncomputable def iS (m:EM):Dt->Option (List Dv):=fun δ=>(m δ).bind fun x=>match x with
 | .str a=>if a.cps.size<=lim/\a.cps.all (· <128)=true then some (d8 a) else none
 |_=>none
theorem Ai {W:Addr->Prop}{H:Hp}{lp:Bool}{a:Str} (hz:a.cps.size<=lim):IOk KF W lp H (Its a) (d8 a):=by
 have ln:(d8 a).length=a.cps.size:=by unfold d8;rw [List.length_map,Array.length_toList]
 refine ⟨by rw [ln];exact hz,fun H' s=> ?_⟩
 rw [ln]
 refine ⟨fun i hi=>hi,fun i x H'' hi y=> ?_,Nat.le_refl _⟩
 obtain ⟨e1,c,e2,e3⟩:=y
 subst e3
 refine ⟨e1,.str ⟨#[c]⟩,?_,.str _⟩
 unfold d8
 rw [List.getElem?_map,Array.getElem?_toList,e2]
 rfl
theorem Aj {lp:Bool}{tg:Expr} (h:PD X ms k e me):PDi X ms lp tg e (iS me):=by
 obtain ⟨te,p,q⟩:=h
 refine ⟨_,Ah p,fun δ σ H0 H R ds L hm hq=> ?_⟩
 obtain ⟨x,hx,e⟩:=Option.bind_eq_some_iff.mp hm
 refine q δ σ H0 H _ x L hx fun v H1 s1 g=> ?_
 have g:=g.bor
 cases x with
 |str a=>
  simp only at e
  split at e
  ·next hz=>
   cases e
   cases g
   exact ⟨_,rfl,hz.2,hq _ H1 s1 (Ai hz.1)⟩
  ·cases e
 |_=>cases e
end
end L2
set_option maxHeartbeats 4000000
namespace L2
open PySem PySem.Spec PyProof.Rows
variable {KF:PySem.W.Frag}
noncomputable def nDiff (ns:List Int):Nat:=(firstMet (fun i=>ns.getD i 0) ns.length).length
section
variable {X:Cx}{ms:List Nat}{k:Kd}{e:Expr}{m:EM}{p p2 pos pos2:Pos}
theorem Ak:bootBuiltins "set"=some (.type "set"):=by decide+kernel
theorem Al (hc:X.calm=true):bp X (.type "set") (fun xs H Q=> ∃l ns,xs=[.ref l]/\SqL X.K H l (ns.map V.int)/\ns.length<=4000/\ ∀q S,H q=none->Q (.ref q) (upd H q (.set S (nDiff ns)))):=by
 intro pins s σ H xs us Q I r h
 obtain ⟨l,ns,rfl,hl,hz,q⟩:=h
 obtain ⟨u,rfl,ru⟩:=du r
 cases ru
 obtain ⟨its,rv,pl,_⟩:=I.list hl
 have ln:its.length=ns.length:=by rw [<-rv.length,List.length_map]
 refine call_set_list (I.ok.hd hc) pl.isList (by simpa using ue rv) (by rw [List.size_toArray,ln];unfold scanBound;lia) fun h' tk hS hk=> ?_
 have ez:its.toArray.size=ns.length:=by rw [List.size_toArray,ln]
 rw [ez] at hS
 exact ⟨.ref s.heap.objs.size,_,I.laid (t':=tk) (o:= .set _ (nDiff ns)) (fun b o e=>hk b o (Heap.lt_size e) e) (Nat.le_refl _) (show ax X.prog X.w _ h' s.heap.objs.size (.set _ (nDiff ns)) from hS),rfl,q _ _ (I.hok.fresh (Nat.le_refl _))⟩
theorem Am:bp X (.builtin "len") (fun xs H Q=> ∃l S n,xs=[.ref l]/\H l=some (.set S n)/\Q (.int n) H):=by
 intro pins s σ H xs us Q I r h
 obtain ⟨l,S,n,rfl,hl,q⟩:=h
 obtain ⟨u,rfl,ru⟩:=du r
 cases ru
 obtain ⟨o,es,ep,t,h1,h2,h3,_,_,h6,h7,h8⟩:=(show ax X.prog X.w H s.heap l (.set S n) from I.hok l _ hl)
 subst h8
 exact call_len_set h1 h2 h3 h7 (by unfold scanBound at h6;lia) ⟨.int es.size,H,I.tok _,⟨_,rfl⟩,q⟩
noncomputable def fH:Dv->Option Dv
 | .lst ds=>(dD ds).bind fun ns=>if ns.length<=4000 then some (.int (nDiff ns)) else none
 |_=>none
theorem qA (hc:X.calm=true) (hg:Gl X "len") (hm:X.mg "len"=none) (hg2:Gl X "set") (hm2:X.mg "set"=none) (he:PD X ms k e m)
  (hs:starEach [e] X.env=(false,eval e X.env)::starEach [] X.env:=by rfl) (hpl:(backTo pos2 (starEach [] X.env)).any (·.1)=false:=by rfl)
  (hs2:starEach [.Call (.Name "set" p2) [e] [] pos2] X.env=(false,eval (.Call (.Name "set" p2) [e] [] pos2) X.env)::starEach [] X.env:=by rfl) (hpl2:(backTo pos (starEach [] X.env)).any (·.1)=false:=by rfl):
  PD X ms .imm (.Call (.Name "len" p) [.Call (.Name "set" p2) [e] [] pos2] [] pos) (eUn fH m):=by
 obtain ⟨te,pe,q⟩:=he
 refine ⟨_,fj Am hg hm bH (aU (nq (Al hc) hg2 hm2 Ak (aU pe ci hs) (by decide) (by decide) hs hpl) ci hs2) (by decide) (by decide) hs2 hpl2,fun δ σ H0 H Q d R hm hq=> ?_⟩
 obtain ⟨x,hx,e⟩:=Option.bind_eq_some_iff.mp hm
 refine q δ σ H0 H _ x R hx fun v H1 s1 g1=> ?_
 cases x<;>simp only [fH,reduceCtorEq] at e
 obtain ⟨ns,h1,e⟩:=Option.bind_eq_some_iff.mp e
 split at e
 rotate_left
 ·cases e
 next hz=>
  cases e
  have es:=oQ h1
  subst es
  have g1:=g1.bor
  cases g1 with
  |lst s hp rr=>
   have ev:=rr.ints
   subst ev
   exact ⟨_,ns,rfl,SqL.of hp,hz,fun q S hn=>⟨_,_,_,rfl,az,hq _ _ (s1.tr (Same.new hn)) (RepF.int _)⟩⟩
end
end L2
set_option maxHeartbeats 4000000
namespace L2
open PySem PySem.Spec PyProof.Rows
variable {KF:PySem.W.Frag}{W W':Addr->Prop}
section
variable {ms ms':List Nat}{ρ:List (Option Nat)}{k:Kd}{wi:TI}{it:Dt->Option (List Dv)}{g:Dv->Dt->Option Dt}{c:Dt->Option Bool}{el:EM}{z:List Nat}
variable {X:Cx}{scope:Scope}{tg iter elt:Expr}{ifs:List Expr}{pos:Pos}
end
section
variable {X:Cx}{ms:List Nat}{k rk:Kd}{e:Expr}{m:EM}{i:Nat}{x:Str}{np apos cpos pos pos':Pos}{tg:Expr}
end
end L2
set_option maxHeartbeats 4000000
namespace L2
open PySem PySem.Spec PyProof.Rows
variable {KF:PySem.W.Frag}{W W':Addr->Prop}
section
variable {X:Cx}
end
section
variable {H H0 H0':Hp}{a:Addr}{ob:Obj}{xs:List (List Key×V)}
end
section
variable {X:Cx}{ms:List Nat}{rk:Kd}{pos:Pos}
end
end L2
set_option maxHeartbeats 4000000
namespace L2
noncomputable def gN' (pl:List Int) (o:Hl) (pc:Nat) (k:List Int):List Int:=(o.filter fun p=>decide (cutR pl p.1=k)).map fun p=>p.1.getD pc 0
end L2
set_option maxHeartbeats 4000000
namespace L2
noncomputable abbrev Sel:=List Int->Option Int
noncomputable def sl (sel:Sel) (pl:List Int) (o:Hl) (pc:Nat) (k:List Int):Int:=(sel (gN' pl o pc k)).getD 0
section
variable {keys few:List Int}{parts:List Hl}{h X:Hl}{pc:Nat}
end
section
variable {co:List Int}{parts:List Hl}{h:Hl}{pc:Nat}
end
end L2
set_option maxHeartbeats 4000000
namespace L2
open PySem PySem.Spec PyProof.Rows
variable {KF:PySem.W.Frag}{W W':Addr->Prop}
section
variable {X:Cx}{ms:List Nat}{k k1 rk:Kd}{e b v:Expr}{m mb mv:EM}{i:Nat}{x:Str}{np apos cpos pos pos':Pos}
end
end L2
set_option maxHeartbeats 4000000
namespace L2
open PySem PySem.Spec PyProof.Rows
variable {KF:PySem.W.Frag}{W W':Addr->Prop}
noncomputable def lF:Dv->Option Key
 | .int i=>some (.inl i)
 | .str x=>some (.inr x)
 |_=>none
theorem An {S:Addr->Prop}{H:Hp}{v:V}{d:Dv}{k:Key} (r:RepF KF S H v d) (h:lF d=some k):v=kV k:=by
 cases r<;>simp only [lF,reduceCtorEq,Option.some.injEq] at h
 ·subst h;rfl
 ·subst h;rfl
noncomputable def ju (mk mv:EM):EM:=fun δ=>(mk δ).bind fun x=>(mv δ).bind fun y=>(lF x).bind fun k=>if y.imm=true then some (.dik [(k,y)]) else none
section
variable {X:Cx}{ms:List Nat}{k1 k2:Kd}{a b:Expr}{ma mb:EM}{pos:Pos}
theorem Ao (ha:PD X ms k1 a ma) (hb:PD X ms k2 b mb):PD X ms .frh (.Dict [some a] [b] pos) (ju ma mb):=by
 obtain ⟨ta,pa,qa⟩:=ha
 obtain ⟨tb,pb,qb⟩:=hb
 refine ⟨_,uQ (uO pa pb uN) rfl rfl (fun z=>nomatch z) (show 1<=15 by decide),fun {W} δ σ H0 H Q d R hm hq p hp=> ?_⟩
 obtain ⟨x,hx,e⟩:=Option.bind_eq_some_iff.mp hm
 obtain ⟨y,hy,e⟩:=Option.bind_eq_some_iff.mp e
 obtain ⟨k,hk,e⟩:=Option.bind_eq_some_iff.mp e
 split at e
 ·next im=>
  cases e
  have s0:=Same.new (o:= .dK []) hp
  have R0:=R.same s0
  refine qa δ σ H0 _ _ x R0 hx fun v H1 s1 g1=> ?_
  refine qb δ σ H0 H1 _ y (R0.same s1) hy fun u H2 s2 g2=> ?_
  have hp2:H2 p=some (.dK []):=s2 p _ (s1 p _ az)
  refine ⟨hp2,[(k,u)],?_,(show 1<=15 by decide),?_⟩
  ·rw [An g1.bor hk];rfl
  ·have st:Same H (L2.upd H2 p (.dK (fk [] [(k,u)]))):=fun c o hc=>by
    rw [ao (bQ hc hp)]
    exact s2 c o (s1 c o (s0 c o hc))
   refine hq _ _ st ?_
   have kp:aG Imm H2 (L2.upd H2 p (.dK [(k,u)])):=fun c o hc z=>by
    rcases z with ⟨xs,rfl⟩|⟨c',u',rfl⟩|z
    ·rw [ao (fun z=>by rw [z,hp2] at hc;cases hc)];exact hc
    ·rw [ao (fun z=>by rw [z,hp2] at hc;cases hc)];exact hc
    ·exact z.elim
   exact RepF.dik hp (.inl az) (.cons (((g2.bor.imm im:RepF X.K Imm H2 u y).keep kp).mono fun _ _ z=>z.elim) .nil)
 ·cases e
end
end L2
set_option maxHeartbeats 4000000
namespace L2
open PySem PySem.Spec PyProof.Rows
variable {KF:PySem.W.Frag}{W W':Addr->Prop}
section
variable {X:Cx}{ms:List Nat}{k1 k2:Kd}{a b:Expr}{ma mb:EM}{pos:Pos}
end
end L2
set_option maxHeartbeats 4000000
namespace L2
open PySem PySem.Spec PyProof.Rows
variable {KF:PySem.W.Frag}{W W':Addr->Prop}
section
variable {X:Cx}{tg:Expr}{ms:List Nat}{k:Kd}{e:Expr}{m:EM}{pos:Pos}{lp:Bool}
end
end L2
set_option maxHeartbeats 4000000
namespace L2
open PySem PySem.Spec PyProof.Rows
variable {KF:PySem.W.Frag}{W W':Addr->Prop}
section
variable {X:Cx}{ms:List Nat}{k:Kd}{e:Expr}{m:EM}{pos:Pos}
end
end L2
set_option maxHeartbeats 4000000
namespace L2
open PySem PySem.Spec PyProof.Rows
variable {KF:PySem.W.Frag}{W W':Addr->Prop}
section
variable {ms:List Nat}{i:Nat}
end
section
variable {X:Cx}{ms ms':List Nat}{k rk:Kd}{e a b:Expr}{m ma mb:EM}{pos pos':Pos}{i:Nat}{x:Str}{st:List Stmt}{sm:SM}
end
end L2
set_option maxHeartbeats 4000000
namespace L2
open PySem PySem.Spec PyProof.Rows
variable {KF:PySem.W.Frag}{W W':Addr->Prop}
section
variable {X:Cx}{ms:List Nat}{k k2 k3 rk:Kd}{ix:Expr}{m mi:EM}{pos:Pos}{i:Nat}{x:Str}{np apos cpos ipos:Pos}
end
end L2
set_option maxHeartbeats 4000000
namespace L2
open PySem PySem.Spec PyProof.Rows
variable {KF:PySem.W.Frag}{W W':Addr->Prop}
theorem Ap {prog:Program}{w:World}{A:Around}{E:Value->Shared->Prop}{s:Shared}{nm:String}{a b:Addr}{k:List Key}{pa pb:Addr}{i:Int}{t u:Tok}{Q:Bool->Shared->Prop} (hu:(tupleKind (aI prog w)).room A) (ha:(a==sysModules)=false) (hb:(b==sysModules)=false)
  (da:s.heap.DictOfH (tupleKind (aI prog w)) a [(k,pa,.int i t)]) (db:s.heap.DictOfH (tupleKind (aI prog w)) b [(k,pb,.int i u)]) (h:Q true s):
  wpAny (model prog w) A (Builtin.Dict.samePairs nm a b) Q E s:=by
 obtain ⟨oa,es,ep,hoa,_,hda,hea,hia,hna⟩:=da
 obtain ⟨ob,es',ep',hob,_,hdb,heb,hib,hnb⟩:=db
 have e1:es= #[entryOfKey (tupleKind (aI prog w)) (k,pa,.int i t)]:=by apply Array.ext';rw [hea];rfl
 have e2:es'= #[entryOfKey (tupleKind (aI prog w)) (k,pb,.int i u)]:=by apply Array.ext';rw [heb];rfl
 unfold Builtin.Dict.samePairs Builtin.Dict.showsAll
 rw [if_neg (show¬(a==sysModules)=true by rw [ha];exact Bool.false_ne_true),if_neg (show¬(b==sysModules)=true by rw [hb];exact Bool.false_ne_true)]
 refine wpAny_bind (wpAny_pure (wpAny_bind (wpAny_pure ?_)))
 refine wpAny_bind (wpAny_dictEntries hoa hda ?_)
 dsimp only
 refine wpAny_bind (wpAny_dictEntries hob hdb ?_)
 have sz:es.size=es'.size:=by rw [e1,e2];rfl
 rw [if_neg (by rw [sz];simp)]
 refine wpAny_bind (wpAny_dictEpoch hoa hda ?_)
 refine wpAny_bind ?_
 rw [Std.Legacy.Range.forIn_eq_forIn_range']
 simp only [Std.Legacy.Range.size,Nat.sub_zero,Nat.add_sub_cancel,Nat.div_one]
 have s1:es.size=1:=by rw [e1];rfl
 rw [s1]
 refine wpAny_forIn_list _ (fun rest q s'=>s'=s/\q=(none,())/\(rest=[0] \/rest=[])) _ ?_ ?_ _ _ ⟨rfl,rfl,.inl rfl⟩
 ·rintro x rest q s' ⟨rfl,rfl,hr⟩
  rcases hr with hr|hr
  rotate_left
  ·cases hr
  cases hr
  refine wpAny_bind (wpAny_dictEntries hoa hda ?_)
  have g0:es[0]?=some (entryOfKey (tupleKind (aI prog w)) (k,pa,.int i t)):=by rw [e1];rfl
  rw [g0]
  show wpAny _ _ (holding [Value.ref pa,Value.int i t] _>>=_) _ _ _
  refine wpAny_bind (wpAny_holding (wpAny_bind (wpAny_dictFind_heap (knd:=tupleKind (aI prog w)) (a:=pa) (k:=k) hu (hia _ (List.mem_cons_self ..)) hob hdb heb hib hnb (fun n=>absurd rfl (n 0 (pb,.int i u))) fun j p hj=> ?_)))
  have j0:j=0:=by
   cases j with
   |zero=>rfl
   |succ j=>simp at hj
  subst j0
  refine wpAny_bind (wpAny_dictEntries hob hdb ?_)
  have g1:es'[0]?=some (entryOfKey (tupleKind (aI prog w)) (k,pb,.int i u)):=by rw [e2];rfl
  rw [g1]
  have eq:=SeqAt.EqAt.int_int (A:=A) (s:=s') i t i u
  refine wpAny_holding (eq prog w _ _ ?_)
  rw [beq_self_eq_true]
  show wpAny _ _ (if (!true)=true then _ else _) _ _ _
  rw [if_neg (by decide)]
  refine wpAny_bind (wpAny_dictEpoch hoa hda ?_)
  rw [if_neg (by simp)]
  exact wpAny_pure ⟨rfl,rfl,.inr rfl⟩
 ·rintro q s' ⟨rfl,rfl,_⟩
  exact wpAny_pure h
theorem ne1 {prog:Program}{w:World}{A:Around}{E:Value->Shared->Prop}{s:Shared}{a b:Addr}{k:List Key}{pa pb:Addr}{i:Int}{t u:Tok}{Q:Value->Shared->Prop} (hu:A.units+1<cLine) (ha:(a==sysModules)=false) (hb:(b==sysModules)=false)
  (ta:s.TypeIs (.ref a) "dict") (tb:s.TypeIs (.ref b) "dict") (da:s.heap.DictOfH (tupleKind (aI prog w)) a [(k,pa,.int i t)]) (db:s.heap.DictOfH (tupleKind (aI prog w)) b [(k,pb,.int i u)]) (h:Q (.bool false) s):
  wpAny (model prog w) A (compareOp .NotEq (.ref a) (.ref b)) Q E s:=by
 refine wpAny_richCompare_same_room (op:= .NotEq) ta tb PySem.F.slot_dict_ne (wpAny_call_entry PySem.F.slot_dict_ne ta PySem.F.entry_dict_ne ?_ (PySem.F.args_dict_ne_2 _ _)) (by lia)
 show wpAny _ _ (Builtin.Dict.dictSlotArgs "__ne__" ⟨[.ref a,.ref b],[]⟩>>=_) _ _ s
 refine wpAny_bind ?_
 unfold Builtin.Dict.dictSlotArgs
 refine wpAny_bind (wpAny_notOrdered_dict ta ?_)
 show wpAny _ _ (pure (Value.ref a,Value.ref b)) _ _ s
 refine wpAny_pure ?_
 refine wpAny_bind (wpAny_isInstance (T:="dict") tb PySem.F.sub_dict_dict ?_)
 simp only [Bool.not_true,Bool.false_eq_true,if_false]
 refine wpAny_bind (wpAny_pure (wpAny_bind (wpAny_pure ?_)))
 refine wpAny_bind (Ap (tupleKind_room_in1 hu) ha hb da db ?_)
 refine wpAny_pure ⟨_,rfl,?_,?_⟩
 ·exact fun x=>nomatch x
 ·simpa using h
section
variable {X:Cx}{ms:List Nat}{k k1 rk:Kd}{e b v:Expr}{m mb mv:EM}{i:Nat}{x:Str}{np apos cpos pos pos':Pos}
end
end L2
set_option maxHeartbeats 4000000
namespace L2
open PySem PySem.Spec PyProof.Rows
variable {KF:PySem.W.Frag}{W W':Addr->Prop}
noncomputable def OwnT (KF:PySem.W.Frag) (fl:Bool) (H:Hp) (a:Addr) (d:Dv) (F:List Addr):Prop:=if fl=true then F=[a]/\Cell KF H a d else Tree KF H (.ref a) d F
theorem OwnT.there {fl:Bool}{H:Hp}{a:Addr}{d:Dv}{F:List Addr} (t:OwnT KF fl H a d F): ∀b∈F,∃o,H b=some o/\Sft o:=by
 unfold OwnT at t
 split at t
 ·obtain ⟨rfl,c⟩:=t
  intro b hb
  rw [List.mem_singleton.mp hb]
  exact c.there
 ·exact t.there
section
variable {P:Program}{w:World}{K:PySem.W.Frag}{mg:Str->Option Value}{base:Heap}
theorem CD {α:Type}{o:Option (Option α)}{x:α} (h:o.join=some x):o=some (some x):=by
 cases o with
 |none=>cases h
 |some y=>exact congrArg some h
end
end L2
set_option maxHeartbeats 4000000
namespace L2
open PySem PySem.Spec PyProof.Rows
variable {KF:PySem.W.Frag}{W W':Addr->Prop}
section
variable {ms:List Nat}{fl:Bool}{rk:Kd}{σ:St}{H0 H H':Hp}{δ:Dt}{i j:Nat}{d' r:Dv}{v:V}
theorem Rel.free {c:Addr}{Φ:Nat->List Addr} (R:Rel KF ms W H0 δ σ H) (f:Foot KF ms W H0 δ σ H Φ) (hc: ∀j,c∉Φ j) (h0:H0 c=none):Rel KF ms (fun b=>W b/\b≠c) H0 δ σ H/\Stp ms H0 W σ H (fun b=>W b/\b≠c) σ H:=by
 refine ⟨⟨R.len,R.keep,fun a w=>R.soft a w.1,fun k d n hd=> ?_,Φ,⟨fun k b hb=>⟨⟨(f.wr k b hb).1,fun z=>hc k (z▸hb)⟩,(f.wr k b hb).2⟩,f.dj,f.nd,fun k d n hd=> ?_⟩⟩,fun a o h n=>h,fun a w=> .inl w.1,fun a w=> ?_,fun _ _ _=>rfl,fun b o h s=>⟨o,h,s⟩⟩
 ·obtain ⟨u,hu,q⟩:=R.get k d n hd
  exact ⟨u,hu,q.mono fun a _ n z=>n z.1⟩
 ·obtain ⟨a,ha,o⟩:=f.at_ k d n hd
  exact ⟨a,ha,o.keep (.of (Same.refl _)) (fun _ _ _ h=>h) fun b n1 _ z=>n1 z.1⟩
 ·by_cases z:a=c
  ·exact .inr (z▸h0)
  ·exact .inl ⟨w,z⟩
end
section
variable {X:Cx}{ms:List Nat}{fl:Bool}{rk rk':Kd}{i j:Nat}{e:Expr}{mm:Dt->Option (Dv×Dv)}{x:Str}{pos pos':Pos}
end
section
variable {X:Cx}{ms:List Nat}{fl:Bool}{rk:Kd}{i:Nat}{x y:Str}{ps:List Str}{np p pos:Pos}{es:List Expr}{ml:Dt->Option (List Dv)}{m:List Dv->Option (Dv×Dv)}
end
end L2
set_option maxHeartbeats 4000000
namespace L2
open PySem PySem.Spec PyProof.Rows
section
variable {prog:Program}{w:World}{K:Type} [DecidableEq K] {knd:HeapKind prog w K}{A:Around}{E:Value->Shared->Prop}{s:Shared}
end
end L2
set_option maxHeartbeats 4000000
namespace L2
open PySem PySem.Spec PyProof.Rows
variable {KF:PySem.W.Frag}{W W':Addr->Prop}
section
variable {X:Cx}{pins:List (Addr×Obj)}{σ:St}{H:Hp}{s:Shared}{a:Addr}{kvs:List (List Key×V)}{k:List Key}{A:Around}{E:Value->Shared->Prop}
end
end L2
set_option maxHeartbeats 4000000
namespace L2
open PySem PySem.Spec PyProof.Rows
variable {KF:PySem.W.Frag}{W W':Addr->Prop}
section
variable {X:Cx}{ms:List Nat}{k k1 k2 rk:Kd}{e:Expr}{m mk mv:EM}{pos pos' tpos np:Pos}{f:Str}{C:Addr}{i:Nat}{x:Str}
end
end L2
set_option maxHeartbeats 4000000
namespace L2
open PySem PySem.Spec PyProof.Rows
variable {KF:PySem.W.Frag}{W W':Addr->Prop}
section
variable {X:Cx}{ms:List Nat}{k k1 k2 rk:Kd}{e kx:Expr}{m mk mv:EM}{pos pos' tpos np apos cpos:Pos}{f:Str}{C:Addr}{i:Nat}{x:Str}
end
section
variable {X:Cx}{ms:List Nat}{fl:Bool}{rk k1:Kd}{i j:Nat}{e:Expr}{ma:EM}{x y m:Str}{ps:List Str}{np p pos apos:Pos}{es:List Expr}{C:Addr}{M:List Dv->Option (Dv×Dv)}
end
end L2
set_option maxHeartbeats 4000000
namespace L2
open PySem PySem.Spec PyProof.Rows
variable {KF:PySem.W.Frag}{W W':Addr->Prop}
section
variable {X:Cx}{ms:List Nat}{fl:Bool}{rk k2:Kd}{i:Nat}{e e2 a b:Expr}{mm:Dt->Option (Dv×Dv)}{m2:EM}{x:Str}{ps:List Str}{p pos:Pos}{mx ma mb:Dt->Option (Dt×Dv)}{ta tb:Dt->Option (Dt×Bool)}
end
end L2
set_option maxHeartbeats 4000000
namespace L2
open PySem PySem.Spec PyProof.Rows
variable {KF:PySem.W.Frag}{W W':Addr->Prop}
section
variable {X:Cx}{tg:Expr}
variable {ms:List Nat}{lp:Bool}{k k2 k3:Kd}{a b c:Expr}{ma mb mc:EM}{pos:Pos}
end
end L2
set_option maxHeartbeats 4000000
namespace L2
open PySem PySem.Spec PyProof.Rows
variable {KF:PySem.W.Frag}{W W':Addr->Prop}
section
variable {X:Cx}{ms:List Nat}{rk:Kd}{e:Expr}{m:EM}{pos pos':Pos}
end
end L2
set_option maxHeartbeats 4000000
namespace L2
open PySem PySem.Spec PyProof.Rows
theorem ax.there {P:Program}{w:World}{H:Hp}{h:Heap}{a:Addr}{o:HO} (x:ax P w H h a o): ∃u,h.get? a=some u:=by
 cases o with
 |lst xs=>obtain ⟨_,_,_,_,e⟩:=x;exact ⟨_,e⟩
 |tup xs=>obtain ⟨_,_,_,_,e,_⟩:=x;exact ⟨_,e⟩
 |dK kvs=>obtain ⟨_,_,_,_,o,_,_,e,_⟩:=x;exact ⟨_,e⟩
 |dT kvs=>obtain ⟨_,_,_,_,o,_,_,e,_⟩:=x;exact ⟨_,e⟩
 |set S n=>obtain ⟨o,_,_,_,e,_⟩:=x;exact ⟨_,e⟩
 |ins C dx fs=>obtain ⟨_,_,_,e,_⟩:=x;exact ⟨_,e⟩
 |own y=>exact x
 |xd fs=>obtain ⟨_,⟨_,_,_,e,_⟩,_⟩:=x;exact ⟨_,e⟩
 |rng lo hi=>obtain ⟨_,_,_,e⟩:=x;exact ⟨_,e⟩
 |frz ob u=>obtain ⟨e,_⟩:=x;exact ⟨_,e⟩
 |tbl q=>obtain ⟨_,e,_⟩:=x;exact ⟨_,e⟩
 |met f y=>exact ⟨_,show h.get? a=some _ from x⟩
 |ext φ=>obtain ⟨_,e,_⟩:=x;exact e
noncomputable def Fly (base:Heap) (l:List Env) (ex:List Addr) (H:Hp) (g:Heap) (C e:Addr) (h:Heap):Prop:=
 ∃B a0 fl,B.StaysIn h/\B.get? e=none/\h.FunFrames B l/\h.TracedAtW B e (.ref C) a0 fl/\base.StaysIn B/\(∀b u,H b=some u-> ∃o,B.get? b=some o)/\ ∀b o,g.get? b=some o->b∉frs l->b∉ex-> ∃o',B.get? b=some o'
noncomputable def CXe (P:Program) (w:World) (base:Heap) (C:Addr):CXT:=fun outer H s E e s'=>
 ∃ea H',e= .ref ea/\s'.os=s.os/\AllBare s'.gens/\Un (frs outer) [] H H' s.heap s'.heap/\HOk P w H' s'.heap/\Fly base outer [] H' s.heap C ea s'.heap/\E (.ref C) none H'
noncomputable def Thrown (X:Cx) (C:Addr) (Z:Hp->Prop) (e:Value) (s':Shared):Prop:=X.Ok/\
 ∃ea H',e= .ref ea/\s'.os=X.s₀.os/\AllBare s'.gens/\Un (frs X.stack) X.ex X.H₀ H' X.s₀.heap s'.heap/\HOk X.prog X.w H' s'.heap/\Fly X.base X.stack X.ex H' X.s₀.heap C ea s'.heap/\(∃m,s'.heap.Ns X.env.locals m)/\H' X.env.locals=none/\Z H'
theorem qB {X:Cx} (ok:X.Ok): ∀b∈X.fs,b∈frs X.stack:=fun b hb=>by
 rcases ok.stk with h|⟨h,_⟩
 ·rw [h];exact hb
 ·rw [h]
  obtain ⟨env,he,hf⟩:=List.mem_filterMap.mp hb
  exact List.mem_filterMap.mpr ⟨env,List.mem_cons_of_mem _ he,hf⟩
theorem Aq {X:Cx}{C:Addr}{Z:Hp->Prop} (hx: ∀e s',Thrown X C Z e s'->X.xe e s'):gA (CXe X.prog X.w X.base C) X (fun _ _ H'=>Z H'):=by
 intro pins σ H s e s' I ⟨ea,H',he,os,bare,un,hok,⟨B,a0,fl,f1,f2,f3,f4,f5,f6,f7⟩,z⟩
 subst he
 have I':Inv X pins σ H' s':=I.call' os un hok bare (fun b z=>absurd z (by simp))
 obtain ⟨m,hm,_⟩:=I'.loc
 refine hx _ _ ⟨I.ok,ea,H',rfl,I'.os,bare,I'.base.mono (qB I.ok) (fun _ z=>z),hok,⟨B,a0,fl,f1,f2,f3,f4,f5,f6,fun b o q n m=> ?_⟩,⟨m,hm⟩,I'.free,z⟩
 obtain ⟨o',q'⟩:=I.base.there b o q m
 exact f7 b o' q' n (by simp)
theorem hU {l:List Env}{h h' B:Heap} (f3:h.FunFrames B l) (up:h.UpToSlots h'): ∀b∈frs l,∀o,h.get? b=some o-> ∃sl,h'.get? b=some {o with slots:=sl}:=fun b hb o q=>up b o q fun vs e=>by
 obtain ⟨_,o1,ho1,hd1⟩:=f3.mem hb
 rw [q] at ho1
 cases ho1
 exact hd1 vs e
theorem jv {P:Program}{w:World}{l:List Env}{ex:List Addr}{H H':Hp}{g h h' B:Heap} (un:Un (frs l) ex H H' g h) (hok:HOk P w H' h) (f1:B.StaysIn h)
  (f6: ∀b u,H' b=some u-> ∃o,B.get? b=some o) (f7: ∀b o,g.get? b=some o->b∉frs l->b∉ex-> ∃o',B.get? b=some o') (k1:B.StaysIn h')
  (nf: ∀b∈frs l,∀o,h.get? b=some o-> ∃sl,h'.get? b=some {o with slots:=sl}):Un (frs l) ex H H' g h'/\HOk P w H' h':=by
 refine ⟨⟨fun b o q n hb hx=> ?_,fun b o q n hb hx=> ?_,un.free,fun b o q hx=> ?_,un.tups,un.frzs,un.tbls⟩,fun b u q=> ?_⟩
 ·obtain ⟨o',e⟩:=f7 b o q hb hx
  have e1:=un.keep b o q n hb hx
  rw [f1 b o' e] at e1
  cases e1
  exact k1 b _ e
 ·obtain ⟨sl,e1⟩:=un.slot b o q n hb hx
  obtain ⟨sl',e2⟩:=nf b hb _ e1
  exact ⟨sl',e2⟩
 ·by_cases hb:b∈frs l
  ·obtain ⟨o',e1⟩:=un.there b o q hx
   obtain ⟨sl,e2⟩:=nf b hb _ e1
   exact ⟨_,e2⟩
  ·obtain ⟨o',e⟩:=f7 b o q hb hx
   exact ⟨o',k1 b _ e⟩
 ·refine (hok b u q).stay (fun c v hc r=> ?_) (fun _ q=>q) fun _ _ q=>q
  have hin: ∃o,B.get? c=some o:=by
   rcases hc with z|z
   ·rw [z];exact f6 b u q
   ·exact f6 c _ z
  obtain ⟨o,e⟩:=hin
  have e1:=f1 c o e
  rw [r] at e1
  cases e1
  exact k1 c _ e
section
variable {M:Model}{A:Around}{E:Value->Shared->Prop}{s:Shared}
theorem lG {base:Heap}{env:Env}{outer:List Env}{L e:Addr}{cls a0 fl:Value}{Q:Unit->Shared->Prop}
  (hfr:A.frames=some (env::outer)) (hl:s.heap.FunFrames base (env::outer)) (hf:env.frame=some L) (ht:s.heap.TracedAtW base e cls a0 fl) (hkb:base.StaysIn s.heap) (hen:base.get? e=none)
  (h: ∀h',Heap.NotedW base (env::outer) e cls a0 (rawInt L) s.heap h'->Q () {s with heap:=h'}):wpAny M A (noteFrame (.ref e) env) Q E s:=by
 by_cases hq:fl=rawInt L
 ·subst hq
  exact wpAny_noteFrame_againW hf ht (h s.heap ⟨hkb,hl,ht,Heap.UpToSlots.refl _⟩)
 ·obtain ⟨oe,vs,T,oT,ts,he,⟨hcls,h0⟩,hd,h1,hnT,hTe,hT,hdT,h3⟩:=ht
  subst hcls
  unfold noteFrame
  simp only [hf]
  refine wpAny_bind (wpAny_field he hd h1 ?_)
  rw [if_pos (show (Value.ref T !=Value.none)=true from by simp)]
  refine wpAny_bind (wpAny_field hT hdT h3 ?_)
  rw [if_neg (show¬((fl==rawInt L)=true) from by simpa using hq)]
  refine wpAny_bind (wpAny_setField hT hdT (Array.getElem?_eq_some_iff.mp h3).1 ?_)
  have other: ∀b,b≠T->(s.heap.update T (Obj.mapFields (·.setIfInBounds 3 Value.none))).get? b=s.heap.get? b:=fun b hb=>Heap.get?_update_other _ _ (Ne.symm hb)
  have noRecord: ∀b o,s.heap.get? b=some o->(∀vs,o.data≠ .fields vs)->b≠T:=fun b o hb hnf q=>by
   rw [q,hT] at hb;injection hb with hb;subst hb;exact hnf ts hdT
  exact wpAny_entryW hfr (hl.of_keeps fun b o hb hnf=>⟨o,(other b (noRecord b o hb hnf)).trans hb,rfl⟩) hf ((other e (Ne.symm hTe)).trans he)
   (fun b o hbo=>(other b fun q=>by rw [q,hnT] at hbo;cases hbo).trans (hkb b o hbo)) hen hd (Array.getElem?_eq_some_iff.mp h1).1 h0
   fun h' ⟨x1,x2,x3,x4⟩=>h h' ⟨x1,x2,x3,fun b o hb hnf=>x4 b o ((other b (noRecord b o hb hnf)).trans hb) hnf⟩
theorem lH {base:Heap}{l:List Env}{e:Addr}{cls a0 fl:Value}{to:Option Addr}{Q:Unit->Shared->Prop}
  (hkb:base.StaysIn s.heap) (hl:s.heap.FunFrames base l) (ht:s.heap.TracedAtW base e cls a0 fl)
  (h: ∀h' fl',base.StaysIn h'->h'.FunFrames base l->h'.TracedAtW base e cls a0 fl'->s.heap.UpToSlots h'->Q () {s with heap:=h'}):wpAny M A (setFlight (.ref e) to) Q E s:=by
 obtain ⟨oe,vs,T,oT,ts,he,hcls,hd,h1,hnT,hTe,hT,hdT,h3⟩:=ht
 have hsz3:3<ts.size:=(Array.getElem?_eq_some_iff.mp h3).1
 have other: ∀b,b≠T->(s.heap.update T (Obj.mapFields (·.setIfInBounds 3 (to.elim Value.none fun f=>rawInt f)))).get? b=s.heap.get? b:=
  fun b hb=>Heap.get?_update_other _ _ (Ne.symm hb)
 have noRecord: ∀b o,s.heap.get? b=some o->(∀vs,o.data≠ .fields vs)->b≠T:=fun b o hb hnf q=>by
  rw [q,hT] at hb;injection hb with hb;subst hb;exact hnf ts hdT
 unfold setFlight
 refine wpAny_bind (wpAny_field he hd h1 ?_)
 rw [if_pos (show (Value.ref T !=Value.none)=true from by simp)]
 refine wpAny_setField hT hdT hsz3 (h _ (to.elim Value.none fun f=>rawInt f) (fun b o hbo=>(other b fun q=>by rw [q,hnT] at hbo;cases hbo).trans (hkb b o hbo))
  (hl.of_keeps fun b o hb hnf=>⟨o,(other b (noRecord b o hb hnf)).trans hb,rfl⟩) ?_ fun b o hb hnf=>⟨o.slots,(other b (noRecord b o hb hnf)).trans hb⟩)
 exact ⟨oe,vs,T,_,_,(other e (Ne.symm hTe)).trans he,hcls,hd,h1,hnT,hTe,Heap.get?_update_self _ hT (Obj.isFreed_of_fields (Obj.data_mapFields hdT _)),Obj.data_mapFields hdT _,by simp [hsz3]⟩
end
section
variable {P:Program}{w:World}{K:PySem.W.Frag}{mg:Str->Option Value}{base:Heap}{N:List Str}{qual:Str}{scope:Scope}{f C:Addr}{cd:Value}{A:Around}{outer:List Env}{s:Shared}{H:Hp}{E:XK}
theorem lI {b:Addr}{o:Obj} (q:s.heap.get? b=some o) (n:b∉frs outer):b∉frs (envOfC qual scope s.heap.objs.size f cd::outer):=fun m=>by
 obtain ⟨env,he,hf⟩:=List.mem_filterMap.mp m
 rcases List.mem_cons.mp he with rfl|he
 ·have e:s.heap.objs.size=b:=Option.some.inj hf
  rw [<-e] at q
  exact absurd (Heap.lt_size q) (Nat.lt_irrefl _)
 ·exact n (List.mem_filterMap.mpr ⟨env,he,hf⟩)
theorem jw {e:Value}{s':Shared} (T:Thrown (cxOf (CXe P w base C) P w K mg base N qual scope f cd A outer s H E) C (E (.ref C) none) e s'):
  (cxOf (CXe P w base C) P w K mg base N qual scope f cd A outer s H E).xe e s':=by
 obtain ⟨ok,ea,H',he,os,bare,un,hok,⟨B,a0,fl,f1,f2,f3,f4,f5,f6,f7⟩,_,_,z⟩:=T
 subst he
 show wpAny _ _ (leaving _ (.ref ea)) _ _ s'
 unfold leaving
 refine wpAny_bind (lG ok.frames f3 (L:=s.heap.objs.size) rfl f4 f1 f2 fun h1 ⟨k1,k2,k3,k4⟩=> ?_)
 refine wpAny_landsW (s:={s' with heap:=h1}) (L:=s.heap.objs.size) ⟨k1,f2,k2,k3⟩ fun h' x up=> ?_
 obtain ⟨un',hok'⟩:=jv un hok f1 f6 f7 x.1 (hU f3 (Heap.UpToSlots.trans k4 up))
 have nx: ∀b:Addr,b∉(cxOf (CXe P w base C) P w K mg base N qual scope f cd A outer s H E).ex:=fun b z=>absurd (show b∈([]:List Addr) from z) (by simp)
 refine ⟨ea,H',rfl,os,bare,⟨fun b o q n hb _=>un'.keep b o q n (lI q hb) (nx b),fun b o q n hb _=>un'.any q n (nx b),fun b o q n _=>un'.free b o q n (nx b),fun b o q _=>un'.there b o q (nx b),un'.tups,un'.frzs,un'.tbls⟩,hok',
  ⟨B,a0,.none,x.1,x.2.1,x.2.2.1.2.2,x.2.2.2,f5,f6,fun b o q n _=>f7 b o q (lI q n) (nx b)⟩,z⟩
theorem Ar {pins:List (Addr×Obj)}{σ:St}{H':Hp}{s':Shared}{ea:Addr}{h':Heap}{vs:List Value} (I:Inv (cxOf (CXe P w base C) P w K mg base N qual scope f cd A outer s H E) pins σ H' s')
  (hx:Heap.MadeExcOf s'.heap h' ea (.ref C) vs) (z:E (.ref C) none H'):(cxOf (CXe P w base C) P w K mg base N qual scope f cd A outer s H E).xe (.ref ea) {s' with heap:=h'}:=by
 have stk:s'.heap.FunFrames base (envOfC qual scope s.heap.objs.size f cd::outer):=I.stack
 have hin: ∀env∈(envOfC qual scope s.heap.objs.size f cd::outer),∀b,env.frame=some b->b∈frs (envOfC qual scope s.heap.objs.size f cd::outer):=fun env he b hb=>List.mem_filterMap.mpr ⟨env,he,hb⟩
 have I2:Inv (cxOf (CXe P w base C) P w K mg base N qual scope f cd A outer s H E) pins σ H' {s' with heap:=h'}:=I.kept (t':=s'.toks) hx.keeps
 have nx: ∀b:Addr,b∉(cxOf (CXe P w base C) P w K mg base N qual scope f cd A outer s H E).ex:=fun b z=>absurd (show b∈([]:List Addr) from z) (by simp)
 have hf2:=(PySem.W.funFrames_hide stk hin).of_keeps (h':=h') fun b o q _=>⟨o,hx.keeps b o q,rfl⟩
 have g6: ∀b u,H' b=some u-> ∃o,(PySem.W.hideAll s'.heap (frs (envOfC qual scope s.heap.objs.size f cd::outer))).get? b=some o:=fun b u q=>by
  obtain ⟨o,ho⟩:=ax.there (I.hok b u q)
  refine ⟨o,PySem.W.hideAll_get _ ho fun m=> ?_⟩
  have e2:=I.stkFree b m
  rw [q] at e2
  cases e2
 have g7: ∀b o,s.heap.get? b=some o->b∉frs outer->b∉([]:List Addr)-> ∃o',(PySem.W.hideAll s'.heap (frs (envOfC qual scope s.heap.objs.size f cd::outer))).get? b=some o':=fun b o q n _=>by
  obtain ⟨o',e⟩:=I.base.there b o q (nx b)
  exact ⟨o',PySem.W.hideAll_get _ e (lI q n)⟩
 have g5:base.StaysIn (PySem.W.hideAll s'.heap (frs (envOfC qual scope s.heap.objs.size f cd::outer))):=fun b o q=>PySem.W.hideAll_get _ (I.bk b o q) fun m=>by
  rw [(stk.mem m).1] at q
  cases q
 show wpAny _ _ (leaving _ (.ref ea)) _ _ _
 refine wpAny_leaves_madeW (s:={s' with heap:=h'}) (base:=PySem.W.hideAll s'.heap (frs (envOfC qual scope s.heap.objs.size f cd::outer))) (h:=s'.heap) I.ok.frames rfl (fun b o q=>PySem.W.of_hideAll _ q) (PySem.W.funFrames_hide stk hin) hx fun h'' t x1 x2 x3 up=> ?_
 obtain ⟨un',hok'⟩:=jv (l:=outer) (ex:=[]) (B:=PySem.W.hideAll s'.heap (frs (envOfC qual scope s.heap.objs.size f cd::outer))) I2.base I2.hok (fun b o q=>hx.keeps b o (PySem.W.of_hideAll _ q)) g6 g7 x1.1 (hU hf2.2.2 up)
 exact ⟨ea,H',rfl,I.os,I.bare,un',hok',⟨_,_,.none,x1.1,x1.2.1,x1.2.2.1,x1.2.2.2,g5,g6,g7⟩,z⟩
end
end L2
set_option maxHeartbeats 4000000
namespace L2
open PySem PySem.Spec PyProof.Rows
noncomputable def PRs (X:Cx) (ms:List Nat) (Z:Hp->Prop) (st:Stmt) (m:Dt->Bool):Prop:=
 ∀(W:Addr->Prop) (pins:List (Addr×Obj)) (s:Shared) (δ:Dt) (σ:St) (H0 H:Hp) (QQ:Flow->Shared->Prop),Inv X pins σ H s->Rel X.K ms W H0 δ σ H->m δ=true->(∀H',Same H0 H'->Z H')->wpAny (model X.prog X.w) X.A (exec st X.env) QQ X.xe s
noncomputable def PRss (X:Cx) (ms:List Nat) (Z:Hp->Prop) (st:List Stmt) (m:Dt->Bool):Prop:=
 ∀(W:Addr->Prop) (pins:List (Addr×Obj)) (s:Shared) (δ:Dt) (σ:St) (H0 H:Hp) (QQ:Flow->Shared->Prop),Inv X pins σ H s->Rel X.K ms W H0 δ σ H->m δ=true->(∀H',Same H0 H'->Z H')->wpAny (model X.prog X.w) X.A (execs st X.env) QQ X.xe s
noncomputable def PRe (X:Cx) (ms:List Nat) (Z:Hp->Prop) (e:Expr) (m:Dt->Bool):Prop:=
 ∀(W:Addr->Prop) (pins:List (Addr×Obj)) (s:Shared) (δ:Dt) (σ:St) (H0 H:Hp) (QQ:Value->Shared->Prop),Inv X pins σ H s->Rel X.K ms W H0 δ σ H->m δ=true->(∀H',Same H0 H'->Z H')->wpAny (model X.prog X.w) X.A (eval e X.env) QQ X.xe s
section
variable {X:Cx}{ms:List Nat}{Z:Hp->Prop}{st:Stmt}{rest a b:List Stmt}{m m':Dt->Bool}{e c:Expr}{pos p:Pos}
theorem hV (h:PRss X ms Z rest m) (h':PRss X ms Z rest m'):PRss X ms Z rest (fun δ=>m δ||m' δ):=fun W pins s δ σ H0 H QQ I R hm hz=>by
 rcases Bool.or_eq_true_iff.mp hm with q|q
 ·exact h W pins s δ σ H0 H QQ I R q hz
 ·exact h' W pins s δ σ H0 H QQ I R q hz
theorem bO (h:PRs X ms Z st m):PRss X ms Z (st::rest) m:=fun W pins s δ σ H0 H QQ I R hm hz=>wpAny_execs_cons (h W pins s δ σ H0 H _ I R hm hz)
noncomputable def bg (a:SM) (m:Dt->Bool):Dt->Bool:=fun δ=>match a δ with
 |some (.nx δ1)=>m δ1
 |_=>false
theorem bY {rk:Kd}{ma:SM} (h1:PDs X ms rk st ma) (h2:PRss X ms Z rest m):PRss X ms Z (st::rest) (bg ma m):=fun W pins s δ σ H0 H QQ I R hm hz=>by
 obtain ⟨t,p,q⟩:=h1
 unfold bg at hm
 split at hm
 ·rename_i δ1 e1
  have hn:=q δ σ H0 H {nx:=fun σ' H'=> ∃W',Rel X.K ms W' H0 δ1 σ' H',rt:=fun _ _=>False} _ R e1 (fun W' σ' H' _ R'=>⟨W',R'⟩)
  refine wpAny_execs_cons (thn (p pins s σ H _ I hn) fun f s1 hq=> ?_)
  cases f with
  |next=>
   obtain ⟨σ',H',I',W',R'⟩:=hq
   exact h2 W' pins s1 δ1 σ' H0 H' QQ I' R' hm hz
  |ret v=>
   obtain ⟨_,_,_,_,_,z⟩:=hq
   exact False.elim z
  |brk=>
   obtain ⟨_,_,_,z⟩:=hq
   exact False.elim z
  |cont=>
   obtain ⟨_,_,_,z⟩:=hq
   exact False.elim z
 ·cases hm
noncomputable def rIf (tc:Dt->Option Bool) (m:Dt->Bool):Dt->Bool:=fun δ=>match tc δ with
 |some true=>m δ
 |_=>false
theorem fI {tc:Dt->Option Bool} (hc:PDt X ms c tc) (ha:PRss X ms Z a m):PRs X ms Z (.If c a b pos) (rIf tc m):=fun W pins s δ σ H0 H QQ I R hm hz=>by
 obtain ⟨t,p,q⟩:=hc
 unfold rIf at hm
 split at hm
 ·rename_i e1
  refine wpAny_If (thn (p pins s σ H (fun b H1=>b=true/\Same H H1) I (q δ σ H0 H _ true R e1 fun H1 s1=>⟨rfl,s1⟩)) fun d s1 ⟨H1,I1,hd,s1'⟩=> ?_)
  subst hd
  exact ha W pins s1 δ σ H0 H1 _ I1 (R.same s1') hm hz
 ·cases hm
theorem qC (h:PRe X ms Z e m):PRs X ms Z (.Return (some e) pos) m:=fun W pins s δ σ H0 H QQ I R hm hz=>wpAny_Return_some (h W pins s δ σ H0 H _ I R hm hz)
theorem As {x:Str}{T:String} (h:PRe X ms Z e m) (hg:Gl X x) (hm:X.mg x=none) (hv:bootBuiltins x=some (.type T)) (hn:x≠"__name__":=by decide) (hdb:(x==("__debug__":Str))=false:=by decide)
  (he:starEach [e] X.env=[(false,eval e X.env)]:=by rfl):PRe X ms Z (.Call (.Name x p) [e] [] pos) m:=fun W pins s δ σ H0 H QQ I R hq hz=>by
 refine wpAny_Call_Name_kw (gv I hg hm hv ?_ hn hdb)
 refine PyProof.Rows.callWith_type1 ?_ he rfl
 rw [he]
 exact Calls.spliced_cons (h W pins s δ σ H0 H _ I R hq hz)
end
noncomputable def spX (K:PySem.W.Frag) (C:Addr) (m:List Dv->Bool):Sp:=fun vs H _ E=> ∃ds,RepsF K (fun _=>True) H vs ds/\m ds=true/\ ∀H',Same H H'->E (.ref C) none H'
noncomputable def bZ (n np:Nat) (m:Dt->Bool) (ds:List Dv):Bool:=decide (ds.length=np)&&m (aX n ds)
section
variable {P:Program}{w:World}{K:PySem.W.Frag}{mg:Str->Option Value}{base:Heap}{C:Addr}
theorem jy {x qual:Str}{st:Stmt}{f:Addr}{fd:FuncData}{N ps:List Str}{k:Nat}{m:Dt->Bool} (ms:List Nat) (F:Fun K x qual st f fd) (S:be N ps (au st)) (hms:ms.all (fun i=>decide (ps.length<=if 2000<=i then i-2000 else if 1000<=i then i-1000 else i))=true) (hps:decide (ps.length<=N.length)=true)
  (hb: ∀(cdv:Value) (A:Around) (outer:List Env) (s:Shared) (H:Hp) (E:XK),Room k (A.deeper (envOfC qual (au st) s.heap.objs.size f cdv))->PRss (cxOf (CXe P w base C) P w K mg base N qual (au st) f cdv A outer s H E) ms (E (.ref C) none) (aV st) m):
  FnOk P w K mg base (CXe P w base C) (k+1) f fd ps (spX K C (bZ N.length ps.length m)):=by
 obtain ⟨oc,od,kV,doc,pm,an,cdv,ct,osl,rfl,lk,hcd⟩:=F.ex
 have len: ∀{ds:List Dv},bZ N.length ps.length m ds=true->ds.length=ps.length/\m (aX N.length ds)=true:=fun {ds} h=>by
  unfold bZ at h
  rw [Bool.and_eq_true] at h
  exact ⟨of_decide_eq_true h.1,h.2⟩
 refine nl lk hcd S (fun vs H Q E h=> ?_) fun A outer s H vs Q E hr h=> ?_
 ·obtain ⟨ds,r,hm,_⟩:=h
  rw [r.length]
  exact (len hm).1
 ·obtain ⟨ds,r,hm,hz⟩:=h
  obtain ⟨hl,hm⟩:=len hm
  have hps':=of_decide_eq_true hps
  have R:Rel K ms W0 H (aX N.length ds) (bG N vs) H:=oN r (fun i hi=>by rw [hl];exact kI hms hi) (by lia)
  exact ⟨fun _ σ' H'=>Rel K ms W0 H (aX N.length ds) σ' H',fun pins s' σ' H' D I R'=>hb cdv A outer s H E hr W0 pins s' _ σ' H H' _ I R' hm hz,R⟩
end
noncomputable def DefX (P:Program) (w:World) (K:PySem.W.Frag) (mg:Str->Option Value) (base:Heap) (C:Addr) (k:Nat) (x:Str) (ps:List Str) (sp:Sp):Prop:=
 ∃f fd,FnOk P w K mg base (CXe P w base C) k f fd ps sp/\mg x=some (.ref f)/\PySem.W.keepIn K (.ref f)=true/\cR K fd ps []
section
variable {X:Cx}{ms:List Nat}{Z:Hp->Prop}{k1:Kd}{a:Expr}{es:List Expr}{ml:Dt->Option (List Dv)}{m:List Dv->Bool}{x:Str}{ps:List Str}{p pos:Pos}{C:Addr}
noncomputable def aM (m:List Dv->Bool) (ml:Dt->Option (List Dv)):Dt->Bool:=fun δ=>match ml δ with
 |some xs=>m xs
 |none=>false
theorem jz {k:Nat} (D:DefX X.prog X.w X.K X.mg X.base C k x ps (spX X.K C m)) (hr:Room k X.A) (hx: ∀e s',Thrown X C Z e s'->X.xe e s') (ha:PDa X ms k1 (a::es) ml) (hg:Gl X x:=by rfl)
  (hdb:(x==("__debug__":Str))=false:=by decide) (he:starEach (a::es) X.env=(false,eval a X.env)::starEach es X.env:=by rfl) (hpl:(backTo pos (starEach es X.env)).any (·.1)=false:=by rfl):
  PRe X ms Z (.Call (.Name x p) (a::es) [] pos) (aM m ml):=fun W pins s δ σ H0 H QQ I R hm hz=>by
 obtain ⟨f,fd,F,hf,hk,hb⟩:=D
 obtain ⟨ta,pa,qa⟩:=ha
 unfold aM at hm
 split at hm
 ·rename_i xs e1
  refine thn (m9 (dvs:=[]) (ds:=[]) (E:=fun _ _ H'=>Z H') F hr hg hf hk hb .nil (Aq hx) pa hdb he hpl pins s σ H (fun _ _=>False) I ?_) fun v s' ⟨_,_,_,_,z⟩=>z.elim
  refine qa δ σ H0 H _ xs R e1 fun vs H1 s1 g1=> ?_
  refine ⟨xs,?_,hm,fun H' s2=>hz H' (R.keep.tr (s1.tr s2))⟩
  rw [List.append_nil]
  exact g1.bor
 ·cases hm
end
section
variable {P:Program}{w:World}{K:PySem.W.Frag}{mg:Str->Option Value}{base:Heap}{N:List Str}{qual:Str}{scope:Scope}{f C:Addr}{cd:Value}{A:Around}{outer:List Env}{s:Shared}{H:Hp}{E:XK}
theorem fJ {ms:List Nat}{x:Str}{a:Expr}{np cpos pos:Pos}{bm:List Value}{B newId initId:String}{k1:Kd}{ml:EM} (O:OwnCls x C bm newId mg base) (FB:ExcBaseFacts B newId initId bm)
  (ha:PD (cxOf (CXe P w base C) P w K mg base N qual scope f cd A outer s H E) ms k1 a ml) (hg:Gl (cxOf (CXe P w base C) P w K mg base N qual scope f cd A outer s H E) x:=by rfl)
  (hdb:(x==("__debug__":Str))=false:=by decide)
  (he:starEach [a] (cxOf (CXe P w base C) P w K mg base N qual scope f cd A outer s H E).env=[(false,eval a (cxOf (CXe P w base C) P w K mg base N qual scope f cd A outer s H E).env)]:=by rfl):
  PRs (cxOf (CXe P w base C) P w K mg base N qual scope f cd A outer s H E) ms (E (.ref C) none) (.Raise (some (.Call (.Name x np) [a] [] cpos)) none pos) (fun δ=>(ml δ).isSome):=fun W pins s' δ σ H0 H' QQ I R hm hz=>by
 obtain ⟨ta,pa,qa⟩:=ha
 obtain ⟨d,e1⟩:=Option.isSome_iff_exists.mp hm
 obtain ⟨tl,Nn,nm,q,bs,hdct,sn,sub,ab,col,dd,k0,k1,k2,k3,k5,mN,hC,hN,hni,T⟩:=O.obj
 refine wpAny_Raise_call_subT (C:=C) (nm:=nm) (q:=q) (N:=Nn) (bs:=bs) (bm:=tl) (hdct:=hdct) (sn:=sn) (sub:=sub) (ab:=ab) (col:=col) (dd:=dd) (k0:=k0) (k1:=k1) (k2:=k2) (k3:=k3) (k5:=k5)
  FB (mN:=mN) (T.hasType FB.hasBase) (I.ok.hd rfl) (by rw [he];rfl) hni (gu I hg O.bound ⟨rfl,?_⟩ hdb)
 rw [he]
 refine Calls.evalArgs_plain (Calls.spliced_cons (thn (pa pins s' σ H' (fun v H1=>Same H' H1) I (qa δ σ H0 H' _ d R e1 fun v H1 s1 g1=>s1)) fun u s1 ⟨v,H1,I1,r1,q1⟩=>Calls.spliced_nil ?_))
 exact ⟨rfl,Nat.le_of_lt (nM (n:=1) (by decide)),I1.bk _ _ hC,hN.keeps I1.bk,T.keeps I1.bk,fun h' e hx=>Ar I1 hx (hz _ (R.keep.tr q1))⟩
end
end L2
set_option maxHeartbeats 4000000
namespace L2
open PySem PySem.Spec PyProof.Rows
theorem At {e:Value}{env env':Env} (h:env.frame=env'.frame):noteFrame e env=noteFrame e env':=by unfold noteFrame PySem.frameOf;rw [h]
theorem jA {B:Heap}{C b:Addr}{o:Obj} (h:(PySem.W.hideAll B [C]).get? b=some o):B.get? b=some o/\b≠C:=by
 refine ⟨PySem.W.of_hideAll _ h,fun z=> ?_⟩
 subst z
 rw [PySem.W.hideAll_none (l:=[b]) (List.mem_cons_self)] at h
 cases h
theorem lJ {B:Heap}{C b:Addr} (h:B.get? b=none):(PySem.W.hideAll B [C]).get? b=none:=by
 cases q:(PySem.W.hideAll B [C]).get? b with
 |none=>rfl
 |some o=>rw [(jA q).1] at h;cases h
theorem lK {B:Heap}{C b:Addr}{o:Obj} (h:B.get? b=some o) (n:b≠C):(PySem.W.hideAll B [C]).get? b=some o:=PySem.W.hideAll_get _ h fun m=>n (by simpa using m)
theorem Au {h h2 B:Heap}{C e:Addr}{m:Str->Option Value}{cls a0 fl:Value} (hn:h.Ns C m) (sb:Heap.SameBut C h h2) (k:h.TracedAtW B e cls a0 fl):h2.TracedAtW (PySem.W.hideAll B [C]) e cls a0 fl:=by
 obtain ⟨oe,vs,T,oT,ts,he,hcls,hd,h1,hnT,hTe,hT,hdT,h3⟩:=k
 obtain ⟨o,es,ep,ho,hdo,_⟩:=hn
 have ne:e≠C:=fun z=>by rw [z,ho] at he;cases he;rw [hdo] at hd;cases hd
 have nT:T≠C:=fun z=>by rw [z,ho] at hT;cases hT;rw [hdo] at hdT;cases hdT
 exact ⟨oe,vs,T,oT,ts,(sb.2 e ne).trans he,hcls,hd,h1,lJ hnT,hTe,(sb.2 T nT).trans hT,hdT,h3⟩
theorem qD {h h2 B:Heap}{C:Addr} (sb:Heap.SameBut C h h2): ∀{l:List Env},C∉frs l->h.FunFrames B l->h2.FunFrames (PySem.W.hideAll B [C]) l
 |[],_,_=>trivial
 |env::l,hC,⟨hk,⟨L,o,hf,hn,ho,hd⟩,hr⟩=>by
  have nL:L≠C:=fun z=>hC (List.mem_filterMap.mpr ⟨env,List.mem_cons_self,by rw [hf,z]⟩)
  refine ⟨hk,⟨L,o,hf,lJ hn,(sb.2 L nL).trans ho,hd⟩,qD sb (fun m=>hC ?_) hr⟩
  obtain ⟨env',he,hf'⟩:=List.mem_filterMap.mp m
  exact List.mem_filterMap.mpr ⟨env',List.mem_cons_of_mem _ he,hf'⟩
theorem Av {h h':Heap}{L:Addr}{m:Str->Option Value} (hn:h.Ns L m) (k: ∀o,h.get? L=some o-> ∃sl,h'.get? L=some {o with slots:=sl}):h'.Ns L m:=by
 obtain ⟨o,es,ep,ho,r⟩:=hn
 obtain ⟨sl,e⟩:=k o ho
 exact ⟨_,es,ep,e,r⟩
section
variable {prog:Program}{w:World}{A:Around}{R:Result->Shared->Prop}{s:Shared}
theorem Aw {elt target iter:Expr}{scope:Scope}{pos:Pos}{it acc:Value}{env:Env} (I:Nat->Shared->Prop) (XE:Value->Shared->Prop) (hE: ∀e s',XE e s'->notedBy (model prog w) A env (fun e s'=>R (.error e) s') e s')
  (turn: ∀n s,I n s->wpAny (model prog w) A (pyNext it) (fun r s₁=>match r with
   |none=>False
   |some v=>wpAny (model prog w) A (letOwnedTupleGo target it v) (fun _ s₁'=>wpAny (model prog w) A (assign target env v) (fun _ s₂=>
      wpAny (model prog w) A (eval elt env) (fun x s₄=>
       wpAny (model prog w) A (call (.builtin "list.append") [acc,x]) (fun _ s₅=> ∃m,m<n/\I m s₅) X0 s₄) XE s₂) X0 s₁') X0 s₁) X0 s)
  (n:Nat) (h:I n s):codeAny (model prog w) A (.compLoop (.ListComp elt [⟨target,iter,[],0⟩] scope pos) 0 it acc env) R s:=by
 refine codeAny_loop rfl I (fun n s hI=> ?_) n h
 show wpAny _ A ((compTurn (.ListComp elt [⟨target,iter,[],0⟩] scope pos) 0 it acc env).onRaise (fun x=>do noteFrame x env;theTreesLotGoes x)) _ _ s
 refine wpAny_noted ?_
 rw [compTurn_list]
 refine wpAny_bind (wpAny_standAt (wpAny_bind (kr (wpAny_mono (turn n s hI) (fun r s₁ h₁=> ?_) fun _ _ h'=>False.elim h'))))
 cases r with
 |none=>exact False.elim h₁
 |some v=>
  refine wpAny_bind (wpAny_mono h₁ (fun _ s₁' h₁'=> ?_) fun _ _ h'=>False.elim h')
  refine wpAny_bind (wpAny_mono h₁' (fun _ s₂ h₂=>wpAny_bind (wpAny_tests_nil ?_)) fun _ _ h'=>False.elim h')
  exact wpAny_bind (wpAny_bind (wpAny_mono h₂ (fun x s₄ h₄=>wpAny_bind (wpAny_mono h₄ (fun _ s₅ h₅=>wpAny_pure (wpAny_pure ⟨rfl,h₅⟩)) fun _ _ h'=>False.elim h')) hE))
end
theorem Ax {X:Cx}{scope:Scope}{N':List Str}{Cl Cp:Addr}{Z:Hp->Prop}{pins:List (Addr×Obj)}{σ:St}{H2:Hp}{s2 s':Shared}{fp:List Addr}{e:Value}{use:Option (Value->Sem Unit)}{QQ:Value->Shared->Prop}{l:Value}
  (hX: ∀e s',Thrown X Cl Z e s'->X.xe e s') (hst:X.stack=X.env::X.outer) (hfm:X.env.frame=some X.env.locals) (I2:Inv X pins σ H2 s2) (f2: ∀b∈fp,FpOk X pins H2 b) (hC:s2.heap.objs.size<=Cp)
  (T:Thrown (ak X scope N' Cp s2 H2 fp) Cl Z e s'):notedBy (model X.prog X.w) X.A (ak X scope N' Cp s2 H2 fp).env (fun e s'=>compPost (model X.prog X.w) X.A X.xe use QQ l Cp (.error e) s') e s':=by
 obtain ⟨okY,ea,H',he,os,bare,un,hok,⟨B,a0,fl,g1,g2,g3,g4,g5,g6,g7⟩,⟨m,hm⟩,hfree,z⟩:=T
 subst he
 have un:Un (frs X.stack) fp H2 H' s2.heap s'.heap:=un
 have g3:s'.heap.FunFrames B X.stack:=g3
 have g7: ∀b o,s2.heap.get? b=some o->b∉frs X.stack->b∉fp-> ∃o',B.get? b=some o':=g7
 have hm:s'.heap.Ns Cp m:=hm
 have hfree:H' Cp=none:=hfree
 have hCf:Cp∉frs X.stack:=fun mm=>by
  obtain ⟨_,o,ho,_⟩:=I2.stack.mem mm
  exact absurd (Nat.lt_of_lt_of_le (Heap.lt_size ho) hC) (Nat.lt_irrefl _)
 have hnf: ∀b o,X.s₀.heap.get? b=some o->b∉X.ex->b∉fp:=fun b o q hx hb=>by
  rcases (f2 b hb).2.2.2.1 with y|y
  ·exact hx y
  ·exact absurd (Nat.lt_of_lt_of_le (Heap.lt_size q) y) (Nat.lt_irrefl _)
 have unA:Un (frs X.stack) X.ex X.H₀ H2 X.s₀.heap s2.heap:=I2.base.mono (qB I2.ok) fun _ y=>y
 have unX:Un (frs X.stack) X.ex X.H₀ H' X.s₀.heap s'.heap:=by
  refine ⟨fun b o q n hb hx=>un.keep b o (unA.keep b o q n hb hx) (unA.free b o q n hx) hb (hnf b o q hx),fun b o q n hb hx=> ?_,fun b o q n hx=> ?_,fun b o q hx=> ?_,fun b xs q=>un.tups b xs (unA.tups b xs q),fun b u xs q=>un.frzs b u xs (unA.frzs b u xs q),fun b ps q=>un.tbls b ps (unA.tbls b ps q)⟩
  ·obtain ⟨sl,e1⟩:=unA.slot b o q n hb hx
   obtain ⟨sl',e2⟩:=un.slot b _ e1 (unA.free b o q n hx) hb (hnf b o q hx)
   exact ⟨sl',e2⟩
  ·obtain ⟨o',e1⟩:=unA.there b o q hx
   exact un.free b o' e1 (unA.free b o q n hx) (hnf b o q hx)
  ·obtain ⟨o',e1⟩:=unA.there b o q hx
   exact un.there b o' e1 (hnf b o q hx)
 have hLfp:X.env.locals∉fp:=fun y=>(f2 _ y).2.1 rfl
 have hL':H' X.env.locals=none:=by
  obtain ⟨m0,⟨o,es,ep,ho,_⟩,_⟩:=I2.loc
  exact un.free _ o ho I2.free hLfp
 have hLC:X.env.locals≠Cp:=fun y=>by
  obtain ⟨m0,⟨o,es,ep,ho,_⟩,_⟩:=I2.loc
  rw [y] at ho
  exact absurd (Nat.lt_of_lt_of_le (Heap.lt_size ho) hC) (Nat.lt_irrefl _)
 unfold notedBy
 rw [At (show (ak X scope N' Cp s2 H2 fp).env.frame=X.env.frame from rfl)]
 refine lG (hst▸I2.ok.frames) (hst▸g3) hfm g4 g1 g2 fun h1 ⟨k1,k2,k3,k4⟩=> ?_
 rw [<-hst] at k2
 have fin: ∃m,h1.Ns Cp m/\ ∀h',Heap.SameBut Cp h1 h'-> ∀cenv:Env,cenv.locals=Cp->wpAny (model X.prog X.w) X.A (PySem.passOn "comprehension.variables-let-go" (.ref ea) cenv:Sem Value) (fun _ _=>False) X.xe {s' with heap:=h'}:=by
  refine ⟨m,Heap.UpToSlots.ns k4 hm,fun h2 sb cenv _=> ?_⟩
  have t2:=Au (Heap.UpToSlots.ns k4 hm) sb k3
  have fr2:=qD sb hCf k2
  have st2:(PySem.W.hideAll B [Cp]).StaysIn h2:=fun b o q=>(sb.2 b (jA q).2).trans (k1 b o (jA q).1)
  unfold PySem.passOn
  obtain ⟨oe,vs,T,oT,ts,ce,ccls,cd,c1,cnT,cTe,cT,cdT,c3⟩:=id t2
  refine wpAny_bind (wpAny_field (s:={s' with heap:=h2}) ce cd c1 ?_)
  rw [if_neg (show¬((Value.ref T==Value.none)=true) from by simp)]
  refine wpAny_bind (lH (s:={s' with heap:=h2}) st2 fr2 t2 fun h3 fl' x1 x2 x3 up3=> ?_)
  refine wpAny_throw (hX _ _ ?_)
  have nf: ∀b∈frs X.stack,∀o,s'.heap.get? b=some o-> ∃sl,h3.get? b=some {o with slots:=sl}:=fun b hb o q=>by
   obtain ⟨sl1,e1⟩:=hU g3 k4 b hb o q
   have e2:h2.get? b=some {o with slots:=sl1}:=(sb.2 b fun y=>hCf (y▸hb)).trans e1
   obtain ⟨sl3,e3⟩:=hU fr2 up3 b hb _ e2
   exact ⟨sl3,e3⟩
  have h6: ∀b u,H' b=some u-> ∃o,(PySem.W.hideAll B [Cp]).get? b=some o:=fun b u q=>by
   obtain ⟨o,e⟩:=g6 b u q
   exact ⟨o,lK e fun y=>by rw [y,hfree] at q;cases q⟩
  have h7: ∀b o,X.s₀.heap.get? b=some o->b∉frs X.stack->b∉X.ex-> ∃o',(PySem.W.hideAll B [Cp]).get? b=some o':=fun b o q n hx=>by
   obtain ⟨o',e1⟩:=unA.there b o q hx
   obtain ⟨o2,e2⟩:=g7 b o' e1 n (hnf b o q hx)
   exact ⟨o2,lK e2 fun y=>absurd (Nat.lt_of_lt_of_le (Heap.lt_size (y▸e1)) hC) (Nat.lt_irrefl _)⟩
  obtain ⟨un3,hok3⟩:=jv unX hok (fun b o q=>g1 b o (jA q).1) h6 h7 x1 nf
  refine ⟨I2.ok,ea,H',rfl,(show s'.os=s2.os from os).trans I2.os,bare,un3,hok3,⟨_,a0,fl',x1,lJ g2,x2,x3,fun b o q=> ?_,h6,h7⟩,?_,hL',z⟩
  ·refine lK (g5 b o q) fun y=> ?_
   have e1:=I2.bk b o q
   exact absurd (Nat.lt_of_lt_of_le (Heap.lt_size (y▸e1)) hC) (Nat.lt_irrefl _)
  ·obtain ⟨m0,hm0,_⟩:=I2.loc
   have hmem:X.env.locals∈frs X.stack:=by rw [hst];exact List.mem_filterMap.mpr ⟨X.env,List.mem_cons_self,hfm⟩
   refine ⟨m0,Av hm0 fun o q=> ?_⟩
   obtain ⟨sl,e1⟩:=un.slot _ o q I2.free hmem hLfp
   obtain ⟨sl',e2⟩:=nf _ hmem _ e1
   exact ⟨sl',e2⟩
 cases use<;>exact fin
noncomputable def Ay (ρ:List (Option Nat)) (wi:TI) (g:TG) (te:TE) (tx:St->Hp->Prop):St->Hp->Prop:=fun σ H=>wi σ H fun J H1=> ∃W:Nat->Nat->List V->St->Hp->Prop,(∃m,W 0 m [] (pull ρ σ) H1)/\ ∀i m acc σc Hc,W i m acc σc Hc->
 J.go i Hc/\acc.length<sizeLine/\ ∃N:List V->St->Hp->Prop,(∀acc' σ' H',N acc' σ' H'-> ∃m',m'<m/\W (i+1) m' acc' σ' H')/\
  ∀x H',J.yld i Hc x H'->g x σc H' fun σ2 H2=>(te σ2 H2 fun v H4=>N (acc++[v]) σ2 H4) \/tx σ2 H2
section
variable {X:Cx}{scope:Scope}{N':List Str}{ρ:List (Option Nat)}{tg iter elt:Expr}{pos:Pos}{wi:TI}{g:TG}{te:TE}{tx:St->Hp->Prop}
theorem qE {use:Option (Value->Sem Unit)}{pins:List (Addr×Obj)}{s:Shared}{σ:St}{H:Hp}{QQ:Value->Shared->Prop}{Cl:Addr}{Z:Hp->Prop} (hX: ∀e s',Thrown X Cl Z e s'->X.xe e s') (hst:X.stack=X.env::X.outer) (hfm:X.env.frame=some X.env.locals)
  (hc:X.calm=true) (hi:PI X tg iter wi) (hg: ∀C s H fp,PG (ak X scope N' C s H fp) tg g) (he: ∀C s H fp,PE (ak X scope N' C s H fp) elt te)
  (hx: ∀C s H fp pins s' σ' H' QQ,Inv (ak X scope N' C s H fp) pins σ' H' s'->tx σ' H'->wpAny (model X.prog X.w) X.A (eval elt (ak X scope N' C s H fp).env) QQ (Thrown (ak X scope N' C s H fp) Cl Z) s')
  (ck:gG scope X.env.scope X.N N' ρ) (hs: ∀x,foldedSetIterable iter X.env x=pure x) (I:Inv X pins σ H s) (h:Ay ρ wi g te tx σ H):
  wpAny (model X.prog X.w) X.A (comprehension (.ListComp elt [⟨tg,iter,[],0⟩] scope pos) scope X.env (firstIterPos [⟨tg,iter,[],0⟩] pos) (newList []) false (eval iter X.env) use) QQ X.xe s:=by
 have hfr:=I.cells_of ck
 refine wpAny_comprehension_free rfl hs (nO hfr) ck.kind ck.loc ?_
 refine thn (hi pins s σ H _ I h) fun v s1 h1=>thn h1 fun itv s2 h2=> ?_
 obtain ⟨it,fp,tn,J,H2,e,I2,T,st2,f2,W,⟨m0,w0⟩,turn⟩:=h2
 subst e
 refine wpAny_newObj_type (nV fun h₁ hns₁ hsb₁ hcl₁ hap₁=> ?_)
 dsimp only at hns₁ hsb₁ hcl₁ hap₁|-
 generalize hH2:s2.heap.push {cls:= .type "list",dict:=none,data:= .seq ([]:List Value).toArray}=G2 at hns₁ hsb₁ hcl₁ hap₁|-
 have hCs:G2.objs.size=s2.heap.objs.size+1:=by rw [<-hH2,Heap.size_push]
 have hlC:s2.heap.objs.size≠G2.objs.size:=by rw [hCs];exact Nat.ne_of_lt (Nat.lt_succ_self _)
 have hC:s2.heap.objs.size<=G2.objs.size:=by rw [hCs];exact Nat.le_succ _
 have old: ∀b o,s2.heap.get? b=some o->h₁.get? b=some o:=fun b o e=>hsb₁ b o (hH2▸Heap.get?_push_of_some _ e)
 have hlo:h₁.get? s2.heap.objs.size=some {cls:= .type "list",data:= .seq ([]:List Value).toArray}:=hsb₁ _ _ (hH2▸Heap.get?_push_size _ rfl)
 have hfo: ∀b∈fp,∃o,s2.heap.get? b=some o:=fun b hb=>let ⟨o,e,_⟩:=T.obj _ _ st2 b hb;⟨o,e⟩
 have I3:Inv (ak X scope N' G2.objs.size s2 H2 fp) [(s2.heap.objs.size,{cls:= .type "list",data:= .seq ([]:List Value).toArray})] (pull ρ σ) H2 {s2 with heap:=h₁}:=
  I2.block (t':=s2.toks) ck f2 hfo old hC hns₁ hcl₁ hap₁ (Nat.le_refl _) hlC hlo (fun v z=>nomatch z)
 have st3:tn 0 h₁:=T.keep _ _ _ st2 fun b _ o e=>old b o e
 have fpok: ∀{Hc:Hp}{lo:Obj},(∀b∈fp,Hc b=none)-> ∀b∈fp,FpOk (ak X scope N' G2.objs.size s2 H2 fp) [(s2.heap.objs.size,lo)] Hc b:=fun {Hc lo} hn b hb=>by
  obtain ⟨o,ho⟩:=hfo b hb
  have ne: ∀{a:Addr},s2.heap.objs.size<=a->b≠a:=fun ha z=>by
   subst z
   exact absurd (Nat.lt_of_lt_of_le (Heap.lt_size ho) ha) (Nat.lt_irrefl _)
  refine ⟨hn b hb,ne hC,ko I2 f2 hb,.inl hb,fun x c e=>by
   rcases cf_look e with ⟨_,g,_⟩|e
   ·exact Ne.symm (ne (by lia))
   ·exact (f2 b hb).2.2.2.2.1 x c (dQ hfr e),fun p hp=> ?_⟩
  have hp':p∈[(s2.heap.objs.size,lo)]:=hp
  rcases List.mem_cons.mp hp' with z|z
  ·subst z;exact Ne.symm (ne (Nat.le_refl _))
  ·exact nomatch z
 have loop: ∀s₃:Shared,s₃={s2 with heap:=h₁}->
   codeAny (model X.prog X.w) X.A (.compLoop (.ListComp elt [⟨tg,iter,[],0⟩] scope pos) 0 (.ref it) (.ref s2.heap.objs.size) (compEnvC scope (cellsFrom (G2.objs.size+1) scope.names (cH scope X.env)) G2.objs.size X.env))
    (compPost (model X.prog X.w) X.A X.xe use QQ (.ref s2.heap.objs.size) G2.objs.size) s₃:=by
  rintro s₃ rfl
  refine Aw (fun n s'=> ∃i acc its k σc Hc,Inv (ak X scope N' G2.objs.size s2 H2 fp) [(s2.heap.objs.size,{cls:= .type "list",data:= .seq (its:List Value).toArray k})] σc Hc s'/\Vals acc its/\tn i s'.heap/\(∀b∈fp,Hc b=none)/\W i n acc σc Hc) (Thrown (ak X scope N' G2.objs.size s2 H2 fp) Cl Z) (fun e s' T=>Ax hX hst hfm I2 f2 hC T) ?_ m0
   ⟨0,[],[],0,_,_,I3,.nil,st3,fun b hb=>(f2 b hb).1,w0⟩
  rintro n s4 ⟨i,acc,its,k,σ4,H4,I4,rv,st4,fr4,w4⟩
  obtain ⟨go,hz,N,hN,step⟩:=turn i n acc σ4 H4 w4
  ·refine thn (T.item (ak X scope N' G2.objs.size s2 H2 fp) rfl rfl rfl hc i _ s4 σ4 H4 X0 I4 (fpok fr4) st4 go) fun r s5 ⟨u,hr,h5⟩=> ?_
   subst hr
   refine thn h5 fun _ s6 ⟨x,H6,I6,r6,y6,st6,fr6⟩=> ?_
   have I6':=I6.pinned (fpok fr6) (T.obj _ _ st6)
   refine thn (hg G2.objs.size s2 H2 fp _ s6 σ4 H6 x u _ I6' r6 (step x H6 y6)) fun _ s7 ⟨σ7,H7,I7,q7⟩=> ?_
   have stay: ∀{σ9:St}{H9:Hp}{s9:Shared},Inv (ak X scope N' G2.objs.size s2 H2 fp) ([(s2.heap.objs.size,{cls:= .type "list",data:= .seq its.toArray k})]++fe fp s6.heap) σ9 H9 s9->tn (i+1) s9.heap/\ ∀b∈fp,H9 b=none:=fun {σ9 H9 s9} I9=>by
    refine ⟨T.keep _ _ _ st6 fun b hb o e=>(I9.pin (b,o) (List.mem_append_right _ (List.mem_append_right _ (ff hb e)))).1,fun b hb=> ?_⟩
    obtain ⟨o,e,d⟩:=T.obj _ _ st6 b hb
    exact (I9.pin (b,o) (List.mem_append_right _ (List.mem_append_right _ (ff hb e)))).2.1
   rcases q7 with q7|q7
   ·refine thn (kr (he G2.objs.size s2 H2 fp _ s7 σ7 H7 _ I7 q7)) fun y s9 ⟨v,H9,I9,r9,q9⟩=> ?_
    obtain ⟨m',hm,w9⟩:=hN _ _ _ q9
    obtain ⟨a1,a2⟩:=stay I9
    have J9:=I9.unpinned
    obtain ⟨p1,p2,p3,p4,p5⟩:=J9.pin (s2.heap.objs.size,{cls:= .type "list",data:= .seq its.toArray k}) (List.mem_append_right _ List.mem_cons_self)
    have p1:s9.heap.get? s2.heap.objs.size=some {cls:= .type "list",data:= .seq its.toArray k}:=p1
    have hlen:=rv.length
    refine nW p1 (by lia) fun h10 k' g10 sb10=>⟨m',hm,i+1,acc++[v],its++[y],k',σ7,H9,?_,Vals.append rv (.cons r9 .nil),?_,a2,w9⟩
    ·have nfp:s2.heap.objs.size∉fp:=fun z=>by
      obtain ⟨o,e⟩:=hfo _ z
      exact absurd (Heap.lt_size e) (Nat.lt_irrefl _)
     have J10:Inv (ak X scope N' G2.objs.size s2 H2 fp) [] σ7 H9 s9:=J9.pins_of fun p hp=>nomatch hp
     have ncell: ∀x c,(ak X scope N' G2.objs.size s2 H2 fp).env.cells.lookup x=some c->c≠s2.heap.objs.size:=fun x c e z=>by
      obtain ⟨v',o',ho',hd'⟩:=J10.cell x c e
      rw [z,p1] at ho'
      cases ho'
      cases hd'
     have J11:Inv (ak X scope N' G2.objs.size s2 H2 fp) [] σ7 H9 {s9 with heap:=h10}:=J10.turned (t':=s9.toks) (it:=s2.heap.objs.size) (fun b o hb e=>sb10 b o hb e) p2 p3 (.inr (Nat.le_refl _)) ncell (fun p hp=>nomatch hp)
     refine J11.pins_of fun p hp=> ?_
     rcases List.mem_cons.mp hp with z|z
     ·subst z
      exact ⟨g10,p2,p3,p4,fun v z=>nomatch z⟩
     ·exact nomatch z
    ·refine T.keep _ _ _ a1 fun b hb o e=>sb10 b o (fun z=> ?_) e
     subst z
     obtain ⟨o',e'⟩:=hfo _ hb
     exact absurd (Heap.lt_size e') (Nat.lt_irrefl _)
   ·exact hx G2.objs.size s2 H2 fp _ s7 σ7 H7 _ I7 q7
 exact codeAny_compStart_list (loop _ rfl) (T.self X.A 0 _ _ _ st3 (loop _ rfl))
end
end L2
set_option maxHeartbeats 4000000
namespace L2
open PySem PySem.Spec PyProof.Rows
variable {KF:PySem.W.Frag}{W W':Addr->Prop}
noncomputable def bC (g:Dv->Dt->Option Dt) (el:EM) (rx:Dt->Bool) (δ:Dt):List Dv->Bool
 |[]=>false
 |d::r=>match g d δ with
  |none=>false
  |some δ1=>rx δ1||(match el δ1 with
   |some _=>bC g el rx δ r
   |none=>false)
noncomputable def di (ρ:List (Option Nat)) (it:Dt->Option (List Dv)) (g:Dv->Dt->Option Dt) (el:EM) (rx:Dt->Bool):Dt->Bool:=fun δ=>match it δ with
 |some ds=>bC g el rx (aB ρ δ) ds
 |none=>false
theorem qF {X:Cx}{C:Addr}{Z:Hp->Prop}{E:Value->Shared->Prop}{e:Value}{s':Shared} (T:Thrown (X.wish E) C Z e s'):Thrown X C Z e s':=⟨T.1.unwish,T.2⟩
noncomputable def txM (KF:PySem.W.Frag) (ms:List Nat) (Z:Hp->Prop) (rx:Dt->Bool) (σ:St) (H:Hp):Prop:= ∃(W:Addr->Prop) (H0:Hp) (δ:Dt),Rel KF ms W H0 δ σ H/\rx δ=true/\ ∀H',Same H0 H'->Z H'
section
variable {ms ms':List Nat}{ρ:List (Option Nat)}{k:Kd}{wi:TI}{it:Dt->Option (List Dv)}{g:Dv->Dt->Option Dt}{el:EM}{rx:Dt->Bool}{z:List Nat}{Z:Hp->Prop}
variable {X:Cx}{scope:Scope}{tg iter elt:Expr}{pos:Pos}{Cl:Addr}
theorem Az (N':List Str) (ρ:List (Option Nat)) (ms':List Nat) (hX: ∀e s',Thrown X Cl Z e s'->X.xe e s') (hst:X.stack=X.env::X.outer) (hfm:X.env.frame=some X.env.locals) (hc:X.calm=true) (hi:PDi X ms false tg iter it)
  (hg: ∀C s H fp,PDg (ak X scope N' C s H fp) ms' tg g) (he: ∀C s H fp,PD (ak X scope N' C s H fp) ms' k elt el)
  (hx: ∀C s H fp,PRe ((ak X scope N' C s H fp).wish (Thrown (ak X scope N' C s H fp) Cl Z)) ms' Z elt rx) (hz:GExt z g)
  (ck:cS scope X.env.scope X.N N' ρ=true) (hp:dY ρ ms ms'=true) (hz':z.all (fun i=>decide (ρ[i]?=some none))=true) (hs: ∀x,foldedSetIterable iter X.env x=pure x:=by intro _;rfl):
  PRe X ms Z (.ListComp elt [⟨tg,iter,[],0⟩] scope pos) (di ρ it g el rx):=fun W pins s δ σ H0 H QQ I R hm hq=>by
 obtain ⟨wi,pi,qi⟩:=hi
 rw [eval_ListComp]
 unfold di at hm
 split at hm
 case h_2=>cases hm
 case h_1 ds hds=>
 refine qE (g:=tgM X.K ms' g) (te:=tM X.K ms' k el) (tx:=txM X.K ms' Z rx) hX hst hfm hc pi (fun C s H fp=>(hg C s H fp).pg) (fun C s H fp=>(he C s H fp).pe) (fun C s H fp pins' s' σ' H' QQ' I' ⟨W1,H1,δ1,R1,e1,z1⟩=>hx C s H fp W1 pins' s' δ1 σ' H1 H' QQ' (I'.wish _) R1 e1 z1) (iO ck) hs I ?_
 refine qi δ σ H0 H _ ds R hds fun J H1 s1 ok=> ?_
 have R1:=(R.same s1).pull (gQ hp)
 obtain ⟨hlim,ok⟩:=ok
 have notz: ∀{i:Nat}{x:Dv},(aB ρ δ)[i]?=some (some x)->i∉z:=fun {i x} e hzi=>by
  obtain ⟨j,er,_⟩:=gO e
  have:=of_decide_eq_true (List.all_eq_true.mp hz' i hzi)
  rw [er] at this;cases this
 refine ⟨fun i n acc σc Hc=>n=ds.length-i/\Same H1 Hc/\Rel X.K ms' W H0 (aB ρ δ) σc Hc/\bt ms' (pull ρ σ) σc/\acc.length<=i/\bC g el rx (aB ρ δ) (ds.drop i)=true,⟨ds.length,by simp,Same.refl _,R1,.refl,Nat.le_refl _,by simpa using hm⟩,?_⟩
 rintro i n acc σc Hc ⟨rfl,sc,Rc,so,hl,hr⟩
 obtain ⟨go,yl,st⟩:=ok Hc (.inl sc)
 have hlt:i<ds.length:=by
  by_cases h:i<ds.length
  ·exact h
  ·rw [List.drop_eq_nil_of_le (by lia),bC] at hr
   cases hr
 refine ⟨go i hlt,?_,fun acc' σ' H'=>Same H1 H'/\Rel X.K ms' W H0 (aB ρ δ) σ' H'/\bt ms' (pull ρ σ) σ'/\acc'.length<=i+1/\bC g el rx (aB ρ δ) (ds.drop (i+1))=true,
  fun acc' σ' H' ⟨a1,a2,a3,a4,a5⟩=>⟨ds.length-(i+1),by lia,rfl,a1,a2,a3,a4,a5⟩,fun x H' y=> ?_⟩
 ·have:=dw hlim;lia
 ·obtain ⟨rfl,d,hd,rx'⟩:=yl i x H' hlt y
  have hdrop:ds.drop i=d::ds.drop (i+1):=by
   rw [List.drop_eq_getElem_cons hlt]
   congr 1
   rw [List.getElem?_eq_getElem hlt] at hd
   exact Option.some.inj hd
  rw [hdrop,bC] at hr
  split at hr
  ·cases hr
  ·rename_i δ1 h1
   obtain ⟨l1,f1⟩:=hz d _ δ1 h1
   refine ⟨W,H0,aB ρ δ,d,δ1,Rc,rx'.mono fun a _ n z=>n.1 z,h1,fun σ1 R1' so1=> ?_⟩
   rcases Bool.or_eq_true_iff.mp hr with hr|hr
   ·exact .inr ⟨W,H0,δ1,R1',hr,hq⟩
   ·split at hr
    ·rename_i y' hy
     refine .inl ⟨W,H0,δ1,y',R1',hy,fun v H3 s3 g3=> ?_⟩
     refine ⟨sc.tr s3,(R1'.same s3).forget l1.symm (fun j x e=> ?_),so.tr so1,by rw [List.length_append];exact Nat.add_le_add_right hl 1,hr⟩
     rw [f1 j (notz e)];exact e
    ·cases hr
end
end L2
set_option maxHeartbeats 4000000
namespace L2
open PySem PySem.Spec PyProof.Rows PySem.W PySem.Calls
open PySem.Builtin.ObjectAttr PySem.Builtin.Getset_descriptor
section
variable {prog:Program}{w:World}{A:Around}{E:Value->Shared->Prop}{s:Shared}{K:Frag}{x D:Addr}{ox:Obj}
structure ExcK (K:Frag) (D:Addr):Prop where
 cs:(clsIn K D).isSome=true
 ga:findIn K (.ref D) "__getattribute__"=some (some (.builtin "BaseException.__getattribute__"))
 gt:findIn K (.ref D) "__getattr__"=some none
 fc:findIn K (.ref D) "__class__"=some (some (.builtin "object.__class__"))
 gs:specialIn K (.builtin "object.__class__") "__get__"=some (some (.builtin "getset_descriptor.__get__"))
 tk:takesIn K (.builtin "object.__class__")=some true
 sb:subIn K (.ref D) (.type "BaseException")=some true
 mo:mroIn K D (.type "object")=some true
noncomputable def d9 (x D:Addr) (h:Heap):Prop:= ∃o,h.get? x=some o/\o.cls= .ref D
theorem d9.type {M:Model}{h:Heap} (I:d9 x D h):Looks M h (typeOf (.ref x)) (.ref D):=by
 obtain ⟨o,h1,h2⟩:=I
 exact h2▸(Looks.ld h1).andThen .now
theorem AA {M:Model}{h:Heap} (X:K.In h) (Z:ExcK K D):Looks M h (find (.ref x) (.ref D) "__class__") (.bind (.builtin "getset_descriptor.__get__") (.builtin "object.__class__")):=by
 have L1:=looks_findIn (M:=M) X Z.fc
 have L2:Looks M h (getOf (some (.builtin "object.__class__"))) (some (.builtin "getset_descriptor.__get__")):=looks_specialIn X Z.gs
 have L3:=looks_takesIn (M:=M) X Z.tk
 exact L1.andThen (L2.andThen ((show Looks M h (dataDescriptor? (some (.builtin "object.__class__")) (some (.builtin "getset_descriptor.__get__"))) (some (.builtin "getset_descriptor.__get__",.builtin "object.__class__")) from L3.andThen .now).andThen (Looks.tag .now)))
theorem AB {tp:Value}{R:Result->Shared->Prop} (X:K.In s.heap) (I:d9 x D s.heap) (hm:mroIn K D (.type "object")=some true)
  (h:R (.ok (.ret (.ref D))) s):codeAny (model prog w) A (.call (.builtin "getset_descriptor.__get__") ⟨[.builtin "object.__class__",.ref x,tp],[]⟩) R s:=by
 obtain ⟨hh,g,dr,t,os⟩:=s
 have L0:=I.type (M:=model prog w)
 have L1:=looks_mroIn (M:=model prog w) X hm
 refine codeAny_call_builtin KF.slot_gs.plain KF.entry_gs (KF.slot_gs.check _ _ _ _ _ _ _ _ KF.type_class (KF.args_gs _ _ _) ?_)
 unfold Builtin.«getset_descriptor.__get__» descrGet
 rw [dga_obj]
 refine wpAny_bind (wpAny_pure ?_)
 unfold descrGetter descrCheckInstance descrNameAndClass isInstance
 simp only [KF.owner_class]
 repeat lk
 refine ⟨Code.quiet_builtin _ (by decide+kernel),codeAny_builtin KF.entry_class ?_⟩
 unfold Builtin.«object.__class__» shownTypeOf
 repeat lk
 exact h
theorem AC {M:Model}{nameV:Value}{Q:Unit->Shared->Prop} (X:K.In s.heap) (I:d9 x D s.heap) (Z:ExcK K D) (hq:Q () s):wpAny M A (checkBuiltinCall "BaseException.__getattribute__" ⟨[.ref x,nameV],[]⟩) Q E s:=by
 obtain ⟨hh,g,d,t,os⟩:=s
 have hk:builtinKind "BaseException.__getattribute__"=some .slot:=by decide+kernel
 have hsplit:splitId "BaseException.__getattribute__"=some ("BaseException","__getattribute__"):=by decide+kernel
 have ha:=F.args_bexc_ga (.ref x) nameV
 have L0:=I.type (M:=M)
 have L4:=looks_subIn (M:=M) X Z.sb
 simp only [checkBuiltinCall,hk,hsplit]
 refine wpAny_bind ?_
 unfold isInstance
 refine wpAny_bind (L0.at (L4.at ?_))
 repeat (first|wp_step)
 exact hq
theorem AD {tk:Tok}{R:Result->Shared->Prop} (X:K.In s.heap) (I:d9 x D s.heap) (Z:ExcK K D) (h:R (.ok (.ret (.ref D))) s):
  codeAny (model prog w) A (.call (.builtin "BaseException.__getattribute__") ⟨[.ref x,.str "__class__" tk],[]⟩) R s:=by
 refine codeAny_call_builtin F.excAttr_ValueError.ga.plain F.entry_bexc_ga (AC X I Z ?_)
 obtain ⟨hh,g,d,t,os⟩:=s
 have L0:=I.type (M:=model prog w)
 have L3:=AA (x:=x) (M:=model prog w) X Z
 unfold Builtin.«object.__getattribute__»
 refine wpAny_bind (wpAny_pure (wpAny_bind (wpAny_pure (wpAny_bind (L0.at (wpAny_bind (L3.at ?_)))))))
 show wpAny _ _ (holding [.builtin "object.__class__"] (call (.builtin "getset_descriptor.__get__") [.builtin "object.__class__",.ref x,.ref D])>>=ret) _ _ _
 refine wpAny_bind (wpAny_holding (wpAny_call (AB (s:=⟨hh,g,d,t,os⟩) X I Z.mo ?_)))
 exact wpAny_pure h
theorem AE {Q:Option Value->Shared->Prop} (X:K.In s.heap) (I:d9 x D s.heap) (Z:ExcK K D) (h:Q (some (.ref D)) {s with toks:=s.toks+1}):wpAny (model prog w) A (getAttr? (.ref x) "__class__") Q E s:=by
 obtain ⟨hh,g,d,t,os⟩:=s
 have L0:=I.type (M:=model prog w)
 have L1:=looks_findIn (M:=model prog w) X Z.ga
 have L2:=looks_findIn (M:=model prog w) X Z.gt
 unfold getAttr? getAttrBy? getAttrBy
 refine wpAny_bind (wpAny_mkText (wpAny_bind (wpAny_attempt (wpAny_holding (wpAny_bind (L0.at (wpAny_bind (L1.at ?_))))))))
 have hx2:(Value.builtin "BaseException.__getattribute__"==Value.builtin "object.__getattribute__")=false:=by decide+kernel
 dsimp only
 rw [hx2,Bool.and_false,if_neg (by decide)]
 unfold getAttrByItsOwn hookBefore
 rw [if_pos (show onTheHeap (Value.ref D)=true from rfl)]
 refine wpAny_bind (L2.at (wpAny_bind (wpAny_attempt (wpAny_holding ?_))))
 unfold callGetattribute boundAndCalled
 rw [if_neg (by decide)]
 rw [F.excAttr_ValueError.ga.bind (.ref x)]
 refine wpAny_bind (wpAny_pure (wpAny_call (AD (s:=⟨hh,g,d,t+1,os⟩) X I Z ?_)))
 exact handed_on rfl (wpAny_pure h)
theorem qG (Z:ExcK K D):KitX K (.ref x) (.ref D) (d9 x D) where
 ty:=fun _ _ _ I=>I.type
 it:=fun _ _ X _=>by
  obtain ⟨cdD,hcD⟩:=Option.isSome_iff_exists.mp Z.cs
  unfold clsIn at hcD
  split at hcD
  ·rename_i c' d' cd' sl' ho
   intro A' Q' E' s' k q
   unfold isType loadHead
   exact wpAny_bind (wpAny_loadPart (k _ _ (X _ _ ho)) (wpAny_pure q))
  ·cases hcD
 ne:=fun h tp dd its n sl X htp=>by
  obtain ⟨cdD,hcD⟩:=Option.isSome_iff_exists.mp Z.cs
  refine Bool.eq_false_iff.mpr fun q=> ?_
  have e:D=tp:=Value.ref.inj (beq_iff_eq.mp q)
  subst e
  unfold clsIn at hcD
  split at hcD
  ·rename_i c' d' cd' sl' ho
   have z:=(X _ _ ho).symm.trans htp
   cases z
  ·cases hcD
 ca:=fun X I k=>AE X I Z k
end
end L2
set_option maxHeartbeats 4000000
namespace L2
open PySem PySem.Spec PyProof.Rows
section
variable {X:Cx}{pins:List (Addr×Obj)}{σ:St}{H:Hp}{s:Shared}
theorem AF {M:Model}{A:Around}{E:Value->Shared->Prop}{j:Nat}{n:Str}{pos:Pos}{Q:Unit->Shared->Prop} (I:Inv X pins σ H s) (hN:X.N.Nodup) (hj:X.N[j]?=some n) (hk:X.env.scope.names.lookup n=some .local)
  (h: ∀s',Inv X pins (σ.set j none) H s'->Q () s'):wpAny M A (do bindName X.env n .none;unbindBehindTheSuite X.env n pos) Q E s:=by
 obtain ⟨m,hn,hl⟩:=id I.loc
 have hcls:(X.env.scope.kind== .class||(X.env.scope.kind== .module&&X.env.locals !=X.env.globals))=false:=by rw [I.ok.kind];rfl
 have cne:=I.cne
 refine wpAny_nameGoes_keeps hk hn hcls fun h' v hn' hs=> ?_
 obtain ⟨oL,_,_,hoL,_⟩:=id hn
 refine h _ ⟨I.ok,I.os,I.bare,⟨fun b o e n hb hx=> ?_,fun b o e n hb hx=> ?_,I.base.free,fun b o e hx=> ?_,I.base.tups,I.base.frzs,I.base.tbls⟩,⟨_,hn',fun j' y v' e1 e2 e3=> ?_⟩,fun y c e=> ?_,I.free,I.freeC,fun p hp=> ?_,fun b ob e=> ?_,by simpa using I.len⟩
 ·exact (hs.2 b (Nat.ne_of_lt (Nat.lt_of_lt_of_le (Heap.lt_size e) I.ok.above))).trans (I.base.keep b o e n hb hx)
 ·obtain ⟨sl,e1⟩:=I.base.slot b o e n hb hx
  exact ⟨sl,(hs.2 b (Nat.ne_of_lt (Nat.lt_of_lt_of_le (Heap.lt_size e) I.ok.above))).trans e1⟩
 ·obtain ⟨o',e1⟩:=I.base.there b o e hx
  exact ⟨o',(hs.2 b (Nat.ne_of_lt (Nat.lt_of_lt_of_le (Heap.lt_size e) I.ok.above))).trans e1⟩
 ·by_cases hj':j'=j
  ·subst hj'
   rw [List.getElem?_set] at e2
   simp at e2
  ·rw [List.getElem?_set_ne (Ne.symm hj')] at e2
   obtain ⟨u',r',q⟩:=hl j' y v' e1 e2 e3
   refine ⟨u',r',?_⟩
   rcases q with ⟨k,e⟩|⟨k,c,e,z⟩
   ·refine .inl ⟨k,?_⟩
    have:y≠n:=fun e=>hj' (jX hN e1 (e▸hj))
    simp [this,e]
   ·exact .inr ⟨k,c,e,z.sameBut hs (cne y c e)⟩
 ·obtain ⟨w',z⟩:=I.cell y c e
  exact ⟨w',z.sameBut hs (cne y c e)⟩
 ·obtain ⟨e,n,ne,nf,d⟩:=I.pin p hp
  exact ⟨(hs.2 p.1 ne).trans e,n,ne,nf,d⟩
 ·refine (I.hok b ob e).stay (fun c w' hc q=>(hs.2 c ?_).trans q) (fun _ q=>q) fun _ _ q=>q
  rintro rfl
  have hfree:=I.free
  rcases hc with rfl|hc
  ·rw [hfree] at e;cases e
  ·rw [hfree] at hc;cases hc
noncomputable abbrev Cx.held (X:Cx) (e:Value):Cx:={X with A:=X.A.mark (some e),calm:=false,xe:=fun _ _=>False}
theorem Inv.held (I:Inv X pins σ H s) (e:Value):Inv (X.held e) pins σ H s:=by
 have ok:=I.ok
 exact ⟨⟨ok.mod,ok.kind,ok.glob,ok.blt,ok.above,ok.inj,ok.has,ok.cab,(fun z=>nomatch z),ok.frames,ok.stk,ok.exf,ok.bs,ok.bsz,ok.noex,ok.exfs,ok.funs,ok.frf⟩,I.os,I.bare,I.base,I.loc,I.cell,I.free,I.freeC,I.pin,I.hok,I.len⟩
theorem Inv.unheld {e:Value} (ok:X.Ok) (I:Inv (X.held e) pins σ H s):Inv X pins σ H s:=⟨ok,I.os,I.bare,I.base,I.loc,I.cell,I.free,I.freeC,I.pin,I.hok,I.len⟩
end
section
variable {X:Cx}{k i j:Nat}{f Cl Cx':Addr}{fd:FuncData}{ps:List Str}{sp:Sp}{fx cx n y:Str}{p np yp np2 ap hpos tpos cpos epos:Pos}{a:Expr}{es:List Expr}{t:TA}{Z:Hp->Prop}
theorem AG (F:FnOk X.prog X.w X.K X.mg X.base (CXe X.prog X.w X.base Cl) k f fd ps sp) (hr:Room k X.A) (hg:Gl X fx) (hm:X.mg fx=some (.ref f)) (hk:PySem.W.keepIn X.K (.ref f)=true) (hb:cR X.K fd ps [])
  (hx0: ∀e s,X.xe e s->False) (hst:X.stack=X.env::X.outer) (hfm:X.env.frame=some X.env.locals) (ha:PA X (a::es) t)
  (hgc:Gl X cx) (hmc:X.mg cx=some (.ref Cx')) (hex:PySem.W.exmOne X.K (.ref Cl) (.ref Cx')=some true) (hN:X.N.Nodup) (hi:X.N[i]?=some y) (hj:X.N[j]?=some n) (hly:X.env.scope.names.lookup y=some .local) (hln:X.env.scope.names.lookup n=some .local)
  (hdb:(fx==("__debug__":Str))=false) (hdc:(cx==("__debug__":Str))=false) (hdn:(n==("__debug__":Str))=false) (hcn:(n==("__classdict__":Str))=false)
  (he:starEach (a::es) X.env=(false,eval a X.env)::starEach es X.env) (hpl:(backTo cpos (starEach es X.env)).any (·.1)=false)
  (hsw:swapsWith (.Call (.Name fx p) (a::es) [] cpos) none epos.line X.env=pure false) (hsy:swapsWith (.Name n np2) (some (.Name y yp)) ap.line X.env=pure false)
  {pins:List (Addr×Obj)}{s:Shared}{σ:St}{H:Hp}{QQ:Flow->Shared->Prop} (I:Inv X pins σ H s) (h:t σ H fun vs H1=>sp vs H1 (fun _ _=>False) fun _ _ H'=>Z H')
  (post: ∀ea oe H' s',oe.cls= .ref Cl->Inv X pins (((σ.set j (some (.ref ea))).set i (some (.ref ea))).set j none) (upd H' ea (.frz oe (.own 0))) s'->H' ea=none->Z H'->QQ .next s'):
  wpAny (model X.prog X.w) X.A (exec (.Try [.Expr (.Call (.Name fx p) (a::es) [] cpos) epos] [.ExceptHandler (some (.Name cx np)) (some n) [.Assign [.Name y yp] (.Name n np2) ap] hpos] [] [] tpos) X.env) QQ X.xe s:=by
 have l0: ∀{α:Type}{m:Sem α}{Q:α->Shared->Prop}{E:Value->Shared->Prop}{s:Shared},wpAny (model X.prog X.w) X.A m Q X.xe s->wpAny (model X.prog X.w) X.A m Q E s:=fun h=>wpAny_mono h (fun _ _ q=>q) fun e s z=>(hx0 e s z).elim
 refine wpAny_Try_except (wpAny_execs_cons (wpAny_Expr_any ?_ I.quiet hsw))
 refine wpAny_Call_Name_kw (gu I hg hm ?_ hdb)
 refine PySem.W.callWith_K (h₀:=X.base) I.ok.mod.kin hk (l0 (thn (ha cpos pins s σ H _ I h) fun us s1 ⟨vs,H1,I1,r,q⟩=> ?_)) he hpl
 refine ⟨I1.kIn,?_⟩
 have hl:us.length=ps.length:=by rw [<-r.length];exact F.len _ _ _ _ q
 refine wpAny_call (codeAny_mono (F.run X.A X.stack s1 H1 ⟨us,[]⟩ us vs _ _ hr I1.env0 (by have:=hb s1 us I1.kIn (by simpa using hl);rwa [List.append_nil] at this) r q) fun rr s2 hq=> ?_)
 cases rr with
 |ok fl=>
  cases fl with
  |ret u=>obtain ⟨v,H',_,_,_,_,_,z⟩:=hq;exact z.elim
  |next=>exact False.elim hq
  |brk=>exact False.elim hq
  |cont=>exact False.elim hq
 |error e=>
  obtain ⟨ea,H',he',os,bare,un,hok,⟨B,a0,fl,g1,g2,g3,g4,g5,g6,g7⟩,z⟩:=hq
  subst he'
  refine lG (hst▸I1.ok.frames) (hst▸g3) hfm g4 g1 g2 fun h1 ⟨k1,k2,k3,k4⟩=> ?_
  rw [<-hst] at k2
  refine lH (s:={s2 with heap:=h1}) k1 k2 k3 fun h2 fl2 x1 x2 x3 up2=> ?_
  refine wpAny_handleBy_cons (codeAny_handlers_test ?_) (by intro q;cases q)
  have bk2: ∀b o,X.base.get? b=some o->h2.get? b=some o:=fun b o q=>x1 b o (g5 b o q)
  refine Calls.Name_function_global I1.ok.kind hgc (Calls.loadGlobal_global (by rw [I1.ok.glob];exact I1.mod.glob.keeps bk2) hmc ?_) hdc
  have hx2:d9 ea Cl h2:=by
   obtain ⟨oe,_,_,_,_,q1,q2,_⟩:=x3
   exact ⟨oe,q1,q2.1⟩
  refine PySem.W.exm_one (I1.ok.mod.kin.keeps bk2) hx2.type hex _ _ _ _ (fun b o q=>q) ?_
  refine codeAny_handlers_suite_as ?_
  refine lH (s:={s2 with heap:=h2}) x1 x2 x3 fun h3 fl3 y1 y2 y3 up3=> ?_
  have nf:=hU g3 (Heap.UpToSlots.trans (Heap.UpToSlots.trans k4 up2) up3)
  obtain ⟨un3,hok3⟩:=jv un hok g1 g6 g7 y1 nf
  obtain ⟨oe,vs',T,oT,ts,ce,⟨ccls,_⟩,cd',_⟩:=y3
  have hea:H' ea=none:=by
   cases q:H' ea with
   |none=>rfl
   |some u=>
    obtain ⟨o,e⟩:=g6 ea u q
    rw [g2] at e
    cases e
  have hsea:s1.heap.get? ea=none:=by
   cases q:s1.heap.get? ea with
   |none=>rfl
   |some o=>
    by_cases hfr:ea∈frs X.stack
    ·obtain ⟨_,o1,e1,e2⟩:=y2.mem hfr
     rw [ce] at e1
     cases e1
     exact absurd cd' (e2 _)
    ·obtain ⟨o',e⟩:=g7 ea o q hfr (by simp)
     rw [g2] at e
     cases e
  have ne1: ∀{b:Addr}{o:Obj},s1.heap.get? b=some o->b≠ea:=fun e y=>by rw [y,hsea] at e;cases e
  have ne2: ∀{b:Addr}{u:HO},H' b=some u->b≠ea:=fun e y=>by rw [y,hea] at e;cases e
  have un4:Un (frs X.stack) [] H1 (upd H' ea (.frz oe (.own 0))) s1.heap h3:=
   ⟨un3.keep,un3.slot,fun b o q n hx=>by rw [ao (ne1 q)];exact un3.free b o q n hx,un3.there,fun b xs q=>by rw [ao (ne2 (un3.tups b xs q))];exact un3.tups b xs q,fun b o u q=>by rw [ao (ne2 (un3.frzs b o u q))];exact un3.frzs b o u q,fun b ps q=>by rw [ao (ne2 (un3.tbls b ps q))];exact un3.tbls b ps q⟩
  have hok4:HOk X.prog X.w (upd H' ea (.frz oe (.own 0))) h3:=fun b u q=>by
   by_cases hb':b=ea
   ·subst hb'
    rw [az] at q
    cases q
    exact ⟨ce,oe,ce⟩
   ·rw [ao hb'] at q
    exact (hok3 b u q).stay (fun _ _ _ q=>q) (fun c q=>by rw [ao (ne2 q)];exact q) (fun c xs q=>by rw [ao (ne2 q)];exact q) fun c _ _ _ q=>by rw [ao (ne2 q)];exact q
  have I4:Inv X pins σ (upd H' ea (.frz oe (.own 0))) {s2 with heap:=h3}:=I1.call' (s':={s2 with heap:=h3}) os un4 hok4 bare (fun b z=>absurd z (by simp))
  refine jY I4 hN hj (.inl hln) (v:= .ref ea) rfl (fun s4 I5=> ?_) (.inr hln)
  have hps:=iF (X:=X.held (.ref ea)) (pos:=ap) (pos':=yp) hN hi (.inl hly) (mO (X:=X.held (.ref ea)) (pos:=np2) hj (.inl hln) hdn hcn) hsy (.inr hly)
  have hjl:j<σ.length:=by rw [I4.len];exact (List.getElem?_eq_some_iff.mp hj).1
  refine wpAny_execs_cons (wpAny_mono (hps pins s4 _ _ {nx:=fun σ' H''=>σ'=((σ.set j (some (.ref ea))).set i (some (.ref ea)))/\H''=upd H' ea (.frz oe (.own 0)),rt:=fun _ _=>False} (I5.held _) ?_) (fun fl s5 q=> ?_) fun _ _ z=>z.elim)
  ·exact ⟨.ref ea,List.getElem?_set_self hjl,rfl,rfl⟩
  ·cases fl with
   |next=>
    obtain ⟨σ',H'',I6,e1,e2⟩:=q
    subst e1 e2
    refine wpAny_execs_nil ?_
    exact AF (I6.unheld I.ok) hN hj hln fun s6 I7=>post ea oe H' s6 ccls I7 hea z
   |ret v=>obtain ⟨_,_,_,_,_,z⟩:=q;exact z.elim
   |brk=>obtain ⟨_,_,_,z⟩:=q;exact z.elim
   |cont=>obtain ⟨_,_,_,z⟩:=q;exact z.elim
end
end L2
set_option maxHeartbeats 4000000
namespace L2
open PySem PySem.Spec PyProof.Rows
section
variable {X:Cx}{Cl:Addr}
noncomputable def lL (K:PySem.W.Frag) (Cl:Addr) (xs:List V) (H:Hp) (Q:VK):Prop:= ∃ea oe c cv b,xs=[.ref ea,c]/\H ea=some (.frz oe (.own 0))/\oe.cls= .ref Cl/\(∀u,RelV c u->u=cv)/\PySem.W.kitOne K (.ref Cl) cv=some b/\Q (.bl b) H
theorem qH (Z:ExcK X.K Cl):bp X (.builtin "isinstance") (lL X.K Cl):=by
 intro pins s σ H xs us Q I r h
 obtain ⟨ea,oe,c,cv,b,rfl,e1,e2,e3,e4,q⟩:=h
 cases r with
 |cons r1 r=>
  cases r with
  |cons r2 r=>
   cases r
   cases r1
   have hc:=e3 _ r2
   subst hc
   have ho:s.heap.get? ea=some oe:=(show ax X.prog X.w H s.heap ea (.frz oe (.own 0)) from I.hok ea _ e1).1
   exact PySem.W.kia_one (qG Z) I.kIn ⟨oe,ho,e2⟩ e4 (fun z=>nomatch z) fun tk=>⟨.bl b,H,I.tok tk,rfl,q⟩
theorem qI: ∀{cs:List Addr}{us:List Value},Vals (cs.map V.ref) us->us=cs.map Value.ref
 |[],us,r=>by cases r;rfl
 |c::cs,us,r=>by
  cases r with
  |cons r1 r=>
   cases r1
   rw [qI r]
   rfl
noncomputable def qJ (K:PySem.W.Frag) (Cl:Addr) (xs:List V) (H:Hp) (Q:VK):Prop:= ∃(ea:Addr) (oe:Obj) (tp:Addr) (cs:List Addr) (b:Bool),xs=[.ref ea,.ref tp]/\H ea=some (.frz oe (.own 0))/\oe.cls= .ref Cl/\H tp=some (.tup (cs.map V.ref))/\PySem.W.kitAny K (.ref Cl) (cs.map Value.ref)=some b/\Q (.bl b) H
theorem AH (Z:ExcK X.K Cl):bp X (.builtin "isinstance") (qJ X.K Cl):=by
 intro pins s σ H xs us Q I r h
 obtain ⟨ea,oe,tp,cs,b,rfl,e1,e2,e3,e4,q⟩:=h
 cases r with
 |cons r1 r=>
  cases r with
  |cons r2 r=>
   cases r
   cases r1
   cases r2
   have ho:s.heap.get? ea=some oe:=(show ax X.prog X.w H s.heap ea (.frz oe (.own 0)) from I.hok ea _ e1).1
   obtain ⟨_,its,rv,o,t1,t2,⟨n,t3⟩,t4⟩:=(show ax X.prog X.w H s.heap tp (.tup (cs.map V.ref)) from I.hok tp _ e3)
   obtain ⟨oc,od,ot,os⟩:=o
   cases t2
   cases t3
   have hi:=qI rv
   subst hi
   exact PySem.W.kia_tup (qG Z) I.kIn ⟨oe,ho,e2⟩ t1 e4 (fun z=>nomatch z) fun tk=>⟨.bl b,H,I.tok tk,rfl,q⟩
end
section
variable {X:Cx}{ms:List Nat}{k i j:Nat}{Cl Cx':Addr}{ps:List Str}{mx:List Dv->Bool}{fx cx n y:Str}{p np yp np2 ap hpos tpos cpos epos:Pos}{a:Expr}{es:List Expr}{k1:Kd}{ml:Dt->Option (List Dv)}{rest:List Stmt}{tr:TS}
noncomputable def sTry (r:Dt->Bool):SM:=fun δ=>if r δ=true then some (.rt (.bl true) δ) else none
theorem qK (D:DefX X.prog X.w X.K X.mg X.base Cl k fx ps (spX X.K Cl mx)) (hr:Room k X.A) (hx0: ∀e s,X.xe e s->False) (hst:X.stack=X.env::X.outer) (hfm:X.env.frame=some X.env.locals) (ha:PDa X ms k1 (a::es) ml)
  (hmc:X.mg cx=some (.ref Cx')) (hex:PySem.W.exmOne X.K (.ref Cl) (.ref Cx')=some true) (hN:X.N.Nodup) (i j:Nat) (hij:i≠j) (hi:X.N[i]?=some y) (hj:X.N[j]?=some n) (hly:X.env.scope.names.lookup y=some .local) (hln:X.env.scope.names.lookup n=some .local)
  (hrest:PSs X rest tr) (hsem: ∀(D:Ends) (σ:St) (H:Hp) (ea:Addr) (oe:Obj),oe.cls= .ref Cl->σ[i]?=some (some (.ref ea))->σ.length=X.N.length->H ea=some (.frz oe (.own 0))->(∀H',Same H H'->D.rt (.bl true) H')->tr D σ H)
  (hg:Gl X fx:=by rfl) (hgc:Gl X cx:=by rfl)
  (hdb:(fx==("__debug__":Str))=false:=by decide) (hdc:(cx==("__debug__":Str))=false:=by decide) (hdn:(n==("__debug__":Str))=false:=by decide) (hcn:(n==("__classdict__":Str))=false:=by decide)
  (he:starEach (a::es) X.env=(false,eval a X.env)::starEach es X.env:=by rfl) (hpl:(backTo cpos (starEach es X.env)).any (·.1)=false:=by rfl)
  (hsw:swapsWith (.Call (.Name fx p) (a::es) [] cpos) none epos.line X.env=pure false:=by rfl) (hsy:swapsWith (.Name n np2) (some (.Name y yp)) ap.line X.env=pure false:=by rfl):
  PDss X ms .imm (.Try [.Expr (.Call (.Name fx p) (a::es) [] cpos) epos] [.ExceptHandler (some (.Name cx np)) (some n) [.Assign [.Name y yp] (.Name n np2) ap] hpos] [] [] tpos::rest) (sTry (aM mx ml)):=by
 obtain ⟨f,fd,F,hf,hk,hb⟩:=D
 obtain ⟨ta,pa,qa⟩:=ha
 refine ⟨fun D σ H=> ∃(W:Addr->Prop) (H0:Hp) (δ:Dt),Rel X.K ms W H0 δ σ H/\aM mx ml δ=true/\ ∀H',Same H H'->D.rt (.bl true) H',fun pins s σ H D I ⟨W,H0,δ,R,hm,hD⟩=> ?_,fun δ σ H0 H D r R hm hq=> ?_⟩
 ·unfold aM at hm
  split at hm
  case h_2=>cases hm
  case h_1 xs e1=>
  refine wpAny_execs_cons (AG (Z:=fun H'=>Same H H') F hr hg hf hk hb hx0 hst hfm pa hgc hmc hex hN hi hj hly hln hdb hdc hdn hcn he hpl hsw hsy I ?_ fun ea oe H' s' hcl I' hea hz=> ?_)
  ·refine qa δ σ H0 H _ xs R e1 fun vs H1 s1 g1=> ?_
   exact ⟨xs,g1.bor,hm,fun H' s2=>s1.tr s2⟩
  ·have hl:σ.length=X.N.length:=I.len
   have hil:i<σ.length:=by rw [hl];exact (List.getElem?_eq_some_iff.mp hi).1
   refine hrest pins s' _ _ D I' (hsem D _ _ ea oe hcl ?_ ?_ az fun H'' s2=>hD H'' (hz.tr ((Same.new hea).tr s2)))
   ·rw [List.getElem?_set_ne (Ne.symm hij),List.getElem?_set_self (by rw [List.length_set];exact hil)]
   ·rw [List.length_set,List.length_set,List.length_set];exact hl
 ·unfold sTry at hm
  split at hm
  ·cases hm
   obtain ⟨Φ,f'⟩:=R.foot
   refine ⟨_,H0,δ,R,by assumption,fun H' s=> ?_⟩
   obtain ⟨Φ,f'⟩:=(R.same s).foot
   exact hq _ _ σ H' Φ (.sm s) (R.same s) f' (RepF.bl _) fun z=>nomatch z
  ·cases hm
end
end L2
set_option maxHeartbeats 4000000
namespace L2
open PySem PySem.Spec PyProof.Rows PySem.W
theorem AI {K:Frag}{h₀:Heap}{mg:Str->Option Value}{x:Str}{C:Addr}{bmB:List Value}{newId:String} (X:K.In h₀) (e:mg x=some (.ref C)) (q:excIn K C bmB newId=true):OwnCls x C bmB newId mg h₀:=by
 refine ⟨e,?_⟩
 unfold excIn at q
 split at q
 ·rename_i dd cd sl ho
  split at q
  ·rename_i C' bm k0 k1 k2 k3 n k5 hm hs
   simp only [Bool.and_eq_true,beq_iff_eq,Bool.not_eq_true'] at q
   obtain ⟨⟨⟨⟨⟨rfl,rfl⟩,hdel⟩,ht⟩,hok⟩,hni⟩:=q
   obtain ⟨nm,bs,mro,ns,qn,hd,sn,sub,ab,col,del⟩:=cd
   dsimp only at hm hdel hok hni
   subst hm hdel
   have hsl:sl= #[k0,k1,k2,k3,some (.builtin n),k5]:=by
    obtain ⟨l⟩:=sl
    simp only at hs
    rw [hs]
   subst hsl
   exact ⟨bm,ns,nm,qn,bs,hd,sn,sub,ab,col,dd,k0,k1,k2,k3,k5,_,X _ _ ho,.of_isNs (isNs_of_in X hok),nsMap_none_of_in X hok hni,tail_of_in X ht⟩
  ·cases q
 ·cases q
theorem AJ:bootBuiltins "ValueError"=some (.type "ValueError"):=PyProof.Rows.Boot.«ValueError»
theorem AK {i:Nat} (D:Ends) (σ:St) (H:Hp) (ea:Addr) (h2:σ[i]?=some (some (.ref ea))) (h5: ∀H',Same H H'->D.rt (.bl true) H'):tSeq (tRet (mR (tVar i))) j5 D σ H:=⟨.ref ea,h2,h5 _ (Same.refl _)⟩
theorem AL {K:Frag}{C:Addr}{i q:Nat}{cs:List Addr}{c1 c2:V}{v1 v2:Value}{tt:TA} (hne:q≠i) (D:Ends) (σ:St) (H:Hp) (ea:Addr) (oe:Obj) (h1:oe.cls= .ref C) (h2:σ[i]?=some (some (.ref ea))) (hq:q<σ.length) (h4:H ea=some (.frz oe (.own 0)))
  (h5: ∀H',Same H H'->D.rt (.bl true) H') (htt: ∀σ H Q,Q (cs.map V.ref) H->tt σ H Q) (hcs:cs.length<=sizeLine) (kt:kitAny K (.ref C) (cs.map Value.ref)=some false)
  (r1: ∀u,RelV c1 u->u=v1) (r2: ∀u,RelV c2 u->u=v2) (k1:kitOne K (.ref C) v1=some true) (k2:kitOne K (.ref C) v2=some true):
  tSeq (tAsg (tCB (qJ K C) (cQ (tVar i) (cQ (tTup tt) tNil))) (eD q)) (tSeq (tRet (jZ (tCB (lL K C) (cQ (tVar i) (cQ (tC c1) tNil))) (jZ (tCB (lL K C) (cQ (tVar i) (cQ (tC c2) tNil))) (mS (tVar q))))) j5) D σ H:=by
 refine ⟨.ref ea,h2,htt σ H _ ⟨by rw [List.length_map];exact hcs,fun p hp=> ?_⟩⟩
 have ne:ea≠p:=fun z=>by rw [z,hp] at h4;cases h4
 have h4':upd H p (.tup (cs.map V.ref)) ea=some (.frz oe (.own 0)):=(ao ne).trans h4
 refine ⟨ea,oe,p,cs,false,rfl,h4',h1,az,kt,?_⟩
 have hs:(σ.set q (some (.bl false)))[i]?=some (some (.ref ea)):=by rw [List.getElem?_set_ne hne];exact h2
 refine ⟨.ref ea,hs,ea,oe,c1,v1,true,rfl,h4',h1,r1,k1,true,rfl,?_⟩
 rw [if_pos rfl]
 refine ⟨.ref ea,hs,ea,oe,c2,v2,true,rfl,h4',h1,r2,k2,true,rfl,?_⟩
 rw [if_pos rfl]
 exact ⟨.bl false,List.getElem?_set_self hq,false,rfl,h5 _ (Same.new hp)⟩
section
variable {X:Cx}{ms:List Nat}{rk:Kd}{m:List Dv->Option Dv}{x:Str}{ps:List Str}{p pos:Pos}
theorem AM {k:Nat} (D:Def X.prog X.w X.K X.mg X.base k x ps (spD X.K rk m)) (hr:Room k X.A) (n:rk≠ .any) (hg:Gl X x:=by rfl) (hdb:(x==("__debug__":Str))=false:=by decide):PD X ms rk (.Call (.Name x p) [] [] pos) (ah m aNil):=by
 obtain ⟨f,fd,F,hm,kp,hb⟩:=D
 refine ⟨_,t8 (E:=E0) (dvs:=[]) (ds:=[]) F hr hg hm kp hb .nil nK hdb,fun δ σ H0 H Q d R hm hq=> ?_⟩
 obtain ⟨xs,hx,e⟩:=Option.bind_eq_some_iff.mp hm
 cases hx
 exact ⟨[],d,.nil,e,fun v H' s g=>hq v H' s (g.call n)⟩
end
end L2
set_option maxHeartbeats 4000000
namespace L2
open PySem PySem.Spec PyProof.Rows
variable {KF:PySem.W.Frag}{W:Addr->Prop}
section
variable {X:Cx}{ms:List Nat}{k1:Kd}{e:Expr}{me:EM}{pos:Pos}
noncomputable def CF:Dv->Dv->Option Dv
 | .str a,.int n=>if n=1 then some (.str a) else if 1<n/\n<=1000/\0<a.length/\a.length<=1000 then some (.str ⟨(List.replicate n.toNat a.cps).foldl (· ++ ·) #[]⟩) else none
 |_,_=>none
noncomputable def AN:V->Option Int->Option Int->Hp->VK->Prop:=fun x lo hi H Q=> ∃a j,x= .str a/\lo=none/\hi=some j/\a.length<=sizeLine/\Q (.str (Txt.slice a none (some j))) H
theorem AO:SlR X AN:=by
 intro pins s σ H x v vl vu lo hi sl Q I rx hs pl pu h
 obtain ⟨a,i,rfl,rfl,rfl,hz,q⟩:=h
 obtain ⟨t,rfl⟩:=rx
 cases pl with
 |none=>
  cases pu with
  |int _ ti=>
   refine ⟨"str",_,F.slot_str_getitem.lookup,typeIs_str _ _ _,?_⟩
   exact wpAny_getItem_str_slice (l:=none) (u:=some (i,ti)) (st:=none) hs rfl (post_val_or_str ⟨Nat.le_trans (Txt.slice_le a _ _) hz,fun t' k=>⟨.str _,H,I.tok k,⟨_,rfl⟩,q⟩⟩)
noncomputable def jB (m:EM) (lo hi:Dt->Option (Option Int)):EM:=fun δ=>(m δ).bind fun x=>(lo δ).bind fun l=>(hi δ).bind fun h=>match x,l,h with
 | .str a,none,some j=>if a.length<=lim then some (.str (Txt.slice a none (some j))) else none
 |_,_,_=>none
theorem AQ {lo hi:Option Expr}{ml mh:Dt->Option (Option Int)}{p2:Pos} (he:PD X ms k1 e me) (hl:PDo X ms lo ml) (hh:PDo X ms hi mh):PD X ms .imm (.Subscript e (.Slice lo hi none p2) pos) (jB me ml mh):=by
 obtain ⟨te,p,q⟩:=he
 obtain ⟨tl,pl,ql⟩:=hl
 obtain ⟨th,ph,qh⟩:=hh
 refine ⟨_,j9 AO p pl ph,fun δ σ H0 H Q d R hm hq=> ?_⟩
 obtain ⟨x,hx,e⟩:=Option.bind_eq_some_iff.mp hm
 obtain ⟨l,hl,e⟩:=Option.bind_eq_some_iff.mp e
 obtain ⟨h,hh,e⟩:=Option.bind_eq_some_iff.mp e
 refine q δ σ H0 H _ x R hx fun v H1 s1 g1=> ?_
 refine ql δ σ H0 H1 _ l (R.same s1) hl fun H2 s2=> ?_
 refine qh δ σ H0 H2 _ h (R.same (s1.tr s2)) hh fun H3 s3=> ?_
 cases x<;>cases l<;>cases h<;>simp only [reduceCtorEq] at e
 split at e
 rotate_left
 ·cases e
 next c=>
  cases e
  have g1:=g1.bor
  cases g1
  exact ⟨_,_,rfl,rfl,rfl,Nat.le_trans c (by decide),hq _ H3 ((s1.tr s2).tr s3) (RepF.str _)⟩
end
end L2
set_option maxHeartbeats 4000000
namespace L2
open PySem PySem.Spec PyProof.Rows
noncomputable def PRa (X:Cx) (ms:List Nat) (Z:Hp->Prop) (es:List Expr) (m:Dt->Bool):Prop:=
 ∀(W:Addr->Prop) (pos:Pos) (pins:List (Addr×Obj)) (s:Shared) (δ:Dt) (σ:St) (H0 H:Hp) (QQ:List Value->Shared->Prop),Inv X pins σ H s->Rel X.K ms W H0 δ σ H->m δ=true->(∀H',Same H0 H'->Z H')->wpAny (model X.prog X.w) X.A (spliced (backTo pos (starEach es X.env))) QQ X.xe s
section
variable {X:Cx}{ms:List Nat}{Z:Hp->Prop}{e:Expr}{es:List Expr}{m m':Dt->Bool}{p pos:Pos}{k:Kd}{me:EM}
theorem AR (h:PRa X ms Z es m) (h':PRa X ms Z es m'):PRa X ms Z es (fun δ=>m δ||m' δ):=fun W pos pins s δ σ H0 H QQ I R hm hz=>by
 rcases Bool.or_eq_true_iff.mp hm with q|q
 ·exact h W pos pins s δ σ H0 H QQ I R q hz
 ·exact h' W pos pins s δ σ H0 H QQ I R q hz
theorem qL (h:PRe X ms Z e m) (hs:starEach (e::es) X.env=(false,eval e X.env)::starEach es X.env:=by rfl):PRa X ms Z (e::es) m:=fun W pos pins s δ σ H0 H QQ I R hm hz=>by
 rw [hs]
 show wpAny _ _ (spliced ((false,eval e X.env)::backTo pos (starEach es X.env))) _ _ s
 exact Calls.spliced_cons (h W pins s δ σ H0 H _ I R hm hz)
noncomputable def hZ (a:EM) (m:Dt->Bool):Dt->Bool:=fun δ=>match a δ with
 |some _=>m δ
 |none=>false
theorem AS (he:PD X ms k e me) (h:PRa X ms Z es m) (hs:starEach (e::es) X.env=(false,eval e X.env)::starEach es X.env:=by rfl):PRa X ms Z (e::es) (hZ me m):=fun W pos pins s δ σ H0 H QQ I R hm hz=>by
 obtain ⟨t,pe,q⟩:=he
 unfold hZ at hm
 split at hm
 ·rename_i d e1
  rw [hs]
  show wpAny _ _ (spliced ((false,eval e X.env)::backTo pos (starEach es X.env))) _ _ s
  refine Calls.spliced_cons (thn (pe pins s σ H (fun v H1=>Same H H1) I (q δ σ H0 H _ d R e1 fun v H1 s1 g1=>s1)) fun u s1 ⟨v,H1,I1,r1,q1⟩=> ?_)
  exact h W pos pins s1 δ σ H0 H1 _ I1 (R.same q1) hm hz
 ·cases hm
theorem AT {x1} (h:PRa X ms Z es m):PRe X ms Z (.Tuple es x1 pos) m:=fun W pins s δ σ H0 H QQ I R hm hz=>wpAny_Tuple_spliced (h W pos pins s δ σ H0 H _ I R hm hz)
end
section
variable {ms ms':List Nat}{ρ:List (Option Nat)}{k:Kd}{it:Dt->Option (List Dv)}{g:Dv->Dt->Option Dt}{el:EM}{rx:Dt->Bool}{z:List Nat}{Z:Hp->Prop}
variable {X:Cx}{scope:Scope}{tg iter elt:Expr}{pos:Pos}{Cl:Addr}
theorem AU (N':List Str) (ρ:List (Option Nat)) (ms':List Nat) (hX: ∀e s',Thrown X Cl Z e s'->X.xe e s') (hst:X.stack=X.env::X.outer) (hfm:X.env.frame=some X.env.locals) (hc:X.calm=true) (hi:PDi X ms false tg iter it)
  (hg: ∀C s H fp,PDg (ak X scope N' C s H fp) ms' tg g) (he: ∀C s H fp,PD (ak X scope N' C s H fp) ms' k elt el)
  (hx: ∀C s H fp,PRe ((ak X scope N' C s H fp).wish (Thrown (ak X scope N' C s H fp) Cl Z)) ms' Z elt rx) (hz:GExt z g)
  (ck:cS scope X.env.scope X.N N' ρ=true) (hp:dY ρ ms ms'=true) (hz':z.all (fun i=>decide (ρ[i]?=some none))=true) (hs: ∀x,foldedSetIterable iter X.env x=pure x)
  {W:Addr->Prop}{use:Option (Value->Sem Unit)}{pins:List (Addr×Obj)}{s:Shared}{δ:Dt}{σ:St}{H0 H:Hp}{QQ:Value->Shared->Prop} (I:Inv X pins σ H s) (R:Rel X.K ms W H0 δ σ H) (hm:di ρ it g el rx δ=true) (hq: ∀H',Same H0 H'->Z H'):
  wpAny (model X.prog X.w) X.A (comprehension (.ListComp elt [⟨tg,iter,[],0⟩] scope pos) scope X.env (firstIterPos [⟨tg,iter,[],0⟩] pos) (newList []) false (eval iter X.env) use) QQ X.xe s:=by
 obtain ⟨wi,pi,qi⟩:=hi
 unfold di at hm
 split at hm
 case h_2=>cases hm
 case h_1 ds hds=>
 refine qE (g:=tgM X.K ms' g) (te:=tM X.K ms' k el) (tx:=txM X.K ms' Z rx) hX hst hfm hc pi (fun C s H fp=>(hg C s H fp).pg) (fun C s H fp=>(he C s H fp).pe) (fun C s H fp pins' s' σ' H' QQ' I' ⟨W1,H1,δ1,R1,e1,z1⟩=>hx C s H fp W1 pins' s' δ1 σ' H1 H' QQ' (I'.wish _) R1 e1 z1) (iO ck) hs I ?_
 refine qi δ σ H0 H _ ds R hds fun J H1 s1 ok=> ?_
 have R1:=(R.same s1).pull (gQ hp)
 obtain ⟨hlim,ok⟩:=ok
 have notz: ∀{i:Nat}{x:Dv},(aB ρ δ)[i]?=some (some x)->i∉z:=fun {i x} e hzi=>by
  obtain ⟨j,er,_⟩:=gO e
  have:=of_decide_eq_true (List.all_eq_true.mp hz' i hzi)
  rw [er] at this;cases this
 refine ⟨fun i n acc σc Hc=>n=ds.length-i/\Same H1 Hc/\Rel X.K ms' W H0 (aB ρ δ) σc Hc/\bt ms' (pull ρ σ) σc/\acc.length<=i/\bC g el rx (aB ρ δ) (ds.drop i)=true,⟨ds.length,by simp,Same.refl _,R1,.refl,Nat.le_refl _,by simpa using hm⟩,?_⟩
 rintro i n acc σc Hc ⟨rfl,sc,Rc,so,hl,hr⟩
 obtain ⟨go,yl,st⟩:=ok Hc (.inl sc)
 have hlt:i<ds.length:=by
  by_cases h:i<ds.length
  ·exact h
  ·rw [List.drop_eq_nil_of_le (by lia),bC] at hr
   cases hr
 refine ⟨go i hlt,?_,fun acc' σ' H'=>Same H1 H'/\Rel X.K ms' W H0 (aB ρ δ) σ' H'/\bt ms' (pull ρ σ) σ'/\acc'.length<=i+1/\bC g el rx (aB ρ δ) (ds.drop (i+1))=true,
  fun acc' σ' H' ⟨a1,a2,a3,a4,a5⟩=>⟨ds.length-(i+1),by lia,rfl,a1,a2,a3,a4,a5⟩,fun x H' y=> ?_⟩
 ·have:=dw hlim;lia
 ·obtain ⟨rfl,d,hd,rx'⟩:=yl i x H' hlt y
  have hdrop:ds.drop i=d::ds.drop (i+1):=by
   rw [List.drop_eq_getElem_cons hlt]
   congr 1
   rw [List.getElem?_eq_getElem hlt] at hd
   exact Option.some.inj hd
  rw [hdrop,bC] at hr
  split at hr
  ·cases hr
  ·rename_i δ1 h1
   obtain ⟨l1,f1⟩:=hz d _ δ1 h1
   refine ⟨W,H0,aB ρ δ,d,δ1,Rc,rx'.mono fun a _ n z=>n.1 z,h1,fun σ1 R1' so1=> ?_⟩
   rcases Bool.or_eq_true_iff.mp hr with hr|hr
   ·exact .inr ⟨W,H0,δ1,R1',hr,hq⟩
   ·split at hr
    ·rename_i y' hy
     refine .inl ⟨W,H0,δ1,y',R1',hy,fun v H3 s3 g3=> ?_⟩
     refine ⟨sc.tr s3,(R1'.same s3).forget l1.symm (fun j x e=> ?_),so.tr so1,by rw [List.length_append];exact Nat.add_le_add_right hl 1,hr⟩
     rw [f1 j (notz e)];exact e
    ·cases hr
theorem AV {x:Str}{pos' spos:Pos} (N':List Str) (ρ:List (Option Nat)) (ms':List Nat) (hX: ∀e s',Thrown X Cl Z e s'->X.xe e s') (hst:X.stack=X.env::X.outer) (hfm:X.env.frame=some X.env.locals) (hc:X.calm=true) (hi:PDi X ms false tg iter it)
  (hg: ∀C s H fp,PDg (ak X scope N' C s H fp) ms' tg g) (he: ∀C s H fp,PD (ak X scope N' C s H fp) ms' k elt el)
  (hx: ∀C s H fp,PRe ((ak X scope N' C s H fp).wish (Thrown (ak X scope N' C s H fp) Cl Z)) ms' Z elt rx) (hz:GExt z g)
  (ck:cS scope X.env.scope X.N N' ρ=true) (hp:dY ρ ms ms'=true) (hz':z.all (fun i=>decide (ρ[i]?=some none))=true) (hsw:swapsWith (.ListComp elt [⟨tg,iter,[],0⟩] scope pos) (some (.Name x pos')) spos.line X.env=pure true:=by rfl)
  (hs: ∀x,foldedSetIterable iter X.env x=pure x:=by intro _;rfl):
  PRs X ms Z (.Assign [.Name x pos'] (.ListComp elt [⟨tg,iter,[],0⟩] scope pos) spos) (di ρ it g el rx):=fun W pins s δ σ H0 H QQ I R hm hq=>by
 rw [exec_Assign_Name_used _ _ _ _ hsw]
 refine wpAny_bind (wpAny_standAt (wpAny_bind ?_))
 show wpAny _ X.A (do let _<-comprehension (.ListComp elt [⟨tg,iter,[],0⟩] scope pos) scope X.env _ (newList []) false (eval iter X.env) (some (assign (.Name x pos') X.env))) _ _ s
 exact wpAny_bind (AU (k:=k) N' ρ ms' hX hst hfm hc hi hg he hx hz ck hp hz' hs I R hm hq)
end
section
variable {X:Cx}{ms:List Nat}{rk:Kd}{body:List Stmt}{m:SM}{h₀:ExceptHandler}{hs:List ExceptHandler}{pos:Pos}
end
end L2
set_option maxHeartbeats 4000000
namespace L2
open PySem PySem.Spec PyProof.Rows
theorem lM {M:Model}{Γ:PySem.Ctx}{p:Pos}{t:Sem Fin}{fs:List Frame}{s s':Shared}{e:End} (h:Runs M Γ p t fs s e s'):s.toks<=s'.toks:=by
 induction h with
 |done=>exact Nat.le_refl _
 |raise=>exact Nat.le_refl _
 |yield=>exact Nat.le_refl _
 |fresh _ ih=>exact Nat.le_trans (Nat.le_succ _) ih
 |call _ _ a b=>exact Nat.le_trans a b
 |resumeFresh _ _ _ _ a b=>exact Nat.le_trans a b
 |resumeSuspended _ _ _ _ a b=>exact Nat.le_trans a b
 |segRet _ _ a b=>exact Nat.le_trans a b
 |segGen _ _ a b=>exact Nat.le_trans a b
 |segSuspGen _ _ _ _ a b=>exact Nat.le_trans a b
 |again _ _ ih=>exact ih
 |load _ _ ih=>exact ih
 |update _ _ ih=>exact ih
 |choose _ _ ih=>exact ih
 |genState _ _ ih=>exact ih
 |resumeJustStarted _ _ _ ih=>exact ih
 |resumeThrowFresh _ _ ih=>exact ih
 |resumeRunning _ _ ih=>exact ih
 |resumeFinished _ _ ih=>exact ih
 |segSuspOut _ _ ih=>exact ih
 |_=>rename_i ih;exact ih
theorem AW {M:Model}{Γ:PySem.Ctx}{p:Pos}{g:Nat}{r:Resume}{s s':Shared}{res:GenResult} (h:Wakes M Γ p g r s res s'):s.toks<=s'.toks:=by
 unfold Wakes at h
 split at h
 ·exact h.elim
 ·split at h
  ·obtain ⟨_,_,a,_,_,rfl⟩:=h;have:=lM a;exact this
  ·rw [h.2];exact Nat.le_refl _
  ·rw [h.2];exact Nat.le_refl _
 ·obtain ⟨_,_,a,_,_,rfl⟩:=h;have:=lM a;exact this
 ·rw [h.2];exact Nat.le_refl _
 ·rw [h.2];exact Nat.le_refl _
theorem AX {α:Type} (M:Model) (Γ:PySem.Ctx) (n:Nat) (t:Sem α): ∀{Q:α->Pos->Shared->Prop}{E:Value->Pos->Shared->Prop}{p:Pos}{s:Shared},n<=s.toks->Sem.wp M Γ t Q E p s->Sem.wp M Γ t (fun a p s=>Q a p s/\n<=s.toks) E p s:=by
 induction t with
 |pure a=>intro Q E p s z h;exact ⟨h,z⟩
 |fresh k ih=>intro Q E p s z h;exact ih _ (s:={s with toks:=s.toks+1}) (Nat.le_succ_of_le z) h
 |load a q k ih=>intro Q E p s z h;obtain ⟨o,e,h⟩:=h;exact ⟨o,e,ih _ z h⟩
 |update a q f k ih=>intro Q E p s z h;exact ⟨h.1,ih _ (s:={s with heap:=s.heap.update a f}) z h.2⟩
 |choose src m k ih=>intro Q E p s z h;exact ⟨h.1,ih _ (s:={s with drawn:=s.drawn.bump src}) z h.2⟩
 |call c h g l k ih=>intro Q E p s z h;obtain ⟨r,s1,a,h⟩:=h;exact ⟨r,s1,a,ih _ (Nat.le_trans z (lM a)) h⟩
 |genState g k ih=>intro Q E p s z h;obtain ⟨o,e,h⟩:=h;exact ⟨o,e,ih _ z h⟩
 |resume g r l k ih=>intro Q E p s z h;obtain ⟨r,s1,a,h⟩:=h;exact ⟨r,s1,a,ih _ (Nat.le_trans z (AW a)) h⟩
 |raise _=>intro Q E p s z h;exact h
 |unsupported _=>intro Q E p s z h;exact h
 |finish _=>intro Q E p s z h;exact h
 |register _ _ _=>intro Q E p s z h;exact h
 |yield _ _ _ _ _=>intro Q E p s z h;exact h
 |fork=>intro Q E p s z h;exact h
 |await=>intro Q E p s z h;exact h
 |alloc o k ih=>intro Q E p s z h;exact ih _ (s:={s with heap:=s.heap.push o}) z h
 |os q l k ih=>intro Q E p s z h;exact ih _ (s:={s with os:=(Os.step s.os q).1}) z h
 |newGen c k ih=>intro Q E p s z h;exact ih _ (s:={s with gens:=s.gens.push (.fresh c)}) z h
 |_=>rename_i ih;intro Q E p s z h;exact ih _ z h
theorem lN {α:Type}{M:Model}{A:Around}{t:Sem α}{Q:α->Shared->Prop}{E:Value->Shared->Prop}{s:Shared} (h:wpAny M A t Q E s) (z:0<s.toks):wpAny M A t (fun a s'=>Q a s'/\0<s'.toks) E s:=
 fun Γ p hΓ=>AX M Γ 1 t z (h Γ p hΓ)
section
open Builtin Builtin.Str
noncomputable def fK (x y z:Str):Str:=if ((occurrences x y 0 x.length 1).isEmpty||(y.length==0&&z.length==0))=true then x else glued z (partsBetween x (occurrences x y 0 x.length 1) y.length)
theorem AY (x y z:Str) (t u v c:Tok) (h0:(u==0||v==0)=false) (huv:(u==v)=false) (hyz:(y==z)=false) (hl:tooLong (x.length+(occurrences x y 0 x.length 1).length*z.length)=false):
  Gives («str.replace» ⟨[.str x t,.str y u,.str z v,.int 1 c],[]⟩) (if ((occurrences x y 0 x.length 1).isEmpty||(y.length==0&&z.length==0))=true then .val (.str x t) else .str (glued z (partsBetween x (occurrences x y 0 x.length 1) y.length))):=by
 show Gives (if ((occurrences x y 0 x.length 1).isEmpty||(y.length==0&&z.length==0))=true then (rule "str.replace.nothing">>=fun _=>ret (.str x t)) else (isSame (.str y u) (.str z v)>>=fun same=>if same=true then (rule "str.replace.old-is-new">>=fun _=>ret (.str x t)) else if tooLong (x.length+(occurrences x y 0 x.length 1).length*z.length)=true then unsupported "str.replace:memory" else retStr (glued z (partsBetween x (occurrences x y 0 x.length 1) y.length)))) _
 cases hc:((occurrences x y 0 x.length 1).isEmpty||(y.length==0&&z.length==0))
 ·rw [isSame_str_other y z u v h0 huv hyz,hl]
  exact .of_eq rfl
 ·exact .rule (.of_eq rfl)
end
noncomputable def PEp (X:Cx) (e:Expr) (t:TE):Prop:=
 ∀(pins:List (Addr×Obj)) (s:Shared) (σ:St) (H:Hp) (Q:VK),0<s.toks->Inv X pins σ H s->t σ H Q->wpAny (model X.prog X.w) X.A (eval e X.env) (EP X pins σ Q) X.xe s
noncomputable def PAp (X:Cx) (es:List Expr) (t:TA):Prop:=
 ∀(pos:Pos) (pins:List (Addr×Obj)) (s:Shared) (σ:St) (H:Hp) (Q:List V->Hp->Prop),0<s.toks->Inv X pins σ H s->t σ H Q->wpAny (model X.prog X.w) X.A (spliced (backTo pos (starEach es X.env))) (AP X pins σ Q) X.xe s
section
variable {X:Cx}{e a o:Expr}{es:List Expr}{te ta to:TE}{t:TA}{pos p apos cpos p1 p2 p3:Pos}{x y z:Str}{j j1 j2 j3:Nat}{op:Operator}{r:R2}
theorem AZ (ha:PEp X e te) (hs:starEach [e] X.env=(false,eval e X.env)::starEach [] X.env:=by rfl):PAp X [e] (cQ te tNil):=by
 intro pos pins s σ H Q z I h
 rw [hs]
 show wpAny _ _ (spliced ((false,eval e X.env)::backTo pos (starEach [] X.env))) _ _ s
 refine Calls.spliced_cons (thn (ha pins s σ H _ z I h) fun u s1 ⟨x,H1,I1,r1,q1⟩=> ?_)
 exact thn (ci pos pins s1 σ H1 _ I1 q1) fun us s2 ⟨xs,H2,I2,r2,q2⟩=>⟨x::xs,H2,I2,.cons r1 r2,q2⟩
theorem A0 (ha:PE X e te) (hr:PAp X es t) (hs:starEach (e::es) X.env=(false,eval e X.env)::starEach es X.env:=by rfl):PAp X (e::es) (cQ te t):=by
 intro pos pins s σ H Q z I h
 rw [hs]
 show wpAny _ _ (spliced ((false,eval e X.env)::backTo pos (starEach es X.env))) _ _ s
 refine Calls.spliced_cons (thn (lN (ha pins s σ H _ I h) z) fun u s1 ⟨⟨x,H1,I1,r1,q1⟩,z1⟩=> ?_)
 exact thn (hr pos pins s1 σ H1 _ z1 I1 q1) fun us s2 ⟨xs,H2,I2,r2,q2⟩=>⟨x::xs,H2,I2,.cons r1 r2,q2⟩
theorem A2 (ho:OpR X (binaryOp op) r) (ha:PE X a ta) (hr:PAp X es t) (hs:starEach (.BinOp a op (.Constant (.str x) j p) pos::es) X.env=(false,eval (.BinOp a op (.Constant (.str x) j p) pos) X.env)::starEach es X.env:=by rfl):
  PA X (.BinOp a op (.Constant (.str x) j p) pos::es) (cQ (tOp r ta (tC (.str x))) t):=by
 intro pos' pins s σ H Q I h
 rw [hs]
 show wpAny _ _ (spliced ((false,eval (.BinOp a op (.Constant (.str x) j p) pos) X.env)::backTo pos' (starEach es X.env))) _ _ s
 refine Calls.spliced_cons (wpAny_BinOp (thn (ha pins s σ H _ I h) fun u s1 ⟨y,H1,I1,r1,q1⟩=> ?_))
 refine Calls.Constant_str (thn (lN (ho pins _ σ H1 y (.str x) u _ _ (I1.tok _) r1 ⟨_,rfl⟩ q1) (Nat.succ_pos _)) fun u2 s2 ⟨⟨x2,H2,I2,r2,q2⟩,z2⟩=> ?_)
 exact thn (hr pos' pins s2 σ H2 _ z2 I2 q2) fun us s3 ⟨xs,H3,I3,r3,q3⟩=>⟨x2::xs,H3,I3,.cons r2 r3,q3⟩
noncomputable def A3 (y z:Str) (to:TE):TE:=fun σ H Q=>to σ H fun v H1=> ∃x,v= .str x/\(y==z)=false/\x.length+z.length<=sizeLine/\Q (.str (fK x y z)) H1
structure M3 (X:Cx) (o:Expr) (m:Str) (apos:Pos) (e f g:Expr) (cpos:Pos):Prop where
 base:attributeBase o m X.env (eval o X.env)=eval o X.env
 few:((backTo cpos (starEach [e,f,g] X.env)).all (fun x=> !x.1)&&(backToKw cpos (keywordEach [] X.env)).all (fun x=>x.1.isSome)
  &&decide (([e,f,g]:List Expr).length+([]:List Keyword).length+(if ([]:List Keyword).isEmpty then 0 else 1)<30))=true
 line:(apos.endLine==cpos.line)=true
 trees:backTo cpos (starEach [e,f,g] X.env)=[(false,eval e X.env),(false,eval f X.env),(false,eval g X.env)]
theorem A4 (ho:PE X o to) (m:M3 X o "replace" apos (.Constant (.str y) j1 p1) (.Constant (.str z) j2 p2) (.Constant (.int 1) j3 p3) cpos):
  PEp X (.Call (.Attribute o "replace" apos) [.Constant (.str y) j1 p1,.Constant (.str z) j2 p2,.Constant (.int 1) j3 p3] [] cpos) (A3 y z to):=by
 intro pins s σ H Q z0 I h
 refine wpAny_Call_method m.base m.few m.line PySem.F.plainAttrs_str PySem.F.slot_str_replace PySem.F.type_str_replace (thn (lN (ho pins s σ H _ I h) z0) fun u s1 ⟨⟨v,H1,I1,rx,x,ex,hyz,hl,q1⟩,z1⟩=> ?_)
 subst ex
 obtain ⟨t,rfl⟩:=rx
 refine ⟨typeIs_str _ _ _,(fun b q=>by cases q),?_⟩
 rw [m.trees]
 refine Calls.callWith_builtin rfl (Calls.evalArgs_plain (Calls.spliced_cons (Calls.Constant_str (Calls.spliced_cons (Calls.Constant_str (Calls.spliced_cons (wpAny_Constant_int (Calls.spliced_nil ?_))))))))
 refine call_gives F.slot_str_replace (typeIs_str _ _ _) F.entry_str_replace (F.args_str_replace_4 _ _ _ _) (AY x y z t s1.toks (s1.toks+1) _ (by have n1:s1.toks≠0:=Nat.ne_of_gt z1;have n2:s1.toks+1≠0:=Nat.succ_ne_zero _;rw [beq_eq_false_iff_ne.mpr n1,beq_eq_false_iff_ne.mpr n2];rfl) (beq_eq_false_iff_ne.mpr (Nat.ne_of_lt (Nat.lt_succ_self _))) hyz ?_) ?_
 ·have h1:=StrLaws.occ_length_le x y 0 x.length 1
  have h2:(Builtin.Str.occurrences x y 0 x.length 1).length*z.length<=1*z.length:=Nat.mul_le_mul_right _ h1
  unfold Builtin.Str.tooLong
  exact decide_eq_false (by lia)
 ·unfold fK at q1
  split
  ·next hc=>rw [if_pos hc] at q1;exact ⟨.str x,H1,I1.tok _,⟨_,rfl⟩,q1⟩
  ·next hc=>
   rw [if_neg hc] at q1
   refine ⟨?_,.str _,H1,I1.tok _,⟨_,rfl⟩,q1⟩
   have h1:=StrLaws.occ_length_le x y 0 x.length 1
   have hy:(Builtin.Str.glued y (Builtin.Str.partsBetween x (Builtin.Str.occurrences x y 0 x.length 1) y.length)).length=x.length:=by rw [StrLaws.glued_between_self]
   rw [size_glued,length_partsBetween,Nat.add_sub_cancel] at hy
   rw [size_glued,length_partsBetween,Nat.add_sub_cancel]
   have h2:(Builtin.Str.occurrences x y 0 x.length 1).length*z.length<=1*z.length:=Nat.mul_le_mul_right _ h1
   lia
end
section
variable {X:Cx}{ms:List Nat}{k1 k2 k3:Kd}{a e o:Expr}{ma me mo:EM}{pos p apos cpos p1 p2 p3:Pos}{x y z:Str}{j j1 j2 j3:Nat}{op:Operator}{r:R2}{f:Dv->Dv->Option Dv}
noncomputable def fL (y z:Str):Dv->Option Dv
 | .str x=>if (y==z)=false/\x.length+z.length<=lim then some (.str (fK x y z)) else none
 |_=>none
theorem A5 (ho:OpR X (binaryOp op) r) (hf:OpD X.K r f) (ha:PD X ms k1 a ma) (he:PD X ms .imm e me) (hx:PD X ms k3 o mo)
  (m:M3 X o "replace" apos (.Constant (.str y) j1 p1) (.Constant (.str z) j2 p2) (.Constant (.int 1) j3 p3) cpos)
  (hs:starEach [.BinOp a op (.Constant (.str x) j p) pos,e,.Call (.Attribute o "replace" apos) [.Constant (.str y) j1 p1,.Constant (.str z) j2 p2,.Constant (.int 1) j3 p3] [] cpos] X.env=(false,eval (.BinOp a op (.Constant (.str x) j p) pos) X.env)::starEach [e,.Call (.Attribute o "replace" apos) [.Constant (.str y) j1 p1,.Constant (.str z) j2 p2,.Constant (.int 1) j3 p3] [] cpos] X.env:=by rfl)
  (hs2:starEach [e,.Call (.Attribute o "replace" apos) [.Constant (.str y) j1 p1,.Constant (.str z) j2 p2,.Constant (.int 1) j3 p3] [] cpos] X.env=(false,eval e X.env)::starEach [.Call (.Attribute o "replace" apos) [.Constant (.str y) j1 p1,.Constant (.str z) j2 p2,.Constant (.int 1) j3 p3] [] cpos] X.env:=by rfl)
  (hs3:starEach [.Call (.Attribute o "replace" apos) [.Constant (.str y) j1 p1,.Constant (.str z) j2 p2,.Constant (.int 1) j3 p3] [] cpos] X.env=(false,eval (.Call (.Attribute o "replace" apos) [.Constant (.str y) j1 p1,.Constant (.str z) j2 p2,.Constant (.int 1) j3 p3] [] cpos) X.env)::starEach [] X.env:=by rfl):
  PDa X ms .imm [.BinOp a op (.Constant (.str x) j p) pos,e,.Call (.Attribute o "replace" apos) [.Constant (.str y) j1 p1,.Constant (.str z) j2 p2,.Constant (.int 1) j3 p3] [] cpos] (aa (eOp f ma (eC (.str x))) (aa me (aa (eUn (fL y z) mo) aNil))):=by
 obtain ⟨ta,pa,qa⟩:=ha
 obtain ⟨te,pe,qe⟩:=he
 obtain ⟨tx,px,qx⟩:=hx
 obtain ⟨tc,_,qc⟩:=(pd_str:PD X ms .imm (.Constant (.str x) j p) (eC (.str x)))
 have q1:DE X.K ms .imm (tOp r ta (tC (.str x))) (eOp f ma (eC (.str x))):=iU (k2:= .imm) hf qa fun δ σ H0 H Q d R hm hq=>by cases hm;exact hq (.str x) H (fun _ _ z=>z) (RepF.str x)
 refine ⟨_,A2 ho pa (A0 pe (AZ (A4 px m) hs3) hs2) hs,fun δ σ H0 H Q ds R hm hq=> ?_⟩
 obtain ⟨d1,h1,hm⟩:=Option.bind_eq_some_iff.mp hm
 obtain ⟨xs,hxs,hm⟩:=Option.bind_eq_some_iff.mp hm
 obtain ⟨d2,h2,hxs⟩:=Option.bind_eq_some_iff.mp hxs
 obtain ⟨ys,hys,hxs⟩:=Option.bind_eq_some_iff.mp hxs
 obtain ⟨d3,h3,hys⟩:=Option.bind_eq_some_iff.mp hys
 cases hm
 cases hxs
 cases hys
 refine q1 δ σ H0 H _ d1 R h1 fun v1 H1 s1 g1=> ?_
 refine qe δ σ H0 H1 _ d2 (R.same s1) h2 fun v2 H2 s2 g2=> ?_
 obtain ⟨dx,hdx,h3⟩:=Option.bind_eq_some_iff.mp h3
 refine qx δ σ H0 H2 _ dx (R.same (s1.tr s2)) hdx fun v3 H3 s3 g3=> ?_
 cases dx<;>simp only [fL,reduceCtorEq] at h3
 split at h3
 rotate_left
 ·cases h3
 next hc=>
  cases h3
  have g3:=g3.bor
  cases g3
  refine ⟨_,rfl,hc.1,Nat.le_trans hc.2 (by decide),?_⟩
  exact hq [v1,v2,.str _] H3 ((s1.tr s2).tr s3) ⟨(g1.same s2).same s3,((g2.same s3).back s1),RepF.str _,trivial⟩
end
end L2
set_option maxHeartbeats 4000000
namespace K58
open PySem L2
noncomputable def top (i:Nat):Stmt:=PySem.Challenge.pw_deltahouse_k58_heaps_refused.main.body.getD i (.Pass ⟨0,0,0,0⟩)
structure Blt (mg:Str->Option Value):Prop where
 all_:mg "all"=none
 int_:mg "int"=none
 isinstance_:mg "isinstance"=none
 len_:mg "len"=none
 list_:mg "list"=none
 range_:mg "range"=none
 set_:mg "set"=none
 sorted_:mg "sorted"=none
 str_:mg "str"=none
 tuple_:mg "tuple"=none
noncomputable abbrev fM:Stmt:=top 13
theorem jC:be ["pairs","sums","row","weight"] ["pairs"] (au fM):=⟨rfl,rfl,rfl,by decide+kernel,rfl,by decide+kernel,by decide+kernel⟩
noncomputable abbrev fN:Stmt:=top 17
theorem A6:be ["text"] ["text"] (au fN):=⟨rfl,rfl,rfl,by decide+kernel,rfl,by decide+kernel,by decide+kernel⟩
noncomputable abbrev fO:Stmt:=top 24
theorem qM:be ["_law_cell","_law_k","_law_number"] ["_law_cell","_law_k"] (au fO):=⟨rfl,rfl,rfl,by decide+kernel,rfl,by decide+kernel,by decide+kernel⟩
noncomputable abbrev fP:Stmt:=top 25
theorem qN:be ["_law_some"] [] (au fP):=⟨rfl,rfl,rfl,by decide+kernel,rfl,by decide+kernel,by decide+kernel⟩
noncomputable abbrev fQ:Stmt:=top 26
theorem fR:be ["_law_row","_law_weight","_law_way","_law_text","_law_some"] ["_law_row","_law_weight","_law_way","_law_text"] (au fQ):=⟨rfl,rfl,rfl,by decide+kernel,rfl,by decide+kernel,by decide+kernel⟩
noncomputable abbrev fS:Stmt:=top 18
theorem A7:be ["text"] ["text"] (au fS):=⟨rfl,rfl,rfl,by decide+kernel,rfl,by decide+kernel,by decide+kernel⟩
noncomputable abbrev fT:Stmt:=top 27
theorem ee:be ["_law_parts","_law_cell","_law_at","_law_way","_law_text","_law_row","_law_weight","_law_words","_law_place"] ["_law_parts","_law_cell"] (au fT):=⟨rfl,rfl,rfl,by decide+kernel,rfl,by decide+kernel,by decide+kernel⟩
noncomputable abbrev eU:Stmt:=top 19
theorem qO:be ["text"] ["text"] (au eU):=⟨rfl,rfl,rfl,by decide+kernel,rfl,by decide+kernel,by decide+kernel⟩
noncomputable abbrev eV:Stmt:=top 20
theorem h9:be ["text","words"] ["text"] (au eV):=⟨rfl,rfl,rfl,by decide+kernel,rfl,by decide+kernel,by decide+kernel⟩
noncomputable abbrev eW:Stmt:=top 21
theorem ic:be ["text","words"] ["text"] (au eW):=⟨rfl,rfl,rfl,by decide+kernel,rfl,by decide+kernel,by decide+kernel⟩
noncomputable abbrev eX:Stmt:=top 22
theorem jD:be ["text","pairs"] ["text"] (au eX):=⟨rfl,rfl,rfl,by decide+kernel,rfl,by decide+kernel,by decide+kernel⟩
noncomputable abbrev fU:Stmt:=top 28
theorem ie:be ["_law_text","_law_cell","_law_caught","error","_law_other"] ["_law_text","_law_cell"] (au fU):=⟨rfl,rfl,rfl,by decide+kernel,rfl,by decide+kernel,by decide+kernel⟩
noncomputable abbrev dH:Stmt:=top 29
theorem dI:be ["_law_script","_law_cells","_law_k","_law_cell","_law_width","_law_pairs","_law_j","_law_row","_law_parts"] ["_law_script"] (au dH):=⟨rfl,rfl,rfl,by decide+kernel,rfl,by decide+kernel,by decide+kernel⟩
noncomputable def A8:SM:=
 (sPut 1 (eVar 2) (eOp dAdd (g8 (eVar 1) (eVar 2) (eC (.int 0))) (eVar 3)))
noncomputable def A9:Dt->Option Bool:=
 (tOf (eOp dNe (eOp dGet (eVar 1) (eVar 0)) (eC (.int 0))))
noncomputable def Ba:EM:=
 (eTup (aa (eVar 0) (aa (eImm (eOp dGet (eVar 1) (eVar 0))) aNil)))
noncomputable def Bc:SM:=
 (sSeq (sSet 1 (eC (.dic [])))
  (sSeq (sFor (iL (eVar 0)) (gT 2 (gC (gN 2) (gC (gN 3) gZ))) A8)
  (sRet (aS [none,some 1] (iL (ah fE (aa (eVar 1) aNil))) (gN 0) A9 Ba))))
noncomputable def ig:List Dv->Option Dv:=aP 4 1 Bc
noncomputable def ii:EM:=
 (eOp dInS (eVar 0) (eC (.str "0123456789")))
noncomputable def eg:SM:=
 (sSeq (sIf (tor (tOf (eOp dLt (ah dg (aa (eVar 0) aNil)) (eC (.int 1)))) (tOf (eOp dGt (ah dg (aa (eVar 0) aNil)) (eC (.int 60)))))
   (sRet (eC (.bl false)))
   av)
  (sSeq (sIf (tand (tOf (eOp dh (eVar 0) (eC (.str "0")))) (tOf (eOp dNe (eVar 0) (eC (.str "0")))))
   (sRet (eC (.bl false)))
   av)
  (sRet (ah fAll (aa (aS [none] (iS (eVar 0)) (gN 0) tyes ii) aNil)))))
noncomputable def cc:List Dv->Option Dv:=aP 1 1 eg
noncomputable def qP:SM:=
 (sSeq (sSet 2 (eOp dMod (eOp dMul (eOp dAdd (eOp dAdd (eVar 0) (eVar 1)) (eC (.int 1))) (eOp dAdd (eC (.int 48271)) (eOp dMul (eOp dMul (eC (.int 2)) (eVar 1)) (eVar 1)))) (eC (.int 2147483647))))
  (sRet (eOp dMod (eOp dMul (eVar 2) (eVar 2)) (eC (.int 2147483629)))))
noncomputable def fV:List Dv->Option Dv:=aP 3 2 qP
noncomputable def qQ:SM:=
 (sSeq (sSet 0 (eC (.str "!\"#$&'()+./:;<=>?@ABCDEFGHIJKLMNOPQRSTUVWXYZ[\\]^_`")))
  (sRet (eOp ae (eVar 0) (eC (.str "abcdefghijklmnopqrstuvwxyz{|}~\n\t")))))
noncomputable def eh:List Dv->Option Dv:=aP 1 0 qQ
noncomputable def lO:SM:=
 (sSeq (sSet 4 (ba (aa (eOp ae (eVar 0) (eC (.str "*0"))) (aa (eOp ae (eVar 0) (eC (.str "*"))) (aa (eVar 0) (aa (eOp ae (eC (.str "*")) (eVar 1)) (aa (eOp ae (eOp ae (eOp ae (eOp ae (eVar 0) (eC (.str "*"))) (eVar 1)) (eC (.str "*"))) (eVar 1)) (aa (eOp ae (eOp ae (eVar 0) (eC (.str "**"))) (eVar 1)) aNil))))))))
  (sSeq (sSet 4 (eOp d6 (eVar 4) (ba (aa (eOp ae (eVar 0) (eC (.str "*+1"))) (aa (eOp ae (eVar 0) (eC (.str "*01"))) (aa (eOp ae (eVar 0) (eC (.str "*-0"))) (aa (eOp ae (eVar 0) (eC (.str "* 1"))) (aa (eOp ae (eVar 0) (eC (.str "*1.0"))) (aa (eOp ae (eVar 0) (eC (.str "*1_0"))) (aa (eOp ae (eOp ae (eVar 0) (eC (.str "*"))) (eOp d7 (eC (.str "9")) (eC (.int 61)))) aNil))))))))))
  (sSeq (sSet 4 (eOp d6 (eVar 4) (ba (aa (eOp ae (eOp ae (eVar 0) (eC (.str ",1*"))) (eVar 1)) (aa (eOp ae (eOp ae (eVar 0) (eC (.str ",*"))) (eVar 1)) (aa (eOp ae (eOp ae (eOp ae (eC (.str ",")) (eVar 0)) (eC (.str "*"))) (eVar 1)) (aa (eOp ae (eOp ae (eOp ae (eC (.str "0")) (eVar 0)) (eC (.str "*"))) (eVar 1)) aNil)))))))
  (sSeq (sSet 4 (eOp d6 (eVar 4) (ba (aa (eOp ae (eOp ae (eVar 0) (eC (.str "-*"))) (eVar 1)) (aa (eC (.str "")) (aa (eC (.str "-*1")) (aa (eOp ae (eVar 0) (eC (.str "*--1"))) (aa (eOp ae (eOp ae (eVar 0) (eC (.str "* "))) (eVar 1)) (aa (eOp ae (eOp ae (eVar 1) (eOp d7 (eC (.str "9")) (eC (.int 61)))) (eC (.str "*1"))) aNil)))))))))
  (sSeq (sSet 4 (eOp d6 (eVar 4) (eLst (aa (eOp ae (eVar 3) (eC (.str "\n"))) (aa (eC (.str "1,2,3,4,5,6,7,8,9*1")) aNil)))))
  (sRet (eImm (eOp dIx (eVar 4) (eOp dMod (eVar 2) (eC (.int 25)))))))))))
noncomputable def eY:List Dv->Option Dv:=aP 5 4 lO
noncomputable def fW:SM:=
 (sSeq (sIf (tOf (eOp dh (eVar 0) (eC (.str "-"))))
   (sRet (eImm (eAnd (eOp dNe (eVar 0) (eC (.str "-0"))) (ah cc (aa (eS (eVar 0) (bX (eC (.int 1))) cr) aNil)))))
   av)
  (sRet (ah cc (aa (eVar 0) aNil))))
noncomputable def cf:List Dv->Option Dv:=aP 1 1 fW
noncomputable def dJ:EM:=
 (eOp ae (eOp ae (eVar 0) (eC (.str "*"))) (eVar 1))
noncomputable def Bd:SM:=
 (sSeq (sSet 2 (eOp dMod (eVar 1) (ah fLen (aa (eVar 0) aNil))))
  (sSeq (sSet 3 (eOp dMod (eOp dDiv (eVar 1) (eC (.int 4))) (eC (.int 34))))
  (sSeq (sSet 4 (eOp bN (eC (.str " ")) (aS [none,none] (iL (eVar 0)) (gT 2 (gC (gN 0) (gC (gN 1) gZ))) tyes dJ)))
  (sSeq (sIf (tOf (eOp dLt (eVar 3) (eC (.int 25))))
   (sSeq (sUnp (eOp dIx (eVar 0) (eVar 2)) (gT 2 (gC (gN 5) (gC (gN 6) gZ))))
  (sSeq (sSet 7 (aS [none,none] (iL (eVar 0)) (gT 2 (gC (gN 0) (gC (gN 1) gZ))) tyes dJ))
  (sSeq (hJ 7 (eVar 2) (ah eY (aa (eVar 5) (aa (eVar 6) (aa (eVar 3) (aa (eOp dIx (eVar 7) (eVar 2)) aNil))))))
  (sSeq (sIf (tand (tOf (eOp dEq (ah fLen (aa (eVar 7) aNil)) (eC (.int 1)))) (tor (tOf (eOp dEq (eVar 3) (eC (.int 13)))) (tOf (eOp dEq (eVar 3) (eC (.int 18))))))
   (sRet (eOp ae (eOp ae (eC (.str "1*1 ")) (eOp dIx (eVar 7) (eC (.int 0)))) (eC (.str ",1*1"))))
   av)
  (sRet (eOp bN (eC (.str " ")) (eVar 7)))))))
   av)
  (sSeq (sIf (tOf (eOp dLt (eVar 3) (eC (.int 28))))
   (sRet (eOp dIx (ba (aa (eOp ae (eVar 4) (eC (.str " "))) (aa (eOp ae (eC (.str " ")) (eVar 4)) (aa (eUn (fL "*" "* ") (eVar 4)) aNil)))) (eOp dSub (eVar 3) (eC (.int 25)))))
   av)
  (sSeq (sIf (tOf (eOp dLt (eVar 3) (eC (.int 32))))
   (sSeq (sSet 8 (eOp dMod (eOp dDiv (eVar 1) (eC (.int 200))) (eOp dAdd (ah dg (aa (eVar 4) aNil)) (eC (.int 1)))))
  (sRet (eOp ae (eOp ae (jB (eVar 4) cr (bX (eVar 8))) (eOp dIxS (ah eh aNil) (eOp dMod (eOp dDiv (eVar 1) (eC (.int 7000))) (eC (.int 82))))) (eS (eVar 4) (bX (eVar 8)) cr))))
   av)
  (sSeq (sIf (tOf (eOp dEq (eVar 3) (eC (.int 32))))
   (sRet (eOp ae (eOp ae (eVar 4) (eC (.str "  "))) (eVar 4)))
   av)
  (sRet (eOp dIx (eLst (aa (eC .non) (aa (eC (.bl true)) (aa (eC (.int 5)) (aa (eTup (aa (eC (.int 1)) (aa (eC (.int 2)) aNil))) (aa (ba (aa (eVar 4) aNil)) (aa (ju (eVar 4) (eC (.int 1))) (aa (eC (.bl false)) (aa (ba aNil) (aa (eUn dNeg (eC (.int 1))) aNil)))))))))) (eOp dMod (eOp dDiv (eVar 1) (eC (.int 200))) (eC (.int 9))))))))))))
noncomputable def M_w_spoiled:List Dv->Option Dv:=aP 9 2 Bd
noncomputable def qR:SM:=
 (sSeq (sIf (tor (tnot (tOf (eIsi "str" (eVar 0)))) (tnot (tOf (ah cf (aa (eVar 0) aNil)))))
   sNo
   av)
  (sRet (ah jq (aa (eVar 0) aNil))))
noncomputable def dL:List Dv->Option Dv:=aP 1 1 qR
noncomputable def dk:EM:=
 (ah dL (aa (eVar 0) aNil))
noncomputable def qS:SM:=
 (sSeq (sIf (tnot (tOf (eIsi "str" (eVar 0))))
   sNo
   av)
  (sSeq (sSet 1 (eOp aT (eVar 0) (eC (.str ","))))
  (sSeq (sIf (tOf (eOp dGt (ah fLen (aa (eVar 1) aNil)) (eC (.int 8))))
   sNo
   av)
  (sRet (ah eL (aa (aS [none] (iL (eVar 1)) (gN 0) tyes dk) aNil))))))
noncomputable def dl:List Dv->Option Dv:=aP 2 1 qS
noncomputable def lQ:SM:=
 (sSeq (sSet 1 (eOp aT (eVar 0) (eC (.str "*"))))
  (sSeq (sIf (tor (tOf (eOp dNe (ah fLen (aa (eVar 1) aNil)) (eC (.int 2)))) (tOf (eOp dEq (eOp dIx (eVar 1) (eC (.int 1))) (eC (.str "0")))))
   sNo
   av)
  (sRet (eTup (aa (ah dl (aa (eOp dIx (eVar 1) (eC (.int 0))) aNil)) (aa (ah dL (aa (eOp dIx (eVar 1) (eC (.int 1))) aNil)) aNil))))))
noncomputable def M_read_entry:List Dv->Option Dv:=aP 2 1 lQ
noncomputable def bD:EM:=
 (ah M_read_entry (aa (eVar 0) aNil))
noncomputable def fX:EM:=
 (ah fLen (aa (eVar 0) aNil))
noncomputable def lR:SM:=
 (sSeq (sIf (tnot (tOf (eIsi "str" (eVar 0))))
   sNo
   av)
  (sSeq (sIf (tOf (eOp dEq (eVar 0) (eC (.str ""))))
   (sRet (ba aNil))
   av)
  (sSeq (sSet 1 (aS [none] (iL (eOp aT (eVar 0) (eC (.str " ")))) (gN 0) tyes bD))
  (sSeq (sIf (tOf (eOp dGt (eUn fH (aS [none,none] (iL (eVar 1)) (gT 2 (gC (gN 0) (gC (gN 1) gZ))) tyes fX)) (eC (.int 1))))
   sNo
   av)
  (sRet (ah ig (aa (eVar 1) aNil)))))))
noncomputable def fY:List Dv->Option Dv:=aP 2 1 lR
noncomputable def qT:Dt->Bool:=
 (rIf (tor (tnot (tOf (eIsi "str" (eVar 0)))) (tnot (tOf (ah cf (aa (eVar 0) aNil))))) (fun δ=>((eC (.str "this is written as no number"):EM) δ).isSome))
noncomputable def bE:List Dv->Bool:=bZ 1 1 qT
noncomputable def fZ:Dt->Bool:=
 (rIf (tnot (tOf (eIsi "str" (eVar 0)))) (fun δ=>((eC (.str "a row is read of a text alone"):EM) δ).isSome))
noncomputable def gb:Dt->Bool:=
 (bg (sIf (tnot (tOf (eIsi "str" (eVar 0))))
   sNo
   av)
  (bg (sSet 1 (eOp aT (eVar 0) (eC (.str ","))))
  (rIf (tOf (eOp dGt (ah fLen (aa (eVar 1) aNil)) (eC (.int 8)))) (fun δ=>((eC (.str "this is written as more numbers than a row has"):EM) δ).isSome))))
noncomputable def gc:Dt->Bool:=
 (bg (sIf (tnot (tOf (eIsi "str" (eVar 0))))
   sNo
   av)
  (bg (sSet 1 (eOp aT (eVar 0) (eC (.str ","))))
  (bg (sIf (tOf (eOp dGt (ah fLen (aa (eVar 1) aNil)) (eC (.int 8))))
   sNo
   av)
  (di [none] (iL (eVar 1)) (gN 0) dk (aM bE (aa (eVar 0) aNil))))))
noncomputable def lS:Dt->Bool:=fun δ=>(fun δ=>fZ δ||gb δ) δ||gc δ
noncomputable def dM:List Dv->Bool:=bZ 2 1 lS
noncomputable def jE:Dt->Bool:=
 (bg (sSet 1 (eOp aT (eVar 0) (eC (.str "*"))))
  (rIf (tor (tOf (eOp dNe (ah fLen (aa (eVar 1) aNil)) (eC (.int 2)))) (tOf (eOp dEq (eOp dIx (eVar 1) (eC (.int 1))) (eC (.str "0"))))) (fun δ=>((eC (.str "this is written as no row with its weight"):EM) δ).isSome)))
noncomputable def jF:Dt->Bool:=
 (bg (sSet 1 (eOp aT (eVar 0) (eC (.str "*"))))
  (bg (sIf (tor (tOf (eOp dNe (ah fLen (aa (eVar 1) aNil)) (eC (.int 2)))) (tOf (eOp dEq (eOp dIx (eVar 1) (eC (.int 1))) (eC (.str "0")))))
   sNo
   av)
  (fun δ=>aM dM (aa (eOp dIx (eVar 1) (eC (.int 0))) aNil) δ||hZ (ah dl (aa (eOp dIx (eVar 1) (eC (.int 0))) aNil)) (aM bE (aa (eOp dIx (eVar 1) (eC (.int 1))) aNil)) δ)))
noncomputable def qU:Dt->Bool:=fun δ=>jE δ||jF δ
noncomputable def cg:List Dv->Bool:=bZ 2 1 qU
noncomputable def ij:Dt->Bool:=
 (rIf (tnot (tOf (eIsi "str" (eVar 0)))) (fun δ=>((eC (.str "a heap is read of a text alone"):EM) δ).isSome))
noncomputable def ik:Dt->Bool:=
 (bg (sIf (tnot (tOf (eIsi "str" (eVar 0))))
   sNo
   av)
  (bg (sIf (tOf (eOp dEq (eVar 0) (eC (.str ""))))
   (sRet (ba aNil))
   av)
  (di [none] (iL (eOp aT (eVar 0) (eC (.str " ")))) (gN 0) bD (aM cg (aa (eVar 0) aNil)))))
noncomputable def io:Dt->Bool:=
 (bg (sIf (tnot (tOf (eIsi "str" (eVar 0))))
   sNo
   av)
  (bg (sIf (tOf (eOp dEq (eVar 0) (eC (.str ""))))
   (sRet (ba aNil))
   av)
  (bg (sSet 1 (aS [none] (iL (eOp aT (eVar 0) (eC (.str " ")))) (gN 0) tyes bD))
  (rIf (tOf (eOp dGt (eUn fH (aS [none,none] (iL (eVar 1)) (gT 2 (gC (gN 0) (gC (gN 1) gZ))) tyes fX)) (eC (.int 1)))) (fun δ=>((eC (.str "the rows of a heap are of one width"):EM) δ).isSome)))))
noncomputable def lT:Dt->Bool:=fun δ=>(fun δ=>ij δ||ik δ) δ||io δ
noncomputable def bo:List Dv->Bool:=bZ 2 1 lT
noncomputable def lU:SM:=
 (sSeq (sSet 2 (eC .non))
  (sSeq (sIf (tOf (eOp dEq (eOp dMod (eVar 1) (eC (.int 3))) (eC (.int 0))))
   (sTry (aM bo (aa (eVar 0) aNil)))
   av)
  (sTry (aM bo (aa (eVar 0) aNil)))))
noncomputable def ge:List Dv->Option Dv:=aP 5 2 lU
noncomputable def lV:EM:=
 (eOp dAdd (eOp dAdd (eOp dMod (ah fV (aa (eOp dAdd (eVar 1) (eVar 2)) (aa (eVar 0) aNil))) (eC (.int 19))) (eC (.int 1))) (eOp dMul (eC (.int 20)) (eVar 2)))
noncomputable def jG:SM:=
 (sSeq (sSet 7 (ah eL (aa (aS [none,some 3,some 6] (iR1 (eVar 4)) (gN 0) tyes lV) aNil)))
  (sApp 5 (eTup (aa (eVar 7) (aa (eOp dAdd (eOp dMod (eOp dDiv (eVar 3) (eC (.int 64))) (eC (.int 9))) (eC (.int 1))) aNil)))))
noncomputable def lX:EM:=
 (ah fStr (aa (eVar 0) aNil))
noncomputable def jH:EM:=
 (eTup (aa (eOp bN (eC (.str ",")) (aS [none] (iT (eVar 0)) (gN 0) tyes lX)) (aa (ah fStr (aa (eVar 1) aNil)) aNil)))
noncomputable def qV:EM:=
 (eOp ae (eOp ae (eVar 0) (eC (.str "*"))) (eVar 1))
noncomputable def l_law_2:SM:=
 (sSeq (sSet 3 (ah fV (aa (eOp dIx (eVar 1) (eVar 2)) (aa (eVar 2) aNil))))
  (sSeq (sSet 4 (eOp dAdd (eC (.int 1)) (eOp dMod (eVar 3) (eC (.int 8)))))
  (sSeq (sSet 5 (ba aNil))
  (sSeq (sFor (iR1 (eOp dAdd (eC (.int 1)) (eOp dMod (eOp dDiv (eVar 3) (eC (.int 8))) (eC (.int 4))))) (gN 6) jG)
  (sSeq (sSet 8 (aS [none,none] (iLI (eVar 5)) (gT 2 (gC (gN 0) (gC (gN 1) gZ))) tyes jH))
  (sSeq (sIf (tnot (tOf (ah ge (aa (ah M_w_spoiled (aa (eVar 8) (aa (eOp dDiv (eVar 3) (eC (.int 32))) aNil))) (aa (eOp dDiv (eVar 3) (eC (.int 7))) aNil)))))
   (sRet (eC (.bl false)))
   av)
  (sIf (tOf (eOp dNe (ah fY (aa (eOp bN (eC (.str " ")) (aS [none,none] (iL (eVar 8)) (gT 2 (gC (gN 0) (gC (gN 1) gZ))) tyes qV)) aNil)) (eVar 5)))
   (sRet (eC (.bl false)))
   av)))))))
noncomputable def qW:SM:=
 (sSeq (sSet 1 (eOp gL (ah eM (aa (eSl (eVar 0) cr (bX (eC (.int 63)))) aNil)) (ba (aa (eC (.int 11)) (aa (eC (.int 25)) aNil)))))
  (sSeq (sFor (iR1 (ah fLen (aa (eVar 1) aNil))) (gN 2) l_law_2)
  (sRet (eC (.bl true)))))
noncomputable def gf:List Dv->Option Dv:=aP 9 1 qW
section
variable {P:Program}{w:World}{K:PySem.W.Frag}{mg:Str->Option Value}{base:Heap}
theorem Be {f:Addr}{fd:FuncData}{t_FIGURES:Tok}{t_MOST_FIGURES:Tok}{t_WIDEST:Tok} (F:Fun K "heap_of" "heap_of" fM f fd) (B:Blt mg) (G_FIGURES:mg "FIGURES"=some (.str "0123456789" t_FIGURES)) (G_MOST_FIGURES:mg "MOST_FIGURES"=some (.int 60 t_MOST_FIGURES)) (G_WIDEST:mg "WIDEST"=some (.int 8 t_WIDEST)):
  FnOk P w K mg base CX0 1 f fd ["pairs"] (spD K .one ig):=
 cC (rk:= .one) (k:=0) [1] F jC rfl rfl fun cdv A outer s H E hr=>
   (aq (oK (i:=1) rfl yS jC.nd rfl (Or.inr rfl))
   (aq (kH PassesOwn.never rfl (cu (ad 0 rfl (pv 0))) (dX rfl (bA (aL rfl (aJ (i:=2) jC.nd rfl (Or.inl rfl))) (bA (aL rfl (aJ (i:=3) jC.nd rfl (Or.inl rfl))) dW)))
   (aw (yT (iM hr) rfl (pv 1) (ad 2 rfl (pv 2)) (ag cF cJ (yR (iM hr) (cV 1 (pv 1)) (ad 2 rfl (pv 2)) ai ⟨rfl,rfl,rfl,rfl⟩) (ad 3 rfl (pv 3))) rfl)))
   (aw (bf (dC ["row","sums"] [none,some 1] [1] (hc:=rfl) (hi:=(cu (PD.le (bz (k1:= .bor) (yO rfl) yQ rfl B.sorted_ ve (af (cV 1 (pv 1)) aj)) Kd.le.one_any))) (hg:=fun _ _ _ _=>(aL rfl (aJ (i:=0) (show (["row","sums"]:List Str).Nodup by decide+kernel) rfl (Or.inl rfl)))) (ht:=fun _ _ _ _=>(vG (aK (eF hr.units) eI (pL (iM hr) (cV 1 (pv 1)) (ad 0 rfl (pv 0)) (fun _ _=>rfl)) ai (aF _)))) (he:=fun _ _ _ _=>(gK (af (ad 0 rfl (pv 0)) (af (PD.le (kC (pL (iM hr) (cV 1 (pv 1)) (ad 0 rfl (pv 0)) (fun _ _=>rfl))) Kd.le.imm_any) aj)) (.inr (.inr (.inl rfl))))) (hz:=(aZ 0)) (ck:=rfl) (hp:=rfl) (hz':=rfl)) (Kd.le.refl _) eP))))
theorem Bf {f:Addr}{fd:FuncData}{t_FIGURES:Tok}{t_MOST_FIGURES:Tok}{t_WIDEST:Tok} (F:Fun K "is_written_place" "is_written_place" fN f fd) (B:Blt mg) (G_FIGURES:mg "FIGURES"=some (.str "0123456789" t_FIGURES)) (G_MOST_FIGURES:mg "MOST_FIGURES"=some (.int 60 t_MOST_FIGURES)) (G_WIDEST:mg "WIDEST"=some (.int 8 t_WIDEST)):
  FnOk P w K mg base CX0 1 f fd ["text"] (spD K .imm cc):=
 cC (rk:= .imm) (k:=0) [] F A6 rfl rfl fun cdv A outer s H E hr=>
   (aq (aO (PDw.pt (eK (aK iH iV (bz (k1:= .bor) lC lD rfl B.len_ bH (af (PD.le (ad 0 rfl (pv 0)) (Kd.le.bor _)) aj)) ai (aF _)) (eJ (aK fh fy (bz (k1:= .bor) lC lD rfl B.len_ bH (af (PD.le (ad 0 rfl (pv 0)) (Kd.le.bor _)) aj)) (PE.pd_c (bR (v:= .int 60) rfl G_MOST_FIGURES ⟨_,rfl⟩) fun _=> .int _) (aF _)))))
    (aw (bf eG (Kd.le.refl _) aC))
    aN)
   (aq (aO (PDw.pt (oB (bJ (bM PySem.F.slot_str_startswith PySem.F.type_str_startswith p9 qo qp (ad 0 rfl (pv 0)) pd_str)) (oA (aK (eF hr.units) eI (ad 0 rfl (pv 0)) pd_str (aF _)))))
    (aw (bf eG (Kd.le.refl _) aC))
    aN)
   (aw (bf (bz (k1:= .bor) (vP rfl) vQ rfl B.all_ vf (af (PD.le (dC ["sign"] [none] [] (hc:=rfl) (hi:=(Aj (ad 0 rfl (pv 0)))) (hg:=fun _ _ _ _=>(aL rfl (aJ (i:=0) (show (["sign"]:List Str).Nodup by decide+kernel) rfl (Or.inl rfl)))) (ht:=fun _ _ _ _=>cB) (he:=fun _ _ _ _=>(oq Ab Ac (ad 0 rfl (pv 0)) (PE.pd_c (bR (v:= .str "0123456789") rfl G_FIGURES ⟨_,rfl⟩) fun _=> .str _) rfl)) (hz:=(aZ 0)) (ck:=rfl) (hp:=rfl) (hz':=rfl)) (Kd.le.bor _)) aj)) (Kd.le.refl _) aC))))
theorem Bg {f:Addr}{fd:FuncData}{t_FIGURES:Tok}{t_MOST_FIGURES:Tok}{t_WIDEST:Tok} (F:Fun K "_law_mixed" "_law_mixed" fO f fd) (B:Blt mg) (G_FIGURES:mg "FIGURES"=some (.str "0123456789" t_FIGURES)) (G_MOST_FIGURES:mg "MOST_FIGURES"=some (.int 60 t_MOST_FIGURES)) (G_WIDEST:mg "WIDEST"=some (.int 8 t_WIDEST)):
  FnOk P w K mg base CX0 1 f fd ["_law_cell","_law_k"] (spD K .imm fV):=
 cC (rk:= .imm) (k:=0) [] F qM rfl rfl fun cdv A outer s H E hr=>
   (aq (aW (i:=2) rfl (PD.le (ag bT bV (ag gH gJ (ag cF cJ (ag cF cJ (ad 0 rfl (pv 0)) (ad 1 rfl (pv 1))) ai) (ag cF cJ ai (ag gH gJ (ag gH gJ ai (ad 1 rfl (pv 1))) (ad 1 rfl (pv 1))))) ai) Kd.le.imm_any) (Kd.le.refl _) qM.nd rfl (Or.inl rfl))
   (aw (bf (ag bT bV (ag gH gJ (ad 2 rfl (pv 2)) (ad 2 rfl (pv 2))) ai) (Kd.le.refl _) aC)))
theorem Bh {f:Addr}{fd:FuncData}{t_FIGURES:Tok}{t_MOST_FIGURES:Tok}{t_WIDEST:Tok} (F:Fun K "_law_signs" "_law_signs" fP f fd) (B:Blt mg) (G_FIGURES:mg "FIGURES"=some (.str "0123456789" t_FIGURES)) (G_MOST_FIGURES:mg "MOST_FIGURES"=some (.int 60 t_MOST_FIGURES)) (G_WIDEST:mg "WIDEST"=some (.int 8 t_WIDEST)):
  FnOk P w K mg base CX0 1 f fd [] (spD K .imm eh):=
 cC (rk:= .imm) (k:=0) [] F qN rfl rfl fun cdv A outer s H E hr=>
   (aq (aW (i:=0) rfl (PD.le pd_str Kd.le.imm_any) (Kd.le.refl _) qN.nd rfl (Or.inl rfl))
   (aw (bf (ag al am (ad 0 rfl (pv 0)) pd_str) (Kd.le.refl _) aC)))
theorem Bi {f:Addr}{fd:FuncData}{t_FIGURES:Tok}{t_MOST_FIGURES:Tok}{t_WIDEST:Tok} (F:Fun K "_law_odd_part" "_law_odd_part" fQ f fd) (B:Blt mg) (G_FIGURES:mg "FIGURES"=some (.str "0123456789" t_FIGURES)) (G_MOST_FIGURES:mg "MOST_FIGURES"=some (.int 60 t_MOST_FIGURES)) (G_WIDEST:mg "WIDEST"=some (.int 8 t_WIDEST)):
  FnOk P w K mg base CX0 1 f fd ["_law_row","_law_weight","_law_way","_law_text"] (spD K .frh eY):=
 cC (rk:= .frh) (k:=0) [] F fR rfl rfl fun cdv A outer s H E hr=>
   (aq (aW (i:=4) rfl (PD.le (cn (k:= .bor) (af (PD.le (ag al am (ad 0 rfl (pv 0)) pd_str) (Kd.le.bor _)) (af (PD.le (ag al am (ad 0 rfl (pv 0)) pd_str) (Kd.le.bor _)) (af (PD.le (ad 0 rfl (pv 0)) (Kd.le.bor _)) (af (PD.le (ag al am pd_str (ad 1 rfl (pv 1))) (Kd.le.bor _)) (af (PD.le (ag al am (ag al am (ag al am (ag al am (ad 0 rfl (pv 0)) pd_str) (ad 1 rfl (pv 1))) pd_str) (ad 1 rfl (pv 1))) (Kd.le.bor _)) (af (PD.le (ag al am (ag al am (ad 0 rfl (pv 0)) pd_str) (ad 1 rfl (pv 1))) (Kd.le.bor _)) aj))))))) Kd.le.one_any) (Kd.le.refl _) fR.nd rfl (Or.inl rfl))
   (aq (aW (i:=4) rfl (jo (ad 4 rfl (pv 4)) (PD.le (cn (k:= .bor) (af (PD.le (ag al am (ad 0 rfl (pv 0)) pd_str) (Kd.le.bor _)) (af (PD.le (ag al am (ad 0 rfl (pv 0)) pd_str) (Kd.le.bor _)) (af (PD.le (ag al am (ad 0 rfl (pv 0)) pd_str) (Kd.le.bor _)) (af (PD.le (ag al am (ad 0 rfl (pv 0)) pd_str) (Kd.le.bor _)) (af (PD.le (ag al am (ad 0 rfl (pv 0)) pd_str) (Kd.le.bor _)) (af (PD.le (ag al am (ad 0 rfl (pv 0)) pd_str) (Kd.le.bor _)) (af (PD.le (ag al am (ag al am (ad 0 rfl (pv 0)) pd_str) (ag qy qz pd_str ai)) (Kd.le.bor _)) aj)))))))) Kd.le.one_any)) (Kd.le.refl _) fR.nd rfl (Or.inl rfl))
   (aq (aW (i:=4) rfl (jo (ad 4 rfl (pv 4)) (PD.le (cn (k:= .bor) (af (PD.le (ag al am (ag al am (ad 0 rfl (pv 0)) pd_str) (ad 1 rfl (pv 1))) (Kd.le.bor _)) (af (PD.le (ag al am (ag al am (ad 0 rfl (pv 0)) pd_str) (ad 1 rfl (pv 1))) (Kd.le.bor _)) (af (PD.le (ag al am (ag al am (ag al am pd_str (ad 0 rfl (pv 0))) pd_str) (ad 1 rfl (pv 1))) (Kd.le.bor _)) (af (PD.le (ag al am (ag al am (ag al am pd_str (ad 0 rfl (pv 0))) pd_str) (ad 1 rfl (pv 1))) (Kd.le.bor _)) aj))))) Kd.le.one_any)) (Kd.le.refl _) fR.nd rfl (Or.inl rfl))
   (aq (aW (i:=4) rfl (jo (ad 4 rfl (pv 4)) (PD.le (cn (k:= .bor) (af (PD.le (ag al am (ag al am (ad 0 rfl (pv 0)) pd_str) (ad 1 rfl (pv 1))) (Kd.le.bor _)) (af (PD.le pd_str (Kd.le.bor _)) (af (PD.le pd_str (Kd.le.bor _)) (af (PD.le (ag al am (ad 0 rfl (pv 0)) pd_str) (Kd.le.bor _)) (af (PD.le (ag al am (ag al am (ad 0 rfl (pv 0)) pd_str) (ad 1 rfl (pv 1))) (Kd.le.bor _)) (af (PD.le (ag al am (ag al am (ad 1 rfl (pv 1)) (ag qy qz pd_str ai)) pd_str) (Kd.le.bor _)) aj))))))) Kd.le.one_any)) (Kd.le.refl _) fR.nd rfl (Or.inl rfl))
   (aq (aW (i:=4) rfl (jo (ad 4 rfl (pv 4)) (oC (af (PD.le (ag al am (ad 3 rfl (pv 3)) pd_str) Kd.le.imm_any) (af (PD.le pd_str Kd.le.imm_any) aj)))) (Kd.le.refl _) fR.nd rfl (Or.inl rfl))
   (aw (bf (PD.le (kC (bK (ad 4 rfl (pv 4)) (ag bT bV (ad 2 rfl (pv 2)) ai) (fun _ _=>rfl))) Kd.le.imm_frh) (Kd.le.refl _) oU)))))))
theorem Bj {f:Addr}{fd:FuncData}{t_FIGURES:Tok}{t_MOST_FIGURES:Tok}{t_WIDEST:Tok} (F:Fun K "is_written_number" "is_written_number" fS f fd) (B:Blt mg) (G_FIGURES:mg "FIGURES"=some (.str "0123456789" t_FIGURES)) (G_MOST_FIGURES:mg "MOST_FIGURES"=some (.int 60 t_MOST_FIGURES)) (G_WIDEST:mg "WIDEST"=some (.int 8 t_WIDEST)) (D_is_written_place:Def P w K mg base 1 "is_written_place" ["text"] (spD K .imm cc)):
  FnOk P w K mg base CX0 2 f fd ["text"] (spD K .imm cf):=
 cC (rk:= .imm) (k:=1) [] F A7 rfl rfl fun cdv A outer s H E hr=>
   (aq (aO (bJ (bM PySem.F.slot_str_startswith PySem.F.type_str_startswith p9 qo qp (ad 0 rfl (pv 0)) pd_str))
    (aw (bf (kC (vo (oq (eF hr.units) eI (ad 0 rfl (pv 0)) pd_str (aF _)) (vn (bj (k1:= .bor) D_is_written_place (hr.mono (by decide)) aC (af (PD.le (qw (ad 0 rfl (pv 0)) (iX ai) iW) (Kd.le.bor _)) aj))))) (Kd.le.refl _) aC))
    aN)
   (aw (bf (bj (k1:= .bor) D_is_written_place (hr.mono (by decide)) aC (af (PD.le (ad 0 rfl (pv 0)) (Kd.le.bor _)) aj)) (Kd.le.refl _) aC)))
theorem Bk {f:Addr}{fd:FuncData}{t_FIGURES:Tok}{t_MOST_FIGURES:Tok}{t_WIDEST:Tok} (F:Fun K "_law_spoiled" "_law_spoiled" fT f fd) (B:Blt mg) (G_FIGURES:mg "FIGURES"=some (.str "0123456789" t_FIGURES)) (G_MOST_FIGURES:mg "MOST_FIGURES"=some (.int 60 t_MOST_FIGURES)) (G_WIDEST:mg "WIDEST"=some (.int 8 t_WIDEST)) (D_w_odd_part:Def P w K mg base 1 "_law_odd_part" ["_law_row","_law_weight","_law_way","_law_text"] (spD K .frh eY)) (D_w_signs:Def P w K mg base 1 "_law_signs" [] (spD K .imm eh)):
  FnOk P w K mg base CX0 2 f fd ["_law_parts","_law_cell"] (spA K M_w_spoiled):=
 zX (k:=1) [7] F ee rfl rfl fun cdv A outer s H E hr=>
   (aq (aW (i:=2) rfl (PD.le (ag bT bV (ad 1 rfl (pv 1)) (bz (k1:= .bor) cG cL rfl B.len_ bH (af (PD.le (ad 0 rfl (pv 0)) (Kd.le.bor _)) aj))) Kd.le.imm_any) (Kd.le.refl _) ee.nd rfl (Or.inl rfl))
   (aq (aW (i:=3) rfl (PD.le (ag bT bV (ag dP dU (ad 1 rfl (pv 1)) ai) ai) Kd.le.imm_any) (Kd.le.refl _) ee.nd rfl (Or.inl rfl))
   (aq (aW (i:=4) rfl (PD.le (bM PySem.F.slot_str_join PySem.F.type_str_join jp jr jt pd_str (dC ["_law_row","_law_weight"] [none,none] [] (hc:=rfl) (hi:=(cu (ad 0 rfl (pv 0)))) (hg:=fun _ _ _ _=>(dX rfl (bA (aL rfl (aJ (i:=0) (show (["_law_row","_law_weight"]:List Str).Nodup by decide+kernel) rfl (Or.inl rfl))) (bA (aL rfl (aJ (i:=1) (show (["_law_row","_law_weight"]:List Str).Nodup by decide+kernel) rfl (Or.inl rfl))) dW)))) (ht:=fun _ _ _ _=>cB) (he:=fun _ _ _ _=>(ag al am (ag al am (ad 0 rfl (pv 0)) pd_str) (ad 1 rfl (pv 1)))) (hz:=(fB (cA (aZ 0) (cA (aZ 1) fA)))) (ck:=rfl) (hp:=rfl) (hz':=rfl))) Kd.le.imm_any) (Kd.le.refl _) ee.nd rfl (Or.inl rfl))
   (aq (aO (aK iH iV (ad 3 rfl (pv 3)) ai (aF _))
    (aq (zv (bK (ad 0 rfl (pv 0)) (ad 2 rfl (pv 2)) (fun _ _=>rfl)) (dX rfl (bA (aL rfl (aJ (i:=5) ee.nd rfl (Or.inl rfl))) (bA (aL rfl (aJ (i:=6) ee.nd rfl (Or.inl rfl))) dW))))
   (aq (vK (i:=7) (hi':=rfl) (hN:=ee.nd) (hx:=rfl) (hl:=Or.inl rfl) ["_law_row","_law_weight"] [none,none] [] (hc:=rfl) (hi:=(cu (ad 0 rfl (pv 0)))) (hg:=fun _ _ _ _=>(dX rfl (bA (aL rfl (aJ (i:=0) (show (["_law_row","_law_weight"]:List Str).Nodup by decide+kernel) rfl (Or.inl rfl))) (bA (aL rfl (aJ (i:=1) (show (["_law_row","_law_weight"]:List Str).Nodup by decide+kernel) rfl (Or.inl rfl))) dW)))) (ht:=fun _ _ _ _=>cB) (he:=fun _ _ _ _=>(ag al am (ag al am (ad 0 rfl (pv 0)) pd_str) (ad 1 rfl (pv 1)))) (hz:=(fB (cA (aZ 0) (cA (aZ 1) fA)))) (ck:=rfl) (hp:=rfl) (hz':=rfl))
   (aq (zu rfl (pv 7) (ad 2 rfl (pv 2)) (bj (k1:= .bor) D_w_odd_part (hr.mono (by decide)) oU (af (PD.le (ad 5 rfl (pv 5)) (Kd.le.bor _)) (af (PD.le (ad 6 rfl (pv 6)) (Kd.le.bor _)) (af (PD.le (ad 3 rfl (pv 3)) (Kd.le.bor _)) (af (bK (cV 7 (pv 7)) (ad 2 rfl (pv 2)) (fun _ _=>rfl)) aj))))))
   (aq (aO (PDw.pt (oB (aK (cI hr.units) cK (bz (k1:= .bor) cG cL rfl B.len_ bH (af (cV 7 (pv 7)) aj)) ai (aF _)) (oA (PDw.pt (eK (aK (cI hr.units) cK (ad 3 rfl (pv 3)) ai (aF _)) (eJ (aK (cI hr.units) cK (ad 3 rfl (pv 3)) ai (aF _))))))))
    (aw (eN (PD.le (ag al am (ag al am pd_str (bK (cV 7 (pv 7)) ai (fun _ _=>rfl))) pd_str) Kd.le.imm_any) (Kd.le.refl _)))
    aN)
   (aw (eN (PD.le (bM PySem.F.slot_str_join PySem.F.type_str_join jp jr jt pd_str (cV 7 (pv 7))) Kd.le.imm_any) (Kd.le.refl _)))))))
    aN)
   (aq (aO (aK iH iV (ad 3 rfl (pv 3)) ai (aF _))
    (aw (eN (PD.le (bK (cn (k:= .imm) (A5 al am (ad 4 rfl (pv 4)) (ag al am pd_str (ad 4 rfl (pv 4))) (ad 4 rfl (pv 4)) ⟨rfl,rfl,rfl,rfl⟩)) (ag tW vi (ad 3 rfl (pv 3)) ai) (fun _ _=>rfl)) Kd.le.imm_any) (Kd.le.refl _)))
    aN)
   (aq (aO (aK iH iV (ad 3 rfl (pv 3)) ai (aF _))
    (aq (aW (i:=8) rfl (PD.le (ag bT bV (ag dP dU (ad 1 rfl (pv 1)) ai) (ag cF cJ (bz (k1:= .bor) lC lD rfl B.len_ bH (af (PD.le (ad 4 rfl (pv 4)) (Kd.le.bor _)) aj)) ai)) Kd.le.imm_any) (Kd.le.refl _) ee.nd rfl (Or.inl rfl))
   (aw (eN (PD.le (ag al am (ag al am (AQ (ad 4 rfl (pv 4)) iW (iX (ad 8 rfl (pv 8)))) (zZ (AM D_w_signs (hr.mono (by decide)) aC) (ag bT bV (ag dP dU (ad 1 rfl (pv 1)) ai) ai) (fun _ _=>rfl))) (qw (ad 4 rfl (pv 4)) (iX (ad 8 rfl (pv 8))) iW)) Kd.le.imm_any) (Kd.le.refl _))))
    aN)
   (aq (aO (aK (cI hr.units) cK (ad 3 rfl (pv 3)) ai (aF _))
    (aw (eN (PD.le (ag al am (ag al am (ad 4 rfl (pv 4)) pd_str) (ad 4 rfl (pv 4))) Kd.le.imm_any) (Kd.le.refl _)))
    aN)
   (aw (eN (bK (oC (af (PD.le on Kd.le.imm_any) (af (PD.le eG Kd.le.imm_any) (af (PD.le ai Kd.le.imm_any) (af (PD.le (gK (af ai (af ai aj)) (.inl rfl)) Kd.le.imm_any) (af (PD.le (cn (k:= .bor) (af (PD.le (ad 4 rfl (pv 4)) (Kd.le.bor _)) aj)) Kd.le.one_any) (af (PD.le (Ao (ad 4 rfl (pv 4)) ai) Kd.le.frh_any) (af (PD.le eG Kd.le.imm_any) (af (PD.le (cn (k:= .bor) aj) Kd.le.one_any) (af (PD.le (vm ai) Kd.le.imm_any) aj)))))))))) (ag bT bV (ag dP dU (ad 1 rfl (pv 1)) ai) ai) (fun _ _=>rfl)) (Kd.le.refl _))))))))))
theorem Bl {f:Addr}{fd:FuncData}{t_FIGURES:Tok}{t_MOST_FIGURES:Tok}{t_WIDEST:Tok} (F:Fun K "read_number" "read_number" eU f fd) (B:Blt mg) (G_FIGURES:mg "FIGURES"=some (.str "0123456789" t_FIGURES)) (G_MOST_FIGURES:mg "MOST_FIGURES"=some (.int 60 t_MOST_FIGURES)) (G_WIDEST:mg "WIDEST"=some (.int 8 t_WIDEST)) (D_is_written_number:Def P w K mg base 2 "is_written_number" ["text"] (spD K .imm cf)):
  FnOk P w K mg base CX0 3 f fd ["text"] (spD K .imm dL):=
 cC (rk:= .imm) (k:=2) [] F qO rfl rfl fun cdv A outer s H E hr=>
   (aq (aO (PDw.pt (eK (bW (bJ (cX "str" (ad 0 rfl (pv 0)) rfl B.isinstance_ rfl B.str_ cm))) (eJ (bW (bJ (bj (k1:= .bor) D_is_written_number (hr.mono (by decide)) aC (af (PD.le (ad 0 rfl (pv 0)) (Kd.le.bor _)) aj)))))))
    (aw cD)
    aN)
   (aw (bf (fz (k1:= .bor) Ad Ae rfl B.int_ vg (af (PD.le (ad 0 rfl (pv 0)) (Kd.le.bor _)) aj)) (Kd.le.refl _) aC)))
theorem Bm {f:Addr}{fd:FuncData}{t_FIGURES:Tok}{t_MOST_FIGURES:Tok}{t_WIDEST:Tok} (F:Fun K "read_row" "read_row" eV f fd) (B:Blt mg) (G_FIGURES:mg "FIGURES"=some (.str "0123456789" t_FIGURES)) (G_MOST_FIGURES:mg "MOST_FIGURES"=some (.int 60 t_MOST_FIGURES)) (G_WIDEST:mg "WIDEST"=some (.int 8 t_WIDEST)) (D_read_number:Def P w K mg base 3 "read_number" ["text"] (spD K .imm dL)):
  FnOk P w K mg base CX0 4 f fd ["text"] (spD K .imm dl):=
 cC (rk:= .imm) (k:=3) [] F h9 rfl rfl fun cdv A outer s H E hr=>
   (aq (aO (bW (bJ (cX "str" (ad 0 rfl (pv 0)) rfl B.isinstance_ rfl B.str_ cm)))
    (aw cD)
    aN)
   (aq (aW (i:=1) rfl (PD.le (bM PySem.F.slot_str_split PySem.F.type_str_split dE dF dG (ad 0 rfl (pv 0)) pd_str) Kd.le.one_any) (Kd.le.refl _) h9.nd rfl (Or.inl rfl))
   (aq (aO (aK fh fy (bz (k1:= .bor) cG cL rfl B.len_ bH (af (PD.le (ad 1 rfl (pv 1)) (Kd.le.bor _)) aj)) (PE.pd_c (bR (v:= .int 8) rfl G_WIDEST ⟨_,rfl⟩) fun _=> .int _) (aF _))
    (aw cD)
    aN)
   (aw (bf (fz (k1:= .bor) nA oE rfl B.tuple_ ku (af (PD.le (dC ["word"] [none] [] (hc:=rfl) (hi:=(cu (ad 1 rfl (pv 1)))) (hg:=fun _ _ _ _=>(aL rfl (aJ (i:=0) (show (["word"]:List Str).Nodup by decide+kernel) rfl (Or.inl rfl)))) (ht:=fun _ _ _ _=>cB) (he:=fun _ _ _ _=>(bj (k1:= .bor) D_read_number (hr.mono (by decide)) aC (af (PD.le (ad 0 rfl (pv 0)) (Kd.le.bor _)) aj))) (hz:=(aZ 0)) (ck:=rfl) (hp:=rfl) (hz':=rfl)) (Kd.le.bor _)) aj)) (Kd.le.refl _) aC)))))
theorem Bn {f:Addr}{fd:FuncData}{t_FIGURES:Tok}{t_MOST_FIGURES:Tok}{t_WIDEST:Tok} (F:Fun K "read_entry" "read_entry" eW f fd) (B:Blt mg) (G_FIGURES:mg "FIGURES"=some (.str "0123456789" t_FIGURES)) (G_MOST_FIGURES:mg "MOST_FIGURES"=some (.int 60 t_MOST_FIGURES)) (G_WIDEST:mg "WIDEST"=some (.int 8 t_WIDEST)) (D_read_row:Def P w K mg base 4 "read_row" ["text"] (spD K .imm dl)) (D_read_number:Def P w K mg base 3 "read_number" ["text"] (spD K .imm dL)):
  FnOk P w K mg base CX0 5 f fd ["text"] (spD K .imm M_read_entry):=
 cC (rk:= .imm) (k:=4) [] F ic rfl rfl fun cdv A outer s H E hr=>
   (aq (aW (i:=1) rfl (PD.le (bM PySem.F.slot_str_split PySem.F.type_str_split dE dF dG (ad 0 rfl (pv 0)) pd_str) Kd.le.one_any) (Kd.le.refl _) ic.nd rfl (Or.inl rfl))
   (aq (aO (PDw.pt (eK (aK (eF hr.units) eI (bz (k1:= .bor) cG cL rfl B.len_ bH (af (PD.le (ad 1 rfl (pv 1)) (Kd.le.bor _)) aj)) ai (aF _)) (eJ (aK (cI hr.units) cK (bK (ad 1 rfl (pv 1)) ai (fun _ _=>rfl)) pd_str (aF _)))))
    (aw cD)
    aN)
   (aw (bf (gK (af (bj (k1:= .bor) D_read_row (hr.mono (by decide)) aC (af (PD.le (bK (ad 1 rfl (pv 1)) ai (fun _ _=>rfl)) (Kd.le.bor _)) aj)) (af (bj (k1:= .bor) D_read_number (hr.mono (by decide)) aC (af (PD.le (bK (ad 1 rfl (pv 1)) ai (fun _ _=>rfl)) (Kd.le.bor _)) aj)) aj)) (.inl rfl)) (Kd.le.refl _) aC))))
theorem Bo {f:Addr}{fd:FuncData}{t_FIGURES:Tok}{t_MOST_FIGURES:Tok}{t_WIDEST:Tok} (F:Fun K "read_heap" "read_heap" eX f fd) (B:Blt mg) (G_FIGURES:mg "FIGURES"=some (.str "0123456789" t_FIGURES)) (G_MOST_FIGURES:mg "MOST_FIGURES"=some (.int 60 t_MOST_FIGURES)) (G_WIDEST:mg "WIDEST"=some (.int 8 t_WIDEST)) (D_read_entry:Def P w K mg base 5 "read_entry" ["text"] (spD K .imm M_read_entry)) (D_heap_of:Def P w K mg base 1 "heap_of" ["pairs"] (spD K .one ig)):
  FnOk P w K mg base CX0 6 f fd ["text"] (spD K .one fY):=
 cC (rk:= .one) (k:=5) [] F jD rfl rfl fun cdv A outer s H E hr=>
   (aq (aO (bW (bJ (cX "str" (ad 0 rfl (pv 0)) rfl B.isinstance_ rfl B.str_ cm)))
    (aw cD)
    aN)
   (aq (aO (aK (cI hr.units) cK (ad 0 rfl (pv 0)) pd_str (aF _))
    (aw (bf (cn (k:= .bor) aj) (Kd.le.refl _) eP))
    aN)
   (aq (kG (i:=1) (hi':=rfl) (hN:=jD.nd) (hx:=rfl) (hl:=Or.inl rfl) ["word"] [none] [] (hc:=rfl) (hi:=(cu (PD.le (bM PySem.F.slot_str_split PySem.F.type_str_split dE dF dG (ad 0 rfl (pv 0)) pd_str) Kd.le.one_any))) (hg:=fun _ _ _ _=>(aL rfl (aJ (i:=0) (show (["word"]:List Str).Nodup by decide+kernel) rfl (Or.inl rfl)))) (ht:=fun _ _ _ _=>cB) (he:=fun _ _ _ _=>(bj (k1:= .bor) D_read_entry (hr.mono (by decide)) aC (af (PD.le (ad 0 rfl (pv 0)) (Kd.le.bor _)) aj))) (hz:=(aZ 0)) (ck:=rfl) (hp:=rfl) (hz':=rfl))
   (aq (aO (aK fh fy (qA rfl rfl B.len_ rfl B.set_ (dC ["row","weight"] [none,none] [] (hc:=rfl) (hi:=(cu (ad 1 rfl (pv 1)))) (hg:=fun _ _ _ _=>(dX rfl (bA (aL rfl (aJ (i:=0) (show (["row","weight"]:List Str).Nodup by decide+kernel) rfl (Or.inl rfl))) (bA (aL rfl (aJ (i:=1) (show (["row","weight"]:List Str).Nodup by decide+kernel) rfl (Or.inl rfl))) dW)))) (ht:=fun _ _ _ _=>cB) (he:=fun _ _ _ _=>(bz (k1:= .bor) cG cL rfl B.len_ bH (af (PD.le (ad 0 rfl (pv 0)) (Kd.le.bor _)) aj))) (hz:=(fB (cA (aZ 0) (cA (aZ 1) fA)))) (ck:=rfl) (hp:=rfl) (hz':=rfl))) ai (aF _))
    (aw cD)
    aN)
   (aw (bf (bj (k1:= .bor) D_heap_of (hr.mono (by decide)) eP (af (PD.le (ad 1 rfl (pv 1)) (Kd.le.bor _)) aj)) (Kd.le.refl _) eP))))))
theorem Bp {C:Addr}{Bb newId initId:String}{bm:List Value}{f:Addr}{fd:FuncData}{t_FIGURES:Tok}{t_MOST_FIGURES:Tok}{t_WIDEST:Tok} (F:Fun K "read_number" "read_number" eU f fd) (B:Blt mg) (G_FIGURES:mg "FIGURES"=some (.str "0123456789" t_FIGURES)) (G_MOST_FIGURES:mg "MOST_FIGURES"=some (.int 60 t_MOST_FIGURES)) (G_WIDEST:mg "WIDEST"=some (.int 8 t_WIDEST)) (D_is_written_number:Def P w K mg base 2 "is_written_number" ["text"] (spD K .imm cf)) (O:PyProof.Rows.OwnCls "NoText" C bm newId mg base) (FB:ExcBaseFacts Bb newId initId bm):
  FnOk P w K mg base (CXe P w base C) 3 f fd ["text"] (spX K C bE):=
 jy (k:=2) [] F qO rfl rfl fun cdv A outer s H E hr=>
   (bO (fI (PDw.pt (eK (bW (bJ (cX "str" (ad 0 rfl (pv 0)) rfl B.isinstance_ rfl B.str_ cm))) (eJ (bW (bJ (bj (k1:= .bor) D_is_written_number (hr.mono (by decide)) aC (af (PD.le (ad 0 rfl (pv 0)) (Kd.le.bor _)) aj))))))) (bO (fJ O FB pd_str))))
theorem Bq {C:Addr}{Bb newId initId:String}{bm:List Value}{f:Addr}{fd:FuncData}{t_FIGURES:Tok}{t_MOST_FIGURES:Tok}{t_WIDEST:Tok} (F:Fun K "read_row" "read_row" eV f fd) (B:Blt mg) (G_FIGURES:mg "FIGURES"=some (.str "0123456789" t_FIGURES)) (G_MOST_FIGURES:mg "MOST_FIGURES"=some (.int 60 t_MOST_FIGURES)) (G_WIDEST:mg "WIDEST"=some (.int 8 t_WIDEST)) (D_read_number:Def P w K mg base 3 "read_number" ["text"] (spD K .imm dL)) (O:PyProof.Rows.OwnCls "NoText" C bm newId mg base) (FB:ExcBaseFacts Bb newId initId bm) (DX_read_number:DefX P w K mg base C 3 "read_number" ["text"] (spX K C bE)):
  FnOk P w K mg base (CXe P w base C) 4 f fd ["text"] (spX K C dM):=
 jy (k:=3) [] F h9 rfl rfl fun cdv A outer s H E hr=>
   (hV (hV (m:=fZ) (m':=gb) (bO (fI (bW (bJ (cX "str" (ad 0 rfl (pv 0)) rfl B.isinstance_ rfl B.str_ cm))) (bO (fJ O FB pd_str))))
    (bY (rk:= .imm) (aO (bW (bJ (cX "str" (ad 0 rfl (pv 0)) rfl B.isinstance_ rfl B.str_ cm))) (aw cD) aN) (bY (rk:= .imm) (aW (i:=1) rfl (PD.le (bM PySem.F.slot_str_split PySem.F.type_str_split dE dF dG (ad 0 rfl (pv 0)) pd_str) Kd.le.one_any) (Kd.le.refl _) h9.nd rfl (Or.inl rfl)) (bO (fI (aK fh fy (bz (k1:= .bor) cG cL rfl B.len_ bH (af (PD.le (ad 1 rfl (pv 1)) (Kd.le.bor _)) aj)) (PE.pd_c (bR (v:= .int 8) rfl G_WIDEST ⟨_,rfl⟩) fun _=> .int _) (aF _)) (bO (fJ O FB pd_str)))))))
    (m':=gc)
    (bY (rk:= .imm) (aO (bW (bJ (cX "str" (ad 0 rfl (pv 0)) rfl B.isinstance_ rfl B.str_ cm))) (aw cD) aN) (bY (rk:= .imm) (aW (i:=1) rfl (PD.le (bM PySem.F.slot_str_split PySem.F.type_str_split dE dF dG (ad 0 rfl (pv 0)) pd_str) Kd.le.one_any) (Kd.le.refl _) h9.nd rfl (Or.inl rfl)) (bY (rk:= .imm) (aO (aK fh fy (bz (k1:= .bor) cG cL rfl B.len_ bH (af (PD.le (ad 1 rfl (pv 1)) (Kd.le.bor _)) aj)) (PE.pd_c (bR (v:= .int 8) rfl G_WIDEST ⟨_,rfl⟩) fun _=> .int _) (aF _)) (aw cD) aN)
     (bO (qC (As (Az ["word"] [none] [] (fun _ _ z=>jw z) rfl rfl rfl (cu (ad 1 rfl (pv 1)))
      (fun _ _ _ _=>(aL rfl (aJ (i:=0) (show (["word"]:List Str).Nodup by decide+kernel) rfl (Or.inl rfl))))
      (fun _ _ _ _=>(bj (k1:= .bor) D_read_number (hr.mono (by decide)) aC (af (PD.le (ad 0 rfl (pv 0)) (Kd.le.bor _)) aj)))
      (fun _ _ _ _=>(jz (k1:= .bor) DX_read_number (hr.mono (by decide)) (fun _ _ z=>qF z) (af (PD.le (ad 0 rfl (pv 0)) (Kd.le.bor _)) aj)))
      (aZ 0) rfl rfl rfl) rfl B.tuple_ ku)))))))
theorem Br {C:Addr}{Bb newId initId:String}{bm:List Value}{f:Addr}{fd:FuncData}{t_FIGURES:Tok}{t_MOST_FIGURES:Tok}{t_WIDEST:Tok} (F:Fun K "read_entry" "read_entry" eW f fd) (B:Blt mg) (G_FIGURES:mg "FIGURES"=some (.str "0123456789" t_FIGURES)) (G_MOST_FIGURES:mg "MOST_FIGURES"=some (.int 60 t_MOST_FIGURES)) (G_WIDEST:mg "WIDEST"=some (.int 8 t_WIDEST)) (D_read_row:Def P w K mg base 4 "read_row" ["text"] (spD K .imm dl)) (D_read_number:Def P w K mg base 3 "read_number" ["text"] (spD K .imm dL)) (O:PyProof.Rows.OwnCls "NoText" C bm newId mg base) (FB:ExcBaseFacts Bb newId initId bm) (DX_read_number:DefX P w K mg base C 3 "read_number" ["text"] (spX K C bE)) (DX_read_row:DefX P w K mg base C 4 "read_row" ["text"] (spX K C dM)):
  FnOk P w K mg base (CXe P w base C) 5 f fd ["text"] (spX K C cg):=
 jy (k:=4) [] F ic rfl rfl fun cdv A outer s H E hr=>
   (hV (m:=jE) (m':=jF)
    (bY (rk:= .imm) (aW (i:=1) rfl (PD.le (bM PySem.F.slot_str_split PySem.F.type_str_split dE dF dG (ad 0 rfl (pv 0)) pd_str) Kd.le.one_any) (Kd.le.refl _) ic.nd rfl (Or.inl rfl)) (bO (fI (PDw.pt (eK (aK (eF hr.units) eI (bz (k1:= .bor) cG cL rfl B.len_ bH (af (PD.le (ad 1 rfl (pv 1)) (Kd.le.bor _)) aj)) ai (aF _)) (eJ (aK (cI hr.units) cK (bK (ad 1 rfl (pv 1)) ai (fun _ _=>rfl)) pd_str (aF _))))) (bO (fJ O FB pd_str)))))
    (bY (rk:= .imm) (aW (i:=1) rfl (PD.le (bM PySem.F.slot_str_split PySem.F.type_str_split dE dF dG (ad 0 rfl (pv 0)) pd_str) Kd.le.one_any) (Kd.le.refl _) ic.nd rfl (Or.inl rfl)) (bY (rk:= .imm) (aO (PDw.pt (eK (aK (eF hr.units) eI (bz (k1:= .bor) cG cL rfl B.len_ bH (af (PD.le (ad 1 rfl (pv 1)) (Kd.le.bor _)) aj)) ai (aF _)) (eJ (aK (cI hr.units) cK (bK (ad 1 rfl (pv 1)) ai (fun _ _=>rfl)) pd_str (aF _))))) (aw cD) aN)
     (bO (qC (AT (AR (qL (jz (k1:= .bor) DX_read_row (hr.mono (by decide)) (fun _ _ z=>jw z) (af (PD.le (bK (ad 1 rfl (pv 1)) ai (fun _ _=>rfl)) (Kd.le.bor _)) aj))) (AS (bj (k1:= .bor) D_read_row (hr.mono (by decide)) aC (af (PD.le (bK (ad 1 rfl (pv 1)) ai (fun _ _=>rfl)) (Kd.le.bor _)) aj)) (qL (jz (k1:= .bor) DX_read_number (hr.mono (by decide)) (fun _ _ z=>jw z) (af (PD.le (bK (ad 1 rfl (pv 1)) ai (fun _ _=>rfl)) (Kd.le.bor _)) aj)))))))))))
theorem Bt {C:Addr}{Bb newId initId:String}{bm:List Value}{f:Addr}{fd:FuncData}{t_FIGURES:Tok}{t_MOST_FIGURES:Tok}{t_WIDEST:Tok} (F:Fun K "read_heap" "read_heap" eX f fd) (B:Blt mg) (G_FIGURES:mg "FIGURES"=some (.str "0123456789" t_FIGURES)) (G_MOST_FIGURES:mg "MOST_FIGURES"=some (.int 60 t_MOST_FIGURES)) (G_WIDEST:mg "WIDEST"=some (.int 8 t_WIDEST)) (D_read_entry:Def P w K mg base 5 "read_entry" ["text"] (spD K .imm M_read_entry)) (D_heap_of:Def P w K mg base 1 "heap_of" ["pairs"] (spD K .one ig)) (O:PyProof.Rows.OwnCls "NoText" C bm newId mg base) (FB:ExcBaseFacts Bb newId initId bm) (DX_read_entry:DefX P w K mg base C 5 "read_entry" ["text"] (spX K C cg)):
  FnOk P w K mg base (CXe P w base C) 6 f fd ["text"] (spX K C bo):=
 jy (k:=5) [] F jD rfl rfl fun cdv A outer s H E hr=>
   (hV (hV (m:=ij) (m':=ik) (bO (fI (bW (bJ (cX "str" (ad 0 rfl (pv 0)) rfl B.isinstance_ rfl B.str_ cm))) (bO (fJ O FB pd_str))))
    (bY (rk:= .imm) (aO (bW (bJ (cX "str" (ad 0 rfl (pv 0)) rfl B.isinstance_ rfl B.str_ cm))) (aw cD) aN) (bY (rk:= .one) (aO (aK (cI hr.units) cK (ad 0 rfl (pv 0)) pd_str (aF _))
    (aw (bf (cn (k:= .bor) aj) (Kd.le.refl _) eP))
    aN) (bO (AV ["word"] [none] [] (fun _ _ z=>jw z) rfl rfl rfl (cu (PD.le (bM PySem.F.slot_str_split PySem.F.type_str_split dE dF dG (ad 0 rfl (pv 0)) pd_str) Kd.le.one_any))
      (fun _ _ _ _=>(aL rfl (aJ (i:=0) (show (["word"]:List Str).Nodup by decide+kernel) rfl (Or.inl rfl))))
      (fun _ _ _ _=>(bj (k1:= .bor) D_read_entry (hr.mono (by decide)) aC (af (PD.le (ad 0 rfl (pv 0)) (Kd.le.bor _)) aj)))
      (fun _ _ _ _=>(jz (k1:= .bor) DX_read_entry (hr.mono (by decide)) (fun _ _ z=>qF z) (af (PD.le (ad 0 rfl (pv 0)) (Kd.le.bor _)) aj)))
      (aZ 0) rfl rfl rfl)))))
    (m':=io)
    (bY (rk:= .imm) (aO (bW (bJ (cX "str" (ad 0 rfl (pv 0)) rfl B.isinstance_ rfl B.str_ cm))) (aw cD) aN) (bY (rk:= .one) (aO (aK (cI hr.units) cK (ad 0 rfl (pv 0)) pd_str (aF _))
    (aw (bf (cn (k:= .bor) aj) (Kd.le.refl _) eP))
    aN) (bY (rk:= .imm) (kG (i:=1) (hi':=rfl) (hN:=jD.nd) (hx:=rfl) (hl:=Or.inl rfl) ["word"] [none] [] (hc:=rfl) (hi:=(cu (PD.le (bM PySem.F.slot_str_split PySem.F.type_str_split dE dF dG (ad 0 rfl (pv 0)) pd_str) Kd.le.one_any))) (hg:=fun _ _ _ _=>(aL rfl (aJ (i:=0) (show (["word"]:List Str).Nodup by decide+kernel) rfl (Or.inl rfl)))) (ht:=fun _ _ _ _=>cB) (he:=fun _ _ _ _=>(bj (k1:= .bor) D_read_entry (hr.mono (by decide)) aC (af (PD.le (ad 0 rfl (pv 0)) (Kd.le.bor _)) aj))) (hz:=(aZ 0)) (ck:=rfl) (hp:=rfl) (hz':=rfl)) (bO (fI (aK fh fy (qA rfl rfl B.len_ rfl B.set_ (dC ["row","weight"] [none,none] [] (hc:=rfl) (hi:=(cu (ad 1 rfl (pv 1)))) (hg:=fun _ _ _ _=>(dX rfl (bA (aL rfl (aJ (i:=0) (show (["row","weight"]:List Str).Nodup by decide+kernel) rfl (Or.inl rfl))) (bA (aL rfl (aJ (i:=1) (show (["row","weight"]:List Str).Nodup by decide+kernel) rfl (Or.inl rfl))) dW)))) (ht:=fun _ _ _ _=>cB) (he:=fun _ _ _ _=>(bz (k1:= .bor) cG cL rfl B.len_ bH (af (PD.le (ad 0 rfl (pv 0)) (Kd.le.bor _)) aj))) (hz:=(fB (cA (aZ 0) (cA (aZ 1) fA)))) (ck:=rfl) (hp:=rfl) (hz':=rfl))) ai (aF _)) (bO (fJ O FB pd_str))))))))
theorem Bu {C CH C1 C2 C3 C4 C5 C6 C7 C8:Addr}{f:Addr}{fd:FuncData}{t_FIGURES:Tok}{t_MOST_FIGURES:Tok}{t_WIDEST:Tok} (F:Fun K "_law_refused" "_law_refused" fU f fd) (B:Blt mg) (G_FIGURES:mg "FIGURES"=some (.str "0123456789" t_FIGURES)) (G_MOST_FIGURES:mg "MOST_FIGURES"=some (.int 60 t_MOST_FIGURES)) (G_WIDEST:mg "WIDEST"=some (.int 8 t_WIDEST)) (DX_read_heap:DefX P w K mg base C 6 "read_heap" ["text"] (spX K C bo)) (Z:ExcK K C) (hNT:mg "NoText"=some (.ref C)) (hHE:mg "HouseError"=some (.ref CH)) (m1:mg "NoBook"=some (.ref C1)) (m2:mg "NoDeed"=some (.ref C2)) (m3:mg "NoHeap"=some (.ref C3)) (m4:mg "NoMoment"=some (.ref C4)) (m5:mg "NoName"=some (.ref C5)) (m6:mg "NoRow"=some (.ref C6)) (m7:mg "TooLate"=some (.ref C7)) (m8:mg "TooMuch"=some (.ref C8)) (bv:mg "ValueError"=none) (x1:PySem.W.exmOne K (.ref C) (.ref C)=some true) (x2:PySem.W.exmOne K (.ref C) (.ref CH)=some true) (kt:PySem.W.kitAny K (.ref C) ([C1,C2,C3,C4,C5,C6,C7,C8].map Value.ref)=some false) (kn:PySem.W.kitOne K (.ref C) (.ref C)=some true) (kv:PySem.W.kitOne K (.ref C) (.type "ValueError")=some true):
  FnOk P w K mg base CX0 7 f fd ["_law_text","_law_cell"] (spD K .imm ge):=
 cC (rk:= .imm) (k:=6) [] F ie rfl rfl fun cdv A outer s H E hr=>
   (aq (aW (i:=2) rfl (PD.le on Kd.le.imm_any) (Kd.le.refl _) ie.nd rfl (Or.inl rfl))
   (aq (aO (aK (cI hr.units) cK (ag bT bV (ad 1 rfl (pv 1)) ai) ai (aF _))
    (qK (k1:= .bor) DX_read_heap (hr.mono (by decide)) (fun _ _ z=>z) rfl rfl (af (PD.le (ad 0 rfl (pv 0)) (Kd.le.bor _)) aj) hNT x1 ie.nd 2 3 (by decide) rfl rfl rfl rfl (iD (j7 (sU (sT (pv 2)))) j6) (fun D σ H ea oe h1 h2 h3 h4 h5=>AK D σ H ea h2 h5))
    aN)
   (qK (k1:= .bor) DX_read_heap (hr.mono (by decide)) (fun _ _ z=>z) rfl rfl (af (PD.le (ad 0 rfl (pv 0)) (Kd.le.bor _)) aj) hHE x2 ie.nd 2 3 (by decide) rfl rfl rfl rfl
    (iD (iF (i:=4) ie.nd rfl (Or.inl rfl) (fj (AH Z) rfl B.isinstance_ iQ (aU (pv 2) (aU (mX (aU (bR (v:= .ref C1) rfl m1 rfl) (aU (bR (v:= .ref C2) rfl m2 rfl) (aU (bR (v:= .ref C3) rfl m3 rfl) (aU (bR (v:= .ref C4) rfl m4 rfl) (aU (bR (v:= .ref C5) rfl m5 rfl) (aU (bR (v:= .ref C6) rfl m6 rfl) (aU (bR (v:= .ref C7) rfl m7 rfl) (aU (bR (v:= .ref C8) rfl m8 rfl) ci))))))))) ci))))
     (iD (j7 (j4 (fj (qH Z) rfl B.isinstance_ iQ (aU (pv 2) (aU (bR (v:= .ref C) rfl hNT rfl) ci))) (j4 (fj (qH Z) rfl B.isinstance_ iQ (aU (pv 2) (aU (mP (v:= .ty "ValueError") rfl bv AJ rfl) ci))) (mT (tm (pv 4)))))) j6))
    (fun D σ H ea oe h1 h2 h3 h4 h5=>AL (cs:=[C1,C2,C3,C4,C5,C6,C7,C8]) (by decide) D σ H ea oe h1 h2 (by rw [h3];exact (show 4<5 by decide)) h4 h5 (fun _ _ _ q=>q) (Nat.le_of_lt (nM (n:=8) (by decide))) kt (fun _ z=>z) (fun _ z=>z) kn kv))))
theorem Bv {f:Addr}{fd:FuncData}{t_FIGURES:Tok}{t_MOST_FIGURES:Tok}{t_WIDEST:Tok} (F:Fun K "law" "law" dH f fd) (B:Blt mg) (G_FIGURES:mg "FIGURES"=some (.str "0123456789" t_FIGURES)) (G_MOST_FIGURES:mg "MOST_FIGURES"=some (.int 60 t_MOST_FIGURES)) (G_WIDEST:mg "WIDEST"=some (.int 8 t_WIDEST)) (D_w_mixed:Def P w K mg base 1 "_law_mixed" ["_law_cell","_law_k"] (spD K .imm fV)) (D_w_refused:Def P w K mg base 7 "_law_refused" ["_law_text","_law_cell"] (spD K .imm ge)) (D_w_spoiled:Def P w K mg base 2 "_law_spoiled" ["_law_parts","_law_cell"] (spA K M_w_spoiled)) (D_read_heap:Def P w K mg base 6 "read_heap" ["text"] (spD K .one fY)):
  FnOk P w K mg base CX0 8 f fd ["_law_script"] (spD K .imm gf):=
 cC (rk:= .imm) (k:=7) [5] F dI rfl rfl fun cdv A outer s H E hr=>
   (aq (aW (i:=1) rfl (PD.le (vw (fz (k1:= .bor) uv vt rfl B.list_ vh (af (PD.le (vq (ad 0 rfl (pv 0)) iW (iX ai)) (Kd.le.bor _)) aj)) (cn (k:= .bor) (af (PD.le ai (Kd.le.bor _)) (af (PD.le ai (Kd.le.bor _)) aj)))) Kd.le.one_any) (Kd.le.refl _) dI.nd rfl (Or.inl rfl))
   (aq (kH PassesOwn.never rfl (kE rfl B.range_ (bz (k1:= .bor) cG cL rfl B.len_ bH (af (PD.le (ad 1 rfl (pv 1)) (Kd.le.bor _)) aj))) (aL rfl (aJ (i:=2) dI.nd rfl (Or.inl rfl)))
   (aq (aW (i:=3) rfl (PD.le (bj (k1:= .bor) D_w_mixed (hr.mono (by decide)) aC (af (PD.le (bK (ad 1 rfl (pv 1)) (ad 2 rfl (pv 2)) (fun _ _=>rfl)) (Kd.le.bor _)) (af (PD.le (ad 2 rfl (pv 2)) (Kd.le.bor _)) aj))) Kd.le.imm_any) (Kd.le.refl _) dI.nd rfl (Or.inr rfl))
   (aq (aW (i:=4) rfl (PD.le (ag cF cJ ai (ag bT bV (ad 3 rfl (pv 3)) ai)) Kd.le.imm_any) (Kd.le.refl _) dI.nd rfl (Or.inl rfl))
   (aq (oK (i:=5) rfl (cn (k:= .bor) aj) dI.nd rfl (Or.inl rfl))
   (aq (kH PassesOwn.never rfl (kE rfl B.range_ (ag cF cJ ai (ag bT bV (ag dP dU (ad 3 rfl (pv 3)) ai) ai))) (aL rfl (aJ (i:=6) dI.nd rfl (Or.inr rfl)))
   (aq (aW (i:=7) rfl (PD.le (fz (k1:= .bor) nA oE rfl B.tuple_ ku (af (PD.le (dC ["_law_i","_law_cell","_law_j"] [none,some 3,some 6] [] (hc:=rfl) (hi:=(kE rfl B.range_ (ad 4 rfl (pv 4)))) (hg:=fun _ _ _ _=>(aL rfl (aJ (i:=0) (show (["_law_i","_law_cell","_law_j"]:List Str).Nodup by decide+kernel) rfl (Or.inl rfl)))) (ht:=fun _ _ _ _=>cB) (he:=fun _ _ _ _=>(ag cF cJ (ag cF cJ (ag bT bV (bj (k1:= .bor) D_w_mixed (hr.mono (by decide)) aC (af (PD.le (ag cF cJ (ad 1 rfl (pv 1)) (ad 2 rfl (pv 2))) (Kd.le.bor _)) (af (PD.le (ad 0 rfl (pv 0)) (Kd.le.bor _)) aj))) ai) ai) (ag gH gJ ai (ad 2 rfl (pv 2))))) (hz:=(aZ 0)) (ck:=rfl) (hp:=rfl) (hz':=rfl)) (Kd.le.bor _)) aj)) Kd.le.imm_any) (Kd.le.refl _) dI.nd rfl (Or.inl rfl))
   (aw (vR rfl (pv 5) (gK (af (ad 7 rfl (pv 7)) (af (PD.le (ag cF cJ (ag bT bV (ag dP dU (ad 3 rfl (pv 3)) ai) ai) ai) Kd.le.imm_any) aj)) (.inr (.inr (.inl rfl))))))))
   (aq (kG (i:=8) (hi':=rfl) (hN:=dI.nd) (hx:=rfl) (hl:=Or.inl rfl) ["_law_row","_law_weight"] [none,none] [] (hc:=rfl) (hi:=(vC (cV 5 (pv 5)))) (hg:=fun _ _ _ _=>(dX rfl (bA (aL rfl (aJ (i:=0) (show (["_law_row","_law_weight"]:List Str).Nodup by decide+kernel) rfl (Or.inl rfl))) (bA (aL rfl (aJ (i:=1) (show (["_law_row","_law_weight"]:List Str).Nodup by decide+kernel) rfl (Or.inl rfl))) dW)))) (ht:=fun _ _ _ _=>cB) (he:=fun _ _ _ _=>(gK (af (bM PySem.F.slot_str_join PySem.F.type_str_join jp jr jt pd_str (dC ["_law_number"] [none] [] (hc:=rfl) (hi:=(vD (ad 0 rfl (pv 0)))) (hg:=fun _ _ _ _=>(aL rfl (aJ (i:=0) (show (["_law_number"]:List Str).Nodup by decide+kernel) rfl (Or.inl rfl)))) (ht:=fun _ _ _ _=>cB) (he:=fun _ _ _ _=>(fz (k1:= .bor) mW oR rfl B.str_ cm (af (PD.le (ad 0 rfl (pv 0)) (Kd.le.bor _)) aj))) (hz:=(aZ 0)) (ck:=rfl) (hp:=rfl) (hz':=rfl))) (af (fz (k1:= .bor) mW oR rfl B.str_ cm (af (PD.le (ad 1 rfl (pv 1)) (Kd.le.bor _)) aj)) aj)) (.inl rfl))) (hz:=(fB (cA (aZ 0) (cA (aZ 1) fA)))) (ck:=rfl) (hp:=rfl) (hz':=rfl))
   (aq (aO (bW (bJ (bj (k1:= .bor) D_w_refused (hr.mono (by decide)) aC (af (PD.le (zY D_w_spoiled (hr.mono (by decide)) (af (ad 8 rfl (pv 8)) (af (PD.le (ag dP dU (ad 3 rfl (pv 3)) ai) Kd.le.imm_any) aj))) (Kd.le.bor _)) (af (PD.le (ag dP dU (ad 3 rfl (pv 3)) ai) (Kd.le.bor _)) aj)))))
    (aw (bf eG (Kd.le.refl _) aC))
    aN)
   (aw (aO (aK (eF hr.units) eI (bj (k1:= .bor) D_read_heap (hr.mono (by decide)) eP (af (PD.le (bM PySem.F.slot_str_join PySem.F.type_str_join jp jr jt pd_str (dC ["_law_row","_law_weight"] [none,none] [] (hc:=rfl) (hi:=(cu (ad 8 rfl (pv 8)))) (hg:=fun _ _ _ _=>(dX rfl (bA (aL rfl (aJ (i:=0) (show (["_law_row","_law_weight"]:List Str).Nodup by decide+kernel) rfl (Or.inl rfl))) (bA (aL rfl (aJ (i:=1) (show (["_law_row","_law_weight"]:List Str).Nodup by decide+kernel) rfl (Or.inl rfl))) dW)))) (ht:=fun _ _ _ _=>cB) (he:=fun _ _ _ _=>(ag al am (ag al am (ad 0 rfl (pv 0)) pd_str) (ad 1 rfl (pv 1)))) (hz:=(fB (cA (aZ 0) (cA (aZ 1) fA)))) (ck:=rfl) (hp:=rfl) (hz':=rfl))) (Kd.le.bor _)) aj)) (cV 5 (pv 5)) (aF _))
    (aw (bf eG (Kd.le.refl _) aC))
    aN)))))))))
   (aw (bf eG (Kd.le.refl _) aC))))
end
end K58
set_option maxHeartbeats 1000000
namespace K58
open PySem L2
noncomputable def Good (ds:List Nat):Prop:=ds≠[]/\ds.length<=60/\(∀d∈ds,d<10)/\(1<ds.length->ds.head?≠some 0)
noncomputable def txt (ds:List Nat):Str:=⟨(ds.map (· +48)).toArray⟩
noncomputable def val (ds:List Nat):Nat:=ds.foldl (fun a d=>a*10+d) 0
theorem qX (ds:List Nat) (d:Nat):val (ds++[d])=val ds*10+d:=by
 unfold val
 rw [List.foldl_append]
 rfl
theorem Bw (ds:List Nat): ∀a:Nat,a<=ds.foldl (fun a d=>a*10+d) a:=by
 induction ds with
 |nil=>intro a;exact Nat.le_refl _
 |cons d ds ih=>intro a;exact Nat.le_trans (by lia) (ih (a*10+d))
theorem qY {ds:List Nat} (hn:ds≠[]) (h:ds.head?≠some 0):0<val ds:=by
 cases ds with
 |nil=>exact absurd rfl hn
 |cons d ds=>
  have:d≠0:=fun z=>h (by rw [z];rfl)
  have:=Bw ds (0*10+d)
  show 0<ds.foldl (fun a d=>a*10+d) (0*10+d)
  lia
theorem qZ (d:Nat) (h:d<10):(Nat.digitChar d).toNat=d+48:=by
 have:=PySem.W.KIN.digit_back d h
 revert d
 decide
theorem rc: ∀(n:Nat) (ds:List Nat),ds.length=n->ds≠[]->(∀d∈ds,d<10)->(1<ds.length->ds.head?≠some 0)->(Nat.toDigits 10 (val ds)).map Char.toNat=ds.map (· +48):=by
 intro n
 induction n with
 |zero=>intro ds h hn;exact absurd (List.eq_nil_of_length_eq_zero h) hn
 |succ n ih=>
  intro ds hl hn hd hh
  obtain ⟨es,d,rfl⟩: ∃es d,ds=es++[d]:=⟨ds.dropLast,ds.getLast hn,(List.dropLast_concat_getLast hn).symm⟩
  have d10:d<10:=hd d (by simp)
  rw [qX]
  by_cases he:es=[]
  ·subst he
   show (Nat.toDigits 10 (0*10+d)).map Char.toNat=_
   rw [Nat.zero_mul,Nat.zero_add,Nat.toDigits_of_lt_base d10]
   simp [qZ d d10]
  ·have hl':es.length=n:=by rw [List.length_append] at hl;simp at hl;exact hl
   have ln:0<es.length:=List.length_pos_iff.mpr he
   have hh':es.head?≠some 0:=fun z=>hh (by rw [List.length_append];simp;lia) (by
    cases es with
    |nil=>exact absurd rfl he
    |cons x es=>exact z)
   have t:Nat.toDigits 10 (val es)++Nat.toDigits 10 d=Nat.toDigits 10 (10*val es+d):=Nat.toDigits_append_toDigits (by decide) (qY he hh') d10
   rw [Nat.mul_comm] at t
   rw [<-t,List.map_append,ih es hl' he (fun x hx=>hd x (by simp [hx])) (fun _=>hh'),Nat.toDigits_of_lt_base d10]
   simp [qZ d d10]
theorem aD {a b:Str} (h:a.cps.toList=b.cps.toList):a=b:=by
 obtain ⟨a⟩:=a
 obtain ⟨b⟩:=b
 congr 1
 exact Array.ext' h
theorem bc (a b:Str):(a++b).cps.toList=a.cps.toList++b.cps.toList:=by
 show (a.cps++b.cps).toList=_
 simp
theorem bd (ds:List Nat):(txt ds).cps.toList=ds.map (· +48):=rfl
theorem re {ds:List Nat} (g:Good ds):Str.ofString (toString ((val ds:Nat):Int))=txt ds:=aD (by
 rw [PySem.W.KIN.signs_num,rc ds.length ds rfl g.1 g.2.2.1 g.2.2.2,bd])
noncomputable def WN (v:Int) (t:Str):Prop:= ∃ds,Good ds/\((v=(val ds:Nat)/\t=txt ds) \/(0<val ds/\v= -((val ds:Nat):Int)/\t=(⟨#[45]⟩:Str)++txt ds))
theorem rf: ∀(ds:List Nat) (a:Nat),(∀d∈ds,d<10)->ds.foldl (fun a d=>a*10+d) a<(a+1)*10^ds.length
 |[],a,_=>by simp
 |d::ds,a,h=>by
  have:=rf ds (a*10+d) fun x hx=>h x (.tail _ hx)
  have hd:=h d (.head _)
  rw [List.foldl_cons,List.length_cons,Nat.pow_succ]
  have e:(a*10+d+1)*10^ds.length<=(a+1)*10*10^ds.length:=Nat.mul_le_mul_right _ (by lia)
  have e2:(a+1)*(10^ds.length*10)=(a+1)*10*10^ds.length:=by rw [Nat.mul_comm (10^ds.length),Nat.mul_assoc]
  lia
theorem rg {ds:List Nat} (g:Good ds):val ds<10^60:=by
 have:=rf ds 0 g.2.2.1
 have e:(10:Nat)^ds.length<=10^60:=Nat.pow_le_pow_right (by decide) g.2.1
 unfold val
 lia
theorem Bx {ds:List Nat} (g:Good ds) (p:0<val ds):Str.ofString (toString (-((val ds:Nat):Int)))=(⟨#[45]⟩:Str)++txt ds:=by
 have h:=re g
 obtain ⟨m,hm⟩: ∃m,val ds=m+1:=⟨val ds-1,by lia⟩
 rw [hm] at h|-
 rw [<-h]
 apply aD
 have e2: -(((m+1:Nat)):Int)=Int.negSucc m:=rfl
 rw [bc,e2,PyProof.Rows.signs_ofString,PySem.W.KIN.signs_num]
 show ("-"++Nat.repr (m+1)).toList.map Char.toNat=_
 rw [String.toList_append,List.map_append,Nat.toList_repr]
 rfl
theorem WN.str {v:Int}{t:Str} (h:WN v t):fStr [.int v]=some (.str t):=by
 obtain ⟨ds,g,⟨rfl,rfl⟩|⟨p,rfl,rfl⟩⟩:=h
 ·have b:=rg g
  have c:((val ds:Nat):Int).natAbs<2^1920:=Nat.lt_of_lt_of_le (by rw [Int.natAbs_natCast];exact b) (by decide+kernel)
  show (if _ then some (Dv.str (Str.ofString (toString ((val ds:Nat):Int)))) else none)=_
  rw [if_pos c,re g]
 ·have b:=rg g
  have c:(-((val ds:Nat):Int)).natAbs<2^1920:=Nat.lt_of_lt_of_le (by rw [Int.natAbs_neg,Int.natAbs_natCast];exact b) (by decide+kernel)
  show (if _ then some (Dv.str (Str.ofString (toString (-((val ds:Nat):Int))))) else none)=_
  rw [if_pos c,Bx g p]
theorem l0:(Str.ofString "0").cps.toList=[48]:=by rw [PyProof.Rows.signs_ofString];rfl
theorem lm:(Str.ofString "-").cps.toList=[45]:=by rw [PyProof.Rows.signs_ofString];rfl
theorem lm0:(Str.ofString "-0").cps.toList=[45,48]:=by rw [PyProof.Rows.signs_ofString];rfl
theorem lc:Str.ofString ","=⟨#[44]⟩:=aD (by rw [PyProof.Rows.signs_ofString];rfl)
theorem le_:Str.ofString ""=Str.empty:=aD (by rw [PyProof.Rows.signs_ofString];rfl)
theorem aE (t:Str):t.length=t.cps.toList.length:=by
 show t.cps.size=_
 simp
theorem ip {t z:Str}{c:Nat} (hz:z.cps.toList=[c]):Txt.startswith t z=decide (t.cps.toList.head?=some c):=by
 have zl:z.length=1:=by rw [aE,hz];rfl
 unfold Txt.startswith
 rw [StrLaws.subAt_eq,zl,hz,aE t]
 cases t.cps.toList with
 |nil=>rfl
 |cons a r=>
  show (decide (0+1<=(a::r).length)&&([a]==[c]))=_
  rw [decide_eq_true (show 0+1<=(a::r).length by simp)]
  by_cases h:a=c
  ·subst h;simp
  ·simp [h]
theorem gg (a b:Str):(a==b)=decide (a=b):=by
 by_cases h:a=b
 ·subst h;simp
 ·rw [decide_eq_false h];exact beq_eq_false_iff_ne.mpr h
theorem jI {a b:Str} (ha:PyData.strOk a=true) (hb:PyData.strOk b=true):dNe (.str a) (.str b)=some (.bl (!decide (a=b))):=by
 have ok:eqOk (.str a) (.str b)=true:=by
  show (PyData.strOk a&&PyData.strOk b&&decide _)=true
  rw [ha,hb]
  rfl
 show (if eqOk _ _=true then some (Dv.bl (!(a==b))) else none)=_
 rw [if_pos ok,gg]
theorem bF {a:Str} (h: ∀c∈a.cps.toList,c<128):PyData.strOk a=true:=by
 unfold PyData.strOk
 rw [Array.all_eq_true']
 intro c hc
 have:=h c (by simpa using hc)
 exact decide_eq_true (by lia)
theorem rj {a:Str} (h: ∀c∈a.cps.toList,c<128):a.cps.all (· <128)=true:=by
 rw [Array.all_eq_true']
 intro c hc
 exact decide_eq_true (h c (by simpa using hc))
theorem dN {ds:List Nat} (h: ∀d∈ds,d<10): ∀c∈(txt ds).cps.toList,48<=c/\c<58:=by
 rw [bd]
 intro c hc
 obtain ⟨d,hd,rfl⟩:=List.mem_map.mp hc
 have:=h d hd
 lia
theorem By: ∀d:Nat,d<10->dInS (.str ⟨#[d+48]⟩) (.str (Str.ofString "0123456789"))=some (.bl true):=by
 intro d hd
 have e:Str.ofString "0123456789"=⟨#[48,49,50,51,52,53,54,55,56,57]⟩:=aD (by rw [PyProof.Rows.signs_ofString];rfl)
 rw [e]
 have: ∀d:Fin 10,(!(Builtin.Str.occurrences ⟨#[48,49,50,51,52,53,54,55,56,57]⟩ ⟨#[d.val+48]⟩ 0 10 1).isEmpty)=true:=by decide+kernel
 have:=this ⟨d,hd⟩
 show some (Dv.bl (!(Builtin.Str.occurrences ⟨#[48,49,50,51,52,53,54,55,56,57]⟩ ⟨#[d+48]⟩ 0 10 1).isEmpty))=_
 rw [this]
theorem jJ (ds:List Nat):(txt ds).length=ds.length:=by rw [aE,bd,List.length_map]
theorem rm {ds:List Nat} (g:Good ds):cc [.str (txt ds)]=some (.bl true):=by
 have asc:=dN g.2.2.1
 have ln:dg [.str (txt ds)]=some (.int (ds.length:Int)):=by
  show (if (txt ds).length<=lim then some (Dv.int ((txt ds).length:Int)) else none)=_
  rw [jJ,if_pos (by have:=g.2.1;show _<=100000;lia)]
 have l1: ¬((ds.length:Int)<1):=by
  have:=List.length_pos_iff.mpr g.1
  lia
 have l2: ¬((60:Int)<(ds.length:Int)):=by
  have:=g.2.1
  lia
 have hs:iS (eVar 0) [some (.str (txt ds))]=some (ds.map fun d=> .str ⟨#[d+48]⟩):=by
  show (if (txt ds).cps.size<=lim/\(txt ds).cps.all (· <128)=true then some (d8 (txt ds)) else none)=_
  rw [if_pos ⟨by have:=jJ ds;have:=g.2.1;show (txt ds).length<=100000;lia,rj fun c hc=>by have:=asc c hc;lia⟩]
  unfold d8
  rw [bd,List.map_map]
  rfl
 have hc:=cY (g:=gN 0) (c:=tyes) (el:=ii) (δ:=[none]) (fun d:Nat=>Dv.str ⟨#[d+48]⟩) (fun _=> .bl true) ds (fun d hd=>by
  have:=By d (g.2.2.1 d hd)
  simp_arith only [ii,this])
 have fa:fAll [.lst (ds.map fun _=>Dv.bl true)]=some (.bl true):=by
  have e:(ds.map fun _=>Dv.bl true)=(ds.map fun _=>true).map .bl:=by rw [List.map_map];rfl
  rw [e]
  show (eO _).map _=_
  rw [kJ]
  simp
 have sw:=ip (t:=txt ds) (z:=Str.ofString "0") l0
 have st:dh (.str (txt ds)) (.str (Str.ofString "0"))=some (.bl (decide ((txt ds).cps.toList.head?=some 48))):=congrArg (fun b=>some (Dv.bl b)) sw
 by_cases h0:(txt ds).cps.toList.head?=some 48
 ·have e0:txt ds=Str.ofString "0":=by
   apply aD
   rw [l0,bd]
   rw [bd] at h0
   cases ds with
   |nil=>cases h0
   |cons d r=>
    have d0:d=0:=by
     have:some (d+48)=some 48:=h0
     have:=Option.some.inj this
     lia
    subst d0
    cases r with
    |nil=>rfl
    |cons x r=>exact absurd rfl (g.2.2.2 (by simp))
  have ne:dNe (.str (txt ds)) (.str (Str.ofString "0"))=some (.bl false):=by
   rw [jI (bF fun c hc=>by have:=asc c hc;lia) (bF (by rw [l0];simp)),decide_eq_true e0]
   rfl
  rw [decide_eq_true h0] at st
  simp_arith only [cc,eg,Nat.sub_self,ln,decide_eq_false l1,decide_eq_false l2,st,ne,hs,hc,fa]
 ·rw [decide_eq_false h0] at st
  simp_arith only [cc,eg,Nat.sub_self,ln,decide_eq_false l1,decide_eq_false l2,st,hs,hc,fa]
theorem rq (t:Str) (h:1<=t.length):(Txt.slice t (some 1) none).cps.toList=t.cps.toList.drop 1:=by
 have e:Builtin.Str.strSliceIndices (some 1) none 1 t.length=(List.range (t.length-1)).map (fun k=>1+k):=by
  rw [<-StrLaws.strSliceIndices_plain (a:=1) (b:=t.length) h (Nat.le_refl _)]
  have h2: ¬(((t.length:Nat):Int)<0):=by lia
  have e2:max (0:Int) (min ((t.length:Nat):Int) ((t.length:Nat):Int))=(t.length:Nat):=by lia
  simp only [Builtin.Str.strSliceIndices,h2,if_false,e2,show ((1:Int)>0)=True from by simp,if_true]
  rfl
 unfold Txt.slice
 rw [e,List.length_map,List.length_range]
 rw [if_neg (by
  have:(t.length-1==t.length)=false:=beq_eq_false_iff_ne.mpr (by lia)
  rw [this]
  simp)]
 show ((((List.range (t.length-1)).map (fun k=>1+k)).filterMap (t.cps[·]?)).toArray).toList=_
 have pk:=StrLaws.picks t.cps.toList (t.length-1) 1 (by have:=aE t;lia)
 have e3:(((List.range (t.length-1)).map (fun k=>1+k)).filterMap (t.cps[·]?))=(((List.range (t.length-1)).map (fun k=>1+k)).filterMap (t.cps.toList[·]?)):=by
  congr 1
  funext k
  simp
 rw [List.toList_toArray,e3,pk]
 apply List.take_of_length_le
 have:=aE t
 rw [List.length_drop]
 lia
theorem WN.asc {v:Int}{t:Str} (h:WN v t): ∀c∈t.cps.toList,c=45 \/(48<=c/\c<=57):=by
 obtain ⟨ds,g,⟨rfl,rfl⟩|⟨p,rfl,rfl⟩⟩:=h
 ·intro c hc
  have:=dN g.2.2.1 c hc
  lia
 ·intro c hc
  rw [bc] at hc
  rcases List.mem_append.mp hc with hc|hc
  ·left
   exact List.mem_singleton.mp hc
  ·have:=dN g.2.2.1 c hc
   lia
theorem WN.len {v:Int}{t:Str} (h:WN v t):t.length<=61:=by
 obtain ⟨ds,g,⟨rfl,rfl⟩|⟨p,rfl,rfl⟩⟩:=h
 ·rw [jJ];have:=g.2.1;lia
 ·rw [aE,bc,List.length_append,bd,List.length_map]
  have:=g.2.1
  show 1+ds.length<=61
  lia
theorem WN.ok {v:Int}{t:Str} (h:WN v t):PyData.strOk t=true:=bF fun c hc=>by
 have:=h.asc c hc
 lia
theorem Bz {v:Int}{t:Str} (h:WN v t):cf [.str t]=some (.bl true):=by
 have ok:=h.ok
 obtain ⟨ds,g,⟨rfl,rfl⟩|⟨p,rfl,rfl⟩⟩:=h
 ·have mp:=rm g
  have sw:=ip (t:=txt ds) (z:=Str.ofString "-") lm
  have hn: ¬((txt ds).cps.toList.head?=some 45):=fun z=>by
   have:=dN g.2.2.1 45 (List.mem_of_head? z)
   lia
  rw [decide_eq_false hn] at sw
  have st:dh (.str (txt ds)) (.str (Str.ofString "-"))=some (.bl false):=congrArg (fun b=>some (Dv.bl b)) sw
  simp_arith only [cf,fW,st,mp]
 ·have mp:=rm g
  have cl:((⟨#[45]⟩:Str)++txt ds).cps.toList=45::(txt ds).cps.toList:=bc _ _
  have sw:=ip (t:=(⟨#[45]⟩:Str)++txt ds) (z:=Str.ofString "-") lm
  rw [decide_eq_true (by rw [cl];rfl)] at sw
  have ne:(⟨#[45]⟩:Str)++txt ds≠Str.ofString "-0":=fun z=>by
   have:=congrArg (fun a:Str=>a.cps.toList) z
   rw [cl,lm0,bd] at this
   have e:=(List.cons.inj this).2
   cases ds with
   |nil=>cases e
   |cons d r=>
    obtain ⟨e1,e2⟩:=List.cons.inj e
    have e1':d+48=48:=e1
    have d0:d=0:=by lia
    subst d0
    cases r with
    |nil=>exact absurd p (by decide)
    |cons _ _=>cases e2
  have dn:=jI (a:=(⟨#[45]⟩:Str)++txt ds) (b:=Str.ofString "-0") ok (bF (by rw [lm0];simp))
  rw [decide_eq_false ne] at dn
  have ln:1<=((⟨#[45]⟩:Str)++txt ds).length:=by rw [aE,cl];simp
  have sl:Txt.slice ((⟨#[45]⟩:Str)++txt ds) (some 1) none=txt ds:=aD (by rw [rq _ ln,cl];rfl)
  have l9:((⟨#[45]⟩:Str)++txt ds).length<=61:=WN.len ⟨ds,g,.inr ⟨p,rfl,rfl⟩⟩
  generalize (⟨#[45]⟩:Str)++txt ds=t at*
  have st:dh (.str t) (.str (Str.ofString "-"))=some (.bl true):=congrArg (fun b=>some (Dv.bl b)) sw
  have es:eS (eVar 0) (bX (eC (.int 1))) cr [some (.str t)]=some (.str (txt ds)):=by
   show (if t.length<=lim then some (Dv.str (Txt.slice t (some 1) none)) else none)=_
   rw [if_pos (by show _<=100000;lia),sl]
  simp_arith only [cf,fW,Nat.sub_self,st,dn,es,mp]
theorem lY: ∀(ds:List Nat) (a:Nat),(ds.map (· +48)).foldl (fun v c=>v*10+(c-48)) a=ds.foldl (fun a d=>a*10+d) a
 |[],_=>rfl
 |d::ds,a=>by
  rw [List.map_cons,List.foldl_cons,List.foldl_cons,Nat.add_sub_cancel]
  exact lY ds _
theorem jK {v:Int}{t:Str} (h:WN v t):dL [.str t]=some (.int v):=by
 have mi:=Bz h
 have l9:=h.len
 have it:PySem.intText? t=some v:=by
  obtain ⟨ds,g,⟨rfl,rfl⟩|⟨p,rfl,rfl⟩⟩:=h
  ·have:=PySem.intText_digits (x:=txt ds) (fun c hc=>by have:=dN g.2.2.1 c hc;exact ⟨by lia,by lia⟩) (by rw [bd];simpa using g.1) (by lia)
   rw [this,bd]
   congr 2
   exact lY ds 0
  ·have:=PySem.intText_neg (x:=(⟨#[45]⟩:Str)++txt ds) (cs:=(txt ds).cps.toList) (bc _ _) (fun c hc=>by have:=dN g.2.2.1 c hc;exact ⟨by lia,by lia⟩) (by rw [bd];simpa using g.1) (by lia)
   rw [this,bd]
   congr 2
   exact congrArg _ (lY ds 0)
 have fi:jq [.str t]=some (.int v):=by
  show (if t.length<=640 then (PySem.intText? t).map Dv.int else none)=_
  rw [if_pos (by lia),it]
  rfl
 simp_arith only [dL,qR,show isiN "str" "str"=true from by decide+kernel,if_true,mi,fi]
theorem rA {c:Nat}: ∀{a b x y:List Nat},c∉a->c∉b->a++c::x=b++c::y->a=b/\x=y
 |[],[],x,y,_,_,h=>⟨rfl,(List.cons.inj h).2⟩
 |[],b::bs,x,y,_,hb,h=>absurd (List.mem_cons.mpr (.inl (List.cons.inj h).1)) hb
 |a::as,[],x,y,ha,_,h=>absurd (List.mem_cons.mpr (.inl (List.cons.inj h).1.symm)) ha
 |a::as,b::bs,x,y,ha,hb,h=>by
  obtain ⟨h1,h2⟩:=List.cons.inj h
  obtain ⟨e1,e2⟩:=rA (fun z=>ha (.tail _ z)) (fun z=>hb (.tail _ z)) h2
  exact ⟨by rw [h1,e1],e2⟩
theorem eA (c:Nat) (a b:Str) (r:List Str):(Str.join ⟨#[c]⟩ (a::b::r)).cps.toList=a.cps.toList++c::(Str.join ⟨#[c]⟩ (b::r)).cps.toList:=by
 show ((a++(⟨#[c]⟩:Str))++Str.join ⟨#[c]⟩ (b::r)).cps.toList=_
 rw [bc,bc,List.append_assoc]
 rfl
theorem rB {c:Nat}: ∀{as bs:List Str},as≠[]->bs≠[]->(∀a∈as,c∉a.cps.toList)->(∀b∈bs,c∉b.cps.toList)->Str.join ⟨#[c]⟩ as=Str.join ⟨#[c]⟩ bs->as=bs
 |[],_,h,_,_,_,_=>absurd rfl h
 |_::_,[],_,h,_,_,_=>absurd rfl h
 |[a],[b],_,_,_,_,h=>by
  have:a=b:=h
  rw [this]
 |[a],b::b2::bs,_,_,ha,_,h=>by
  have h2:a.cps.toList=(Str.join ⟨#[c]⟩ (b::b2::bs)).cps.toList:=congrArg (fun x:Str=>x.cps.toList) h
  rw [eA] at h2
  exact absurd (by rw [h2];simp) (ha a (.head _))
 |a::a2::as,[b],_,_,_,hb,h=>by
  have h2:(Str.join ⟨#[c]⟩ (a::a2::as)).cps.toList=b.cps.toList:=congrArg (fun x:Str=>x.cps.toList) h
  rw [eA] at h2
  exact absurd (by rw [<-h2];simp) (hb b (.head _))
 |a::a2::as,b::b2::bs,_,_,ha,hb,h=>by
  have h2:(Str.join ⟨#[c]⟩ (a::a2::as)).cps.toList=(Str.join ⟨#[c]⟩ (b::b2::bs)).cps.toList:=congrArg (fun x:Str=>x.cps.toList) h
  rw [eA,eA] at h2
  obtain ⟨e1,e2⟩:=rA (ha a (.head _)) (hb b (.head _)) h2
  have:=rB (as:=a2::as) (bs:=b2::bs) (by simp) (by simp) (fun x hx=>ha x (.tail _ hx)) (fun x hx=>hb x (.tail _ hx)) (aD e2)
  rw [aD e1,this]
theorem BA: ∀(ts:List Str),(∀t∈ts,∀c∈t.cps.toList,c<128)-> ∀c∈(Str.join ⟨#[44]⟩ ts).cps.toList,c<128
 |[],_,c,hc=>by cases hc
 |[t],h,c,hc=>h t (.head _) c hc
 |t::t2::r,h,c,hc=>by
  rw [eA] at hc
  rcases List.mem_append.mp hc with hc|hc
  ·exact h t (.head _) c hc
  ·rcases List.mem_cons.mp hc with rfl|hc
   ·decide
   ·exact BA (t2::r) (fun x hx=>h x (.tail _ hx)) c hc
theorem BB (x y:Str):Txt.split x y≠[]:=by
 unfold Txt.split
 split
 ·simp
 ·split
  ·simp
  ·rw [StrLaws.partsBetween_eq]
   obtain ⟨p,r,e⟩:=StrLaws.partsFrom_ne x y.length 0 (Builtin.Str.occurrences x y 0 x.length (x.length+1))
   rw [e]
   simp
theorem jL {c:Nat}{ts:List Str} (ne:ts≠[]) (h: ∀t∈ts,c∉t.cps.toList):Txt.split (Str.join ⟨#[c]⟩ ts) ⟨#[c]⟩=ts:=
 rB (BB _ _) ne (StrLaws.split_free _ c) h (StrLaws.join_split _ _)
theorem WN.free {v:Int}{t:Str} (h:WN v t):44∉t.cps.toList:=fun z=>by
 have:=h.asc 44 z
 lia
theorem rC: ∀(L:List Str),(∀t∈L,t.length<=61)->(L.map (·.length)).sum<=L.length*61
 |[],_=>by simp
 |t::L,h=>by
  have:=rC L fun x hx=>h x (.tail _ hx)
  have:=h t (.head _)
  rw [List.map_cons,List.sum_cons,List.length_cons,Nat.succ_mul]
  lia
theorem rD (L:List (Int×Str)) (ne:L≠[]) (hl:L.length<=8) (h: ∀p∈L,WN p.1 p.2):dl [.str (Txt.join ⟨#[44]⟩ (L.map (·.2)))]=some (.tup ((L.map (·.1)).map .int)):=by
 have sl:=rC (L.map (·.2)) fun t ht=>by
  obtain ⟨p,hp,rfl⟩:=List.mem_map.mp ht
  exact (h p hp).len
 rw [List.length_map] at sl
 have jl:(Txt.join ⟨#[44]⟩ (L.map (·.2))).length<=1000:=by
  unfold Txt.join
  rw [StrLaws.glued_eq_join]
  have:=StrLaws.join_length_le ⟨#[44]⟩ (L.map (·.2))
  rw [List.length_map] at this
  have e:(⟨#[44]⟩:Str).length=1:=rfl
  rw [e] at this
  lia
 have sj:Txt.split (Txt.join ⟨#[44]⟩ (L.map (·.2))) ⟨#[44]⟩=L.map (·.2):=by
  unfold Txt.join
  rw [StrLaws.glued_eq_join]
  exact jL (by simpa using ne) fun t ht=>by
   obtain ⟨p,hp,rfl⟩:=List.mem_map.mp ht
   exact (h p hp).free
 have ds:aT (.str (Txt.join ⟨#[44]⟩ (L.map (·.2)))) (.str (Str.ofString ","))=some (.lst (L.map fun p=> .str p.2)):=by
  rw [lc]
  show (if _ then some (Dv.lst ((Txt.split (Txt.join ⟨#[44]⟩ (L.map fun p:Int×Str=>p.2)) ⟨#[44]⟩).map Dv.str)) else none)=_
  rw [if_pos ⟨rfl,by show _<=100000;lia⟩,sj,List.map_map]
  rfl
 have hc:=cY (g:=gN 0) (c:=tyes) (el:=dk) (δ:=[none]) (fun p:Int×Str=>Dv.str p.2) (fun p=> .int p.1) L (fun p hp=>by
  have:=jK (h p hp)
  simp_arith only [dk,this])
 have e2:(L.map fun p:Int×Str=>Dv.int p.1)=(L.map (·.1)).map .int:=by rw [List.map_map];rfl
 rw [e2] at hc
 have hl':L.length<=100000:=by lia
 have h8: ¬((8:Int)<(L.length:Int)):=by lia
 generalize Txt.join ⟨#[44]⟩ (L.map (·.2))=T at*
 simp_arith only [dl,qS,show isiN "str" "str"=true from by decide+kernel,if_true,ds,decide_eq_false h8,hl',hc,d4]
noncomputable def mx (c k:Int):Int:=(c+k+1)*(48271+2*k*k)%2147483647*((c+k+1)*(48271+2*k*k)%2147483647)%2147483629
theorem rE (c k:Int) (k0:0<=k) (k1:k<=1000):fV [.int c,.int k]=some (.int (mx c k)):=by
 unfold mx
 have a:0<=2*k*k:=Int.mul_nonneg (by lia) k0
 have b:2*k*k<=2000*1000:=Int.mul_le_mul (by lia) k1 k0 (by lia)
 obtain ⟨y0,y1⟩:=cZ ((c+k+1)*(48271+2*k*k)) 2147483647 (by decide)
 simp_arith only [fV,qP,gR (o8 (i:=c+k+1) (j:=48271+2*k*k) ⟨by lia,by lia⟩),gR (kO (i:=2) (j:=k) ⟨by decide,by decide⟩),gR (o8 (i:=2*k) (j:=k) ⟨by lia,by lia⟩),gR (kO (i:=(c+k+1)*(48271+2*k*k)%2147483647) (j:=(c+k+1)*(48271+2*k*k)%2147483647) ⟨by lia,by lia⟩)]
noncomputable def sN (n:Int):Str:=Str.ofString (toString n)
theorem BC (ds:List Nat) (x:Nat):(ds++[x]).head?=if ds=[] then some x else ds.head?:=by
 cases ds with
 |nil=>rfl
 |cons d r=>rfl
theorem digs: ∀m:Nat,∃ds:List Nat,ds≠[]/\(∀d∈ds,d<10)/\(1<ds.length->ds.head?≠some 0)/\val ds=m/\(0<m->ds.head?≠some 0)/\ ∀k,1<=k->m<10^k->ds.length<=k:=by
 intro m
 induction m using Nat.strongRecOn with
 |_ m ih=>
  by_cases h:m<10
  ·refine ⟨[m],by simp,fun d hd=>by rw [List.mem_singleton.mp hd];exact h,fun z=>absurd z (by simp),?_,fun z e=> ?_,fun k hk _=>hk⟩
   ·show 0*10+m=m
    lia
   ·have:m=0:=Option.some.inj e
    lia
  ·obtain ⟨es,h1,h2,h3,h4,h5,h6⟩:=ih (m/10) (by lia)
   have hd0:=h5 (by lia)
   have hh:(es++[m%10]).head?≠some 0:=by rw [BC,if_neg h1];exact hd0
   refine ⟨es++[m%10],by simp,fun d hd=> ?_,fun _=>hh,?_,fun _=>hh,fun k hk hm=> ?_⟩
   ·rcases List.mem_append.mp hd with hd|hd
    ·exact h2 d hd
    ·rw [List.mem_singleton.mp hd];lia
   ·rw [qX,h4];lia
   ·obtain ⟨j,rfl⟩: ∃j,k=j+1:=⟨k-1,by lia⟩
    have j1:1<=j:=by
     rcases Nat.eq_zero_or_pos j with rfl|hj
     ·rw [Nat.pow_one] at hm;lia
     ·exact hj
    rw [Nat.pow_succ] at hm
    have:=h6 j j1 (by lia)
    rw [List.length_append]
    show es.length+1<=j+1
    lia
theorem rF {ds:List Nat} (h1:ds≠[]) (h2: ∀d∈ds,d<10) (h3:1<ds.length->ds.head?≠some 0):Str.ofString (toString ((val ds:Nat):Int))=txt ds:=aD (by
 rw [PySem.W.KIN.signs_num,rc ds.length ds rfl h1 h2 h3,bd])
theorem neg3 {ds:List Nat} (h:Str.ofString (toString ((val ds:Nat):Int))=txt ds) (p:0<val ds):Str.ofString (toString (-((val ds:Nat):Int)))=(⟨#[45]⟩:Str)++txt ds:=by
 obtain ⟨m,hm⟩: ∃m,val ds=m+1:=⟨val ds-1,by lia⟩
 rw [hm] at h|-
 rw [<-h]
 apply aD
 have e2: -(((m+1:Nat)):Int)=Int.negSucc m:=rfl
 rw [bc,e2,PyProof.Rows.signs_ofString,PySem.W.KIN.signs_num]
 show ("-"++Nat.repr (m+1)).toList.map Char.toNat=_
 rw [String.toList_append,List.map_append,Nat.toList_repr]
 rfl
theorem iq (n:Int): ∃ds:List Nat,ds≠[]/\(∀d∈ds,d<10)/\(1<ds.length->ds.head?≠some 0)/\(∀k,1<=k->n.natAbs<10^k->ds.length<=k)/\((n=(val ds:Nat)/\sN n=txt ds) \/(0<val ds/\n= -((val ds:Nat):Int)/\sN n=(⟨#[45]⟩:Str)++txt ds)):=by
 obtain ⟨ds,h1,h2,h3,h4,h5,h6⟩:=digs n.natAbs
 refine ⟨ds,h1,h2,h3,h6,?_⟩
 by_cases hn:0<=n
 ·left
  have e:n=((val ds:Nat):Int):=by rw [h4];lia
  refine ⟨e,?_⟩
  unfold sN
  rw [e]
  exact rF h1 h2 h3
 ·right
  have e:n= -((val ds:Nat):Int):=by rw [h4];lia
  have p:0<val ds:=by lia
  refine ⟨p,e,?_⟩
  unfold sN
  rw [e]
  exact neg3 (rF h1 h2 h3) p
theorem rG {n:Int} (h:n.natAbs<10^60):WN n (sN n):=by
 obtain ⟨ds,h1,h2,h3,h4,h5⟩:=iq n
 exact ⟨ds,⟨h1,h4 60 (by decide) h,h2,h3⟩,h5⟩
theorem slen {n:Int}{k:Nat} (hk:1<=k) (h:n.natAbs<10^k):(sN n).length<=k+1:=by
 obtain ⟨ds,h1,h2,h3,h4,h5⟩:=iq n
 have:=h4 k hk h
 rcases h5 with ⟨_,e⟩|⟨_,_,e⟩
 ·rw [e,jJ];lia
 ·rw [e,aE,bc,List.length_append,bd,List.length_map]
  show 1+ds.length<=k+1
  lia
theorem sasc (n:Int): ∀c∈(sN n).cps.toList,c=45 \/(48<=c/\c<=57):=by
 obtain ⟨ds,h1,h2,h3,h4,h5⟩:=iq n
 intro c hc
 rcases h5 with ⟨_,e⟩|⟨_,_,e⟩
 ·rw [e] at hc
  have:=dN h2 c hc
  lia
 ·rw [e,bc] at hc
  rcases List.mem_append.mp hc with hc|hc
  ·left
   exact List.mem_singleton.mp hc
  ·have:=dN h2 c hc
   lia
theorem rH {n:Int} (h:n.natAbs<10^200):fStr [.int n]=some (.str (sN n)):=by
 show (if _ then some (Dv.str (sN n)) else none)=_
 rw [if_pos (Nat.lt_of_lt_of_le h (by decide+kernel))]
theorem ls:Str.ofString "*"=⟨#[42]⟩:=aD (by rw [PyProof.Rows.signs_ofString];rfl)
theorem lb:Str.ofString " "=⟨#[32]⟩:=aD (by rw [PyProof.Rows.signs_ofString];rfl)
theorem ir (k:Nat): ∀(L:List Str),(∀t∈L,t.length<=k)->(L.map (·.length)).sum<=L.length*k
 |[],_=>by simp
 |t::L,h=>by
  have:=ir k L fun x hx=>h x (.tail _ hx)
  have:=h t (.head _)
  rw [List.map_cons,List.sum_cons,List.length_cons,Nat.succ_mul]
  lia
theorem lZ {z:Str}{ts:List Str} (h:(ts.map (·.length)).sum+ts.length*z.length<=1000000):bN (.str z) (.lst (ts.map .str))=some (.str (Txt.join z ts)):=by
 show ((fG _).bind _)=_
 rw [qu]
 show (if _ then _ else _)=_
 rw [if_pos h]
theorem jM {a b:Str} (h:a.length+b.length<=100000):ae (.str a) (.str b)=some (.str (a++b)):=by
 show (if _ then _ else _)=_
 rw [if_pos h]
theorem jlen (c:Nat) (ts:List Str):(Txt.join ⟨#[c]⟩ ts).length<=(ts.map (·.length)).sum+ts.length:=by
 unfold Txt.join
 rw [StrLaws.glued_eq_join]
 have:=StrLaws.join_length_le ⟨#[c]⟩ ts
 have e:(⟨#[c]⟩:Str).length=1:=rfl
 rw [e,Nat.mul_one] at this
 exact this
theorem md {P:Nat->Prop} (c:Nat) (pc:P c): ∀(ts:List Str),(∀t∈ts,∀x∈t.cps.toList,P x)-> ∀x∈(Str.join ⟨#[c]⟩ ts).cps.toList,P x
 |[],_,x,hx=>by cases hx
 |[t],h,x,hx=>h t (.head _) x hx
 |t::t2::r,h,x,hx=>by
  rw [eA] at hx
  rcases List.mem_append.mp hx with hx|hx
  ·exact h t (.head _) x hx
  ·rcases List.mem_cons.mp hx with rfl|hx
   ·exact pc
   ·exact md c pc (t2::r) (fun y hy=>h y (.tail _ hy)) x hx
noncomputable def rt (r:List Int):Str:=Txt.join ⟨#[44]⟩ (r.map sN)
noncomputable def Sign (c:Nat):Prop:=c=44 \/c=45 \/(48<=c/\c<=57)
theorem rJ (r:List Int): ∀c∈(rt r).cps.toList,Sign c:=by
 unfold rt Txt.join
 rw [StrLaws.glued_eq_join]
 refine md 44 (.inl rfl) _ fun t ht c hc=> ?_
 obtain ⟨x,_,rfl⟩:=List.mem_map.mp ht
 exact .inr (sasc x c hc)
theorem rK {r:List Int}{k:Nat} (hk:1<=k) (h: ∀x∈r,x.natAbs<10^k):(rt r).length<=r.length*(k+1)+r.length:=by
 unfold rt
 refine Nat.le_trans (jlen 44 _) ?_
 have:=ir (k+1) (r.map sN) fun t ht=>by
  obtain ⟨x,hx,rfl⟩:=List.mem_map.mp ht
  exact slen hk (h x hx)
 rw [List.length_map] at this|-
 lia
theorem BD {r:List Int} (hl:r.length<=8) (h: ∀x∈r,x.natAbs<10^200):bN (.str (Str.ofString ",")) (.lst ((r.map sN).map .str))=some (.str (rt r)):=by
 rw [lc]
 refine lZ ?_
 have:=ir 201 (r.map sN) fun t ht=>by
  obtain ⟨x,hx,rfl⟩:=List.mem_map.mp ht
  exact slen (by decide) (h x hx)
 rw [List.length_map] at this|-
 show _+r.length*1<=_
 lia
noncomputable def et (p:List Int×Int):Str:=(rt p.1++(⟨#[42]⟩:Str))++sN p.2
noncomputable def Okr (p:List Int×Int):Prop:=p.1.length<=8/\(∀x∈p.1,x.natAbs<10^200)/\p.2.natAbs<10^200
theorem mf (a b:Str):(a++b).length=a.length+b.length:=by rw [aE,bc,List.length_append,<-aE,<-aE]
theorem mq {p:List Int×Int}{k:Nat} (hk:1<=k) (h8:p.1.length<=8) (h: ∀x∈p.1,x.natAbs<10^k) (hw:p.2.natAbs<10^k):(et p).length<=9*(k+1)+9:=by
 unfold et
 rw [mf,mf]
 have a:=rK hk h
 have b:=slen hk hw
 have c:p.1.length*(k+1)<=8*(k+1):=Nat.mul_le_mul_right _ h8
 show _+1+_<=_
 lia
theorem CG {p:List Int×Int} (o:Okr p): ∀a:Str,a=rt p.1->ae (.str a) (.str (Str.ofString "*"))=some (.str (a++(⟨#[42]⟩:Str)))/\ae (.str (a++(⟨#[42]⟩:Str))) (.str (sN p.2))=some (.str (et p)):=fun a ha=>by
 subst ha
 have a:=rK (k:=200) (by decide) o.2.1
 have b:=slen (k:=200) (by decide) o.2.2
 have h8:=o.1
 have c:p.1.length*201<=8*201:=Nat.mul_le_mul_right _ h8
 rw [ls]
 refine ⟨jM ?_,jM ?_⟩
 ·show _+1<=_
  lia
 ·rw [mf]
  show _+1+_<=_
  lia
noncomputable def ht (h:Hl):Str:=Txt.join ⟨#[32]⟩ (h.map et)
theorem CI {h:Hl} (hl:h.length<=100) (o: ∀p∈h,Okr p):bN (.str (Str.ofString " ")) (.lst ((h.map et).map .str))=some (.str (ht h)):=by
 rw [lb]
 refine lZ ?_
 have:=ir 1818 (h.map et) fun t ht=>by
  obtain ⟨p,hp,rfl⟩:=List.mem_map.mp ht
  exact mq (by decide) (o p hp).1 (o p hp).2.1 (o p hp).2.2
 rw [List.length_map] at this|-
 show _+h.length*1<=_
 lia
noncomputable def Sml (p:List Int×Int):Prop:=1<=p.1.length/\p.1.length<=8/\(∀x∈p.1,x.natAbs<10^60)/\p.2.natAbs<10^60/\p.2≠0
theorem p60 {x:Nat} (h:x<10^60):x<10^200:=Nat.lt_of_lt_of_le h (by decide+kernel)
theorem Sml.okr {p:List Int×Int} (h:Sml p):Okr p:=⟨h.2.1,fun x hx=>p60 (h.2.2.1 x hx),p60 h.2.2.2.1⟩
theorem mt (p:List Int×Int): ∀c∈(et p).cps.toList,c=42 \/Sign c:=by
 intro c hc
 unfold et at hc
 rw [bc,bc] at hc
 rcases List.mem_append.mp hc with hc|hc
 ·rcases List.mem_append.mp hc with hc|hc
  ·exact .inr (rJ _ c hc)
  ·exact .inl (List.mem_singleton.mp hc)
 ·exact .inr (.inr (sasc _ c hc))
theorem CJ (p:List Int×Int):PyData.strOk (et p)=true:=bF fun c hc=>by
 have:=mt p c hc
 unfold Sign at this
 lia
theorem BE {w:Int} (h:w≠0):sN w≠Str.ofString "0":=fun z=>by
 obtain ⟨ds,h1,h2,h3,h4,h5⟩:=iq w
 have zl:=congrArg (fun a:Str=>a.cps.toList) z
 rcases h5 with ⟨e,et⟩|⟨_,_,et⟩
 ·rw [et] at zl
  replace zl:(txt ds).cps.toList=(Str.ofString "0").cps.toList:=zl
  rw [bd,l0] at zl
  cases ds with
  |nil=>exact h1 rfl
  |cons d r=>
   obtain ⟨e1,e2⟩:=List.cons.inj zl
   have e1':d+48=48:=e1
   have d0:d=0:=by lia
   subst d0
   cases r with
   |nil=>exact h (by rw [e];rfl)
   |cons _ _=>cases e2
 ·rw [et] at zl
  replace zl:((⟨#[45]⟩:Str)++txt ds).cps.toList=(Str.ofString "0").cps.toList:=zl
  rw [bc,l0] at zl
  have:=(List.cons.inj zl).1
  lia
theorem BF {p:List Int×Int} (h:Sml p):M_read_entry [.str (et p)]=some (ent p):=by
 have f1:42∉(rt p.1).cps.toList:=fun z=>by
  have:=rJ p.1 42 z
  unfold Sign at this
  lia
 have f2:42∉(sN p.2).cps.toList:=fun z=>by
  have:=sasc p.2 42 z
  lia
 have ej:Str.join ⟨#[42]⟩ [rt p.1,sN p.2]=et p:=rfl
 have sp:=jL (c:=42) (ts:=[rt p.1,sN p.2]) (by simp) (fun t ht=>by
  rcases List.mem_cons.mp ht with rfl|ht
  ·exact f1
  ·rw [List.mem_singleton.mp ht];exact f2)
 rw [ej] at sp
 have el:=mq (k:=60) (by decide) h.2.1 h.2.2.1 h.2.2.2.1
 have ds:aT (.str (et p)) (.str (Str.ofString "*"))=some (.lst [.str (rt p.1),.str (sN p.2)]):=by
  rw [ls]
  show (if _ then some (Dv.lst ((Txt.split (et p) ⟨#[42]⟩).map Dv.str)) else none)=_
  rw [if_pos ⟨rfl,by show _<=100000;lia⟩,sp]
  rfl
 have wn:=rG h.2.2.2.1
 have de:dEq (.str (sN p.2)) (.str (Str.ofString "0"))=some (.bl false):=by
  have ok:eqOk (.str (sN p.2)) (.str (Str.ofString "0"))=true:=by
   show (PyData.strOk (sN p.2)&&PyData.strOk (Str.ofString "0")&&decide _)=true
   rw [wn.ok,bF (a:=Str.ofString "0") (by rw [l0];simp)]
   rfl
  exact gS ok (by rw [gg,decide_eq_false (BE h.2.2.2.2)])
 have rn:=jK wn
 have rw_:=rD (p.1.map fun x=>(x,sN x)) (by
  intro z
  have:p.1=[]:=List.map_eq_nil_iff.mp z
  have:=h.1
  simp_all) (by rw [List.length_map];exact h.2.1) (fun q hq=>by
  obtain ⟨x,hx,rfl⟩:=List.mem_map.mp hq
  exact rG (h.2.2.1 x hx))
 have e1:(p.1.map fun x=>(x,sN x)).map (·.2)=p.1.map sN:=by rw [List.map_map];rfl
 have e2:(p.1.map fun x=>(x,sN x)).map (·.1)=p.1:=by rw [List.map_map];exact List.map_id _
 rw [e1,e2] at rw_
 replace rw_:dl [.str (rt p.1)]=some (.tup (p.1.map .int)):=rw_
 have a1:atI [Dv.str (rt p.1),.str (sN p.2)] 1=some (.str (sN p.2)):=i5 (by decide) rfl
 have a0:atI [Dv.str (rt p.1),.str (sN p.2)] 0=some (.str (rt p.1)):=i5 (by decide) rfl
 simp_arith only [M_read_entry,lQ,ds,a0,a1,de,rw_,rn,decide_true]
 rfl
theorem dedup1 (w:Int) (f:Nat->Int): ∀n:Nat,(∀i,i<n->f i=w)->PyProof.Rows.firstMet f n=[] \/PyProof.Rows.firstMet f n=[w]
 |0,_=> .inl rfl
 |n+1,h=>by
  rw [PyProof.Rows.firstMet_succ,h n (Nat.lt_succ_self n)]
  rcases dedup1 w f n fun i hi=>h i (by lia) with e|e
  ·rw [e];right;rfl
  ·rw [e];right
   unfold PyProof.Rows.step_dedup
   rw [if_pos (by simp)]
theorem BG {ns:List Int}{w:Int} (h: ∀x∈ns,x=w):nDiff ns<=1:=by
 unfold nDiff
 rcases dedup1 w (fun i=>ns.getD i 0) ns.length (fun i hi=>by
  have:ns.getD i 0=ns[i]:=by simp [List.getD,hi]
  rw [this]
  exact h _ (List.getElem_mem hi)) with e|e<;>rw [e]<;>simp
theorem BH {h:Hl} (ne:h≠[]):(ht h).cps.toList≠[]:=by
 unfold ht Txt.join
 rw [StrLaws.glued_eq_join]
 have en: ∀p,(et p).cps.toList≠[]:=fun p z=>by
  unfold et at z
  rw [bc,bc] at z
  simp at z
 cases h with
 |nil=>exact absurd rfl ne
 |cons p r=>
  cases r with
  |nil=>exact en p
  |cons q r=>
   rw [List.map_cons,List.map_cons,eA]
   simp
theorem BI (ps:Hl) (hl:ps.length<=10000) (ne: ∀p∈ps,p.1≠[]) (h64:(aY ps).length<64):ig [.lst (ps.map ent)]=some (.lst ((cO ps).map ent)):=m_hp ps hl ne h64
theorem BJ (h:Hl) (wd:Nat) (hl:h.length<=100) (hw: ∀p∈h,p.1.length=wd) (sm: ∀p∈h,Sml p) (h64:(aY h).length<64):fY [.str (ht h)]=some (.lst ((cO h).map ent)):=by
 have l3: ∀t∈h.map et,t.length<=558:=fun t ht=>by
  obtain ⟨p,hp,rfl⟩:=List.mem_map.mp ht
  exact mq (k:=60) (by decide) (sm p hp).2.1 (sm p hp).2.2.1 (sm p hp).2.2.2.1
 have hlen:(ht h).length<=60000:=by
  have a:=jlen 32 (h.map et)
  have b:=ir 558 (h.map et) l3
  rw [List.length_map] at a b
  unfold ht
  lia
 have okh:PyData.strOk (ht h)=true:=bF (by
  unfold ht Txt.join
  rw [StrLaws.glued_eq_join]
  refine md (P:=fun c=>c<128) 32 (by decide) _ fun t ht c hc=> ?_
  obtain ⟨p,_,rfl⟩:=List.mem_map.mp ht
  have:=mt p c hc
  unfold Sign at this
  lia)
 have ok:eqOk (.str (ht h)) (.str (Str.ofString ""))=true:=by
  show (PyData.strOk (ht h)&&PyData.strOk (Str.ofString "")&&decide _)=true
  rw [okh,bF (a:=Str.ofString "") (by rw [le_];intro c hc;cases hc)]
  rfl
 by_cases ne:h=[]
 ·subst ne
  have e0:ht []=Str.ofString "":=by rw [le_];rfl
  have de:dEq (.str (ht [])) (.str (Str.ofString ""))=some (.bl true):=gS ok (by rw [gg,decide_eq_true e0])
  simp_arith only [fY,lR,show isiN "str" "str"=true from by decide+kernel,if_true,de]
  rfl
 ·have n0:ht h≠Str.ofString "":=fun z=>BH ne (by rw [z,le_];rfl)
  have de:dEq (.str (ht h)) (.str (Str.ofString ""))=some (.bl false):=gS ok (by rw [gg,decide_eq_false n0])
  have sp:Txt.split (ht h) ⟨#[32]⟩=h.map et:=by
   unfold ht Txt.join
   rw [StrLaws.glued_eq_join]
   refine jL (by simpa using ne) fun t ht z=> ?_
   obtain ⟨p,_,rfl⟩:=List.mem_map.mp ht
   have:=mt p 32 z
   unfold Sign at this
   lia
  have ds:aT (.str (ht h)) (.str (Str.ofString " "))=some (.lst (h.map fun p=> .str (et p))):=by
   rw [lb]
   show (if _ then some (Dv.lst ((Txt.split (ht h) ⟨#[32]⟩).map Dv.str)) else none)=_
   rw [if_pos ⟨rfl,by show _<=100000;lia⟩,sp,List.map_map]
   rfl
  have hc:=cY (g:=gN 0) (c:=tyes) (el:=bD) (δ:=[none]) (fun p=>Dv.str (et p)) ent h (fun p hp=>by
   have:=BF (sm p hp)
   simp_arith only [bD,this,jh])
  have hc2:=cY (g:=gT 2 (gC (gN 0) (gC (gN 1) gZ))) (c:=tyes) (el:=fX) (δ:=[none,none]) ent (fun p=> .int ((p.1.length:Nat):Int)) h (fun p hp=>by simp_arith only [fX,ent])
  have e2:(h.map fun p=>Dv.int ((p.1.length:Nat):Int))=(h.map fun p=>((p.1.length:Nat):Int)).map .int:=by rw [List.map_map];rfl
  rw [e2] at hc2
  have df:fH (.lst ((h.map fun p=>((p.1.length:Nat):Int)).map .int))=some (.int (nDiff (h.map fun p=>((p.1.length:Nat):Int)))):=by
   show (dD _).bind _=_
   rw [i3]
   show (if _ then _ else _)=_
   rw [if_pos (by rw [List.length_map];lia)]
  have d1:=BG (ns:=h.map fun p=>((p.1.length:Nat):Int)) (w:=(wd:Int)) (fun x hx=>by
   obtain ⟨p,hp,rfl⟩:=List.mem_map.mp hx
   rw [hw p hp])
  have d2: ¬((1:Int)<(nDiff (h.map fun p=>((p.1.length:Nat):Int)):Nat)):=by lia
  have mh:=BI h (by lia) (fun p hp z=>by
   have:=(sm p hp).1
   rw [z] at this
   simp at this) h64
  have hl':h.length<=100000:=by lia
  generalize nDiff (h.map fun p=>((p.1.length:Nat):Int))=nd at df d2
  generalize ht h=T at*
  simp_arith only [fY,lR,show isiN "str" "str"=true from by decide+kernel,if_true,de,ds,hl',hc,hc2,df,decide_eq_false d2,mh]
end K58
set_option maxHeartbeats 1000000
namespace K58
open PySem L2
noncomputable def fig (c:Nat):Bool:=decide (48<=c)&&decide (c<=57)
noncomputable def isPl (cs:List Nat):Bool:=(decide (1<=cs.length)&&decide (cs.length<=60))&&(!(decide (cs.head?=some 48)&& !decide (cs=[48]))&&cs.all fig)
noncomputable def isNu (cs:List Nat):Bool:=if cs.head?=some 45 then !decide (cs=[45,48])&&isPl (cs.drop 1) else isPl cs
theorem BK: ∀c:Nat,c<128->dInS (.str ⟨#[c]⟩) (.str (Str.ofString "0123456789"))=some (.bl (fig c)):=by
 intro d hd
 have e:Str.ofString "0123456789"=⟨#[48,49,50,51,52,53,54,55,56,57]⟩:=aD (by rw [PyProof.Rows.signs_ofString];rfl)
 rw [e]
 have: ∀d:Fin 128,(!(Builtin.Str.occurrences ⟨#[48,49,50,51,52,53,54,55,56,57]⟩ ⟨#[d.val]⟩ 0 10 1).isEmpty)=fig d.val:=by decide+kernel
 have:=this ⟨d,hd⟩
 show some (Dv.bl (!(Builtin.Str.occurrences ⟨#[48,49,50,51,52,53,54,55,56,57]⟩ ⟨#[d]⟩ 0 10 1).isEmpty))=_
 rw [this]
theorem rL {t:Str} (asc: ∀c∈t.cps.toList,c<128) (hl:t.length<=1000):cc [.str t]=some (.bl (isPl t.cps.toList)):=by
 have tl:=aE t
 have ln:dg [.str t]=some (.int (t.length:Int)):=by
  show (if t.length<=lim then some (Dv.int (t.length:Int)) else none)=_
  rw [if_pos (by show _<=100000;lia)]
 by_cases l1:((t.length:Int)<1)
 ·have e:isPl t.cps.toList=false:=by
   unfold isPl
   rw [decide_eq_false (show¬1<=t.cps.toList.length by lia)]
   rfl
  rw [e]
  simp_arith only [cc,eg,Nat.sub_self,ln,decide_eq_true l1]
 by_cases l2:((60:Int)<(t.length:Int))
 ·have e:isPl t.cps.toList=false:=by
   unfold isPl
   rw [decide_eq_false (show¬t.cps.toList.length<=60 by lia),Bool.and_false]
   rfl
  rw [e]
  simp_arith only [cc,eg,Nat.sub_self,ln,decide_eq_false l1,decide_eq_true l2]
 have sw:=ip (t:=t) (z:=Str.ofString "0") l0
 have st:dh (.str t) (.str (Str.ofString "0"))=some (.bl (decide (t.cps.toList.head?=some 48))):=congrArg (fun b=>some (Dv.bl b)) sw
 have hs:iS (eVar 0) [some (.str t)]=some (t.cps.toList.map fun c=> .str ⟨#[c]⟩):=by
  show (if t.cps.size<=lim/\t.cps.all (· <128)=true then some (d8 t) else none)=_
  rw [if_pos ⟨by show t.length<=100000;lia,rj asc⟩]
  rfl
 have hc:=cY (g:=gN 0) (c:=tyes) (el:=ii) (δ:=[none]) (fun d:Nat=>Dv.str ⟨#[d]⟩) (fun d=> .bl (fig d)) t.cps.toList (fun d hd=>by
  have:=BK d (asc d hd)
  simp_arith only [ii,this])
 have fa:fAll [.lst (t.cps.toList.map fun d=>Dv.bl (fig d))]=some (.bl (t.cps.toList.all fig)):=by
  have e:(t.cps.toList.map fun d=>Dv.bl (fig d))=(t.cps.toList.map fig).map .bl:=by rw [List.map_map];rfl
  rw [e]
  show (eO _).map _=_
  rw [kJ]
  simp [List.all_map,Function.comp_def]
 have e1:(decide (1<=t.cps.toList.length)&&decide (t.cps.toList.length<=60))=true:=by
  rw [decide_eq_true (show 1<=t.cps.toList.length by lia),decide_eq_true (show t.cps.toList.length<=60 by lia)]
  rfl
 unfold isPl
 rw [e1,Bool.true_and]
 have dn:=jI (a:=t) (b:=Str.ofString "0") (bF asc) (bF (by rw [l0];simp))
 have de:decide (t=Str.ofString "0")=decide (t.cps.toList=[48]):=by
  by_cases h:t=Str.ofString "0"
  ·rw [decide_eq_true h,decide_eq_true (by rw [h,l0])]
  ·rw [decide_eq_false h,decide_eq_false (fun z=>h (aD (by rw [l0];exact z)))]
 rw [de] at dn
 cases h0:decide (t.cps.toList.head?=some 48) with
 |true=>
  rw [h0] at st
  cases h1:decide (t.cps.toList=[48]) with
  |true=>
   rw [h1] at dn
   simp_arith only [cc,eg,Nat.sub_self,ln,decide_eq_false l1,decide_eq_false l2,st,dn,hs,hc,fa]
   all_goals rfl
  |false=>
   rw [h1] at dn
   simp_arith only [cc,eg,Nat.sub_self,ln,decide_eq_false l1,decide_eq_false l2,st,dn,hs,hc,fa]
   all_goals rfl
 |false=>
  rw [h0] at st
  simp_arith only [cc,eg,Nat.sub_self,ln,decide_eq_false l1,decide_eq_false l2,st,hs,hc,fa]
  all_goals rfl
end K58
set_option maxHeartbeats 1000000
namespace K58
open PySem L2
theorem BL {t:Str} (asc: ∀c∈t.cps.toList,c<128) (hl:t.length<=1000):cf [.str t]=some (.bl (isNu t.cps.toList)):=by
 have tl:=aE t
 have sw:=ip (t:=t) (z:=Str.ofString "-") lm
 have st:dh (.str t) (.str (Str.ofString "-"))=some (.bl (decide (t.cps.toList.head?=some 45))):=congrArg (fun b=>some (Dv.bl b)) sw
 unfold isNu
 by_cases h:t.cps.toList.head?=some 45
 ·rw [if_pos h]
  rw [decide_eq_true h] at st
  have l1:1<=t.length:=by
   rw [tl]
   cases hh:t.cps.toList with
   |nil=>rw [hh] at h;cases h
   |cons _ _=>simp
  have dn:=jI (a:=t) (b:=Str.ofString "-0") (bF asc) (bF (by rw [lm0];simp))
  have de:decide (t=Str.ofString "-0")=decide (t.cps.toList=[45,48]):=by
   by_cases h:t=Str.ofString "-0"
   ·rw [decide_eq_true h,decide_eq_true (by rw [h,lm0])]
   ·rw [decide_eq_false h,decide_eq_false (fun z=>h (aD (by rw [lm0];exact z)))]
  rw [de] at dn
  have sl:=rq t l1
  have mp:=rL (t:=Txt.slice t (some 1) none) (by rw [sl];exact fun c hc=>asc c (List.mem_of_mem_drop hc)) (by rw [aE,sl,List.length_drop];lia)
  rw [sl] at mp
  have es:eS (eVar 0) (bX (eC (.int 1))) cr [some (.str t)]=some (.str (Txt.slice t (some 1) none)):=by
   show (if t.length<=lim then some (Dv.str (Txt.slice t (some 1) none)) else none)=_
   rw [if_pos (by show _<=100000;lia)]
  cases hd:decide (t.cps.toList=[45,48]) with
  |true=>
   rw [hd] at dn
   simp_arith only [cf,fW,Nat.sub_self,st,dn]
   all_goals rfl
  |false=>
   rw [hd] at dn
   simp_arith only [cf,fW,Nat.sub_self,st,dn,es,mp]
   all_goals rfl
 ·rw [if_neg h]
  rw [decide_eq_false h] at st
  have mp:=rL asc hl
  simp_arith only [cf,fW,Nat.sub_self,st,mp]
theorem mz {cs:List Nat}{c:Nat} (hc:c∈cs) (h:fig c=false):isPl cs=false:=by
 have e:cs.all fig=false:=by
  cases q:cs.all fig with
  |false=>rfl
  |true=>rw [List.all_eq_true.mp q c hc] at h;cases h
 unfold isPl
 rw [e,Bool.and_false,Bool.and_false]
theorem rM {cs:List Nat}{c:Nat} (hc:c∈cs) (h:fig c=false) (h2:c≠45):isNu cs=false:=by
 unfold isNu
 split
 ·cases cs with
  |nil=>cases hc
  |cons a r=>
   rename_i q
   have ea:a=45:=Option.some.inj q
   subst ea
   rcases List.mem_cons.mp hc with z|z
   ·exact absurd z h2
   ·rw [List.drop_succ_cons,List.drop_zero,mz z h,Bool.and_false]
 ·exact mz hc h
theorem rN {t:Str} (asc: ∀c∈t.cps.toList,c<128) (hl:t.length<=1000) (h:isNu t.cps.toList=false):bE [.str t]=true:=by
 have mi:=BL asc hl
 rw [h] at mi
 have q:(tor (tnot (tOf (eIsi "str" (eVar 0)))) (tnot (tOf (ah cf (aa (eVar 0) aNil))))) [some (.str t)]=some true:=by
  simp_arith only [show isiN "str" "str"=true from by decide+kernel,if_true,mi]
  all_goals rfl
 unfold bE bZ qT rIf
 rw [show aX 1 [Dv.str t]=[some (.str t)] from rfl,q]
 rfl
theorem CK {d:Dv} (h0:d.isScr=false) (h:isiN (tyN d) "str"=false):dM [d]=true:=by
 have q:(tnot (tOf (eIsi "str" (eVar 0)))) [some d,none]=some true:=by
  simp [tnot,tOf,eIsi,eVar,h0,h,fu]
 have e:fZ [some d,none]=true:=by
  unfold fZ rIf
  rw [q]
  rfl
 unfold dM bZ lS
 rw [show aX 2 [d]=[some d,none] from rfl]
 show (decide (1=1)&&(fZ [some d,none]||gb [some d,none]||gc [some d,none]))=true
 rw [e]
 rfl
theorem rO {bad:Str}{post:List Str} (hb:bE [.str bad]=true): ∀(pre:List Str),(∀w∈pre,∃v,WN v w)->
  bC (gN 0) dk (aM bE (aa (eVar 0) aNil)) [none] ((pre++bad::post).map Dv.str)=true
 |[],_=>by
  show (aM bE (aa (eVar 0) aNil) [some (.str bad)]||_)=true
  have e:aM bE (aa (eVar 0) aNil) [some (.str bad)]=true:=hb
  rw [e]
  rfl
 |w::pre,h=>by
  obtain ⟨v,hv⟩:=h w (.head _)
  have ih:=rO (post:=post) hb pre fun x hx=>h x (.tail _ hx)
  have m:dk [some (.str w)]=some (.int v):=by
   have:=jK hv
   simp_arith only [dk,this]
  show (aM bE (aa (eVar 0) aNil) [some (.str w)]||(match dk [some (.str w)] with
   |some _=>bC (gN 0) dk (aM bE (aa (eVar 0) aNil)) [none] ((pre++bad::post).map Dv.str)
   |none=>false))=true
  rw [m]
  show (_||bC (gN 0) dk (aM bE (aa (eVar 0) aNil)) [none] ((pre++bad::post).map Dv.str))=true
  rw [ih,Bool.or_true]
theorem BM {T:Str}{ws:List Str} (hl:T.length<=1000) (hs:Txt.split T ⟨#[44]⟩=ws) (hw:ws.length<=1000) (h:8<ws.length \/ ∃pre bad post,ws=pre++bad::post/\(∀w∈pre,∃v,WN v w)/\bE [.str bad]=true):dM [.str T]=true:=by
 have ds:aT (.str T) (.str (Str.ofString ","))=some (.lst (ws.map .str)):=by
  rw [lc]
  show (if _ then some (Dv.lst ((Txt.split T ⟨#[44]⟩).map Dv.str)) else none)=_
  rw [if_pos ⟨rfl,by show _<=100000;lia⟩,hs]
 have hl':ws.length<=100000:=by lia
 have s1:(sIf (tnot (tOf (eIsi "str" (eVar 0)))) sNo av) [some (.str T),none]=some (.nx [some (.str T),none]):=by
  simp_arith only [show isiN "str" "str"=true from by decide+kernel,if_true]
  all_goals rfl
 have s2:(sSet 1 (eOp aT (eVar 0) (eC (.str ",")))) [some (.str T),none]=some (.nx [some (.str T),some (.lst (ws.map .str))]):=by
  simp_arith only [ds]
  all_goals rfl
 have fl:(ah fLen (aa (eVar 1) aNil)) [some (.str T),some (.lst (ws.map .str))]=some (.int (ws.length:Int)):=by
  simp_arith only [hl']
 have q2:(tOf (eOp dGt (ah fLen (aa (eVar 1) aNil)) (eC (.int 8)))) [some (.str T),some (.lst (ws.map .str))]=some (decide ((8:Int)<(ws.length:Int))):=by
  simp_arith only [hl']
  all_goals rfl
 unfold dM bZ lS
 rw [show aX 2 [Dv.str T]=[some (.str T),none] from rfl]
 show (decide (1=1)&&(fZ [some (.str T),none]||gb [some (.str T),none]||gc [some (.str T),none]))=true
 by_cases h8:8<ws.length
 ·have e:gb [some (.str T),none]=true:=by
   unfold gb bg
   rw [s1]
   show (match (sSet 1 (eOp aT (eVar 0) (eC (.str ",")))) [some (.str T),none] with
    |some (.nx δ1)=>_
    |_=>false)=true
   rw [s2]
   show rIf _ _ _=true
   unfold rIf
   rw [q2,decide_eq_true (by lia)]
   rfl
  rw [e,Bool.or_true,Bool.true_or]
  rfl
 ·rcases h with h|⟨pre,bad,post,rfl,hp,hb⟩
  ·exact absurd h h8
  ·have cb:=rO (post:=post) hb pre hp
   have e:gc [some (.str T),none]=true:=by
    unfold gc bg
    rw [s1]
    show (match (sSet 1 (eOp aT (eVar 0) (eC (.str ",")))) [some (.str T),none] with
     |some (.nx δ1)=>_
     |_=>false)=true
    rw [s2]
    have s3:(sIf (tOf (eOp dGt (ah fLen (aa (eVar 1) aNil)) (eC (.int 8)))) sNo av) [some (.str T),some (.lst ((pre++bad::post).map .str))]=some (.nx [some (.str T),some (.lst ((pre++bad::post).map .str))]):=by
     unfold sIf
     rw [q2,decide_eq_false (by lia)]
     rfl
    show (match (sIf (tOf (eOp dGt (ah fLen (aa (eVar 1) aNil)) (eC (.int 8)))) sNo av) [some (.str T),some (.lst ((pre++bad::post).map .str))] with
     |some (.nx δ1)=>_
     |_=>false)=true
    rw [s3]
    show di _ _ _ _ _ _=true
    unfold di
    have il:iL (eVar 1) [some (.str T),some (.lst ((pre++bad::post).map .str))]=some ((pre++bad::post).map .str):=by
     show (if ((pre++bad::post).map Dv.str).length<=lim then some ((pre++bad::post).map Dv.str) else none)=_
     rw [if_pos (by rw [List.length_map];exact hl')]
    rw [il]
    exact cb
   rw [e,Bool.or_true]
   rfl
end K58
set_option maxHeartbeats 1000000
namespace K58
open PySem L2
noncomputable def toS (cs:List Nat):Str:=⟨cs.toArray⟩
theorem bP (cs:List Nat):(toS cs).cps.toList=cs:=rfl
theorem jN (t:Str):toS t.cps.toList=t:=aD rfl
noncomputable def jn (c:Nat):List (List Nat)->List Nat
 |[]=>[]
 |[x]=>x
 |x::y::r=>x++c::jn c (y::r)
noncomputable def spl (c:Nat):List Nat->List (List Nat)
 |[]=>[[]]
 |x::r=>if x=c then []::spl c r else match spl c r with
  |[]=>[[x]]
  |w::ws=>(x::w)::ws
theorem dq {c:Nat}{r:List Nat}:spl c (c::r)=[]::spl c r:=by
 rw [spl,if_pos rfl]
theorem cE (c:Nat): ∀cs:List Nat,∃w ws,spl c cs=w::ws
 |[]=>⟨_,_,rfl⟩
 |x::r=>by
  obtain ⟨w,ws,e⟩:=cE c r
  rw [spl,e]
  split
  ·exact ⟨_,_,rfl⟩
  ·exact ⟨_,_,rfl⟩
theorem eB {c x:Nat}{r w:List Nat}{ws:List (List Nat)} (h:x≠c) (e:spl c r=w::ws):spl c (x::r)=(x::w)::ws:=by
 rw [spl,if_neg h,e]
theorem gh {c:Nat}{x:List Nat}{xs:List (List Nat)} (h:xs≠[]):jn c (x::xs)=x++c::jn c xs:=by
 cases xs with
 |nil=>exact absurd rfl h
 |cons y r=>rfl
theorem BN {c x:Nat}{w:List Nat}{ws:List (List Nat)}:jn c ((x::w)::ws)=x::jn c (w::ws):=by
 cases ws with
 |nil=>rfl
 |cons y r=>rfl
theorem gi (c:Nat): ∀cs:List Nat,jn c (spl c cs)=cs
 |[]=>rfl
 |x::r=>by
  obtain ⟨w,ws,e⟩:=cE c r
  have ih:=gi c r
  by_cases h:x=c
  ·subst h
   rw [dq,gh (by rw [e];simp),ih]
   rfl
  ·rw [eB h e,BN,<-e,ih]
theorem mB (c:Nat): ∀cs:List Nat,∀w∈spl c cs,c∉w
 |[],w,hw=>by rw [List.mem_singleton.mp hw];simp
 |x::r,w,hw=>by
  obtain ⟨v,vs,e⟩:=cE c r
  have ih:=mB c r
  by_cases h:x=c
  ·subst h
   rw [dq] at hw
   rcases List.mem_cons.mp hw with rfl|hw
   ·simp
   ·exact ih w hw
  ·rw [eB h e] at hw
   rw [e] at ih
   rcases List.mem_cons.mp hw with rfl|hw
   ·intro z
    rcases List.mem_cons.mp z with z|z
    ·exact h z.symm
    ·exact ih v (.head _) z
   ·exact ih w (.tail _ hw)
theorem bw (c:Nat) (b:List Nat): ∀a:List Nat,spl c (a++c::b)=spl c a++spl c b
 |[]=>by rw [List.nil_append,dq];rfl
 |x::a=>by
  have ih:=bw c b a
  obtain ⟨w,ws,e⟩:=cE c a
  rw [e] at ih
  by_cases h:x=c
  ·subst h
   rw [List.cons_append,dq,dq,ih,e]
   rfl
  ·rw [List.cons_append,eB h ih,eB h e]
   rfl
theorem bx {c:Nat}: ∀{a:List Nat},c∉a->spl c a=[a]
 |[],_=>rfl
 |x::a,h=>eB (fun z=>h (by rw [z];simp)) (bx fun z=>h (by simp [z]))
theorem mC {c:Nat}: ∀{L:List (List Nat)},L≠[]->spl c (jn c L)=L.flatMap (spl c)
 |[],h=>absurd rfl h
 |[x],_=>by simp [jn]
 |x::y::r,_=>by
  rw [gh (by simp),bw,mC (by simp)]
  rfl
theorem rP {c:Nat}: ∀{L:List (List Nat)},(∀w∈L,c∉w)->L.flatMap (spl c)=L
 |[],_=>rfl
 |x::r,h=>by
  rw [List.flatMap_cons,bx (h x (.head _)),rP fun w hw=>h w (.tail _ hw)]
  rfl
theorem mD {c:Nat}{L:List (List Nat)} (ne:L≠[]) (h: ∀w∈L,c∉w):spl c (jn c L)=L:=by rw [mC ne,rP h]
theorem iu {c x:Nat} (hx:x≠c): ∀{cs:List Nat},x∈cs-> ∃w∈spl c cs,x∈w
 |y::r,h=>by
  obtain ⟨v,vs,e⟩:=cE c r
  by_cases hy:y=c
  ·subst hy
   rcases List.mem_cons.mp h with z|z
   ·exact absurd z hx
   ·obtain ⟨w,h1,h2⟩:=iu hx z
    exact ⟨w,by rw [dq];exact .tail _ h1,h2⟩
  ·rw [eB hy e]
   rcases List.mem_cons.mp h with z|z
   ·exact ⟨_,.head _,by rw [z];simp⟩
   ·obtain ⟨w,h1,h2⟩:=iu (c:=c) hx z
    rw [e] at h1
    rcases List.mem_cons.mp h1 with rfl|h1
    ·exact ⟨_,.head _,by simp [h2]⟩
    ·exact ⟨w,.tail _ h1,h2⟩
theorem jO {c x:Nat}: ∀{L:List (List Nat)}{w:List Nat},w∈L->x∈w->x∈jn c L
 |[v],w,h,hx=>by rw [List.mem_singleton.mp h] at hx;exact hx
 |v::u::r,w,h,hx=>by
  rw [gh (by simp)]
  rcases List.mem_cons.mp h with rfl|h
  ·simp [hx]
  ·have:=jO (c:=c) h hx
   simp [this]
theorem gj {c x:Nat}{cs w:List Nat} (h:w∈spl c cs) (hx:x∈w):x∈cs:=by
 have:=jO (c:=c) h hx
 rwa [gi] at this
theorem rQ {c:Nat}: ∀{L:List (List Nat)}{w:List Nat},w∈L->w.length<=(jn c L).length
 |[v],w,h=>by rw [List.mem_singleton.mp h];exact Nat.le_refl _
 |v::u::r,w,h=>by
  rw [gh (by simp),List.length_append,List.length_cons]
  rcases List.mem_cons.mp h with rfl|h
  ·lia
  ·have:=rQ (c:=c) h
   lia
theorem iz {c:Nat}{cs w:List Nat} (h:w∈spl c cs):w.length<=cs.length:=by
 have:=rQ (c:=c) h
 rwa [gi] at this
theorem jP (c:Nat): ∀cs:List Nat,(spl c cs).length<=cs.length+1
 |[]=>Nat.le_refl _
 |x::r=>by
  obtain ⟨v,vs,e⟩:=cE c r
  have ih:=jP c r
  by_cases h:x=c
  ·subst h;rw [dq,List.length_cons,List.length_cons];lia
  ·rw [eB h e];rw [e] at ih;rw [List.length_cons] at ih|-;rw [List.length_cons];lia
theorem jc {c:Nat}: ∀ws:List Str,(Str.join ⟨#[c]⟩ ws).cps.toList=jn c (ws.map fun t=>t.cps.toList)
 |[]=>rfl
 |[x]=>rfl
 |x::y::r=>by
  rw [eA,jc (y::r)]
  rfl
theorem jT {c:Nat} (ws:List Str):(Txt.join ⟨#[c]⟩ ws).cps.toList=jn c (ws.map fun t=>t.cps.toList):=by
 unfold Txt.join
 rw [StrLaws.glued_eq_join,jc]
theorem mE (L:List (List Nat)):((L.map toS).map fun t=>t.cps.toList)=L:=by
 rw [List.map_map]
 exact List.map_id' L
theorem rR (c:Nat) (cs:List Nat):Txt.split (toS cs) ⟨#[c]⟩=(spl c cs).map toS:=by
 have e:toS cs=Str.join ⟨#[c]⟩ ((spl c cs).map toS):=aD (by rw [jc,mE,gi];rfl)
 rw [e]
 refine jL ?_ fun t ht=> ?_
 ·obtain ⟨w,ws,e⟩:=cE c cs
  rw [e];simp
 ·obtain ⟨w,hw,rfl⟩:=List.mem_map.mp ht
  exact mB c cs w hw
theorem jQ {α:Type}{p:α->Bool}: ∀{l:List α},l.all p=false-> ∃pre bad post,l=pre++bad::post/\(∀x∈pre,p x=true)/\p bad=false
 |[],h=>by cases h
 |x::l,h=>by
  cases hx:p x with
  |false=>exact ⟨[],x,l,rfl,fun _ z=>(nomatch z),hx⟩
  |true=>
   rw [List.all_cons,hx,Bool.true_and] at h
   obtain ⟨pre,bad,post,e,h1,h2⟩:=jQ h
   refine ⟨x::pre,bad,post,by rw [e];rfl,fun y hy=> ?_,h2⟩
   rcases List.mem_cons.mp hy with rfl|hy
   ·exact hx
   ·exact h1 y hy
noncomputable def isRw (cs:List Nat):Bool:=decide ((spl 44 cs).length<=8)&&(spl 44 cs).all isNu
noncomputable def isEn (cs:List Nat):Bool:=match spl 42 cs with
 |[a,b]=> !decide (b=[48])&&(isRw a&&isNu b)
 |_=>false
noncomputable def wid (cs:List Nat):Nat:=(spl 44 ((spl 42 cs).headD [])).length
noncomputable def isHp (cs:List Nat):Bool:=(spl 32 cs).all isEn&&(spl 32 cs).all fun w=>decide (wid w=wid ((spl 32 cs).headD []))
theorem rS {cs:List Nat} (h:isPl cs=true): ∃ds,Good ds/\cs=ds.map (· +48):=by
 unfold isPl at h
 simp only [Bool.and_eq_true,decide_eq_true_eq,Bool.not_eq_true',Bool.and_eq_false_iff,decide_eq_false_iff_not] at h
 obtain ⟨⟨h1,h2⟩,h3,h4⟩:=h
 have fg: ∀c∈cs,48<=c/\c<=57:=fun c hc=>by
  have:=List.all_eq_true.mp h4 c hc
  unfold fig at this
  simp only [Bool.and_eq_true,decide_eq_true_eq] at this
  exact this
 have e:cs=(cs.map (· -48)).map (· +48):=by
  have q:cs.map ((· +48)∘(· -48))=cs.map id:=List.map_congr_left fun c hc=>by
   have:=fg c hc
   show c-48+48=c
   lia
  rw [List.map_map,q,List.map_id]
 refine ⟨cs.map (· -48),⟨?_,by rw [List.length_map];exact h2,fun d hd=> ?_,fun hl z=> ?_⟩,e⟩
 ·intro z
  rw [List.map_eq_nil_iff] at z
  rw [z] at h1
  simp at h1
 ·obtain ⟨c,hc,rfl⟩:=List.mem_map.mp hd
  have:=fg c hc
  lia
 ·rw [List.length_map] at hl
  cases cs with
  |nil=>simp at hl
  |cons c r=>
   have c0:c-48=0:=by simpa using z
   have:=fg c (.head _)
   have c48:c=48:=by lia
   subst c48
   rcases h3 with q|q
   ·exact q rfl
   ·simp only [Bool.not_eq_false',decide_eq_true_eq] at q
    have:=congrArg List.length q
    simp at this
    rw [this] at hl
    simp at hl
theorem mF {cs:List Nat} (h:isNu cs=true): ∃v,WN v (toS cs):=by
 unfold isNu at h
 split at h
 ·next hd=>
  simp only [Bool.and_eq_true,Bool.not_eq_true',decide_eq_false_iff_not] at h
  cases cs with
  |nil=>cases hd
  |cons c r=>
   have c45:c=45:=by simpa using hd
   subst c45
   obtain ⟨ds,g,e⟩:=rS h.2
   replace e:r=ds.map (· +48):=e
   have p:0<val ds:=by
    refine qY g.1 fun z=> ?_
    cases ds with
    |nil=>cases z
    |cons d l=>
     have d0:d=0:=by simpa using z
     subst d0
     cases l with
     |nil=>exact h.1 (by rw [e];rfl)
     |cons _ _=>exact g.2.2.2 (by simp) rfl
   exact ⟨_,ds,g,.inr ⟨p,rfl,aD (by rw [bc,bd,<-e];rfl)⟩⟩
 ·obtain ⟨ds,g,e⟩:=rS h
  exact ⟨_,ds,g,.inl ⟨rfl,aD (by rw [bd,<-e];rfl)⟩⟩
theorem rT: ∀L:List (List Nat),(∀w∈L,isNu w=true)-> ∃P:List (Int×Str),P.map (·.2)=L.map toS/\ ∀p∈P,WN p.1 p.2
 |[],_=>⟨[],rfl,fun _ z=>(nomatch z)⟩
 |w::L,h=>by
  obtain ⟨P,e,hP⟩:=rT L fun x hx=>h x (.tail _ hx)
  obtain ⟨v,hv⟩:=mF (h w (.head _))
  refine ⟨(v,toS w)::P,by rw [List.map_cons,List.map_cons,e],fun p hp=> ?_⟩
  rcases List.mem_cons.mp hp with rfl|hp
  ·exact hv
  ·exact hP p hp
theorem row_ok {cs:List Nat} (h:isRw cs=true): ∃ns:List Int,dl [.str (toS cs)]=some (.tup (ns.map .int))/\ns.length=(spl 44 cs).length:=by
 unfold isRw at h
 simp only [Bool.and_eq_true,decide_eq_true_eq] at h
 obtain ⟨P,e,hP⟩:=rT (spl 44 cs) fun w hw=>List.all_eq_true.mp h.2 w hw
 have ln:P.length=(spl 44 cs).length:=by
  have:=congrArg List.length e
  rwa [List.length_map,List.length_map] at this
 obtain ⟨w,ws,es⟩:=cE 44 cs
 have eT:toS cs=Txt.join ⟨#[44]⟩ (P.map (·.2)):=aD (by rw [jT,e,mE,gi];rfl)
 rw [eT]
 exact ⟨P.map (·.1),rD P (fun z=>by rw [z,es] at ln;simp at ln) (by lia) hP,by rw [List.length_map,ln]⟩
theorem BO {cs:List Nat} (asc: ∀c∈cs,c<128) (hl:cs.length<=900) (h:isRw cs=false):dM [.str (toS cs)]=true:=by
 have sp:=rR 44 cs
 have mn:=jP 44 cs
 refine BM (ws:=(spl 44 cs).map toS) (by rw [aE,bP];lia) sp (by rw [List.length_map];lia) ?_
 unfold isRw at h
 rw [Bool.and_eq_false_iff] at h
 rcases h with h|h
 ·left
  rw [List.length_map]
  have:=of_decide_eq_false h
  lia
 ·right
  obtain ⟨pre,bad,post,e,h1,h2⟩:=jQ h
  have hb:bad∈spl 44 cs:=by rw [e];simp
  refine ⟨pre.map toS,toS bad,post.map toS,by rw [e,List.map_append,List.map_cons],fun w hw=> ?_,rN (fun c hc=>asc c (gj hb hc)) (by rw [aE,bP];have:=iz hb;lia) h2⟩
  obtain ⟨x,hx,rfl⟩:=List.mem_map.mp hw
  exact mF (h1 x hx)
end K58
set_option maxHeartbeats 1000000
namespace K58
open PySem L2
theorem dO {a:SM}{m:Dt->Bool}{δ δ':Dt} (h:a δ=some (.nx δ')) (h2:m δ'=true):bg a m δ=true:=by
 unfold bg
 rw [h]
 exact h2
theorem jR {tc:Dt->Option Bool}{m:Dt->Bool}{δ:Dt} (h:tc δ=some true) (h2:m δ=true):rIf tc m δ=true:=by
 unfold rIf
 rw [h]
 exact h2
theorem BP {a:EM}{m:Dt->Bool}{δ:Dt}{d:Dv} (h:a δ=some d) (h2:m δ=true):hZ a m δ=true:=by
 unfold hZ
 rw [h]
 exact h2
theorem rV {X:List Dv->Bool}{ml:Dt->Option (List Dv)}{δ:Dt}{ds:List Dv} (h:ml δ=some ds) (h2:X ds=true):aM X ml δ=true:=by
 unfold aM
 rw [h]
 exact h2
theorem rW {t:Dt->Option Bool}{a:SM}{δ:Dt} (h:t δ=some false):sIf t a av δ=some (.nx δ):=by
 unfold sIf
 rw [h]
 rfl
theorem rX {a b:Dt->Option Bool}{δ:Dt} (h:a δ=some true):tor a b δ=some true:=by
 unfold tor
 rw [h]
 rfl
theorem jS {a b:Dt->Option Bool}{δ:Dt}{x:Bool} (h:a δ=some false) (h2:b δ=some x):tor a b δ=some x:=by
 unfold tor
 rw [h]
 exact h2
theorem dsp {cs:List Nat}{c:Nat}{z:Str} (hz:z=⟨#[c]⟩) (hl:cs.length<=900):aT (.str (toS cs)) (.str z)=some (.lst ((spl c cs).map fun w=> .str (toS w))):=by
 rw [hz]
 show (if _ then some (Dv.lst ((Txt.split (toS cs) ⟨#[c]⟩).map Dv.str)) else none)=_
 rw [if_pos ⟨rfl,by rw [aE,bP];show _<=100000;lia⟩,rR,List.map_map]
 rfl
theorem dEq0 {b:List Nat} (asc: ∀c∈b,c<128):dEq (.str (toS b)) (.str (Str.ofString "0"))=some (.bl (decide (b=[48]))):=by
 have ok:eqOk (.str (toS b)) (.str (Str.ofString "0"))=true:=by
  show (PyData.strOk (toS b)&&PyData.strOk (Str.ofString "0")&&decide _)=true
  rw [bF (a:=toS b) asc,bF (a:=Str.ofString "0") (by rw [l0];simp)]
  rfl
 refine gS ok ?_
 rw [gg]
 by_cases h:b=[48]
 ·rw [decide_eq_true h,decide_eq_true (aD (by rw [bP,l0,h]))]
 ·rw [decide_eq_false h,decide_eq_false fun z=>h (by have:=congrArg (fun t:Str=>t.cps.toList) z;simp only [bP,l0] at this;exact this)]
noncomputable abbrev dS (L:List (List Nat)):Dv:= .lst (L.map fun w=> .str (toS w))
theorem BQ {cs:List Nat} (hl:cs.length<=900):(sSet 1 (eOp aT (eVar 0) (eC (.str "*")))) [some (.str (toS cs)),none]=some (.nx [some (.str (toS cs)),some (dS (spl 42 cs))]):=by
 have ds:=dsp (z:=Str.ofString "*") ls hl
 simp_arith only [ds]
 all_goals rfl
theorem rY {T:Option Dv}{L:List (List Nat)} (hl:L.length<=1000):(tOf (eOp dNe (ah fLen (aa (eVar 1) aNil)) (eC (.int 2)))) [T,some (dS L)]=some (!decide ((L.length:Int)=2)):=by
 have hl':L.length<=100000:=by lia
 simp_arith only [dS,hl']
 all_goals rfl
theorem BR {T:Option Dv}{a b:List Nat} (asc: ∀c∈b,c<128):(tOf (eOp dEq (eOp dIx (eVar 1) (eC (.int 1))) (eC (.str "0")))) [T,some (dS [a,b])]=some (decide (b=[48])):=by
 have e:=dEq0 asc
 have i:eOp dIx (eVar 1) (eC (.int 1)) [T,some (dS [a,b])]=some (.str (toS b)):=rfl
 unfold tOf eOp at*
 show (((eOp dIx (eVar 1) (eC (.int 1)) [T,some (dS [a,b])]).bind fun x=>((eC (.str "0"):EM) [T,some (dS [a,b])]).bind fun y=>dEq x y).bind fu)=_
 rw [show eOp dIx (eVar 1) (eC (.int 1)) [T,some (dS [a,b])]=some (.str (toS b)) from i]
 show (dEq (.str (toS b)) (.str (Str.ofString "0"))).bind fu=_
 rw [e]
 rfl
theorem len2 {α:Type}{l:List α} (h:l.length=2): ∃a b,l=[a,b]:=by
 match l,h with
 |[a,b],_=>exact ⟨a,b,rfl⟩
theorem eZ {cs a b:List Nat} (h:spl 42 cs=[a,b]):isEn cs=(!decide (b=[48])&&(isRw a&&isNu b)):=by
 unfold isEn
 rw [h]
theorem BS {cs:List Nat} (asc: ∀c∈cs,c<128) (hl:cs.length<=900) (h:isEn cs=false):cg [.str (toS cs)]=true:=by
 have mn:=jP 42 cs
 have s1:=BQ hl
 have key:jE [some (.str (toS cs)),none]=true \/jF [some (.str (toS cs)),none]=true:=by
  by_cases h2:(spl 42 cs).length=2
  ·obtain ⟨a,b,e⟩:=len2 h2
   rw [eZ e] at h
   have ha:a∈spl 42 cs:=by rw [e];simp
   have hb:b∈spl 42 cs:=by rw [e];simp
   have asa: ∀c∈a,c<128:=fun c hc=>asc c (gj ha hc)
   have asb: ∀c∈b,c<128:=fun c hc=>asc c (gj hb hc)
   have la:=iz ha
   have lb:=iz hb
   have q1:=rY (T:=some (.str (toS cs))) (L:=[a,b]) (show 2<=1000 by decide)
   have q2:=BR (T:=some (.str (toS cs))) (a:=a) asb
   rw [e] at s1
   by_cases b0:b=[48]
   ·left
    rw [decide_eq_true b0] at q2
    exact dO s1 (jR (jS q1 q2) rfl)
   ·right
    rw [decide_eq_false b0] at q2 h
    refine dO s1 (dO (rW (jS q1 q2)) ?_)
    have i0:(aa (eOp dIx (eVar 1) (eC (.int 0))) aNil) [some (.str (toS cs)),some (dS [a,b])]=some [.str (toS a)]:=rfl
    have i1:(aa (eOp dIx (eVar 1) (eC (.int 1))) aNil) [some (.str (toS cs)),some (dS [a,b])]=some [.str (toS b)]:=rfl
    show (_||_)=true
    cases hr:isRw a with
    |false=>
     rw [rV i0 (BO asa (by lia) hr),Bool.true_or]
    |true=>
     rw [hr] at h
     obtain ⟨ns,en,_⟩:=row_ok hr
     have h':isNu b=false:=h
     have xn:=rN (t:=toS b) asb (by rw [aE,bP];lia) h'
     have em:(ah dl (aa (eOp dIx (eVar 1) (eC (.int 0))) aNil)) [some (.str (toS cs)),some (dS [a,b])]=some (.tup (ns.map .int)):=by
      unfold ah
      rw [i0]
      exact en
     rw [BP em (rV i1 xn),Bool.or_true]
  ·left
   have q1:=rY (T:=some (.str (toS cs))) (L:=spl 42 cs) (by lia)
   rw [decide_eq_false (by lia)] at q1
   exact dO s1 (jR (rX q1) rfl)
 unfold cg bZ qU
 rw [show aX 2 [Dv.str (toS cs)]=[some (.str (toS cs)),none] from rfl]
 show (decide (1=1)&&(jE [some (.str (toS cs)),none]||jF [some (.str (toS cs)),none]))=true
 rcases key with k|k
 ·rw [k];rfl
 ·rw [k,Bool.or_true];rfl
theorem BT {cs:List Nat} (asc: ∀c∈cs,c<128) (hl:cs.length<=900) (h:isEn cs=true): ∃p:List Int×Int,M_read_entry [.str (toS cs)]=some (ent p)/\p.1.length=wid cs:=by
 have s1:=dsp (cs:=cs) (z:=Str.ofString "*") ls hl
 have h2:(spl 42 cs).length=2:=by
  unfold isEn at h
  split at h
  ·next e=>rw [e];rfl
  ·cases h
 obtain ⟨a,b,e⟩:=len2 h2
 rw [eZ e] at h
 simp only [Bool.and_eq_true,Bool.not_eq_true',decide_eq_false_iff_not] at h
 obtain ⟨b0,hr,hn⟩:=h
 have hb:b∈spl 42 cs:=by rw [e];simp
 have asb: ∀c∈b,c<128:=fun c hc=>asc c (gj hb hc)
 obtain ⟨ns,er,ln⟩:=row_ok hr
 obtain ⟨v,wv⟩:=mF hn
 have en:=jK wv
 have de:=dEq0 asb
 rw [decide_eq_false b0] at de
 rw [e] at s1
 have wd:ns.length=wid cs:=by
  unfold wid
  rw [e]
  exact ln
 refine ⟨(ns,v),?_,wd⟩
 have s1':aT (.str (toS cs)) (.str (Str.ofString "*"))=some (.lst [.str (toS a),.str (toS b)]):=s1
 simp_arith only [M_read_entry,lQ,s1',decide_true,Bool.not_true,de,er,en,ent]
theorem rZ {bad:List Nat}{post:List (List Nat)} (hb:cg [.str (toS bad)]=true): ∀(pre:List (List Nat)),(∀w∈pre,∃p,M_read_entry [.str (toS w)]=some (ent p))->
  bC (gN 0) bD (aM cg (aa (eVar 0) aNil)) [none] ((pre++bad::post).map fun w=> .str (toS w))=true
 |[],_=>by
  show (aM cg (aa (eVar 0) aNil) [some (.str (toS bad))]||_)=true
  have e:aM cg (aa (eVar 0) aNil) [some (.str (toS bad))]=true:=hb
  rw [e]
  rfl
 |w::pre,h=>by
  obtain ⟨p,hp⟩:=h w (.head _)
  have ih:=rZ (post:=post) hb pre fun x hx=>h x (.tail _ hx)
  have m:bD [some (.str (toS w))]=some (ent p):=by
   show (M_read_entry [.str (toS w)])=_
   exact hp
  show (aM cg (aa (eVar 0) aNil) [some (.str (toS w))]||(match bD [some (.str (toS w))] with
   |some _=>bC (gN 0) bD (aM cg (aa (eVar 0) aNil)) [none] ((pre++bad::post).map fun w=> .str (toS w))
   |none=>false))=true
  rw [m]
  show (_||bC (gN 0) bD (aM cg (aa (eVar 0) aNil)) [none] ((pre++bad::post).map fun w=> .str (toS w)))=true
  rw [ih,Bool.or_true]
theorem r4: ∀L:List (List Nat),(∀w∈L,∃p:List Int×Int,M_read_entry [.str (toS w)]=some (ent p)/\p.1.length=wid w)-> ∃P:Hl,bb (gN 0) tyes bD [none] (L.map fun w=> .str (toS w))=some (P.map ent)/\P.map (·.1.length)=L.map wid
 |[],_=>⟨[],rfl,rfl⟩
 |w::L,h=>by
  obtain ⟨p,hp,hw⟩:=h w (.head _)
  obtain ⟨P,e1,e2⟩:=r4 L fun x hx=>h x (.tail _ hx)
  refine ⟨p::P,?_,by rw [List.map_cons,List.map_cons,e2,hw]⟩
  rw [List.map_cons,List.map_cons]
  have m:bD [some (.str (toS w))]=some (ent p):=by
   show (M_read_entry [.str (toS w)])=_
   exact hp
  show ((bD [some (.str (toS w))]).bind fun x=>if x.imm=true then (bb (gN 0) tyes bD [none] (L.map fun w=> .str (toS w))).map (x:: ·) else none)=_
  rw [m]
  show (if (ent p).imm=true then (bb (gN 0) tyes bD [none] (L.map fun w=> .str (toS w))).map (ent p:: ·) else none)=_
  rw [if_pos jh,e1]
  rfl
theorem BU {ns:List Int}{a b:Int} (ha:a∈ns) (hb:b∈ns) (h:a≠b):1<nDiff ns:=by
 unfold nDiff
 have any: ∀x∈ns,x∈PyProof.Rows.firstMet (fun i=>ns.getD i 0) ns.length:=fun x hx=>by
  have:=PyProof.Rows.firstMet_any (fun i=>ns.getD i 0) ns.length x
  have e:((List.range ns.length).map fun i=>ns.getD i 0).any (· ==x)=true:=by
   rw [List.any_eq_true]
   obtain ⟨i,hi,rfl⟩:=List.mem_iff_getElem.mp hx
   refine ⟨ns[i],List.mem_map.mpr ⟨i,List.mem_range.mpr hi,?_⟩,by simp⟩
   simp [List.getD,hi]
  rw [e,List.any_eq_true] at this
  obtain ⟨y,hy,ey⟩:=this
  rw [beq_iff_eq] at ey
  exact ey▸hy
 have h1:=any a ha
 have h2:=any b hb
 generalize PyProof.Rows.firstMet (fun i=>ns.getD i 0) ns.length=l at h1 h2
 match l,h1,h2 with
 |[x],h1,h2=>exact absurd ((List.mem_singleton.mp h1).trans (List.mem_singleton.mp h2).symm) h
 |x::y::r,_,_=>simp
theorem e5 {cs:List Nat} (asc: ∀c∈cs,c<128) (hl:cs.length<=900) (ne:cs≠[]) (h:isHp cs=false):bo [.str (toS cs)]=true:=by
 have mn:=jP 32 cs
 have s1:(sIf (tnot (tOf (eIsi "str" (eVar 0)))) sNo av) [some (.str (toS cs)),none]=some (.nx [some (.str (toS cs)),none]):=by
  simp_arith only [show isiN "str" "str"=true from by decide+kernel,if_true]
  all_goals rfl
 have de:dEq (.str (toS cs)) (.str (Str.ofString ""))=some (.bl false):=by
  have ok:eqOk (.str (toS cs)) (.str (Str.ofString ""))=true:=by
   show (PyData.strOk (toS cs)&&PyData.strOk (Str.ofString "")&&decide _)=true
   rw [bF (a:=toS cs) asc,bF (a:=Str.ofString "") (by rw [le_];intro c hc;cases hc)]
   rfl
  refine gS ok ?_
  rw [gg]
  exact decide_eq_false fun z=>ne (by have:=congrArg (fun t:Str=>t.cps.toList) z;rw [le_] at this;exact this)
 have s2:(sIf (tOf (eOp dEq (eVar 0) (eC (.str "")))) (sRet (ba aNil)) av) [some (.str (toS cs)),none]=some (.nx [some (.str (toS cs)),none]):=by
  refine rW ?_
  simp_arith only [de]
  all_goals rfl
 have ds:=dsp (cs:=cs) (z:=Str.ofString " ") lb hl
 have ll:(spl 32 cs).length<=100000:=by lia
 have il:iL (eOp aT (eVar 0) (eC (.str " "))) [some (.str (toS cs)),none]=some ((spl 32 cs).map fun w=> .str (toS w)):=by simp_arith only [ds,ll]
 have good: ∀w∈spl 32 cs,isEn w=true-> ∃p:List Int×Int,M_read_entry [.str (toS w)]=some (ent p)/\p.1.length=wid w:=fun w hw he=>BT (fun c hc=>asc c (gj hw hc)) (by have:=iz hw;lia) he
 have key:ik [some (.str (toS cs)),none]=true \/io [some (.str (toS cs)),none]=true:=by
  cases ha:(spl 32 cs).all isEn with
  |false=>
   left
   obtain ⟨pre,bad,post,e,h1,h2⟩:=jQ ha
   have hb:bad∈spl 32 cs:=by rw [e];simp
   refine dO s1 (dO s2 ?_)
   unfold di
   rw [il,e]
   exact rZ (BS (fun c hc=>asc c (gj hb hc)) (by have:=iz hb;lia) h2) pre fun w hw=>by
    obtain ⟨p,e,_⟩:=good w (by rw [e];simp [hw]) (h1 w hw)
    exact ⟨p,e⟩
  |true=>
   right
   unfold isHp at h
   rw [ha,Bool.true_and] at h
   obtain ⟨pre,bad,post,e,h1,h2⟩:=jQ h
   have hb:bad∈spl 32 cs:=by rw [e];simp
   obtain ⟨w0,ws,e0⟩:=cE 32 cs
   have h0:w0∈spl 32 cs:=by rw [e0];simp
   have hd:(spl 32 cs).headD []=w0:=by rw [e0];rfl
   rw [hd] at h2
   have h2:=of_decide_eq_false h2
   obtain ⟨P,c1,c2⟩:=r4 (spl 32 cs) fun w hw=>good w hw (List.all_eq_true.mp ha w hw)
   have lP:P.length=(spl 32 cs).length:=by
    have:=congrArg List.length c2
    rwa [List.length_map,List.length_map] at this
   have s3:(sSet 1 (aS [none] (iL (eOp aT (eVar 0) (eC (.str " ")))) (gN 0) tyes bD)) [some (.str (toS cs)),none]=some (.nx [some (.str (toS cs)),some (.lst (P.map ent))]):=by
    simp_arith only [ds,ll,c1]
    all_goals rfl
   refine dO s1 (dO s2 (dO s3 (jR ?_ rfl)))
   have hc2:=cY (g:=gT 2 (gC (gN 0) (gC (gN 1) gZ))) (c:=tyes) (el:=fX) (δ:=[none,none]) ent (fun p=> .int ((p.1.length:Nat):Int)) P (fun p hp=>by simp_arith only [fX,ent])
   have e2:(P.map fun p=>Dv.int ((p.1.length:Nat):Int))=(P.map fun p=>((p.1.length:Nat):Int)).map .int:=by rw [List.map_map];rfl
   rw [e2] at hc2
   have df:fH (.lst ((P.map fun p=>((p.1.length:Nat):Int)).map .int))=some (.int (nDiff (P.map fun p=>((p.1.length:Nat):Int)))):=by
    show (dD _).bind _=_
    rw [i3]
    show (if _ then _ else _)=_
    rw [if_pos (by rw [List.length_map];lia)]
   have mw: ∀w∈spl 32 cs,((wid w:Nat):Int)∈P.map fun p=>((p.1.length:Nat):Int):=fun w hw=>by
    have:wid w∈P.map (·.1.length):=by rw [c2];exact List.mem_map.mpr ⟨w,hw,rfl⟩
    obtain ⟨p,hp,ep⟩:=List.mem_map.mp this
    exact List.mem_map.mpr ⟨p,hp,by rw [<-ep]⟩
   have d2:=BU (mw bad hb) (mw w0 h0) (by lia)
   have d3:(1:Int)<(nDiff (P.map fun p=>((p.1.length:Nat):Int)):Nat):=by lia
   generalize nDiff (P.map fun p=>((p.1.length:Nat):Int))=nd at df d3
   have lP':P.length<=100000:=by lia
   simp_arith only [lP',hc2,df,decide_eq_true d3]
 unfold bo bZ lT
 rw [show aX 2 [Dv.str (toS cs)]=[some (.str (toS cs)),none] from rfl]
 show (decide (1=1)&&(ij [some (.str (toS cs)),none]||ik [some (.str (toS cs)),none]||io [some (.str (toS cs)),none]))=true
 rcases key with k|k
 ·rw [k,Bool.or_true];rfl
 ·rw [k,Bool.or_true];rfl
end K58
set_option maxHeartbeats 1000000
namespace K58
open PySem L2
noncomputable def Tx (m:EM) (δ:Dt) (x:List Nat) (n:Nat):Prop:=m δ=some (.str (toS x))/\x.length<=n
noncomputable def TL (m:Dt->Option (List Dv)) (δ:Dt) (xs:List (List Nat)):Prop:=m δ=some (xs.map fun x=> .str (toS x))
theorem BV (a b:List Nat):toS a++toS b=toS (a++b):=aD (by rw [bc];rfl)
theorem ar {ma mb:EM}{δ:Dt}{a b:List Nat}{n k:Nat} (ha:Tx ma δ a n) (hb:Tx mb δ b k) (h:n+k<=1000):Tx (eOp ae ma mb) δ (a++b) (n+k):=by
 refine ⟨?_,by rw [List.length_append];have:=ha.2;have:=hb.2;lia⟩
 show (ma δ).bind (fun x=>(mb δ).bind fun y=>ae x y)=_
 rw [ha.1,hb.1]
 show ae (.str (toS a)) (.str (toS b))=_
 rw [jM (by rw [aE,aE,bP,bP];have:=ha.2;have:=hb.2;lia),BV]
theorem ay {δ:Dt} (s:String) (cs:List Nat) (h:(Str.ofString s).cps.toList=cs:=by decide+kernel):Tx (eC (.str (Str.ofString s))) δ cs cs.length:=by
 subst h
 exact ⟨congrArg (fun t=>some (Dv.str t)) (jN _).symm,Nat.le_refl _⟩
theorem r8 {δ:Dt}:Tx (eOp d7 (eC (.str (Str.ofString "9"))) (eC (.int 61))) δ (List.replicate 61 57) 61:=by
 refine ⟨?_,by simp⟩
 show d7 (.str (Str.ofString "9")) (.int 61)=_
 show (if 1<(61:Int)/\(61:Int)<=1000/\0<(Str.ofString "9").length/\(Str.ofString "9").length<=1000 then _ else none)=_
 rw [if_pos (by decide+kernel)]
 exact congrArg (fun t=>some (Dv.str t)) (aD (by decide+kernel))
theorem sd {n np:Nat}{body:SM}{ds:List Dv}{d:Dv}{δ δ0:Dt} (h0:aX n ds=δ0) (hl:ds.length=np) (h:body δ0=some (.rt d δ)):aP n np body ds=some d:=by
 unfold aP
 rw [if_pos hl,h0,h]
 rfl
theorem at_S {L:List (List Nat)}{z:Int} (z0:0<=z) (z1:z<(L.length:Int)):atI (L.map fun w=>Dv.str (toS w)) z=some (.str (toS (L.getD z.toNat []))):=by
 have hz:z.toNat<L.length:=by lia
 unfold atI
 rw [List.length_map,pT z0 z1]
 show (L.map fun w=>Dv.str (toS w))[z.toNat]?=_
 rw [List.getElem?_map,List.getElem?_eq_getElem hz]
 simp [List.getD,hz]
theorem gk {δ:Dt}:TL aNil δ []:=rfl
theorem aH {m:EM}{ml:Dt->Option (List Dv)}{δ:Dt}{x:List Nat}{xs:List (List Nat)}{n:Nat} (h:Tx m δ x n) (t:TL ml δ xs):TL (aa m ml) δ (x::xs):=by
 show (m δ).bind (fun x=>(ml δ).bind fun xs=>some (x::xs))=_
 rw [h.1,t]
 rfl
theorem se: ∀L:List (List Nat),imms (L.map fun x=> .str (toS x))=true
 |[]=>rfl
 |w::ws=>by
  rw [List.map_cons,imms,se ws]
  rfl
theorem tl_I {ml:Dt->Option (List Dv)}{δ:Dt}{xs:List (List Nat)} (t:TL ml δ xs) (h:xs.length<=1000):ba ml δ=some (dS xs):=by
 show (ml δ).bind (fun xs=>if xs.length<=lim/\imms xs=true then some (Dv.lst xs) else none)=_
 rw [t]
 show (if _ then _ else _)=_
 rw [if_pos ⟨by rw [List.length_map];show _<=100000;lia,se xs⟩]
theorem tl_L {ml:Dt->Option (List Dv)}{δ:Dt}{xs:List (List Nat)} (t:TL ml δ xs) (h:xs.length<=1000):eLst ml δ=some (dS xs):=by
 show (ml δ).bind (fun xs=>if xs.length<=lim then some (Dv.lst xs) else none)=_
 rw [t]
 show (if _ then _ else _)=_
 rw [if_pos (by rw [List.length_map];show _<=100000;lia)]
theorem dt {i:Nat}{m:EM}{b:SM}{δ:Dt}{d:Dv} (h:m δ=some d):sSeq (sSet i m) b δ=b (δ.set i (some d)):=by
 unfold sSeq sSet
 rw [h]
 rfl
theorem jU {ma mb:EM}{δ:Dt}{xs ys:List (List Nat)} (ha:ma δ=some (dS xs)) (hb:mb δ=some (dS ys)) (h:xs.length+ys.length<=1000):eOp d6 ma mb δ=some (dS (xs++ys)):=by
 show (ma δ).bind (fun x=>(mb δ).bind fun y=>d6 x y)=_
 rw [ha,hb]
 show (if _ then _ else _)=_
 rw [if_pos (by rw [List.length_map,List.length_map];show _<=100000;lia),<-List.map_append]
noncomputable def O25 (r w x:List Nat):List (List Nat):=[(r++[42,48]),(r++[42]),r,([42]++w),((((r++[42])++w)++[42])++w),((r++[42,42])++w),(r++[42,43,49]),(r++[42,48,49]),(r++[42,45,48]),(r++[42,32,49]),(r++[42,49,46,48]),(r++[42,49,95,48]),((r++[42])++(List.replicate 61 57)),((r++[44,49,42])++w),((r++[44,42])++w),((([44]++r)++[42])++w),((([48]++r)++[42])++w),((r++[45,42])++w),[],[45,42,49],(r++[42,45,45,49]),((r++[42,32])++w),((w++(List.replicate 61 57))++[42,49]),(x++[10]),[49,44,50,44,51,44,52,44,53,44,54,44,55,44,56,44,57,42,49]]
theorem odd0 {r w x:List Nat} (hr:r.length<=60) (hw:w.length<=4) (hx:x.length<=70) {z:Int}{v:Option Dv}:TL (aa (eOp ae (eVar 0) (eC (.str "*0"))) (aa (eOp ae (eVar 0) (eC (.str "*"))) (aa (eVar 0) (aa (eOp ae (eC (.str "*")) (eVar 1)) (aa (eOp ae (eOp ae (eOp ae (eOp ae (eVar 0) (eC (.str "*"))) (eVar 1)) (eC (.str "*"))) (eVar 1)) (aa (eOp ae (eOp ae (eVar 0) (eC (.str "**"))) (eVar 1)) aNil)))))) [some (.str (toS r)),some (.str (toS w)),some (.int z),some (.str (toS x)),v] [(r++[42,48]),(r++[42]),r,([42]++w),((((r++[42])++w)++[42])++w),((r++[42,42])++w)]:=
 (aH (ar ⟨rfl,hr⟩ (ay "*0" [42,48]) (by decide)) (aH (ar ⟨rfl,hr⟩ (ay "*" [42]) (by decide)) (aH ⟨rfl,hr⟩ (aH (ar (ay "*" [42]) ⟨rfl,hw⟩ (by decide)) (aH (ar (ar (ar (ar ⟨rfl,hr⟩ (ay "*" [42]) (by decide)) ⟨rfl,hw⟩ (by decide)) (ay "*" [42]) (by decide)) ⟨rfl,hw⟩ (by decide)) (aH (ar (ar ⟨rfl,hr⟩ (ay "**" [42,42]) (by decide)) ⟨rfl,hw⟩ (by decide)) gk))))))
theorem odd1 {r w x:List Nat} (hr:r.length<=60) (hw:w.length<=4) (hx:x.length<=70) {z:Int}{v:Option Dv}:TL (aa (eOp ae (eVar 0) (eC (.str "*+1"))) (aa (eOp ae (eVar 0) (eC (.str "*01"))) (aa (eOp ae (eVar 0) (eC (.str "*-0"))) (aa (eOp ae (eVar 0) (eC (.str "* 1"))) (aa (eOp ae (eVar 0) (eC (.str "*1.0"))) (aa (eOp ae (eVar 0) (eC (.str "*1_0"))) (aa (eOp ae (eOp ae (eVar 0) (eC (.str "*"))) (eOp d7 (eC (.str "9")) (eC (.int 61)))) aNil))))))) [some (.str (toS r)),some (.str (toS w)),some (.int z),some (.str (toS x)),v] [(r++[42,43,49]),(r++[42,48,49]),(r++[42,45,48]),(r++[42,32,49]),(r++[42,49,46,48]),(r++[42,49,95,48]),((r++[42])++(List.replicate 61 57))]:=
 (aH (ar ⟨rfl,hr⟩ (ay "*+1" [42,43,49]) (by decide)) (aH (ar ⟨rfl,hr⟩ (ay "*01" [42,48,49]) (by decide)) (aH (ar ⟨rfl,hr⟩ (ay "*-0" [42,45,48]) (by decide)) (aH (ar ⟨rfl,hr⟩ (ay "* 1" [42,32,49]) (by decide)) (aH (ar ⟨rfl,hr⟩ (ay "*1.0" [42,49,46,48]) (by decide)) (aH (ar ⟨rfl,hr⟩ (ay "*1_0" [42,49,95,48]) (by decide)) (aH (ar (ar ⟨rfl,hr⟩ (ay "*" [42]) (by decide)) r8 (by decide)) gk)))))))
theorem odd2 {r w x:List Nat} (hr:r.length<=60) (hw:w.length<=4) (hx:x.length<=70) {z:Int}{v:Option Dv}:TL (aa (eOp ae (eOp ae (eVar 0) (eC (.str ",1*"))) (eVar 1)) (aa (eOp ae (eOp ae (eVar 0) (eC (.str ",*"))) (eVar 1)) (aa (eOp ae (eOp ae (eOp ae (eC (.str ",")) (eVar 0)) (eC (.str "*"))) (eVar 1)) (aa (eOp ae (eOp ae (eOp ae (eC (.str "0")) (eVar 0)) (eC (.str "*"))) (eVar 1)) aNil)))) [some (.str (toS r)),some (.str (toS w)),some (.int z),some (.str (toS x)),v] [((r++[44,49,42])++w),((r++[44,42])++w),((([44]++r)++[42])++w),((([48]++r)++[42])++w)]:=
 (aH (ar (ar ⟨rfl,hr⟩ (ay ",1*" [44,49,42]) (by decide)) ⟨rfl,hw⟩ (by decide)) (aH (ar (ar ⟨rfl,hr⟩ (ay ",*" [44,42]) (by decide)) ⟨rfl,hw⟩ (by decide)) (aH (ar (ar (ar (ay "," [44]) ⟨rfl,hr⟩ (by decide)) (ay "*" [42]) (by decide)) ⟨rfl,hw⟩ (by decide)) (aH (ar (ar (ar (ay "0" [48]) ⟨rfl,hr⟩ (by decide)) (ay "*" [42]) (by decide)) ⟨rfl,hw⟩ (by decide)) gk))))
theorem odd3 {r w x:List Nat} (hr:r.length<=60) (hw:w.length<=4) (hx:x.length<=70) {z:Int}{v:Option Dv}:TL (aa (eOp ae (eOp ae (eVar 0) (eC (.str "-*"))) (eVar 1)) (aa (eC (.str "")) (aa (eC (.str "-*1")) (aa (eOp ae (eVar 0) (eC (.str "*--1"))) (aa (eOp ae (eOp ae (eVar 0) (eC (.str "* "))) (eVar 1)) (aa (eOp ae (eOp ae (eVar 1) (eOp d7 (eC (.str "9")) (eC (.int 61)))) (eC (.str "*1"))) aNil)))))) [some (.str (toS r)),some (.str (toS w)),some (.int z),some (.str (toS x)),v] [((r++[45,42])++w),[],[45,42,49],(r++[42,45,45,49]),((r++[42,32])++w),((w++(List.replicate 61 57))++[42,49])]:=
 (aH (ar (ar ⟨rfl,hr⟩ (ay "-*" [45,42]) (by decide)) ⟨rfl,hw⟩ (by decide)) (aH (ay "" []) (aH (ay "-*1" [45,42,49]) (aH (ar ⟨rfl,hr⟩ (ay "*--1" [42,45,45,49]) (by decide)) (aH (ar (ar ⟨rfl,hr⟩ (ay "* " [42,32]) (by decide)) ⟨rfl,hw⟩ (by decide)) (aH (ar (ar ⟨rfl,hw⟩ r8 (by decide)) (ay "*1" [42,49]) (by decide)) gk))))))
theorem odd4 {r w x:List Nat} (hr:r.length<=60) (hw:w.length<=4) (hx:x.length<=70) {z:Int}{v:Option Dv}:TL (aa (eOp ae (eVar 3) (eC (.str "\n"))) (aa (eC (.str "1,2,3,4,5,6,7,8,9*1")) aNil)) [some (.str (toS r)),some (.str (toS w)),some (.int z),some (.str (toS x)),v] [(x++[10]),[49,44,50,44,51,44,52,44,53,44,54,44,55,44,56,44,57,42,49]]:=
 (aH (ar ⟨rfl,hx⟩ (ay "\n" [10]) (by decide)) (aH (ay "1,2,3,4,5,6,7,8,9*1" [49,44,50,44,51,44,52,44,53,44,54,44,55,44,56,44,57,42,49]) gk))
theorem BW {r w x:List Nat} (hr:r.length<=60) (hw:w.length<=4) (hx:x.length<=70) {z:Int} (z0:0<=z) (z1:z<25):eY [.str (toS r),.str (toS w),.int z,.str (toS x)]=some (.str (toS ((O25 r w x).getD z.toNat []))):=by
 refine sd (δ:=[some (.str (toS r)),some (.str (toS w)),some (.int z),some (.str (toS x)),some (dS (O25 r w x))]) rfl rfl ?_
 show lO [some (.str (toS r)),some (.str (toS w)),some (.int z),some (.str (toS x)),none]=_
 unfold lO
 rw [dt (tl_I (odd0 hr hw hx) (show 6<=1000 by decide))]
 simp only [List.set_cons_succ,List.set_cons_zero]
 rw [dt (jU (xs:=[(r++[42,48]),(r++[42]),r,([42]++w),((((r++[42])++w)++[42])++w),((r++[42,42])++w)]) rfl (tl_I (odd1 hr hw hx) (show 7<=1000 by decide)) (by simp))]
 simp only [List.set_cons_succ,List.set_cons_zero]
 rw [dt (jU (xs:=([(r++[42,48]),(r++[42]),r,([42]++w),((((r++[42])++w)++[42])++w),((r++[42,42])++w)]++[(r++[42,43,49]),(r++[42,48,49]),(r++[42,45,48]),(r++[42,32,49]),(r++[42,49,46,48]),(r++[42,49,95,48]),((r++[42])++(List.replicate 61 57))])) rfl (tl_I (odd2 hr hw hx) (show 4<=1000 by decide)) (by simp))]
 simp only [List.set_cons_succ,List.set_cons_zero]
 rw [dt (jU (xs:=(([(r++[42,48]),(r++[42]),r,([42]++w),((((r++[42])++w)++[42])++w),((r++[42,42])++w)]++[(r++[42,43,49]),(r++[42,48,49]),(r++[42,45,48]),(r++[42,32,49]),(r++[42,49,46,48]),(r++[42,49,95,48]),((r++[42])++(List.replicate 61 57))])++[((r++[44,49,42])++w),((r++[44,42])++w),((([44]++r)++[42])++w),((([48]++r)++[42])++w)])) rfl (tl_I (odd3 hr hw hx) (show 6<=1000 by decide)) (by simp))]
 simp only [List.set_cons_succ,List.set_cons_zero]
 rw [dt (jU (xs:=((([(r++[42,48]),(r++[42]),r,([42]++w),((((r++[42])++w)++[42])++w),((r++[42,42])++w)]++[(r++[42,43,49]),(r++[42,48,49]),(r++[42,45,48]),(r++[42,32,49]),(r++[42,49,46,48]),(r++[42,49,95,48]),((r++[42])++(List.replicate 61 57))])++[((r++[44,49,42])++w),((r++[44,42])++w),((([44]++r)++[42])++w),((([48]++r)++[42])++w)])++[((r++[45,42])++w),[],[45,42,49],(r++[42,45,45,49]),((r++[42,32])++w),((w++(List.replicate 61 57))++[42,49])])) rfl (tl_L (odd4 hr hw hx) (show 2<=1000 by decide)) (by simp))]
 simp only [List.set_cons_succ,List.set_cons_zero]
 have hm:z%25=z:=by lia
 have im:eOp dIx (eVar 4) (eOp dMod (eVar 2) (eC (.int 25))) [some (.str (toS r)),some (.str (toS w)),some (.int z),some (.str (toS x)),some (dS (O25 r w x))]=some (.str (toS ((O25 r w x).getD z.toNat []))):=by
  show ((dMod (.int z) (.int 25)).bind fun y=>dIx (dS (O25 r w x)) y)=_
  rw [show dMod (.int z) (.int 25)=some (.int z) from by show (if (0:Int)<25 then some (Dv.int (z%25)) else none)=_;rw [if_pos (by decide),hm]]
  exact at_S z0 (by rw [show (O25 r w x).length=25 from rfl];exact z1)
 show sRet (eImm (eOp dIx (eVar 4) (eOp dMod (eVar 2) (eC (.int 25))))) [some (.str (toS r)),some (.str (toS w)),some (.int z),some (.str (toS x)),some (dS (O25 r w x))]=_
 unfold sRet eImm
 rw [im]
 rfl
end K58
set_option maxHeartbeats 1000000
namespace K58
open PySem L2
theorem iA {cs w:List Nat} (h:w∈spl 32 cs) (e:isEn w=false):isHp cs=false:=by
 have q:(spl 32 cs).all isEn=false:=by
  rw [List.all_eq_false]
  exact ⟨w,h,by simp [e]⟩
 unfold isHp
 rw [q]
 rfl
theorem BX {cs u v:List Nat} (hu:u∈spl 32 cs) (hv:v∈spl 32 cs) (h:wid u≠wid v):isHp cs=false:=by
 have q:((spl 32 cs).all fun w=>decide (wid w=wid ((spl 32 cs).headD [])))=false:=by
  cases ha:((spl 32 cs).all fun w=>decide (wid w=wid ((spl 32 cs).headD []))) with
  |false=>rfl
  |true=>
   have h1:=of_decide_eq_true (List.all_eq_true.mp ha u hu)
   have h2:=of_decide_eq_true (List.all_eq_true.mp ha v hv)
   exact absurd (h1.trans h2.symm) h
 unfold isHp
 rw [q,Bool.and_false]
theorem gm {cs:List Nat} (h:(spl 42 cs).length≠2):isEn cs=false:=by
 unfold isEn
 split
 ·next e=>rw [e] at h;exact absurd rfl h
 ·rfl
theorem iB {a b:List Nat} (ha:42∉a) (hb:42∉b):spl 42 (a++42::b)=[a,b]:=by rw [bw,bx ha,bx hb];rfl
theorem gn {a b:List Nat} (ha:42∉a) (hb:42∉b) (h:isRw a=false):isEn (a++42::b)=false:=by
 rw [eZ (iB ha hb),h,Bool.false_and,Bool.and_false]
theorem e6 {a b:List Nat} (ha:42∉a) (hb:42∉b) (h:isNu b=false):isEn (a++42::b)=false:=by
 rw [eZ (iB ha hb),h,Bool.and_false,Bool.and_false]
theorem jV (u:List Nat):isEn (u++[42])=false:=by
 have e:spl 42 (u++[42])=spl 42 u++[[]]:=bw 42 [] u
 obtain ⟨a,as,ea⟩:=cE 42 u
 rw [ea] at e
 cases as with
 |nil=>rw [eZ e,show isNu []=false from rfl,Bool.and_false,Bool.and_false]
 |cons b bs=>exact gm (by rw [e];simp)
theorem gp {cs e:List Nat} (he:e∈spl 44 cs) (h:isNu e=false):isRw cs=false:=by
 have q:(spl 44 cs).all isNu=false:=by
  rw [List.all_eq_false]
  exact ⟨e,he,by simp [h]⟩
 unfold isRw
 rw [q,Bool.and_false]
theorem sf {w:List Nat}{c:Nat} (hc:c∈w) (h:fig c=false) (n1:c≠42) (n2:c≠44) (n3:c≠45):isEn w=false:=by
 by_cases h2:(spl 42 w).length=2
 ·obtain ⟨a,b,e⟩:=len2 h2
  rw [eZ e]
  obtain ⟨p,hp,cp⟩:=iu n1 hc
  rw [e] at hp
  simp only [List.mem_cons,List.not_mem_nil,or_false] at hp
  rcases hp with rfl|rfl
  ·obtain ⟨q,hq,cq⟩:=iu n2 cp
   rw [gp hq (rM cq h n3),Bool.false_and,Bool.and_false]
  ·rw [rM cp h n3,Bool.and_false,Bool.and_false]
 ·exact gm h2
theorem BY {cs:List Nat}{c:Nat} (hc:c∈cs) (h:fig c=false) (n0:c≠32) (n1:c≠42) (n2:c≠44) (n3:c≠45):isHp cs=false:=by
 obtain ⟨w,hw,cw⟩:=iu n0 hc
 exact iA hw (sf cw h n1 n2 n3)
structure D (d:List Nat):Prop where
 ne:d≠[]
 fg: ∀c∈d,48<=c/\c<=57
 h0:d.head?≠some 48
 l:d.length<=3
theorem D.nu {d:List Nat} (h:D d):isNu d=true:=by
 have h1:=List.length_pos_iff.mpr h.ne
 have hn: ¬(d.head?=some 45):=fun z=>by have:=h.fg 45 (List.mem_of_head? z);lia
 unfold isNu
 rw [if_neg hn]
 unfold isPl
 have a:d.all fig=true:=List.all_eq_true.mpr fun c hc=>by
  have:=h.fg c hc
  unfold fig
  rw [decide_eq_true this.1,decide_eq_true this.2]
  rfl
 rw [decide_eq_true (show 1<=d.length by lia),decide_eq_true (show d.length<=60 by have:=h.l;lia),decide_eq_false h.h0,a]
 rfl
theorem D.free {d:List Nat} (h:D d) {c:Nat} (hc:c<48):c∉d:=fun z=>by have:=h.fg c z;lia
structure R (r:List Nat) (L:List (List Nat)):Prop where
 e:r=jn 44 L
 ne:L≠[]
 l8:L.length<=8
 d: ∀d∈L,D d
theorem jn_mem {c x:Nat}: ∀{L:List (List Nat)},x∈jn c L->x=c \/ ∃w∈L,x∈w
 |[v],h=> .inr ⟨v,by simp,h⟩
 |v::u::r,h=>by
  rw [gh (by simp)] at h
  rcases List.mem_append.mp h with h|h
  ·exact .inr ⟨v,by simp,h⟩
  ·rcases List.mem_cons.mp h with h|h
   ·exact .inl h
   ·rcases jn_mem h with h|⟨w,hw,h⟩
    ·exact .inl h
    ·exact .inr ⟨w,.tail _ hw,h⟩
theorem R.cs {r:List Nat}{L:List (List Nat)} (h:R r L): ∀c∈r,c=44 \/(48<=c/\c<=57):=fun c hc=>by
 rw [h.e] at hc
 rcases jn_mem hc with hc|⟨w,hw,hc⟩
 ·exact .inl hc
 ·exact .inr ((h.d w hw).fg c hc)
theorem R.spl {r:List Nat}{L:List (List Nat)} (h:R r L):K58.spl 44 r=L:=by
 rw [h.e]
 exact mD h.ne fun w hw=>(h.d w hw).free (by decide)
theorem R.free {r:List Nat}{L:List (List Nat)} (h:R r L) {c:Nat} (hc:c<48) (h4:c≠44):c∉r:=fun z=>by
 have:=h.cs c z
 lia
theorem mG {c:Nat}{l x:List Nat}: ∀I:List (List Nat),jn c (I++[l])++x=jn c (I++[l++x])
 |[]=>rfl
 |[a]=>by
  show (a++c::l)++x=a++c::(l++x)
  rw [List.append_assoc]
  rfl
 |a::b::I=>by
  have ih:=mG (c:=c) (l:=l) (x:=x) (b::I)
  show (a++c::jn c ((b::I)++[l]))++x=a++c::jn c ((b::I)++[l++x])
  rw [List.append_assoc,List.cons_append,ih]
theorem BZ {d x:List Nat} (h:d≠[]):(d++x).head?=d.head?:=by
 cases d with
 |nil=>exact absurd rfl h
 |cons a r=>rfl
theorem D.tail {d x:List Nat} (h:D d) (hp:isPl (d++x)=false):isNu (d++x)=false:=by
 unfold isNu
 rw [BZ h.ne,if_neg fun z=>by have:=h.fg 45 (List.mem_of_head? z);lia]
 exact hp
theorem bh {o:List Nat} (h:32∉o) (e:isEn o=false): ∃u∈spl 32 o,isEn u=false:=⟨o,by rw [bx h];simp,e⟩
theorem sg {u v:List Nat} (h:32∉u) (e:isEn u=false): ∃p∈spl 32 (u++32::v),isEn p=false:=⟨u,by rw [bw,bx h];simp,e⟩
theorem B3 {cs:List Nat} (h:60<cs.length):isPl cs=false:=by
 unfold isPl
 rw [decide_eq_false (show¬cs.length<=60 by lia),Bool.and_false,Bool.false_and]
theorem B5 {r w:List Nat}{L:List (List Nat)} (hr:R r L) (hw:D w): ∀(k:Nat),k<25->k≠13-> ∃u∈spl 32 ((O25 r w (r++42::w)).getD k []),isEn u=false:=by
 have r42:=hr.free (c:=42) (by decide) (by decide)
 have r32:=hr.free (c:=32) (by decide) (by decide)
 have w42:=hw.free (c:=42) (by decide)
 have w32:=hw.free (c:=32) (by decide)
 have w44:=hw.free (c:=44) (by decide)
 have sr:=hr.spl
 intro k hk hn
 match k,hk,hn with
 |0,_,_=>exact bh (o:=r++[42,48]) (by simp [r32]) (by rw [eZ (iB r42 (by decide))];rfl)
 |1,_,_=>exact bh (o:=r++[42]) (by simp [r32]) (jV r)
 |2,_,_=>exact bh (o:=r) r32 (gm (by rw [bx r42];simp))
 |3,_,_=>exact bh (o:=42::w) (by simp [w32]) (gn (a:=[]) (by simp) w42 rfl)
 |4,_,_=>exact bh (o:=r++[42]++w++[42]++w) (by simp [r32,w32]) (gm (by
   have e:r++[42]++w++[42]++w=r++42::(w++42::w):=by simp
   rw [e,bw,bw,bx r42,bx w42]
   simp))
 |5,_,_=>exact bh (o:=r++[42,42]++w) (by simp [r32,w32]) (gm (by
   have e:r++[42,42]++w=r++42::([]++42::w):=by simp
   rw [e,bw,bw,bx r42,bx w42]
   show ([r]++([[]]++[w])).length≠2
   simp))
 |6,_,_=>exact bh (o:=r++[42,43,49]) (by simp [r32]) (e6 r42 (by decide) (by decide))
 |7,_,_=>exact bh (o:=r++[42,48,49]) (by simp [r32]) (e6 r42 (by decide) (by decide))
 |8,_,_=>exact bh (o:=r++[42,45,48]) (by simp [r32]) (e6 r42 (by decide) (by decide))
 |9,_,_=>
  have e:r++[42,32,49]=(r++[42])++32::[49]:=by simp
  show∃u∈spl 32 (r++[42,32,49]),isEn u=false
  rw [e]
  exact sg (by simp [r32]) (jV r)
 |10,_,_=>exact bh (o:=r++[42,49,46,48]) (by simp [r32]) (e6 r42 (by decide) (by decide))
 |11,_,_=>exact bh (o:=r++[42,49,95,48]) (by simp [r32]) (e6 r42 (by decide) (by decide))
 |12,_,_=>
  refine bh (o:=r++[42]++List.replicate 61 57) (by simp [r32]) ?_
  rw [List.append_assoc]
  exact e6 r42 (by simp) (by decide)
 |14,_,_=>
  refine bh (o:=r++[44,42]++w) (by simp [r32,w32]) ?_
  have e:r++[44,42]++w=(r++[44])++42::w:=by simp
  rw [e]
  exact gn (by simp [r42]) w42 (gp (e:=[]) (by rw [show r++[44]=r++44::[] from rfl,bw];simp [spl]) rfl)
 |15,_,_=>
  refine bh (o:=[44]++r++[42]++w) (by simp [r32,w32]) ?_
  have e:[44]++r++[42]++w=(44::r)++42::w:=by simp
  rw [e]
  exact gn (by simp [r42]) w42 (gp (e:=[]) (by rw [dq];simp) rfl)
 |16,_,_=>
  refine bh (o:=[48]++r++[42]++w) (by simp [r32,w32]) ?_
  have e:[48]++r++[42]++w=(48::r)++42::w:=by simp
  rw [e]
  obtain ⟨d,ds,ed⟩:=cE 44 r
  have hd:D d:=hr.d d (by rw [<-sr,ed];simp)
  refine gn (by simp [r42]) w42 (gp (e:=48::d) (by rw [eB (by decide) ed];simp) ?_)
  show isPl (48::d)=false
  unfold isPl
  have ne: ¬(48::d=[48]):=fun z=>hd.ne (List.cons.inj z).2
  rw [decide_eq_false ne,decide_eq_true (show (48::d).head?=some 48 from rfl)]
  simp
 |17,_,_=>
  refine bh (o:=r++[45,42]++w) (by simp [r32,w32]) ?_
  have e:r++[45,42]++w=(r++[45])++42::w:=by simp
  rw [e]
  obtain ⟨I,l,el⟩: ∃I l,L=I++[l]:=⟨L.dropLast,L.getLast hr.ne,(List.dropLast_concat_getLast hr.ne).symm⟩
  have hl:D l:=hr.d l (by rw [el];simp)
  have ej:r++[45]=jn 44 (I++[l++[45]]):=by rw [hr.e,el,mG]
  refine gn (by simp [r42]) w42 ?_
  rw [ej]
  refine gp (e:=l++[45]) ?_ (hl.tail (mz (c:=45) (by simp) rfl))
  rw [mD (by simp) fun x hx=> ?_]
  ·simp
  ·rcases List.mem_append.mp hx with hx|hx
   ·exact (hr.d x (by rw [el];simp [hx])).free (by decide)
   ·rw [List.mem_singleton.mp hx]
    have:=hl.free (c:=44) (by decide)
    simp [this]
 |18,_,_=>exact ⟨[],by simp [O25,spl],rfl⟩
 |19,_,_=>exact ⟨[45,42,49],by simp [O25,spl],by decide⟩
 |20,_,_=>exact bh (o:=r++[42,45,45,49]) (by simp [r32]) (e6 r42 (by decide) (by decide))
 |21,_,_=>
  have e:r++[42,32]++w=(r++[42])++32::w:=by simp
  show∃u∈spl 32 (r++[42,32]++w),isEn u=false
  rw [e]
  exact sg (by simp [r32]) (jV r)
 |22,_,_=>
  refine bh (o:=w++List.replicate 61 57++[42,49]) (by simp [w32]) ?_
  have e:w++List.replicate 61 57++[42,49]=(w++List.replicate 61 57)++42::[49]:=rfl
  rw [e]
  refine gn (by simp [w42]) (by decide) (gp (e:=w++List.replicate 61 57) ?_ (hw.tail (B3 (by simp))))
  rw [bx (by simp [w44])]
  simp
 |23,_,_=>
  refine bh (o:=r++42::w++[10]) (by simp [r32,w32]) ?_
  exact sf (c:=10) (by simp) rfl (by decide) (by decide) (by decide)
 |24,_,_=>exact ⟨[49,44,50,44,51,44,52,44,53,44,54,44,55,44,56,44,57,42,49],(show _∈spl 32 [49,44,50,44,51,44,52,44,53,44,54,44,55,44,56,44,57,42,49] by decide),by decide⟩
 |k+25,h,_=>exact absurd h (by lia)
theorem B6 {r w:List Nat}{L:List (List Nat)} (hr:R r L) (hw:D w): ∃u∈spl 32 ((O25 r w (r++42::w)).getD 13 []),wid u=L.length+1:=by
 have r42:=hr.free (c:=42) (by decide) (by decide)
 have r32:=hr.free (c:=32) (by decide) (by decide)
 have w42:=hw.free (c:=42) (by decide)
 have w32:=hw.free (c:=32) (by decide)
 refine ⟨r++[44,49,42]++w,?_,?_⟩
 ·show _∈spl 32 (r++[44,49,42]++w)
  rw [bx (by simp [r32,w32])]
  simp
 ·have e:r++[44,49,42]++w=(r++[44,49])++42::w:=by simp
  rw [e]
  unfold wid
  rw [iB (by simp [r42]) w42]
  show (spl 44 (r++44::[49])).length=_
  rw [bw,hr.spl]
  simp [spl]
theorem B7 {r w:List Nat}{L:List (List Nat)} (hr:R r L) (hw:D w):wid (r++42::w)=L.length:=by
 unfold wid
 rw [iB (hr.free (by decide) (by decide)) (hw.free (by decide))]
 show (spl 44 r).length=_
 rw [hr.spl]
end K58
set_option maxHeartbeats 1000000
namespace K58
open PySem L2
theorem slT {x:Str}{j:Int} (h0:0<=j) (h1:j<=x.length):(Txt.slice x none (some j)).cps.toList=x.cps.toList.take j.toNat:=by
 have e:Txt.slice x none (some j)=StrLaws.sliceText x none (some j):=rfl
 rw [e,StrLaws.sliceText_to ⟨h0,by rw [aE] at h1;exact h1⟩]
 show (x.cps.toList.drop 0).take (j-0).toNat=_
 rw [List.drop_zero,Int.sub_zero]
theorem slF {x:Str}{j:Int} (h0:0<=j) (h1:j<=x.length):(Txt.slice x (some j) none).cps.toList=x.cps.toList.drop j.toNat:=by
 have e:Txt.slice x (some j) none=StrLaws.sliceText x (some j) none:=rfl
 rw [aE] at h1
 rw [e,StrLaws.sliceText_from ⟨h0,h1⟩]
 show (x.cps.toList.drop j.toNat).take ((x.cps.toList.length:Int)-j).toNat=_
 apply List.take_of_length_le
 rw [List.length_drop]
 lia
noncomputable def SG : Str := Str.ofString "!\"#$&'()+./:;<=>?@ABCDEFGHIJKLMNOPQRSTUVWXYZ[\\]^_`" ++ Str.ofString "abcdefghijklmnopqrstuvwxyz{|}~\n\t"
theorem B8:(SG.cps.toList.all fun c=>decide (c<128)&&(!decide (c=32)&&(!decide (c=42)&&(!decide (c=44)&&(!decide (c=45)&& !fig c)))))=true:=by decide+kernel
theorem si:SG.cps.toList.length=82:=by decide+kernel
theorem B9:eh []=some (.str SG):=by
 have c := jM (a := Str.ofString "!\"#$&'()+./:;<=>?@ABCDEFGHIJKLMNOPQRSTUVWXYZ[\\]^_`") (b := Str.ofString "abcdefghijklmnopqrstuvwxyz{|}~\n\t") (by decide +kernel)
 simp_arith only [eh,qQ,Nat.sub_zero,c]
 all_goals rfl
theorem Ca (i:Int): ∃c,dIxS (.str SG) (.int (i%82))=some (.str (toS [c]))/\c<128/\c≠32/\c≠42/\c≠44/\c≠45/\fig c=false:=by
 obtain ⟨n0,n1⟩:=cZ i 82 (by decide)
 obtain ⟨c,hc,ec⟩:=o9 (xs:=SG.cps.toList) n0 (by rw [si];exact n1)
 have:=List.all_eq_true.mp B8 c hc
 simp only [Bool.and_eq_true,Bool.not_eq_true',decide_eq_true_eq,decide_eq_false_iff_not] at this
 refine ⟨c,?_,this⟩
 show (if SG.length<=100000 then (atI SG.cps.toList (i%82)).map _ else none)=_
 rw [if_pos (by rw [aE,si];decide),ec]
 rfl
structure Hq (h:Hl) (wd:Nat):Prop where
 ne:h≠[]
 l4:h.length<=4
 w1:1<=wd
 w8:wd<=8
 lw: ∀p∈h,p.1.length=wd
 rx: ∀p∈h,∀x∈p.1,1<=x/\x<=99
 wx: ∀p∈h,1<=p.2/\p.2<=9
noncomputable def nd (n:Int):List Nat:=(sN n).cps.toList
noncomputable def rp (p:List Int×Int):List Nat:=(rt p.1).cps.toList
noncomputable def wp (p:List Int×Int):List Nat:=rp p++42::nd p.2
theorem nd_D {n:Int} (h1:1<=n) (h2:n<=99):D (nd n):=by
 have b:n.natAbs<10^2:=by show n.natAbs<100;lia
 obtain ⟨ds,a1,a2,a3,a4,a5⟩:=iq n
 have l2:=a4 2 (by decide) b
 rcases a5 with ⟨e1,e2⟩|⟨e0,e1,e2⟩
 ·unfold nd
  rw [e2]
  refine ⟨by rw [bd];simpa using a1,fun c hc=>by have:=dN a2 c hc;lia,fun z=> ?_,by rw [bd,List.length_map];lia⟩
  rw [bd] at z
  cases ds with
  |nil=>cases z
  |cons d r=>
   have d0:d=0:=by
    have:some (d+48)=some 48:=z
    have:=Option.some.inj this
    lia
   subst d0
   cases r with
   |nil=>exact absurd e1 (by show n≠(((0:Nat)*10+0:Nat):Int);lia)
   |cons _ _=>exact a3 (by simp) rfl
 ·lia
theorem rp_R {h:Hl}{wd:Nat} (H:Hq h wd) {p:List Int×Int} (hp:p∈h):R (rp p) (p.1.map nd):=by
 have lw:=H.lw p hp
 refine ⟨?_,?_,by rw [List.length_map,lw];exact H.w8,fun d hd=> ?_⟩
 ·unfold rp rt
  rw [jT,List.map_map]
  rfl
 ·intro z
  rw [List.map_eq_nil_iff] at z
  rw [z] at lw
  have:=H.w1
  simp at lw
  lia
 ·obtain ⟨n,hn,rfl⟩:=List.mem_map.mp hd
  have:=H.rx p hp n hn
  exact nd_D this.1 this.2
theorem nd_w {h:Hl}{wd:Nat} (H:Hq h wd) {p:List Int×Int} (hp:p∈h):D (nd p.2):=by
 have:=H.wx p hp
 exact nd_D this.1 (by lia)
theorem jW {c m:Nat}: ∀{L:List (List Nat)},(∀w∈L,w.length<=m)->(jn c L).length<=L.length*(m+1)
 |[],_=>by simp [jn]
 |[x],h=>by
  have:=h x (.head _)
  show x.length<=1*(m+1)
  lia
 |x::y::r,h=>by
  have h1:=h x (.head _)
  have h2:=jW (c:=c) (L:=y::r) fun z hz=>h z (.tail _ hz)
  rw [gh (by simp),List.length_append,List.length_cons,List.length_cons (a:=x),Nat.succ_mul]
  lia
theorem R.len {r:List Nat}{L:List (List Nat)} (h:R r L):r.length<=32:=by
 have:=jW (c:=44) (L:=L) fun w hw=>(h.d w hw).l
 have:=h.l8
 rw [h.e]
 lia
theorem et_l (p:List Int×Int):(et p).cps.toList=wp p:=by
 unfold et
 rw [bc,bc,List.append_assoc]
 rfl
theorem et_S (p:List Int×Int):et p=toS (wp p):=by rw [<-et_l,jN]
theorem ht_l (h:Hl):(ht h).cps.toList=jn 32 (h.map wp):=by
 unfold ht
 rw [jT,List.map_map]
 congr 1
 exact List.map_congr_left fun p _=>et_l p
theorem mH {h:Hl}{wd:Nat} (H:Hq h wd) {p:List Int×Int} (hp:p∈h): ∀c∈wp p,c=42 \/c=44 \/(48<=c/\c<=57):=fun c hc=>by
 unfold wp at hc
 rcases List.mem_append.mp hc with q|q
 ·exact .inr ((rp_R H hp).cs c q)
 ·rcases List.mem_cons.mp q with q|q
  ·exact .inl q
  ·exact .inr (.inr ((nd_w H hp).fg c q))
theorem gq {h:Hl}{wd:Nat} (H:Hq h wd) {p:List Int×Int} (hp:p∈h):(wp p).length<=36:=by
 have:=(rp_R H hp).len
 have:=(nd_w H hp).l
 unfold wp
 rw [List.length_append,List.length_cons]
 lia
theorem Cb {h:Hl}{wd:Nat} (H:Hq h wd) {p:List Int×Int} (hp:p∈h):32∉wp p:=fun z=>by
 have:=mH H hp 32 z
 lia
theorem cs_b {h:Hl}{wd:Nat} (H:Hq h wd):(∀c∈jn 32 (h.map wp),c<128)/\(jn 32 (h.map wp)).length<=148/\42∈jn 32 (h.map wp):=by
 refine ⟨fun c hc=> ?_,?_,?_⟩
 ·rcases jn_mem hc with q|⟨w,hw,q⟩
  ·lia
  ·obtain ⟨p,hp,rfl⟩:=List.mem_map.mp hw
   have:=mH H hp c q
   lia
 ·have:=jW (c:=32) (m:=36) (L:=h.map wp) fun w hw=>by
   obtain ⟨p,hp,rfl⟩:=List.mem_map.mp hw
   exact gq H hp
  rw [List.length_map] at this
  have:=H.l4
  lia
 ·cases h with
  |nil=>exact absurd rfl H.ne
  |cons p r=>exact jO (w:=wp p) (by simp) (by unfold wp;simp)
noncomputable def pr (p:List Int×Int):Dv:= .tup [.str (rt p.1),.str (sN p.2)]
theorem rt_S (p:List Int×Int):rt p.1=toS (rp p):=(jN _).symm
theorem sN_S (n:Int):sN n=toS (nd n):=(jN _).symm
theorem sk {m:Nat}: ∀(L:List (List Nat)),(∀w∈L,w.length<=m)->((L.map toS).map (·.length)).sum<=L.length*m
 |[],_=>by simp
 |t::L,h=>by
  have:=sk L fun x hx=>h x (.tail _ hx)
  have h1:=h t (.head _)
  rw [List.map_cons,List.map_cons,List.sum_cons,List.length_cons,Nat.succ_mul,aE,bP]
  lia
theorem dj {L:List (List Nat)} (hl:L.length<=100) (h: ∀w∈L,w.length<=1000):bN (.str (Str.ofString " ")) (dS L)=some (.str (toS (jn 32 L))):=by
 have e:dS L= .lst ((L.map toS).map .str):=by rw [List.map_map];rfl
 have s:=sk L h
 rw [lb,e,lZ (by rw [List.length_map];show _+L.length*1<=_;lia)]
 exact congrArg (fun t=>some (Dv.str t)) (aD (by rw [jT,mE];rfl))
theorem iC {t:Dt->Option Bool}{a b c:SM}{δ δ':Dt}{d:Dv} (h:t δ=some true) (ha:a δ=some (.rt d δ')):sSeq (sIf t a b) c δ=some (.rt d δ'):=by
 unfold sSeq sIf
 rw [h]
 show ((a δ).bind _)=_
 rw [ha]
 rfl
theorem cP {t:Dt->Option Bool}{a c:SM}{δ:Dt} (h:t δ=some false):sSeq (sIf t a av) c δ=c δ:=by
 unfold sSeq sIf
 rw [h]
 rfl
theorem gr {m:EM}{δ:Dt}{d:Dv} (h:m δ=some d):sRet m δ=some (.rt d δ):=by
 unfold sRet
 rw [h]
 rfl
theorem mI {f:Dv->Dv->Option Dv}{a b:EM}{δ:Dt}{x y:Dv} (ha:a δ=some x) (hb:b δ=some y):eOp f a b δ=f x y:=by
 show (a δ).bind (fun x=>(b δ).bind fun y=>f x y)=_
 rw [ha,hb]
 rfl
theorem mJ {h:Hl}{wd:Nat} (H:Hq h wd):bb (gT 2 (gC (gN 0) (gC (gN 1) gZ))) tyes dJ [none,none] (h.map pr)=some ((h.map wp).map fun w=> .str (toS w)):=by
 rw [List.map_map]
 refine cY (g:=gT 2 (gC (gN 0) (gC (gN 1) gZ))) (c:=tyes) (el:=dJ) (δ:=[none,none]) pr _ h fun p hp=> ?_
 have l1:=(rp_R H hp).len
 have l2:=(nd_w H hp).l
 have e:dJ [some (.str (toS (rp p))),some (.str (toS (nd p.2)))]=some (.str (toS (wp p))):=by
  have t:=ar (ar (δ:=[some (.str (toS (rp p))),some (.str (toS (nd p.2)))]) (ma:=eVar 0) (n:=32) ⟨rfl,l1⟩ (ay "*" [42]) (by decide)) (mb:=eVar 1) (k:=3) ⟨rfl,l2⟩ (by decide)
  unfold dJ
  rw [t.1,List.append_assoc]
  rfl
 show celM _ _ _ _ (.tup [.str (rt p.1),.str (sN p.2)])=_
 rw [rt_S,sN_S]
 simp_arith only [e,Function.comp_apply]
noncomputable def CL:SM:=(sSet 2 (eOp dMod (eVar 1) (ah fLen (aa (eVar 0) aNil))))
noncomputable def ss:SM:=(sSeq (sUnp (eOp dIx (eVar 0) (eVar 2)) (gT 2 (gC (gN 5) (gC (gN 6) gZ)))) (sSeq (sSet 7 (aS [none,none] (iL (eVar 0)) (gT 2 (gC (gN 0) (gC (gN 1) gZ))) tyes dJ)) (sSeq (hJ 7 (eVar 2) (ah eY (aa (eVar 5) (aa (eVar 6) (aa (eVar 3) (aa (eOp dIx (eVar 7) (eVar 2)) aNil)))))) (sSeq (sIf (tand (tOf (eOp dEq (ah fLen (aa (eVar 7) aNil)) (eC (.int 1)))) (tor (tOf (eOp dEq (eVar 3) (eC (.int 13)))) (tOf (eOp dEq (eVar 3) (eC (.int 18)))))) (sRet (eOp ae (eOp ae (eC (.str "1*1 ")) (eOp dIx (eVar 7) (eC (.int 0)))) (eC (.str ",1*1")))) av) (sRet (eOp bN (eC (.str " ")) (eVar 7)))))))
noncomputable def su:SM:=(sRet (eOp dIx (ba (aa (eOp ae (eVar 4) (eC (.str " "))) (aa (eOp ae (eC (.str " ")) (eVar 4)) (aa (eUn (fL "*" "* ") (eVar 4)) aNil)))) (eOp dSub (eVar 3) (eC (.int 25)))))
noncomputable def sv:SM:=(sSeq (sSet 8 (eOp dMod (eOp dDiv (eVar 1) (eC (.int 200))) (eOp dAdd (ah dg (aa (eVar 4) aNil)) (eC (.int 1))))) (sRet (eOp ae (eOp ae (jB (eVar 4) cr (bX (eVar 8))) (eOp dIxS (ah eh aNil) (eOp dMod (eOp dDiv (eVar 1) (eC (.int 7000))) (eC (.int 82))))) (eS (eVar 4) (bX (eVar 8)) cr))))
noncomputable def b_sp:SM:=(sSeq (sIf (tOf (eOp dLt (eVar 3) (eC (.int 25)))) ss av) (sSeq (sIf (tOf (eOp dLt (eVar 3) (eC (.int 28)))) su av) (sSeq (sIf (tOf (eOp dLt (eVar 3) (eC (.int 32)))) sv av) (sSeq (sIf (tOf (eOp dEq (eVar 3) (eC (.int 32)))) (sRet (eOp ae (eOp ae (eVar 4) (eC (.str "  "))) (eVar 4))) av) (sRet (eOp dIx (eLst (aa (eC .non) (aa (eC (.bl true)) (aa (eC (.int 5)) (aa (eTup (aa (eC (.int 1)) (aa (eC (.int 2)) aNil))) (aa (ba (aa (eVar 4) aNil)) (aa (ju (eVar 4) (eC (.int 1))) (aa (eC (.bl false)) (aa (ba aNil) (aa (eUn dNeg (eC (.int 1))) aNil)))))))))) (eOp dMod (eOp dDiv (eVar 1) (eC (.int 200))) (eC (.int 9)))))))))
noncomputable abbrev dlt (h:Hl) (z a y:Int) (cs:List Nat) (v5 v6 v7 v8:Option Dv):Dt:=[some (.lst (h.map pr)),some (.int z),some (.int a),some (.int y),some (.str (toS cs)),v5,v6,v7,v8]
theorem sp0 {h:Hl}{wd:Nat} (H:Hq h wd) (z:Int) {d:Dv}{δ':Dt} (hb:b_sp (dlt h z (z%(h.length:Int)) (z/4%34) (jn 32 (h.map wp)) none none none none)=some (.rt d δ')):M_w_spoiled [.lst (h.map pr),.int z]=some d:=by
 have lp:0<h.length:=List.length_pos_iff.mpr H.ne
 have l4:=H.l4
 have cw:=mJ H
 have jd:=dj (L:=h.map wp) (by rw [List.length_map];lia) fun w hw=>by
  obtain ⟨p,hp,rfl⟩:=List.mem_map.mp hw
  have:=gq H hp
  lia
 have hl':h.length<=100000:=by lia
 have dm:=kK (i:=z) (j:=(h.length:Int)) (by lia)
 refine sd (δ:=δ') (δ0:=[some (.lst (h.map pr)),some (.int z),none,none,none,none,none,none,none]) rfl rfl ?_
 have e1:(eOp dMod (eVar 1) (ah fLen (aa (eVar 0) aNil))) [some (.lst (h.map pr)),some (.int z),none,none,none,none,none,none,none]=some (.int (z%(h.length:Int))):=by simp_arith only [hl',dm]
 have e2:(eOp dMod (eOp dDiv (eVar 1) (eC (.int 4))) (eC (.int 34))) [some (.lst (h.map pr)),some (.int z),some (.int (z%(h.length:Int))),none,none,none,none,none,none]=some (.int (z/4%34)):=by simp_arith only [dZ]
 have e3:(eOp bN (eC (.str " ")) (aS [none,none] (iL (eVar 0)) (gT 2 (gC (gN 0) (gC (gN 1) gZ))) tyes dJ)) [some (.lst (h.map pr)),some (.int z),some (.int (z%(h.length:Int))),some (.int (z/4%34)),none,none,none,none,none]=some (.str (toS (jn 32 (h.map wp)))):=by simp_arith only [hl',cw,jd]
 show sSeq (sSet 2 _) (sSeq (sSet 3 _) (sSeq (sSet 4 _) b_sp)) _=_
 rw [dt e1]
 show sSeq (sSet 3 _) (sSeq (sSet 4 _) b_sp) [some (.lst (h.map pr)),some (.int z),some (.int (z%(h.length:Int))),none,none,none,none,none,none]=_
 rw [dt e2]
 show sSeq (sSet 4 _) b_sp [some (.lst (h.map pr)),some (.int z),some (.int (z%(h.length:Int))),some (.int (z/4%34)),none,none,none,none,none]=_
 rw [dt e3]
 exact hb
end K58
set_option maxHeartbeats 1000000
namespace K58
open PySem L2
theorem ls2:(Str.ofString "* ").cps.toList=[42,32]:=by decide+kernel
theorem ls1:(Str.ofString "*").cps.toList=[42]:=by decide+kernel
theorem sx {y A B:Str}:(Builtin.Str.glued y [A,B]).cps.toList=A.cps.toList++(y.cps.toList++B.cps.toList):=by
 show ((A.cps++y.cps)++B.cps).toList=_
 simp
theorem Cc {cs:List Nat} (h:42∈cs) (hl:cs.length<=900): ∃a b,cs=a++42::b/\fL (Str.ofString "*") (Str.ofString "* ") (.str (toS cs))=some (.str (toS (a++42::32::b))):=by
 obtain ⟨a0,b0,e0⟩:=List.append_of_mem h
 have l1:(Str.ofString "*").length=1:=by rw [aE,ls1];rfl
 have fd:(!(Builtin.Str.occurrences (toS cs) (Str.ofString "*") 0 (toS cs).length 1).isEmpty)=true:=by
  rw [StrLaws.found_iff]
  refine ⟨a0.length,?_,?_⟩
  ·rw [l1,aE,bP,e0,List.length_append,List.length_cons]
   lia
  ·rw [StrLaws.subAt_eq,l1,ls1,bP,e0]
   simp
 have ol:=StrLaws.occ_length_le (toS cs) (Str.ofString "*") 0 (toS cs).length 1
 have gs:=StrLaws.glued_between_self (toS cs) (Str.ofString "*") 1
 have pl:=length_partsBetween (toS cs) (Builtin.Str.occurrences (toS cs) (Str.ofString "*") 0 (toS cs).length 1) (Str.ofString "*").length
 have hn:Builtin.Str.occurrences (toS cs) (Str.ofString "*") 0 (toS cs).length 1≠[]:=fun z=>by rw [z] at fd;cases fd
 have ol1:(Builtin.Str.occurrences (toS cs) (Str.ofString "*") 0 (toS cs).length 1).length=1:=by
  have:=List.length_pos_iff.mpr hn
  lia
 rw [ol1] at pl
 have rp:fK (toS cs) (Str.ofString "*") (Str.ofString "* ")=Builtin.Str.glued (Str.ofString "* ") (Builtin.Str.partsBetween (toS cs) (Builtin.Str.occurrences (toS cs) (Str.ofString "*") 0 (toS cs).length 1) (Str.ofString "*").length):=by
  unfold fK
  rw [if_neg]
  rw [l1]
  simp only [Bool.not_eq_true',] at fd
  rw [fd]
  decide
 obtain ⟨A,B,eAB⟩:=len2 pl
 rw [eAB] at gs rp
 have e1:cs=A.cps.toList++42::B.cps.toList:=by
  have:=congrArg (fun t:Str=>t.cps.toList) gs
  simp only [sx,ls1,bP] at this
  exact this.symm
 refine ⟨A.cps.toList,B.cps.toList,e1,?_⟩
 have e2:fK (toS cs) (Str.ofString "*") (Str.ofString "* ")=toS (A.cps.toList++42::32::B.cps.toList):=aD (by rw [rp,sx,ls2];rfl)
 show (if (Str.ofString "*"==Str.ofString "* ")=false/\(toS cs).length+(Str.ofString "* ").length<=lim then _ else none)=_
 rw [if_pos ⟨by decide+kernel,by rw [aE,aE,bP,ls2];show cs.length+2<=100000;lia⟩,e2]
theorem Cd (a b:List Nat): ∃u∈spl 32 (a++42::32::b),isEn u=false:=by
 obtain ⟨I,l,e⟩: ∃I l,spl 32 a=I++[l]:=by
  obtain ⟨w,ws,e⟩:=cE 32 a
  exact ⟨(spl 32 a).dropLast,(spl 32 a).getLast (by rw [e];simp),(List.dropLast_concat_getLast (by rw [e];simp)).symm⟩
 have fr:=mB 32 a
 rw [e] at fr
 have ej:a++[42]=jn 32 (I++[l++[42]]):=by rw [<-mG,<-e,gi]
 have e2:a++42::32::b=(a++[42])++32::b:=by simp
 refine ⟨l++[42],?_,jV l⟩
 rw [e2,bw,ej,mD (by simp) fun x hx=> ?_]
 ·simp
 ·rcases List.mem_append.mp hx with hx|hx
  ·exact fr x (by simp [hx])
  ·rw [List.mem_singleton.mp hx]
   have:=fr l (by simp)
   simp [this]
theorem Ce {d:Dv} (h0:d.isScr=false) (h:isiN (tyN d) "str"=false):bo [d]=true:=by
 have q:(tnot (tOf (eIsi "str" (eVar 0)))) [some d,none]=some true:=by
  simp [tnot,tOf,eIsi,eVar,h0,h,fu]
 have e:ij [some d,none]=true:=jR q rfl
 unfold bo bZ lT
 rw [show aX 2 [d]=[some d,none] from rfl]
 show (decide (1=1)&&(ij [some d,none]||ik [some d,none]||io [some d,none]))=true
 rw [e]
 rfl
section
variable {h:Hl}{wd:Nat}{z a y:Int}{cs:List Nat}
theorem lt_t {n:Int} (hy:y<n):(tOf (eOp dLt (eVar 3) (eC (.int n)))) (dlt h z a y cs none none none none)=some true:=by
 show some (decide (y<n))=_
 rw [decide_eq_true hy]
theorem lt_f {n:Int} (hy: ¬y<n):(tOf (eOp dLt (eVar 3) (eC (.int n)))) (dlt h z a y cs none none none none)=some false:=by
 show some (decide (y<n))=_
 rw [decide_eq_false hy]
theorem eq_y {n:Int}:(tOf (eOp dEq (eVar 3) (eC (.int n)))) (dlt h z a y cs none none none none)=some (decide (y=n)):=by
 simp_arith only [dZ]
theorem mK {cs cs':List Nat} (h:[]∈spl 32 cs'):isHp cs'=false:=iA h rfl
theorem sp_B (b1: ∀c∈cs,c<128) (b2:cs.length<=200) (b3:42∈cs) (y0:25<=y) (y1:y<28): ∃cs',b_sp (dlt h z a y cs none none none none)=some (.rt (.str (toS cs')) (dlt h z a y cs none none none none))/\bo [.str (toS cs')]=true:=by
 obtain ⟨u,v,e0,er⟩:=Cc b3 (by lia)
 have lr:(u++42::32::v).length=cs.length+1:=by rw [e0];simp;lia
 have tl:TL (aa (eOp ae (eVar 4) (eC (.str " "))) (aa (eOp ae (eC (.str " ")) (eVar 4)) (aa (eUn (fL "*" "* ") (eVar 4)) aNil))) (dlt h z a y cs none none none none) [cs++[32],[32]++cs,u++42::32::v]:=
  aH (ar (n:=200) ⟨rfl,b2⟩ (ay " " [32]) (by decide)) (aH (ar (ay " " [32]) (k:=200) ⟨rfl,b2⟩ (by decide)) (aH (n:=201) ⟨er,by lia⟩ gk))
 have tI:=tl_I tl (show 3<=1000 by decide)
 have ix:=at_S (L:=[cs++[32],[32]++cs,u++42::32::v]) (z:=y-25) (by lia) (by show y-25<3;lia)
 refine ⟨[cs++[32],[32]++cs,u++42::32::v].getD (y-25).toNat [],?_,?_⟩
 ·unfold b_sp
  rw [cP (lt_f (by lia))]
  refine iC (lt_t y1) ?_
  unfold su
  refine gr ?_
  rw [mI tI (y:= .int (y-25)) rfl]
  exact ix
 ·have hk:(y-25).toNat=0 \/(y-25).toNat=1 \/(y-25).toNat=2:=by lia
  rcases hk with hk|hk|hk<;>rw [hk]
  ·refine e5 (cs:=cs++[32]) (fun c hc=> ?_) (by rw [List.length_append];show _+1<=_;lia) (by simp) (mK (cs:=cs) ?_)
   ·rcases List.mem_append.mp hc with q|q
    ·exact b1 c q
    ·rw [List.mem_singleton.mp q];decide
   ·rw [show cs++[32]=cs++32::[] from rfl,bw]
    simp [spl]
  ·refine e5 (cs:=[32]++cs) (fun c hc=> ?_) (by rw [List.length_append];show 1+_<=_;lia) (by simp) (mK (cs:=cs) ?_)
   ·rcases List.mem_append.mp hc with q|q
    ·rw [List.mem_singleton.mp q];decide
    ·exact b1 c q
   ·rw [show [32]++cs=32::cs from rfl,dq]
    simp
  ·obtain ⟨w,hw,ew⟩:=Cd u v
   refine e5 (cs:=u++42::32::v) (fun c hc=> ?_) (by lia) (by simp) (iA hw ew)
   have q:c=32 \/c∈cs:=by
    rw [e0]
    simp only [List.mem_append,List.mem_cons] at hc|-
    rcases hc with q|q|q|q
    ·exact .inr (.inl q)
    ·exact .inr (.inr (.inl q))
    ·exact .inl q
    ·exact .inr (.inr (.inr q))
   rcases q with q|q
   ·lia
   ·exact b1 c q
theorem sp_C (b1: ∀c∈cs,c<128) (b2:cs.length<=200) (y0:28<=y) (y1:y<32): ∃cs' δ',b_sp (dlt h z a y cs none none none none)=some (.rt (.str (toS cs')) δ')/\bo [.str (toS cs')]=true:=by
 have tlen:(toS cs).length=cs.length:=by rw [aE,bP]
 obtain ⟨c,ec,c1,c2,c3,c4,c5,c6⟩:=Ca (z/7000)
 obtain ⟨a0,a1⟩:=cZ (z/200) ((cs.length:Int)+1) (by lia)
 have hm:=kK (i:=z/200) (j:=(cs.length:Int)+1) (by lia)
 have ln:dg [.str (toS cs)]=some (.int (cs.length:Int)):=by
  show (if (toS cs).length<=lim then some (Dv.int ((toS cs).length:Int)) else none)=_
  rw [tlen,if_pos (by show _<=100000;lia)]
 have e8:(eOp dMod (eOp dDiv (eVar 1) (eC (.int 200))) (eOp dAdd (ah dg (aa (eVar 4) aNil)) (eC (.int 1)))) (dlt h z a y cs none none none none)=some (.int (z/200%((cs.length:Int)+1))):=by simp_arith only [ln,hm]
 generalize z/200%((cs.length:Int)+1)=q at a0 a1 e8
 have s1:=slT (x:=toS cs) a0 (by rw [tlen];lia)
 have s2:=slF (x:=toS cs) a0 (by rw [tlen];lia)
 rw [bP] at s1 s2
 have t1:Tx (jB (eVar 4) cr (bX (eVar 8))) (dlt h z a y cs none none none (some (.int q))) (cs.take q.toNat) 200:=by
  refine ⟨?_,by rw [List.length_take];lia⟩
  show (if (toS cs).length<=lim then some (Dv.str (Txt.slice (toS cs) none (some q))) else none)=_
  rw [if_pos (by rw [tlen];show _<=100000;lia)]
  exact congrArg (fun t=>some (Dv.str t)) (aD s1)
 have t2:Tx (eS (eVar 4) (bX (eVar 8)) cr) (dlt h z a y cs none none none (some (.int q))) (cs.drop q.toNat) 200:=by
  refine ⟨?_,by rw [List.length_drop];lia⟩
  show (if (toS cs).length<=lim then some (Dv.str (Txt.slice (toS cs) (some q) none)) else none)=_
  rw [if_pos (by rw [tlen];show _<=100000;lia)]
  exact congrArg (fun t=>some (Dv.str t)) (aD s2)
 have t3:Tx (eOp dIxS (ah eh aNil) (eOp dMod (eOp dDiv (eVar 1) (eC (.int 7000))) (eC (.int 82)))) (dlt h z a y cs none none none (some (.int q))) [c] 1:=by
  refine ⟨?_,Nat.le_refl _⟩
  rw [mI (x:= .str SG) (y:= .int (z/7000%82)) (by show eh []=_;exact B9) (by simp_arith only [dZ])]
  exact ec
 have t:=ar (ar t1 t3 (by decide)) t2 (by decide)
 refine ⟨cs.take q.toNat++[c]++cs.drop q.toNat,dlt h z a y cs none none none (some (.int q)),?_,?_⟩
 ·unfold b_sp
  rw [cP (lt_f (by lia)),cP (lt_f (by lia))]
  refine iC (lt_t y1) ?_
  unfold sv
  rw [dt e8]
  exact gr t.1
 ·refine e5 (fun d hd=> ?_) (by simp only [List.length_append,List.length_take,List.length_drop,List.length_singleton];lia) (by simp) (BY (c:=c) (by simp) c6 c2 c3 c4 c5)
  simp only [List.mem_append,List.mem_singleton] at hd
  rcases hd with (q|q)|q
  ·exact b1 d (List.mem_of_mem_take q)
  ·rw [q];exact c1
  ·exact b1 d (List.mem_of_mem_drop q)
theorem sp_D (b1: ∀c∈cs,c<128) (b2:cs.length<=200) (y0:y=32): ∃cs' δ',b_sp (dlt h z a y cs none none none none)=some (.rt (.str (toS cs')) δ')/\bo [.str (toS cs')]=true:=by
 have t:=ar (ar (δ:=dlt h z a y cs none none none none) (ma:=eVar 4) (n:=200) ⟨rfl,b2⟩ (ay "  " [32,32]) (by decide)) (mb:=eVar 4) (k:=200) ⟨rfl,b2⟩ (by decide)
 refine ⟨cs++[32,32]++cs,dlt h z a y cs none none none none,?_,?_⟩
 ·unfold b_sp
  rw [cP (lt_f (by lia)),cP (lt_f (by lia)),cP (lt_f (by lia))]
  refine iC (by rw [eq_y,decide_eq_true y0]) ?_
  exact gr t.1
 ·have e:cs++[32,32]++cs=cs++32::(32::cs):=by simp
  refine e5 (fun d hd=> ?_) (by simp only [List.length_append,List.length_cons,List.length_nil];lia) (by simp) (mK (cs:=cs) (by rw [e,bw,dq];simp))
  simp only [List.mem_append,List.mem_cons,List.not_mem_nil,or_false] at hd
  rcases hd with (q|q|q)|q
  ·exact b1 d q
  ·lia
  ·lia
  ·exact b1 d q
theorem sp_E (y0:33<=y): ∃d δ',b_sp (dlt h z a y cs none none none none)=some (.rt d δ')/\bo [d]=true:=by
 obtain ⟨n0,n1⟩:=cZ (z/200) 9 (by decide)
 obtain ⟨d,hd,ed⟩:=o9 (xs:=[Dv.non,.bl true,.int 5,.tup [.int 1,.int 2],.lst [.str (toS cs)],.dik [(.inr (toS cs),.int 1)],.bl false,.lst [],.int (-1)]) n0 (by exact n1)
 refine ⟨d,dlt h z a y cs none none none none,?_,?_⟩
 ·unfold b_sp
  rw [cP (lt_f (by lia)),cP (lt_f (by lia)),cP (lt_f (by lia)),cP (by rw [eq_y,decide_eq_false (by lia)])]
  have hd1:ju (eVar 4) (eC (.int 1)) (dlt h z a y cs none none none none)=some (.dik [(.inr (toS cs),.int 1)]):=rfl
  refine gr ?_
  simp_arith only [hd1,ed]
  all_goals rfl
 ·simp only [List.mem_cons,List.not_mem_nil,or_false] at hd
  have q: ∀s∈["NoneType","bool","int","tuple","list","dict"],isiN s "str"=false:=by decide+kernel
  rcases hd with rfl|rfl|rfl|rfl|rfl|rfl|rfl|rfl|rfl<;>exact Ce rfl (q _ (by simp [tyN]))
end
end K58
set_option maxHeartbeats 1000000
namespace K58
open PySem L2
noncomputable def p7 (c:Nat):Bool:=decide (c<128)
theorem mL {l:List Nat} (h: ∀c∈l,c<128):l.all p7=true:=List.all_eq_true.mpr fun c hc=>decide_eq_true (h c hc)
theorem Cf {r w x:List Nat} (hr:r.all p7=true) (hw:w.all p7=true) (hx:x.all p7=true):(O25 r w x).all (fun o=>o.all p7)=true:=by
 have q:(List.replicate 61 57).all p7=true:=by decide
 simp only [O25,List.all_cons,List.all_nil,List.all_append,hr,hw,hx,q]
 decide
theorem Cg {r w x:List Nat} (hr:r.length<=60) (hw:w.length<=4) (hx:x.length<=70): ∀o∈O25 r w x,o.length<=200:=by
 intro o ho
 simp only [O25,List.mem_cons,List.not_mem_nil,or_false] at ho
 rcases ho with rfl|rfl|rfl|rfl|rfl|rfl|rfl|rfl|rfl|rfl|rfl|rfl|rfl|rfl|rfl|rfl|rfl|rfl|rfl|rfl|rfl|rfl|rfl|rfl|rfl<;>(try simp only [List.length_append,List.length_cons,List.length_nil,List.length_replicate])<;>lia
theorem Ch {r w x:List Nat} (hr: ∀c∈r,c<128) (hw: ∀c∈w,c<128) (hx: ∀c∈x,c<128) (lr:r.length<=60) (lw:w.length<=4) (lx:x.length<=70) {k:Nat} (hk:k<25):(∀c∈(O25 r w x).getD k [],c<128)/\((O25 r w x).getD k []).length<=200:=by
 have hm:(O25 r w x).getD k []∈O25 r w x:=by
  have hk':k<(O25 r w x).length:=hk
  have:(O25 r w x).getD k []=(O25 r w x)[k]:=by simp [List.getD,hk']
  rw [this]
  exact List.getElem_mem hk'
 refine ⟨fun c hc=> ?_,Cg lr lw lx _ hm⟩
 have:=List.all_eq_true.mp (Cf (mL hr) (mL hw) (mL hx)) _ hm
 exact of_decide_eq_true (List.all_eq_true.mp this c hc)
theorem Ci {r w x:List Nat} (hr:r≠[]): ∀k:Nat,k<25->k≠18->(O25 r w x).getD k []≠[]:=by
 intro k hk hn
 match k,hk,hn with
 |0,_,_|1,_,_|2,_,_|3,_,_|4,_,_|5,_,_|6,_,_|7,_,_|8,_,_|9,_,_|10,_,_|11,_,_|12,_,_|13,_,_|14,_,_|15,_,_|16,_,_|17,_,_|19,_,_|20,_,_|21,_,_|22,_,_|23,_,_|24,_,_=>simp [O25,hr]
 |k+25,h,_=>exact absurd h (by lia)
theorem R.nn {r:List Nat}{L:List (List Nat)} (h:R r L):r≠[]:=fun z=>by
 have e:=h.spl
 rw [z] at e
 exact (h.d [] (by rw [<-e];simp [K58.spl])).ne rfl
theorem sy {a b:Dt->Option Bool}{δ:Dt}{x:Bool} (h:a δ=some true) (h2:b δ=some x):tand a b δ=some x:=by
 unfold tand
 rw [h]
 exact h2
theorem Cj {a b:Dt->Option Bool}{δ:Dt} (h:a δ=some false):tand a b δ=some false:=by
 unfold tand
 rw [h]
 rfl
theorem sA {a b:SM}{δ δ':Dt} (h:a δ=some (.nx δ')):sSeq a b δ=b δ':=by
 unfold sSeq
 rw [h]
 rfl
theorem Ck {h:Hl}{j:Nat} (hj:j<h.length):(h.map wp).getD j []=wp h[j]:=by
 have:j<(h.map wp).length:=by rw [List.length_map];exact hj
 simp [List.getD,hj]
section
variable {h:Hl}{wd:Nat}{z a y:Int}{cs:List Nat}
theorem Cm (H:Hq h wd) (a0:0<=a) (a1:a<(h.length:Int)) (y0:0<=y) (y1:y<25) {p:List Int×Int} (ep:h[a.toNat]?=some p) {d:Dv}{δ':Dt}
  (hb:sSeq (sIf (tand (tOf (eOp dEq (ah fLen (aa (eVar 7) aNil)) (eC (.int 1)))) (tor (tOf (eOp dEq (eVar 3) (eC (.int 13)))) (tOf (eOp dEq (eVar 3) (eC (.int 18)))))) (sRet (eOp ae (eOp ae (eC (.str "1*1 ")) (eOp dIx (eVar 7) (eC (.int 0)))) (eC (.str ",1*1")))) av) (sRet (eOp bN (eC (.str " ")) (eVar 7)))
   (dlt h z a y cs (some (.str (toS (rp p)))) (some (.str (toS (nd p.2)))) (some (dS ((h.map wp).set a.toNat ((O25 (rp p) (nd p.2) (wp p)).getD y.toNat [])))) none)=some (.rt d δ')):
  b_sp (dlt h z a y cs none none none none)=some (.rt d δ'):=by
 have hj:a.toNat<h.length:=by lia
 have ej:h[a.toNat]=p:=by
  rw [List.getElem?_eq_getElem hj] at ep
  exact Option.some.inj ep
 have hp:p∈h:=by rw [<-ej];exact List.getElem_mem hj
 have l4:=H.l4
 have hl':h.length<=100000:=by lia
 have cw:=mJ H
 have ix0:ixN (h.map pr).length a=some a.toNat:=pT a0 (by rw [List.length_map];exact a1)
 have i0:eOp dIx (eVar 0) (eVar 2) (dlt h z a y cs none none none none)=some (pr p):=by
  show atI (h.map pr) a=_
  unfold atI
  rw [ix0]
  show (h.map pr)[a.toNat]?=_
  rw [List.getElem?_map,ep]
  rfl
 have u1:sUnp (eOp dIx (eVar 0) (eVar 2)) (gT 2 (gC (gN 5) (gC (gN 6) gZ))) (dlt h z a y cs none none none none)=some (.nx (dlt h z a y cs (some (.str (toS (rp p)))) (some (.str (toS (nd p.2)))) none none)):=by
  unfold sUnp
  rw [i0]
  show ((gT 2 (gC (gN 5) (gC (gN 6) gZ)) (.tup [.str (rt p.1),.str (sN p.2)]) (dlt h z a y cs none none none none)).map Fl.nx)=_
  rw [rt_S,sN_S]
  rfl
 have e7:(aS [none,none] (iL (eVar 0)) (gT 2 (gC (gN 0) (gC (gN 1) gZ))) tyes dJ) (dlt h z a y cs (some (.str (toS (rp p)))) (some (.str (toS (nd p.2)))) none none)=some (dS (h.map wp)):=by simp_arith only [hl',cw]
 have lr:=(rp_R H hp).len
 have lw:=(nd_w H hp).l
 have lx:=gq H hp
 have mo:=BW (r:=rp p) (w:=nd p.2) (x:=wp p) (by lia) (by lia) (by lia) y0 y1
 have i7:eOp dIx (eVar 7) (eVar 2) (dlt h z a y cs (some (.str (toS (rp p)))) (some (.str (toS (nd p.2)))) (some (dS (h.map wp))) none)=some (.str (toS (wp p))):=by
  show atI ((h.map wp).map fun w=>Dv.str (toS w)) a=_
  rw [at_S a0 (by rw [List.length_map];exact a1),Ck hj,ej]
 have ev:(ah eY (aa (eVar 5) (aa (eVar 6) (aa (eVar 3) (aa (eOp dIx (eVar 7) (eVar 2)) aNil))))) (dlt h z a y cs (some (.str (toS (rp p)))) (some (.str (toS (nd p.2)))) (some (dS (h.map wp))) none)=some (.str (toS ((O25 (rp p) (nd p.2) (wp p)).getD y.toNat []))):=by
  unfold ah
  have ea:(aa (eVar 5) (aa (eVar 6) (aa (eVar 3) (aa (eOp dIx (eVar 7) (eVar 2)) aNil)))) (dlt h z a y cs (some (.str (toS (rp p)))) (some (.str (toS (nd p.2)))) (some (dS (h.map wp))) none)=some [.str (toS (rp p)),.str (toS (nd p.2)),.int y,.str (toS (wp p))]:=by
   show (some (Dv.str (toS (rp p)))).bind (fun x=>((some (Dv.str (toS (nd p.2)))).bind fun x1=>((some (Dv.int y)).bind fun x2=>((eOp dIx (eVar 7) (eVar 2) (dlt h z a y cs (some (.str (toS (rp p)))) (some (.str (toS (nd p.2)))) (some (dS (h.map wp))) none)).bind fun x3=>some [x3]).bind fun xs=>some (x2::xs)).bind fun xs=>some (x1::xs)).bind fun xs=>some (x::xs))=_
   rw [i7]
   rfl
  rw [ea]
  exact mo
 have s7:hJ 7 (eVar 2) (ah eY (aa (eVar 5) (aa (eVar 6) (aa (eVar 3) (aa (eOp dIx (eVar 7) (eVar 2)) aNil))))) (dlt h z a y cs (some (.str (toS (rp p)))) (some (.str (toS (nd p.2)))) (some (dS (h.map wp))) none)=some (.nx (dlt h z a y cs (some (.str (toS (rp p)))) (some (.str (toS (nd p.2)))) (some (dS ((h.map wp).set a.toNat ((O25 (rp p) (nd p.2) (wp p)).getD y.toNat [])))) none)):=by
  unfold hJ
  rw [ev]
  generalize (O25 (rp p) (nd p.2) (wp p)).getD y.toNat []=o
  show ((ixN ((h.map wp).map fun w=>Dv.str (toS w)).length a).bind fun j=>if (Dv.str (toS o)).imm=true then some (Fl.nx (dlt h z a y cs (some (.str (toS (rp p)))) (some (.str (toS (nd p.2)))) (some (.lst (((h.map wp).map fun w=>Dv.str (toS w)).set j (.str (toS o))))) none)) else none)=_
  rw [List.length_map,List.length_map,<-List.length_map (f:=pr),ix0]
  show some (Fl.nx (dlt h z a y cs (some (.str (toS (rp p)))) (some (.str (toS (nd p.2)))) (some (.lst (((h.map wp).map fun w=>Dv.str (toS w)).set a.toNat (.str (toS o))))) none))=_
  rw [<-List.map_set (f:=fun w=>Dv.str (toS w)) (a:=o)]
 unfold b_sp
 refine iC (lt_t y1) ?_
 unfold ss
 rw [sA u1,dt e7]
 show sSeq _ _ (dlt h z a y cs (some (.str (toS (rp p)))) (some (.str (toS (nd p.2)))) (some (dS (h.map wp))) none)=_
 rw [sA s7]
 exact hb
theorem sp_A (H:Hq h wd) (a0:0<=a) (a1:a<(h.length:Int)) (y0:0<=y) (y1:y<25): ∃cs' δ',b_sp (dlt h z a y cs none none none none)=some (.rt (.str (toS cs')) δ')/\bo [.str (toS cs')]=true:=by
 have hj:a.toNat<h.length:=by lia
 obtain ⟨p,ep⟩: ∃p,h[a.toNat]?=some p:=⟨_,List.getElem?_eq_getElem hj⟩
 have hp:p∈h:=List.mem_of_getElem? ep
 have l4:=H.l4
 have R1:=rp_R H hp
 have D1:=nd_w H hp
 have lx:=gq H hp
 have a128: ∀q∈h,∀c∈wp q,c<128:=fun q hq c hc=>by have:=mH H hq c hc;lia
 have ob:=Ch (r:=rp p) (w:=nd p.2) (x:=wp p) (fun c hc=>by have:=R1.cs c hc;lia) (fun c hc=>by have:=D1.fg c hc;lia) (a128 p hp) (by have:=R1.len;lia) (by have:=D1.l;lia) (by lia) (k:=y.toNat) (by lia)
 have bad:=fun (hn:y.toNat≠13)=>B5 R1 D1 y.toNat (by lia) hn
 have o13:=B6 R1 D1
 have e13:y.toNat=13->(O25 (rp p) (nd p.2) (wp p)).getD y.toNat []=rp p++[44,49,42]++nd p.2:=fun z=>by rw [z];rfl
 have e18:y.toNat=18->(O25 (rp p) (nd p.2) (wp p)).getD y.toNat []=[]:=fun z=>by rw [z];rfl
 have k13:y.toNat=13-> ∃u∈spl 32 ((O25 (rp p) (nd p.2) (wp p)).getD y.toNat []),wid u=(p.1.map nd).length+1:=fun z=>by rw [z];exact o13
 replace bad:y.toNat≠13-> ∃u∈spl 32 ((O25 (rp p) (nd p.2) (wp p)).getD y.toNat []),isEn u=false:=bad
 have one:y.toNat≠18->(O25 (rp p) (nd p.2) (wp p)).getD y.toNat []≠[]:=fun z=>Ci R1.nn _ (by lia) z
 have A1:=fun (d:Dv) (δ':Dt)=>Cm (z:=z) (cs:=cs) (d:=d) (δ':=δ') H a0 a1 y0 y1 ep
 generalize (O25 (rp p) (nd p.2) (wp p)).getD y.toNat []=o at*
 have lW:((h.map wp).set a.toNat o).length=h.length:=by rw [List.length_set,List.length_map]
 have hl':((h.map wp).set a.toNat o).length<=100000:=by lia
 have omem:o∈(h.map wp).set a.toNat o:=List.mem_set (by rw [List.length_map];exact hj) o
 have mw: ∀w∈(h.map wp).set a.toNat o,(∀c∈w,c<128)/\w.length<=200:=fun w hw=>by
  rcases List.mem_or_eq_of_mem_set hw with q|q
  ·obtain ⟨q',hq,rfl⟩:=List.mem_map.mp q
   have:=gq H hq
   exact ⟨a128 q' hq,by lia⟩
  ·rw [q];exact ob
 have t1:(tOf (eOp dEq (ah fLen (aa (eVar 7) aNil)) (eC (.int 1)))) (dlt h z a y cs (some (.str (toS (rp p)))) (some (.str (toS (nd p.2)))) (some (dS ((h.map wp).set a.toNat o))) none)=some (decide ((((h.map wp).set a.toNat o).length:Int)=1)):=by
  simp_arith only [dS,hl']
  all_goals rfl
 rw [lW] at t1
 have ty: ∀n:Int,(tOf (eOp dEq (eVar 3) (eC (.int n)))) (dlt h z a y cs (some (.str (toS (rp p)))) (some (.str (toS (nd p.2)))) (some (dS ((h.map wp).set a.toNat o))) none)=some (decide (y=n)):=fun n=>by simp_arith only [dZ]
 by_cases hs:(h.length:Int)=1/\(y=13 \/y=18)
 ·have tt:(tand (tOf (eOp dEq (ah fLen (aa (eVar 7) aNil)) (eC (.int 1)))) (tor (tOf (eOp dEq (eVar 3) (eC (.int 13)))) (tOf (eOp dEq (eVar 3) (eC (.int 18)))))) (dlt h z a y cs (some (.str (toS (rp p)))) (some (.str (toS (nd p.2)))) (some (dS ((h.map wp).set a.toNat o))) none)=some true:=by
   rw [decide_eq_true hs.1] at t1
   refine sy t1 ?_
   have y13:=ty 13
   have y18:=ty 18
   rcases hs.2 with q|q
   ·rw [decide_eq_true q] at y13
    exact rX y13
   ·rw [decide_eq_false (by lia)] at y13
    rw [decide_eq_true q] at y18
    exact jS y13 y18
  have w0:(h.map wp).set a.toNat o=[o]:=by
   have hl1:((h.map wp).set a.toNat o).length=1:=by lia
   obtain ⟨x,e⟩:=List.length_eq_one_iff.mp hl1
   rw [e] at omem|-
   rw [List.mem_singleton.mp omem]
  have t:=ar (ar (δ:=dlt h z a y cs (some (.str (toS (rp p)))) (some (.str (toS (nd p.2)))) (some (dS ((h.map wp).set a.toNat o))) none) (ay "1*1 " [49,42,49,32]) (mb:=eOp dIx (eVar 7) (eC (.int 0))) (b:=o) (k:=200) ⟨by rw [w0];rfl,ob.2⟩ (by decide)) (ay ",1*1" [44,49,42,49]) (by decide)
  refine ⟨_,_,A1 _ _ (iC tt (gr t.1)),?_⟩
  have e:[49,42,49,32]++o++[44,49,42,49]=[49,42,49]++32::(o++[44,49,42,49]):=by simp
  refine e5 (fun c hc=> ?_) (by simp only [List.length_append,List.length_cons,List.length_nil];have:=ob.2;lia) (by simp) ?_
  ·simp only [List.mem_append,List.mem_cons,List.not_mem_nil,or_false] at hc
   rcases hc with (q|q)|q
   ·lia
   ·exact ob.1 c q
   ·lia
  ·rw [e]
   rcases hs.2 with q|q
   ·have eo:=e13 (by lia)
    have o32:32∉o++[44,49,42,49]:=by
     rw [eo]
     have r32:=R1.free (c:=32) (by decide) (by decide)
     have w32:=D1.free (c:=32) (by decide)
     simp [r32,w32]
    refine iA (w:=o++[44,49,42,49]) (by rw [bw,bx o32];simp) (gm ?_)
    rw [eo]
    have e2:rp p++[44,49,42]++nd p.2++[44,49,42,49]=(rp p++[44,49])++42::((nd p.2++[44,49])++42::[49]):=by simp
    have r42:=R1.free (c:=42) (by decide) (by decide)
    have w42:=D1.free (c:=42) (by decide)
    rw [e2,bw,bw,bx (a:=rp p++[44,49]) (by simp [r42]),bx (a:=nd p.2++[44,49]) (by simp [w42])]
    simp [spl]
   ·have eo:=e18 (by lia)
    rw [eo]
    decide
 ·have tf:(tand (tOf (eOp dEq (ah fLen (aa (eVar 7) aNil)) (eC (.int 1)))) (tor (tOf (eOp dEq (eVar 3) (eC (.int 13)))) (tOf (eOp dEq (eVar 3) (eC (.int 18)))))) (dlt h z a y cs (some (.str (toS (rp p)))) (some (.str (toS (nd p.2)))) (some (dS ((h.map wp).set a.toNat o))) none)=some false:=by
   by_cases h1:(h.length:Int)=1
   ·have n13: ¬(y=13):=fun q=>hs ⟨h1,.inl q⟩
    have n18: ¬(y=18):=fun q=>hs ⟨h1,.inr q⟩
    have y13:=ty 13
    have y18:=ty 18
    rw [decide_eq_true h1] at t1
    rw [decide_eq_false n13] at y13
    rw [decide_eq_false n18] at y18
    exact sy t1 (jS y13 y18)
   ·rw [decide_eq_false h1] at t1
    exact Cj t1
  have jd:=dj (L:=(h.map wp).set a.toNat o) (by lia) fun w hw=>by have:=(mw w hw).2;lia
  refine ⟨_,_,A1 _ _ ((cP tf).trans (gr (by rw [mI (x:= .str (Str.ofString " ")) (y:=dS ((h.map wp).set a.toNat o)) rfl rfl];exact jd))),?_⟩
  have neW:(h.map wp).set a.toNat o≠[]:=fun q=>by rw [q] at lW;have:=List.length_pos_iff.mpr H.ne;simp at lW;lia
  have fl:=mC (c:=32) neW
  have sub: ∀w∈(h.map wp).set a.toNat o,∀u∈spl 32 w,u∈spl 32 (jn 32 ((h.map wp).set a.toNat o)):=fun w hw u hu=>by
   rw [fl]
   exact List.mem_flatMap.mpr ⟨w,hw,hu⟩
  refine e5 (fun c hc=> ?_) ?_ ?_ ?_
  ·rcases jn_mem hc with q|⟨w,hw,q⟩
   ·lia
   ·exact (mw w hw).1 c q
  ·have:=jW (c:=32) (L:=(h.map wp).set a.toNat o) fun w hw=>(mw w hw).2
   rw [lW] at this
   lia
  ·intro q
   have none: ∀w∈(h.map wp).set a.toNat o,w=[]:=fun w hw=>by
    cases w with
    |nil=>rfl
    |cons c r=>
     have:=jO (c:=32) hw (List.mem_cons_self (a:=c) (l:=r))
     rw [q] at this
     cases this
   by_cases h1:h.length=1
   ·exact one (fun z=>hs ⟨by lia,.inr (by lia)⟩) (none o omem)
   ·obtain ⟨i,hi,ni⟩: ∃i,i<h.length/\i≠a.toNat:=by
     by_cases q:a.toNat=0
     ·exact ⟨1,by lia,by lia⟩
     ·exact ⟨0,by lia,fun q2=>q q2.symm⟩
    have wm:wp h[i]∈(h.map wp).set a.toNat o:=by
     refine List.mem_of_getElem? (i:=i) ?_
     rw [List.getElem?_set_ne (Ne.symm ni),List.getElem?_map,List.getElem?_eq_getElem hi]
     rfl
    have:=none _ wm
    unfold wp at this
    simp at this
  ·by_cases h13:y.toNat=13
   ·have h1:h.length≠1:=fun q=>hs ⟨by lia,.inl (by lia)⟩
    obtain ⟨u,hu,wu⟩:=k13 h13
    obtain ⟨i,hi,ni⟩: ∃i,i<h.length/\i≠a.toNat:=by
     by_cases q:a.toNat=0
     ·exact ⟨1,by lia,by lia⟩
     ·exact ⟨0,by lia,fun q2=>q q2.symm⟩
    have hq:h[i]∈h:=List.getElem_mem hi
    have wm:wp h[i]∈(h.map wp).set a.toNat o:=by
     refine List.mem_of_getElem? (i:=i) ?_
     rw [List.getElem?_set_ne (Ne.symm ni),List.getElem?_map,List.getElem?_eq_getElem hi]
     rfl
    refine BX (sub o omem u hu) (sub _ wm (wp h[i]) (by rw [bx (Cb H hq)];simp)) ?_
    have e2:wid (wp h[i])=(h[i].1.map nd).length:=B7 (rp_R H hq) (nd_w H hq)
    rw [wu,e2,List.length_map,List.length_map,H.lw p hp,H.lw _ hq]
    lia
   ·obtain ⟨u,hu,eu⟩:=bad h13
    exact iA (sub o omem u hu) eu
end
end K58
set_option maxHeartbeats 2000000
namespace K58
open PySem L2
theorem Cn {h:Hl}{wd:Nat} (H:Hq h wd) (z:Int): ∃t,M_w_spoiled [.lst (h.map pr),.int z]=some t/\bo [t]=true:=by
 obtain ⟨b1,b2,b3⟩:=cs_b H
 have lp:0<h.length:=List.length_pos_iff.mpr H.ne
 obtain ⟨a0,a1⟩:=cZ z (h.length:Int) (by lia)
 obtain ⟨y0,y1⟩:=cZ (z/4) 34 (by decide)
 by_cases h1:z/4%34<25
 ·obtain ⟨cs',δ',e,x⟩:=sp_A (z:=z) (cs:=jn 32 (h.map wp)) H a0 a1 y0 h1
  exact ⟨_,sp0 H z e,x⟩
 by_cases h2:z/4%34<28
 ·obtain ⟨cs',e,x⟩:=sp_B (h:=h) (z:=z) (a:=z%(h.length:Int)) b1 (by lia) b3 (by lia) h2
  exact ⟨_,sp0 H z e,x⟩
 by_cases h3:z/4%34<32
 ·obtain ⟨cs',δ',e,x⟩:=sp_C (h:=h) (z:=z) (a:=z%(h.length:Int)) b1 (by lia) (by lia) h3
  exact ⟨_,sp0 H z e,x⟩
 by_cases h4:z/4%34=32
 ·obtain ⟨cs',δ',e,x⟩:=sp_D (h:=h) (z:=z) (a:=z%(h.length:Int)) b1 (by lia) h4
  exact ⟨_,sp0 H z e,x⟩
 ·obtain ⟨d,δ',e,x⟩:=sp_E (h:=h) (z:=z) (a:=z%(h.length:Int)) (cs:=jn 32 (h.map wp)) (y:=z/4%34) (by lia)
  exact ⟨_,sp0 H z e,x⟩
theorem Co {t:Dv} (z:Int) (h:bo [t]=true):ge [t,.int z]=some (.bl true):=by
 have e: ∀v:Option Dv,sTry (aM bo (aa (eVar 0) aNil)) [some t,some (.int z),v,none,none]=some (.rt (.bl true) [some t,some (.int z),v,none,none]):=fun v=>by
  unfold sTry aM
  show (if bo [t]=true then _ else _)=_
  rw [if_pos h]
 by_cases h3:z%3=0
 ·simp_arith only [ge,lU,decide_eq_true h3,e]
  all_goals rfl
 ·simp_arith only [ge,lU,decide_eq_false h3,e]
  all_goals rfl
theorem Cq (n:Nat):bS 0 n=(List.range n).map fun k=> .int (0+(k:Int)):=by
 unfold bS
 rfl
theorem Cr (p:List Int×Int):(pr p).imm=true:=rfl
theorem Cs {x y:Int}{r s:List Int} (h:x<y):HT.aA (x::r) (y::s)=true:=by
 rw [HT.eE,if_neg (by lia)]
 exact decide_eq_true h
theorem Ct (cell:Int) (n m:Nat) (n1:1<=n) (n8:n<=8) (m1:1<=m) (m4:m<=4) (v0 v1 v2 v6 v7 v8:Option Dv):
  ∃(h:Hl) (w6 w7:Option Dv),Hq h n/\IsH h/\loopM (gN 6) jG (bS 0 m) [v0,v1,v2,some (.int cell),some (.int (n:Int)),some (.lst []),v6,v7,v8]=some (.nx [v0,v1,v2,some (.int cell),some (.int (n:Int)),some (.lst (h.map ent)),w6,w7,v8]):=by
 obtain ⟨q0,q1⟩:=cZ (cell/64) 9 (by decide)
 obtain ⟨δ',e,ps,w6,w7,rfl,pl,ri,hp⟩:=i6 (g:=gN 6) (body:=jG) (ds:=bS 0 m) (δ:=[v0,v1,v2,some (.int cell),some (.int (n:Int)),some (.lst []),v6,v7,v8])
  (fun i δ=> ∃(ps:Hl) (w6 w7:Option Dv),δ=[v0,v1,v2,some (.int cell),some (.int (n:Int)),some (.lst (ps.map ent)),w6,w7,v8]/\ps.length=i/\Rise ps/\ ∀p∈ps,p.1.length=n/\(∀x∈p.1,1<=x/\x<=20*(i:Int))/\1<=p.2/\p.2<=9) ⟨[],_,_,rfl,rfl,List.Pairwise.nil,fun _ z=>(nomatch z)⟩ (by
  rintro i d δ hd ⟨ps,w6,w7,rfl,pl,ri,hp⟩
  have hi:i<m:=by
   have:=(List.getElem?_eq_some_iff.mp hd).1
   rwa [gM] at this
  rw [kD hi] at hd
  cases hd
  have dm:dMul (.int 20) (.int (0+(i:Int)))=some (.int (20*(0+(i:Int)))):=gR (kO (i:=20) (j:=0+(i:Int)) ⟨by decide,by decide⟩)
  have hc:=cY (g:=gN 0) (c:=tyes) (el:=lV) (δ:=[none,some (.int cell),some (.int (0+(i:Int)))]) (fun k:Nat=>Dv.int (0+(k:Int))) (fun k=> .int (mx (cell+(0+(i:Int))) (0+(k:Int))%19+1+20*(0+(i:Int)))) (List.range n) (fun k hk=>by
   have hk':=List.mem_range.mp hk
   have:=rE (cell+(0+(i:Int))) (0+(k:Int)) (by lia) (by lia)
   simp_arith only [lV,this,dm])
  have hr: ∀v5,iR1 (eVar 4) [v0,v1,v2,some (.int cell),some (.int (n:Int)),v5,some (.int (0+(i:Int))),w7,v8]=some ((List.range n).map fun k=> .int (0+(k:Int))):=fun v5=>by rw [<-Cq];exact kN (j:=(n:Int)) (by simp_arith only [dZ]) (by lia)
  obtain ⟨row,er⟩: ∃row:List Int,row=(List.range n).map fun k:Nat=>mx (cell+(0+(i:Int))) (0+(k:Int))%19+1+20*(0+(i:Int)):=⟨_,rfl⟩
  have e1:((List.range n).map fun k:Nat=>Dv.int (mx (cell+(0+(i:Int))) (0+(k:Int))%19+1+20*(0+(i:Int))))=row.map .int:=by rw [er,List.map_map];rfl
  rw [e1] at hc
  have lr:row.length=n:=by rw [er,List.length_map,List.length_range]
  have br: ∀x∈row,20*(i:Int)+1<=x/\x<=20*(i:Int)+19:=fun x hx=>by
   rw [er] at hx
   obtain ⟨k,_,rfl⟩:=List.mem_map.mp hx
   obtain ⟨a,b⟩:=cZ (mx (cell+(0+(i:Int))) (0+(k:Int))) 19 (by decide)
   lia
  have im:=d4 row
  have hl1:row.length<=100000:=by lia
  have ll:(ps.map ent).length<lim:=by rw [List.length_map,kL];lia
  have pe:(ent (row,cell/64%9+1)).imm=true:=jh
  have ap:=fun δ=>o4 (i:=5) (δ:=δ) ll pe
  have ea:ps.map ent++[ent (row,cell/64%9+1)]=(ps++[(row,cell/64%9+1)]).map ent:=by rw [List.map_append];rfl
  unfold ent at ap
  refine ⟨_,_,rfl,?_,⟨ps++[(row,cell/64%9+1)],some (.int (0+(i:Int))),some (.tup (row.map .int)),rfl,by rw [List.length_append,pl];rfl,?_,fun p h=> ?_⟩⟩
  ·rw [<-ea]
   unfold ent
   simp_arith only [jG,hr,hc,im,hl1,ap]
  ·refine List.pairwise_append.mpr ⟨ri,List.pairwise_singleton _ _,fun p hp' q hq=> ?_⟩
   rw [List.mem_singleton.mp hq]
   obtain ⟨h1,h2,_⟩:=hp p hp'
   show HT.aA p.1 row=true
   obtain ⟨x,r,ex⟩: ∃x r,p.1=x::r:=by
    cases h:p.1 with
    |nil=>rw [h] at h1;simp at h1;lia
    |cons x r=>exact ⟨x,r,rfl⟩
   obtain ⟨y,s,ey⟩: ∃y s,row=y::s:=by
    cases h:row with
    |nil=>rw [h] at lr;simp at lr;lia
    |cons x r=>exact ⟨x,r,rfl⟩
   have hx:=h2 x (by rw [ex];simp)
   have hy:=br y (by rw [ey];simp)
   rw [ex,ey]
   exact Cs (by lia)
  ·rcases List.mem_append.mp h with h|h
   ·obtain ⟨h1,h2,h3⟩:=hp p h
    exact ⟨h1,fun x hx=>by have:=h2 x hx;lia,h3⟩
   ·rw [List.mem_singleton.mp h]
    exact ⟨lr,fun x hx=>by have:=br x hx;lia,by show 1<=cell/64%9+1;lia,by show cell/64%9+1<=9;lia⟩)
 rw [gM] at pl hp
 refine ⟨ps,w6,w7,⟨fun z=>by rw [z] at pl;simp at pl;lia,by lia,n1,n8,fun p h=>(hp p h).1,fun p h x hx=> ?_,fun p h=>(hp p h).2.2⟩,⟨ri,fun p h=> ?_⟩,e⟩
 ·have:=(hp p h).2.1 x hx
  lia
 ·have:=(hp p h).2.2
  lia
theorem Hq.small {h:Hl}{n:Nat} (H:Hq h n) {p:List Int×Int} (hp:p∈h):Sml p:=by
 have hl:=H.lw p hp
 have hw:=H.wx p hp
 have b: ∀x:Int,1<=x->x<=99->x.natAbs<10^60:=fun x a c=>Nat.lt_of_lt_of_le (show x.natAbs<100 by lia) (by decide+kernel)
 exact ⟨by rw [hl];exact H.w1,by rw [hl];exact H.w8,fun x hx=>b x (H.rx p hp x hx).1 (H.rx p hp x hx).2,b p.2 hw.1 (by lia),by lia⟩
theorem Cu {h:Hl}{n:Nat} (H:Hq h n):bb (gT 2 (gC (gN 0) (gC (gN 1) gZ))) tyes jH [none,none] (h.map ent)=some (h.map pr):=by
 refine cY (g:=gT 2 (gC (gN 0) (gC (gN 1) gZ))) (c:=tyes) (el:=jH) (δ:=[none,none]) ent pr h fun p hp=> ?_
 have sm:=(H.small hp).okr
 have hl:=H.lw p hp
 have l8:=H.w8
 have hs:=cY (g:=gN 0) (c:=tyes) (el:=lX) (δ:=[none]) (fun x:Int=>Dv.int x) (fun x=> .str (sN x)) p.1 (fun x hx=>by
  have:=rH (sm.2.1 x hx)
  simp_arith only [lX,this])
 have e3:(p.1.map fun x:Int=>Dv.str (sN x))=(p.1.map sN).map .str:=by rw [List.map_map];rfl
 rw [e3] at hs
 have jn:=BD (r:=p.1) (by lia) sm.2.1
 have st:=rH sm.2.2
 have hl1:p.1.length<=100000:=by lia
 have im:=Cr p
 unfold pr at im|-
 simp_arith only [jH,ent,hl1,hs,jn,st,im]
theorem turn (y:Int) (i:Nat) (hi:i<=100) (v0 v1 v3 v4 v5 v6 v7 v8:Option Dv) (hix:eOp dIx (eVar 1) (eVar 2) [v0,v1,some (.int (0+(i:Int))),v3,v4,v5,v6,v7,v8]=some (.int y)):
  ∃w3 w4 w5 w6 w7 w8,l_law_2 [v0,v1,some (.int (0+(i:Int))),v3,v4,v5,v6,v7,v8]=some (.nx [v0,v1,some (.int (0+(i:Int))),w3,w4,w5,w6,w7,w8]):=by
 have em:=rE y (0+(i:Int)) (by lia) (by lia)
 generalize mx y (0+(i:Int))=cell at em
 obtain ⟨c0,c1⟩:=cZ cell 8 (by decide)
 obtain ⟨d0,d1⟩:=cZ (cell/8) 4 (by decide)
 obtain ⟨h,w6,w7,H,ih,lo⟩:=Ct cell (1+cell%8).toNat (1+cell/8%4).toNat (by lia) (by lia) (by lia) (by lia) v0 v1 (some (.int (0+(i:Int)))) v6 v7 v8
 have en:(((1+cell%8).toNat:Nat):Int)=1+cell%8:=by lia
 rw [en] at lo
 have hr:iR1 (eOp dAdd (eC (.int 1)) (eOp dMod (eOp dDiv (eVar 3) (eC (.int 8))) (eC (.int 4)))) [v0,v1,some (.int (0+(i:Int))),some (.int cell),some (.int (1+cell%8)),some (.lst []),v6,v7,v8]=some (bS 0 (1+cell/8%4).toNat):=kN (by simp_arith only [dZ]) (by lia)
 have cp:=Cu H
 obtain ⟨t,et,xt⟩:=Cn H (cell/32)
 have mr:=Co (cell/7) xt
 have l4:=H.l4
 have cw:bb (gT 2 (gC (gN 0) (gC (gN 1) gZ))) tyes qV [none,none] (h.map pr)=some ((h.map wp).map fun w=> .str (toS w)):=mJ H
 have jd:=dj (L:=h.map wp) (by rw [List.length_map];lia) fun w hw=>by
  obtain ⟨p,hp,rfl⟩:=List.mem_map.mp hw
  have:=gq H hp
  lia
 have rh:=BJ h (1+cell%8).toNat (by lia) H.lw (fun p hp=>H.small hp) (by have:=pX h;lia)
 rw [zJ ih,show ht h=toS (jn 32 (h.map wp)) from aD (by rw [ht_l];rfl)] at rh
 have dn:=zd h
 have hl':h.length<=100000:=by lia
 have lE:(h.map ent).length<=100000:=by rw [List.length_map];exact hl'
 have lP:(h.map pr).length<=100000:=by rw [List.length_map];exact hl'
 have jd':bN (.str (Str.ofString " ")) (.lst ((h.map wp).map fun w=> .str (toS w)))=some (.str (toS (jn 32 (h.map wp)))):=jd
 generalize jn 32 (h.map wp)=cs at jd' rh
 generalize (h.map wp).map (fun w=>Dv.str (toS w))=W at cw jd'
 have iE:imms (h.map ent)=true:=ze
 generalize h.map ent=E at*
 generalize h.map pr=P at*
 refine ⟨some (.int cell),some (.int (1+cell%8)),some (.lst E),w6,w7,some (.lst P),?_⟩
 simp_arith only [l_law_2,hix,em,hr,lo,iE,lE,cp,et,mr,lP,cw,jd',rh,dn]
 all_goals rfl
theorem Cv (ns:List Int) (hl:ns.length<=63):gf [.scr ns]=some (.bl true):=by
 have hc0:cutD (ns.map Dv.int) none (some 63)=(cutD ns none (some 63)).map .int:=xY ..
 have hcl:(cutD ns none (some 63)).length<=63:=Nat.le_trans (zt ..) hl
 generalize cutD ns none (some 63)=zs at hc0 hcl
 have zl9:zs.length<=100000:=by lia
 have hcat:gL (.lst (zs.map .int)) (.lst [.int 11,.int 25])=some (.lst ((zs++[11,25]).map .int)):=by
  rw [xW (by rw [List.length_map];show _+2<=100000;lia) (by rw [o7,d4];rfl),List.map_append]
  rfl
 have hcs:(zs++[11,25]).length<=65:=by rw [List.length_append];show _+2<=65;lia
 generalize zs++[11,25]=cs at hcat hcs
 obtain ⟨δ',e,v2,v3,v4,v5,v6,v7,v8,rfl⟩:=i6 (g:=gN 2) (body:=l_law_2) (ds:=bS 0 cs.length) (δ:=[some (.scr ns),some (.lst (cs.map .int)),none,none,none,none,none,none,none])
  (fun _ δ=> ∃v2 v3 v4 v5 v6 v7 v8:Option Dv,δ=[some (.scr ns),some (.lst (cs.map .int)),v2,v3,v4,v5,v6,v7,v8]) ⟨_,_,_,_,_,_,_,rfl⟩ (by
  rintro i d δ hd ⟨v2,v3,v4,v5,v6,v7,v8,rfl⟩
  have hi:i<cs.length:=by
   have:=(List.getElem?_eq_some_iff.mp hd).1
   rwa [gM] at this
  rw [kD hi] at hd
  cases hd
  have ac:=xJ (zs:=cs) (i:=0+(i:Int)) (by lia) (by lia)
  generalize cs.getD (0+(i:Int)).toNat 0=y at ac
  obtain ⟨w3,w4,w5,w6,w7,w8,ew⟩:=turn y i (by lia) (some (.scr ns)) (some (.lst (cs.map .int))) v3 v4 v5 v6 v7 v8 (by simp_arith only [ac])
  exact ⟨_,_,rfl,ew,_,_,_,_,_,_,_,rfl⟩)
 have hr:iR1 (ah fLen (aa (eVar 1) aNil)) [some (.scr ns),some (.lst (cs.map .int)),none,none,none,none,none,none,none]=some (bS 0 cs.length):=kN (j:=(cs.length:Int)) (by simp_arith only [dZ]) (by lia)
 simp_arith-implicitDefEqProofs only [gf,qW,hc0,d4,zl9,hcat,hr,e]
end K58
set_option maxHeartbeats 4000000
namespace K58
open PySem L2
theorem Cw {l:PySem.W.OpenLaw}{w:World}{K:PySem.W.Frag}{h:Heap}{mg:Str->Option Value}{C CH C1 C2 C3 C4 C5 C6 C7 C8 fa f1 f2 f3 f4 f5 f6 f7 f8 f9 f10 f11 f12 f13:Addr} (X:K.In h) (G:h.Ns mainGlobals mg) (hfa:mg "law"=some (.ref fa))
  {od1 an1 od2 an2 od3 an3 od4 an4 od5 an5 od6 an6 od7 an7 od8 an8 od9 an9 od10 an10 od11 an11 od12 an12 od13 an13:Option Addr}{sl1 sl2 sl3 sl4 sl5 sl6 sl7 sl8 sl9 sl10 sl11 sl12 sl13:Array (Option Value)}{oc1 kV1 dc1 pm1 cd1 ct1 oc2 kV2 dc2 pm2 cd2 ct2 oc3 kV3 dc3 pm3 cd3 ct3 oc4 kV4 dc4 pm4 cd4 ct4 oc5 kV5 dc5 pm5 cd5 ct5 oc6 kV6 dc6 pm6 cd6 ct6 oc7 kV7 dc7 pm7 cd7 ct7 oc8 kV8 dc8 pm8 cd8 ct8 oc9 kV9 dc9 pm9 cd9 ct9 oc10 kV10 dc10 pm10 cd10 ct10 oc11 kV11 dc11 pm11 cd11 ct11 oc12 kV12 dc12 pm12 cd12 ct12 oc13 kV13 dc13 pm13 cd13 ct13:Value}
  {tFIGURES tMOST_FIGURES tWIDEST:Tok}
  (a1:PySem.W.nsIn K mainGlobals "heap_of"=some (some (.ref f1))) (l1:K.lookup f1=some ⟨oc1,od1,.func (PySem.W.fnOf "heap_of" "heap_of" (bi fM) (aV fM) (au fM) .none kV1 dc1 pm1 an1 cd1 ct1),sl1⟩) (c1:PySem.W.codeIn K cd1 "heap_of"=true) (k1:PySem.W.keepIn K (.ref f1)=true)
  (a2:PySem.W.nsIn K mainGlobals "is_written_place"=some (some (.ref f2))) (l2:K.lookup f2=some ⟨oc2,od2,.func (PySem.W.fnOf "is_written_place" "is_written_place" (bi fN) (aV fN) (au fN) .none kV2 dc2 pm2 an2 cd2 ct2),sl2⟩) (c2:PySem.W.codeIn K cd2 "is_written_place"=true) (k2:PySem.W.keepIn K (.ref f2)=true)
  (a3:PySem.W.nsIn K mainGlobals "_law_mixed"=some (some (.ref f3))) (l3:K.lookup f3=some ⟨oc3,od3,.func (PySem.W.fnOf "_law_mixed" "_law_mixed" (bi fO) (aV fO) (au fO) .none kV3 dc3 pm3 an3 cd3 ct3),sl3⟩) (c3:PySem.W.codeIn K cd3 "_law_mixed"=true) (k3:PySem.W.keepIn K (.ref f3)=true)
  (a4:PySem.W.nsIn K mainGlobals "_law_signs"=some (some (.ref f4))) (l4:K.lookup f4=some ⟨oc4,od4,.func (PySem.W.fnOf "_law_signs" "_law_signs" (bi fP) (aV fP) (au fP) .none kV4 dc4 pm4 an4 cd4 ct4),sl4⟩) (c4:PySem.W.codeIn K cd4 "_law_signs"=true) (k4:PySem.W.keepIn K (.ref f4)=true)
  (a5:PySem.W.nsIn K mainGlobals "_law_odd_part"=some (some (.ref f5))) (l5:K.lookup f5=some ⟨oc5,od5,.func (PySem.W.fnOf "_law_odd_part" "_law_odd_part" (bi fQ) (aV fQ) (au fQ) .none kV5 dc5 pm5 an5 cd5 ct5),sl5⟩) (c5:PySem.W.codeIn K cd5 "_law_odd_part"=true) (k5:PySem.W.keepIn K (.ref f5)=true)
  (a6:PySem.W.nsIn K mainGlobals "is_written_number"=some (some (.ref f6))) (l6:K.lookup f6=some ⟨oc6,od6,.func (PySem.W.fnOf "is_written_number" "is_written_number" (bi fS) (aV fS) (au fS) .none kV6 dc6 pm6 an6 cd6 ct6),sl6⟩) (c6:PySem.W.codeIn K cd6 "is_written_number"=true) (k6:PySem.W.keepIn K (.ref f6)=true)
  (a7:PySem.W.nsIn K mainGlobals "_law_spoiled"=some (some (.ref f7))) (l7:K.lookup f7=some ⟨oc7,od7,.func (PySem.W.fnOf "_law_spoiled" "_law_spoiled" (bi fT) (aV fT) (au fT) .none kV7 dc7 pm7 an7 cd7 ct7),sl7⟩) (c7:PySem.W.codeIn K cd7 "_law_spoiled"=true) (k7:PySem.W.keepIn K (.ref f7)=true)
  (a8:PySem.W.nsIn K mainGlobals "read_number"=some (some (.ref f8))) (l8:K.lookup f8=some ⟨oc8,od8,.func (PySem.W.fnOf "read_number" "read_number" (bi eU) (aV eU) (au eU) .none kV8 dc8 pm8 an8 cd8 ct8),sl8⟩) (c8:PySem.W.codeIn K cd8 "read_number"=true) (k8:PySem.W.keepIn K (.ref f8)=true)
  (a9:PySem.W.nsIn K mainGlobals "read_row"=some (some (.ref f9))) (l9:K.lookup f9=some ⟨oc9,od9,.func (PySem.W.fnOf "read_row" "read_row" (bi eV) (aV eV) (au eV) .none kV9 dc9 pm9 an9 cd9 ct9),sl9⟩) (c9:PySem.W.codeIn K cd9 "read_row"=true) (k9:PySem.W.keepIn K (.ref f9)=true)
  (a10:PySem.W.nsIn K mainGlobals "read_entry"=some (some (.ref f10))) (l10:K.lookup f10=some ⟨oc10,od10,.func (PySem.W.fnOf "read_entry" "read_entry" (bi eW) (aV eW) (au eW) .none kV10 dc10 pm10 an10 cd10 ct10),sl10⟩) (c10:PySem.W.codeIn K cd10 "read_entry"=true) (k10:PySem.W.keepIn K (.ref f10)=true)
  (a11:PySem.W.nsIn K mainGlobals "read_heap"=some (some (.ref f11))) (l11:K.lookup f11=some ⟨oc11,od11,.func (PySem.W.fnOf "read_heap" "read_heap" (bi eX) (aV eX) (au eX) .none kV11 dc11 pm11 an11 cd11 ct11),sl11⟩) (c11:PySem.W.codeIn K cd11 "read_heap"=true) (k11:PySem.W.keepIn K (.ref f11)=true)
  (a12:PySem.W.nsIn K mainGlobals "_law_refused"=some (some (.ref f12))) (l12:K.lookup f12=some ⟨oc12,od12,.func (PySem.W.fnOf "_law_refused" "_law_refused" (bi fU) (aV fU) (au fU) .none kV12 dc12 pm12 an12 cd12 ct12),sl12⟩) (c12:PySem.W.codeIn K cd12 "_law_refused"=true) (k12:PySem.W.keepIn K (.ref f12)=true)
  (a13:PySem.W.nsIn K mainGlobals "law"=some (some (.ref f13))) (l13:K.lookup f13=some ⟨oc13,od13,.func (PySem.W.fnOf "law" "law" (bi dH) (aV dH) (au dH) .none kV13 dc13 pm13 an13 cd13 ct13),sl13⟩) (c13:PySem.W.codeIn K cd13 "law"=true) (k13:PySem.W.keepIn K (.ref f13)=true)
  (z1:PySem.W.nsIn K mainGlobals "all"=some none)
  (z2:PySem.W.nsIn K mainGlobals "int"=some none)
  (z3:PySem.W.nsIn K mainGlobals "isinstance"=some none)
  (z4:PySem.W.nsIn K mainGlobals "len"=some none)
  (z5:PySem.W.nsIn K mainGlobals "list"=some none)
  (z6:PySem.W.nsIn K mainGlobals "range"=some none)
  (z7:PySem.W.nsIn K mainGlobals "set"=some none)
  (z8:PySem.W.nsIn K mainGlobals "sorted"=some none)
  (z9:PySem.W.nsIn K mainGlobals "str"=some none)
  (z10:PySem.W.nsIn K mainGlobals "tuple"=some none)
  (g1:PySem.W.nsIn K mainGlobals "FIGURES"=some (some (.str "0123456789" tFIGURES)))
  (g2:PySem.W.nsIn K mainGlobals "MOST_FIGURES"=some (some (.int 60 tMOST_FIGURES)))
  (g3:PySem.W.nsIn K mainGlobals "WIDEST"=some (some (.int 8 tWIDEST)))
  (ye1:PySem.W.nsIn K mainGlobals "NoText"=some (some (.ref C)))
  (ye2:PySem.W.nsIn K mainGlobals "HouseError"=some (some (.ref CH)))
  (ye3:PySem.W.nsIn K mainGlobals "NoBook"=some (some (.ref C1)))
  (ye4:PySem.W.nsIn K mainGlobals "NoDeed"=some (some (.ref C2)))
  (ye5:PySem.W.nsIn K mainGlobals "NoHeap"=some (some (.ref C3)))
  (ye6:PySem.W.nsIn K mainGlobals "NoMoment"=some (some (.ref C4)))
  (ye7:PySem.W.nsIn K mainGlobals "NoName"=some (some (.ref C5)))
  (ye8:PySem.W.nsIn K mainGlobals "NoRow"=some (some (.ref C6)))
  (ye9:PySem.W.nsIn K mainGlobals "TooLate"=some (some (.ref C7)))
  (ye10:PySem.W.nsIn K mainGlobals "TooMuch"=some (some (.ref C8)))
  (yev:PySem.W.nsIn K mainGlobals "ValueError"=some none)
  (yeo:PySem.W.excIn K C [.type "ValueError",.type "Exception",.type "BaseException",.type "object"] "ValueError.__new__"=true)
  (yex1:PySem.W.exmOne K (.ref C) (.ref C)=some true)
  (yex2:PySem.W.exmOne K (.ref C) (.ref CH)=some true)
  (yekt:PySem.W.kitAny K (.ref C) [.ref C1,.ref C2,.ref C3,.ref C4,.ref C5,.ref C6,.ref C7,.ref C8]=some false)
  (yekn:PySem.W.kitOne K (.ref C) (.ref C)=some true)
  (yekv:PySem.W.kitOne K (.ref C) (.type "ValueError")=some true)
  (yf1:PySem.W.isClsIn K C=true)
  (yf2:PySem.W.findIn K (.ref C) "__getattribute__"=some (some (.builtin "BaseException.__getattribute__")))
  (yf3:PySem.W.findIn K (.ref C) "__getattr__"=some none)
  (yf4:PySem.W.findIn K (.ref C) "__class__"=some (some (.builtin "object.__class__")))
  (yf5:PySem.W.specialIn K (.builtin "object.__class__") "__get__"=some (some (.builtin "getset_descriptor.__get__")))
  (yf6:PySem.W.takesIn K (.builtin "object.__class__")=some true)
  (yf7:PySem.W.subIn K (.ref C) (.type "BaseException")=some true)
  (yf8:PySem.W.mroIn K C (.type "object")=some true)
  : ∃fd:FuncData,(∀(s:Shared) (v:Value),BindsTo s fd ⟨[v],[]⟩ [("_law_script",v)])/\ ∀base:Heap,K.In base->base.Ns mainGlobals mg->FnOk l.prog w K mg base CX0 8 fa fd ["_law_script"] (spD K .imm gf):=by
 have e:=hfa.symm.trans (PySem.W.mg_of X G a13)
 cases e
 have B:Blt mg:=⟨PySem.W.mg_none_of X G z1,PySem.W.mg_none_of X G z2,PySem.W.mg_none_of X G z3,PySem.W.mg_none_of X G z4,PySem.W.mg_none_of X G z5,PySem.W.mg_none_of X G z6,PySem.W.mg_none_of X G z7,PySem.W.mg_none_of X G z8,PySem.W.mg_none_of X G z9,PySem.W.mg_none_of X G z10⟩
 have G_FIGURES:=PySem.W.mg_of X G g1
 have G_MOST_FIGURES:=PySem.W.mg_of X G g2
 have G_WIDEST:=PySem.W.mg_of X G g3
 have F1:=bU (st:=fM) l1 c1 k1
 have b1:=F1.binds (ps:=["pairs"]) fun _ _ _ _ _ _ us hl=>match us,hl with|[_],_=>rfl
 have F2:=bU (st:=fN) l2 c2 k2
 have b2:=F2.binds (ps:=["text"]) fun _ _ _ _ _ _ us hl=>match us,hl with|[_],_=>rfl
 have F3:=bU (st:=fO) l3 c3 k3
 have b3:=F3.binds (ps:=["_law_cell","_law_k"]) fun _ _ _ _ _ _ us hl=>match us,hl with|[_,_],_=>rfl
 have F4:=bU (st:=fP) l4 c4 k4
 have b4:=F4.binds (ps:=[]) fun _ _ _ _ _ _ us hl=>match us,hl with|[],_=>rfl
 have F5:=bU (st:=fQ) l5 c5 k5
 have b5:=F5.binds (ps:=["_law_row","_law_weight","_law_way","_law_text"]) fun _ _ _ _ _ _ us hl=>match us,hl with|[_,_,_,_],_=>rfl
 have F6:=bU (st:=fS) l6 c6 k6
 have b6:=F6.binds (ps:=["text"]) fun _ _ _ _ _ _ us hl=>match us,hl with|[_],_=>rfl
 have F7:=bU (st:=fT) l7 c7 k7
 have b7:=F7.binds (ps:=["_law_parts","_law_cell"]) fun _ _ _ _ _ _ us hl=>match us,hl with|[_,_],_=>rfl
 have F8:=bU (st:=eU) l8 c8 k8
 have b8:=F8.binds (ps:=["text"]) fun _ _ _ _ _ _ us hl=>match us,hl with|[_],_=>rfl
 have F9:=bU (st:=eV) l9 c9 k9
 have b9:=F9.binds (ps:=["text"]) fun _ _ _ _ _ _ us hl=>match us,hl with|[_],_=>rfl
 have F10:=bU (st:=eW) l10 c10 k10
 have b10:=F10.binds (ps:=["text"]) fun _ _ _ _ _ _ us hl=>match us,hl with|[_],_=>rfl
 have F11:=bU (st:=eX) l11 c11 k11
 have b11:=F11.binds (ps:=["text"]) fun _ _ _ _ _ _ us hl=>match us,hl with|[_],_=>rfl
 have F12:=bU (st:=fU) l12 c12 k12
 have b12:=F12.binds (ps:=["_law_text","_law_cell"]) fun _ _ _ _ _ _ us hl=>match us,hl with|[_,_],_=>rfl
 have F13:=bU (st:=dH) l13 c13 k13
 refine ⟨PySem.W.fnOf "law" "law" (bi dH) (aV dH) (au dH) .none kV13 dc13 pm13 an13 cd13 ct13,fun s v=> .of_eq rfl,fun base KB _=> ?_⟩
 have D_heap_of:=cj (P:=l.prog) (w:=w) (base:=base) F1 (PySem.W.mg_of X G a1) (Be F1 B G_FIGURES G_MOST_FIGURES G_WIDEST) b1
 have D_is_written_place:=cj (P:=l.prog) (w:=w) (base:=base) F2 (PySem.W.mg_of X G a2) (Bf F2 B G_FIGURES G_MOST_FIGURES G_WIDEST) b2
 have D_w_mixed:=cj (P:=l.prog) (w:=w) (base:=base) F3 (PySem.W.mg_of X G a3) (Bg F3 B G_FIGURES G_MOST_FIGURES G_WIDEST) b3
 have D_w_signs:=cj (P:=l.prog) (w:=w) (base:=base) F4 (PySem.W.mg_of X G a4) (Bh F4 B G_FIGURES G_MOST_FIGURES G_WIDEST) b4
 have D_w_odd_part:=cj (P:=l.prog) (w:=w) (base:=base) F5 (PySem.W.mg_of X G a5) (Bi F5 B G_FIGURES G_MOST_FIGURES G_WIDEST) b5
 have D_is_written_number:=cj (P:=l.prog) (w:=w) (base:=base) F6 (PySem.W.mg_of X G a6) (Bj F6 B G_FIGURES G_MOST_FIGURES G_WIDEST D_is_written_place) b6
 have D_w_spoiled:=cj (P:=l.prog) (w:=w) (base:=base) F7 (PySem.W.mg_of X G a7) (Bk F7 B G_FIGURES G_MOST_FIGURES G_WIDEST D_w_odd_part D_w_signs) b7
 have D_read_number:=cj (P:=l.prog) (w:=w) (base:=base) F8 (PySem.W.mg_of X G a8) (Bl F8 B G_FIGURES G_MOST_FIGURES G_WIDEST D_is_written_number) b8
 have D_read_row:=cj (P:=l.prog) (w:=w) (base:=base) F9 (PySem.W.mg_of X G a9) (Bm F9 B G_FIGURES G_MOST_FIGURES G_WIDEST D_read_number) b9
 have D_read_entry:=cj (P:=l.prog) (w:=w) (base:=base) F10 (PySem.W.mg_of X G a10) (Bn F10 B G_FIGURES G_MOST_FIGURES G_WIDEST D_read_row D_read_number) b10
 have D_read_heap:=cj (P:=l.prog) (w:=w) (base:=base) F11 (PySem.W.mg_of X G a11) (Bo F11 B G_FIGURES G_MOST_FIGURES G_WIDEST D_read_entry D_heap_of) b11
 have O:=AI KB (PySem.W.mg_of X G ye1) yeo
 have DX_read_number:DefX l.prog w K mg base C 3 "read_number" ["text"] (spX K C bE):=⟨_,_,Bp F8 B G_FIGURES G_MOST_FIGURES G_WIDEST D_is_written_number O F.excBase_ValueError,PySem.W.mg_of X G a8,k8,b8⟩
 have DX_read_row:DefX l.prog w K mg base C 4 "read_row" ["text"] (spX K C dM):=⟨_,_,Bq F9 B G_FIGURES G_MOST_FIGURES G_WIDEST D_read_number O F.excBase_ValueError DX_read_number,PySem.W.mg_of X G a9,k9,b9⟩
 have DX_read_entry:DefX l.prog w K mg base C 5 "read_entry" ["text"] (spX K C cg):=⟨_,_,Br F10 B G_FIGURES G_MOST_FIGURES G_WIDEST D_read_row D_read_number O F.excBase_ValueError DX_read_number DX_read_row,PySem.W.mg_of X G a10,k10,b10⟩
 have DX_read_heap:DefX l.prog w K mg base C 6 "read_heap" ["text"] (spX K C bo):=⟨_,_,Bt F11 B G_FIGURES G_MOST_FIGURES G_WIDEST D_read_entry D_heap_of O F.excBase_ValueError DX_read_entry,PySem.W.mg_of X G a11,k11,b11⟩
 have D_w_refused:=cj (P:=l.prog) (w:=w) (base:=base) F12 (PySem.W.mg_of X G a12) (Bu F12 B G_FIGURES G_MOST_FIGURES G_WIDEST DX_read_heap ⟨yf1,yf2,yf3,yf4,yf5,yf6,yf7,yf8⟩ (PySem.W.mg_of X G ye1) (PySem.W.mg_of X G ye2) (PySem.W.mg_of X G ye3) (PySem.W.mg_of X G ye4) (PySem.W.mg_of X G ye5) (PySem.W.mg_of X G ye6) (PySem.W.mg_of X G ye7) (PySem.W.mg_of X G ye8) (PySem.W.mg_of X G ye9) (PySem.W.mg_of X G ye10) (PySem.W.mg_none_of X G yev) yex1 yex2 yekt yekn yekv) b12
 exact Bv F13 B G_FIGURES G_MOST_FIGURES G_WIDEST D_w_mixed D_w_refused D_w_spoiled D_read_heap
theorem walk {l:PySem.W.OpenLaw}{q:Program}{loose:List Str}{XP:(Str->Option Value)->Heap->Prop}{YP:World->Heap->Prop}{d:DefRec}{K:Params->PySem.W.Frag} (hn:l.most=some 63) (hdf:d.params.defaults=[])
  (hY: ∀(w:World) (h:Heap),YP w h->(K w.params).In h)
  (F: ∀(w:World) (mg:Str->Option Value) (fa:Addr) (h:Heap),(K w.params).In h->h.Ns mainGlobals mg->mg d.name=some (.ref fa)->
   ∃fd:FuncData,(∀(s:Shared) (u:Value),BindsTo s fd ⟨[u],[]⟩ [("_law_script",u)])/\ ∀base:Heap,(K w.params).In base->base.Ns mainGlobals mg->FnOk l.prog w (K w.params) mg base CX0 8 fa fd ["_law_script"] (spD (K w.params) .imm gf)):
  PySem.W.WalkO q loose XP YP l.row.toRowW d [] (fun f vs=>PySem.call f vs):=
 L2.u0 (n:=63) (k:=8) (x:="_law_script") (CX:=fun _=>CX0) (sp:=fun w=>spD (K w.params) .imm gf) hn (by decide) hdf ⟨rfl,by decide,by decide⟩ hY F (fun _ _ a ns hl hO hS=>vS hO hS (Cv ns hl)) fun _ _ _ _ _ z=>z
end K58
open PySem PySem.W PyProof.Rows
set_option maxRecDepth 100000 in
set_option maxHeartbeats 0 in
theorem PySem.Challenge.cw_deltahouse_k58_heaps_refused_holds : PySem.Challenge.rw_deltahouse_k58_heaps_refused.Holds := by
 w_on;o_law;k_head;(case hw=>w_witness2)
 k_fill
 refine K58.walk (l:=PySem.Challenge.rw_deltahouse_k58_heaps_refused) rfl rfl (fun w h Y=>PySem.W.kIn_of Y) ?F
 case F=>
  intro w mg fa h KX G hmg
  refine' K58.Cw KX G hmg ?a1 ?l1 ?c1 ?k1 ?a2 ?l2 ?c2 ?k2 ?a3 ?l3 ?c3 ?k3 ?a4 ?l4 ?c4 ?k4 ?a5 ?l5 ?c5 ?k5 ?a6 ?l6 ?c6 ?k6 ?a7 ?l7 ?c7 ?k7 ?a8 ?l8 ?c8 ?k8 ?a9 ?l9 ?c9 ?k9 ?a10 ?l10 ?c10 ?k10 ?a11 ?l11 ?c11 ?k11 ?a12 ?l12 ?c12 ?k12 ?a13 ?l13 ?c13 ?k13 ?z1 ?z2 ?z3 ?z4 ?z5 ?z6 ?z7 ?z8 ?z9 ?z10 ?g1 ?g2 ?g3 ?ye1 ?ye2 ?ye3 ?ye4 ?ye5 ?ye6 ?ye7 ?ye8 ?ye9 ?ye10 ?yev ?yeo ?yex1 ?yex2 ?yekt ?yekn ?yekv ?yf1 ?yf2 ?yf3 ?yf4 ?yf5 ?yf6 ?yf7 ?yf8
  (case a1=>k_is);(case l1=>k_is);(case c1=>k_is);(case k1=>k_is)
  (case a2=>k_is);(case l2=>k_is);(case c2=>k_is);(case k2=>k_is)
  (case a3=>k_is);(case l3=>k_is);(case c3=>k_is);(case k3=>k_is)
  (case a4=>k_is);(case l4=>k_is);(case c4=>k_is);(case k4=>k_is)
  (case a5=>k_is);(case l5=>k_is);(case c5=>k_is);(case k5=>k_is)
  (case a6=>k_is);(case l6=>k_is);(case c6=>k_is);(case k6=>k_is)
  (case a7=>k_is);(case l7=>k_is);(case c7=>k_is);(case k7=>k_is)
  (case a8=>k_is);(case l8=>k_is);(case c8=>k_is);(case k8=>k_is)
  (case a9=>k_is);(case l9=>k_is);(case c9=>k_is);(case k9=>k_is)
  (case a10=>k_is);(case l10=>k_is);(case c10=>k_is);(case k10=>k_is)
  (case a11=>k_is);(case l11=>k_is);(case c11=>k_is);(case k11=>k_is)
  (case a12=>k_is);(case l12=>k_is);(case c12=>k_is);(case k12=>k_is)
  (case a13=>k_is);(case l13=>k_is);(case c13=>k_is);(case k13=>k_is)
  (case z1=>k_is);(case z2=>k_is);(case z3=>k_is);(case z4=>k_is)
  (case z5=>k_is);(case z6=>k_is);(case z7=>k_is);(case z8=>k_is)
  (case z9=>k_is);(case z10=>k_is);(case g1=>k_is);(case g2=>k_is)
  (case g3=>k_is)
  (case ye1=>k_is)
  (case ye2=>k_is)
  (case ye3=>k_is)
  (case ye4=>k_is)
  (case ye5=>k_is)
  (case ye6=>k_is)
  (case ye7=>k_is)
  (case ye8=>k_is)
  (case ye9=>k_is)
  (case ye10=>k_is)
  (case yev=>k_is)
  (case yeo=>k_exc)
  (case yex1=>kts_exm)
  (case yex2=>kts_exm)
  (case yekt=>kit_is)
  (case yekn=>kit_is)
  (case yekv=>kit_is)
  (case yf1=>k_is)
  (case yf2=>k_is)
  (case yf3=>k_is)
  (case yf4=>k_is)
  (case yf5=>k_is)
  (case yf6=>k_is)
  (case yf7=>k_is)
  (case yf8=>k_is)
