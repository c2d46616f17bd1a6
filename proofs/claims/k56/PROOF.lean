import PyProof.Rows.All
import Wide.All
import OpenK.AllK
import Wide.FinOn
import Lean
import PyProof.EqAt
import PyProof.EqKinds
import PyProof.TupleCall
import KE.KLam
import KE.KNestM
import PyProof.P3Eq
import PyProof.NeData
import KE.KIsAll
import PyProof.SumAny
import PyProof.Rows.SortShell
import PyProof.Rows.SortRuns
import KE.KSortTup
import KE.KDictSum
import PyProof.ZipIter
import KE.KRevIter
import PyProof.P3In
import KE.KDictList
import PyProof.DictFindH
import PyProof.DictRoadsH
import PyProof.Rows.ListMulArg
import PyProof.AttrMissHeap
import KE.KDictOf
import PyProof.CollectWalk
import PyProof.MaxThree
import PyProof.AutoSeq1
import PyProof.Rows.MinMaxN
import KE.KIntText
import PyProof.Rows.StrJoin2
import PyProof.Rows.StrSplitAre
import PyProof.StrOps2
import PyProof.Rows.SetFrom
import PyProof.SetRoads
import KE.KEqDict
import PyProof.Rows.Range3
import PyProof.ExcArgsOwn
import PyProof.NsDelKeeps
import KE.KTryMore
import PyProof.ExcBaseAll.ValueError
import PyProof.StrLawsIdx
import KE.RegKIsAll
import KE.RegKTryMore
import PySem.Challenge.RW_deltahouse_k56_rows_refused
set_option Elab.async false
set_option linter.all false
set_option maxRecDepth 100000
set_option maxHeartbeats 4000000
namespace L2
open PySem PySem.Spec PyProof.Rows
noncomputable abbrev Key:=Sum Int Str
noncomputable def cM:Key->Value->Bool
 | .inl k,v=>Value.isInt k v
 | .inr x,v=>Value.isStrOf x v
noncomputable def keyH (w:World):Key->Int
 | .inl k=>hashInt k
 | .inr x=>hashStr w x
theorem keyIs_shape: ∀{k:Key}{v:Value},cM k v=true->(∃i t,k=Sum.inl i/\v=Value.int i t) \/(∃x t,k=Sum.inr x/\v=Value.str x t)
 | .inl i,v,h=>by
  obtain ⟨t,e⟩:=Value.isInt_shape (k:=i) (v:=v) h
  exact .inl ⟨i,t,rfl,e⟩
 | .inr x,v,h=>by
  obtain ⟨t,e⟩:=Value.isStrOf_shape (x:=x) (v:=v) h
  exact .inr ⟨x,t,rfl,e⟩
theorem lb (i:Int) (t:Tok):cM (.inl i) (.int i t)=true:=by simp [cM,Value.isInt]
theorem lf (x:Str) (t:Tok):cM (.inr x) (.str x t)=true:=by simp [cM,Value.isStrOf]
theorem lg (a b:Int):decide ((Sum.inl a:Key)=Sum.inl b)=(a==b):=by
 by_cases e:a=b
 ·subst e;simp
 ·have h: ¬(Sum.inl a:Key)=Sum.inl b:=fun q=>e (Sum.inl.inj q)
  rw [decide_eq_false h]
  exact (beq_eq_false_iff_ne.mpr e).symm
theorem lh (a b:Str):decide ((Sum.inr a:Key)=Sum.inr b)=decide (a=b):=by
 by_cases e:a=b
 ·subst e;simp
 ·have h: ¬(Sum.inr a:Key)=Sum.inr b:=fun q=>e (Sum.inr.inj q)
  rw [decide_eq_false h,decide_eq_false e]
theorem li (a:Int) (b:Str):decide ((Sum.inl a:Key)=Sum.inr b)=false:=decide_eq_false (fun q=>nomatch q)
theorem lj (a:Str) (b:Int):decide ((Sum.inr a:Key)=Sum.inl b)=false:=decide_eq_false (fun q=>nomatch q)
noncomputable def aG (prog:Program) (w:World):PySem.KeyKind prog w Key where
 is:=cM
 hash:=keyH w
 inj:=fun v a b ha hb=>by
  rcases keyIs_shape ha with ⟨i,t,rfl,rfl⟩|⟨x,t,rfl,rfl⟩
  ·rcases keyIs_shape hb with ⟨j,u,rfl,e⟩|⟨y,u,rfl,e⟩
   ·injection e with e1 _;rw [e1]
   ·exact nomatch e
  ·rcases keyIs_shape hb with ⟨j,u,rfl,e⟩|⟨y,u,rfl,e⟩
   ·exact nomatch e
   ·injection e with e1 _;rw [e1]
 byValue:=fun k v h=>by
  rcases keyIs_shape h with ⟨i,t,rfl,rfl⟩|⟨x,t,rfl,rfl⟩<;>rfl
 pyHash:=fun hv h=>by
  rcases keyIs_shape hv with ⟨i,t,rfl,rfl⟩|⟨x,t,rfl,rfl⟩
  ·exact wpAny_pyHash_int h
  ·exact wpAny_pyHash_str h
 eqBool:=fun hu hv h=>by
  rcases keyIs_shape hu with ⟨i,t,rfl,rfl⟩|⟨x,t,rfl,rfl⟩
  ·rcases keyIs_shape hv with ⟨j,u,rfl,rfl⟩|⟨y,u,rfl,rfl⟩
   ·rw [lg] at h;exact wpAny_eqBool_int h
   ·rw [li] at h;exact SeqAt.EqAt.int_str i t y u _ _ _ _ h
  ·rcases keyIs_shape hv with ⟨j,u,rfl,rfl⟩|⟨y,u,rfl,rfl⟩
   ·rw [lj] at h;exact SeqAt.EqAt.str_int x t j u _ _ _ _ h
   ·rw [lh] at h;exact wpAny_eqBool_str h
 «strs»:=fun k x t v h=>by
  rcases keyIs_shape h with ⟨i,u,rfl,e⟩|⟨y,u,rfl,e⟩
  ·exact nomatch e
  ·injection e with e1 _
   subst e1
   cases v<;>rfl
theorem ll (prog:Program) (w:World) (i:Int) (t:Tok):(aG prog w).is (.inl i) (.int i t)=true:=lb i t
theorem lq (prog:Program) (w:World) (x:Str) (t:Tok):(aG prog w).is (.inr x) (.str x t)=true:=lf x t
end L2
namespace L2
open PySem PySem.Spec PyProof.Rows
inductive V where
 |non|bl (b:Bool)|int (i:Int)|str (x:Str)|byt (b:Array UInt8)|flt (b:UInt64)|ref (a:Addr)|ty (n:String)
 deriving DecidableEq
noncomputable def RelV:V->Value->Prop
 | .non,u=>u=Value.none
 | .bl b,u=>u=Value.bool b
 | .int i,u=> ∃t,u=Value.int i t
 | .str x,u=> ∃t,u=Value.str x t
 | .byt b,u=> ∃t,u=Value.bytes b t
 | .flt b,u=> ∃t,u=Value.float b t
 | .ref a,u=>u=Value.ref a
 | .ty n,u=>u=Value.type n
noncomputable abbrev Vals:List V->List Value->Prop:=Paired RelV
theorem Vals.length {xs:List V}{us:List Value} (r:Vals xs us):xs.length=us.length:=Paired.length r
theorem Vals.get: ∀{xs:List V}{us:List Value}{i:Nat}{x:V},Vals xs us->xs[i]?=some x-> ∃u,us[i]?=some u/\RelV x u
 |_,_,_,_,.nil,e=>by simp at e
 |_,_,0,_,.cons r _,e=>by simp at e;subst e;exact ⟨_,rfl,r⟩
 |_,_,i+1,x,.cons _ t,e=>by
  obtain ⟨u,h1,h2⟩:=Vals.get (i:=i) (x:=x) t (by simpa using e)
  exact ⟨u,by simpa using h1,h2⟩
theorem Vals.set {x:V}{u:Value} (r:RelV x u): ∀{xs:List V}{us:List Value} (i:Nat),Vals xs us->Vals (xs.set i x) (us.set i u)
 |_,_,_,.nil=> .nil
 |_,_,0,.cons _ t=> .cons r t
 |_,_,i+1,.cons q t=> .cons q (Vals.set r i t)
theorem Vals.append: ∀{xs ys:List V}{us ws:List Value},Vals xs us->Vals ys ws->Vals (xs++ys) (us++ws)
 |_,_,_,_,.nil,s=>s
 |_,_,_,_,.cons r t,s=> .cons r (Vals.append t s)
theorem Vals.take: ∀{xs:List V}{us:List Value} (n:Nat),Vals xs us->Vals (xs.take n) (us.take n)
 |_,_,0,_=> .nil
 |_,_,_+1,.nil=> .nil
 |_,_,n+1,.cons r t=> .cons r (Vals.take n t)
theorem Vals.drop: ∀{xs:List V}{us:List Value} (n:Nat),Vals xs us->Vals (xs.drop n) (us.drop n)
 |_,_,0,r=>r
 |_,_,_+1,.nil=> .nil
 |_,_,n+1,.cons _ t=>Vals.drop n t
theorem Vals.none_of: ∀{xs:List V}{us:List Value}{i:Nat},Vals xs us->xs[i]?=none->us[i]?=none:=fun {xs us i} r e=>by
 have h1:=r.length
 have h2:xs.length<=i:=List.getElem?_eq_none_iff.mp e
 exact List.getElem?_eq_none_iff.mpr (by lia)
noncomputable def RelO:Option V->Option Value->Prop
 |some v,some u=>RelV v u
 |none,none=>True
 |_,_=>False
noncomputable def KV {κ:Type}:List (κ×V)->List (κ×Value)->Prop:=Paired fun (p:κ×V) (q:κ×Value)=>p.1=q.1/\RelV p.2 q.2
noncomputable def kV:Key->V
 | .inl i=> .int i
 | .inr x=> .str x
inductive HO where
 |lst (xs:List V)
 |tup (xs:List V)
 |dK (kvs:List (Key×V))|dT (kvs:List (List Key×V))
 |set (S:Int->Bool) (n:Nat)
 |ins (C dx:Addr) (fs:List (Str×V))
 |own (x:Addr)
 |xd (fs:List (Str×V))
 |met (f x:Addr)
 |rng (lo hi:Int)
 |frz (o:Obj) (u:HO)
 |tbl (q:Str)
 |ext (φ:Heap->Prop)
noncomputable abbrev Hp:=Addr->Option HO
noncomputable def upd (H:Hp) (a:Addr) (o:HO):Hp:=fun b=>if b=a then some o else H b
theorem ax {H:Hp}{a:Addr}{o:HO}:upd H a o a=some o:=by unfold upd;rw [if_pos rfl]
theorem al {H:Hp}{a b:Addr}{o:HO} (h:b≠a):upd H a o b=H b:=by unfold upd;rw [if_neg h]
theorem aY {H:Hp}{a b:Addr}{o:HO} (h:H a=some o) (h':H b=none):a≠b:=by
 intro e;subst e;rw [h] at h';cases h'
noncomputable def cN (h:Heap) (a:Addr) (items:Array Value):Prop:= ∃o,h.get? a=some o/\o.cls= .type "tuple"/\(∃n,o.data= .seq items n)/\o.dict=none
theorem cN.tup {h:Heap}{a:Addr}{items:Array Value} (x:cN h a items):IsTup h a items:=let ⟨o,h1,h2,h3,_⟩:=x;⟨o,h1,h2,h3⟩
theorem cN.new (h:Heap) (items:Array Value):cN (h.push {cls:= .type "tuple",data:= .seq items}) h.objs.size items:=⟨_,Heap.get?_push_size _ rfl,rfl,⟨_,rfl⟩,rfl⟩
section
variable (P:Program) (w:World)
noncomputable def au (H:Hp) (h:Heap) (a:Addr):HO->Prop
 | .lst xs=>xs.length<=sizeLine/\ ∃(its:List Value) (n:Nat),Vals xs its/\h.get? a=some {cls:= .type "list",data:= .seq its.toArray n}
 | .tup xs=>xs.length<=sizeLine/\ ∃its:List Value,Vals xs its/\cN h a its.toArray
 | .dK kvs=>kvs.length<=sizeLine/\(a==sysModules)=false/\ ∃vs,KV kvs vs/\h.DictOf (aG P w) a vs
 | .dT kvs=>kvs.length<=sizeLine/\(a==sysModules)=false/\ ∃xs:List (List Key×Addr×Value),
   Paired (fun (p:List Key×V) (q:List Key×Addr×Value)=>p.1=q.1/\H q.2.1=some (.tup (p.1.map kV))/\RelV p.2 q.2.2) kvs xs/\
   ∃o es ep,h.get? a=some o/\o.ExactDict/\o.data= .dict es ep/\es.toList=xs.map (entryOfKey (tupleKind (aG P w)))/\(xs.map (·.1)).Nodup
 | .set S n=>h.SetOf (intKind P w) a S n
 | .ins C dx fs=>H dx=some (.own a)/\fs.length<=1000/\dx≠a/\h.get? a=some (PySem.W.instObj C dx)/\
   ∃mA,h.Ns1 dx mA/\(∀f,RelO (fs.lookup f) (mA f))/\PySem.Within mA (fs.map (·.1))
 | .own _=> ∃o,h.get? a=some o
 | .xd fs=> ∃mA,h.Ns1 a mA/\ ∀f,RelO (fs.lookup f) (mA f)
 | .rng lo hi=> ∃t u v,h.get? a=some {cls:= .type "range",data:= .fields #[.int lo t,.int hi u,.int 1 v]}
 | .frz o u=>h.get? a=some o/\au H h a u
 | .tbl q=> ∃ps:Array Value,h.get? a=some {cls:= .none,data:= .fields ps}/\TriplesOk ps.toList/\ ∀pos cv,codeAmong pos ps.toList=some cv-> ∃(c:Addr) (oc:Obj) (vs:Array Value) (t:Tok),cv= .ref c/\H c=some (.frz oc (.own 0))/\oc.data= .fields vs/\vs[1]?=some (.str q t)
 | .met f x=>h.get? a=some (PySem.W.methodObj (.ref f) (.ref x))
 | .ext φ=>φ h/\(∃o,h.get? a=some o)/\ ∀h1 h2:Heap,φ h1->(∀o,h1.get? a=some o->h2.get? a=some o)->φ h2
noncomputable def HOk (H:Hp) (h:Heap):Prop:= ∀a o,H a=some o->au P w H h a o
end
section
variable {P:Program}{w:World}{H H':Hp}{h h':Heap}{a:Addr}{o:HO}
theorem au.lt (x:au P w H h a o):a<h.objs.size:=by
 cases o with
 |lst xs=>obtain ⟨_,_,_,_,e⟩:=x;exact Heap.lt_size e
 |tup xs=>obtain ⟨_,_,_,p⟩:=x;exact p.tup.lt
 |dK kvs=>obtain ⟨_,_,_,_,o,_,_,e,_⟩:=x;exact Heap.lt_size e
 |dT kvs=>obtain ⟨_,_,_,_,o,_,_,e,_⟩:=x;exact Heap.lt_size e
 |set S n=>obtain ⟨o,_,_,_,e,_⟩:=x;exact Heap.lt_size e
 |ins C dx fs=>obtain ⟨_,_,_,e,_⟩:=x;exact Heap.lt_size e
 |own y=>obtain ⟨_,e⟩:=x;exact Heap.lt_size e
 |xd fs=>obtain ⟨_,⟨_,_,_,e,_⟩,_⟩:=x;exact Heap.lt_size e
 |rng lo hi=>obtain ⟨_,_,_,e⟩:=x;exact Heap.lt_size e
 |frz ob u=>obtain ⟨e,_⟩:=x;exact Heap.lt_size e
 |tbl q=>obtain ⟨_,e,_⟩:=x;exact Heap.lt_size e
 |met f y=>exact Heap.lt_size (show h.get? a=some _ from x)
 |ext φ=>obtain ⟨_,⟨_,e⟩,_⟩:=x;exact Heap.lt_size e
theorem Paired.mapP {α β:Type}{F G:α->β->Prop}: ∀{l₁:List α}{l₂:List β},Paired F l₁ l₂->(∀a b,F a b->G a b)->Paired G l₁ l₂
 |_,_,.nil,_=> .nil
 |_,_,.cons r t,f=> .cons (f _ _ r) (Paired.mapP t f)
theorem Paired.imp' {α β:Type}{F G:α->β->Prop} (f: ∀a b,F a b->G a b) {l₁:List α}{l₂:List β} (r:Paired F l₁ l₂):Paired G l₁ l₂:=Paired.mapP r f
theorem au.stay (x:au P w H h a o) (k: ∀b u,(b=a \/H b=some (.own a))->h.get? b=some u->h'.get? b=some u)
  (ho: ∀b,H b=some (.own a)->H' b=some (.own a)) (ht: ∀b xs,H b=some (.tup xs)->H' b=some (.tup xs)) (hc: ∀b ob u,(∃vs,ob.data= .fields vs)->H b=some (.frz ob u)->H' b=some (.frz ob u):=by exact fun _ _ _ _ q=>q):au P w H' h' a o:=by
 induction o with
 |lst xs=>obtain ⟨z,its,n,r,e⟩:=x;exact ⟨z,its,n,r,k _ _ (.inl rfl) e⟩
 |tup xs=>obtain ⟨z,its,r,ob,e,c⟩:=x;exact ⟨z,its,r,ob,k _ _ (.inl rfl) e,c⟩
 |dK kvs=>obtain ⟨z,y,vs,r,ob,es,ep,e,c⟩:=x;exact ⟨z,y,vs,r,ob,es,ep,k _ _ (.inl rfl) e,c⟩
 |dT kvs=>
  obtain ⟨z,y,xs,r,ob,es,ep,e,c⟩:=x
  exact ⟨z,y,xs,Paired.mapP r fun p q z=>⟨z.1,ht _ _ z.2.1,z.2.2⟩,ob,es,ep,k _ _ (.inl rfl) e,c⟩
 |set S n=>obtain ⟨ob,es,ep,t,e,c⟩:=x;exact ⟨ob,es,ep,t,k _ _ (.inl rfl) e,c⟩
 |ins C dx fs=>
  obtain ⟨d,z,ne,e,mA,⟨od,es,ep,e2,c⟩,r⟩:=x
  exact ⟨ho _ d,z,ne,k _ _ (.inl rfl) e,mA,⟨od,es,ep,k _ _ (.inr d) e2,c⟩,r⟩
 |own y=>obtain ⟨ob,e⟩:=x;exact ⟨ob,k _ _ (.inl rfl) e⟩
 |xd fs=>obtain ⟨mA,⟨od,es,ep,e,c⟩,r⟩:=x;exact ⟨mA,⟨od,es,ep,k _ _ (.inl rfl) e,c⟩,r⟩
 |rng lo hi=>obtain ⟨t,u,v,e⟩:=x;exact ⟨t,u,v,k _ _ (.inl rfl) e⟩
 |frz ob u ih=>obtain ⟨e,q⟩:=x;exact ⟨k _ _ (.inl rfl) e,ih q⟩
 |tbl q=>
  obtain ⟨ps,e,t,l⟩:=x
  exact ⟨ps,k _ _ (.inl rfl) e,t,fun pos cv ec=>by obtain ⟨c,oc,vs,t,r,z,d,g⟩:=l pos cv ec;exact ⟨c,oc,vs,t,r,hc c oc (.own 0) ⟨vs,d⟩ z,d,g⟩⟩
 |met f y=>
  have e:h.get? a=some (PySem.W.methodObj (.ref f) (.ref y)):=x
  show h'.get? a=some (PySem.W.methodObj (.ref f) (.ref y))
  exact k a _ (.inl rfl) e
 |ext φ=>obtain ⟨p,⟨o,e⟩,st⟩:=x;exact ⟨st _ _ p fun o q=>k _ _ (.inl rfl) q,⟨o,k _ _ (.inl rfl) e⟩,st⟩
theorem HOk.lt (x:HOk P w H h) (e:H a=some o):a<h.objs.size:=(x a o e).lt
theorem HOk.fresh (x:HOk P w H h) (e:h.objs.size<=a):H a=none:=by
 cases q:H a with
 |none=>rfl
 |some u=>exact absurd (Nat.lt_of_lt_of_le (x.lt q) e) (Nat.lt_irrefl _)
theorem HOk.kept (x:HOk P w H h) (k: ∀b u,h.get? b=some u->h'.get? b=some u):HOk P w H h':=fun a o e=>
 (x a o e).stay (fun b u _ q=>k b u q) (fun _ q=>q) fun _ _ q=>q
theorem HOk.laid (x:HOk P w H h) (k: ∀b u,h.get? b=some u->h'.get? b=some u) (hp:h.objs.size<=a) (new:au P w (upd H a o) h' a o):HOk P w (upd H a o) h':=fun b u e=>by
 have hn:=x.fresh hp
 by_cases hb:b=a
 ·subst hb;rw [ax] at e;cases e;exact new
 ·rw [al hb] at e
  exact (x b u e).stay (fun c v _ q=>k c v q) (fun c q=>by rw [al (aY q hn)];exact q) (fun c xs q=>by rw [al (aY q hn)];exact q) fun c _ _ _ q=>by rw [al (aY q hn)];exact q
end
noncomputable def Rd (H:Hp) (a:Addr) (u:HO):Prop:=H a=some u \/ ∃o,H a=some (.frz o u)
theorem Rd.of {H:Hp}{a:Addr}{u:HO} (h:H a=some u):Rd H a u:= .inl h
theorem Rd.ok {P:Program}{w:World}{H:Hp}{h:Heap}{a:Addr}{u:HO} (r:Rd H a u) (x:HOk P w H h):au P w H h a u:=by
 rcases r with r|⟨o,r⟩
 ·exact x a u r
 ·obtain ⟨_,q⟩:=x a _ r
  exact q
noncomputable def Mut:Option HO->Prop
 |some (.lst _)=>True
 |some (.dK _)=>True
 |some (.dT _)=>True
 |some (.set _ _)=>True
 |some (.ins _ _ _)=>True
 |some (.ext _)=>True
 |_=>False
section
variable {P:Program}{w:World}{H:Hp}{h h':Heap}{x e:Addr}{o':HO}
theorem HOk.write (ok:HOk P w H h) (mu:Mut (H x)) (he:e=x \/H e=some (.own x)) (k: ∀b u,b≠e->h.get? b=some u->h'.get? b=some u) (heo: ∃u,h'.get? e=some u)
  (new:au P w (upd H x o') h' x o'):HOk P w (upd H x o') h':=fun b u q=>by
 have nown: ∀c y,H c=some (.own y)->c≠x:=fun c y r z=>by subst z;rw [r] at mu;exact mu
 have ntup: ∀c xs,H c=some (.tup xs)->c≠x:=fun c xs r z=>by subst z;rw [r] at mu;exact mu
 have nfrz: ∀c ob u,H c=some (.frz ob u)->c≠x:=fun c ob u r z=>by subst z;rw [r] at mu;exact mu
 by_cases hb:b=x
 ·subst hb;rw [ax] at q;cases q;exact new
 ·rw [al hb] at q
  by_cases hbe:b=e
  ·have q':H b=some (.own x):=by
    rcases he with z|z
    ·exact absurd (hbe.trans z) hb
    ·rw [hbe];exact z
   rw [q] at q';cases q'
   obtain ⟨v,hv⟩:=heo
   exact ⟨v,by rw [hbe];exact hv⟩
  ·refine (ok b u q).stay (fun c v hc r=>k c v ?_ r) (fun c r=>by rw [al (nown c b r)];exact r) (fun c xs r=>by rw [al (ntup c xs r)];exact r) fun c _ _ _ r=>by rw [al (nfrz c _ _ r)];exact r
   rcases hc with rfl|hc
   ·exact hbe
   ·rintro rfl
    rcases he with z|z
    ·exact nown c b hc z
    ·rw [hc] at z;cases z;exact hb rfl
end
structure Un (fs ex:List Addr) (H H':Hp) (h h':Heap):Prop where
 keep: ∀b o,h.get? b=some o->H b=none->b∉fs->b∉ex->h'.get? b=some o
 slot: ∀b o,h.get? b=some o->H b=none->b∈fs->b∉ex-> ∃sl,h'.get? b=some {o with slots:=sl}
 free: ∀b o,h.get? b=some o->H b=none->b∉ex->H' b=none
 there: ∀b o,h.get? b=some o->b∉ex-> ∃o',h'.get? b=some o'
 tups: ∀b xs,H b=some (.tup xs)->H' b=some (.tup xs)
 frzs: ∀b o u,H b=some (.frz o u)->H' b=some (.frz o u)
 tbls: ∀b q,H b=some (.tbl q)->H' b=some (.tbl q)
section
variable {fs fs' ex ex':List Addr}{H H1 H2:Hp}{h h1 h2 h':Heap}{a x e:Addr}{o:HO}
theorem Un.any (u:Un fs ex H H1 h h1) {b:Addr}{ob:Obj} (q:h.get? b=some ob) (n:H b=none) (hx:b∉ex): ∃sl,h1.get? b=some {ob with slots:=sl}:=by
 by_cases hb:b∈fs
 ·exact u.slot b ob q n hb hx
 ·exact ⟨ob.slots,u.keep b ob q n hb hx⟩
theorem Un.trans (a:Un fs ex H H1 h h1) (b:Un fs ex H1 H2 h1 h2):Un fs ex H H2 h h2 where
 keep:=fun c ob q n hc hx=>b.keep c ob (a.keep c ob q n hc hx) (a.free c ob q n hx) hc hx
 slot:=fun c ob q n hc hx=>by
  obtain ⟨sl,e1⟩:=a.slot c ob q n hc hx
  obtain ⟨sl',e2⟩:=b.slot c _ e1 (a.free c ob q n hx) hc hx
  exact ⟨sl',e2⟩
 free:=fun c ob q n hx=>by
  obtain ⟨o',e1⟩:=a.there c ob q hx
  exact b.free c o' e1 (a.free c ob q n hx) hx
 there:=fun c ob q hx=>by
  obtain ⟨o',e1⟩:=a.there c ob q hx
  exact b.there c o' e1 hx
 tups:=fun c xs q=>b.tups c xs (a.tups c xs q)
 frzs:=fun c ob xs q=>b.frzs c ob xs (a.frzs c ob xs q)
 tbls:=fun c ps q=>b.tbls c ps (a.tbls c ps q)
theorem Un.kept (k: ∀b u,h.get? b=some u->h'.get? b=some u):Un fs ex H H h h':=
 ⟨fun b ob q _ _ _=>k b ob q,fun b ob q _ _ _=>⟨ob.slots,k b ob q⟩,fun _ _ _ n _=>n,fun b ob q _=>⟨ob,k b ob q⟩,fun _ _ q=>q,fun _ _ _ q=>q,fun _ _ q=>q⟩
theorem Un.refl:Un fs ex H H h h:=Un.kept fun _ _ q=>q
theorem Un.laid (k: ∀b u,h.get? b=some u->h'.get? b=some u) (hp:h.objs.size<=a) (hn:H a=none):Un fs ex H (upd H a o) h h' where
 keep:=fun b u q _ _ _=>k b u q
 slot:=fun b u q _ _ _=>⟨u.slots,k b u q⟩
 free:=fun b u q n _=>by rw [al (Nat.ne_of_lt (Nat.lt_of_lt_of_le (Heap.lt_size q) hp))];exact n
 there:=fun b u q _=>⟨u,k b u q⟩
 tups:=fun b xs q=>by rw [al (aY q hn)];exact q
 frzs:=fun b u xs q=>by rw [al (aY q hn)];exact q
 tbls:=fun b ps q=>by rw [al (aY q hn)];exact q
theorem Un.write (mu:Mut (H x)) (he:e=x \/H e=some (.own x)) (k: ∀b u,b≠e->h.get? b=some u->h'.get? b=some u) (heo: ∃u,h'.get? e=some u):Un fs ex H (upd H x o) h h':=by
 have hx: ∀b,H b=none->b≠x:=fun b n z=>by subst z;rw [n] at mu;exact mu
 have hb: ∀b,H b=none->b≠e:=fun b n z=>by
  subst z
  rcases he with r|r
  ·exact hx b n r
  ·rw [n] at r;cases r
 have hm: ∀b u,H b=some u-> ¬Mut (some u)->b≠x:=fun b u q nm z=>by subst z;rw [q] at mu;exact nm mu
 refine ⟨fun b u q n _ _=>k b u (hb b n) q,fun b u q n _ _=>⟨u.slots,k b u (hb b n) q⟩,fun b u q n _=>by rw [al (hx b n)];exact n,fun b u q _=> ?_,
  fun b xs q=>by rw [al (hm b _ q fun z=>z)];exact q,fun b u xs q=>by rw [al (hm b _ q fun z=>z)];exact q,fun b ps q=>by rw [al (hm b _ q fun z=>z)];exact q⟩
 by_cases hbe:b=e
 ·subst hbe;exact heo
 ·exact ⟨u,k b u hbe q⟩
theorem Un.mono (u:Un fs ex H H1 h h1) (hs: ∀b∈fs,b∈fs') (hx: ∀b∈ex,b∈ex'):Un fs' ex' H H1 h h1:=
 ⟨fun b ob q n hb he=>u.keep b ob q n (fun z=>hb (hs b z)) fun z=>he (hx b z),fun _ _ q n _ he=>u.any q n fun z=>he (hx _ z),fun b ob q n he=>u.free b ob q n fun z=>he (hx b z),fun b ob q he=>u.there b ob q fun z=>he (hx b z),u.tups,u.frzs,u.tbls⟩
end
noncomputable def trk (h:Heap) (H:Hp):List Addr:=(List.range h.objs.size).filter fun a=>(H a).isSome
noncomputable def hidT (h:Heap) (H:Hp):Heap:=PySem.W.hideAll h (trk h H)
theorem ls (h:Heap) (H:Hp):(hidT h H).objs.size=h.objs.size:=PySem.W.hideAll_size _ _
theorem lu {h:Heap}{H:Hp}{b:Addr}{o:Obj} (e:h.get? b=some o) (n:H b=none):(hidT h H).get? b=some o:=
 PySem.W.hideAll_get _ e fun hm=>by
  have q:(H b).isSome=true:=(List.mem_filter.mp hm).2
  rw [n] at q;simp at q
theorem lv {h:Heap}{H:Hp}{b:Addr}{o:Obj} (e:(hidT h H).get? b=some o):h.get? b=some o/\H b=none:=by
 have e':h.get? b=some o:=PySem.W.of_hideAll (trk h H) e
 refine ⟨e',?_⟩
 cases q:H b with
 |none=>rfl
 |some x=>
  have hm:b∈trk h H:=List.mem_filter.mpr ⟨List.mem_range.mpr (Heap.lt_size e'),by simp [q]⟩
  have z:(hidT h H).get? b=none:=PySem.W.hideAll_none (trk h H) hm
  rw [z] at e;cases e
noncomputable def lx (g h:Heap) (L:Addr):List (Addr×Obj):=(List.range h.objs.size).filterMap fun a=>if a=L \/(g.get? a).isSome=true then none else (h.get? a).map fun o=>(a,o)
noncomputable def rest (g h:Heap) (L d:Addr):List (Addr×Obj):=(lx g h L).filter fun p=>decide (p.1≠d)
end L2
namespace L2
open PySem PySem.Spec PyProof.Rows
structure Mod (K:PySem.W.Frag) (mg:Str->Option Value) (base:Heap):Prop where
 kin:K.In base
 glob:base.Ns mainGlobals mg
 blt: ∃mb,base.Ns builtinsNs mb/\ ∀x:Str,x≠"__name__"->mb x=bootBuiltins x
 nolimit:base.NoLimit
structure Cx where
 prog:Program
 w:World
 K:PySem.W.Frag
 mg:Str->Option Value
 base:Heap
 A:Around
 N:List Str
 s₀:Shared
 H₀:Hp
 env:Env
 outer:List Env
 stack:List Env
 ex:List Addr
 fn:Str->Bool
 calm:Bool
 pn:List (Addr×Obj)
 xe:Value->Shared->Prop
noncomputable def frs (l:List Env):List Addr:=l.filterMap (·.frame)
noncomputable abbrev Cx.fs (X:Cx):List Addr:=frs X.outer
noncomputable def Vis (sc:Scope) (x:Str):Prop:=sc.names.lookup x=some .local \/sc.names.lookup x=some .cell \/sc.names.lookup x=some .free
noncomputable def Loc (sc:Scope) (x:Str):Prop:=sc.names.lookup x=some .local \/sc.names.lookup x=some .cell
noncomputable def Look (env:Env) (h:Heap) (m:Str->Option Value) (x:Str) (u:Value):Prop:=
 (env.kindOf x=some .local/\m x=some u) \/((env.kindOf x=some .cell \/env.kindOf x=some .free)/\ ∃c,env.cells.lookup x=some c/\h.IsCell c (some u))
structure Cx.Ok (X:Cx):Prop where
 mod:Mod X.K X.mg X.base
 kind:X.env.scope.kind= .function
 glob:X.env.globals=mainGlobals
 blt:X.env.builtins=builtinsNs
 above:X.s₀.heap.objs.size<=X.env.locals
 inj: ∀x y c,X.env.cells.lookup x=some c->X.env.cells.lookup y=some c->x=y
 has: ∀x,(X.env.kindOf x=some .cell \/X.env.kindOf x=some .free)-> ∃c,X.env.cells.lookup x=some c
 cab: ∀x c,X.fn x=true->X.env.cells.lookup x=some c->X.s₀.heap.objs.size<=c
 hd:X.calm=true->X.A.handled=none
 frames:X.A.frames=some X.stack
 stk:X.stack=X.outer \/(X.stack=X.env::X.outer/\X.env.frame=some X.env.locals)
 exf: ∀b∈X.ex,b≠X.env.locals/\ ∀x c,X.env.cells.lookup x=some c->c≠b
 bs: ∀b o,X.base.get? b=some o->X.s₀.heap.get? b=some o/\X.H₀ b=none
 bsz:X.base.objs.size<=X.s₀.heap.objs.size
 noex: ∀b o,X.base.get? b=some o->b∉X.ex
 exfs: ∀b∈X.ex,b∉X.fs
 funs:X.s₀.heap.FunFrames X.base X.outer
 frf: ∀b∈X.fs,X.H₀ b=none
structure Inv (X:Cx) (pins:List (Addr×Obj)) (σ:List (Option V)) (H:Hp) (s:Shared):Prop where
 ok:X.Ok
 os:s.os=X.s₀.os
 bare:AllBare s.gens
 base:Un X.fs X.ex X.H₀ H X.s₀.heap s.heap
 loc: ∃m,s.heap.Ns X.env.locals m/\ ∀(i:Nat) (x:Str) (v:V),X.N[i]?=some x->σ[i]?=some (some v)->Vis X.env.scope x-> ∃u,RelV v u/\Look X.env s.heap m x u
 cell: ∀x c,X.env.cells.lookup x=some c-> ∃v,s.heap.IsCell c v
 free:H X.env.locals=none
 freeC: ∀x c,X.env.cells.lookup x=some c->H c=none
 pin: ∀p∈X.pn++pins,s.heap.get? p.1=some p.2/\H p.1=none/\p.1≠X.env.locals/\p.1∉X.fs/\ ∀v,p.2.data≠ .cell v
 hok:HOk X.prog X.w H s.heap
 len:σ.length=X.N.length
section
variable {X:Cx}{pins:List (Addr×Obj)}{σ:List (Option V)}{H H':Hp}{s:Shared}{h':Heap}
theorem Cx.Ok.nofr (ok:X.Ok) {b:Addr}{o:Obj} (e:X.base.get? b=some o):b∉X.fs:=fun hb=>by
 have:=(ok.funs.mem hb).1
 rw [e] at this;cases this
theorem Inv.bs (I:Inv X pins σ H s): ∀b o,X.base.get? b=some o->s.heap.get? b=some o/\H b=none:=fun b o e=>
 ⟨I.base.keep b o (I.ok.bs b o e).1 (I.ok.bs b o e).2 (I.ok.nofr e) (I.ok.noex b o e),I.base.free b o (I.ok.bs b o e).1 (I.ok.bs b o e).2 (I.ok.noex b o e)⟩
theorem Inv.bk (I:Inv X pins σ H s): ∀b o,X.base.get? b=some o->s.heap.get? b=some o:=fun b o e=>(I.bs b o e).1
theorem Inv.mod (I:Inv X pins σ H s):Mod X.K X.mg X.base:=I.ok.mod
theorem Inv.kIn (I:Inv X pins σ H s):X.K.In s.heap:=I.ok.mod.kin.keeps I.bk
theorem Inv.lt (I:Inv X pins σ H s):X.env.locals<s.heap.objs.size:=let ⟨_,hn,_⟩:=I.loc;hn.lt
theorem Inv.sz (I:Inv X pins σ H s):X.s₀.heap.objs.size<=s.heap.objs.size:=Nat.le_trans I.ok.above (Nat.le_of_lt I.lt)
theorem Inv.nofs (I:Inv X pins σ H s) {a:Addr} (h:s.heap.objs.size<=a):a∉X.fs:=fun hb=>by
 obtain ⟨_,o,ho,_⟩:=I.ok.funs.mem hb
 exact absurd (Nat.lt_of_lt_of_le (Heap.lt_size ho) (Nat.le_trans I.sz h)) (Nat.lt_irrefl _)
theorem Inv.cne (I:Inv X pins σ H s): ∀x c,X.env.cells.lookup x=some c->c≠X.env.locals:=fun x c e z=>by
 obtain ⟨v,o,ho,hd⟩:=I.cell x c e
 obtain ⟨m,⟨o',es,ep,ho',hd',_⟩,_⟩:=I.loc
 rw [z,ho'] at ho;cases ho;rw [hd'] at hd;cases hd
theorem Inv.funs (I:Inv X pins σ H s):s.heap.FunFrames X.base X.outer:=by
 have all: ∀(l:List Env),(∀b∈frs l,b∈X.fs)->X.s₀.heap.FunFrames X.base l->s.heap.FunFrames X.base l:=by
  intro l
  induction l with
  |nil=>intro _ _;trivial
  |cons env r ih=>
   intro hs hl
   obtain ⟨hk,⟨L,o,hf,hn,ho,hd⟩,hr⟩:=hl
   have hL:L∈X.fs:=hs L (by unfold frs;rw [List.filterMap_cons,hf];exact List.mem_cons_self)
   obtain ⟨sl,e⟩:=I.base.slot L o ho (I.ok.frf L hL) hL fun z=>I.ok.exfs L z hL
   exact ⟨hk,⟨L,_,hf,hn,e,hd⟩,ih (fun b hb=>hs b (by unfold frs;rw [List.filterMap_cons,hf];exact List.mem_cons_of_mem _ hb)) hr⟩
 exact all X.outer (fun _ hb=>hb) I.ok.funs
theorem Inv.stack (I:Inv X pins σ H s):s.heap.FunFrames X.base X.stack:=by
 rcases I.ok.stk with e|⟨e,hf⟩
 ·rw [e];exact I.funs
 ·rw [e]
  obtain ⟨m,hn,_⟩:=I.loc
  refine .cons (by rw [I.ok.kind];decide) hf hn ?_ I.funs
  exact Heap.get?_none_of_le (Nat.le_trans I.ok.bsz I.ok.above)
theorem Inv.stkSub (I:Inv X pins σ H s): ∀b∈frs X.stack,b∈X.env.locals::X.fs:=fun b hb=>by
 rcases I.ok.stk with e|⟨e,hf⟩
 ·rw [e] at hb;exact List.mem_cons_of_mem _ hb
 ·rw [e] at hb
  unfold frs at hb
  rw [List.filterMap_cons,hf] at hb
  exact hb
theorem Inv.stkFree (I:Inv X pins σ H s): ∀b∈frs X.stack,H b=none:=fun b hb=>by
 rcases List.mem_cons.mp (I.stkSub b hb) with e|hb
 ·rw [e];exact I.free
 ·obtain ⟨_,o,ho,_⟩:=I.ok.funs.mem hb
  exact I.base.free b o ho (I.ok.frf b hb) fun z=>I.ok.exfs b z hb
theorem Inv.step {g':Array GenState}{t':Nat}{d':Drawn}{ch:List Addr} (I:Inv X pins σ H s)
  (hch: ∀b∈ch,(b∈X.ex \/X.s₀.heap.objs.size<=b)/\b≠X.env.locals/\(∀x c,X.env.cells.lookup x=some c->c≠b)/\ ∀p∈X.pn++pins,p.1≠b)
  (keep: ∀b o,b≠X.env.locals->b∉X.fs->b∉ch->s.heap.get? b=some o->H b=none->h'.get? b=some o)
  (slot: ∀b o,b≠X.env.locals->b∈X.fs->b∉ch->s.heap.get? b=some o->H b=none-> ∃sl,h'.get? b=some {o with slots:=sl}) (free: ∀b o,b∉ch->s.heap.get? b=some o->H b=none->H' b=none)
  (there: ∀b o,b∉ch->s.heap.get? b=some o-> ∃o',h'.get? b=some o')
  (tups: ∀b xs,H b=some (.tup xs)->H' b=some (.tup xs)) (frzs: ∀b o u,H b=some (.frz o u)->H' b=some (.frz o u)) (tbls: ∀b q,H b=some (.tbl q)->H' b=some (.tbl q))
  (ns: ∀m,s.heap.Ns X.env.locals m->h'.Ns X.env.locals m) (hok:HOk X.prog X.w H' h') (hg:AllBare g'):
  Inv X pins σ H' {s with heap:=h',gens:=g',drawn:=d',toks:=t'}:=by
 have neL: ∀b o,X.s₀.heap.get? b=some o->b≠X.env.locals:=fun b o e=>Nat.ne_of_lt (Nat.lt_of_lt_of_le (Heap.lt_size e) I.ok.above)
 have neC: ∀b o,X.s₀.heap.get? b=some o->b∉X.ex->b∉ch:=fun b o e hx hb=>by
  rcases (hch b hb).1 with z|z
  ·exact hx z
  ·exact absurd (Nat.lt_of_lt_of_le (Heap.lt_size e) z) (Nat.lt_irrefl _)
 have cellK: ∀x c,X.env.cells.lookup x=some c-> ∀v,s.heap.IsCell c v->h'.IsCell c v:=fun x c e v ⟨o,ho,hd⟩=>by
  have nch:c∉ch:=fun z=>(hch c z).2.2.1 x c e rfl
  by_cases hc:c∈X.fs
  ·obtain ⟨sl,q⟩:=slot c o (I.cne x c e) hc nch ho (I.freeC x c e)
   exact ⟨_,q,hd⟩
  ·exact ⟨o,keep c o (I.cne x c e) hc nch ho (I.freeC x c e),hd⟩
 refine ⟨I.ok,I.os,hg,⟨fun b o e n hb hx=> ?_,fun b o e n hb hx=> ?_,fun b o e n hx=> ?_,fun b o e hx=> ?_,fun b xs e=>tups b xs (I.base.tups b xs e),fun b o xs e=>frzs b o xs (I.base.frzs b o xs e),fun b ps e=> ?_⟩,?_,fun x c e=> ?_,?_,fun x c e=> ?_,fun p hp=> ?_,hok,I.len⟩
 ·exact keep b o (neL b o e) hb (neC b o e hx) (I.base.keep b o e n hb hx) (I.base.free b o e n hx)
 ·obtain ⟨sl,e1⟩:=I.base.slot b o e n hb hx
  obtain ⟨sl',e2⟩:=slot b _ (neL b o e) hb (neC b o e hx) e1 (I.base.free b o e n hx)
  exact ⟨sl',e2⟩
 ·obtain ⟨o',e1⟩:=I.base.there b o e hx
  exact free b o' (neC b o e hx) e1 (I.base.free b o e n hx)
 ·obtain ⟨o',e1⟩:=I.base.there b o e hx
  exact there b o' (neC b o e hx) e1
 ·exact tbls b _ (I.base.tbls b ps e)
 ·obtain ⟨m,hn,hl⟩:=I.loc
  refine ⟨m,ns m hn,fun i x v e1 e2 e3=> ?_⟩
  obtain ⟨u,r,l⟩:=hl i x v e1 e2 e3
  refine ⟨u,r,?_⟩
  rcases l with l|⟨k,c,e,z⟩
  ·exact .inl l
  ·exact .inr ⟨k,c,e,cellK x c e _ z⟩
 ·obtain ⟨v,z⟩:=I.cell x c e
  exact ⟨v,cellK x c e v z⟩
 ·obtain ⟨m,⟨o,_,_,ho,_⟩,_⟩:=I.loc
  exact free _ o (fun z=>(hch _ z).2.1 rfl) ho I.free
 ·obtain ⟨v,o,ho,hd⟩:=I.cell x c e
  exact free c o (fun z=>(hch c z).2.2.1 x c e rfl) ho (I.freeC x c e)
 ·obtain ⟨e,n,ne,nf,d⟩:=I.pin p hp
  have nch:p.1∉ch:=fun z=>(hch p.1 z).2.2.2 p hp rfl
  exact ⟨keep p.1 p.2 ne nf nch e n,free p.1 p.2 nch e n,ne,nf,d⟩
theorem Inv.un {t':Nat} (I:Inv X pins σ H s) (u:Un X.fs [] H H' s.heap h') (hok:HOk X.prog X.w H' h'):Inv X pins σ H' {s with heap:=h',toks:=t'}:=by
 obtain ⟨m,⟨o,es,ep,ho,r⟩,_⟩:=id I.loc
 obtain ⟨sl,hL⟩:=u.any ho I.free (by simp)
 exact I.step (g':=s.gens) (d':=s.drawn) (ch:=[]) (fun _ z=>nomatch z) (fun b o _ hb _ e n=>u.keep b o e n hb (by simp)) (fun b o _ hb _ e n=>u.slot b o e n hb (by simp)) (fun b o _ e n=>u.free b o e n (by simp)) (fun b o _ e=>u.there b o e (by simp)) u.tups u.frzs u.tbls (fun m' hm=>by
  obtain ⟨o',es',ep',ho',r'⟩:=hm
  rw [ho] at ho';cases ho'
  exact ⟨_,es',ep',hL,r'⟩) hok I.bare
theorem Inv.call {g':Array GenState}{t':Nat}{d':Drawn}{ch:List Addr} (I:Inv X pins σ H s) (u:Un (frs X.stack) ch H H' s.heap h') (hok:HOk X.prog X.w H' h') (hg:AllBare g')
  (hch: ∀b∈ch,(b∈X.ex \/X.s₀.heap.objs.size<=b)/\b≠X.env.locals/\(∀x c,X.env.cells.lookup x=some c->c≠b)/\ ∀p∈X.pn++pins,p.1≠b):
  Inv X pins σ H' {s with heap:=h',gens:=g',drawn:=d',toks:=t'}:=by
 obtain ⟨m,⟨o,es,ep,ho,r⟩,_⟩:=id I.loc
 obtain ⟨sl,hL⟩:=u.any ho I.free fun z=>(hch _ z).2.1 rfl
 exact I.step (ch:=ch) hch (fun b o hL hb hc e n=>u.keep b o e n (fun z=>(List.mem_cons.mp (I.stkSub b z)).elim hL hb) hc) (fun b o _ _ hc e n=>u.any e n hc) (fun b o hc e n=>u.free b o e n hc) (fun b o hc e=>u.there b o e hc) u.tups u.frzs u.tbls (fun m' hm=>by
  obtain ⟨o',es',ep',ho',r'⟩:=hm
  rw [ho] at ho';cases ho'
  exact ⟨_,es',ep',hL,r'⟩) hok hg
theorem Inv.turned {t':Nat}{it:Addr} (I:Inv X pins σ H s) (k: ∀b o,b≠it->s.heap.get? b=some o->h'.get? b=some o) (hn:H it=none) (hL:it≠X.env.locals)
  (h1:it∈X.ex \/X.s₀.heap.objs.size<=it) (h2: ∀x c,X.env.cells.lookup x=some c->c≠it) (h3: ∀p∈X.pn++pins,p.1≠it):Inv X pins σ H {s with heap:=h',toks:=t'}:=by
 have nit: ∀b u,H b=some u->b≠it:=fun b u e z=>by rw [z,hn] at e;cases e
 refine I.step (g':=s.gens) (d':=s.drawn) (ch:=[it]) (fun b hb=> ?_) (fun b o _ _ hc e _=>k b o (fun z=>hc (by simp [z])) e) (fun b o _ _ hc e _=>⟨o.slots,k b o (fun z=>hc (by simp [z])) e⟩) (fun _ _ _ _ n=>n)
  (fun b o hc e=>⟨o,k b o (fun z=>hc (by simp [z])) e⟩) (fun _ _ e=>e) (fun _ _ _ e=>e) (fun _ _ e=>e) (fun m hm=> ?_) (fun b u e=> ?_) I.bare
 ·have e:b=it:=by simpa using hb
  subst e
  exact ⟨h1,hL,h2,h3⟩
 ·obtain ⟨o,es,ep,ho,r⟩:=hm
  exact ⟨o,es,ep,k _ o (Ne.symm hL) ho,r⟩
 ·refine (I.hok b u e).stay (fun c v hc q=>k c v ?_ q) (fun _ q=>q) fun _ _ q=>q
  rcases hc with z|z
  ·rw [z];exact nit b u e
  ·exact nit c _ z
theorem Inv.tok (I:Inv X pins σ H s) (t:Nat):Inv X pins σ H {s with toks:=t}:=I.un (h':=s.heap) (t':=t) Un.refl I.hok
theorem Inv.kept {t':Nat} (I:Inv X pins σ H s) (k: ∀b u,s.heap.get? b=some u->h'.get? b=some u):Inv X pins σ H {s with heap:=h',toks:=t'}:=I.un (Un.kept k) (I.hok.kept k)
theorem Inv.laid {a:Addr}{o:HO}{t':Nat} (I:Inv X pins σ H s) (k: ∀b u,s.heap.get? b=some u->h'.get? b=some u) (hp:s.heap.objs.size<=a) (new:au X.prog X.w (upd H a o) h' a o):
  Inv X pins σ (upd H a o) {s with heap:=h',toks:=t'}:=I.un (Un.laid k hp (I.hok.fresh hp)) (I.hok.laid k hp new)
theorem Inv.write {x e:Addr}{o:HO}{t':Nat} (I:Inv X pins σ H s) (mu:Mut (H x)) (he:e=x \/H e=some (.own x)) (k: ∀b u,b≠e->s.heap.get? b=some u->h'.get? b=some u) (heo: ∃u,h'.get? e=some u)
  (new:au X.prog X.w (upd H x o) h' x o):Inv X pins σ (upd H x o) {s with heap:=h',toks:=t'}:=I.un (Un.write mu he k heo) (I.hok.write mu he k heo new)
theorem Inv.pins_of {pins':List (Addr×Obj)} (I:Inv X pins σ H s) (h: ∀p∈pins',s.heap.get? p.1=some p.2/\H p.1=none/\p.1≠X.env.locals/\p.1∉X.fs/\ ∀v,p.2.data≠ .cell v):Inv X pins' σ H s:=
 ⟨I.ok,I.os,I.bare,I.base,I.loc,I.cell,I.free,I.freeC,fun p hp=>(List.mem_append.mp hp).elim (fun z=>I.pin p (List.mem_append_left _ z)) (h p),I.hok,I.len⟩
theorem fz {N:List Str} (hN:N.Nodup) {i j:Nat}{x:Str} (a:N[i]?=some x) (b:N[j]?=some x):i=j:=by
 obtain ⟨h1,e1⟩:=List.getElem?_eq_some_iff.mp a
 obtain ⟨h2,e2⟩:=List.getElem?_eq_some_iff.mp b
 exact (List.getElem_inj hN).mp (e1.trans e2.symm)
theorem gQ {M:Model}{A:Around}{E:Value->Shared->Prop}{i:Nat}{x:Str}{v:V}{u:Value}{Q:Unit->Shared->Prop} (I:Inv X pins σ H s) (hN:X.N.Nodup) (hi:X.N[i]?=some x) (hx:Loc X.env.scope x) (r:RelV v u)
  (h: ∀s',Inv X pins (σ.set i (some v)) H s'->(∃a,Heap.SameBut a s.heap s'.heap/\(a=X.env.locals \/X.env.cells.lookup x=some a))->Q () s') (hf:X.fn x=true \/X.env.scope.names.lookup x=some .local:=by first|exact .inl rfl|exact .inr rfl|assumption):wpAny M A (storeName X.env x u) Q E s:=by
 obtain ⟨m,hn,hl⟩:=id I.loc
 have hcls:(X.env.scope.kind== .class||(X.env.scope.kind== .module&&X.env.locals !=X.env.globals))=false:=by rw [I.ok.kind];rfl
 have hiσ:i<σ.length:=by rw [I.len];exact (List.getElem?_eq_some_iff.mp hi).1
 have cne:=I.cne
 have tracked: ∀{a:Addr}{h':Heap},(∃o,s.heap.get? a=some o/\H a=none)->Heap.SameBut a s.heap h'->HOk X.prog X.w H h':=fun {a h'} ha hs b ob e=>by
  obtain ⟨_,_,hfree⟩:=ha
  refine (I.hok b ob e).stay (fun c w' hc q=>(hs.2 c ?_).trans q) (fun _ q=>q) fun _ _ q=>q
  rintro rfl
  rcases hc with rfl|hc
  ·rw [hfree] at e;cases e
  ·rw [hfree] at hc;cases hc
 rcases hx with hk|hk
 ·refine wpAny_storeName_local hk hn (fun h' hn' hs=> ?_) hcls
  obtain ⟨oL,_,_,hoL,_⟩:=id hn
  refine h _ ⟨I.ok,I.os,I.bare,⟨fun b o e n hb hx=> ?_,fun b o e n hb hx=> ?_,I.base.free,fun b o e hx=> ?_,I.base.tups,I.base.frzs,I.base.tbls⟩,⟨_,hn',fun j y v' e1 e2 e3=> ?_⟩,fun y c e=> ?_,I.free,I.freeC,fun p hp=> ?_,tracked ⟨oL,hoL,I.free⟩ hs,by simpa using I.len⟩ ⟨_,hs,.inl rfl⟩
  ·exact (hs.2 b (Nat.ne_of_lt (Nat.lt_of_lt_of_le (Heap.lt_size e) I.ok.above))).trans (I.base.keep b o e n hb hx)
  ·obtain ⟨sl,e1⟩:=I.base.slot b o e n hb hx
   exact ⟨sl,(hs.2 b (Nat.ne_of_lt (Nat.lt_of_lt_of_le (Heap.lt_size e) I.ok.above))).trans e1⟩
  ·obtain ⟨o',e1⟩:=I.base.there b o e hx
   exact ⟨o',(hs.2 b (Nat.ne_of_lt (Nat.lt_of_lt_of_le (Heap.lt_size e) I.ok.above))).trans e1⟩
  ·by_cases hj:j=i
   ·subst hj
    rw [hi] at e1;cases e1
    rw [List.getElem?_set_self hiσ] at e2
    cases e2
    exact ⟨u,r,.inl ⟨hk,by simp⟩⟩
   ·rw [List.getElem?_set_ne (Ne.symm hj)] at e2
    obtain ⟨u',r',q⟩:=hl j y v' e1 e2 e3
    refine ⟨u',r',?_⟩
    rcases q with ⟨k,e⟩|⟨k,c,e,z⟩
    ·refine .inl ⟨k,?_⟩
     have:y≠x:=fun e=>hj (fz hN e1 (e▸hi))
     simp [this,e]
    ·exact .inr ⟨k,c,e,z.sameBut hs (cne y c e)⟩
  ·obtain ⟨w',z⟩:=I.cell y c e
   exact ⟨w',z.sameBut hs (cne y c e)⟩
  ·obtain ⟨e,n,ne,nf,d⟩:=I.pin p hp
   exact ⟨(hs.2 p.1 ne).trans e,n,ne,nf,d⟩
 ·have hfn:X.fn x=true:=by
   rcases hf with z|z
   ·exact z
   ·rw [z] at hk;cases hk
  obtain ⟨c,hc⟩:=I.ok.has x (.inl hk)
  obtain ⟨w',z⟩:=I.cell x c hc
  refine wpAny_storeName_cell I.ok.kind hk hc z (fun h' hc' hs=> ?_)
  obtain ⟨oc,hoc,hocd⟩:=id z
  refine h {s with heap:=h'} ⟨I.ok,I.os,I.bare,⟨fun b o e n hb hx=> ?_,fun b o e n hb hx=> ?_,I.base.free,fun b o e hx=> ?_,I.base.tups,I.base.frzs,I.base.tbls⟩,⟨m,hn.sameBut hs (Ne.symm (cne x c hc)),fun j y v' e1 e2 e3=> ?_⟩,fun y c' e=> ?_,I.free,I.freeC,fun p hp=> ?_,tracked ⟨oc,hoc,I.freeC x c hc⟩ hs,by simpa using I.len⟩ ⟨c,hs,.inr hc⟩
  ·exact (hs.2 b (Nat.ne_of_lt (Nat.lt_of_lt_of_le (Heap.lt_size e) (I.ok.cab x c hfn hc)))).trans (I.base.keep b o e n hb hx)
  ·obtain ⟨sl,e1⟩:=I.base.slot b o e n hb hx
   exact ⟨sl,(hs.2 b (Nat.ne_of_lt (Nat.lt_of_lt_of_le (Heap.lt_size e) (I.ok.cab x c hfn hc)))).trans e1⟩
  ·obtain ⟨o',e1⟩:=I.base.there b o e hx
   exact ⟨o',(hs.2 b (Nat.ne_of_lt (Nat.lt_of_lt_of_le (Heap.lt_size e) (I.ok.cab x c hfn hc)))).trans e1⟩
  ·by_cases hj:j=i
   ·subst hj
    rw [hi] at e1;cases e1
    rw [List.getElem?_set_self hiσ] at e2
    cases e2
    exact ⟨u,r,.inr ⟨.inl hk,c,hc,hc'⟩⟩
   ·rw [List.getElem?_set_ne (Ne.symm hj)] at e2
    obtain ⟨u',r',q⟩:=hl j y v' e1 e2 e3
    refine ⟨u',r',?_⟩
    rcases q with q|⟨k,c',e,z'⟩
    ·exact .inl q
    ·refine .inr ⟨k,c',e,z'.sameBut hs ?_⟩
     rintro rfl
     exact hj (fz hN e1 (I.ok.inj _ _ _ e hc▸hi))
  ·by_cases hcc:c'=c
   ·subst hcc;exact ⟨_,hc'⟩
   ·obtain ⟨w2,z2⟩:=I.cell y c' e
    exact ⟨w2,z2.sameBut hs hcc⟩
  ·obtain ⟨e,n,ne,nf,d⟩:=I.pin p hp
   refine ⟨(hs.2 p.1 ?_).trans e,n,ne,nf,d⟩
   intro q
   rw [q,hoc] at e
   have q':oc=p.2:=Option.some.inj e
   exact d w' (by rw [<-q'];exact hocd)
theorem fA {M:Model}{A:Around}{E:Value->Shared->Prop}{i:Nat}{x:Str}{v:V}{u:Value}{Q:Unit->Shared->Prop} (I:Inv X pins σ H s) (hN:X.N.Nodup) (hi:X.N[i]?=some x) (hx:Loc X.env.scope x) (r:RelV v u)
  (h: ∀s',Inv X pins (σ.set i (some v)) H s'->Q () s') (hf:X.fn x=true \/X.env.scope.names.lookup x=some .local:=by first|exact .inl rfl|exact .inr rfl|assumption):wpAny M A (storeName X.env x u) Q E s:=
 gQ I hN hi hx r (fun s' I' _=>h s' I') hf
theorem Inv.call' {s':Shared}{ch:List Addr} (I:Inv X pins σ H s) (ho:s'.os=s.os) (u:Un (frs X.stack) ch H H' s.heap s'.heap) (hok:HOk X.prog X.w H' s'.heap) (hg:AllBare s'.gens)
  (hch: ∀b∈ch,(b∈X.ex \/X.s₀.heap.objs.size<=b)/\b≠X.env.locals/\(∀x c,X.env.cells.lookup x=some c->c≠b)/\ ∀p∈X.pn++pins,p.1≠b):Inv X pins σ H' s':=by
 obtain ⟨h',g',d',t',o'⟩:=s'
 have e:o'=s.os:=ho
 subst e
 exact I.call (g':=g') (t':=t') (d':=d') u hok hg hch
end
noncomputable abbrev XK:=Value->Option Addr->Hp->Prop
noncomputable abbrev St:=List (Option V)
noncomputable abbrev VK:=V->Hp->Prop
noncomputable abbrev TE:=St->Hp->VK->Prop
noncomputable abbrev TT:=St->Hp->(Bool->Hp->Prop)->Prop
noncomputable abbrev TA:=St->Hp->(List V->Hp->Prop)->Prop
structure Ends where
 nx:St->Hp->Prop
 rt:VK
 bk:St->Hp->Prop:=fun _ _=>False
 ct:St->Hp->Prop:=fun _ _=>False
noncomputable abbrev TS:=Ends->St->Hp->Prop
noncomputable def EP (X:Cx) (pins:List (Addr×Obj)) (σ:St) (Q:VK) (u:Value) (s':Shared):Prop:= ∃v H',Inv X pins σ H' s'/\RelV v u/\Q v H'
noncomputable def TP (X:Cx) (pins:List (Addr×Obj)) (σ:St) (Q:Bool->Hp->Prop) (b:Bool) (s':Shared):Prop:= ∃H',Inv X pins σ H' s'/\Q b H'
noncomputable def AP (X:Cx) (pins:List (Addr×Obj)) (σ:St) (Q:List V->Hp->Prop) (us:List Value) (s':Shared):Prop:= ∃vs H',Inv X pins σ H' s'/\Vals vs us/\Q vs H'
noncomputable def SP (X:Cx) (pins:List (Addr×Obj)) (D:Ends) (f:Flow) (s':Shared):Prop:=
 match f with
 | .next=> ∃σ' H',Inv X pins σ' H' s'/\D.nx σ' H'
 | .brk=> ∃σ' H',Inv X pins σ' H' s'/\D.bk σ' H'
 | .cont=> ∃σ' H',Inv X pins σ' H' s'/\D.ct σ' H'
 | .ret u=> ∃v σ' H',Inv X pins σ' H' s'/\RelV v u/\D.rt v H'
noncomputable def PE (X:Cx) (e:Expr) (t:TE):Prop:=
 ∀(pins:List (Addr×Obj)) (s:Shared) (σ:St) (H:Hp) (Q:VK),Inv X pins σ H s->t σ H Q->wpAny (model X.prog X.w) X.A (eval e X.env) (EP X pins σ Q) X.xe s
noncomputable def PT (X:Cx) (e:Expr) (t:TT):Prop:=
 ∀(pins:List (Addr×Obj)) (s:Shared) (σ:St) (H:Hp) (Q:Bool->Hp->Prop),Inv X pins σ H s->t σ H Q->wpAny (model X.prog X.w) X.A (isTrue e X.env (eval e X.env)) (TP X pins σ Q) X.xe s
noncomputable def PW (X:Cx) (e:Expr) (t:TT):Prop:=
 ∀(whole:Sem Value) (pins:List (Addr×Obj)) (s:Shared) (σ:St) (H:Hp) (Q:Bool->Hp->Prop),Inv X pins σ H s->t σ H Q->wpAny (model X.prog X.w) X.A (isTrue e X.env whole) (TP X pins σ Q) X.xe s
theorem PW.pt {X:Cx}{e:Expr}{t:TT} (h:PW X e t):PT X e t:=h _
noncomputable def PA (X:Cx) (es:List Expr) (t:TA):Prop:=
 ∀(pos:Pos) (pins:List (Addr×Obj)) (s:Shared) (σ:St) (H:Hp) (Q:List V->Hp->Prop),Inv X pins σ H s->t σ H Q->wpAny (model X.prog X.w) X.A (spliced (backTo pos (starEach es X.env))) (AP X pins σ Q) X.xe s
noncomputable def PS (X:Cx) (st:Stmt) (t:TS):Prop:=
 ∀(pins:List (Addr×Obj)) (s:Shared) (σ:St) (H:Hp) (D:Ends),Inv X pins σ H s->t D σ H->wpAny (model X.prog X.w) X.A (exec st X.env) (SP X pins D) X.xe s
noncomputable def PSs (X:Cx) (st:List Stmt) (t:TS):Prop:=
 ∀(pins:List (Addr×Obj)) (s:Shared) (σ:St) (H:Hp) (D:Ends),Inv X pins σ H s->t D σ H->wpAny (model X.prog X.w) X.A (execs st X.env) (SP X pins D) X.xe s
theorem thn {α:Type}{t:Sem α}{Q Q':α->Shared->Prop}{M:Model}{A:Around}{E:Value->Shared->Prop}{s:Shared} (h:wpAny M A t Q E s) (hQ: ∀a s,Q a s->Q' a s):wpAny M A t Q' E s:=wpAny_mono h hQ fun _ _ x=>x
end L2
namespace L2
open PySem PySem.Spec PyProof.Rows
section
variable {X:Cx}
theorem bin {a b:Expr}{ta tb:TE} (ha:PE X a ta) (hb:PE X b tb) {pins:List (Addr×Obj)}{s:Shared}{σ:St}{H:Hp}{R:V->V->Hp->Prop} (I:Inv X pins σ H s) (h:ta σ H fun x H1=>tb σ H1 fun y H2=>R x y H2)
  {α:Type}{Q:α->Shared->Prop}{f:Value->Value->Sem α}
  (hf: ∀v u s2 x y H2,Inv X pins σ H2 s2->RelV x v->RelV y u->R x y H2->wpAny (model X.prog X.w) X.A (f v u) Q X.xe s2):
  wpAny (model X.prog X.w) X.A (eval a X.env) (fun v s₁=>wpAny (model X.prog X.w) X.A (eval b X.env) (fun u s₂=>wpAny (model X.prog X.w) X.A (f v u) Q X.xe s₂) X.xe s₁) X.xe s:=by
 refine thn (ha pins s σ H _ I h) fun v s1 ⟨x,H1,I1,r1,q1⟩=> ?_
 refine thn (hb pins s1 σ H1 _ I1 q1) fun u s2 ⟨y,H2,I2,r2,q2⟩=> ?_
 exact hf v u s2 x y H2 I2 r1 r2 q2
noncomputable def tVar (i:Nat):TE:=fun σ H Q=> ∃v,σ[i]?=some (some v)/\Q v H
noncomputable def tC (v:V):TE:=fun _ H Q=>Q v H
theorem gR {i:Nat}{x:Str}{pos:Pos} (hN:X.N[i]?=some x) (hv:Vis X.env.scope x) (hd:(x==("__debug__":Str))=false:=by decide) (hcd:(x==("__classdict__":Str))=false:=by decide):PE X (.Name x pos) (tVar i):=by
 intro pins s σ H Q I h
 obtain ⟨v,e,h⟩:=h
 obtain ⟨m,hn,hl⟩:=I.loc
 obtain ⟨u,r,l⟩:=hl i x v hN e hv
 have fin:EP X pins σ Q u s:=⟨v,H,I,r,h⟩
 rcases l with ⟨hk,hm⟩|⟨hk,c,hc,hcell⟩
 ·exact wpAny_Name (wpAny_loadName_local I.ok.kind hk hn hm fin) hd
 ·rcases hk with hk|hk
  ·exact wpAny_Name (wpAny_loadName_cell I.ok.kind hk hc hcell fin) hd
  ·exact wpAny_Name (wpAny_loadName_free I.ok.kind hk hc hcell fin hcd) hd
theorem ly {i j pos}:PE X (.Constant (.int i) j pos) (tC (.int i)):=fun _ _ _ H _ I h=>wpAny_Constant_int ⟨.int i,H,I.tok _,⟨_,rfl⟩,h⟩
theorem lz {b j pos}:PE X (.Constant (.bool b) j pos) (tC (.bl b)):=fun _ _ _ H _ I h=>Constant_bool ⟨.bl b,H,I,rfl,h⟩
theorem lB {j pos}:PE X (.Constant .none j pos) (tC .non):=fun _ _ _ H _ I h=>Constant_none ⟨.non,H,I,rfl,h⟩
theorem lC {x j pos}:PE X (.Constant (.str x) j pos) (tC (.str x)):=fun _ _ _ H _ I h=>Calls.Constant_str ⟨.str x,H,I.tok _,⟨_,rfl⟩,h⟩
noncomputable def Gl (X:Cx) (x:Str):Prop:=X.env.kindOf x=some .globalImplicit
theorem dX {E:Value->Shared->Prop}{pins:List (Addr×Obj)}{s:Shared}{σ:St}{H:Hp}{x:Str}{u:Value}{pos:Pos}{Q:Value->Shared->Prop} (I:Inv X pins σ H s) (hg:Gl X x) (hm:X.mg x=some u) (h:Q u s)
  (hd:(x==("__debug__":Str))=false:=by decide):wpAny (model X.prog X.w) X.A (eval (.Name x pos) X.env) Q E s:=
 Calls.Name_function_global I.ok.kind hg (Calls.loadGlobal_global (by rw [I.ok.glob];exact I.mod.glob.keeps I.bk) hm h) hd
theorem dY {E:Value->Shared->Prop}{pins:List (Addr×Obj)}{s:Shared}{σ:St}{H:Hp}{x:Str}{u:Value}{pos:Pos}{Q:Value->Shared->Prop} (I:Inv X pins σ H s) (hg:Gl X x) (hm:X.mg x=none) (hv:bootBuiltins x=some u) (h:Q u s)
  (hn:x≠"__name__":=by decide) (hd:(x==("__debug__":Str))=false:=by decide):wpAny (model X.prog X.w) X.A (eval (.Name x pos) X.env) Q E s:=by
 obtain ⟨mb,h1,h2⟩:=I.mod.blt
 exact Calls.Name_function_global I.ok.kind hg (Calls.loadGlobal_builtin (by rw [I.ok.glob];exact I.mod.glob.keeps I.bk) hm (by rw [I.ok.blt];exact h1.keeps I.bk) ((h2 x hn).trans hv) h) hd
theorem aZ {x:Str}{v:V}{u:Value}{pos:Pos} (hg:Gl X x) (hm:X.mg x=some u) (r:RelV v u) (hd:(x==("__debug__":Str))=false:=by decide):PE X (.Name x pos) (tC v):=
 fun _ _ _ H _ I h=>dX I hg hm ⟨v,H,I,r,h⟩ hd
theorem gS {x:Str}{v:V}{u:Value}{pos:Pos} (hg:Gl X x) (hm:X.mg x=none) (hv:bootBuiltins x=some u) (r:RelV v u) (hn:x≠"__name__":=by decide) (hd:(x==("__debug__":Str))=false:=by decide):PE X (.Name x pos) (tC v):=
 fun _ _ _ H _ I h=>dY I hg hm hv ⟨v,H,I,r,h⟩ hn hd
variable {a b:Expr}{ta tb:TE}{pos:Pos}
noncomputable def PC (X:Cx) (op:CmpOp) (a b:Expr) (t:TE):Prop:=
 ∀(pins:List (Addr×Obj)) (s:Shared) (σ:St) (H:Hp) (Q:VK),Inv X pins σ H s->t σ H Q->
  wpAny (model X.prog X.w) X.A (eval a X.env) (fun v s₁=>wpAny (model X.prog X.w) X.A (eval b X.env) (fun u s₂=>wpAny (model X.prog X.w) X.A (compareOp op v u) (EP X pins σ Q) X.xe s₂) X.xe s₁) X.xe s
theorem gU (b:Expr) {op:CmpOp} (h:op≠ .In) (h2:op≠ .NotIn):behindInMarks op b=false:=by
 have e1:(op==CmpOp.In)=false:=by cases op<;>first|rfl|exact absurd rfl h
 have e2:(op==CmpOp.NotIn)=false:=by cases op<;>first|rfl|exact absurd rfl h2
 cases b<;>simp [behindInMarks,e1,e2]
noncomputable def gW (ta:TE):TE:=fun σ H Q=>ta σ H fun x H1=>Q (.bl (!decide (x= .non))) H1
theorem RelV.none_iff {x:V}{v:Value} (r:RelV x v):(v==Value.none)=decide (x= .non):=by
 cases x with
 |non=>cases r;rfl
 |bl _=>cases r;rfl
 |int _=>obtain ⟨t,rfl⟩:=r;rfl
 |str _=>obtain ⟨t,rfl⟩:=r;rfl
 |byt _=>obtain ⟨t,rfl⟩:=r;rfl
 |flt _=>obtain ⟨t,rfl⟩:=r;rfl
 |ref _=>cases r;rfl
 |ty _=>cases r;rfl
theorem lD {j pos'} (ha:PE X a ta):PC X .IsNot a (.Constant .none j pos') (gW ta):=by
 intro pins s σ H Q I h
 refine thn (ha pins s σ H _ I h) fun v s1 ⟨x,H1,I1,r1,q1⟩=> ?_
 exact Constant_none (isnot_none_gen ⟨.bl _,H1,I1,by rw [r1.none_iff];rfl,q1⟩)
noncomputable def tB (t:TE):TT:=fun σ H Q=>t σ H fun x H1=> ∃c,x= .bl c/\Q c H1
theorem lE {op:CmpOp}{t:TE} (h:PC X op a b t) (h1:behindInMarks op b=false:=by first|exact gU _ (by decide) (by decide)|rfl):PE X (.Compare a [op] [b] pos) t:=fun pins s σ H Q I hw=>wpAny_Compare1 (h pins s σ H Q I hw) h1
theorem uT {op:CmpOp}{t:TE} (h:PC X op a b t) (h1:behindInMarks op b=false:=by first|exact gU _ (by decide) (by decide)|rfl):PT X (.Compare a [op] [b] pos) (tB t):=by
 intro pins s σ H Q I hw
 refine wpAny_isTrue_Compare1 (thn (h pins s σ H _ I hw) fun v s1 h1=>thn h1 fun u s2 h2=>thn h2 fun c s3 ⟨x,H1,I1,r1,q1⟩=> ?_) h1
 obtain ⟨d,rfl,q⟩:=q1
 cases r1
 exact wpAny_truthy_bool ⟨H1,I1,q⟩
theorem lF {e:Expr}{t:TE} (h:PE X e t) (he: ∀whole,isTrue e X.env whole=(do let v<-whole;standAt e.pos;holding [v] (truthy v)):=by intro _;rfl):PT X e (tB t):=by
 intro pins s σ H Q I hw
 refine isTrue_plain (thn (h pins s σ H _ I hw) fun v s1 ⟨x,H1,I1,r1,q1⟩=> ?_) (he _)
 obtain ⟨d,rfl,q⟩:=q1
 cases r1
 exact wpAny_truthy_bool ⟨H1,I1,q⟩
variable {tA tB':TT}{rest:List Expr}
noncomputable def tAnd (t u:TT):TT:=fun σ H Q=>t σ H fun c H1=>if c=true then u σ H1 Q else Q false H1
noncomputable def tOr (t u:TT):TT:=fun σ H Q=>t σ H fun c H1=>if c=true then Q true H1 else u σ H1 Q
noncomputable def tNot (t:TT):TT:=fun σ H Q=>t σ H fun c H1=>Q (!c) H1
theorem lG (ha:PT X a tA):PW X (.BoolOp .And [a] pos) tA:=by
 intro wh pins s σ H Q I h
 refine isTrue_and (thn (ha pins s σ H Q I h) fun c s1 e=> ?_)
 cases c with
 |true=>exact isTrue_and_nil e
 |false=>exact e
theorem lH (ha:PT X a tA):PW X (.BoolOp .Or [a] pos) tA:=by
 intro wh pins s σ H Q I h
 refine isTrue_or (thn (ha pins s σ H Q I h) fun c s1 e=> ?_)
 cases c with
 |false=>exact isTrue_or_nil e
 |true=>exact e
theorem lI (ha:PT X a tA) (hb:PW X (.BoolOp .And (b::rest) pos) tB'):PW X (.BoolOp .And (a::b::rest) pos) (tAnd tA tB'):=by
 intro wh pins s σ H Q I h
 refine isTrue_and (thn (ha pins s σ H _ I h) fun c s1 ⟨H1,I1,q1⟩=> ?_)
 cases c with
 |true=>exact hb wh pins s1 σ H1 Q I1 q1
 |false=>exact ⟨H1,I1,q1⟩
theorem lJ (ha:PT X a tA) (hb:PW X (.BoolOp .Or (b::rest) pos) tB'):PW X (.BoolOp .Or (a::b::rest) pos) (tOr tA tB'):=by
 intro wh pins s σ H Q I h
 refine isTrue_or (thn (ha pins s σ H _ I h) fun c s1 ⟨H1,I1,q1⟩=> ?_)
 cases c with
 |true=>exact ⟨H1,I1,q1⟩
 |false=>exact hb wh pins s1 σ H1 Q I1 q1
theorem lK (ha:PT X a tA):PT X (.UnaryOp .Not a pos) (tNot tA):=by
 intro pins s σ H Q I h
 exact isTrue_not (ha pins s σ H (fun c H1=>Q (!c) H1) I h)
noncomputable def fB (ta tb:TE):TE:=fun σ H Q=>ta σ H fun x H1=> ∃c,x= .bl c/\if c=true then tb σ H1 Q else Q (.bl false) H1
noncomputable def gX (ta:TE):TE:=fun σ H Q=>ta σ H fun x H1=> ∃c,x= .bl c/\Q (.bl (!c)) H1
theorem gY {op}{t:TE} (h:PE X a t):PE X (.BoolOp op [a] pos) t:=fun pins s σ H Q I hw=>BoolOp_one (h pins s σ H Q I hw)
theorem fC (ha:PE X a ta) (hb:PE X (.BoolOp .And (b::rest) pos) tb):PE X (.BoolOp .And (a::b::rest) pos) (fB ta tb):=by
 intro pins s σ H Q I h
 refine BoolOp_and (thn (ha pins s σ H _ I h) fun v s1 ⟨x,H1,I1,r1,q1⟩=> ?_)
 obtain ⟨c,rfl,q1⟩:=q1
 cases r1
 refine wpAny_truthy_bool ?_
 cases c with
 |true=>exact hb pins s1 σ H1 Q I1 q1
 |false=>exact ⟨.bl false,H1,I1,rfl,q1⟩
theorem lM (ha:PE X a ta):PE X (.UnaryOp .Not a pos) (gX ta):=by
 intro pins s σ H Q I h
 refine UnaryOp_ (thn (ha pins s σ H _ I h) fun v s1 ⟨x,H1,I1,r1,q1⟩=> ?_)
 obtain ⟨c,rfl,q1⟩:=q1
 cases r1
 exact not_of (wpAny_truthy_bool ⟨.bl (!c),H1,I1,rfl,q1⟩)
end
end L2
namespace L2
open PySem PySem.Spec PyProof.Rows
noncomputable def SqL (K:PySem.W.Frag) (H:Hp) (a:Addr) (xs:List V):Prop:=
 Rd H a (.lst xs) \/
  ∃(o:Obj) (its:Array Value) (n:Nat),K.lookup a=some o/\o.cls= .type "list"/\o.dict=none/\o.data= .seq its n/\its.size<=sizeLine/\Vals xs its.toList
noncomputable def SqT (K:PySem.W.Frag) (H:Hp) (a:Addr) (xs:List V):Prop:=
 Rd H a (.tup xs) \/
  ∃(o:Obj) (its:Array Value) (n:Nat),K.lookup a=some o/\o.cls= .type "tuple"/\o.data= .seq its n/\its.size<=sizeLine/\Vals xs its.toList
noncomputable def absV:Value->Option V
 | .none=>some .non
 | .bool b=>some (.bl b)
 | .int i _=>some (.int i)
 | .str x _=>some (.str x)
 | .bytes b _=>some (.byt b)
 | .float b _=>some (.flt b)
 | .ref a=>some (.ref a)
 | .type n=>some (.ty n)
 |_=>none
theorem RelV.abs {x:V}{u:Value} (r:RelV x u):absV u=some x:=by
 cases x with
 |non=>cases r;rfl
 |bl _=>cases r;rfl
 |int _=>obtain ⟨t,rfl⟩:=r;rfl
 |str _=>obtain ⟨t,rfl⟩:=r;rfl
 |byt _=>obtain ⟨t,rfl⟩:=r;rfl
 |flt _=>obtain ⟨t,rfl⟩:=r;rfl
 |ref _=>cases r;rfl
 |ty _=>cases r;rfl
theorem RelV.inj {x y:V}{u:Value} (r:RelV x u) (q:RelV y u):x=y:=Option.some.inj (r.abs.symm.trans q.abs)
theorem Vals.inj: ∀{xs ys:List V}{us:List Value},Vals xs us->Vals ys us->xs=ys
 |_,_,_,.nil,.nil=>rfl
 |_,_,_,.cons r t,.cons r' t'=>by rw [r.inj r',Vals.inj t t']
section
variable {X:Cx}{pins:List (Addr×Obj)}{σ:St}{H:Hp}{s:Shared}{a:Addr}{xs ys:List V}
theorem SqL.of {K:PySem.W.Frag} (h:H a=some (.lst xs)):SqL K H a xs:= .inl (.inl h)
theorem SqT.of {K:PySem.W.Frag} (h:H a=some (.tup xs)):SqT K H a xs:= .inl (.inl h)
theorem Inv.list (I:Inv X pins σ H s) (h:SqL X.K H a xs): ∃its:List Value,Vals xs its/\PlainL s.heap a its.toArray/\xs.length<=sizeLine:=by
 rcases h with h|⟨o,its,n,hk,hc,hd,hs,hz,r⟩
 ·obtain ⟨z,its,n,r,e⟩:=h.ok I.hok
  exact ⟨its,r,⟨_,n,e,rfl,rfl,rfl⟩,z⟩
 ·refine ⟨its.toList,r,⟨o,n,I.kIn a o hk,hc,hd,by simpa using hs⟩,?_⟩
  have e:=r.length
  simp only [Array.length_toList] at e
  lia
theorem Inv.tuple (I:Inv X pins σ H s) (h:SqT X.K H a xs): ∃its:List Value,Vals xs its/\IsTup s.heap a its.toArray/\xs.length<=sizeLine:=by
 rcases h with h|⟨o,its,n,hk,hc,hs,hz,r⟩
 ·obtain ⟨z,its,r,p⟩:=h.ok I.hok
  exact ⟨its,r,p.tup,z⟩
 ·refine ⟨its.toList,r,⟨o,I.kIn a o hk,hc,n,by simpa using hs⟩,?_⟩
  have e:=r.length
  simp only [Array.length_toList] at e
  lia
theorem Inv.list_inj (I:Inv X pins σ H s) (h:SqL X.K H a xs) (h':SqL X.K H a ys):xs=ys:=by
 obtain ⟨its,r,⟨o,n,e,_,_,d⟩,_⟩:=I.list h
 obtain ⟨its',r',⟨o',n',e',_,_,d'⟩,_⟩:=I.list h'
 rw [e] at e';cases e'
 rw [d] at d'
 injection d' with d1 _
 have:its=its':=by simpa using congrArg Array.toList d1
 subst this
 exact r.inj r'
theorem Inv.tuple_inj (I:Inv X pins σ H s) (h:SqT X.K H a xs) (h':SqT X.K H a ys):xs=ys:=by
 obtain ⟨its,r,⟨o,e,_,n,d⟩,_⟩:=I.tuple h
 obtain ⟨its',r',⟨o',e',_,n',d'⟩,_⟩:=I.tuple h'
 rw [e] at e';cases e'
 rw [d] at d'
 injection d' with d1 _
 have:its=its':=by simpa using congrArg Array.toList d1
 subst this
 exact r.inj r'
end
noncomputable abbrev Cx.wish (X:Cx) (E:Value->Shared->Prop):Cx:={X with xe:=E}
noncomputable abbrev Cx.nox (X:Cx):Cx:=X.wish fun _ _=>False
theorem Cx.Ok.wish {X:Cx} (ok:X.Ok) (E:Value->Shared->Prop):(X.wish E).Ok:=
 ⟨ok.mod,ok.kind,ok.glob,ok.blt,ok.above,ok.inj,ok.has,ok.cab,ok.hd,ok.frames,ok.stk,ok.exf,ok.bs,ok.bsz,ok.noex,ok.exfs,ok.funs,ok.frf⟩
theorem Cx.Ok.unwish {X:Cx}{E:Value->Shared->Prop} (ok:(X.wish E).Ok):X.Ok:=
 ⟨ok.mod,ok.kind,ok.glob,ok.blt,ok.above,ok.inj,ok.has,ok.cab,ok.hd,ok.frames,ok.stk,ok.exf,ok.bs,ok.bsz,ok.noex,ok.exfs,ok.funs,ok.frf⟩
section
variable {X:Cx}{pins:List (Addr×Obj)}{σ:St}{H:Hp}{s:Shared}{E:Value->Shared->Prop}
theorem Inv.wish (I:Inv X pins σ H s) (E:Value->Shared->Prop):Inv (X.wish E) pins σ H s:=⟨I.ok.wish E,I.os,I.bare,I.base,I.loc,I.cell,I.free,I.freeC,I.pin,I.hok,I.len⟩
theorem Inv.unwish (I:Inv (X.wish E) pins σ H s):Inv X pins σ H s:=⟨I.ok.unwish,I.os,I.bare,I.base,I.loc,I.cell,I.free,I.freeC,I.pin,I.hok,I.len⟩
theorem SP.unwish {D:Ends}{f:Flow}{s':Shared} (h:SP (X.wish E) pins D f s'):SP X pins D f s':=by
 cases f with
 |next=>obtain ⟨σ',H',I,q⟩:=h;exact ⟨σ',H',I.unwish,q⟩
 |brk=>obtain ⟨σ',H',I,q⟩:=h;exact ⟨σ',H',I.unwish,q⟩
 |cont=>obtain ⟨σ',H',I,q⟩:=h;exact ⟨σ',H',I.unwish,q⟩
 |ret u=>obtain ⟨v,σ',H',I,r,q⟩:=h;exact ⟨v,σ',H',I.unwish,r,q⟩
theorem PSs.nox {st:List Stmt}{t:TS} (h:PSs X.nox st t):PSs X st t:=fun pins s σ H D I hw=>
 wpAny_mono (h pins s σ H D (I.wish _) hw) (fun _ _ q=>q.unwish) fun _ _ z=>False.elim z
end
section
variable {X:Cx}{st:Stmt}{rest:List Stmt}{t u:TS}{e:Expr}{te:TE}{pos:Pos}
noncomputable def fD:TS:=fun D σ H=>D.nx σ H
noncomputable def tSeq (t u:TS):TS:=fun D σ H=>t {D with nx:=u D} σ H
theorem fE:PSs X [] fD:=fun _ _ σ H _ I h=>wpAny_execs_nil ⟨σ,H,I,h⟩
theorem eG (h1:PS X st t) (h2:PSs X rest u):PSs X (st::rest) (tSeq t u):=by
 intro pins s σ H D I h
 refine wpAny_execs_cons (thn (h1 pins s σ H {D with nx:=u D} I h) fun f s1 q=> ?_)
 cases f with
 |next=>
  obtain ⟨σ',H',I',q⟩:=q
  exact h2 pins s1 σ' H' D I' q
 |ret v=>exact q
 |brk=>exact q
 |cont=>exact q
theorem lN (h1:PS X st t):PSs X [st] t:=by
 intro pins s σ H D I h
 refine wpAny_execs_cons (thn (h1 pins s σ H D I h) fun f s1 q=> ?_)
 cases f with
 |next=>exact wpAny_execs_nil q
 |ret v=>exact q
 |brk=>exact q
 |cont=>exact q
theorem Inv.quiet {pins:List (Addr×Obj)}{σ:St}{H:Hp}{s:Shared} (I:Inv X pins σ H s):interactive X.env=false:=by simp [interactive,I.ok.kind]
noncomputable def tRet (te:TE):TS:=fun D σ H=>te σ H D.rt
theorem fF (he:PE X e te):PS X (.Return (some e) pos) (tRet te):=by
 intro pins s σ H D I h
 exact wpAny_Return_some (thn (he pins s σ H _ I h) fun v s1 ⟨x,H1,I1,r1,q1⟩=>⟨x,σ,H1,I1,r1,q1⟩)
noncomputable def tIfS (c:TT) (t u:TS):TS:=fun D σ H=>c σ H fun b H1=>if b=true then t D σ H1 else u D σ H1
theorem lO {c:Expr}{a b:List Stmt}{tc:TT} (hc:PT X c tc) (ha:PSs X a t) (hb:PSs X b u):PS X (.If c a b pos) (tIfS tc t u):=by
 intro pins s σ H D I h
 refine wpAny_If (thn (hc pins s σ H _ I h) fun d s1 ⟨H1,I1,q1⟩=> ?_)
 cases d with
 |true=>exact ha pins s1 σ H1 D I1 q1
 |false=>exact hb pins s1 σ H1 D I1 q1
end
noncomputable abbrev TG:=V->St->Hp->(St->Hp->Prop)->Prop
noncomputable def PG (X:Cx) (target:Expr) (t:TG):Prop:=
 ∀(pins:List (Addr×Obj)) (s:Shared) (σ:St) (H:Hp) (v:V) (u:Value) (Q:St->Hp->Prop),Inv X pins σ H s->RelV v u->t v σ H Q->
  wpAny (model X.prog X.w) X.A (assign target X.env u) (fun _ s'=> ∃σ' H',Inv X pins σ' H' s'/\Q σ' H') X.xe s
noncomputable abbrev TSet:=V->V->V->Hp->(Hp->Prop)->Prop
noncomputable def PSet (X:Cx) (t:TSet):Prop:=
 ∀(pins:List (Addr×Obj)) (s:Shared) (σ:St) (H:Hp) (o i v:V) (ov iv u:Value) (Q:Hp->Prop),Inv X pins σ H s->RelV o ov->RelV i iv->RelV v u->t o i v H Q->
  wpAny (model X.prog X.w) X.A (setItem ov iv u) (fun _ s'=> ∃H',Inv X pins σ H' s'/\Q H') X.xe s
section
variable {X:Cx}{pos:Pos}
noncomputable def cq (i:Nat):TG:=fun v σ H Q=>Q (σ.set i (some v)) H
theorem cO {i:Nat}{x:Str} (hN:X.N.Nodup) (hi:X.N[i]?=some x) (hx:Loc X.env.scope x) (hf:X.fn x=true \/X.env.scope.names.lookup x=some .local:=by first|exact .inl rfl|exact .inr rfl|assumption):PG X (.Name x pos) (cq i):=by
 intro pins s σ H v u Q I r h
 exact wpAny_assign_Name (fA I hN hi hx r (fun s' I'=>⟨_,H,I',h⟩) hf)
noncomputable def gSub (to ti:TE) (t:TSet):TG:=fun v σ H Q=>to σ H fun o H1=>ti σ H1 fun i H2=>t o i v H2 fun H3=>Q σ H3
theorem lP {o i:Expr}{to ti:TE}{t:TSet} (ho:PE X o to) (hi:PE X i ti) (hs:PSet X t)
  (ha: ∀v,assign (.Subscript o i pos) X.env v=(do
   let ov<-holding [v] (eval o X.env)
   let iv<-holding [v,ov] (eval i X.env)
   standAt pos
   holding [v,ov,iv] (setItem ov iv v)
   release [v,ov,iv] []):=by intro _;rfl):PG X (.Subscript o i pos) (gSub to ti t):=by
 intro pins s σ H v u Q I r h
 rw [ha]
 refine wpAny_bind (wpAny_holding (thn (ho pins s σ H _ I h) fun ov s1 ⟨x,H1,I1,r1,q1⟩=> ?_))
 refine wpAny_bind (wpAny_holding (thn (hi pins s1 σ H1 _ I1 q1) fun iv s2 ⟨y,H2,I2,r2,q2⟩=> ?_))
 refine wpAny_bind (wpAny_standAt (wpAny_bind (wpAny_holding (thn (hs pins s2 σ H2 x y v ov iv u _ I2 r1 r2 r q2) fun _ s3 ⟨H3,I3,q3⟩=> ?_))))
 exact wpAny_release ⟨σ,H3,I3,q3⟩
noncomputable def tAsg (te:TE) (g:TG):TS:=fun D σ H=>te σ H fun x H1=>g x σ H1 D.nx
theorem lQ {tg e:Expr}{te:TE}{g:TG} (he:PE X e te) (hg:PG X tg g) (hs:swapsWithSole [tg] e pos.line X.env=pure false:=by rfl) (hw:swappedStores [tg] e X.env=pure none:=by rfl)
  (h1:(assignEach [tg] X.env).map (·.2)=[assign tg X.env]:=by rfl):PS X (.Assign [tg] e pos) (tAsg te g):=by
 intro pins s σ H D I h
 refine wpAny_Assign_stores (thn (he pins s σ H _ I h) fun v s1 ⟨x,H1,I1,r1,q1⟩=> ?_) hs hw
 rw [h1]
 exact thn (hg pins s1 σ H1 x v _ I1 r1 q1) fun _ s2 q=>q
theorem eH {i:Nat}{x:Str}{e:Expr}{te:TE}{pos':Pos} (hN:X.N.Nodup) (hi:X.N[i]?=some x) (hx:Loc X.env.scope x) (he:PE X e te) (hs:swapsWith e (some (.Name x pos')) pos.line X.env=pure false:=by rfl) (hf:X.fn x=true \/X.env.scope.names.lookup x=some .local:=by first|exact .inl rfl|exact .inr rfl|assumption):
  PS X (.Assign [.Name x pos'] e pos) (tAsg te (cq i)):=by
 intro pins s σ H D I h
 refine wpAny_Assign_Name (thn (he pins s σ H _ I h) fun v s1 ⟨y,H1,I1,r1,q1⟩=> ?_) hs
 exact fA I1 hN hi hx r1 (fun s2 I2=>⟨_,H1,I2,q1⟩) hf
end
section
variable {X:Cx}{pos:Pos}
end
structure It where
 go:Nat->Hp->Prop
 yld:Nat->Hp->V->Hp->Prop
 stop:Nat->Hp->Prop
noncomputable def FpOk (X:Cx) (pins:List (Addr×Obj)) (H:Hp) (b:Addr):Prop:=
 H b=none/\b≠X.env.locals/\b∉X.fs/\(b∈X.ex \/X.s₀.heap.objs.size<=b)/\(∀x c,X.env.cells.lookup x=some c->c≠b)/\ ∀p∈X.pn++pins,p.1≠b
theorem Inv.fpOk {X:Cx}{pins:List (Addr×Obj)}{σ:St}{H H':Hp}{s:Shared}{b:Addr} (I:Inv X pins σ H s) (hb:s.heap.objs.size<=b) (hn:H' b=none):FpOk X pins H' b:=by
 refine ⟨hn,Nat.ne_of_gt (Nat.lt_of_lt_of_le I.lt hb),I.nofs hb,.inr (Nat.le_trans I.sz hb),fun x c e z=> ?_,fun p hp z=> ?_⟩
 ·obtain ⟨v,q⟩:=I.cell x c e
  exact absurd (Nat.lt_of_lt_of_le q.lt (by rw [z];exact hb)) (Nat.lt_irrefl _)
 ·exact absurd (Nat.lt_of_lt_of_le (Heap.lt_size (I.pin p hp).1) (by rw [z];exact hb)) (Nat.lt_irrefl _)
structure Turn (P:Program) (w:World) (K:PySem.W.Frag) (tg:Expr) (J:It) (fp:List Addr) (it:Addr) (tn:Nat->Heap->Prop):Prop where
 mem:it∈fp
 obj: ∀i h,tn i h-> ∀b∈fp,∃o,h.get? b=some o/\ ∀v,o.data≠ .cell v
 keep: ∀i h h',tn i h->(∀b∈fp,∀o,h.get? b=some o->h'.get? b=some o)->tn i h'
 item: ∀(X:Cx),X.prog=P->X.w=w->X.K=K->X.calm=true-> ∀(i:Nat) (pins:List (Addr×Obj)) (s:Shared) (σ:St) (H:Hp) (E:Value->Shared->Prop),Inv X pins σ H s->(∀b∈fp,FpOk X pins H b)->tn i s.heap->J.go i H->
  wpAny (model P w) X.A (pyNext (.ref it)) (fun r s1=> ∃u,r=some u/\
   wpAny (model P w) X.A (letOwnedTupleGo tg (.ref it) u) (fun _ s2=> ∃x H',Inv X pins σ H' s2/\RelV x u/\J.yld i H x H'/\tn (i+1) s2.heap/\ ∀b∈fp,H' b=none) E s1) E s
 done: ∀(X:Cx),X.prog=P->X.w=w->X.K=K->X.calm=true-> ∀(i:Nat) (pins:List (Addr×Obj)) (s:Shared) (σ:St) (H:Hp) (E:Value->Shared->Prop),Inv X pins σ H s->(∀b∈fp,FpOk X pins H b)->tn i s.heap->J.stop i H->
  wpAny (model P w) X.A (pyNext (.ref it)) (fun r s1=>r=none/\Inv X pins σ H s1) E s
 self: ∀(A:Around) (i:Nat) (s:Shared) (Q:Value->Shared->Prop) (E:Value->Shared->Prop),tn i s.heap->Q (.ref it) s->wpAny (model P w) A (pyIter (.ref it)) Q E s
noncomputable abbrev TI:=St->Hp->(It->Hp->Prop)->Prop
noncomputable def PIE (X:Cx) (pins:List (Addr×Obj)) (σ:St) (tg:Expr) (R:It->Hp->Prop) (itv:Value) (s2:Shared):Prop:=
 ∃(it:Addr) (fp:List Addr) (tn:Nat->Heap->Prop) (J:It) (H':Hp),itv= .ref it/\Inv X pins σ H' s2/\Turn X.prog X.w X.K tg J fp it tn/\tn 0 s2.heap/\(∀b∈fp,FpOk X pins H' b)/\R J H'
noncomputable def PI (X:Cx) (tg iter:Expr) (wi:TI):Prop:=
 ∀(pins:List (Addr×Obj)) (s:Shared) (σ:St) (H:Hp) (R:It->Hp->Prop),Inv X pins σ H s->wi σ H R->
  wpAny (model X.prog X.w) X.A (eval iter X.env) (fun v s1=>wpAny (model X.prog X.w) X.A (pyIter v) (PIE X pins σ tg R) X.xe s1) X.xe s
theorem eI {M:Model}{A:Around}{E:Value->Shared->Prop}{s:Shared}{tg:Expr}{it:Addr}{u:Value}{o:Obj}{n:String}{vs:Array Value}{Q:Unit->Shared->Prop} (ho:s.heap.get? it=some o) (hc:o.cls= .type n) (hd:o.data= .fields vs)
  (hn:["enumerate","zip","dict_itemiterator","dict_reverseitemiterator","odict_iterator","itertools.zip_longest","itertools.pairwise"].contains n=false) (hQ:Q () s):wpAny M A (letOwnedTupleGo tg (.ref it) u) Q E s:=by
 unfold letOwnedTupleGo
 cases tg<;>first
  |exact wpAny_pure hQ
  |(cases u<;>first
    |exact wpAny_pure hQ
    |(refine wpAny_bind (wpAny_load ho ?_);rw [hc,hd];show wpAny M A (if (["enumerate","zip","dict_itemiterator","dict_reverseitemiterator","odict_iterator","itertools.zip_longest","itertools.pairwise"].contains n&&vs[0]?==some (rawInt _))=true then _ else _) Q E s;rw [if_neg (by intro h;rw [hn,Bool.false_and] at h;cases h)];exact wpAny_pure hQ))
noncomputable def Itl (K:PySem.W.Frag) (a:Addr):It:=
 ⟨fun i H=> ∃xs x,SqL K H a xs/\xs[i]?=some x,fun i H x H'=>H'=H/\ ∀xs,SqL K H a xs->xs[i]?=some x,fun i H=> ∃xs,SqL K H a xs/\xs.length<=i⟩
noncomputable def Itt (K:PySem.W.Frag) (a:Addr):It:=
 ⟨fun i H=> ∃xs x,SqT K H a xs/\xs[i]?=some x,fun i H x H'=>H'=H/\ ∀xs,SqT K H a xs->xs[i]?=some x,fun i H=> ∃xs,SqT K H a xs/\xs.length<=i⟩
noncomputable def Itr (lo:Int) (n:Nat):It:=⟨fun i _=>i<n,fun i H x H'=>H'=H/\x= .int (lo+i),fun i _=>n<=i⟩
theorem lR {P:Program}{w:World}{K:PySem.W.Frag}{tg:Expr} (a it:Addr):Turn P w K tg (Itl K a) [it] it (fun i h=>h.IsListIter it a i) where
 mem:=by simp
 obj:=fun i h st b hb=>by
  have e:b=it:=by simpa using hb
  subst e
  obtain ⟨o,e,c,d⟩:=st
  exact ⟨o,e,fun v z=>by rw [d] at z;cases z⟩
 keep:=fun i h h' st k=>st.at fun o e=>k it (by simp) o e
 item:=by
  intro X hP hw hK hc i pins s σ H E I hf st hg
  subst hP hw hK
  obtain ⟨xs,x,hq,hx⟩:=hg
  obtain ⟨its,rv,p,hz⟩:=I.list hq
  obtain ⟨u,hu,ru⟩:=rv.get hx
  obtain ⟨f0,f1,f2,f3,f4,f5⟩:=hf it (by simp)
  refine wpAny_pyNext_list_item st p.isList (x:=u) (by simpa using hu) fun h' st' sb=> ?_
  have I1:Inv X pins σ H {s with heap:=h'}:=I.turned (t':=s.toks) (fun b o hb e=>(sb.2 b hb).trans e) f0 f1 f3 f4 f5
  obtain ⟨o,e,c,d⟩:=id st'
  exact ⟨u,rfl,eI (s:={s with heap:=h'}) e c d (by decide) ⟨x,H,I1,ru,⟨rfl,fun ys hy=>by rw [I.list_inj hy hq];exact hx⟩,st',fun b hb=>(hf b hb).1⟩⟩
 done:=by
  intro X hP hw hK hc i pins s σ H E I hf st hg
  subst hP hw hK
  obtain ⟨xs,hq,hx⟩:=hg
  obtain ⟨its,rv,p,hz⟩:=I.list hq
  obtain ⟨f0,f1,f2,f3,f4,f5⟩:=hf it (by simp)
  have hl:=rv.length
  exact wpAny_pyNext_list_end (I.ok.hd hc) st p.isList (by simp;lia) fun h' eb=>⟨rfl,I.turned (t':=s.toks) (fun b o hb e=>eb b o hb e) f0 f1 f3 f4 f5⟩
 self:=fun _ _ _ _ _ st h=>wpAny_pyIter_listiter st h
theorem lS {P:Program}{w:World}{K:PySem.W.Frag}{tg:Expr} (a it:Addr):Turn P w K tg (Itt K a) [it] it (fun i h=>h.IsTupleIter it a i) where
 mem:=by simp
 obj:=fun i h st b hb=>by
  have e:b=it:=by simpa using hb
  subst e
  obtain ⟨o,e,c,d⟩:=st
  exact ⟨o,e,fun v z=>by rw [d] at z;cases z⟩
 keep:=fun i h h' st k=>st.at fun o e=>k it (by simp) o e
 item:=by
  intro X hP hw hK hc i pins s σ H E I hf st hg
  subst hP hw hK
  obtain ⟨xs,x,hq,hx⟩:=hg
  obtain ⟨its,rv,p,hz⟩:=I.tuple hq
  obtain ⟨u,hu,ru⟩:=rv.get hx
  obtain ⟨f0,f1,f2,f3,f4,f5⟩:=hf it (by simp)
  refine wpAny_pyNext_tuple_item st (show s.heap.IsTuple a its.toArray from p) (x:=u) (by simpa using hu) fun h' st' sb=> ?_
  have I1:Inv X pins σ H {s with heap:=h'}:=I.turned (t':=s.toks) (fun b o hb e=>(sb.2 b hb).trans e) f0 f1 f3 f4 f5
  obtain ⟨o,e,c,d⟩:=id st'
  exact ⟨u,rfl,eI (s:={s with heap:=h'}) e c d (by decide) ⟨x,H,I1,ru,⟨rfl,fun ys hy=>by rw [I.tuple_inj hy hq];exact hx⟩,st',fun b hb=>(hf b hb).1⟩⟩
 done:=by
  intro X hP hw hK hc i pins s σ H E I hf st hg
  subst hP hw hK
  obtain ⟨xs,hq,hx⟩:=hg
  obtain ⟨its,rv,p,hz⟩:=I.tuple hq
  obtain ⟨f0,f1,f2,f3,f4,f5⟩:=hf it (by simp)
  have hl:=rv.length
  exact wpAny_pyNext_tuple_end (I.ok.hd hc) st (show s.heap.IsTuple a its.toArray from p) (by simp;lia) fun h' eb=>⟨rfl,I.turned (t':=s.toks) (fun b o hb e=>eb b o hb e) f0 f1 f3 f4 f5⟩
 self:=fun _ _ _ _ _ st h=>wpAny_pyIter_tupleiter st h
theorem lT {P:Program}{w:World}{K:PySem.W.Frag}{tg:Expr} (it:Addr) (lo:Int) (n:Nat):Turn P w K tg (Itr lo n) [it] it (fun i h=>IsRangeIter h it (lo+(i:Nat)*1) ((n:Int)-(i:Nat)) 1) where
 mem:=by simp
 obj:=fun i h st b hb=>by
  have e:b=it:=by simpa using hb
  subst e
  exact ⟨_,st,fun v z=>by
   have z':Data.fields _=Data.cell v:=z
   cases z'⟩
 keep:=fun i h h' st k=>k it (by simp) _ st
 item:=by
  intro X hP hw hK hc i pins s σ H E I hf st hg
  subst hP hw hK
  obtain ⟨f0,f1,f2,f3,f4,f5⟩:=hf it (by simp)
  have W:=Walks.range (prog:=X.prog) (w:=X.w) (I.ok.hd hc) it lo 1 n
  refine W.item i s _ _ hg st fun v h' tk hv st' kk=> ?_
  obtain ⟨t,rfl⟩:=hv
  have I1:Inv X pins σ H {s with heap:=h',toks:=tk}:=I.turned (fun b o hb e=>kk b o (by simpa using hb) e) f0 f1 f3 f4 f5
  refine ⟨_,rfl,eI (s:={s with heap:=h',toks:=tk}) (n:="range_iterator") st' rfl rfl (by decide) ⟨.int (lo+i),H,I1,⟨t,?_⟩,⟨rfl,rfl⟩,st',fun b hb=>(hf b hb).1⟩⟩
  rw [Int.mul_one]
 done:=by
  intro X hP hw hK hc i pins s σ H E I hf st hg
  subst hP hw hK
  obtain ⟨f0,f1,f2,f3,f4,f5⟩:=hf it (by simp)
  exact wpAny_pyNext_range_end (I.ok.hd hc) st (by have:n<=i:=hg;lia) fun h' eb=>⟨rfl,I.turned (t':=s.toks) (fun b o hb e=>eb b o hb e) f0 f1 f3 f4 f5⟩
 self:=fun _ _ _ _ _ st h=>wpAny_pyIter_rangeiter st h
end L2
namespace L2
open PySem PySem.Spec PyProof.Rows
section
variable {X:Cx}{tg:Expr}
noncomputable def lU (K:PySem.W.Frag) (tl:TE):TI:=fun σ H R=>tl σ H fun x H1=> ∃a,x= .ref a/\(∃xs,SqL K H1 a xs)/\R (Itl K a) H1
noncomputable def iTup (K:PySem.W.Frag) (tl:TE):TI:=fun σ H R=>tl σ H fun x H1=> ∃a,x= .ref a/\(∃xs,SqT K H1 a xs)/\R (Itt K a) H1
theorem lV {l:Expr}{tl:TE} (hl:PE X l tl):PI X tg l (lU X.K tl):=by
 intro pins s σ H R I h
 refine thn (hl pins s σ H _ I h) fun v s1 ⟨x,H1,I1,r1,q1⟩=> ?_
 obtain ⟨a,e,⟨xs,hq⟩,q⟩:=q1
 subst e
 cases r1
 obtain ⟨its,rv,p,hz⟩:=I1.list hq
 refine wpAny_pyIter_list p.isList ?_
 refine ⟨s1.heap.objs.size,[s1.heap.objs.size],_,_,H1,rfl,I1.kept (t':=s1.toks) fun b o e=>Heap.get?_push_of_some _ e,lR a _,⟨_,Heap.get?_push_size _ rfl,rfl,rfl⟩,fun b hb=> ?_,q⟩
 have e:b=s1.heap.objs.size:=by simpa using hb
 subst e
 exact I1.fpOk (Nat.le_refl _) (I1.hok.fresh (Nat.le_refl _))
theorem lW {l:Expr}{tl:TE} (hl:PE X l tl):PI X tg l (iTup X.K tl):=by
 intro pins s σ H R I h
 refine thn (hl pins s σ H _ I h) fun v s1 ⟨x,H1,I1,r1,q1⟩=> ?_
 obtain ⟨a,e,⟨xs,hq⟩,q⟩:=q1
 subst e
 cases r1
 obtain ⟨its,rv,p,hz⟩:=I1.tuple hq
 refine wpAny_pyIter_tuple (show s1.heap.IsTuple a its.toArray from p) ?_
 refine ⟨s1.heap.objs.size,[s1.heap.objs.size],_,_,H1,rfl,I1.kept (t':=s1.toks) fun b o e=>Heap.get?_push_of_some _ e,lS a _,⟨_,Heap.get?_push_size _ rfl,rfl,rfl⟩,fun b hb=> ?_,q⟩
 have e:b=s1.heap.objs.size:=by simpa using hb
 subst e
 exact I1.fpOk (Nat.le_refl _) (I1.hok.fresh (Nat.le_refl _))
theorem lX {pins:List (Addr×Obj)}{σ:St}{H:Hp}{s:Shared}{R:It->Hp->Prop}{E:Value->Shared->Prop}{lo hi:Int}{t u v:Tok}{tk:Nat} (I:Inv X pins σ H s) (h1: -(2^62)<=lo) (h2:lo<2^62) (h3: -(2^62)<=hi) (h4:hi<2^62)
  (q:R (Itr lo (hi-lo).toNat) H):wpAny (model X.prog X.w) X.A (pyIter (.ref s.heap.objs.size)) (PIE X pins σ tg R) E {s with heap:=s.heap.push {cls:= .type "range",data:= .fields #[.int lo t,.int hi u,.int 1 v]},toks:=tk}:=by
 refine wpAny_pyIter_range (IsRange.new ..) (small_one h1 h2 h3 h4) ?_
 have I1:Inv X pins σ H {s with heap:=s.heap.push {cls:= .type "range",data:= .fields #[.int lo t,.int hi u,.int 1 v]},toks:=tk}:=I.kept fun b o e=>Heap.get?_push_of_some _ e
 refine ⟨(s.heap.push {cls:= .type "range",data:= .fields #[.int lo t,.int hi u,.int 1 v]}).objs.size,[(s.heap.push {cls:= .type "range",data:= .fields #[.int lo t,.int hi u,.int 1 v]}).objs.size],_,_,H,rfl,
  I1.kept (t':=tk) fun b o e=>Heap.get?_push_of_some _ e,lT _ lo (hi-lo).toNat,?_,fun b hb=> ?_,q⟩
 ·have e1:lo+((0:Nat):Int)*1=lo:=by simp
  have e2:(((hi-lo).toNat:Nat):Int)-((0:Nat):Int)=Builtin.Range.rangeSize lo hi 1:=by rw [rangeSize_one];split<;>lia
  show IsRangeIter _ _ (lo+((0:Nat):Int)*1) ((((hi-lo).toNat:Nat):Int)-((0:Nat):Int)) 1
  rw [e1,e2]
  exact Heap.get?_push_size _ rfl
 ·have e:b=(s.heap.push {cls:= .type "range",data:= .fields #[.int lo t,.int hi u,.int 1 v]}).objs.size:=by simpa using hb
  subst e
  exact I1.fpOk (Nat.le_refl _) (I1.hok.fresh (Nat.le_refl _))
noncomputable def lY (ta:TA):TI:=fun σ H R=>ta σ H fun vs H1=> ∃j:Int,vs=[.int j]/\ -(2^62)<=j/\j<2^62/\R (Itr 0 j.toNat) H1
theorem lZ {a:Expr}{ta:TA}{p pos:Pos} (hg:Gl X "range") (hm:X.mg "range"=none) (ha:PA X [a] ta) (hs:starEach [a] X.env=[(false,eval a X.env)]:=by rfl):PI X tg (.Call (.Name "range" p) [a] [] pos) (lY ta):=by
 intro pins s σ H R I h
 refine Call_ (dY I hg hm boot_range (PyProof.Rows.callWith_type1 (thn (ha pos pins s σ H _ I h) fun us s1 ⟨vs,H1,I1,r1,q1⟩=> ?_) hs rfl))
 obtain ⟨j,e,q1,q2,q⟩:=q1
 subst e
 cases r1 with
 |cons r rr=>
  cases rr
  obtain ⟨t,rfl⟩:=r
  exact call_range_1 (lX I1 (by lia) (by lia) q1 q2 (by simpa using q))
noncomputable def tFor (wi:TI) (g:TG) (tb:TS):TS:=fun D σ H=>wi σ H fun J H1=> ∃W:Nat->Nat->St->Hp->Prop,(∃m,W 0 m σ H1)/\ ∀i m σ H,W i m σ H->
 (J.stop i H/\D.nx σ H) \/(J.go i H/\ ∃N:St->Hp->Prop,(∀σ' H',N σ' H'-> ∃m',m'<m/\W (i+1) m' σ' H')/\ ∀x H',J.yld i H x H'->g x σ H' fun σ2 H2=>tb {D with nx:=N,ct:=N,bk:=D.nx} σ2 H2)
noncomputable def cP (fp:List Addr) (h:Heap):List (Addr×Obj):=fp.filterMap fun b=>(h.get? b).map fun o=>(b,o)
theorem cQ {fp:List Addr}{h:Heap}{b:Addr}{o:Obj} (hb:b∈fp) (e:h.get? b=some o):(b,o)∈cP fp h:=List.mem_filterMap.mpr ⟨b,hb,by rw [e];rfl⟩
theorem md {fp:List Addr}{h:Heap}{p:Addr×Obj} (hp:p∈cP fp h):p.1∈fp/\h.get? p.1=some p.2:=by
 obtain ⟨b,hb,e⟩:=List.mem_filterMap.mp hp
 cases q:h.get? b with
 |none=>rw [q] at e;cases e
 |some o=>
  rw [q] at e
  have e':(b,o)=p:=Option.some.inj e
  subst e'
  exact ⟨hb,q⟩
theorem Inv.pinned {pins:List (Addr×Obj)}{σ:St}{H:Hp}{s:Shared}{fp:List Addr} (I:Inv X pins σ H s) (hf: ∀b∈fp,FpOk X pins H b) (ho: ∀b∈fp,∃o,s.heap.get? b=some o/\ ∀v,o.data≠ .cell v):Inv X (pins++cP fp s.heap) σ H s:=
 I.pins_of fun p hp=>(List.mem_append.mp hp).elim (fun z=>I.pin p (List.mem_append_right _ z)) fun z=>by
  obtain ⟨hb,e⟩:=md z
  obtain ⟨f0,f1,f2,_⟩:=hf p.1 hb
  obtain ⟨o,e',d⟩:=ho p.1 hb
  rw [e] at e';cases e'
  exact ⟨e,f0,f1,f2,d⟩
theorem Inv.unpinned {pins pl:List (Addr×Obj)}{σ:St}{H:Hp}{s:Shared} (I:Inv X (pins++pl) σ H s):Inv X pins σ H s:=I.pins_of fun p hp=>I.pin p (List.mem_append_right _ (List.mem_append_left _ hp))
theorem mf {iter:Expr}{body:List Stmt}{wi:TI}{g:TG}{tb:TS}{pos:Pos} (hp:PassesOwn (model X.prog X.w) X.A X.env X.xe) (hc:X.calm=true) (hi:PI X tg iter wi) (hg:PG X tg g) (hb:PSs X body tb)
  (hs: ∀x,foldedSetIterable iter X.env x=pure x:=by intro _;rfl):PS X (.For tg iter body [] pos) (tFor wi g tb):=by
 intro pins s σ H D I h
 refine wpAny_For (thn (hi pins s σ H _ I h) fun v s1 h1=>thn h1 fun itv s2 h2=> ?_) hs
 obtain ⟨it,fp,tn,J,H2,e,I2,T,st2,f2,W,⟨m0,w0⟩,turn⟩:=h2
 subst e
 have stat: ∀{H':Hp},(∀b∈fp,H' b=none)-> ∀b∈fp,FpOk X pins H' b:=fun hn b hb=>⟨hn b hb,(f2 b hb).2⟩
 refine codeAny_forLoop_any (fun n s'=> ∃i σ' H',Inv X pins σ' H' s'/\tn i s'.heap/\(∀b∈fp,H' b=none)/\W i n σ' H') ?_ m0 ⟨0,σ,H2,I2,st2,fun b hb=>(f2 b hb).1,w0⟩
 rintro n s3 ⟨i,σ3,H3,I3,st3,fr3,w3⟩
 rcases turn i n σ3 H3 w3 with ⟨stop,qn⟩|⟨go,N,hN,step⟩
 ·refine wpAny_passesOwn hp (thn (T.done X rfl rfl rfl hc i pins s3 σ3 H3 X.xe I3 (stat fr3) st3 stop) fun r s4 ⟨hr,I4⟩=> ?_)
  subst hr
  exact wpAny_execs_nil ⟨σ3,H3,I4,qn⟩
 ·refine wpAny_passesOwn hp (thn (T.item X rfl rfl rfl hc i pins s3 σ3 H3 X.xe I3 (stat fr3) st3 go) fun r s4 ⟨u,hr,h4⟩=> ?_)
  subst hr
  refine wpAny_passesOwn hp (thn h4 fun _ s5 ⟨x,H5,I5,r5,y5,st5,fr5⟩=> ?_)
  have I5':=I5.pinned (stat fr5) (T.obj _ _ st5)
  refine wpAny_passesOwn hp (thn (hg _ s5 σ3 H5 x u _ I5' r5 (step x H5 y5)) fun _ s6 ⟨σ6,H6,I6,q6⟩=> ?_)
  refine wpAny_passesOwn hp (thn (hb _ s6 σ6 H6 _ I6 q6) fun f s7 q7=> ?_)
  have again: ∀{σ7:St}{H7:Hp},Inv X (pins++cP fp s5.heap) σ7 H7 s7->N σ7 H7-> ∃m,m<n/\ ∃i σ' H',Inv X pins σ' H' s7/\tn i s7.heap/\(∀b∈fp,H' b=none)/\W i m σ' H':=fun {σ7 H7} I7 n7=>by
   obtain ⟨m',hm,w7⟩:=hN σ7 H7 n7
   refine ⟨m',hm,i+1,σ7,H7,I7.unpinned,T.keep _ _ _ st5 fun b hb o e=>(I7.pin (b,o) (List.mem_append_right _ (List.mem_append_right _ (cQ hb e)))).1,fun b hb=> ?_,w7⟩
   obtain ⟨o,e,d⟩:=T.obj _ _ st5 b hb
   exact (I7.pin (b,o) (List.mem_append_right _ (List.mem_append_right _ (cQ hb e)))).2.1
  cases f with
  |next=>obtain ⟨σ7,H7,I7,n7⟩:=q7;exact again I7 n7
  |cont=>obtain ⟨σ7,H7,I7,n7⟩:=q7;exact again I7 n7
  |brk=>obtain ⟨σ7,H7,I7,q7⟩:=q7;exact ⟨σ7,H7,I7.unpinned,q7⟩
  |ret v=>obtain ⟨x7,σ7,H7,I7,r7,q7⟩:=q7;exact ⟨x7,σ7,H7,I7.unpinned,r7,q7⟩
end
end L2
namespace L2
open PySem PySem.Spec PyProof.Rows
noncomputable abbrev R2:=V->V->Hp->VK->Prop
noncomputable def OpR (X:Cx) (f:Value->Value->Sem Value) (r:R2):Prop:=
 ∀(pins:List (Addr×Obj)) (s:Shared) (σ:St) (H:Hp) (x y:V) (v u:Value) (Q:VK),Inv X pins σ H s->RelV x v->RelV y u->r x y H Q->
  wpAny (model X.prog X.w) X.A (f v u) (EP X pins σ Q) X.xe s
noncomputable def UnR (X:Cx) (f:Value->Sem Value) (r:V->Hp->VK->Prop):Prop:=
 ∀(pins:List (Addr×Obj)) (s:Shared) (σ:St) (H:Hp) (x:V) (v:Value) (Q:VK),Inv X pins σ H s->RelV x v->r x H Q->
  wpAny (model X.prog X.w) X.A (f v) (EP X pins σ Q) X.xe s
noncomputable def ba (X:Cx) (f:Value) (r:List V->Hp->VK->Prop):Prop:=
 ∀(pins:List (Addr×Obj)) (s:Shared) (σ:St) (H:Hp) (xs:List V) (us:List Value) (Q:VK),Inv X pins σ H s->Vals xs us->r xs H Q->
  wpAny (model X.prog X.w) X.A (call f us) (EP X pins σ Q) X.xe s
noncomputable def tOp (r:R2) (ta tb:TE):TE:=fun σ H Q=>ta σ H fun x H1=>tb σ H1 fun y H2=>r x y H2 Q
noncomputable def tUn (r:V->Hp->VK->Prop) (ta:TE):TE:=fun σ H Q=>ta σ H fun x H1=>r x H1 Q
noncomputable def rI (C:Int->Int->Prop) (g:Int->Int->V):R2:=fun x y H Q=> ∃i j,x= .int i/\y= .int j/\C i j/\Q (g i j) H
noncomputable def rI0 (g:Int->Int->V):R2:=fun x y H Q=> ∃i j,x= .int i/\y= .int j/\Q (g i j) H
noncomputable def rU (g:Int->V):V->Hp->VK->Prop:=fun x H Q=> ∃i,x= .int i/\Q (g i) H
section
variable {X:Cx}{a b c:Expr}{ta tb tc:TE}{pos:Pos}
theorem binT (ha:PE X a ta) (hb:PE X b tb) {pins:List (Addr×Obj)}{s:Shared}{σ:St}{H:Hp}{R:V->V->Hp->Prop} (I:Inv X pins σ H s)
  (h:ta σ H fun x H1=>tb σ H1 fun y H2=>R x y H2) {Q:Value->Shared->Prop}{f:Value->Value->Sem Value}
  (hf: ∀v u s2 x y H2,Inv X pins σ H2 s2->RelV x v->RelV y u->R x y H2->wpAny (model X.prog X.w) X.A (f v u) Q X.xe s2):
  wpAny (model X.prog X.w) X.A (eval a X.env) (fun v s₁=>wpAny (model X.prog X.w) X.A (eval b X.env) (fun u s₂=>wpAny (model X.prog X.w) X.A (f v u) Q X.xe s₂) X.xe s₁) X.xe s:=by
 refine thn (ha pins s σ H _ I h) fun v s1 ⟨x,H1,I1,r1,q1⟩=> ?_
 refine thn (hb pins s1 σ H1 _ I1 q1) fun u s2 ⟨y,H2,I2,r2,q2⟩=> ?_
 exact hf v u s2 x y H2 I2 r1 r2 q2
theorem g8 {op:Operator}{r:R2} (ho:OpR X (binaryOp op) r) (ha:PE X a ta) (hb:PE X b tb):PE X (.BinOp a op b pos) (tOp r ta tb):=by
 intro pins s σ H Q I h
 exact wpAny_BinOp (binT ha hb I h fun v u s2 x y H2 I2 rx ry q=>ho pins s2 σ H2 x y v u Q I2 rx ry q)
theorem mn {op:UnaryOp}{r:V->Hp->VK->Prop} (ho:UnR X (unaryOp op) r) (ha:PE X a ta):PE X (.UnaryOp op a pos) (tUn r ta):=by
 intro pins s σ H Q I h
 exact UnaryOp_ (thn (ha pins s σ H _ I h) fun v s1 ⟨x,H1,I1,r1,q1⟩=>ho pins s1 σ H1 x v Q I1 r1 q1)
theorem opI {f:Value->Value->Sem Value}{C:Int->Int->Prop}{g:Int->Int->Int}
  (rule: ∀(i j:Int) (t u:Tok) (s:Shared) (Q:Value->Shared->Prop) (E:Value->Shared->Prop),C i j->Q (.int (g i j) s.toks) {s with toks:=s.toks+1}->wpAny (model X.prog X.w) X.A (f (.int i t) (.int j u)) Q E s):
  OpR X f (rI C fun i j=> .int (g i j)):=by
 intro pins s σ H x y v u Q I rx ry h
 obtain ⟨i,j,rfl,rfl,hc,q⟩:=h
 obtain ⟨t,rfl⟩:=rx
 obtain ⟨t',rfl⟩:=ry
 exact rule i j t t' s _ _ hc ⟨.int (g i j),H,I.tok _,⟨_,rfl⟩,q⟩
theorem opI0 {f:Value->Value->Sem Value}{g:Int->Int->Int}
  (rule: ∀(i j:Int) (t u:Tok) (s:Shared) (Q:Value->Shared->Prop) (E:Value->Shared->Prop),Q (.int (g i j) s.toks) {s with toks:=s.toks+1}->wpAny (model X.prog X.w) X.A (f (.int i t) (.int j u)) Q E s):
  OpR X f (rI0 fun i j=> .int (g i j)):=by
 intro pins s σ H x y v u Q I rx ry h
 obtain ⟨i,j,rfl,rfl,q⟩:=h
 obtain ⟨t,rfl⟩:=rx
 obtain ⟨t',rfl⟩:=ry
 exact rule i j t t' s _ _ ⟨.int (g i j),H,I.tok _,⟨_,rfl⟩,q⟩
theorem opB0 {f:Value->Value->Sem Value}{g:Int->Int->Bool}
  (rule: ∀(i j:Int) (t u:Tok) (s:Shared) (Q:Value->Shared->Prop) (E:Value->Shared->Prop),Q (.bool (g i j)) s->wpAny (model X.prog X.w) X.A (f (.int i t) (.int j u)) Q E s):
  OpR X f (rI0 fun i j=> .bl (g i j)):=by
 intro pins s σ H x y v u Q I rx ry h
 obtain ⟨i,j,rfl,rfl,q⟩:=h
 obtain ⟨t,rfl⟩:=rx
 obtain ⟨t',rfl⟩:=ry
 exact rule i j t t' s _ _ ⟨.bl (g i j),H,I,rfl,q⟩
noncomputable def CDiv (i j:Int):Prop:=0<j/\j<1073741824
noncomputable def CMul (i j:Int):Prop:=(-(2^64)<i/\i<2^64) \/(-(2^64)<j/\j<2^64)
theorem CMul.ok {i j:Int} (h:CMul i j):IntMulOk i j:=by
 rcases h with ⟨h1,h2⟩|⟨h1,h2⟩
 ·exact .of_left (intBits_le_64 h1 h2)
 ·exact .of_right (intBits_le_64 h1 h2)
theorem cR:OpR X (binaryOp .Add) (rI0 fun i j=> .int (i+j)):=opI0 fun _ _ _ _ _ _ _ q=>add_int q
theorem g9:OpR X (binaryOp .Sub) (rI0 fun i j=> .int (i-j)):=opI0 fun _ _ _ _ _ _ _ q=>sub_int q
theorem bS:OpR X (binaryOp .FloorDiv) (rI CDiv fun i j=> .int (i/j)):=opI fun i j _ _ _ _ _ hc q=>by
 have h1:(0:Int)<j:=hc.1
 have h2:j<1073741824:=hc.2
 exact floordiv_int (by lia) (by rw [Int.fdiv_eq_ediv_of_nonneg i (by lia)];exact q) (.inl (PyProof.noPylong_small (by lia)))
theorem aR:OpR X (binaryOp .Mod) (rI (fun _ j=>0<j) fun i j=> .int (i%j)):=opI fun i j _ _ _ _ _ hc q=>by
 have h1:(0:Int)<j:=hc
 exact mod_int' (by lia) (by rw [Int.fmod_eq_emod_of_nonneg i (by lia)];exact q)
theorem unI {f:Value->Sem Value}{g:Int->Int}
  (rule: ∀(i:Int) (t:Tok) (s:Shared) (Q:Value->Shared->Prop) (E:Value->Shared->Prop),Q (.int (g i) s.toks) {s with toks:=s.toks+1}->wpAny (model X.prog X.w) X.A (f (.int i t)) Q E s):
  UnR X f (rU fun i=> .int (g i)):=by
 intro pins s σ H x v Q I rx h
 obtain ⟨i,rfl,q⟩:=h
 obtain ⟨t,rfl⟩:=rx
 exact rule i t s _ _ ⟨.int (g i),H,I.tok _,⟨_,rfl⟩,q⟩
theorem mq:UnR X (unaryOp .USub) (rU fun i=> .int (-i)):=unI fun _ _ _ _ _ q=>neg_int q
end
section
variable {X:Cx}{a b c:Expr}{ta tb tc:TE}{pos:Pos}
theorem hJ:OpR X (compareOp .Lt) (rI0 fun i j=> .bl (decide (i<j))):=opB0 fun _ _ _ _ _ _ _ q=>lt_int q
theorem eJ:OpR X (compareOp .Gt) (rI0 fun i j=> .bl (decide (j<i))):=opB0 fun _ _ _ _ _ _ _ q=>gt_int q
theorem bc (b:Expr) {op:CmpOp} (h:op≠ .In:=by decide) (h2:op≠ .NotIn:=by decide):behindInMarks op b=false:=by
 have e1:(op==CmpOp.In)=false:=by cases op<;>first|rfl|exact absurd rfl h
 have e2:(op==CmpOp.NotIn)=false:=by cases op<;>first|rfl|exact absurd rfl h2
 cases b<;>simp [behindInMarks,e1,e2]
theorem mt {op:CmpOp}{r:R2} (ho:OpR X (compareOp op) r) (ha:PE X a ta) (hb:PE X b tb) (hm:behindInMarks op b=false):PE X (.Compare a [op] [b] pos) (tOp r ta tb):=by
 intro pins s σ H Q I h
 exact wpAny_Compare1 (binT ha hb I h fun v u s2 x y H2 I2 rx ry q=>ho pins s2 σ H2 x y v u Q I2 rx ry q) hm
noncomputable def mw (t:TE):TT:=fun σ H Q=>t σ H fun x H'=> ∃k,x= .bl k/\Q k H'
theorem my {op:CmpOp}{r:R2} (ho:OpR X (compareOp op) r) (ha:PE X a ta) (hb:PE X b tb) (hm:behindInMarks op b=false):PT X (.Compare a [op] [b] pos) (mw (tOp r ta tb)):=by
 intro pins s σ H Q I h
 refine wpAny_isTrue_Compare1 (thn (ha pins s σ H _ I h) fun v s1 ⟨x,H1,I1,r1,q1⟩=>thn (hb pins s1 σ H1 _ I1 q1) fun u s2 ⟨y,H2,I2,r2,q2⟩=>
  thn (ho pins s2 σ H2 x y v u _ I2 r1 r2 q2) fun c s3 ⟨z,H3,I3,r3,k,e,q3⟩=> ?_) hm
 subst e
 cases r3
 exact wpAny_truthy_bool ⟨H3,I3,q3⟩
theorem dZ:(sizeLine:Nat)<2^63:=by rw [sizeLine_eq];decide
theorem bT:OpR X (binaryOp .Add) (fun x y H Q=> ∃i j,x= .str i/\y= .str j/\i.length+j.length<=sizeLine/\Q (.str (i++j)) H):=by
 intro pins s σ H x y v u Q I rx ry h
 obtain ⟨i,j,rfl,rfl,hz,q⟩:=h
 obtain ⟨t,rfl⟩:=rx
 obtain ⟨t',rfl⟩:=ry
 exact add_str (fun t' tk=>⟨.str (i++j),H,I.tok _,⟨_,rfl⟩,q⟩) hz
theorem cS {x:V}{us:List Value} (r:Vals [x] us): ∃u,us=[u]/\RelV x u:=by
 cases r with
 |cons r1 r2=>cases r2;exact ⟨_,rfl,r1⟩
theorem mz:ba X (.type "str") (fun xs H Q=> ∃i,xs=[.int i]/\i.natAbs.log2<1920/\Q (.str (toString i)) H):=by
 intro pins s σ H xs us Q I r h
 obtain ⟨i,rfl,hz,q⟩:=h
 obtain ⟨u,rfl,t,rfl⟩:=cS r
 exact PySem.P.str_of_int hz ⟨.str _,H,I.tok _,⟨_,rfl⟩,q⟩
end
end L2
namespace L2
open PySem PySem.Spec PyProof.Rows
structure ObjM (h:Heap) (x dx C:Addr) (mA:Str->Option Value):Prop where
 obj:h.get? x=some (PySem.W.instObj C dx)
 ns:h.Ns1 dx mA
 ne:dx≠x
theorem mB {h:Heap}{dx:Addr}{mA:Str->Option Value} (n:h.Ns1 dx mA): ∃od,h.get? dx=some od/\ ∀name,PySem.W.lookIn name od=some (mA name):=by
 obtain ⟨o,es,ep,ho,hd,hk,_,hm⟩:=n
 refine ⟨o,ho,fun name=> ?_⟩
 have e:=hm name
 unfold nsFind findBy at e
 rw [<-Array.find?_toList] at e
 unfold PySem.W.lookIn
 rw [hd]
 dsimp only
 split
 ·rename_i y q
  rw [q] at e
  exact congrArg some e
 ·rename_i q
  rw [q] at e
  have a:es.toList.any (·.refKey)=false:=by
   rw [List.any_eq_false]
   intro y hy
   obtain ⟨z,t,hkey⟩:=hk y (Array.mem_toList_iff.mp hy)
   simp [DictEntry.refKey,hkey]
  have a': ¬es.toList.any (·.refKey)=true:=by rw [a];exact Bool.false_ne_true
  rw [if_neg a']
  exact congrArg some e
theorem ObjM.look {h:Heap}{x dx C:Addr}{mA:Str->Option Value} (I:ObjM h x dx C mA): ∃od,PySem.W.InstAt h x (PySem.W.instObj C dx) C (some od)/\ ∀name,PySem.W.lookIn name od=some (mA name):=
 let ⟨od,ho,hl⟩:=mB I.ns
 ⟨od,⟨I.obj,rfl,rfl,ho⟩,hl⟩
section
variable {prog:Program}{w:World}{A:Around}{E:Value->Shared->Prop}{s:Shared}{K:PySem.W.Frag}{x dx C f:Addr}{mA:Str->Option Value}{name:Str}{v:Value}
end
theorem RelO.none_of {o:Option Value} (r:RelO none o):o=none:=by
 cases o with
 |none=>rfl
 |some u=>exact (show False from r).elim
section
variable {P:Program}{w:World}{H H':Hp}{h h':Heap}{a C dx:Addr}{fs fs':List (Str×V)}
theorem mC (hok:HOk P w H h) (e:H a=some (.ins C dx fs)): ∃mA,ObjM h a dx C mA/\(∀f,RelO (fs.lookup f) (mA f))/\PySem.Within mA (fs.map (·.1))/\fs.length<=1000/\H dx=some (.own a):=by
 obtain ⟨d,z,ne,ob,mA,n,r,q⟩:=(show au P w H h a (.ins C dx fs) from hok a _ e)
 exact ⟨mA,⟨ob,n,ne⟩,r,q,z,d⟩
end
structure Cls (K:PySem.W.Frag) (C:Addr):Prop where
 pg:PySem.W.plainGet K C Str.empty=true
 hd:PySem.W.hasDictIn K C=true
 po:PySem.W.plainOver K C=true
 sa:PySem.W.findIn K (.ref C) "__setattr__"=some (some (.builtin "object.__setattr__"))
theorem Cls.get {K:PySem.W.Frag}{C:Addr} (c:Cls K C) (f:Str):PySem.W.plainGet K C f=true:=c.pg
section
variable {X:Cx}{pins:List (Addr×Obj)}{σ:St}{H:Hp}{s:Shared}{a C dx:Addr}{fs:List (Str×V)}{f:Str}{v:V}{A:Around}{E:Value->Shared->Prop}
end
section
variable {X:Cx}{o e value:Expr}{f:Str}{pos pos' tpos:Pos}{ta tv:TE}
end
section
variable {X:Cx}{pins:List (Addr×Obj)}{σ:St}{H:Hp}{s:Shared}{A:Around}{E:Value->Shared->Prop}{Q:Value->Shared->Prop}{c:Value}{b:Bool}
inductive TyOf (K:PySem.W.Frag) (H:Hp):V->Value->Prop where
 |non:TyOf K H .non (.type "NoneType")
 |bl (x:Bool):TyOf K H (.bl x) (.type "bool")
 |int (i:Int):TyOf K H (.int i) (.type "int")
 |str (x:Str):TyOf K H (.str x) (.type "str")
 |flt (x:UInt64):TyOf K H (.flt x) (.type "float")
 |lst {a:Addr}{xs:List V} (e:H a=some (.lst xs)):TyOf K H (.ref a) (.type "list")
 |frz {a:Addr}{o:Obj}{xs:List V} (e:H a=some (.frz o (.lst xs))):TyOf K H (.ref a) (.type "list")
 |tup {a:Addr}{xs:List V} (e:H a=some (.tup xs)):TyOf K H (.ref a) (.type "tuple")
 |dK {a:Addr}{kvs:List (Key×V)} (e:Rd H a (.dK kvs)):TyOf K H (.ref a) (.type "dict")
 |dT {a:Addr}{kvs:List (List Key×V)} (e:Rd H a (.dT kvs)):TyOf K H (.ref a) (.type "dict")
 |ins {a C dx:Addr}{fs:List (Str×V)} (e:H a=some (.ins C dx fs)) (cl:Cls K C) (ha:PySem.W.findIn K (.ref C) "__class__"=some (some (.builtin "object.__class__")))
   (hn:PySem.W.specialIn K (.builtin "object.__class__") "__get__"=some (some (.builtin "getset_descriptor.__get__"))) (htk:PySem.W.takesIn K (.builtin "object.__class__")=some true)
   (hm:PySem.W.mroIn K C (.type "object")=some true):TyOf K H (.ref a) (.ref C)
theorem mD {x:V}{u t:Value} (I:Inv X pins σ H s) (rx:RelV x u) (ty:TyOf X.K H x t) (e:PySem.W.kitOne X.K t c=some b) (h: ∀tk,Q (.bool b) {s with toks:=tk}):
  wpAny (model X.prog X.w) A (call (.builtin "isinstance") [u,c]) Q E s:=by
 cases ty with
 |non=>cases (show u=Value.none from rx);exact PySem.W.kia_one PySem.W.kitx_none I.kIn True.intro e (fun z=>nomatch z) h
 |bl y=>cases (show u=Value.bool y from rx);exact PySem.W.kia_one PySem.W.kitx_bool I.kIn True.intro e (fun z=>nomatch z) h
 |int i=>obtain ⟨t,q⟩:=(show∃t,u=Value.int i t from rx);cases q;exact PySem.W.kia_one PySem.W.kitx_int I.kIn True.intro e (fun z=>nomatch z) h
 |str y=>obtain ⟨t,q⟩:=(show∃t,u=Value.str y t from rx);cases q;exact PySem.W.kia_one PySem.W.kitx_str I.kIn True.intro e (fun z=>nomatch z) h
 |flt y=>obtain ⟨t,q⟩:=(show∃t,u=Value.float y t from rx);cases q;exact PySem.W.kia_one PySem.W.kitx_float I.kIn True.intro e (fun z=>nomatch z) h
 | @lst a xs ea=>
  cases (show u=Value.ref a from rx)
  obtain ⟨_,_,n,_,h1⟩:=(show au X.prog X.w H s.heap a (.lst xs) from I.hok a _ ea)
  exact PySem.W.kia_one PySem.W.kitx_list I.kIn ⟨_,h1,rfl⟩ e (fun z=>nomatch z) h
 | @frz a ob xs ea=>
  cases (show u=Value.ref a from rx)
  obtain ⟨_,_,_,n,_,h1⟩:=(show au X.prog X.w H s.heap a (.frz ob (.lst xs)) from I.hok a _ ea)
  exact PySem.W.kia_one PySem.W.kitx_list I.kIn ⟨_,h1,rfl⟩ e (fun z=>nomatch z) h
 | @tup a xs ea=>
  cases (show u=Value.ref a from rx)
  obtain ⟨_,_,_,p⟩:=(show au X.prog X.w H s.heap a (.tup xs) from I.hok a _ ea)
  obtain ⟨o,h1,h2,_⟩:=p
  exact PySem.W.kia_one PySem.W.kitx_tuple I.kIn ⟨o,h1,h2⟩ e (fun z=>nomatch z) h
 | @dK a kvs ea=>
  cases (show u=Value.ref a from rx)
  obtain ⟨_,_,vs,_,p⟩:=(show au X.prog X.w H s.heap a (.dK kvs) from ea.ok I.hok)
  obtain ⟨o,es,ep,h1,h2,_⟩:=p
  exact PySem.W.kia_one PySem.W.kitx_dict I.kIn ⟨o,h1,h2.1⟩ e (fun z=>nomatch z) h
 | @dT a kvs ea=>
  cases (show u=Value.ref a from rx)
  obtain ⟨_,_,xs,_,o,es,ep,h1,h2,_⟩:=(show au X.prog X.w H s.heap a (.dT kvs) from ea.ok I.hok)
  exact PySem.W.kia_one PySem.W.kitx_dict I.kIn ⟨o,h1,h2.1⟩ e (fun z=>nomatch z) h
 | @ins a C dx fs ea cl ha hn htk hm=>
  cases (show u=Value.ref a from rx)
  obtain ⟨mA,O,_⟩:=mC I.hok ea
  obtain ⟨od,J,_⟩:=O.look
  exact PySem.W.kia_one (PySem.W.kitx_own (cl.get _) cl.hd ha hn htk hm) I.kIn J e (fun z=>nomatch z) h
end
end L2
namespace L2
open PySem PySem.Spec PyProof.Rows
structure Room (k:Nat) (A:Around):Prop where
 hd:A.handled=none
 dp:A.depth+3*k+5<recursionLimit
 un:A.units+16*k+200<cLine
theorem Room.mono {j k:Nat}{A:Around} (r:Room k A) (h:j<=k):Room j A:=⟨r.hd,by have:=r.dp;lia,by have:=r.un;lia⟩
theorem Room.deeper {k:Nat}{A:Around} (r:Room (k+1) A) (env:Env):Room k (A.deeper env):=
 ⟨r.hd,by have:=r.dp;show A.depth+1+3*k+5<_;lia,by have:=r.un;show A.units+3+16*k+200<_;lia⟩
theorem Room.depth {k:Nat}{A:Around} (r:Room k A):A.depth<recursionLimit:=by have:=r.dp;lia
theorem Room.units {k:Nat}{A:Around} (r:Room k A):A.units+64<cLine:=by have:=r.un;lia
noncomputable def tNil:TA:=fun _ H Q=>Q [] H
noncomputable def cu (ta:TE) (tr:TA):TA:=fun σ H Q=>ta σ H fun x H1=>tr σ H1 fun xs H2=>Q (x::xs) H2
section
variable {X:Cx}{e:Expr}{es:List Expr}{te:TE}{t:TA}{pos:Pos}
theorem bU:PA X [] tNil:=fun _ _ _ _ H Q I h=>Calls.spliced_nil ⟨[],H,I,.nil,h⟩
theorem aI (ha:PE X e te) (hr:PA X es t) (hs:starEach (e::es) X.env=(false,eval e X.env)::starEach es X.env:=by rfl):PA X (e::es) (cu te t):=by
 intro pos pins s σ H Q I h
 rw [hs]
 show wpAny _ _ (spliced ((false,eval e X.env)::backTo pos (starEach es X.env))) _ _ s
 refine Calls.spliced_cons (thn (ha pins s σ H _ I h) fun u s1 ⟨x,H1,I1,r1,q1⟩=> ?_)
 exact thn (hr pos pins s1 σ H1 _ I1 q1) fun us s2 ⟨xs,H2,I2,r2,q2⟩=>⟨x::xs,H2,I2,.cons r1 r2,q2⟩
noncomputable def tTup (t:TA):TE:=fun σ H Q=>t σ H fun xs H1=>xs.length<=sizeLine/\ ∀p,H1 p=none->Q (.ref p) (upd H1 p (.tup xs))
noncomputable def tLst (t:TA):TE:=fun σ H Q=>t σ H fun xs H1=>xs.length<=sizeLine/\ ∀p,H1 p=none->Q (.ref p) (upd H1 p (.lst xs))
theorem hR {x1} (h:PA X es t):PE X (.Tuple es x1 pos) (tTup t):=by
 intro pins s σ H Q I hq
 refine wpAny_Tuple_spliced (thn (h pos pins s σ H _ I hq) fun us s1 ⟨xs,H1,I1,r,z,q⟩=>⟨by rw [<-r.length];exact z,?_⟩)
 have hf:H1 s1.heap.objs.size=none:=I1.hok.fresh (Nat.le_refl _)
 refine ⟨.ref s1.heap.objs.size,upd H1 s1.heap.objs.size (.tup xs),I1.laid (t':=s1.toks) (fun b u e=>Heap.get?_push_of_some _ e) (Nat.le_refl _) ?_,rfl,q _ hf⟩
 exact ⟨z,us,r,⟨_,Heap.get?_push_size _ rfl,rfl,⟨_,rfl⟩,rfl⟩⟩
theorem hU (h:PA X es t):PE X (.List es pos) (tLst t):=by
 intro pins s σ H Q I hq
 refine wpAny_List_spliced (thn (h pos pins s σ H _ I hq) fun us s1 ⟨xs,H1,I1,r,z,q⟩=>⟨by rw [<-r.length];exact z,?_⟩)
 have hf:H1 s1.heap.objs.size=none:=I1.hok.fresh (Nat.le_refl _)
 refine ⟨.ref s1.heap.objs.size,upd H1 s1.heap.objs.size (.lst xs),I1.laid (t':=s1.toks) (fun b u e=>Heap.get?_push_of_some _ e) (Nat.le_refl _) ?_,rfl,q _ hf⟩
 exact ⟨z,us,0,r,Heap.get?_push_size _ rfl⟩
end
noncomputable abbrev Sp:=List V->Hp->VK->XK->Prop
noncomputable abbrev CXT:=List Env->Hp->Shared->XK->Value->Shared->Prop
structure Env0 (P:Program) (w:World) (K:PySem.W.Frag) (mg:Str->Option Value) (base:Heap) (A:Around) (outer:List Env) (s:Shared) (H:Hp):Prop where
 frames:A.frames=some outer
 mod:Mod K mg base
 bs: ∀b o,base.get? b=some o->s.heap.get? b=some o/\H b=none
 bsz:base.objs.size<=s.heap.objs.size
 funs:s.heap.FunFrames base outer
 frf: ∀b∈frs outer,H b=none
 hok:HOk P w H s.heap
 bare:AllBare s.gens
noncomputable def CE (outer:List Env) (P:Program) (w:World) (H:Hp) (s:Shared) (Q:VK) (u:Value) (s':Shared):Prop:=
 ∃v H',s'.os=s.os/\AllBare s'.gens/\Un (frs outer) [] H H' s.heap s'.heap/\HOk P w H' s'.heap/\RelV v u/\Q v H'
noncomputable def CR (CX:CXT) (outer:List Env) (P:Program) (w:World) (H:Hp) (s:Shared) (Q:VK) (E:XK) (r:Result) (s':Shared):Prop:=
 match r with
 | .ok (.ret u)=>CE outer P w H s Q u s'
 | .ok _=>False
 | .error e=>CX outer H s E e s'
structure FnOk (P:Program) (w:World) (K:PySem.W.Frag) (mg:Str->Option Value) (base:Heap) (CX:CXT) (k:Nat) (f:Addr) (fd:FuncData) (ps:List Str) (sp:Sp):Prop where
 len: ∀vs H Q E,sp vs H Q E->vs.length=ps.length
 run: ∀(A:Around) (outer:List Env) (s:Shared) (H:Hp) (args:Args) (us:List Value) (vs:List V) (Q:VK) (E:XK),Room k A->Env0 P w K mg base A outer s H->BindsTo s fd args (ps.zip us)->Vals vs us->sp vs H Q E->
  codeAny (model P w) A (.call (.ref f) args) (CR CX outer P w H s Q E) s
theorem FnOk.mono {P:Program}{w:World}{K:PySem.W.Frag}{mg:Str->Option Value}{base:Heap}{CX:CXT}{j k:Nat}{f:Addr}{fd:FuncData}{ps:List Str}{sp:Sp} (F:FnOk P w K mg base CX j f fd ps sp) (h:j<=k):
  FnOk P w K mg base CX k f fd ps sp:=⟨F.len,fun A outer s H args us vs Q E hr=>F.run A outer s H args us vs Q E (hr.mono h)⟩
section
variable {X:Cx}{pins:List (Addr×Obj)}{σ:St}{H:Hp}{s s':Shared}
theorem Inv.env0 (I:Inv X pins σ H s):Env0 X.prog X.w X.K X.mg X.base X.A X.stack s H:=
 ⟨I.ok.frames,I.ok.mod,I.bs,Nat.le_trans I.ok.bsz I.sz,I.stack,I.stkFree,I.hok,I.bare⟩
theorem Inv.after {Q:VK}{u:Value} (I:Inv X pins σ H s) (h:CE X.stack X.prog X.w H s Q u s'):EP X pins σ Q u s':=by
 obtain ⟨v,H',os,bare,un,hok,r,q⟩:=h
 obtain ⟨hh,g,d,t,os'⟩:=s'
 obtain rfl:os'=s.os:=os
 exact ⟨v,H',I.call (h':=hh) (g':=g) (d':=d) (t':=t) (ch:=[]) un hok bare (fun b z=>absurd z (by simp)),r,q⟩
end
noncomputable def eK (sp:Sp) (dvs:List V) (E:XK) (t:TA):TE:=fun σ H Q=>t σ H fun vs H1=>sp (vs++dvs) H1 Q E
noncomputable def bx (K:PySem.W.Frag) (fd:FuncData) (ps:List Str) (ds:List Value):Prop:=
 ∀(s:Shared) (us:List Value),K.In s.heap->(us++ds).length=ps.length->BindsTo s fd ⟨us,[]⟩ (ps.zip (us++ds))
theorem bx.all {K:PySem.W.Frag}{fd:FuncData}{ps:List Str} (h: ∀us:List Value,us.length=ps.length->bindArgs fd ⟨us,[]⟩=pure (ps.zip us)):bx K fd ps []:=fun s us _ hl=>by
 rw [List.append_nil] at hl|-
 exact .of_eq (h us hl)
noncomputable def d2 (CX:CXT) (X:Cx) (E:XK):Prop:= ∀(pins:List (Addr×Obj)) (σ:St) (H:Hp) (s:Shared) (e:Value) (s':Shared),Inv X pins σ H s->CX X.stack H s E e s'->X.xe e s'
section
variable {X:Cx}{CX:CXT}{k:Nat}{f C:Addr}{fd:FuncData}{ps:List Str}{sp:Sp}{dvs:List V}{ds:List Value}{E:XK}{x m:Str}{p pos apos:Pos}{e o:Expr}{es:List Expr}{ta:TE}{t:TA}
theorem hV {pins:List (Addr×Obj)}{σ:St}{H:Hp}{s:Shared}{Q:VK}{us:List Value}{vs:List V} (F:FnOk X.prog X.w X.K X.mg X.base CX k f fd ps sp) (hr:Room k X.A) (hb:bx X.K fd ps ds) (hd:Vals dvs ds) (hx:d2 CX X E)
  (I:Inv X pins σ H s) (r:Vals vs us) (h:sp (vs++dvs) H Q E):wpAny (model X.prog X.w) X.A (call (.ref f) us) (EP X pins σ Q) X.xe s:=by
 have r2:Vals (vs++dvs) (us++ds):=r.append hd
 have hl:(us++ds).length=ps.length:=by rw [<-r2.length];exact F.len _ _ _ _ h
 refine wpAny_call (codeAny_mono (F.run X.A X.stack s H ⟨us,[]⟩ (us++ds) (vs++dvs) Q E hr I.env0 (hb s us I.kIn hl) r2 h) fun r s' hq=> ?_)
 cases r with
 |error e=>exact hx pins σ H s e s' I hq
 |ok fl=>
  cases fl with
  |ret u=>exact I.after hq
  |next=>exact False.elim hq
  |brk=>exact False.elim hq
  |cont=>exact False.elim hq
theorem hZ (F:FnOk X.prog X.w X.K X.mg X.base CX k f fd ps sp) (hr:Room k X.A) (hg:Gl X x) (hm:X.mg x=some (.ref f)) (hk:PySem.W.keepIn X.K (.ref f)=true) (hb:bx X.K fd ps ds) (hd:Vals dvs ds) (hx:d2 CX X E)
  (ha:PA X (e::es) t) (hdb:(x==("__debug__":Str))=false:=by decide) (he:starEach (e::es) X.env=(false,eval e X.env)::starEach es X.env:=by rfl) (hpl:(backTo pos (starEach es X.env)).any (·.1)=false:=by rfl):
  PE X (.Call (.Name x p) (e::es) [] pos) (eK sp dvs E t):=by
 intro pins s σ H Q I h
 refine wpAny_Call_Name_kw (dX I hg hm ?_ hdb)
 refine PySem.W.callWith_K (h₀:=X.base) I.ok.mod.kin hk (thn (ha pos pins s σ H _ I h) fun us s1 ⟨vs,H1,I1,r,q⟩=>⟨I1.kIn,?_⟩) he hpl
 exact hV F hr hb hd hx I1 r q
theorem mE (F:FnOk X.prog X.w X.K X.mg X.base CX k f fd ps sp) (hr:Room k X.A) (hg:Gl X x) (hm:X.mg x=some (.ref f)) (hk:PySem.W.keepIn X.K (.ref f)=true) (hb:bx X.K fd ps ds) (hd:Vals dvs ds) (hx:d2 CX X E)
  (hdb:(x==("__debug__":Str))=false:=by decide):PE X (.Call (.Name x p) [] [] pos) (eK sp dvs E tNil):=by
 intro pins s σ H Q I h
 refine wpAny_Call_Name_kw (dX I hg hm ?_ hdb)
 exact PySem.W.callWith_K0 I.kIn hk (hV (us:=[]) F hr hb hd hx I .nil h)
end
section
variable {X:Cx}{CX:CXT}{k:Nat}{f C:Addr}{fd:FuncData}{ps ks:List Str}{sp:Sp}{E:XK}{x m:Str}{p pos apos kpos:Pos}{e o:Expr}{es:List Expr}{kws:List Keyword}{te ta:TE}{t tk:TA}{nm:Option Str}
variable {g:List Value->List Value->List Value}{gV:List V->List V->List V}
end
structure aN (N P:List Str) (sc:Scope):Prop where
 kind:sc.kind= .function
 co:sc.isCoroutine=false
 gen:sc.isGenerator=false
 nd:N.Nodup
 pre:N.take P.length=P
 par: ∀x∈P,sc.names.lookup x=some .local \/sc.names.lookup x=some .cell
 nofree: ∀y∈sc.names,y.2≠ .free
theorem h9 {kindOf:Str->Option NameKind}{x:Str}: ∀{binds:List (Str×Value)}{m:Str->Option Value},(∀v,(x,v)∉binds)->bindL kindOf binds m x=m x
 |[],_,_=>rfl
 |(n,v)::r,m,h=>by
  unfold bindL
  rw [h9 fun w hw=>h w (List.mem_cons_of_mem _ hw)]
  split
  ·have:x≠n:=by rintro rfl;exact h v List.mem_cons_self
   simp [this]
  ·rfl
theorem ic {kindOf:Str->Option NameKind}{x:Str}: ∀{binds:List (Str×Value)}{m:Str->Option Value},(∀v,(x,v)∉binds)->bindC kindOf binds m x=m x
 |[],_,_=>rfl
 |(n,v)::r,m,h=>by
  unfold bindC
  rw [ic fun w hw=>h w (List.mem_cons_of_mem _ hw)]
  split
  ·rfl
  ·have:x≠n:=by rintro rfl;exact h v List.mem_cons_self
   simp [this]
theorem ie {kindOf:Str->Option NameKind}{x:Str}{v:Value}: ∀{P:List Str}{vs:List Value}{i:Nat}{m:Str->Option Value},P.Nodup->P[i]?=some x->vs[i]?=some v->kindOf x=some .local->
  bindL kindOf (P.zip vs) m x=some v
 |[],_,_,_,_,h,_,_=>by simp at h
 |_::_,[],_,_,_,_,h,_=>by simp at h
 |p::P,w::vs,0,m,nd,h1,h2,hk=>by
  simp at h1 h2;subst h1;subst h2
  show bindL kindOf ((p,w)::P.zip vs) m p=_
  unfold bindL
  rw [h9 fun v hv=>(List.nodup_cons.mp nd).1 (List.of_mem_zip hv).1,if_pos hk]
  simp
 |p::P,w::vs,i+1,m,nd,h1,h2,hk=>by
  show bindL kindOf ((p,w)::P.zip vs) m x=_
  unfold bindL
  exact ie (i:=i) (List.nodup_cons.mp nd).2 (by simpa using h1) (by simpa using h2) hk
theorem ig {kindOf:Str->Option NameKind}{x:Str}{v:Value}: ∀{P:List Str}{vs:List Value}{i:Nat}{m:Str->Option Value},P.Nodup->P[i]?=some x->vs[i]?=some v->kindOf x≠some .local->
  bindC kindOf (P.zip vs) m x=some v
 |[],_,_,_,_,h,_,_=>by simp at h
 |_::_,[],_,_,_,_,h,_=>by simp at h
 |p::P,w::vs,0,m,nd,h1,h2,hk=>by
  simp at h1 h2;subst h1;subst h2
  show bindC kindOf ((p,w)::P.zip vs) m p=_
  unfold bindC
  rw [ic fun v hv=>(List.nodup_cons.mp nd).1 (List.of_mem_zip hv).1,if_neg hk]
  simp
 |p::P,w::vs,i+1,m,nd,h1,h2,hk=>by
  show bindC kindOf ((p,w)::P.zip vs) m x=_
  unfold bindC
  exact ig (i:=i) (List.nodup_cons.mp nd).2 (by simpa using h1) (by simpa using h2) hk
noncomputable def aS (N:List Str) (vs:List V):St:=vs.map some++List.replicate (N.length-vs.length) none
noncomputable def cxOf (CX:CXT) (P:Program) (w:World) (K:PySem.W.Frag) (mg:Str->Option Value) (base:Heap) (N:List Str) (qual:Str) (scope:Scope) (f:Addr) (cd:Value) (A:Around) (outer:List Env) (s:Shared) (H:Hp) (E:XK):Cx where
 prog:=P
 w:=w
 K:=K
 mg:=mg
 base:=base
 A:=A.deeper (envOfC qual scope s.heap.objs.size f cd)
 N:=N
 s₀:=s
 H₀:=H
 env:=envOfC qual scope s.heap.objs.size f cd
 outer:=outer
 stack:=envOfC qual scope s.heap.objs.size f cd::outer
 ex:=[]
 calm:=true
 fn:=fun _=>true
 pn:=[]
 xe:=fun e s'=>wpAny (model P w) (A.deeper (envOfC qual scope s.heap.objs.size f cd)) (leaving (envOfC qual scope s.heap.objs.size f cd) e) (fun _ s''=>CX outer H s E e s'') (fun e' s''=>CX outer H s E e' s'') s'
theorem ii {sc:Scope}{n:Nat}{x:Str} (h:sc.names.lookup x=some .cell): ∃c,(cellsFrom n sc.names []).lookup x=some c:=by
 have q:=PySem.W.cellsFrom_some sc.names n [] (.inl h)
 exact Option.isSome_iff_exists.mp q
theorem mF {CX:CXT}{P:Program}{w:World}{K:PySem.W.Frag}{mg:Str->Option Value}{base:Heap}{N ps:List Str}{qual:Str}{scope:Scope}{f:Addr}{cd:Value}{A:Around}{outer:List Env}{s s1:Shared}{H:Hp}{E:XK}{us:List Value}{vs:List V}
  (S:aN N ps scope) (hd:A.handled=none) (e0:Env0 P w K mg base A outer s H) (hl:vs.length=ps.length) (r:Vals vs us)
  (x:InCallC s s.heap.objs.size (bindL (envOfC qual scope s.heap.objs.size f cd).kindOf (ps.zip us) fun _=>none) (cellsFrom (s.heap.objs.size+1) scope.names []) (bindC (envOfC qual scope s.heap.objs.size f cd).kindOf (ps.zip us) fun _=>none) s1):
  Inv (cxOf CX P w K mg base N qual scope f cd A outer s H E) [] (aS N vs) H s1:=by
 have hpl:ps.length<=N.length:=by have:=congrArg List.length S.pre;rw [List.length_take] at this;lia
 obtain ⟨h1,tk,rfl,hk⟩:=x.done
 have noA: ∀b:Addr,b∉(cxOf CX P w K mg base N qual scope f cd A outer s H E).ex:=fun b z=>absurd (show b∈([]:List Addr) from z) (by simp)
 refine ⟨⟨e0.mod,S.kind,rfl,rfl,Nat.le_refl _,fun y z c h1 h2=> ?_,fun y hy=> ?_,fun y c _ h=> ?_,fun _=>hd,Around.frames_deeper e0.frames,.inr ⟨rfl,rfl⟩,fun b z=>absurd z (noA b),e0.bs,e0.bsz,fun b _ _=>noA b,fun b z=>absurd z (noA b),e0.funs,e0.frf⟩,
  rfl,e0.bare,Un.kept hk,⟨_,x.toInCall.ns,fun i y v h1 h2 h3=> ?_⟩,fun y c h=>⟨_,x.cell y c h⟩,e0.hok.fresh (Nat.le_refl _),fun y c h=> ?_,fun p hp=>absurd (show p∈([]:List (Addr×Obj)) from hp) (by simp),e0.hok.kept hk,?_⟩
 ·exact name_of_addr x.apart (PySem.mem_of_lookup h1) (PySem.mem_of_lookup h2)
 ·have hy:scope.names.lookup y=some .cell \/scope.names.lookup y=some .free:=hy
  rcases hy with hy|hy
  ·exact ii hy
  ·exact absurd rfl (S.nofree _ (PySem.mem_of_lookup hy))
 ·exact Nat.le_of_lt (x.above y c (PySem.mem_of_lookup h))
 ·have hi:i<vs.length:=by
   unfold aS at h2
   by_cases hi:i<vs.length
   ·exact hi
   ·rw [List.getElem?_append_right (by simpa using hi)] at h2
    rw [List.getElem?_replicate] at h2
    split at h2<;>cases h2
  have ha:vs[i]?=some v:=by
   unfold aS at h2
   rw [List.getElem?_append_left (by simpa using hi),List.getElem?_map] at h2
   cases e:vs[i]? with
   |none=>rw [e] at h2;cases h2
   |some a=>rw [e] at h2;cases h2;rfl
  obtain ⟨u,hu,rv⟩:=r.get ha
  have hp:ps[i]?=some y:=by
   rw [<-S.pre,List.getElem?_take_of_lt (by lia)];exact h1
  have ndP:ps.Nodup:=by rw [<-S.pre];exact S.nd.sublist (List.take_sublist _ _)
  refine ⟨u,rv,?_⟩
  rcases S.par y (List.mem_of_getElem? hp) with k|k
  ·exact .inl ⟨k,ie ndP hp hu k⟩
  ·obtain ⟨c,e⟩:=ii (n:=s.heap.objs.size+1) k
   refine .inr ⟨.inl k,c,e,?_⟩
   have q:=x.cell y c e
   rw [ig ndP hp hu (by show scope.names.lookup y≠_;rw [k];decide)] at q
   exact q
 ·exact e0.hok.fresh (Nat.le_of_lt (x.above y c (PySem.mem_of_lookup h)))
 ·unfold aS
  show _=N.length
  rw [List.length_append,List.length_map,List.length_replicate]
  lia
theorem ij {CX:CXT}{P:Program}{w:World}{K:PySem.W.Frag}{mg:Str->Option Value}{base:Heap}{k:Nat}{f:Addr}{name qual:Str}{params:Arguments}{body:List Stmt}{scope:Scope}{dV kV doc pm cdv ct oc:Value}{an od:Option Addr}
  {osl:Array (Option Value)}{N ps:List Str}{sp:Sp} (lk:K.lookup f=some ⟨oc,od,.func (PySem.W.fnOf name qual params body scope dV kV doc pm an cdv ct),osl⟩) (hcd:PySem.W.codeIn K cdv qual=true) (S:aN N ps scope)
  (len: ∀vs H Q E,sp vs H Q E->vs.length=ps.length)
  (hbody: ∀(A:Around) (outer:List Env) (s:Shared) (H:Hp) (vs:List V) (Q:VK) (E:XK),Room k (A.deeper (envOfC qual scope s.heap.objs.size f cdv))->sp vs H Q E->
   ∃t,PSs (cxOf CX P w K mg base N qual scope f cdv A outer s H E) body t/\t {nx:=fun _ H'=>Q .non H',rt:=Q} (aS N vs) H):
  FnOk P w K mg base CX (k+1) f (PySem.W.fnOf name qual params body scope dV kV doc pm an cdv ct) ps sp:=by
 refine ⟨len,fun A outer s H args us vs Q E hr e0 hb r hsp=> ?_⟩
 have hl:=len _ _ _ _ hsp
 have KX:K.In s.heap:=e0.mod.kin.keeps fun b o e=>(e0.bs b o e).1
 have lim:s.heap.NoLimit:=e0.mod.nolimit.keeps fun b o e=>(e0.bs b o e).1
 have hkind: ∀y∈ps.zip us,scope.names.lookup y.1=some .local \/(scope.names.lookup y.1=some .cell/\((cellsFrom (s.heap.objs.size+1) scope.names []).lookup y.1).isSome=true):=fun ⟨n,v⟩ hy=>by
  rcases S.par n (List.of_mem_zip hy).1 with q|q
  ·exact .inl q
  ·exact .inr ⟨q,PySem.W.cellsFrom_some _ _ _ (.inl q)⟩
 refine codeAny_call_function hr.depth (KX _ _ lk) rfl S.co S.gen rfl (PySem.W.codeRec_of KX hcd) (hb _ _ _ _ ?_)
 refine wpAny_newFunctionEnv_cells S.kind hkind fun env he s1 x=> ?_
 subst he
 refine ⟨lim.keeps x.toInCall.keep,codeAny_func ?_⟩
 obtain ⟨t,ht,hq⟩:=hbody A outer s H vs Q E (hr.deeper _) hsp
 have I:Inv (cxOf CX P w K mg base N qual scope f cdv A outer s H E) [] (aS N vs) H s1:=mF S hr.hd e0 hl r x
 refine wpAny_mono (ht [] s1 (aS N vs) H _ I hq) (fun fl s' hs=> ?_) fun e s' hs=>hs
 have fin: ∀{σ':St}{H':Hp}{v:V}{u:Value},Inv (cxOf CX P w K mg base N qual scope f cdv A outer s H E) [] σ' H' s'->RelV v u->Q v H'->CE outer P w H s Q u s':=
  fun {σ' H' v u} J rv q=>⟨v,H',J.os,J.bare,J.base,J.hok,rv,q⟩
 cases fl with
 |ret u=>
  obtain ⟨v,σ',H',J,rv,q⟩:=hs
  exact fin J rv q
 |next=>
  obtain ⟨σ',H',J,q⟩:=hs
  exact fin (v:=V.non) (u:=Value.none) J rfl q
 |brk=>
  obtain ⟨_,_,_,q⟩:=hs
  exact False.elim q
 |cont=>
  obtain ⟨_,_,_,q⟩:=hs
  exact False.elim q
end L2
namespace L2
open PySem PySem.Spec PyProof.Rows
section
variable {X:Cx}{x:Str}{p pos:Pos}{e:Expr}{es:List Expr}{t:TA}{id T:String}{r:List V->Hp->VK->Prop}
noncomputable def tCB (r:List V->Hp->VK->Prop) (t:TA):TE:=fun σ H Q=>t σ H fun vs H1=>r vs H1 Q
theorem d3 (hc:ba X (.builtin id) r) (hg:Gl X x) (hm:X.mg x=none) (hv:bootBuiltins x=some (.builtin id)) (ha:PA X (e::es) t) (hn:x≠"__name__":=by decide) (hdb:(x==("__debug__":Str))=false:=by decide)
  (he:starEach (e::es) X.env=(false,eval e X.env)::starEach es X.env:=by rfl) (hpl:(backTo pos (starEach es X.env)).any (·.1)=false:=by rfl):PE X (.Call (.Name x p) (e::es) [] pos) (tCB r t):=by
 intro pins s σ H Q I h
 refine wpAny_Call_Name_kw (dY I hg hm hv ?_ hn hdb)
 exact PyProof.Rows.callWith_builtin1 (thn (ha pos pins s σ H _ I h) fun us s1 ⟨vs,H1,I1,r1,q1⟩=>hc pins s1 σ H1 vs us Q I1 r1 q1) he hpl
theorem mG (hc:ba X (.type T) r) (hg:Gl X x) (hm:X.mg x=none) (hv:bootBuiltins x=some (.type T)) (ha:PA X (e::es) t) (hn:x≠"__name__":=by decide) (hdb:(x==("__debug__":Str))=false:=by decide)
  (he:starEach (e::es) X.env=(false,eval e X.env)::starEach es X.env:=by rfl) (hpl:(backTo pos (starEach es X.env)).any (·.1)=false:=by rfl):PE X (.Call (.Name x p) (e::es) [] pos) (tCB r t):=by
 intro pins s σ H Q I h
 refine wpAny_Call_Name_kw (dY I hg hm hv ?_ hn hdb)
 exact PyProof.Rows.callWith_type1 (thn (ha pos pins s σ H _ I h) fun us s1 ⟨vs,H1,I1,r1,q1⟩=>hc pins s1 σ H1 vs us Q I1 r1 q1) he hpl
end
end L2
namespace HT
open PySem PyProof.Rows
noncomputable def cw:List Int->List Int->Bool
 |[],[]=>false
 |[],_::_=>true
 |_::_,[]=>false
 |x::xs,y::ys=>if x=y then cw xs ys else decide (x<y)
theorem mH (x y:Int) (xs ys:List Int):cw (x::xs) (y::ys)=if x=y then cw xs ys else decide (x<y):=rfl
section
open PySem.SeqAt
open PySem.AutoSeq1 (wpAny_loadPart')
open PySem.MeetsSeq PySem.MeetsSeq2 PySem.MeetsSeq3
end
section
variable {prog:Program}{w:World}{A:Around}{E:Value->Shared->Prop}{s:Shared}
noncomputable def sIx (n d:Nat):Option Int->Nat
 |none=>d
 |some v=>if v<0 then (v+(n:Int)).toNat else min v.toNat n
end
end HT
namespace L2
open PySem PySem.Spec PyProof.Rows
noncomputable abbrev TO:=St->Hp->(Option Int->Hp->Prop)->Prop
noncomputable def PO (X:Cx) (e:Option Expr) (t:TO):Prop:=
 ∀(pins:List (Addr×Obj)) (s:Shared) (σ:St) (H:Hp) (Q:Option Int->Hp->Prop),Inv X pins σ H s->t σ H Q->
  wpAny (model X.prog X.w) X.A (evalPart e X.env) (fun u s'=> ∃o H',Inv X pins σ H' s'/\IsPart u o/\Q o H') X.xe s
noncomputable def mI:TO:=fun _ H Q=>Q none H
noncomputable def mJ (t:TE):TO:=fun σ H Q=>t σ H fun x H1=> ∃i,x= .int i/\Q (some i) H1
section
variable {X:Cx}{e:Expr}{te:TE}{lo hi:Option Expr}{tl th:TO}{pos p2:Pos}
theorem mK:PO X none mI:=by
 intro pins s σ H Q I h
 rw [evalPart_none]
 exact wpAny_pure ⟨none,H,I,.none,h⟩
theorem mL (h:PE X e te):PO X (some e) (mJ te):=by
 intro pins s σ H Q I hw
 rw [evalPart_some]
 refine thn (h pins s σ H _ I hw) fun u s1 ⟨x,H1,I1,r1,q1⟩=> ?_
 obtain ⟨i,rfl,q⟩:=q1
 obtain ⟨t,rfl⟩:=r1
 exact ⟨some i,H1,I1,.int i t,q⟩
noncomputable def SlR (X:Cx) (r:V->Option Int->Option Int->Hp->VK->Prop):Prop:=
 ∀(pins:List (Addr×Obj)) (s:Shared) (σ:St) (H:Hp) (x:V) (v vl vu:Value) (lo hi:Option Int) (sl:Addr) (Q:VK),Inv X pins σ H s->RelV x v->s.heap.IsSliceOf sl vl vu .none->IsPart vl lo->IsPart vu hi->r x lo hi H Q->
  ∃T id,typeLookup (.type T) "__getitem__"=pure (some (.builtin id))/\s.TypeIs v T/\wpAny (model X.prog X.w) X.A (getItem v (.ref sl)) (EP X pins σ Q) X.xe s
noncomputable def tSl (r:V->Option Int->Option Int->Hp->VK->Prop) (te:TE) (tl th:TO):TE:=fun σ H Q=>te σ H fun x H1=>tl σ H1 fun l H2=>th σ H2 fun u H3=>r x l u H3 Q
theorem fG {r:V->Option Int->Option Int->Hp->VK->Prop} (hr:SlR X r) (he:PE X e te) (hl:PO X lo tl) (hu:PO X hi th):PE X (.Subscript e (.Slice lo hi none p2) pos) (tSl r te tl th):=by
 intro pins s σ H Q I h
 refine Subscript_ (thn (he pins s σ H _ I h) fun v s1 ⟨x,H1,I1,r1,q1⟩=> ?_)
 refine wpAny_Slice (thn (hl pins s1 σ H1 _ I1 q1) fun vl s2 ⟨l,H2,I2,pl,q2⟩=>thn (hu pins s2 σ H2 _ I2 q2) fun vu s3 ⟨u,H3,I3,pu,q3⟩=> ?_)
 rw [evalPart_none]
 refine wpAny_pure ?_
 have I4:Inv X pins σ H3 {s3 with heap:=s3.heap.push {cls:= .type "slice",data:= .fields #[vl,vu,.none]}}:=I3.kept (t':=s3.toks) fun b ob q=>Heap.get?_push_of_some _ q
 obtain ⟨T,id,hT,ht,hg⟩:=hr pins {s3 with heap:=s3.heap.push {cls:= .type "slice",data:= .fields #[vl,vu,.none]}} σ H3 x v vl vu l u s3.heap.objs.size Q I4 r1 (Heap.IsSliceOf.new ..) pl pu q3
 show wpAny (model X.prog X.w) X.A (subscriptTail e (.Slice lo hi none p2) v (.ref s3.heap.objs.size)) (EP X pins σ Q) X.xe {s3 with heap:=s3.heap.push {cls:= .type "slice",data:= .fields #[vl,vu,.none]}}
 exact tail_any (ops:=[.ref s3.heap.objs.size,v]) ht hT hg (by with_unfolding_all rfl)
noncomputable def cutV (xs:List V) (lo hi:Option Int):List V:=(xs.drop (HT.sIx xs.length 0 lo)).take (HT.sIx xs.length xs.length hi-HT.sIx xs.length 0 lo)
theorem mM (xs:List V) (lo hi:Option Int):(cutV xs lo hi).length<=xs.length:=by
 unfold cutV
 rw [List.length_take,List.length_drop]
 lia
theorem Vals.nil_iff {xs:List V}{us:List Value} (r:Vals xs us):us=[]↔xs=[]:=by
 cases r with
 |nil=>simp
 |cons _ _=>simp
end
end L2
namespace L2
open PySem PySem.Spec PyProof.Rows
noncomputable def ixN (n:Nat) (i:Int):Option Nat:=if 0<=i then (if i<n then some i.toNat else none) else if-(n:Int)<=i then some (i+n).toNat else none
noncomputable def atI {α:Type} (xs:List α) (i:Int):Option α:=(ixN xs.length i).bind fun j=>xs[j]?
theorem ik {n:Nat}{i:Int}{j:Nat} (h:ixN n i=some j):seqIndex? i n=some j/\j<n/\ -(n:Int)<=i/\i<n:=by
 unfold ixN at h
 by_cases h0:0<=i
 ·rw [if_pos h0] at h
  by_cases h1:i<n
  ·rw [if_pos h1] at h
   have e:i.toNat=j:=Option.some.inj h
   exact ⟨by rw [seqIndex_of h0 h1,e],by lia,by lia,h1⟩
  ·rw [if_neg h1] at h;cases h
 ·rw [if_neg h0] at h
  by_cases h1: -(n:Int)<=i
  ·rw [if_pos h1] at h
   have e:(i+n).toNat=j:=Option.some.inj h
   exact ⟨by rw [seqIndex_neg (by lia) h1,e],by lia,h1,by lia⟩
  ·rw [if_neg h1] at h;cases h
theorem fH {α:Type}{xs:List α}{i:Int}{v:α} (h:atI xs i=some v): ∃j,seqIndex? i xs.length=some j/\xs[j]?=some v/\j<xs.length/\ -(xs.length:Int)<=i/\i<xs.length:=by
 unfold atI at h
 cases e:ixN xs.length i with
 |none=>rw [e] at h;cases h
 |some j=>
  rw [e] at h
  obtain ⟨h1,h2,h3,h4⟩:=ik e
  exact ⟨j,h1,h,h2,h3,h4⟩
theorem mO {α:Type}{xs:List α}{j:Nat}{v:α} (h:xs[j]?=some v):atI xs (j:Int)=some v:=by
 have hj:j<xs.length:=(List.getElem?_eq_some_iff.mp h).1
 have e:ixN xs.length (j:Int)=some j:=by
  unfold ixN
  rw [if_pos (by lia),if_pos (by lia)];simp
 unfold atI;rw [e];exact h
noncomputable def fI (b:Expr):Prop:= ∀o i,subscripted b false o i=operate [o,i] (getItem o i)
noncomputable def IxR (X:Cx) (r:R2):Prop:=
 ∀(value slice:Expr) (pins:List (Addr×Obj)) (s:Shared) (σ:St) (H:Hp) (x y:V) (v u:Value) (Q:VK),Inv X pins σ H s->RelV x v->RelV y u->r x y H Q->
  subscripted slice false v u=operate [v,u] (getItem v u)->wpAny (model X.prog X.w) X.A (subscriptTail value slice v u) (EP X pins σ Q) X.xe s
noncomputable def MtR (X:Cx) (id:String) (r:V->List V->Hp->VK->Prop):Prop:=
 ∀(pins:List (Addr×Obj)) (s:Shared) (σ:St) (H:Hp) (x:V) (xs:List V) (v:Value) (us:List Value) (Q:VK),Inv X pins σ H s->RelV x v->Vals xs us->r x xs H Q->
  wpAny (model X.prog X.w) X.A (call (.builtin id) (v::us)) (EP X pins σ Q) X.xe s
section
variable {X:Cx}{a b:Expr}{ta tb:TE}{pos:Pos}
theorem IxR.or {r r':R2} (h:IxR X r) (h':IxR X r'):IxR X (fun x y H Q=>r x y H Q \/r' x y H Q):=by
 intro value slice pins s σ H x y v u Q I rx ry q hs
 rcases q with q|q
 ·exact h value slice pins s σ H x y v u Q I rx ry q hs
 ·exact h' value slice pins s σ H x y v u Q I rx ry q hs
theorem io {r:R2} (hr:IxR X r) (ha:PE X a ta) (hb:PE X b tb) (hs:fI b):PE X (.Subscript a b pos) (tOp r ta tb):=by
 intro pins s σ H Q I h
 exact Subscript_ (binT ha hb I h fun v u s2 x y H2 I2 rx ry q=>hr a b pins s2 σ H2 x y v u Q I2 rx ry q (hs _ _))
noncomputable def rIxL (K:PySem.W.Frag):R2:=fun x y H Q=> ∃p xs i v,x= .ref p/\y= .int i/\SqL K H p xs/\atI xs i=some v/\Q v H
noncomputable def rIxT (K:PySem.W.Frag):R2:=fun x y H Q=> ∃p xs i v,x= .ref p/\y= .int i/\SqT K H p xs/\atI xs i=some v/\Q v H
noncomputable def rIxS:R2:=fun x y H Q=> ∃z i c,x= .str z/\y= .int i/\z.length<=sizeLine/\atI z.cps.toList i=some c/\Q (.str ⟨#[c]⟩) H
theorem mP:IxR X (rIxL X.K):=by
 intro value slice pins s σ H x y v u Q I rx ry h hs
 obtain ⟨p,xs,i,z,rfl,rfl,hq,he,q⟩:=h
 cases rx
 obtain ⟨t,rfl⟩:=ry
 obtain ⟨its,r,pl,hz⟩:=I.list hq
 obtain ⟨j,h1,h2,h3,h4,h5⟩:=fH he
 obtain ⟨w,ew,rw'⟩:=r.get h2
 have hl:=r.length
 have hn:=dZ
 have fin:EP X pins σ Q w s:=⟨z,H,I,rw',q⟩
 by_cases h0:0<=i
 ·have hj:i.toNat=j:=by
   rw [seqIndex_of h0 h5] at h1
   exact Option.some.inj h1
  exact item_listR pl.isList h0 (by lia) (by rw [hj];simpa using ew) fin hs
 ·have hj:(i+(its.toArray.size:Int)).toNat=j:=by
   rw [seqIndex_neg (by lia) h4] at h1
   rw [List.size_toArray,<-hl]
   exact Option.some.inj h1
  exact subscriptTail_builtinR (x:=w) pl.isList.typeIs slot_list_getitem.lookup
   (wpAny_getItem_list_neg (Q:=fun r s'=>r=w/\EP X pins σ Q r s') pl.isList (by lia) (by rw [List.size_toArray]<;>lia) (by lia) (by rw [hj];simpa using ew) ⟨rfl,fin⟩) hs
theorem mQ:IxR X (rIxT X.K):=by
 intro value slice pins s σ H x y v u Q I rx ry h hs
 obtain ⟨p,xs,i,z,rfl,rfl,hq,he,q⟩:=h
 cases rx
 obtain ⟨t,rfl⟩:=ry
 obtain ⟨its,r,pl,hz⟩:=I.tuple hq
 obtain ⟨j,h1,h2,h3,h4,h5⟩:=fH he
 obtain ⟨w,ew,rw'⟩:=r.get h2
 have hl:=r.length
 have hn:=dZ
 have fin:EP X pins σ Q w s:=⟨z,H,I,rw',q⟩
 exact subscriptTail_builtinR (x:=w) pl.typeIs slot_tuple_getitem.lookup
  (getItem_tuple (j:=j) (Q:=fun r s'=>r=w/\EP X pins σ Q r s') pl (by lia) (by lia) (by rw [List.size_toArray,<-hl];exact h1) (by simpa using ew) ⟨rfl,fin⟩) hs
theorem ip:IxR X rIxS:=by
 intro value slice pins s σ H x y v u Q I rx ry h hs
 obtain ⟨z,i,c,rfl,rfl,hz,he,q⟩:=h
 obtain ⟨t,rfl⟩:=rx
 obtain ⟨t',rfl⟩:=ry
 obtain ⟨j,h1,h2,h3,h4,h5⟩:=fH he
 have hl:z.cps.toList.length=z.length:=by simp [Str.length]
 rw [hl] at h1 h4 h5
 have hn:=dZ
 exact tail_any (typeIs_str s z t) slot_str_getitem.lookup (getItem_str (c:=c) (by
  have e1:decide (i< -(2^63:Int))=false:=decide_eq_false (by lia)
  have e2:decide (i>=2^63)=false:=decide_eq_false (by lia)
  rw [e1,e2,Bool.or_false]) (by rw [h1];simpa using h2) ⟨.str ⟨#[c]⟩,H,I.tok _,⟨_,rfl⟩,q⟩) hs
noncomputable def rIx (K:PySem.W.Frag):R2:=fun x y H Q=>rIxL K x y H Q \/rIxT K x y H Q \/rIxS x y H Q
theorem mR:IxR X (rIx X.K):=mP.or (mQ.or ip)
theorem mS (its:List Value) (n j:Nat) (u:Value):Obj.mapSeq (·.setIfInBounds j u) {cls:= .type "list",data:= .seq its.toArray n}={cls:= .type "list",data:= .seq (its.set j u).toArray n}:=by
 simp [Obj.mapSeq]
theorem Inv.lst {pins:List (Addr×Obj)}{σ:St}{H:Hp}{s:Shared}{p:Addr}{xs:List V} (I:Inv X pins σ H s) (h:H p=some (.lst xs)):
  ∃(its:List Value) (n:Nat),Vals xs its/\s.heap.get? p=some {cls:= .type "list",data:= .seq its.toArray n}/\xs.length<=sizeLine:=by
 obtain ⟨z,its,n,r,e⟩:=I.hok p _ h
 exact ⟨its,n,r,e,z⟩
theorem Inv.lstUpd {pins:List (Addr×Obj)}{σ:St}{H:Hp}{s:Shared}{p:Addr}{xs ys:List V}{its its':List Value}{n n':Nat}{f:Obj->Obj} (I:Inv X pins σ H s) (h:H p=some (.lst xs))
  (ho:s.heap.get? p=some {cls:= .type "list",data:= .seq its.toArray n}) (hf:f {cls:= .type "list",data:= .seq its.toArray n}={cls:= .type "list",data:= .seq its'.toArray n'}) (r:Vals ys its') (hz:ys.length<=sizeLine) (t:Nat):
  Inv X pins σ (upd H p (.lst ys)) {s with heap:=s.heap.update p f,toks:=t}:=by
 have e:(s.heap.update p f).get? p=some {cls:= .type "list",data:= .seq its'.toArray n'}:=by
  rw [Heap.get?_update_self f ho (by rw [hf]<;>rfl),hf]
 refine I.write (x:=p) (e:=p) (by rw [h];trivial) (.inl rfl) (fun b u hb q=>(Heap.get?_update_other _ _ (Ne.symm hb)).trans q) ⟨_,e⟩ ?_
 exact ⟨hz,its',n',r,e⟩
noncomputable def mT:V->V->V->Hp->(Hp->Prop)->Prop:=fun o i v H Q=> ∃p xs k j,o= .ref p/\i= .int k/\H p=some (.lst xs)/\ixN xs.length k=some j/\Q (upd H p (.lst (xs.set j v)))
theorem mU:PSet X mT:=by
 intro pins s σ H o i v ov iv u Q I ro ri rv h
 obtain ⟨p,xs,k,j,rfl,rfl,hp,hj,q⟩:=h
 cases ro
 obtain ⟨t,rfl⟩:=ri
 obtain ⟨its,n,r,ho,hz⟩:=I.lst hp
 obtain ⟨h1,h2,h3,h4⟩:=ik hj
 have hl:=r.length
 have hn:=dZ
 have I':Inv X pins σ (upd H p (.lst (xs.set j v))) {s with heap:=s.heap.update p (Obj.mapSeq (·.setIfInBounds j u))}:=
  I.lstUpd hp ho (mS its n j u) (r.set rv j) (by rw [List.length_set];exact hz) s.toks
 by_cases h0:0<=k
 ·have hk:k.toNat=j:=by
   rw [seqIndex_of h0 h4] at h1
   exact Option.some.inj h1
  exact PySem.W.ki_setAt ho h0 (by lia) (by rw [List.size_toArray,<-hl];exact h4) (by rw [hk];exact ⟨_,I',q⟩)
 ·have hk:(k+(its.toArray.size:Int)).toNat=j:=by
   rw [seqIndex_neg (by lia) h3] at h1
   rw [List.size_toArray,<-hl]
   exact Option.some.inj h1
  exact PySem.W.ki_setBack ho (by lia) (by rw [List.size_toArray,<-hl];exact h3) (by lia) (by rw [hk];exact ⟨_,I',q⟩)
theorem mV (lo hi:Option Int) (n:Nat):(sliceBounds lo hi none n).1=((HT.sIx n 0 lo:Nat):Int)/\(sliceBounds lo hi none n).2.1=((HT.sIx n n hi:Nat):Int)/\(sliceBounds lo hi none n).2.2=1:=by
 refine ⟨?_,?_,rfl⟩
 ·cases lo with
  |none=>simp [sliceBounds,HT.sIx]
  |some i=>
   simp only [sliceBounds,HT.sIx,Option.getD_none,show (1:Int)>0 by decide,if_true]
   by_cases h:i<0
   ·simp only [h,if_true]<;>lia
   ·simp only [h,if_false]<;>lia
 ·cases hi with
  |none=>simp [sliceBounds,HT.sIx]
  |some i=>
   simp only [sliceBounds,HT.sIx,Option.getD_none,show (1:Int)>0 by decide,if_true]
   by_cases h:i<0
   ·simp only [h,if_true]<;>lia
   ·simp only [h,if_false]<;>lia
theorem mW (its:List Value) (lo hi:Option Int):slicePick its.toArray lo hi none=((its.drop (HT.sIx its.length 0 lo)).take (HT.sIx its.length its.length hi-HT.sIx its.length 0 lo)).toArray:=by
 obtain ⟨h1,h2,h3⟩:=mV lo hi its.toArray.size
 unfold slicePick
 rw [h1,h2,h3]
 simp only [sliceRange_one,pick_run,List.size_toArray]<;>rfl
noncomputable def rSlL (K:PySem.W.Frag):V->Option Int->Option Int->Hp->VK->Prop:=fun x lo hi H Q=> ∃a xs,x= .ref a/\SqL K H a xs/\ ∀p,H p=none->Q (.ref p) (upd H p (.lst (cutV xs lo hi)))
theorem mX:SlR X (rSlL X.K):=by
 intro pins s σ H x v vl vu lo hi sl Q I rx hs pl pu h
 obtain ⟨a,xs,rfl,hx,q⟩:=h
 cases rx
 obtain ⟨its,r,ht,hz⟩:=I.list hx
 have hlen:=r.length
 refine ⟨"list",_,slot_list_getitem.lookup,ht.isList.typeIs,?_⟩
 refine wpAny_getItem_list_slice ht.isList hs pl pu .none (by simp) ?_ (by rw [List.size_toArray]<;>lia)
 rw [mW,<-hlen]
 refine ⟨.ref s.heap.objs.size,_,I.laid (t':=s.toks) (o:= .lst (cutV xs lo hi)) (fun b ob q=>Heap.get?_push_of_some _ q) (Nat.le_refl _) ?_,rfl,q _ (I.hok.fresh (Nat.le_refl _))⟩
 exact ⟨Nat.le_trans (mM xs lo hi) hz,_,0,(r.drop (HT.sIx xs.length 0 lo)).take (HT.sIx xs.length xs.length hi-HT.sIx xs.length 0 lo),Heap.get?_push_size _ rfl⟩
theorem cU:ba X (.builtin "len") (fun xs H Q=> ∃p ys,xs=[.ref p]/\(SqL X.K H p ys \/SqT X.K H p ys)/\Q (.int ys.length) H):=by
 intro pins s σ H xs us Q I r h
 obtain ⟨p,ys,rfl,hq,q⟩:=h
 obtain ⟨u,rfl,rx⟩:=cS r
 cases rx
 have hn:=dZ
 rcases hq with hq|hq
 ·obtain ⟨its,r',pl,hz⟩:=I.list hq
  have hlen:=r'.length
  exact Calls.call_len_list pl.isList (by simp only [List.size_toArray]<;>lia) ⟨.int ys.length,H,I.tok _,⟨s.toks+1,by rw [List.size_toArray,hlen]⟩,q⟩
 ·obtain ⟨its,r',pl,hz⟩:=I.tuple hq
  have hlen:=r'.length
  exact len_tuple pl (by simp only [List.size_toArray]<;>lia) ⟨.int ys.length,H,I.tok _,⟨s.toks+1,by rw [List.size_toArray,hlen]⟩,q⟩
theorem iq:ba X (.type "list") (fun xs H Q=> ∃p ys,xs=[.ref p]/\(SqL X.K H p ys \/SqT X.K H p ys)/\ ∀l,H l=none->Q (.ref l) (upd H l (.lst ys))):=by
 intro pins s σ H xs us Q I r h
 obtain ⟨p,ys,rfl,hq,q⟩:=h
 obtain ⟨u,rfl,rx⟩:=cS r
 cases rx
 have fin: ∀(its:List Value),Vals ys its->ys.length<=sizeLine-> ∀(h':Heap) (c':Nat),(∀b o',s.heap.get? b=some o'->h'.get? b=some o')->
   h'.get? s.heap.objs.size=some {cls:= .type "list",dict:=none,data:= .seq its.toArray c',slots:= #[]}->EP X pins σ Q (.ref s.heap.objs.size) {s with heap:=h'}:=fun its r' hz h' c' kp e=>
  ⟨.ref s.heap.objs.size,_,I.laid (t':=s.toks) kp (Nat.le_refl _) (show au X.prog X.w _ h' _ (.lst ys) from ⟨hz,its,c',r',e⟩),rfl,q _ (I.hok.fresh (Nat.le_refl _))⟩
 rcases hq with hq|hq
 ·obtain ⟨its,r',pl,hz⟩:=I.list hq
  have hlen:=r'.length
  obtain ⟨o,ho,hc,n,hd⟩:=pl.isList
  exact call_list_seq p (.inl rfl) ho hc hd (fun h' c' kp e=>fin its r' hz h' c' kp e) (by simp only [List.size_toArray]<;>lia)
 ·obtain ⟨its,r',pl,hz⟩:=I.tuple hq
  have hlen:=r'.length
  obtain ⟨o,ho,hc,n,hd⟩:=pl
  exact call_list_seq p (.inr rfl) ho hc hd (fun h' c' kp e=>fin its r' hz h' c' kp e) (by simp only [List.size_toArray]<;>lia)
theorem ir:ba X (.type "tuple") (fun xs H Q=> ∃p ys,xs=[.ref p]/\((SqL X.K H p ys/\ ∀l,H l=none->Q (.ref l) (upd H l (.tup ys))) \/(SqT X.K H p ys/\Q (.ref p) H))):=by
 intro pins s σ H xs us Q I r h
 obtain ⟨p,ys,rfl,h⟩:=h
 obtain ⟨u,rfl,rx⟩:=cS r
 cases rx
 rcases h with ⟨hq,q⟩|⟨hq,q⟩
 ·obtain ⟨its,r',pl,hz⟩:=I.list hq
  have hlen:=r'.length
  refine call_tuple_list pl.isList (fun h' kp=> ?_) (by simp only [List.size_toArray]<;>lia)
  have I1:Inv X pins σ H {s with heap:=h'}:=I.kept (t':=s.toks) kp
  have I2:Inv X pins σ (upd H h'.objs.size (.tup ys)) {s with heap:=h'.push {cls:= .type "tuple",data:= .seq its.toArray}}:=
   I1.laid (t':=s.toks) (fun b o e=>Heap.get?_push_of_some _ e) (Nat.le_refl _) (show au X.prog X.w _ _ _ (.tup ys) from ⟨hz,its,r',cN.new _ _⟩)
  exact ⟨.ref h'.objs.size,_,I2,rfl,q _ (I1.hok.fresh (Nat.le_refl _))⟩
 ·obtain ⟨its,r',pl,hz⟩:=I.tuple hq
  exact call_tuple_same pl ⟨.ref p,H,I,rfl,q⟩
noncomputable def tyV (K:PySem.W.Frag) (T:String) (x:V) (H:Hp):Prop:=match x with
 | .str _=>T="str"
 | .int _=>T="int"
 | .ref p=>(T="list"/\ ∃xs,SqL K H p xs) \/(T="tuple"/\ ∃o,K.lookup p=some o/\o.cls= .type "tuple"/\o.dict=none) \/
   (T="dict"/\((∃kvs,H p=some (.dK kvs)) \/ ∃kvs,H p=some (.dT kvs))) \/(T="set"/\ ∃S n,H p=some (.set S n))
 |_=>False
theorem mY {pins:List (Addr×Obj)}{σ:St}{H:Hp}{s:Shared}{T:String}{x:V}{v:Value} (I:Inv X pins σ H s) (r:RelV x v) (ty:tyV X.K T x H):
  s.TypeIs v T/\ ∀a,v= .ref a-> ∃ob,s.heap.get? a=some ob/\ob.dict=none:=by
 cases x with
 |str z=>
  obtain ⟨t,rfl⟩:=r
  cases (show T="str" from ty)
  exact ⟨typeIs_str s z t,fun _ e=>nomatch e⟩
 |int i=>
  obtain ⟨t,rfl⟩:=r
  cases (show T="int" from ty)
  exact ⟨typeIs_int s i t,fun _ e=>nomatch e⟩
 |ref p=>
  cases r
  rcases ty with ⟨rfl,xs,hq⟩|⟨rfl,o,hk,hc,hd⟩|⟨rfl,hk⟩|⟨rfl,S,n,hk⟩
  ·obtain ⟨its,_,pl,_⟩:=I.list hq
   refine ⟨pl.isList.typeIs,fun a e=> ?_⟩
   cases e
   obtain ⟨o,n,e,c,hd,_⟩:=pl
   exact ⟨o,e,hd⟩
  ·refine ⟨⟨o,I.kIn p o hk,hc⟩,fun a e=> ?_⟩
   cases e
   exact ⟨o,I.kIn _ o hk,hd⟩
  ·have z: ∃o,s.heap.get? p=some o/\o.ExactDict:=by
    rcases hk with ⟨kvs,hk⟩|⟨kvs,hk⟩
    ·obtain ⟨_,_,_,_,o,_,_,e,ex,_⟩:=I.hok p _ hk
     exact ⟨o,e,ex⟩
    ·obtain ⟨_,_,_,_,o,_,_,e,ex,_⟩:=I.hok p _ hk
     exact ⟨o,e,ex⟩
   obtain ⟨o,e,ex⟩:=z
   refine ⟨⟨o,e,ex.1⟩,fun a e2=> ?_⟩
   cases e2
   exact ⟨o,e,ex.2.1⟩
  ·obtain ⟨o,_,_,_,e,ex,_⟩:=I.hok p _ hk
   refine ⟨⟨o,e,ex.1⟩,fun a e2=> ?_⟩
   cases e2
   exact ⟨o,e,ex.2.1⟩
 |_=>exact False.elim ty
noncomputable def tBM (K:PySem.W.Frag) (T:String) (r:V->List V->Hp->VK->Prop) (to:TE) (t:TA):TE:=fun σ H Q=>to σ H fun x H1=>tyV K T x H1/\t σ H1 fun xs H2=>r x xs H2 Q
variable {o e:Expr}{es:List Expr}{to:TE}{t:TA}{name:Str}{apos cpos:Pos}{T id:String}{r:V->List V->Hp->VK->Prop}
theorem mZ (pa:PlainAttrs T) (slot:Slot T name id) (hty:typeOf (.builtin id)=pure (.type "method_descriptor")) (hm:MtR X id r) (ho:PE X o to) (ha:PA X (e::es) t)
  (hbase:attributeBase o name X.env (eval o X.env)=eval o X.env:=by rfl)
  (hfew:((backTo cpos (starEach (e::es) X.env)).all (fun x=> !x.1)&&(backToKw cpos (keywordEach [] X.env)).all (fun x=>x.1.isSome)
   &&decide ((e::es).length+([]:List Keyword).length+(if ([]:List Keyword).isEmpty then 0 else 1)<30))=true:=by rfl)
  (hline:(apos.endLine==cpos.line)=true:=by rfl) (hs:starEach (e::es) X.env=(false,eval e X.env)::starEach es X.env:=by rfl) (hplain:(backTo cpos (starEach es X.env)).any (·.1)=false:=by rfl):
  PE X (.Call (.Attribute o name apos) (e::es) [] cpos) (tBM X.K T r to t):=by
 intro pins s σ H Q I h
 refine wpAny_Call_method_late hbase hfew hline rfl (thn (ho pins s σ H _ I h) fun v s1 ⟨x,H1,I1,r1,ty,q1⟩=> ?_)
 obtain ⟨h1,h2⟩:=mY I1 r1 ty
 refine ⟨T,id,pa,slot,hty,h1,h2,?_⟩
 have hA:=ha cpos pins s1 σ H1 _ I1 q1
 rw [hs] at hA|-
 refine Calls.callWith_builtin (by show (false||(backTo cpos (starEach es X.env)).any (·.1))=false;rw [hplain]<;>rfl) (Calls.evalArgs_plain ?_)
 exact thn hA fun us s2 ⟨vs,H2,I2,r2,q2⟩=>hm pins s2 σ H2 x vs v us Q I2 r1 r2 q2
end
end L2
namespace L2
open PySem PySem.Spec PyProof.Rows
noncomputable def MtM (X:Cx) (id:String) (r:V->List V->Hp->VK->Prop):Prop:=
 ∀(pins:List (Addr×Obj)) (s:Shared) (σ:St) (H:Hp) (x:V) (xs:List V) (v:Value) (us:List Value) (Q:VK),Inv X pins σ H s->RelV x v->Vals xs us->r x xs H Q->
  wpAny (model X.prog X.w) X.A (call (.builtin id) (v::us)) (EP X pins σ Q) X.xe s
theorem Vals.one: ∀{x:V}{us:List Value},Vals [x] us-> ∃u,us=[u]/\RelV x u
 |_,_,.cons r .nil=>⟨_,rfl,r⟩
theorem Vals.two: ∀{x y:V}{us:List Value},Vals [x,y] us-> ∃u v,us=[u,v]/\RelV x u/\RelV y v
 |_,_,_,.cons r (.cons q .nil)=>⟨_,_,rfl,r,q⟩
theorem Vals.zero: ∀{us:List Value},Vals [] us->us=[]
 |_,.nil=>rfl
theorem Vals.dropLast {xs:List V}{us:List Value} (h:Vals xs us):Vals xs.dropLast us.dropLast:=by
 induction h with
 |nil=>exact .nil
 |cons r t ih=>
  cases t with
  |nil=>exact .nil
  |cons q t'=>exact .cons r ih
theorem Vals.eraseIdx: ∀{xs:List V}{us:List Value} (i:Nat),Vals xs us->Vals (xs.eraseIdx i) (us.eraseIdx i)
 |_,_,_,.nil=> .nil
 |_,_,0,.cons _ t=>t
 |_,_,i+1,.cons r t=> .cons r (Vals.eraseIdx i t)
theorem Vals.reverse {xs:List V}{us:List Value} (h:Vals xs us):Vals xs.reverse us.reverse:=by
 induction h with
 |nil=>exact .nil
 |cons r t ih=>rw [List.reverse_cons,List.reverse_cons];exact Vals.append ih (.cons r .nil)
theorem Vals.rep {xs:List V}{us:List Value} (h:Vals xs us): ∀k:Nat,Vals (List.replicate k xs).flatten (List.replicate k us).flatten
 |0=> .nil
 |k+1=>by
  rw [List.replicate_succ,List.replicate_succ,List.flatten_cons,List.flatten_cons]
  exact Vals.append h (Vals.rep h k)
section
variable {X:Cx}{pins:List (Addr×Obj)}{σ:St}{H:Hp}{s:Shared}{l b:Addr}{xs ys zs:List V}
theorem Inv.lnew {its:List Value}{t':Nat} (I:Inv X pins σ H s) (hv:Vals ys its) (hz:ys.length<=sizeLine):
  Inv X pins σ (upd H s.heap.objs.size (.lst ys)) {s with heap:=s.heap.push {cls:= .type "list",data:= .seq its.toArray},toks:=t'}:=
 I.laid (fun _ _ q=>Heap.get?_push_of_some _ q) (Nat.le_refl _) ⟨hz,its,0,hv,Heap.get?_push_size _ rfl⟩
theorem Inv.fresh (I:Inv X pins σ H s):H s.heap.objs.size=none:=I.hok.fresh (Nat.le_refl _)
theorem iu {n:Nat} (h:n<=sizeLine):Builtin.List.listTooLong n=false:=by
 unfold Builtin.List.listTooLong
 exact decide_eq_false (by lia)
end
section
variable {X:Cx}
end
section
variable {prog:Program}{w:World}{A:Around}{E:Value->Shared->Prop}{s:Shared}
theorem ng {a c n:Nat} (hac:a<=c) (hc:c<=n):sliceBounds (some (a:Int)) (some (c:Int)) none n=((a:Int),(c:Int),1):=by
 simp only [sliceBounds,Option.getD_none]
 have h1: ¬((a:Int)<0):=by lia
 have h2: ¬((c:Int)<0):=by lia
 simp only [h1,h2,if_false,show (1:Int)>0 by decide,if_true]
 congr 1
 ·lia
 ·congr 1;lia
set_option maxRecDepth 100000 in
theorem uU {l b sl:Addr}{items new:Array Value}{n n2:Nat}{vl vu:Value}{a c:Nat}{Q:Unit->Shared->Prop}
  (e:s.heap.get? l=some {cls:= .type "list",data:= .seq items n}) (e2:s.heap.get? b=some {cls:= .type "list",data:= .seq new n2}) (hne:l≠b)
  (hs:s.heap.IsSliceOf sl vl vu .none) (pl:IsPart vl (some (a:Int))) (pu:IsPart vu (some (c:Int))) (hac:a<=c) (hc:c<=items.size)
  (hsz:items.size+new.size<=sizeLine) (h:Q () {s with heap:=s.heap.update l (Obj.mapSeq fun xs=>xs.extract 0 a++new++xs.extract c xs.size)}):
  wpAny (model prog w) A (setItem (.ref l) (.ref sl) (.ref b)) Q E s:=by
 have hl:s.heap.IsList l items:=PySem.IsL.isList e
 have hb:s.heap.IsList b new:=PySem.IsL.isList e2
 obtain ⟨os,hos,hcs,hds⟩:=id hs
 have hTs:s.TypeIs (.ref sl) "slice":=⟨os,hos,hcs⟩
 have hstep: ¬((rawPart none==rawInt 0)=true):=Bool.false_ne_true
 have hsame:Builtin.List.listSameRef (.ref l) (.ref b)=false:=by
  unfold Builtin.List.listSameRef
  exact beq_eq_false_iff_ne.mpr hne
 have hmax:(max (a:Int) (c:Int)).toNat=c:=by lia
 have hz':((fun xs:Array Value=>xs.extract 0 a++new++xs.extract c xs.size) items).size<=sizeLine+1:=by
  simp only [Array.size_append,Array.size_extract]
  lia
 unfold setItem
 try with_reducible refine wpAny_holding ?_
 first|refine wpAny_bind (wpAny_pure ?_)|skip
 refine wpAny_bind (wpAny_sequenceKey hl.typeIs (by decide) ?_)
 refine wpAny_bind (wpAny_callSpecial?_slot (name:=Str.ofString "__setitem__") hl.typeIs slot_list_setitem
  (wpAny_call_entry slot_list_setitem hl.typeIs entry_list_setitem ?_ (args_list_setitem _ _ _)))
 show wpAny _ _ (Builtin.List.listSubscript? (.ref sl)>>=_) _ _ s
 refine wpAny_bind ?_
 unfold Builtin.List.listSubscript?
 refine wpAny_bind (wpAny_specialOf hTs slice_no_index ?_)
 simp only [Option.isNone_none,if_true]
 refine wpAny_pure ?_
 show wpAny _ _ (typeOf (.ref sl)>>=_) _ _ s
 refine wpAny_bind (wpAny_typeOf hTs ?_)
 first
  |rw [if_neg (by decide)]
  |refine PySem.W.KFB.if_not (by decide) ?_
 rw [listSliceParts_eq]
 refine wpAny_bind (wpAny_bind (wpAny_field hos hds (x:= .none) rfl (wpAny_bind (wpAny_listPart .none ?_))))
 rw [if_neg hstep]
 refine wpAny_bind (wpAny_field hos hds (x:=vl) rfl (wpAny_bind (wpAny_listPart pl ?_)))
 refine wpAny_bind (wpAny_field hos hds (x:=vu) rfl (wpAny_bind (wpAny_listPart pu (wpAny_pure ?_))))
 first
  |simp only [hsame,Bool.false_eq_true,if_false]
  |refine PySem.W.KFB.if_not hsame ?_
  |(dsimp only;rw [if_neg (by rw [hsame];exact Bool.false_ne_true)])
 refine wpAny_bind (m:=Builtin.List.listAllItems (.ref b) "must assign iterable to extended slice") ?_
 unfold Builtin.List.listAllItems
 refine wpAny_bind (wpAny_typeOf hb.typeIs ?_)
 first
  |refine PySem.W.KFB.if_so (by decide) ?_
  |rw [if_pos (by decide)]
  |simp only [beq_self_eq_true,Bool.true_or,if_true]
 unfold Builtin.List.listItems
 refine wpAny_bind (wpAny_seqItems e2 rfl (wpAny_pure ?_))
 refine wpAny_bind (wpAny_bind (wpAny_seqItems e rfl (wpAny_pure ?_)))
 refine wpAny_bind (wpAny_of_eq ((sliceIndices_raw (some (a:Int)) (some (c:Int)) none items.size (by simp)).trans (congrArg (pure:Int×Int×Int->Sem (Int×Int×Int)) (ng hac hc))) ?_)
 show wpAny _ _ (if ((1:Int)==1)=true then _ else _) _ _ s
 rw [if_pos (by decide)]
 refine wpAny_bind (wpAny_rule ?_)
 first
  |simp only [iu hsz,Bool.false_eq_true,if_false]
  |refine PySem.W.KFB.if_not (iu hsz) ?_
 first|refine wpAny_bind (wpAny_pure ?_)|skip
 show wpAny _ _ (updateSeq l (fun xs=>xs.extract 0 ((a:Int)).toNat++new++xs.extract (max (a:Int) (c:Int)).toNat xs.size)>>=_) _ _ s
 rw [hmax,Int.toNat_natCast]
 refine wpAny_bind (wpAny_updateSeq (hz:=Nat.le_trans (Nat.le_add_right _ _) hsz) (_hz':=hz') e rfl ?_)
 refine wpAny_bind (wpAny_letGo ?_)
 first
  |exact wpAny_bind (wpAny_pure (wpAny_pure ⟨.none,rfl,wpAny_pure h⟩))
  |exact wpAny_pure ⟨.none,rfl,wpAny_pure h⟩
end
section
variable {X:Cx}
end
end L2
namespace L2
open PySem PySem.Spec PyProof.Rows
section
variable {κ:Type} [DecidableEq κ]
noncomputable def putK (kvs:List (κ×V)) (k:κ) (v:V):List (κ×V):=
 if (kvs.any fun kv=>decide (kv.1=k))=true then kvs.map (fun kv=>if kv.1=k then (kv.1,v) else kv) else kvs++[(k,v)]
theorem nh (kvs:List (κ×V)) (k:κ) (v:V):(putK kvs k v).length<=kvs.length+1:=by
 unfold putK
 split
 ·rw [List.length_map];lia
 ·rw [List.length_append,List.length_cons,List.length_nil];lia
theorem RelO.getD {o:Option V}{u:Option Value}{d:V}{d':Value} (r:RelO o u) (rd:RelV d d'):RelV (o.getD d) (u.getD d'):=by
 cases o with
 |none=>cases u with
  |none=>exact rd
  |some _=>exact (show False from r).elim
 |some _=>cases u with
  |none=>exact (show False from r).elim
  |some _=>exact r
theorem KV.any {kvs:List (κ×V)}{vs:List (κ×Value)} (r:KV kvs vs) (k:κ):(kvs.any fun kv=>decide (kv.1=k))=vs.any fun kv=>decide (kv.1=k):=by
 unfold KV at r
 induction r with
 |nil=>rfl
 |cons h t ih=>rw [List.any_cons,List.any_cons,ih,h.1]
theorem KV.repl {kvs:List (κ×V)}{vs:List (κ×Value)} (r:KV kvs vs) (k:κ) {y:V}{u:Value} (ry:RelV y u):
  KV (kvs.map fun kv=>if kv.1=k then (kv.1,y) else kv) (vs.map fun kv=>if kv.1=k then (kv.1,u) else kv):=by
 unfold KV at r|-
 induction r with
 |nil=>exact .nil
 | @cons p q ps qs h t ih=>
  rw [List.map_cons,List.map_cons]
  refine .cons ?_ ih
  obtain ⟨h1,h2⟩:=h
  by_cases e:p.1=k
  ·rw [if_pos e,if_pos (h1.symm.trans e)];exact ⟨h1,ry⟩
  ·rw [if_neg e,if_neg (fun z=>e (h1.trans z))];exact ⟨h1,h2⟩
theorem KV.put {kvs:List (κ×V)}{vs:List (κ×Value)} (r:KV kvs vs) (k:κ) {y:V}{u:Value} (ry:RelV y u):KV (putK kvs k y) (stored vs k u):=by
 unfold putK stored
 rw [r.any k]
 by_cases e:(vs.any fun kv=>decide (kv.1=k))=true
 ·rw [if_pos e,if_pos e];exact r.repl k ry
 ·rw [if_neg e,if_neg e];exact Paired.snoc r ⟨rfl,ry⟩
theorem KV.length {kvs:List (κ×V)}{vs:List (κ×Value)} (r:KV kvs vs):kvs.length=vs.length:=Paired.length r
end
theorem ni {P:Program}{w:World}{k:Key}{u:Value} (r:RelV (kV k) u):(aG P w).is k u=true:=by
 cases k with
 |inl i=>obtain ⟨t,e⟩:=(show∃t,u=Value.int i t from r);subst e;exact ll P w i t
 |inr x=>obtain ⟨t,e⟩:=(show∃t,u=Value.str x t from r);subst e;exact lq P w x t
section
variable {P:Program}{w:World}{H:Hp}{h:Heap}{a:Addr}
theorem nj {u:HO} (ok:HOk P w H h) (e:Rd H a u):au P w H h a u:=e.ok ok
theorem nk {kvs:List (Key×V)} (ok:HOk P w H h) (e:Rd H a (.dK kvs)):kvs.length<=sizeLine/\(a==sysModules)=false/\ ∃vs,KV kvs vs/\h.DictOf (aG P w) a vs:=
 show au P w H h a (.dK kvs) from nj ok e
theorem nl {kvs:List (Key×V)} (ok:HOk P w H h) (e:H a=some (.dK kvs)):kvs.length<=sizeLine/\(a==sysModules)=false/\ ∃vs,KV kvs vs/\h.DictOf (aG P w) a vs:=nk ok (.inl e)
end
section
variable {X:Cx}{pins:List (Addr×Obj)}{σ:St}{H:Hp}{s:Shared}{a:Addr}{y v:V}{u r:Value}{o:Option V}{A:Around}{E:Value->Shared->Prop}
theorem Inv.big (I:Inv X pins σ H s):sysModules<s.heap.objs.size:=by
 have h:mainGlobals<s.heap.objs.size:=(I.mod.glob.keeps I.bk).lt
 exact Nat.lt_trans (by decide) h
theorem nn {h':Heap}{t':Nat}{ob:HO} (I:Inv X pins σ H s) (mu:Mut (H a)) (hs:Heap.SameBut a s.heap h') (he: ∃q,h'.get? a=some q) (new:au X.prog X.w (upd H a ob) h' a ob):
  Inv X pins σ (upd H a ob) {s with heap:=h',toks:=t'}:=
 I.write (x:=a) (e:=a) mu (.inl rfl) (fun b q hb z=>(hs.2 b hb).trans z) he new
theorem nq {P:Program}{w:World}{H':Hp}{h':Heap}{kvs:List (Key×V)}{vs:List (Key×Value)} (z:kvs.length<=sizeLine) (hd:(a==sysModules)=false) (rel:KV kvs vs) (dd:h'.DictOf (aG P w) a vs):
  au P w H' h' a (.dK kvs):=⟨z,hd,vs,rel,dd⟩
end
section
variable {X:Cx}{pins:List (Addr×Obj)}{σ:St}{H:Hp}{s:Shared}{a:Addr}{kvs:List (Key×V)}{k:Key}{u:Value}{A:Around}{E:Value->Shared->Prop}
end
section
variable {X:Cx}{o i e value:Expr}{pos pos' tpos:Pos}{td ty tv:TE}
end
theorem nr {P:Program}{w:World}{H:Hp} (h:Heap) (hb:sysModules<h.objs.size):au P w H (h.push {cls:= .type "dict",data:= .dict #[]}) h.objs.size (.dK []):=
 ⟨Nat.zero_le _,beq_eq_false_iff_ne.mpr (Ne.symm (Nat.ne_of_lt hb)),[],.nil,Heap.DictOf.new h⟩
section
variable {X:Cx}{pos:Pos}
end
noncomputable def fJ:List (TE×TE)->St->Hp->(List (V×V)->Hp->Prop)->Prop
 |[],_,H,Q=>Q [] H
 |(tk,tv)::r,σ,H,Q=>tk σ H fun x H1=>tv σ H1 fun y H2=>fJ r σ H2 fun ps H3=>Q ((x,y)::ps) H3
noncomputable abbrev VV:List (V×V)->List (Value×Value)->Prop:=Paired fun p q=>RelV p.1 q.1/\RelV p.2 q.2
noncomputable def PPs (X:Cx) (pos:Pos) (keys:List (Option Expr)) (values:List Expr) (trs:List (TE×TE)):Prop:=
 ∀(pins:List (Addr×Obj)) (s:Shared) (σ:St) (H:Hp) (Q:List (V×V)->Hp->Prop),Inv X pins σ H s->fJ trs σ H Q->
  wpAny (model X.prog X.w) X.A (evalPairs (pairTrees keys values X.env pos)) (fun vs s'=> ∃ps H',Inv X pins σ H' s'/\VV ps vs/\Q ps H') X.xe s
theorem nu {X:Cx}{pos:Pos}:PPs X pos [] [] []:=fun pins s σ H Q I h=>pairTrees_nil_walk ⟨[],H,I,.nil,h⟩
theorem nv {X:Cx}{pos:Pos}{k v:Expr}{ks:List (Option Expr)}{vs:List Expr}{tk tv:TE}{trs:List (TE×TE)} (hk:PE X k tk) (hv:PE X v tv) (hr:PPs X pos ks vs trs):
  PPs X pos (some k::ks) (v::vs) ((tk,tv)::trs):=fun pins s σ H Q I h=>
 pairTrees_cons_walk (thn (hk pins s σ H _ I h) fun u s1 ⟨x,H1,I1,rx,q1⟩=>thn (hv pins s1 σ H1 _ I1 q1) fun w2 s2 ⟨y,H2,I2,ry,q2⟩=>
  thn (hr pins s2 σ H2 _ I2 q2) fun ws s3 ⟨ps,H3,I3,rel,q3⟩=>⟨(x,y)::ps,H3,I3,.cons ⟨rx,ry⟩ rel,q3⟩)
noncomputable def cV (kvs more:List (Key×V)):List (Key×V):=more.foldl (fun acc kv=>putK acc kv.1 kv.2) kvs
theorem KV.merge: ∀{more:List (Key×V)}{rs:List (Key×Value)}{kvs:List (Key×V)}{vs:List (Key×Value)},KV more rs->KV kvs vs->KV (cV kvs more) (merged vs rs):=by
 intro more rs kvs vs r
 unfold KV at r
 induction r generalizing kvs vs with
 |nil=>intro q;exact q
 | @cons p q ps qs h t ih=>
  intro r0
  have e:KV (putK kvs p.1 p.2) (stored vs q.1 q.2):=by
   have:=r0.put p.1 h.2
   rw [<-h.1];exact this
  exact ih e
theorem iy: ∀(more kvs:List (Key×V)),(cV kvs more).length<=kvs.length+more.length
 |[],kvs=>by show kvs.length<=kvs.length+0;lia
 |p::r,kvs=>by
  have h1:=iy r (putK kvs p.1 p.2)
  have h2:=nh kvs p.1 p.2
  show (cV (putK kvs p.1 p.2) r).length<=_
  rw [List.length_cons];lia
theorem iz {P:Program}{w:World}: ∀{kvs:List (Key×V)}{ws:List (Value×Value)},VV (kvs.map fun kv=>(kV kv.1,kv.2)) ws-> ∃rs,Carries (aG P w) ws rs/\KV kvs rs
 |[],_,r=>by rw [List.map_nil] at r;cases r;exact ⟨[],True.intro,.nil⟩
 |p::kvs,_,r=>by
  rw [List.map_cons] at r
  cases r with
  | @cons a b as bs h t=>
   obtain ⟨rs,c,q⟩:=iz (P:=P) (w:=w) t
   obtain ⟨b1,b2⟩:=b
   exact ⟨(p.1,b2)::rs,⟨ni h.1,rfl,c⟩,.cons ⟨rfl,h.2⟩ q⟩
noncomputable def nw (trs:List (TE×TE)):TE:=fun σ H Q=> ∀p,H p=none->fJ trs σ (upd H p (.dK [])) fun ps H2=>H2 p=some (.dK [])/\ ∃kvs:List (Key×V),ps=kvs.map (fun kv=>(kV kv.1,kv.2))/\kvs.length<=15/\Q (.ref p) (upd H2 p (.dK (cV [] kvs)))
theorem nz {X:Cx}{pos:Pos}{keys:List (Option Expr)}{values:List Expr}{trs:List (TE×TE)} (h:PPs X pos keys values trs) (hall:keys.all (·.isSome)=true) (hl:keys.length=values.length) (h0:keys≠[])
  (h15:keys.length<=15):PE X (.Dict keys values pos) (nw trs):=by
 intro pins s σ H Q I q
 have hn:=I.hok.fresh (Nat.le_refl s.heap.objs.size)
 have I1:=I.laid (a:=s.heap.objs.size) (o:= .dK []) (h':=s.heap.push {cls:= .type "dict",data:= .dict #[]}) (t':=s.toks) (fun _ _ q=>Heap.get?_push_of_some _ q) (Nat.le_refl _) (nr s.heap I.big)
 refine wpAny_Dict_walk (knd:=aG X.prog X.w) hall hl h0 h15 (thn (h pins _ σ _ _ I1 (q _ hn)) fun ws s2 ⟨ps,H2,I2,rel,e,kvs,ep,lk,q2⟩=> ?_)
 subst ep
 obtain ⟨rs,c,rk⟩:=iz (P:=X.prog) (w:=X.w) rel
 obtain ⟨z,hd,vs0,r0,dd⟩:=nl I2.hok e
 cases r0
 refine ⟨rs,c,dd,fun h' dd' hs=>⟨.ref s.heap.objs.size,_,?_,rfl,q2⟩⟩
 have hz:(cV [] kvs).length<=sizeLine:=by
  have h1:=iy kvs []
  rw [List.length_nil] at h1
  rw [sizeLine_eq];lia
 have he: ∃q,h'.get? s.heap.objs.size=some q:=let ⟨q,_,_,hq,_⟩:=dd';⟨q,hq⟩
 exact nn I2 (by rw [e];exact True.intro) hs he (nq hz hd (rk.merge .nil) dd')
section
variable {X:Cx}{pins:List (Addr×Obj)}{σ:St}{H:Hp}{s:Shared}{a:Addr}{y d:V}{u r:Value}{o:Option V}{A:Around}{E:Value->Shared->Prop}
end
section
variable {X:Cx}{o e f:Expr}{apos cpos:Pos}{td ty tx:TE}
end
section
variable {X:Cx}{pins:List (Addr×Obj)}{σ:St}{H:Hp}{s:Shared}{a:Addr}{kvs:List (Key×V)}{A:Around}{E:Value->Shared->Prop}
end
section
variable {X:Cx}{pins:List (Addr×Obj)}{σ:St}{H:Hp}{s:Shared}{a:Addr}{y:V}{u:Value}{A:Around}{E:Value->Shared->Prop}
end
end L2
namespace Att
open PySem PySem.W PySem.Calls PyProof.Rows
theorem nA {P:Params}{h:Heap}: ∀(ns:List Int) (vs:List Value),WellAll P h vs (ns.map WData.int)->IntsAre vs ns:=by
 intro ns
 induction ns with
 |nil=>
  intro vs w
  rw [List.map_nil] at w
  cases w
  exact .nil
 |cons n ns ih=>
  intro vs w
  rw [List.map_cons] at w
  cases w with
  |cons a b=>
   cases a
   exact .cons _ _ (ih _ b)
theorem nB {l:OpenLaw}{n:Nat} (hn:l.most=some n) {P:Params}{h:Heap}{args:List WData}{vals:List Value}
  (hpre:l.row.toRowW.claim.pre args=true) (hwl:WellAll P h vals args):
  ∃a vs ns,vals=[Value.ref a]/\args=[WData.list (ns.map WData.int)]/\h.get? a=some {cls:= .type "list",data:= .seq vs.toArray}/\IntsAre vs ns/\ns.length<=n:=by
 have hsh:WShape.hasAll [] args [.list .int]=true:=(pre_splitW hpre).1
 have hc:l.pre.holds [] {args:=args}=true:=(pre_splitW hpre).2
 obtain ⟨d,r,rfl,h1,h2⟩:=hasAllW_cons hsh
 obtain rfl:=hasAllW_nil h2
 obtain ⟨xs,rfl,h3⟩:=hasW_list h1
 obtain ⟨ns,rfl⟩:=items_int h3
 have hlen:ns.length<=n:=by
  unfold OpenLaw.pre at hc
  have h4:(WTm.not (.lt (.lit (.int (n:Int))) (.len (.arg 0)))).holds [] {args:=[.list (ns.map .int)]}=true:=by
   have h4:=(holds_andW hc).1
   rw [hn] at h4
   exact h4
  have h5:=condW_of h4 (w_not (w_lt w_lit (w_len_list (w_arg rfl))))
  rw [List.length_map] at h5
  refine Nat.le_of_not_lt fun q=> ?_
  have q':(n:Int)<((ns.length:Nat):Int):=by lia
  first
   |(rw [decide_eq_true q'] at h5;exact absurd h5 (by decide))
   |(simp at h5;lia)
 cases hwl with
 |cons w1 w2=>
  cases w2
  cases w1 with
  |list ho hall=>exact ⟨_,_,ns,rfl,rfl,ho,nA ns _ hall,hlen⟩
theorem nC (l:OpenLaw) (args:List WData):l.row.toRowW.claim.post args (.bool true) args=true:=
 postW_of (r:=l.row.toRowW) (X:=(true==true))
  (show WShape.has [] (.bool true) .bool=true by first|rfl|decide|simp [WShape.has,WShape.arms,WShape.armsAll])
  (show (WTm.eq .res (.lit (.bool true))).value [] {args:=args,res:=some (.bool true),after:=args}=some (.bool (true==true)) from w_eq_bool (w_res rfl) w_lit) rfl
theorem nD {l:OpenLaw}{n:Nat}{q:Program}{loose:List Str}{XP:(Str->Option Value)->Heap->Prop}{YP:World->Heap->Prop}{d:DefRec}
  (hn:l.most=some n) (hdf:d.params.defaults=[])
  (call: ∀(w:World) (s₀ s₁:Shared) (mg mb:Str->Option Value) (fa:Addr) (o:Obj) (pm cd doc:Value) (a:Addr) (vs:List Value) (ns:List Int),
   Ground q loose [] XP w s₀ mg mb s₁.heap->YP w s₁.heap->
   s₁.heap.get? fa=some o->o.data= .func (docDef d.name d.params d.body d.scope pm cd doc)->s₁.heap.CodeRec cd d.name->mg d.name=some (.ref fa)->
   s₁.heap.get? a=some {cls:= .type "list",data:= .seq vs.toArray}->IntsAre vs ns->ns.length<=n->s₁.gens= #[]->
   codeAny (model l.prog w) callerA (.call (.ref fa) ⟨[.ref a],[]⟩) (fun r s'=>r= .ok (.ret (.bool true))/\OldK s₁.heap s'.heap/\s'.os=s₁.os/\AllBare s'.gens) s₁):
  WalkO q loose XP YP l.row.toRowW d [] (fun f vs=>PySem.call f vs):=by
 intro w s₀ s₁ mg mb G Y fa o pm cd doc dV kV ho hd hcd hD hmg hg args vals as hpre hlay hrd hwl hlo
 obtain rfl:dV= .none:=Dflts.none hD hdf
 obtain rfl:kV= .none:=Dflts.noKw hD
 obtain ⟨a,vs,ns,rfl,rfl,hobj,hints,hlen⟩:=nB hn hpre hwl
 refine enter_call (codeAny_mono (call w s₀ s₁ mg mb fa o pm cd doc a vs ns G Y ho (fd_plain hd) hcd hmg hobj hints hlen hg) fun r s' hq=> ?_)
 obtain ⟨rfl,h2,h3,h4⟩:=hq
 exact ⟨.inl ⟨.bool true,.bool true,[],rfl,fun _=>rfl,.bool true,nC l _,fun _=>⟨List.Pairwise.nil,fun _ hm=>(nomatch hm)⟩⟩,h2,h3,h4⟩
section
variable {prog:Program}{w:World}{A:Around}{E:Value->Shared->Prop}{s:Shared}{K:Frag}
end
end Att
namespace L2
open PySem PySem.Spec PyProof.Rows
theorem iA: ∀{vs:List Value}{ns:List Int},IntsAre vs ns->Vals (ns.map V.int) vs
 |_,_,.nil=> .nil
 |_,_,.cons n t h=> .cons ⟨t,rfl⟩ (iA h)
noncomputable def Only (H:Hp):Prop:= ∀b,H b=none \/ ∃o xs,H b=some (.frz o (.lst xs))
theorem nE {P:Program}{w:World}{K:PySem.W.Frag}{mg mb:Str->Option Value}{CX:CXT}{k:Nat}{fa a:Addr}{fd:FuncData}{x:Str}{sp:Sp}{s₁:Shared}{vs:List Value}{ns:List Int}
  (KX:K.In s₁.heap) (hns:s₁.heap.Ns mainGlobals mg) (hb:s₁.heap.Ns builtinsNs mb) (hbb: ∀x:Str,x≠"__name__"->mb x=bootBuiltins x) (hlim:s₁.heap.NoLimit) (hg:s₁.gens= #[])
  (ha:s₁.heap.get? a=some {cls:= .type "list",data:= .seq vs.toArray}) (hi:IntsAre vs ns) (hl:ns.length<=sizeLine) (hr:Room k callerA)
  (F: ∀base:Heap,K.In base->base.Ns mainGlobals mg->FnOk P w K mg base CX k fa fd [x] sp) (hbind: ∀(s:Shared) (u:Value),BindsTo s fd ⟨[u],[]⟩ [(x,u)])
  (hsp: ∀H:Hp,Only H->SqL K H a (ns.map V.int)->sp [.ref a] H (fun v _=>v= .bl true) fun _ _ _=>False)
  (hCX: ∀H e s',CX [] H s₁ (fun _ _ _=>False) e s'->False):
  codeAny (model P w) callerA (.call (.ref fa) ⟨[.ref a],[]⟩) (fun r s'=>r= .ok (.ret (.bool true))/\OldK s₁.heap s'.heap/\s'.os=s₁.os/\AllBare s'.gens) s₁:=by
 have rv:=iA hi
 have lenV:=hi.length
 have core: ∀H:Hp,Only H->SqL K H a (ns.map V.int)->HOk P w H s₁.heap->(∀b,H b≠none->b=a)->(H a≠none->K.lookup a=none)->
   codeAny (model P w) callerA (.call (.ref fa) ⟨[.ref a],[]⟩) (fun r s'=>r= .ok (.ret (.bool true))/\OldK s₁.heap s'.heap/\s'.os=s₁.os/\AllBare s'.gens) s₁:=by
  intro H hO hS hok hA hK
  have base_of: ∀{b:Addr}{o:Obj},s₁.heap.get? b=some o->H b=none->(hidT s₁.heap H).get? b=some o:=fun e n=>lu e n
  have noA: ∀{b:Addr}{o:Obj}{es:Array DictEntry}{ep:Nat},s₁.heap.get? b=some o->o.data= .dict es ep->H b=none:=fun {b o es ep} e d=>by
   cases q:H b with
   |none=>rfl
   |some u=>
    have e':b=a:=hA b (by rw [q];simp)
    subst e'
    rw [ha] at e;cases e
    have d':Data.seq vs.toArray _=Data.dict es ep:=d
    cases d'
  have nsK: ∀{b:Addr}{m:Str->Option Value},s₁.heap.Ns b m->(hidT s₁.heap H).Ns b m:=fun {b m} ⟨o,es,ep,e,d,r⟩=>⟨o,es,ep,base_of e (noA e d),d,r⟩
  have hKb:K.In (hidT s₁.heap H):=fun b o e=>base_of (KX b o e) (by
   cases q:H b with
   |none=>rfl
   |some u=>
    have e':b=a:=hA b (by rw [q];simp)
    subst e'
    rw [hK (by rw [q];simp)] at e;cases e)
  have hM:Mod K mg (hidT s₁.heap H):=⟨hKb,nsK hns,⟨mb,nsK hb,hbb⟩,let ⟨mc,h1,h2⟩:=hlim;⟨mc,nsK h1,h2⟩⟩
  have e0:Env0 P w K mg (hidT s₁.heap H) callerA [] s₁ H:=⟨rfl,hM,fun b o e=>lv e,Nat.le_of_eq (ls _ _),trivial,fun b hb=>absurd (show b∈([]:List Addr) from hb) (by simp),hok,.of_eq hg⟩
  refine codeAny_mono ((F _ hKb (nsK hns)).run callerA [] s₁ H ⟨[.ref a],[]⟩ [.ref a] [.ref a] _ _ hr e0 (hbind s₁ (.ref a)) (.cons rfl .nil) (hsp H hO hS)) fun r s' h=> ?_
  cases r with
  |error e=>exact (hCX H e s' h).elim
  |ok fl=>
   cases fl with
   |next=>exact False.elim h
   |brk=>exact False.elim h
   |cont=>exact False.elim h
   |ret u=>
    obtain ⟨v,H',os,bare,un,hok',r',q⟩:=h
    have q':v= .bl true:=q
    subst q'
    obtain rfl:u=Value.bool true:=r'
    refine ⟨rfl,OldK.of_keep fun b o e=> ?_,os,bare⟩
    cases q:H b with
    |none=>exact un.keep b o e q (by intro z;exact absurd (show b∈([]:List Addr) from z) (by simp)) (by simp)
    |some u=>
     rcases hO b with z|⟨ob,xs,z⟩
     ·rw [q] at z;cases z
     ·have z2:=un.frzs b ob _ z
      obtain ⟨e1,_⟩:=hok b _ z
      obtain ⟨e2,_⟩:=hok' b _ z2
      rw [e] at e1;cases e1
      exact e2
 cases hk:K.lookup a with
 |some o=>
  have e:=KX a o hk
  rw [ha] at e
  cases e
  refine core (fun _=>none) (fun _=> .inl rfl) (.inr ⟨_,vs.toArray,_,hk,rfl,rfl,rfl,by rw [List.size_toArray,lenV];exact hl,by simpa using rv⟩) (fun b u z=>by have z':(none:Option HO)=some u:=z;cases z') (fun b z=>absurd rfl z) fun z=>absurd rfl z
 |none=>
  refine core (fun b=>if b=a then some (.frz {cls:= .type "list",data:= .seq vs.toArray} (.lst (ns.map V.int))) else none) (fun b=> ?_) (.inl (.inr ⟨{cls:= .type "list",data:= .seq vs.toArray},if_pos rfl⟩)) (fun b u z=> ?_) (fun b z=> ?_) fun _=>hk
  ·by_cases hb:b=a
   ·exact .inr ⟨_,_,if_pos hb⟩
   ·exact .inl (if_neg hb)
  ·by_cases hb:b=a
   ·have z':=(if_pos hb).symm.trans z
    cases z'
    subst hb
    exact ⟨ha,by rw [List.length_map];exact hl,vs,_,rv,ha⟩
   ·have z':=(if_neg hb).symm.trans z
    cases z'
  ·by_cases hb:b=a
   ·exact hb
   ·exact absurd (if_neg hb) z
end L2
namespace L2
open PySem PySem.Spec PyProof.Rows
theorem nF {l:PySem.W.OpenLaw}{n k:Nat}{q:Program}{loose:List Str}{XP:(Str->Option Value)->Heap->Prop}{YP:World->Heap->Prop}{d:DefRec}{K:Params->PySem.W.Frag}{CX:World->CXT}{sp:World->Sp}{x:Str}
  (hn:l.most=some n) (hn2:n<=sizeLine) (hdf:d.params.defaults=[]) (hr:Room k callerA)
  (hY: ∀(w:World) (h:Heap),YP w h->(K w.params).In h)
  (F: ∀(w:World) (mg:Str->Option Value) (fa:Addr) (h:Heap),(K w.params).In h->h.Ns mainGlobals mg->mg d.name=some (.ref fa)->
   ∃fd:FuncData,(∀(s:Shared) (u:Value),BindsTo s fd ⟨[u],[]⟩ [(x,u)])/\
    ∀base:Heap,(K w.params).In base->base.Ns mainGlobals mg->FnOk l.prog w (K w.params) mg base (CX w) k fa fd [x] (sp w))
  (hsp: ∀(w:World) (H:Hp) (a:Addr) (ns:List Int),ns.length<=n->Only H->SqL (K w.params) H a (ns.map V.int)->sp w [.ref a] H (fun v _=>v= .bl true) fun _ _ _=>False)
  (hCX: ∀(w:World) (H:Hp) (s:Shared) (e:Value) (s':Shared),CX w [] H s (fun _ _ _=>False) e s'->False):
  PySem.W.WalkO q loose XP YP l.row.toRowW d [] (fun f vs=>PySem.call f vs):=by
 refine Att.nD hn hdf fun w s₀ s₁ mg mb fa o pm cd doc a vs ns G Y ho hd hcd hmg hobj hints hlen hg=> ?_
 have KX:=hY w _ Y
 obtain ⟨fd,hb,hF⟩:=F w mg fa _ KX G.T.g hmg
 exact nE KX G.T.g G.T.b G.T.builtins G.T.nolimit hg hobj hints (Nat.le_trans hlen hn2) hr hF hb (fun H hO hS=>hsp w H a ns hlen hO hS) fun H e s'=>hCX w H s₁ e s'
end L2
namespace L2
open PySem PySem.Spec PyProof.Rows
noncomputable def aT (s:Stmt):Arguments:=match s with
 | .FunctionDef _ a _ _ _ _ _ _ _ _=>a
 |_=>{posonlyargs:=[],args:=[],vararg:=none,kwonlyargs:=[],kw_defaults:=[],kwarg:=none,defaults:=[]}
noncomputable def aJ (s:Stmt):List Stmt:=match s with
 | .FunctionDef _ _ b _ _ _ _ _ _ _=>b
 |_=>[]
noncomputable def aq (s:Stmt):Scope:=match s with
 | .FunctionDef _ _ _ _ _ _ sc _ _ _=>sc
 |_=>{kind:= .function,names:=[],isGenerator:=false,isCoroutine:=false}
noncomputable abbrev CX0:CXT:=fun _ _ _ _ _ _=>False
noncomputable abbrev E0:XK:=fun _ _ _=>False
theorem iB {X:Cx}:d2 CX0 X E0:=fun _ _ _ _ _ _ _ h=>h.elim
structure Fun (K:PySem.W.Frag) (x qual:Str) (st:Stmt) (f:Addr) (fd:FuncData):Prop where
 ex: ∃(oc:Value) (od:Option Addr) (kV doc pm:Value) (an:Option Addr) (cdv ct:Value) (osl:Array (Option Value)),
  fd=PySem.W.fnOf x qual (aT st) (aJ st) (aq st) .none kV doc pm an cdv ct/\K.lookup f=some ⟨oc,od,.func fd,osl⟩/\PySem.W.codeIn K cdv qual=true
 kp:PySem.W.keepIn K (.ref f)=true
section
variable {P:Program}{w:World}{K:PySem.W.Frag}{mg:Str->Option Value}{base:Heap}
theorem Fun.ok {x qual:Str}{st:Stmt}{f:Addr}{fd:FuncData}{N ps:List Str}{k:Nat}{sp:Sp} (F:Fun K x qual st f fd) (S:aN N ps (aq st)) (len: ∀vs H Q E,sp vs H Q E->vs.length=ps.length)
  (hbody: ∀(cdv:Value) (A:Around) (outer:List Env) (s:Shared) (H:Hp) (vs:List V) (Q:VK) (E:XK),Room k (A.deeper (envOfC qual (aq st) s.heap.objs.size f cdv))->sp vs H Q E->
   ∃t,PSs (cxOf CX0 P w K mg base N qual (aq st) f cdv A outer s H E).nox (aJ st) t/\t {nx:=fun _ H'=>Q .non H',rt:=Q} (aS N vs) H):FnOk P w K mg base CX0 (k+1) f fd ps sp:=by
 obtain ⟨oc,od,kV,doc,pm,an,cdv,ct,osl,rfl,lk,hcd⟩:=F.ex
 refine ij lk hcd S len fun A outer s H vs Q E hr hsp=> ?_
 obtain ⟨t,h,q⟩:=hbody cdv A outer s H vs Q E hr hsp
 exact ⟨t,h.nox,q⟩
theorem Fun.binds {x qual:Str}{st:Stmt}{f:Addr}{fd:FuncData}{ps:List Str} (F:Fun K x qual st f fd)
  (h: ∀(kV doc pm:Value) (an:Option Addr) (cdv ct:Value) (us:List Value),us.length=ps.length->bindArgs (PySem.W.fnOf x qual (aT st) (aJ st) (aq st) .none kV doc pm an cdv ct) ⟨us,[]⟩=pure (ps.zip us)):bx K fd ps []:=by
 obtain ⟨oc,od,kV,doc,pm,an,cdv,ct,osl,rfl,lk,hcd⟩:=F.ex
 exact .all (h kV doc pm an cdv ct)
theorem bz {x qual:Str}{st:Stmt}{f:Addr}{oc:Value}{od an:Option Addr}{osl:Array (Option Value)}{kV doc pm cdv ct:Value} (l:K.lookup f=some ⟨oc,od,.func (PySem.W.fnOf x qual (aT st) (aJ st) (aq st) .none kV doc pm an cdv ct),osl⟩)
  (c:PySem.W.codeIn K cdv qual=true) (k:PySem.W.keepIn K (.ref f)=true):Fun K x qual st f (PySem.W.fnOf x qual (aT st) (aJ st) (aq st) .none kV doc pm an cdv ct):=⟨⟨oc,od,kV,doc,pm,an,cdv,ct,osl,rfl,l,c⟩,k⟩
end
theorem iC {n:Nat} (h:n<=1000):n<sizeLine:=Nat.lt_of_le_of_lt h (by decide)
section
variable {X:Cx}
theorem pv (i:Nat) {x:Str}{pos:Pos} (hN:X.N[i]?=some x:=by rfl) (hv:Vis X.env.scope x:=by first|exact Or.inl rfl|exact Or.inr (Or.inl rfl)|exact Or.inr (Or.inr rfl)) (hd:(x==("__debug__":Str))=false:=by decide)
  (hcd:(x==("__classdict__":Str))=false:=by decide):PE X (.Name x pos) (tVar i):=gR hN hv hd hcd
end
noncomputable def Same (H H':Hp):Prop:= ∀b o,H b=some o->H' b=some o
theorem Same.refl (H:Hp):Same H H:=fun _ _ h=>h
theorem Same.trans {H H1 H2:Hp} (a:Same H H1) (b:Same H1 H2):Same H H2:=fun c o h=>b c o (a c o h)
theorem Same.free {H H':Hp} (e:Same H H') {l:Addr} (h:H' l=Option.none):H l=Option.none:=by
 cases q:H l with
 |none=>rfl
 |some o=>
  rw [e l o q] at h
  cases h
section
variable {κ:Type} [DecidableEq κ]
end
end L2
set_option maxHeartbeats 4000000
namespace L2
open PySem PySem.Spec PyProof.Rows
noncomputable def pull (ρ:List (Option Nat)) (σ:St):St:=ρ.map fun o=>match o with
 |none=>none
 |some j=>(σ[j]?).getD none
theorem nG {ρ:List (Option Nat)}{σ:St}{i:Nat}{v:V} (h:(pull ρ σ)[i]?=some (some v)): ∃j,ρ[i]?=some (some j)/\σ[j]?=some (some v):=by
 unfold pull at h
 rw [List.getElem?_map] at h
 cases e:ρ[i]? with
 |none=>rw [e] at h;cases h
 |some o=>
  rw [e] at h
  cases o with
  |none=>cases h
  |some j=>
   refine ⟨j,rfl,?_⟩
   have h':(σ[j]?).getD none=some v:=Option.some.inj h
   cases q:σ[j]? with
   |none=>rw [q] at h';cases h'
   |some z=>rw [q] at h';exact congrArg some h'
noncomputable def bp (scope:Scope) (env:Env):List (Str×Addr):=scope.names.foldl (fun cs x=>if x.2= .free then (x.1,(env.cells.lookup x.1).getD 0)::cs else cs) []
theorem iD {env:Env}: ∀{names:List (Str×NameKind)}{cs:List (Str×Addr)},(∀x∈names,x.2= .free-> ∃c,env.cells.lookup x.1=some c)->
  (forIn names cs fun (x:Str×NameKind) (r:List (Str×Addr))=>(match x with
   |(name,kind)=>if (kind== .free)=true then do
     let a<-cellOf env name
     pure (ForInStep.yield ((name,a)::r))
    else pure (ForInStep.yield r):Sem (ForInStep (List (Str×Addr)))))=pure (names.foldl (fun cs x=>if x.2= .free then (x.1,(env.cells.lookup x.1).getD 0)::cs else cs) cs)
 |[],cs,_=>rfl
 |(n,k)::r,cs,h=>by
  rw [List.forIn_cons,List.foldl_cons]
  have ih:=fun cs=>iD (names:=r) (cs:=cs) fun x hx=>h x (List.mem_cons_of_mem _ hx)
  by_cases hk:k= .free
  ·subst hk
   obtain ⟨c,e⟩:=h (n,.free) List.mem_cons_self rfl
   have e':env.cells.lookup n=some c:=e
   simp only [beq_self_eq_true,if_true,cellOf,e',pure_bind,Option.getD_some]
   exact ih _
  ·have hb:(k==NameKind.free)=false:=by simpa using hk
   simp only [hb,Bool.false_eq_true,if_false,hk,pure_bind]
   exact ih _
theorem iE {scope:Scope}{env:Env} (h: ∀x∈scope.names,x.2= .free-> ∃c,env.cells.lookup x.1=some c):closureFor scope env=pure (bp scope env):=by
 unfold closureFor bp
 have q:=iD (cs:=[]) h
 simp only [] at q|-
 rw [q]
 rfl
theorem fK {env:Env}: ∀{names:List (Str×NameKind)}{cs:List (Str×Addr)},(∀x∈names,x.2= .free-> ∃c,env.cells.lookup x.1=some c)->(∀p∈cs,env.cells.lookup p.1=some p.2)->
  ∀p∈names.foldl (fun cs x=>if x.2= .free then (x.1,(env.cells.lookup x.1).getD 0)::cs else cs) cs,env.cells.lookup p.1=some p.2
 |[],_,_,hc=>hc
 |(n,k)::r,cs,h,hc=>by
  rw [List.foldl_cons]
  refine fK (names:=r) (fun x hx=>h x (List.mem_cons_of_mem _ hx)) ?_
  by_cases hk:k= .free
  ·subst hk
   obtain ⟨c,e⟩:=h (n,.free) List.mem_cons_self rfl
   have e':env.cells.lookup n=some c:=e
   rw [if_pos rfl]
   intro p hp
   rcases List.mem_cons.mp hp with z|z
   ·subst z
    show env.cells.lookup n=some ((env.cells.lookup n).getD 0)
    rw [e']
    all_goals rfl
   ·exact hc p z
  ·rw [if_neg hk]
   exact hc
theorem iF {env:Env}{x:Str}: ∀{names:List (Str×NameKind)}{cs:List (Str×Addr)},((x,NameKind.free)∈names \/ ∃c,(x,c)∈cs)->
  ∃c,(x,c)∈names.foldl (fun cs x=>if x.2= .free then (x.1,(env.cells.lookup x.1).getD 0)::cs else cs) cs
 |[],cs,h=>h.elim (fun z=>nomatch z) fun z=>z
 |(n,k)::r,cs,h=>by
  rw [List.foldl_cons]
  refine iF (names:=r) ?_
  rcases h with h|⟨c,h⟩
  ·rcases List.mem_cons.mp h with z|z
   ·cases z
    rw [if_pos rfl]
    exact .inr ⟨_,List.mem_cons_self⟩
   ·exact .inl z
  ·right
   by_cases hk:k= .free
   ·rw [if_pos hk];exact ⟨c,List.mem_cons_of_mem _ h⟩
   ·rw [if_neg hk];exact ⟨c,h⟩
theorem iG {α:Type}: ∀{l:List (Str×α)}{x:Str}{c:α},(x,c)∈l-> ∃d,l.lookup x=some d
 |[],_,_,h=>nomatch h
 |(n,a)::r,x,c,h=>by
  rw [List.lookup_cons]
  cases hx:x==n with
  |true=>exact ⟨a,rfl⟩
  |false=>
   rcases List.mem_cons.mp h with z|z
   ·injection z with z1 z2
    rw [z1] at hx
    simp at hx
   ·exact iG z
theorem iH {scope:Scope}{env:Env}{x:Str} (h: ∀x∈scope.names,x.2= .free-> ∃c,env.cells.lookup x.1=some c) (hx:scope.names.lookup x=some .free): ∃c,(bp scope env).lookup x=some c/\env.cells.lookup x=some c:=by
 obtain ⟨c,hc⟩:=iF (env:=env) (cs:=[]) (.inl (PySem.mem_of_lookup hx))
 obtain ⟨d,hd⟩:=iG hc
 exact ⟨d,hd,fK (cs:=[]) h (fun p hp=>absurd hp (List.not_mem_nil)) _ (PySem.mem_of_lookup hd)⟩
theorem bV {scope:Scope}{env:Env}{x:Str}{c:Addr} (h: ∀x∈scope.names,x.2= .free-> ∃c,env.cells.lookup x.1=some c) (e:(bp scope env).lookup x=some c):env.cells.lookup x=some c:=
 fK (cs:=[]) h (fun p hp=>absurd hp (List.not_mem_nil)) _ (PySem.mem_of_lookup e)
theorem iI {f:Str×NameKind->NameKind}{x:Str}: ∀{names:List (Str×NameKind)},(names.map fun y=>(y.1,f y)).lookup x=(names.lookup x).map fun k=>f (x,k)
 |[]=>rfl
 |(n,k)::r=>by
  rw [List.map_cons,List.lookup_cons,List.lookup_cons]
  cases hx:x==n with
  |true=>
   have e:x=n:=by simpa using hx
   subst e
   rfl
  |false=>exact iI
theorem iJ {env:Env}{names:List (Str×NameKind)}{x:Str}:(names.map fun (n,k)=>if (k==NameKind.free&&env.scope.kind== .function&&env.kindOf n==some .cell) then (n,NameKind.cell) else (n,k)).lookup x=
  (names.lookup x).map fun k=>if (k==NameKind.free&&env.scope.kind== .function&&env.kindOf x==some .cell) then NameKind.cell else k:=by
 have e:(fun (y:Str×NameKind)=>match y with|(n,k)=>if (k==NameKind.free&&env.scope.kind== .function&&env.kindOf n==some .cell) then (n,NameKind.cell) else (n,k))=
   fun y=>(y.1,if (y.2==NameKind.free&&env.scope.kind== .function&&env.kindOf y.1==some .cell) then NameKind.cell else y.2):=by
  funext ⟨n,k⟩
  dsimp only
  split<;>rfl
 rw [e]
 exact iI
theorem nH {env:Env}{names:List (Str×NameKind)}{x:Str} (h:names.lookup x=some .free):
  (names.map fun (n,k)=>if (k==NameKind.free&&env.scope.kind== .function&&env.kindOf n==some .cell) then (n,NameKind.cell) else (n,k)).lookup x=some .cell \/
  (names.map fun (n,k)=>if (k==NameKind.free&&env.scope.kind== .function&&env.kindOf n==some .cell) then (n,NameKind.cell) else (n,k)).lookup x=some .free:=by
 rw [iJ,h,Option.map_some]
 split
 ·exact .inl rfl
 ·exact .inr rfl
theorem relabel_of {env:Env}{names:List (Str×NameKind)}{x:Str}
  (h:(names.map fun (n,k)=>if (k==NameKind.free&&env.scope.kind== .function&&env.kindOf n==some .cell) then (n,NameKind.cell) else (n,k)).lookup x=some .cell \/
  (names.map fun (n,k)=>if (k==NameKind.free&&env.scope.kind== .function&&env.kindOf n==some .cell) then (n,NameKind.cell) else (n,k)).lookup x=some .free):names.lookup x=some .cell \/names.lookup x=some .free:=by
 rw [iJ] at h
 cases e:names.lookup x with
 |none=>rw [e] at h;rcases h with h|h<;>cases h
 |some k=>
  rw [e,Option.map_some] at h
  by_cases hk:k= .free
  ·rw [hk];exact .inr rfl
  ·have hb:(k==NameKind.free)=false:=by simpa using hk
   rw [hb] at h
   simp only [Bool.false_and,Bool.false_eq_true,if_false] at h
   exact h
theorem cW: ∀(names:List (Str×NameKind)) (n:Nat) (acc:List (Str×Addr)),cellsFrom n names acc=cellsFrom n names []++acc
 |[],_,_=>rfl
 |(y,k)::r,n,acc=>by
  unfold cellsFrom
  split
  ·rw [cW r (n+1) ((y,n)::acc),cW r (n+1) [(y,n)],List.append_assoc]
   rfl
  ·exact cW r n acc
theorem cf_mem {x:Str}{c:Addr}: ∀(names:List (Str×NameKind)) (n:Nat) (acc:List (Str×Addr)),(x,c)∈cellsFrom n names acc->((x,NameKind.cell)∈names/\n<=c) \/(x,c)∈acc
 |[],_,_,h=> .inr h
 |(y,k)::r,n,acc,h=>by
  unfold cellsFrom at h
  split at h
  ·next hk=>
   have ek:k= .cell:=by simpa using hk
   rcases cf_mem r (n+1) _ h with ⟨h1,h2⟩|h1
   ·exact .inl ⟨List.mem_cons_of_mem _ h1,by lia⟩
   ·rcases List.mem_cons.mp h1 with z|z
    ·cases z
     exact .inl ⟨by rw [ek];exact List.mem_cons_self,Nat.le_refl _⟩
    ·exact .inr z
  ·rcases cf_mem r n acc h with ⟨h1,h2⟩|h1
   ·exact .inl ⟨List.mem_cons_of_mem _ h1,h2⟩
   ·exact .inr h1
theorem eM {x:Str}: ∀{a b:List (Str×Addr)},(a++b).lookup x=(a.lookup x).or (b.lookup x)
 |[],_=>rfl
 |(y,c)::r,b=>by
  rw [List.cons_append,List.lookup_cons,List.lookup_cons]
  cases x==y with
  |true=>rfl
  |false=>exact eM
theorem cf_look {names:List (Str×NameKind)}{n:Nat}{acc:List (Str×Addr)}{x:Str}{c:Addr} (h:(cellsFrom n names acc).lookup x=some c):
  ((x,NameKind.cell)∈names/\n<=c/\(x,c)∈cellsFrom n names []) \/acc.lookup x=some c:=by
 rw [cW,eM] at h
 cases e:(cellsFrom n names []).lookup x with
 |some d=>
  rw [e] at h
  cases h
  have m:=PySem.mem_of_lookup e
  rcases cf_mem _ _ _ m with ⟨h1,h2⟩|z
  ·exact .inl ⟨h1,h2,m⟩
  ·exact nomatch z
 |none=>rw [e] at h;exact .inr h
theorem nI {names:List (Str×NameKind)}{n:Nat}{acc:List (Str×Addr)}{x:Str}{c:Addr} (nc:(x,NameKind.cell)∉names) (h:acc.lookup x=some c):(cellsFrom n names acc).lookup x=some c:=by
 rw [cW,eM]
 cases e:(cellsFrom n names []).lookup x with
 |some d=>
  rcases cf_mem _ _ _ (PySem.mem_of_lookup e) with ⟨h1,_⟩|z
  ·exact absurd h1 nc
  ·exact nomatch z
 |none=>exact h
theorem iK {M:Model}{A:Around}{E:Value->Shared->Prop}{s:Shared}{scope:Scope}{globals:Addr}{cl:List (Str×Addr)}{qual:Str}{env:Env}{builtins:Addr}{Q:Env->Shared->Prop}
  (hQ: ∀h',h'.Ns s.heap.objs.size (fun _=>none)->(∀b o,s.heap.get? b=some o->h'.get? b=some o)->(∀n c,(n,c)∈cellsFrom (s.heap.objs.size+1) scope.names []->h'.IsCell c none)->((cellsFrom (s.heap.objs.size+1) scope.names []).Pairwise fun x y=>x.2≠y.2)->
   Q (newEnv scope s.heap.objs.size globals (cellsFrom (s.heap.objs.size+1) scope.names cl) qual none .none (some env) builtins) {s with heap:=h'}):
  wpAny M A (newFunctionEnv scope globals cl [] qual none .none (some env) builtins) Q E s:=by
 simp only [newFunctionEnv,Option.isSome_some,if_true]
 refine wpAny_bind (wpAny_alloc ?_)
 refine wpAny_bind (wpAny_layCells _ (fun name kind cells=>by cases hkc:kind==NameKind.cell<;>simp [hkc]) _ _ _ _ ?_)
 have ok:=cellsFrom_ok scope.names (s.heap.push {cls:= .type "dict",data:= .dict #[]}) (s.heap.objs.size+1) [] ⟨fun _ _ hm=>(nomatch hm),List.Pairwise.nil⟩ (by rw [Heap.size_push];exact Nat.le_refl _)
 rw [Heap.size_push] at ok
 rw [show ({s with heap:=s.heap.push {cls:= .type "dict",data:= .dict #[]}}:Shared).heap.objs.size=s.heap.objs.size+1 from Heap.size_push ..]
 rw [List.forIn_nil]
 refine wpAny_bind (wpAny_pure (wpAny_pure ?_))
 exact hQ _ ((Heap.Ns.new s.heap (.type "dict")).keeps (pushCells_keeps _ _)) (fun b o e=>pushCells_keeps _ _ b o (Heap.get?_push_of_some _ e)) (fun n c hm=>(ok.empty n c hm).1) ok.apart
noncomputable def cz (sc osc:Scope) (N N':List Str) (ρ:List (Option Nat)):Bool:=
 decide (sc.kind= .function)&&decide (N'.length=ρ.length)&&
 sc.names.all (fun y=>(decide (y.2≠ .cell)||decide (sc.names.lookup y.1=some .cell))&&(decide (y.2≠ .local)||decide (sc.names.lookup y.1=some .local))&&(decide (y.2≠ .free)||(decide (osc.names.lookup y.1=some .cell)||decide (osc.names.lookup y.1=some .free))))&&
 (N'.zip ρ).all (fun p=>match p.2 with
  |none=>true
  |some j=>decide (N[j]?=some p.1)&&decide (sc.names.lookup p.1=some .free))
structure d4 (sc osc:Scope) (N N':List Str) (ρ:List (Option Nat)):Prop where
 kind:sc.kind= .function
 len:N'.length=ρ.length
 cell: ∀y∈sc.names,y.2= .cell->sc.names.lookup y.1=some .cell
 loc: ∀y∈sc.names,y.2= .local->sc.names.lookup y.1=some .local
 free: ∀y∈sc.names,y.2= .free->osc.names.lookup y.1=some .cell \/osc.names.lookup y.1=some .free
 from_: ∀(i j:Nat) (x:Str),N'[i]?=some x->ρ[i]?=some (some j)->N[j]?=some x/\sc.names.lookup x=some .free
theorem fL {sc osc:Scope}{N N':List Str}{ρ:List (Option Nat)} (h:cz sc osc N N' ρ=true):d4 sc osc N N' ρ:=by
 unfold cz at h
 rw [Bool.and_eq_true,Bool.and_eq_true,Bool.and_eq_true] at h
 obtain ⟨⟨⟨h1,h2⟩,h3⟩,h4⟩:=h
 have h3':=List.all_eq_true.mp h3
 have h4':=List.all_eq_true.mp h4
 refine ⟨of_decide_eq_true h1,of_decide_eq_true h2,fun y hy e=> ?_,fun y hy e=> ?_,fun y hy e=> ?_,fun i j x e1 e2=> ?_⟩
 ·have q:=h3' y hy
  rw [Bool.and_eq_true,Bool.and_eq_true,Bool.or_eq_true] at q
  rcases q.1.1 with z|z
  ·exact absurd e (of_decide_eq_true z)
  ·exact of_decide_eq_true z
 ·have q:=h3' y hy
  rw [Bool.and_eq_true,Bool.and_eq_true,Bool.or_eq_true,Bool.or_eq_true] at q
  rcases q.1.2 with z|z
  ·exact absurd e (of_decide_eq_true z)
  ·exact of_decide_eq_true z
 ·have q:=h3' y hy
  rw [Bool.and_eq_true,Bool.or_eq_true,Bool.or_eq_true] at q
  rcases q.2 with z|z|z
  ·exact absurd e (of_decide_eq_true z)
  ·exact .inl (of_decide_eq_true z)
  ·exact .inr (of_decide_eq_true z)
 ·have hm:(x,some j)∈N'.zip ρ:=by
   refine List.mem_of_getElem? (i:=i) ?_
   rw [List.getElem?_zip_eq_some]
   exact ⟨e1,e2⟩
  have q:=h4' _ hm
  rw [Bool.and_eq_true] at q
  exact ⟨of_decide_eq_true q.1,of_decide_eq_true q.2⟩
noncomputable def ag (X:Cx) (scope:Scope) (N':List Str) (C:Addr) (s:Shared) (H:Hp) (fp:List Addr):Cx where
 prog:=X.prog
 w:=X.w
 K:=X.K
 mg:=X.mg
 base:=X.base
 A:=X.A
 N:=N'
 s₀:=s
 H₀:=H
 env:=compEnvC scope (cellsFrom (C+1) scope.names (bp scope X.env)) C X.env
 outer:=X.stack
 stack:=X.stack
 ex:=fp
 fn:=fun x=>scope.names.lookup x==some .cell
 calm:=X.calm
 pn:=[]
 xe:=fun _ _=>False
section
variable {X:Cx}{pins:List (Addr×Obj)}{σ:St}{H:Hp}{s:Shared}{scope:Scope}{N':List Str}{ρ:List (Option Nat)}
theorem Inv.cells_of (I:Inv X pins σ H s) (ck:d4 scope X.env.scope X.N N' ρ): ∀x∈scope.names,x.2= .free-> ∃c,X.env.cells.lookup x.1=some c:=fun x hx e=>I.ok.has x.1 (ck.free x hx e)
theorem nJ (I:Inv X pins σ H s) {fp:List Addr} (hf: ∀b∈fp,FpOk X pins H b) {b:Addr}{o:Obj} (e:X.base.get? b=some o):b∉fp:=fun hb=>by
 obtain ⟨_,_,_,h,_⟩:=hf b hb
 rcases h with h|h
 ·exact I.ok.noex b o e h
 ·exact absurd (Nat.lt_of_lt_of_le (Heap.lt_size (I.ok.bs b o e).1) h) (Nat.lt_irrefl _)
theorem fM (I:Inv X pins σ H s) {fp:List Addr} (hf: ∀b∈fp,FpOk X pins H b) {b:Addr} (hb:b∈fp):b∉frs X.stack:=fun h=>by
 obtain ⟨_,n1,n2,_⟩:=hf b hb
 rcases List.mem_cons.mp (I.stkSub b h) with z|z
 ·exact n1 z
 ·exact n2 z
theorem Inv.block (I:Inv X pins σ H s) (ck:d4 scope X.env.scope X.N N' ρ) {fp:List Addr} (hf: ∀b∈fp,FpOk X pins H b) (hfo: ∀b∈fp,∃o,s.heap.get? b=some o)
  {C l:Addr}{lo:Obj}{h':Heap}{t':Nat} (hk: ∀b o,s.heap.get? b=some o->h'.get? b=some o) (hC:s.heap.objs.size<=C) (hn:h'.Ns C fun _=>none) (hcl: ∀n c,(n,c)∈cellsFrom (C+1) scope.names []->h'.IsCell c none) (hap:(cellsFrom (C+1) scope.names []).Pairwise fun x y=>x.2≠y.2)
  (hl:s.heap.objs.size<=l) (hlC:l≠C) (hlo:h'.get? l=some lo) (hld: ∀v,lo.data≠ .cell v):Inv (ag X scope N' C s H fp) [(l,lo)] (pull ρ σ) H {s with heap:=h',toks:=t'}:=by
 have hfr:=I.cells_of ck
 have young: ∀{b:Addr}{o:Obj},s.heap.get? b=some o-> ∀{a:Addr},s.heap.objs.size<=a->b≠a:=fun e _ ha z=>by
  subst z
  exact absurd (Nat.lt_of_lt_of_le (Heap.lt_size e) ha) (Nat.lt_irrefl _)
 have cold: ∀{x:Str}{c:Addr},(bp scope X.env).lookup x=some c->c<s.heap.objs.size:=fun {x c} e=>by
  obtain ⟨v,o,ho,_⟩:=I.cell x c (bV hfr e)
  exact Heap.lt_size ho
 refine ⟨⟨I.ok.mod,ck.kind,I.ok.glob,I.ok.blt,hC,fun x y c h1 h2=> ?_,fun x hx=> ?_,fun x c hfn h=> ?_,I.ok.hd,I.ok.frames,.inl rfl,fun b hb=>⟨?_,fun x c e=> ?_⟩,I.bs,Nat.le_trans I.ok.bsz I.sz,fun b o e=>nJ I hf e,
  fun b hb=>fM I hf hb,I.stack,I.stkFree⟩,rfl,I.bare,Un.kept hk,⟨_,hn,fun i x v e1 e2 e3=> ?_⟩,fun x c e=> ?_,I.hok.fresh hC,fun x c e=> ?_,fun p hp=> ?_,I.hok.kept hk,?_⟩
 ·rcases cf_look h1 with ⟨_,g1,m1⟩|h1<;>rcases cf_look h2 with ⟨_,g2,m2⟩|h2
  ·exact PySem.name_of_addr hap m1 m2
  ·exact absurd (Nat.lt_of_lt_of_le (Nat.lt_of_lt_of_le (cold h2) hC) (Nat.le_of_succ_le g1)) (Nat.lt_irrefl _)
  ·exact absurd (Nat.lt_of_lt_of_le (Nat.lt_of_lt_of_le (cold h1) hC) (Nat.le_of_succ_le g2)) (Nat.lt_irrefl _)
  ·exact I.ok.inj x y c (bV hfr h1) (bV hfr h2)
 ·rcases relabel_of hx with hx|hx
  ·exact Option.isSome_iff_exists.mp (PySem.W.cellsFrom_some scope.names (C+1) (bp scope X.env) (.inl hx))
  ·obtain ⟨c,e,_⟩:=iH hfr hx
   exact Option.isSome_iff_exists.mp (PySem.W.cellsFrom_some scope.names (C+1) (bp scope X.env) (.inr (by rw [e];rfl)))
 ·have hfn':scope.names.lookup x=some .cell:=by
   have q:(scope.names.lookup x==some NameKind.cell)=true:=hfn
   simpa using q
  have hh:(cellsFrom (C+1) scope.names (bp scope X.env)).lookup x=some c:=h
  obtain ⟨d,hd⟩:=Option.isSome_iff_exists.mp (PySem.W.cellsFrom_some scope.names (C+1) [] (.inl hfn'))
  rw [cW,eM,hd] at hh
  cases hh
  rcases cf_mem _ _ _ (PySem.mem_of_lookup hd) with ⟨_,g⟩|z
  ·exact Nat.le_trans hC (Nat.le_of_succ_le g)
  ·exact nomatch z
 ·obtain ⟨o,e⟩:=hfo b hb
  exact young e hC
 ·rcases cf_look e with ⟨_,g,_⟩|e
  ·obtain ⟨o,eo⟩:=hfo b hb
   exact Ne.symm (young eo (by lia))
  ·exact (hf b hb).2.2.2.2.1 x c (bV hfr e)
 ·obtain ⟨j,r1,r2⟩:=nG e2
  obtain ⟨n1,n2⟩:=ck.from_ i j x e1 r1
  obtain ⟨m,hm,hl'⟩:=I.loc
  have kd:=ck.free _ (PySem.mem_of_lookup n2) rfl
  obtain ⟨u,r,lk⟩:=hl' j x v n1 r2 (.inr kd)
  refine ⟨u,r,.inr ⟨nH n2,?_⟩⟩
  obtain ⟨c,c1,c2⟩:=iH hfr n2
  refine ⟨c,nI (fun z=>by have:=ck.cell _ z rfl;rw [n2] at this;cases this) c1,?_⟩
  rcases lk with ⟨k,_⟩|⟨_,c',e',⟨o,ho,hd⟩⟩
  ·rcases kd with kd|kd
   ·have k':X.env.scope.names.lookup x=some .local:=k
    rw [show X.env.scope.names.lookup x=some .cell from kd] at k';cases k'
   ·have k':X.env.scope.names.lookup x=some .local:=k
    rw [show X.env.scope.names.lookup x=some .free from kd] at k';cases k'
  ·rw [c2] at e';cases e'
   exact ⟨o,hk _ o ho,hd⟩
 ·rcases cf_look e with ⟨_,_,m⟩|e
  ·exact ⟨none,hcl x c m⟩
  ·obtain ⟨v,o,ho,hd⟩:=I.cell x c (bV hfr e)
   exact ⟨v,o,hk _ o ho,hd⟩
 ·rcases cf_look e with ⟨_,g,_⟩|e
  ·exact I.hok.fresh (by lia)
  ·exact I.freeC x c (bV hfr e)
 ·have hp':p∈[(l,lo)]:=hp
  rcases List.mem_cons.mp hp' with z|z
  ·subst z
   refine ⟨hlo,I.hok.fresh hl,hlC,fun z=> ?_,hld⟩
   have z':l∈frs X.stack:=z
   rcases List.mem_cons.mp (I.stkSub l z') with q|q
   ·exact absurd (Nat.lt_of_lt_of_le (q▸I.lt) hl) (Nat.lt_irrefl _)
   ·exact I.nofs hl q
  ·exact nomatch z
 ·show (pull ρ σ).length=N'.length
  unfold pull
  rw [List.length_map,ck.len]
theorem Inv.unblock {s':Shared}{fp:List Addr}{C l:Addr}{σc:St}{Hc:Hp}{acc:List V}{its:List Value}{n:Nat} (I:Inv X pins σ H s) (hf: ∀b∈fp,FpOk X pins H b)
  (hC:s.heap.objs.size<=C) (hl:s.heap.objs.size<=l) (J:Inv (ag X scope N' C s H fp) [(l,{cls:= .type "list",data:= .seq its.toArray n})] σc Hc s') (r:Vals acc its) (hz:acc.length<=sizeLine):
  Hc l=none/\Inv X pins σ (upd Hc l (.lst acc)) s':=by
 obtain ⟨hlo,hln,hlC,hlf,_⟩:=J.pin (l,{cls:= .type "list",data:= .seq its.toArray n}) (List.mem_append_right _ List.mem_cons_self)
 have hln:Hc l=none:=hln
 have hlo:s'.heap.get? l=some {cls:= .type "list",data:= .seq its.toArray n}:=hlo
 refine ⟨hln,?_⟩
 have hb:=J.base
 have young: ∀{b:Addr}{o:Obj},s.heap.get? b=some o->b≠l:=fun e z=>by
  subst z
  exact absurd (Nat.lt_of_lt_of_le (Heap.lt_size e) hl) (Nat.lt_irrefl _)
 refine I.call' (ch:=fp) J.os ⟨fun b o e n h1 h2=>hb.keep b o e n h1 h2,fun b o e n h1 h2=>hb.slot b o e n h1 h2,fun b o e n h2=> ?_,fun b o e h2=>hb.there b o e h2,fun b xs e=> ?_,fun b o u e=> ?_,fun b ps e=> ?_⟩ ?_ J.bare fun b hb'=> ?_
 ·rw [al (young e)]
  exact hb.free b o e n h2
 ·have q:=hb.tups b xs e
  rw [al (aY q hln)]
  exact q
 ·have q:=hb.frzs b o u e
  rw [al (aY q hln)]
  exact q
 ·have q:=hb.tbls b ps e
  rw [al (aY q hln)]
  exact q
 ·intro a o e
  by_cases ha:a=l
  ·subst ha
   rw [ax] at e
   cases e
   exact ⟨hz,its,n,r,hlo⟩
  ·rw [al ha] at e
   exact (J.hok a o e).stay (fun _ _ _ q=>q) (fun c q=>by rw [al (aY q hln)];exact q) (fun c xs q=>by rw [al (aY q hln)];exact q) fun c _ _ _ q=>by rw [al (aY q hln)];exact q
 ·obtain ⟨f0,f1,f2,f3,f4,f5⟩:=hf b hb'
  exact ⟨f3,f1,f4,f5⟩
end
section
variable {prog:Program}{w:World}{A:Around}{R:Result->Shared->Prop}{s:Shared}
noncomputable abbrev X0:Value->Shared->Prop:=fun _ _=>False
theorem fN {α:Type}{t:Sem α}{M:Model}{Q:α->Shared->Prop}{E:Value->Shared->Prop} (h:wpAny M A t Q X0 s):wpAny M A t Q E s:=wpAny_mono h (fun _ _ q=>q) fun _ _ z=>False.elim z
theorem iM {l:Addr}{its:List Value}{k:Nat}{y:Value}{E:Value->Shared->Prop}{Q:Value->Shared->Prop} (hl:s.heap.get? l=some {cls:= .type "list",data:= .seq its.toArray k}) (hz:its.length<=sizeLine)
  (h: ∀h' k',h'.get? l=some {cls:= .type "list",data:= .seq (its++[y]).toArray k'}->(∀b o,b≠l->s.heap.get? b=some o->h'.get? b=some o)->Q .none {s with heap:=h'}):
  wpAny (model prog w) A (call (.builtin "list.append") [.ref l,y]) Q E s:=by
 refine wpAny_list_append_plain ⟨k,hl⟩ (fun h' hp sb=> ?_) (by rw [List.size_toArray];exact hz)
 obtain ⟨k',e⟩:=hp
 refine h h' k' ?_ fun b o hb q=>(sb.2 b hb).trans q
 rw [e]
 simp
theorem nK {elt target iter:Expr}{ifs:List Expr}{scope:Scope}{pos:Pos}{it acc:Value}{env:Env} (I:Nat->Shared->Prop)
  (turn: ∀n s,I n s->wpAny (model prog w) A (pyNext it) (fun r s₁=>match r with
   |none=>R (.ok .next) s₁
   |some v=>wpAny (model prog w) A (letOwnedTupleGo target it v) (fun _ s₁'=>wpAny (model prog w) A (assign target env v) (fun _ s₂=>
     wpAny (model prog w) A (forIn ifs true fun c r=>if r=true then do let ok<-isTrue c env (eval c env);pure (ForInStep.yield ok) else pure (ForInStep.yield r)) (fun ok s₃=>
      if ok=true then wpAny (model prog w) A (eval elt env) (fun x s₄=>
       wpAny (model prog w) A (call (.builtin "list.append") [acc,x]) (fun _ s₅=> ∃m,m<n/\I m s₅) X0 s₄) X0 s₃
      else∃m,m<n/\I m s₃) X0 s₂) X0 s₁') X0 s₁) X0 s)
  (n:Nat) (h:I n s):codeAny (model prog w) A (.compLoop (.ListComp elt [⟨target,iter,ifs,0⟩] scope pos) 0 it acc env) R s:=by
 refine codeAny_loop rfl I (fun n s hI=> ?_) n h
 show wpAny _ A ((compTurn (.ListComp elt [⟨target,iter,ifs,0⟩] scope pos) 0 it acc env).onRaise (fun x=>do noteFrame x env;theTreesLotGoes x)) _ _ s
 refine wpAny_noted ?_
 rw [compTurn_list]
 refine wpAny_bind (wpAny_standAt (wpAny_bind (fN (wpAny_mono (turn n s hI) (fun r s₁ h₁=> ?_) fun _ _ h'=>False.elim h'))))
 cases r with
 |none=>exact wpAny_pure h₁
 |some v=>
  refine wpAny_bind (wpAny_mono h₁ (fun _ s₁' h₁'=> ?_) fun _ _ h'=>False.elim h')
  refine wpAny_bind (wpAny_mono h₁' (fun _ s₂ h₂=>wpAny_bind (wpAny_mono h₂ (fun ok s₃ h₃=> ?_) fun _ _ h'=>False.elim h')) fun _ _ h'=>False.elim h')
  cases ok with
  |false=>exact wpAny_pure ⟨rfl,h₃⟩
  |true=>
   exact wpAny_bind (wpAny_bind (wpAny_mono h₃ (fun x s₄ h₄=>wpAny_bind (wpAny_mono h₄ (fun _ s₅ h₅=>wpAny_pure (wpAny_pure ⟨rfl,h₅⟩)) fun _ _ h'=>False.elim h')) fun _ _ h'=>False.elim h'))
end
noncomputable def PTs (X:Cx) (ifs:List Expr) (t:TT):Prop:=
 ∀(pins:List (Addr×Obj)) (s:Shared) (σ:St) (H:Hp) (Q:Bool->Hp->Prop),Inv X pins σ H s->t σ H Q->
  wpAny (model X.prog X.w) X.A (forIn ifs true fun c r=>if r=true then do let ok<-isTrue c X.env (eval c X.env);pure (ForInStep.yield ok) else pure (ForInStep.yield r)) (TP X pins σ Q) X.xe s
noncomputable def tYes:TT:=fun _ H Q=>Q true H
theorem nM {X:Cx}:PTs X [] tYes:=fun _ _ _ H _ I h=>wpAny_tests_nil ⟨H,I,h⟩
noncomputable def eN (ρ:List (Option Nat)) (wi:TI) (g:TG) (tt:TT) (te:TE):TE:=fun σ H Q=>wi σ H fun J H1=> ∃W:Nat->Nat->List V->St->Hp->Prop,(∃m,W 0 m [] (pull ρ σ) H1)/\ ∀i m acc σc Hc,W i m acc σc Hc->
 (J.stop i Hc/\acc.length<=sizeLine/\ ∀l,Hc l=none->Q (.ref l) (upd Hc l (.lst acc))) \/
 (J.go i Hc/\acc.length<sizeLine/\ ∃N:List V->St->Hp->Prop,(∀acc' σ' H',N acc' σ' H'-> ∃m',m'<m/\W (i+1) m' acc' σ' H')/\
  ∀x H',J.yld i Hc x H'->g x σc H' fun σ2 H2=>tt σ2 H2 fun b H3=>if b=true then te σ2 H3 fun v H4=>N (acc++[v]) σ2 H4 else N acc σ2 H3)
section
variable {X:Cx}{scope:Scope}{N':List Str}{ρ:List (Option Nat)}{tg iter elt:Expr}{ifs:List Expr}{pos:Pos}{wi:TI}{g:TG}{tt:TT}{te:TE}
theorem iN {use:Option (Value->Sem Unit)}{pins:List (Addr×Obj)}{s:Shared}{σ:St}{H:Hp}{Q:VK}{QQ:Value->Shared->Prop} (hc:X.calm=true) (hi:PI X tg iter wi)
  (hg: ∀C s H fp,PG (ag X scope N' C s H fp) tg g) (ht: ∀C s H fp,PTs (ag X scope N' C s H fp) ifs tt) (he: ∀C s H fp,PE (ag X scope N' C s H fp) elt te)
  (ck:d4 scope X.env.scope X.N N' ρ) (hs: ∀x,foldedSetIterable iter X.env x=pure x) (I:Inv X pins σ H s) (h:eN ρ wi g tt te σ H Q)
  (post: ∀(l C:Addr) (m:Str->Option Value) (H':Hp) (s':Shared),Inv X pins σ H' s'->Q (.ref l) H'->s'.heap.Ns C m->H' C=none->C≠X.env.locals->(X.s₀.heap.objs.size<=C)->(∀x c,X.env.cells.lookup x=some c->c≠C)->(∀p∈X.pn++pins,p.1≠C)->
   compPost (model X.prog X.w) X.A X.xe use QQ (.ref l) C (.ok .next) s'):
  wpAny (model X.prog X.w) X.A (comprehension (.ListComp elt [⟨tg,iter,ifs,0⟩] scope pos) scope X.env (firstIterPos [⟨tg,iter,ifs,0⟩] pos) (newList []) false (eval iter X.env) use) QQ X.xe s:=by
 have hfr:=I.cells_of ck
 refine wpAny_comprehension_free rfl hs (iE hfr) ck.kind ck.loc ?_
 refine thn (hi pins s σ H _ I h) fun v s1 h1=>thn h1 fun itv s2 h2=> ?_
 obtain ⟨it,fp,tn,J,H2,e,I2,T,st2,f2,W,⟨m0,w0⟩,turn⟩:=h2
 subst e
 refine wpAny_newObj_type (iK fun h₁ hns₁ hsb₁ hcl₁ hap₁=> ?_)
 dsimp only at hns₁ hsb₁ hcl₁ hap₁|-
 generalize hH2:s2.heap.push {cls:= .type "list",dict:=none,data:= .seq ([]:List Value).toArray}=G2 at hns₁ hsb₁ hcl₁ hap₁|-
 have hCs:G2.objs.size=s2.heap.objs.size+1:=by rw [<-hH2,Heap.size_push]
 have hlC:s2.heap.objs.size≠G2.objs.size:=by rw [hCs];exact Nat.ne_of_lt (Nat.lt_succ_self _)
 have hC:s2.heap.objs.size<=G2.objs.size:=by rw [hCs];exact Nat.le_succ _
 have old: ∀b o,s2.heap.get? b=some o->h₁.get? b=some o:=fun b o e=>hsb₁ b o (hH2▸Heap.get?_push_of_some _ e)
 have hlo:h₁.get? s2.heap.objs.size=some {cls:= .type "list",data:= .seq ([]:List Value).toArray}:=hsb₁ _ _ (hH2▸Heap.get?_push_size _ rfl)
 have hfo: ∀b∈fp,∃o,s2.heap.get? b=some o:=fun b hb=>let ⟨o,e,_⟩:=T.obj _ _ st2 b hb;⟨o,e⟩
 have I3:Inv (ag X scope N' G2.objs.size s2 H2 fp) [(s2.heap.objs.size,{cls:= .type "list",data:= .seq ([]:List Value).toArray})] (pull ρ σ) H2 {s2 with heap:=h₁}:=
  I2.block (t':=s2.toks) ck f2 hfo old hC hns₁ hcl₁ hap₁ (Nat.le_refl _) hlC hlo (fun v z=>nomatch z)
 have st3:tn 0 h₁:=T.keep _ _ _ st2 fun b _ o e=>old b o e
 have fpok: ∀{Hc:Hp}{lo:Obj},(∀b∈fp,Hc b=none)-> ∀b∈fp,FpOk (ag X scope N' G2.objs.size s2 H2 fp) [(s2.heap.objs.size,lo)] Hc b:=fun {Hc lo} hn b hb=>by
  obtain ⟨o,ho⟩:=hfo b hb
  have ne: ∀{a:Addr},s2.heap.objs.size<=a->b≠a:=fun ha z=>by
   subst z
   exact absurd (Nat.lt_of_lt_of_le (Heap.lt_size ho) ha) (Nat.lt_irrefl _)
  refine ⟨hn b hb,ne hC,fM I2 f2 hb,.inl hb,fun x c e=>by
   rcases cf_look e with ⟨_,g,_⟩|e
   ·exact Ne.symm (ne (by lia))
   ·exact (f2 b hb).2.2.2.2.1 x c (bV hfr e),fun p hp=> ?_⟩
  have hp':p∈[(s2.heap.objs.size,lo)]:=hp
  rcases List.mem_cons.mp hp' with z|z
  ·subst z;exact Ne.symm (ne (Nat.le_refl _))
  ·exact nomatch z
 have loop: ∀s₃:Shared,s₃={s2 with heap:=h₁}->
   codeAny (model X.prog X.w) X.A (.compLoop (.ListComp elt [⟨tg,iter,ifs,0⟩] scope pos) 0 (.ref it) (.ref s2.heap.objs.size) (compEnvC scope (cellsFrom (G2.objs.size+1) scope.names (bp scope X.env)) G2.objs.size X.env))
    (compPost (model X.prog X.w) X.A X.xe use QQ (.ref s2.heap.objs.size) G2.objs.size) s₃:=by
  rintro s₃ rfl
  refine nK (fun n s'=> ∃i acc its k σc Hc,Inv (ag X scope N' G2.objs.size s2 H2 fp) [(s2.heap.objs.size,{cls:= .type "list",data:= .seq (its:List Value).toArray k})] σc Hc s'/\Vals acc its/\tn i s'.heap/\(∀b∈fp,Hc b=none)/\W i n acc σc Hc) ?_ m0
   ⟨0,[],[],0,_,_,I3,.nil,st3,fun b hb=>(f2 b hb).1,w0⟩
  rintro n s4 ⟨i,acc,its,k,σ4,H4,I4,rv,st4,fr4,w4⟩
  rcases turn i n acc σ4 H4 w4 with ⟨stop,hz,q⟩|⟨go,hz,N,hN,step⟩
  ·refine thn (T.done (ag X scope N' G2.objs.size s2 H2 fp) rfl rfl rfl hc i _ s4 σ4 H4 X0 I4 (fpok fr4) st4 stop) fun r s5 ⟨hr,I5⟩=> ?_
   subst hr
   obtain ⟨hln,I6⟩:=I2.unblock f2 hC (Nat.le_refl _) I5 rv hz
   obtain ⟨m,hm,_⟩:=I5.loc
   have hcn:H4 G2.objs.size=none:=I5.free
   have f6:=I2.fpOk hC (H':=H2) (I2.hok.fresh hC)
   exact post s2.heap.objs.size G2.objs.size m _ s5 I6 (q _ hln) hm (by rw [al (Ne.symm hlC)];exact hcn) f6.2.1 (Nat.le_trans I2.sz hC) f6.2.2.2.2.1 f6.2.2.2.2.2
  ·refine thn (T.item (ag X scope N' G2.objs.size s2 H2 fp) rfl rfl rfl hc i _ s4 σ4 H4 X0 I4 (fpok fr4) st4 go) fun r s5 ⟨u,hr,h5⟩=> ?_
   subst hr
   refine thn h5 fun _ s6 ⟨x,H6,I6,r6,y6,st6,fr6⟩=> ?_
   have I6':=I6.pinned (fpok fr6) (T.obj _ _ st6)
   refine thn (hg G2.objs.size s2 H2 fp _ s6 σ4 H6 x u _ I6' r6 (step x H6 y6)) fun _ s7 ⟨σ7,H7,I7,q7⟩=> ?_
   refine thn (ht G2.objs.size s2 H2 fp _ s7 σ7 H7 _ I7 q7) fun b s8 ⟨H8,I8,q8⟩=> ?_
   have stay: ∀{σ9:St}{H9:Hp}{s9:Shared},Inv (ag X scope N' G2.objs.size s2 H2 fp) ([(s2.heap.objs.size,{cls:= .type "list",data:= .seq its.toArray k})]++cP fp s6.heap) σ9 H9 s9->tn (i+1) s9.heap/\ ∀b∈fp,H9 b=none:=fun {σ9 H9 s9} I9=>by
    refine ⟨T.keep _ _ _ st6 fun b hb o e=>(I9.pin (b,o) (List.mem_append_right _ (List.mem_append_right _ (cQ hb e)))).1,fun b hb=> ?_⟩
    obtain ⟨o,e,d⟩:=T.obj _ _ st6 b hb
    exact (I9.pin (b,o) (List.mem_append_right _ (List.mem_append_right _ (cQ hb e)))).2.1
   cases b with
   |false=>
    rw [if_neg Bool.false_ne_true]
    rw [if_neg Bool.false_ne_true] at q8
    obtain ⟨m',hm,w9⟩:=hN _ _ _ q8
    obtain ⟨a1,a2⟩:=stay I8
    exact ⟨m',hm,i+1,acc,its,k,σ7,H8,I8.unpinned,rv,a1,a2,w9⟩
   |true=>
    rw [if_pos rfl]
    rw [if_pos rfl] at q8
    refine thn (he G2.objs.size s2 H2 fp _ s8 σ7 H8 _ I8 q8) fun y s9 ⟨v,H9,I9,r9,q9⟩=> ?_
    obtain ⟨m',hm,w9⟩:=hN _ _ _ q9
    obtain ⟨a1,a2⟩:=stay I9
    have J9:=I9.unpinned
    obtain ⟨p1,p2,p3,p4,p5⟩:=J9.pin (s2.heap.objs.size,{cls:= .type "list",data:= .seq its.toArray k}) (List.mem_append_right _ List.mem_cons_self)
    have p1:s9.heap.get? s2.heap.objs.size=some {cls:= .type "list",data:= .seq its.toArray k}:=p1
    have hlen:=rv.length
    refine iM p1 (by lia) fun h10 k' g10 sb10=>⟨m',hm,i+1,acc++[v],its++[y],k',σ7,H9,?_,Vals.append rv (.cons r9 .nil),?_,a2,w9⟩
    ·have nfp:s2.heap.objs.size∉fp:=fun z=>by
      obtain ⟨o,e⟩:=hfo _ z
      exact absurd (Heap.lt_size e) (Nat.lt_irrefl _)
     have J10:Inv (ag X scope N' G2.objs.size s2 H2 fp) [] σ7 H9 s9:=J9.pins_of fun p hp=>nomatch hp
     have ncell: ∀x c,(ag X scope N' G2.objs.size s2 H2 fp).env.cells.lookup x=some c->c≠s2.heap.objs.size:=fun x c e z=>by
      obtain ⟨v',o',ho',hd'⟩:=J10.cell x c e
      rw [z,p1] at ho'
      cases ho'
      cases hd'
     have J11:Inv (ag X scope N' G2.objs.size s2 H2 fp) [] σ7 H9 {s9 with heap:=h10}:=J10.turned (t':=s9.toks) (it:=s2.heap.objs.size) (fun b o hb e=>sb10 b o hb e) p2 p3 (.inr (Nat.le_refl _)) ncell (fun p hp=>nomatch hp)
     refine J11.pins_of fun p hp=> ?_
     rcases List.mem_cons.mp hp with z|z
     ·subst z
      exact ⟨g10,p2,p3,p4,fun v z=>nomatch z⟩
     ·exact nomatch z
    ·refine T.keep _ _ _ a1 fun b hb o e=>sb10 b o (fun z=> ?_) e
     subst z
     obtain ⟨o',e'⟩:=hfo _ hb
     exact absurd (Heap.lt_size e') (Nat.lt_irrefl _)
 exact codeAny_compStart_list (loop _ rfl) (T.self X.A 0 _ _ _ st3 (loop _ rfl))
theorem nN (N':List Str) (ρ:List (Option Nat)) (hc:X.calm=true) (hi:PI X tg iter wi)
  (hg: ∀C s H fp,PG (ag X scope N' C s H fp) tg g) (ht: ∀C s H fp,PTs (ag X scope N' C s H fp) ifs tt) (he: ∀C s H fp,PE (ag X scope N' C s H fp) elt te)
  (ck:cz scope X.env.scope X.N N' ρ=true) (hs: ∀x,foldedSetIterable iter X.env x=pure x:=by intro _;rfl):
  PE X (.ListComp elt [⟨tg,iter,ifs,0⟩] scope pos) (eN ρ wi g tt te):=by
 intro pins s σ H Q I h
 rw [eval_ListComp]
 refine iN (use:=none) hc hi hg ht he (fL ck) hs I h fun l C m H' s' I' q hm hC h1 h2 h3 h4=> ?_
 refine ⟨m,hm,fun h'' sb=> ?_⟩
 refine ⟨.ref l,H',?_,rfl,q⟩
 exact I'.turned (t':=s'.toks) (it:=C) (fun b o hb e=>(sb.2 b hb).trans e) hC h1 (.inr h2) h3 h4
theorem nO {i:Nat}{x:Str}{pos' spos:Pos} (N':List Str) (ρ:List (Option Nat)) (hN:X.N.Nodup) (hx:X.N[i]?=some x) (hl:Loc X.env.scope x) (hc:X.calm=true) (hi:PI X tg iter wi)
  (hg: ∀C s H fp,PG (ag X scope N' C s H fp) tg g) (ht: ∀C s H fp,PTs (ag X scope N' C s H fp) ifs tt) (he: ∀C s H fp,PE (ag X scope N' C s H fp) elt te)
  (ck:cz scope X.env.scope X.N N' ρ=true) (hsw:swapsWith (.ListComp elt [⟨tg,iter,ifs,0⟩] scope pos) (some (.Name x pos')) spos.line X.env=pure true:=by rfl)
  (hs: ∀x,foldedSetIterable iter X.env x=pure x:=by intro _;rfl) (hf:X.fn x=true \/X.env.scope.names.lookup x=some .local:=by first|exact .inl rfl|exact .inr rfl|assumption):
  PS X (.Assign [.Name x pos'] (.ListComp elt [⟨tg,iter,ifs,0⟩] scope pos) spos) (tAsg (eN ρ wi g tt te) (cq i)):=by
 intro pins s σ H D I h
 rw [exec_Assign_Name_used _ _ _ _ hsw]
 refine wpAny_bind (wpAny_standAt (wpAny_bind ?_))
 show wpAny _ X.A (do let _<-comprehension (.ListComp elt [⟨tg,iter,ifs,0⟩] scope pos) scope X.env _ (newList []) false (eval iter X.env) (some (assign (.Name x pos') X.env))) _ _ s
 refine wpAny_bind (wpAny_mono (iN (use:=some (assign (.Name x pos') X.env)) (QQ:=fun _ s'=>SP X pins D .next s') (Q:=fun v H'=>D.nx (σ.set i (some v)) H') hc hi hg ht he (fL ck) hs I h fun l C m H' s' I' q hm hC h1 h2 h3 h4=> ?_)
  (fun _ s' hq=>wpAny_pure (wpAny_pure hq)) fun _ _ e=>e)
 show wpAny _ X.A (assign (.Name x pos') X.env (.ref l)) _ _ _
 refine wpAny_assign_Name (gQ I' hN hx hl (v:= .ref l) rfl (fun s2 I2 ⟨a,sb,ha⟩=> ?_) hf)
 have neC:C≠a:=by
  rcases ha with z|z
  ·rw [z];exact h1
  ·exact Ne.symm (h3 x a z)
 refine ⟨m,hm.sameBut sb neC,fun h'' sb''=> ?_⟩
 refine ⟨σ.set i (some (.ref l)),H',?_,q⟩
 exact I2.turned (t':=s2.toks) (it:=C) (fun b o hb e=>(sb''.2 b hb).trans e) hC h1 (.inr h2) h3 h4
end
end L2
set_option maxHeartbeats 4000000
namespace L2
open PySem PySem.Spec PyProof.Rows
section
variable {X:Cx}
theorem nP:ba X (.builtin "isinstance") (fun xs H Q=> ∃x T t b,xs=[x,.ty T]/\TyOf X.K H x t/\PySem.W.kitOne X.K t (.type T)=some b/\Q (.bl b) H):=by
 intro pins s σ H xs us Q I r h
 obtain ⟨x,T,t,b,rfl,ty,e,q⟩:=h
 obtain ⟨u,v,rfl,ru,rv⟩:=r.two
 have ev:v=Value.type T:=rv
 subst ev
 exact mD I ru ty e fun tk=>⟨.bl b,H,I.tok _,rfl,q⟩
noncomputable def iO (i j:Int):Prop:=IntMulOk i j
theorem eO:OpR X (binaryOp .Mult) (rI iO fun i j=> .int (i*j)):=opI fun _ _ _ _ _ _ _ hc q=>mul_int q hc
noncomputable def Def (P:Program) (w:World) (K:PySem.W.Frag) (mg:Str->Option Value) (base:Heap) (k:Nat) (x:Str) (ps:List Str) (sp:Sp):Prop:=
 ∃f fd,FnOk P w K mg base CX0 k f fd ps sp/\mg x=some (.ref f)/\PySem.W.keepIn K (.ref f)=true/\bx K fd ps []
noncomputable def tCal (sp:Sp) (t:TA):TE:=fun σ H Q=>t σ H fun vs H1=>sp vs H1 Q E0
theorem iP {k:Nat}{x:Str}{ps:List Str}{sp:Sp}{e:Expr}{es:List Expr}{t:TA}{p pos:Pos} (D:Def X.prog X.w X.K X.mg X.base k x ps sp) (hr:Room k X.A) (ha:PA X (e::es) t) (hg:Gl X x:=by rfl)
  (hdb:(x==("__debug__":Str))=false:=by decide) (he:starEach (e::es) X.env=(false,eval e X.env)::starEach es X.env:=by rfl) (hpl:(backTo pos (starEach es X.env)).any (·.1)=false:=by rfl):
  PE X (.Call (.Name x p) (e::es) [] pos) (tCal sp t):=by
 obtain ⟨f,fd,F,hm,kp,hb⟩:=D
 intro pins s σ H Q I h
 refine hZ (E:=E0) (dvs:=[]) (ds:=[]) F hr hg hm kp hb .nil iB ha hdb he hpl pins s σ H Q I ?_
 have e:eK sp [] E0 t=tCal sp t:=by
  funext σ H Q
  unfold eK tCal
  congr 1
  funext vs H1
  rw [List.append_nil]
 rw [e]
 exact h
theorem bG {P:Program}{w:World}{K:PySem.W.Frag}{mg:Str->Option Value}{base:Heap}{k:Nat}{x:Str}{ps:List Str}{sp:Sp}{st:Stmt}{f:Addr}{fd:FuncData} (F:Fun K x x st f fd) (hm:mg x=some (.ref f))
  (G:FnOk P w K mg base CX0 k f fd ps sp) (b:bx K fd ps []):Def P w K mg base k x ps sp:=⟨f,fd,G,hm,F.kp,b⟩
end
theorem Same.upd {H:Hp}{a:Addr}{o:HO} (h:H a=none):Same H (upd H a o):=fun b u e=>by
 rw [al (aY e h)]
 exact e
theorem bH:bootBuiltins "len"=some (.builtin "len"):=by decide+kernel
theorem eP:bootBuiltins "isinstance"=some (.builtin "isinstance"):=by decide+kernel
theorem nQ:bootBuiltins "all"=some (.builtin "all"):=by decide+kernel
theorem nR:bootBuiltins "int"=some (.type "int"):=by decide+kernel
theorem cA:bootBuiltins "str"=some (.type "str"):=by decide+kernel
theorem iQ:bootBuiltins "list"=some (.type "list"):=by decide+kernel
theorem fO:bootBuiltins "tuple"=some (.type "tuple"):=by decide+kernel
end L2
set_option maxHeartbeats 4000000
namespace L2
open PySem PySem.Spec PyProof.Rows
variable {KF:PySem.W.Frag}
structure LamD where
 qual:Str
 params:Arguments
 body:Expr
 scope:Scope
noncomputable def FnG (H:Hp) (a:Addr) (L:LamD):Prop:= ∃(pm ctv:Value) (c:Addr) (oc:Obj) (vs:Array Value) (t:Tok),H a=some (.frz (PySem.W.kla_obj "<lambda>" L.qual L.params L.body L.scope [] pm c ctv) (.own 0))/\H c=some (.frz oc (.own 0))/\oc.data= .fields vs/\vs[1]?=some (.str L.qual t)
noncomputable def FnC (H:Hp) (a:Addr) (L:LamD) (x:Str) (i:Int):Prop:= ∃(pm ctv:Value) (c cl:Addr) (oc ol:Obj) (vs:Array Value) (t tk:Tok),H a=some (.frz (PySem.W.kla_obj "<lambda>" L.qual L.params L.body L.scope [(x,cl)] pm c ctv) (.own 0))/\H c=some (.frz oc (.own 0))/\H cl=some (.frz ol (.own 0))/\oc.data= .fields vs/\vs[1]?=some (.str L.qual t)/\ol.data= .cell (some (.int i tk))
inductive Dv where
 |non|bl (b:Bool)|int (i:Int)|str (x:Str)|lst (xs:List Dv)|tup (xs:List Dv)|dic (kvs:List (List Key×Dv))
 |scr (ns:List Int)
 |fn (L:LamD)
 |fc (L:LamD) (x:Str) (i:Int)
 |dik (kvs:List (Key×Dv))
 |ins (C:Addr) (fs:List (Str×Dv))
instance:Inhabited Dv:=⟨.non⟩
mutual
noncomputable def Dv.toPy:Dv->PyData
 | .non=> .none
 | .bl b=> .bool b
 | .int i=> .int i
 | .str x=> .str x
 | .lst xs=> .list (bW xs)
 | .tup xs=> .tuple (bW xs)
 | .dic _=> .dict []
 | .scr _=> .dict []
 | .fn _=> .dict []
 | .fc _ _ _=> .dict []
 | .dik _=> .dict []
 | .ins _ _=> .dict []
noncomputable def bW:List Dv->List PyData
 |[]=>[]
 |x::r=>x.toPy::bW r
end
mutual
noncomputable def Dv.imm:Dv->Bool
 | .lst _=>false
 | .dic _=>false
 | .scr _=>false
 | .fn _=>false
 | .fc _ _ _=>false
 | .dik _=>false
 | .ins _ _=>false
 | .tup xs=>imms xs
 |_=>true
noncomputable def imms:List Dv->Bool
 |[]=>true
 |x::r=>x.imm&&imms r
end
noncomputable def Scr (KF:PySem.W.Frag) (H:Hp) (a:Addr) (ns:List Int):Prop:=(∃o,H a=some (.frz o (.lst (ns.map V.int)))) \/
 ∃(o:Obj) (its:Array Value) (n:Nat),KF.lookup a=some o/\o.cls= .type "list"/\o.dict=none/\o.data= .seq its n/\its.size<=sizeLine/\Vals (ns.map V.int) its.toList
theorem Scr.sq {KF:PySem.W.Frag}{H:Hp}{a:Addr}{ns:List Int} (h:Scr KF H a ns):SqL KF H a (ns.map V.int):=by
 rcases h with ⟨o,h⟩|h
 ·exact .inl (.inr ⟨o,h⟩)
 ·exact .inr h
mutual
inductive RepF (KF:PySem.W.Frag) (S:Addr->Prop) (H:Hp):V->Dv->Prop
 |non:RepF KF S H .non .non
 |bl (b:Bool):RepF KF S H (.bl b) (.bl b)
 |int (i:Int):RepF KF S H (.int i) (.int i)
 |str (x:Str):RepF KF S H (.str x) (.str x)
 |lst {a:Addr}{xs:List V}{ds:List Dv}:S a->H a=some (.lst xs)->RepsF KF S H xs ds->RepF KF S H (.ref a) (.lst ds)
 |tup {a:Addr}{xs:List V}{ds:List Dv}:H a=some (.tup xs)->RepsF KF S H xs ds->RepF KF S H (.ref a) (.tup ds)
 |dic {a:Addr}{xs:List (List Key×V)}{ds:List (List Key×Dv)}:S a->Rd H a (.dT xs)->ar KF S H xs ds->RepF KF S H (.ref a) (.dic ds)
 |scr {a:Addr}{ns:List Int}:Scr KF H a ns->RepF KF S H (.ref a) (.scr ns)
 |fn {a:Addr}{L:LamD}:FnG H a L->RepF KF S H (.ref a) (.fn L)
 |fc {a:Addr}{L:LamD}{x:Str}{i:Int}:FnC H a L x i->RepF KF S H (.ref a) (.fc L x i)
 |dik {a:Addr}{xs:List (Key×V)}{ds:List (Key×Dv)}:S a->Rd H a (.dK xs)->ar KF S H xs ds->RepF KF S H (.ref a) (.dik ds)
 |ins {a C dx:Addr}{xs:List (Str×V)}{ds:List (Str×Dv)}:S a->H a=some (.ins C dx xs)->ar KF S H xs ds->RepF KF S H (.ref a) (.ins C ds)
inductive RepsF (KF:PySem.W.Frag) (S:Addr->Prop) (H:Hp):List V->List Dv->Prop
 |nil:RepsF KF S H [] []
 |cons {v:V}{vs:List V}{d:Dv}{ds:List Dv}:RepF KF S H v d->RepsF KF S H vs ds->RepsF KF S H (v::vs) (d::ds)
inductive ar (KF:PySem.W.Frag) (S:Addr->Prop) (H:Hp):{κ:Type}->List (κ×V)->List (κ×Dv)->Prop
 |nil {κ:Type}:ar KF S H ([]:List (κ×V)) []
 |cons {κ:Type}{k:κ}{v:V}{vs:List (κ×V)}{d:Dv}{ds:List (κ×Dv)}:RepF KF S H v d->ar KF S H vs ds->ar KF S H ((k,v)::vs) ((k,d)::ds)
end
noncomputable abbrev Imm:Addr->Prop:=fun _=>False
noncomputable def ay (S:Addr->Prop) (H H':Hp):Prop:= ∀a o,H a=some o->((∃xs,o= .tup xs) \/(∃b u,o= .frz b u) \/S a)->H' a=some o
theorem ay.of {S:Addr->Prop}{H H':Hp} (e:Same H H'):ay S H H':=fun a o h _=>e a o h
theorem ay.mono {S S':Addr->Prop}{H H':Hp} (e:ay S' H H') (m: ∀a,S a->S' a):ay S H H':=fun a o h c=>e a o h (c.imp id (.imp id (m a)))
structure Mv (P:Dv->Prop) (KF:PySem.W.Frag) (S S':Addr->Prop) (H H':Hp):Prop where
 lst: ∀{a:Addr}{xs:List V}{ds:List Dv},P (.lst ds)->S a->H a=some (.lst xs)->(S' a/\H' a=some (.lst xs))/\ ∀d∈ds,P d
 tup: ∀{a:Addr}{xs:List V}{ds:List Dv},P (.tup ds)->H a=some (.tup xs)->H' a=some (.tup xs)/\ ∀d∈ds,P d
 dic: ∀{a:Addr}{xs:List (List Key×V)}{ds:List (List Key×Dv)},P (.dic ds)->S a->Rd H a (.dT xs)->(S' a/\Rd H' a (.dT xs))/\ ∀p∈ds,P p.2
 scr: ∀{a:Addr}{ns:List Int},P (.scr ns)->Scr KF H a ns->Scr KF H' a ns
 fn: ∀{a:Addr}{L:LamD},P (.fn L)->FnG H a L->FnG H' a L
 fc: ∀{a:Addr}{L:LamD}{x:Str}{i:Int},P (.fc L x i)->FnC H a L x i->FnC H' a L x i
 dik: ∀{a:Addr}{xs:List (Key×V)}{ds:List (Key×Dv)},P (.dik ds)->S a->Rd H a (.dK xs)->(S' a/\Rd H' a (.dK xs))/\ ∀p∈ds,P p.2
 ins: ∀{a C dx:Addr}{xs:List (Str×V)}{ds:List (Str×Dv)},P (.ins C ds)->S a->H a=some (.ins C dx xs)->(S' a/\H' a=some (.ins C dx xs))/\ ∀p∈ds,P p.2
theorem RepF.mv {P:Dv->Prop}{S S':Addr->Prop}{H H':Hp} (m:Mv P KF S S' H H') {v:V}{d:Dv} (r:RepF KF S H v d):P d->RepF KF S' H' v d:=
 RepF.rec (motive_1:=fun v d _=>P d->RepF KF S' H' v d) (motive_2:=fun vs ds _=>(∀d∈ds,P d)->RepsF KF S' H' vs ds) (motive_3:=fun vs ds _=>(∀p∈ds,P p.2)->ar KF S' H' vs ds)
  (fun _=> .non) (fun b _=> .bl b) (fun i _=> .int i) (fun x _=> .str x)
  (fun s h _ f p=>have q:=m.lst p s h; .lst q.1.1 q.1.2 (f q.2))
  (fun h _ f p=>have q:=m.tup p h; .tup q.1 (f q.2))
  (fun s h _ f p=>have q:=m.dic p s h; .dic q.1.1 q.1.2 (f q.2))
  (fun h p=> .scr (m.scr p h)) (fun h p=> .fn (m.fn p h)) (fun h p=> .fc (m.fc p h))
  (fun s h _ f p=>have q:=m.dik p s h; .dik q.1.1 q.1.2 (f q.2))
  (fun s h _ f p=>have q:=m.ins p s h; .ins q.1.1 q.1.2 (f q.2))
  (fun _=> .nil) (fun _ _ f g p=> .cons (f (p _ (List.mem_cons_self ..))) (g fun d hd=>p d (List.mem_cons_of_mem _ hd)))
  (fun _=> .nil) (fun _ _ f g p=> .cons (f (p _ (List.mem_cons_self ..))) (g fun d hd=>p d (List.mem_cons_of_mem _ hd))) r
theorem RepsF.mv {P:Dv->Prop}{S S':Addr->Prop}{H H':Hp} (m:Mv P KF S S' H H'): ∀{vs:List V}{ds:List Dv},RepsF KF S H vs ds->(∀d∈ds,P d)->RepsF KF S' H' vs ds
 |_,_,.nil,_=> .nil
 |_,_,.cons h r,p=> .cons (h.mv m (p _ (List.mem_cons_self ..))) (RepsF.mv m r fun d hd=>p d (List.mem_cons_of_mem _ hd))
theorem ar.mv {P:Dv->Prop}{S S':Addr->Prop}{H H':Hp} (m:Mv P KF S S' H H'): ∀{κ:Type}{vs:List (κ×V)}{ds:List (κ×Dv)},ar KF S H vs ds->(∀p∈ds,P p.2)->ar KF S' H' vs ds
 |_,_,_,.nil,_=> .nil
 |_,_,_,.cons h r,p=> .cons (h.mv m (p _ (List.mem_cons_self ..))) (ar.mv m r fun d hd=>p d (List.mem_cons_of_mem _ hd))
noncomputable abbrev AllD:Dv->Prop:=fun _=>True
theorem Mv.of {S S':Addr->Prop}{H H':Hp} (h1: ∀{a:Addr}{xs:List V},S a->H a=some (.lst xs)->S' a/\H' a=some (.lst xs)) (h2: ∀{a:Addr}{xs:List V},H a=some (.tup xs)->H' a=some (.tup xs))
  (h3: ∀{a:Addr}{xs:List (List Key×V)},S a->Rd H a (.dT xs)->S' a/\Rd H' a (.dT xs)) (h4: ∀{a:Addr}{xs:List (Key×V)},S a->Rd H a (.dK xs)->S' a/\Rd H' a (.dK xs))
  (h5: ∀{a C dx:Addr}{xs:List (Str×V)},S a->H a=some (.ins C dx xs)->S' a/\H' a=some (.ins C dx xs)) (h6: ∀{a:Addr}{b:Obj}{u},H a=some (.frz b u)->(∀xs,u≠ .dT xs)->H' a=some (.frz b u)):Mv AllD KF S S' H H':=
 ⟨fun _ s h=>⟨h1 s h,fun _ _=>trivial⟩,fun _ h=>⟨h2 h,fun _ _=>trivial⟩,fun _ s h=>⟨h3 s h,fun _ _=>trivial⟩,fun _ h=>h.imp (fun ⟨o,q⟩=>⟨o,h6 q fun _=>nofun⟩) id,
  fun _ ⟨pm,ctv,c,oc,vs,t,q1,q2,q3⟩=>⟨pm,ctv,c,oc,vs,t,h6 q1 fun _=>nofun,h6 q2 fun _=>nofun,q3⟩,
  fun _ ⟨pm,ctv,c,cl,oc,ol,vs,t,tk,q1,q2,q3,q4⟩=>⟨pm,ctv,c,cl,oc,ol,vs,t,tk,h6 q1 fun _=>nofun,h6 q2 fun _=>nofun,h6 q3 fun _=>nofun,q4⟩,
  fun _ s h=>⟨h4 s h,fun _ _=>trivial⟩,fun _ s h=>⟨h5 s h,fun _ _=>trivial⟩⟩
theorem ay.rd {S:Addr->Prop}{H H':Hp}{a:Addr}{u} (e:ay S H H') (s:S a) (h:Rd H a u):Rd H' a u:=h.imp (fun h=>e _ _ h (.inr (.inr s))) fun ⟨o,h⟩=>⟨o,e _ _ h (.inr (.inl ⟨_,_,rfl⟩))⟩
theorem ay.mv {S:Addr->Prop}{H H':Hp} (e:ay S H H'):Mv AllD KF S S H H':=
 .of (fun s h=>⟨s,e _ _ h (.inr (.inr s))⟩) (fun h=>e _ _ h (.inl ⟨_,rfl⟩)) (fun s h=>⟨s,e.rd s h⟩) (fun s h=>⟨s,e.rd s h⟩) (fun s h=>⟨s,e _ _ h (.inr (.inr s))⟩) (fun h _=>e _ _ h (.inr (.inl ⟨_,_,rfl⟩)))
theorem RepF.keep {S:Addr->Prop}{H H':Hp} (e:ay S H H') {v:V}{d:Dv} (r:RepF KF S H v d):RepF KF S H' v d:=r.mv e.mv trivial
theorem RepsF.keep {S:Addr->Prop}{H H':Hp} (e:ay S H H') {vs:List V}{ds:List Dv} (r:RepsF KF S H vs ds):RepsF KF S H' vs ds:=r.mv e.mv fun _ _=>trivial
theorem ar.keep {S:Addr->Prop}{H H':Hp} (e:ay S H H') {κ:Type}{vs:List (κ×V)}{ds:List (κ×Dv)} (r:ar KF S H vs ds):ar KF S H' vs ds:=r.mv e.mv fun _ _=>trivial
theorem eQ {H:Hp}{a:Addr}{o} (h:H a=some o):H a≠none:=by rw [h];exact fun z=>nomatch z
theorem Rd.ne {H:Hp}{a:Addr}{u} (h:Rd H a u):H a≠none:=h.elim eQ fun ⟨_,h⟩=>eQ h
theorem fP {S S':Addr->Prop}{H:Hp} (m: ∀a,H a≠none->S a->S' a):Mv AllD KF S S' H H:=
 .of (fun s h=>⟨m _ (eQ h) s,h⟩) id (fun s h=>⟨m _ h.ne s,h⟩) (fun s h=>⟨m _ h.ne s,h⟩) (fun s h=>⟨m _ (eQ h) s,h⟩) fun h _=>h
theorem RepF.mono {S S':Addr->Prop}{H:Hp} (m: ∀a,H a≠none->S a->S' a) {v:V}{d:Dv} (r:RepF KF S H v d):RepF KF S' H v d:=r.mv (fP m) trivial
theorem RepsF.mono {S S':Addr->Prop}{H:Hp} (m: ∀a,H a≠none->S a->S' a) {vs:List V}{ds:List Dv} (r:RepsF KF S H vs ds):RepsF KF S' H vs ds:=r.mv (fP m) fun _ _=>trivial
theorem ar.mono {S S':Addr->Prop}{H:Hp} (m: ∀a,H a≠none->S a->S' a) {κ:Type}{vs:List (κ×V)}{ds:List (κ×Dv)} (r:ar KF S H vs ds):ar KF S' H vs ds:=r.mv (fP m) fun _ _=>trivial
theorem fQ: ∀{ds:List Dv},imms ds=true-> ∀d∈ds,d.imm=true
 |[],_,_,h=>nomatch h
 |x::r,h,d,hd=>by
  rw [imms,Bool.and_eq_true] at h
  rcases List.mem_cons.mp hd with rfl|hd
  ·exact h.1
  ·exact fQ h.2 d hd
theorem iR {S S':Addr->Prop}{H:Hp}:Mv (fun d=>d.imm=true) KF S S' H H:=
 ⟨nofun,fun p h=>⟨h,fQ p⟩,nofun,nofun,nofun,nofun,nofun,nofun⟩
theorem RepF.imm {S S':Addr->Prop}{H:Hp}{v:V}{d:Dv} (r:RepF KF S H v d) (h:d.imm=true):RepF KF S' H v d:=r.mv iR h
theorem RepsF.imm {S S':Addr->Prop}{H:Hp}{vs:List V}{ds:List Dv} (r:RepsF KF S H vs ds) (h:imms ds=true):RepsF KF S' H vs ds:=r.mv iR (fQ h)
theorem RepF.same {S:Addr->Prop}{H H':Hp} (e:Same H H') {v:V}{d:Dv} (r:RepF KF S H v d):RepF KF S H' v d:=r.keep (.of e)
theorem RepsF.same {S:Addr->Prop}{H H':Hp} (e:Same H H') {v:List V}{d:List Dv} (r:RepsF KF S H v d):RepsF KF S H' v d:=r.keep (.of e)
theorem RepsF.append {S:Addr->Prop}{H:Hp}: ∀{xs ys:List V}{ds es:List Dv},RepsF KF S H xs ds->RepsF KF S H ys es->RepsF KF S H (xs++ys) (ds++es)
 |_,_,_,_,.nil,s=>s
 |_,_,_,_,.cons h r,s=> .cons h (RepsF.append r s)
theorem RepsF.length {S:Addr->Prop}{H:Hp}: ∀{xs:List V}{ds:List Dv},RepsF KF S H xs ds->xs.length=ds.length
 |_,_,.nil=>rfl
 |_,_,.cons _ r=>congrArg (· +1) (RepsF.length r)
theorem RepsF.get {S:Addr->Prop}{H:Hp}: ∀{xs:List V}{ds:List Dv}{i:Nat}{d:Dv},RepsF KF S H xs ds->ds[i]?=some d-> ∃x,xs[i]?=some x/\RepF KF S H x d
 |_,_,_,_,.nil,e=>by simp at e
 |_,_,0,_,.cons h _,e=>by simp at e;subst e;exact ⟨_,rfl,h⟩
 |_,_,i+1,x,.cons _ r,e=>by
  obtain ⟨d,h1,h2⟩:=RepsF.get (i:=i) r (by simpa using e)
  exact ⟨d,by simpa using h1,h2⟩
theorem RepsF.get' {S:Addr->Prop}{H:Hp}: ∀{xs:List V}{ds:List Dv}{i:Nat}{x:V},RepsF KF S H xs ds->xs[i]?=some x-> ∃d,ds[i]?=some d/\RepF KF S H x d
 |_,_,_,_,.nil,e=>by simp at e
 |_,_,0,_,.cons h _,e=>by simp at e;subst e;exact ⟨_,rfl,h⟩
 |_,_,i+1,x,.cons _ r,e=>by
  obtain ⟨d,h1,h2⟩:=RepsF.get' (i:=i) r (by simpa using e)
  exact ⟨d,by simpa using h1,h2⟩
theorem RepsF.drop {S:Addr->Prop}{H:Hp}: ∀(k:Nat) {xs:List V}{ds:List Dv},RepsF KF S H xs ds->RepsF KF S H (xs.drop k) (ds.drop k)
 |0,_,_,r=>by simpa using r
 |k+1,_,_,.nil=>by simpa using RepsF.nil
 |k+1,_,_,.cons _ r=>by simpa using RepsF.drop k r
theorem RepsF.take {S:Addr->Prop}{H:Hp}: ∀(k:Nat) {xs:List V}{ds:List Dv},RepsF KF S H xs ds->RepsF KF S H (xs.take k) (ds.take k)
 |0,_,_,_=>by simpa using RepsF.nil
 |k+1,_,_,.nil=>by simpa using RepsF.nil
 |k+1,_,_,.cons h r=>by simpa using RepsF.cons h (RepsF.take k r)
theorem RepsF.reverse {S:Addr->Prop}{H:Hp}: ∀{xs:List V}{ds:List Dv},RepsF KF S H xs ds->RepsF KF S H xs.reverse ds.reverse
 |_,_,.nil=> .nil
 |_,_,.cons h r=>by
  rw [List.reverse_cons,List.reverse_cons]
  exact RepsF.append (RepsF.reverse r) (.cons h .nil)
theorem RepsF.set {S:Addr->Prop}{H:Hp}: ∀{xs:List V}{ds:List Dv} (i:Nat) {x:V}{d:Dv},RepsF KF S H xs ds->RepF KF S H x d->RepsF KF S H (xs.set i x) (ds.set i d)
 |_,_,_,_,_,.nil,_=> .nil
 |_,_,0,_,_,.cons _ r,h=> .cons h r
 |_,_,i+1,_,_,.cons a r,h=> .cons a (RepsF.set i r h)
theorem eR {S:Addr->Prop}{H:Hp}: ∀(r:List Int),RepsF KF S H (r.map V.int) (r.map Dv.int)
 |[]=> .nil
 |i::r=> .cons (.int i) (eR r)
theorem RepsF.bls {S:Addr->Prop}{H:Hp}: ∀{xs:List V}{r:List Bool},RepsF KF S H xs (r.map Dv.bl)->xs=r.map V.bl
 |_,[],.nil=>rfl
 |_,i::r,.cons h q=>by
  cases h
  rw [RepsF.bls q]
  all_goals rfl
section
variable {X:Cx}{pins:List (Addr×Obj)}{σ:St}{H:Hp}{s:Shared}{S:Addr->Prop}
mutual
theorem RepF.reads (I:Inv X pins σ H s): ∀{v:V}{d:Dv}{u:Value},RepF KF S H v d->RelV v u->PyData.canLay0 d.toPy=true-> ∃as,Reads s.heap u d.toPy as
 |_,_,_,.non,r,_=>by cases r;exact ⟨_,.none⟩
 |_,_,_,.bl b,r,_=>by cases r;exact ⟨_,.bool b⟩
 |_,_,_,.int i,r,_=>by obtain ⟨t,rfl⟩:=r;exact ⟨_,.int i t⟩
 |_,_,_,.str x,r,_=>by obtain ⟨t,rfl⟩:=r;exact ⟨_,.str x t⟩
 |_,_,_,.lst _ h q,r,c=>by
  cases r
  obtain ⟨its,rv,⟨o,n,ho,hc,_,hd⟩,_⟩:=I.list (SqL.of h)
  obtain ⟨as,ra⟩:=RepsF.reads I q rv (by simpa [Dv.toPy,PyData.canLay0] using c)
  exact ⟨_,.list ho hc hd (by simpa using ra)⟩
 |_,_,_,.tup h q,r,c=>by
  cases r
  obtain ⟨its,rv,⟨o,ho,hc,n,hd⟩,_⟩:=I.tuple (SqT.of h)
  obtain ⟨as,ra⟩:=RepsF.reads I q rv (by simpa [Dv.toPy,PyData.canLay0] using c)
  exact ⟨_,.tuple ho hc hd (by simpa using ra)⟩
 |_,_,_,.dic _ _ _,_,c=>by simp [Dv.toPy,PyData.canLay0] at c
 |_,_,_,.scr _,_,c=>by simp [Dv.toPy,PyData.canLay0] at c
 |_,_,_,.fn _,_,c=>by simp [Dv.toPy,PyData.canLay0] at c
 |_,_,_,.fc _,_,c=>by simp [Dv.toPy,PyData.canLay0] at c
 |_,_,_,.dik _ _ _,_,c=>by simp [Dv.toPy,PyData.canLay0] at c
 |_,_,_,.ins _ _ _,_,c=>by simp [Dv.toPy,PyData.canLay0] at c
theorem RepsF.reads (I:Inv X pins σ H s): ∀{vs:List V}{ds:List Dv}{us:List Value},RepsF KF S H vs ds->Vals vs us->PyData.canLayAll0 (bW ds)=true-> ∃as,ReadsAll s.heap us (bW ds) as
 |_,_,_,.nil,r,_=>by cases r;exact ⟨_,.nil⟩
 |_,_,_,.cons h q,r,c=>by
  rw [bW,PyData.canLayAll0,Bool.and_eq_true] at c
  cases r with
  |cons r1 r2=>
   obtain ⟨as,ra⟩:=RepF.reads I h r1 c.1
   obtain ⟨bs,rb⟩:=RepsF.reads I q r2 c.2
   exact ⟨_,.cons ra rb⟩
end
noncomputable def eqOk (x y:Dv):Bool:=x.toPy.canLay0&&y.toPy.canLay0&&decide (min x.toPy.depth y.toPy.depth<=60)
noncomputable def rEqF (KF:PySem.W.Frag):R2:=fun x y H Q=> ∃dx dy,RepF KF (fun _=>True) H x dx/\RepF KF (fun _=>True) H y dy/\eqOk dx dy=true/\Q (.bl (PyData.eqv dx.toPy dy.toPy)) H
noncomputable def rNeF (KF:PySem.W.Frag):R2:=fun x y H Q=> ∃dx dy,RepF KF (fun _=>True) H x dx/\RepF KF (fun _=>True) H y dy/\eqOk dx dy=true/\Q (.bl (!PyData.eqv dx.toPy dy.toPy)) H
theorem iU {x y:Dv} (h:eqOk x y=true):x.toPy.canLay0=true/\y.toPy.canLay0=true/\min x.toPy.depth y.toPy.depth<=60:=by
 unfold eqOk at h
 rw [Bool.and_eq_true,Bool.and_eq_true] at h
 exact ⟨h.1.1,h.1.2,of_decide_eq_true h.2⟩
theorem eS (hu:X.A.units+64<cLine):OpR X (compareOp .Eq) (rEqF X.K):=by
 intro pins s σ H x y v u Q I rx ry h
 obtain ⟨dx,dy,hx,hy,ok,q⟩:=h
 obtain ⟨cx,cy,dp⟩:=iU ok
 obtain ⟨as,ra⟩:=hx.reads I rx cx
 obtain ⟨bs,rb⟩:=hy.reads I ry cy
 exact SeqAt.compareEq_reads ra rb cx cy (by lia) ⟨.bl _,H,I,rfl,q⟩
theorem fR (hu:X.A.units+64<cLine):OpR X (compareOp .NotEq) (rNeF X.K):=by
 intro pins s σ H x y v u Q I rx ry h
 obtain ⟨dx,dy,hx,hy,ok,q⟩:=h
 obtain ⟨cx,cy,dp⟩:=iU ok
 obtain ⟨as,ra⟩:=hx.reads I rx cx
 obtain ⟨bs,rb⟩:=hy.reads I ry cy
 exact SeqAt.compareNe_reads ra rb cx cy (by lia) ⟨.bl _,H,I,rfl,q⟩
end
end L2
set_option maxHeartbeats 4000000
namespace L2
open PySem PySem.Spec PyProof.Rows
variable {KF:PySem.W.Frag}{W W':Addr->Prop}
noncomputable abbrev Dt:=List (Option Dv)
noncomputable abbrev EM:=Dt->Option Dv
noncomputable def isOwn (ms:List Nat) (i:Nat):Bool:=decide (i∈ms)||(decide (i+1000∈ms)||decide (i+2000∈ms))
noncomputable abbrev W0:Addr->Prop:=fun _=>False
noncomputable def Cell (KF:PySem.W.Frag) (H:Hp) (a:Addr):Dv->Prop
 | .lst ds=> ∃xs,H a=some (.lst xs)/\RepsF KF Imm H xs ds
 | .dic ds=> ∃xs,H a=some (.dT xs)/\ar KF Imm H xs ds
 |_=>False
mutual
inductive Tree (KF:PySem.W.Frag) (H:Hp):V->Dv->List Addr->Prop
 |imm {v:V}{d:Dv}:RepF KF Imm H v d->Tree KF H v d []
 |lst {a:Addr}{xs:List V}{ds:List Dv}{F:List Addr}:H a=some (.lst xs)->az KF H xs ds F->Tree KF H (.ref a) (.lst ds) (a::F)
 |dic {a:Addr}{xs:List (List Key×V)}{ds:List (List Key×Dv)}{F:List Addr}:H a=some (.dT xs)->aC KF H xs ds F->Tree KF H (.ref a) (.dic ds) (a::F)
 |dik {a:Addr}{xs:List (Key×V)}{ds:List (Key×Dv)}{F:List Addr}:H a=some (.dK xs)->aC KF H xs ds F->Tree KF H (.ref a) (.dik ds) (a::F)
 |ins {a C dx:Addr}{xs:List (Str×V)}{ds:List (Str×Dv)}{F:List Addr}:H a=some (.ins C dx xs)->aC KF H xs ds F->Tree KF H (.ref a) (.ins C ds) (a::F)
inductive az (KF:PySem.W.Frag) (H:Hp):List V->List Dv->List Addr->Prop
 |nil:az KF H [] [] []
 |cons {v:V}{vs:List V}{d:Dv}{ds:List Dv}{F G:List Addr}:Tree KF H v d F->az KF H vs ds G->az KF H (v::vs) (d::ds) (F++G)
inductive aC (KF:PySem.W.Frag) (H:Hp):{κ:Type}->List (κ×V)->List (κ×Dv)->List Addr->Prop
 |nil {κ:Type}:aC KF H ([]:List (κ×V)) [] []
 |cons {κ:Type}{k:κ}{v:V}{vs:List (κ×V)}{d:Dv}{ds:List (κ×Dv)}{F G:List Addr}:Tree KF H v d F->aC KF H vs ds G->aC KF H ((k,v)::vs) ((k,d)::ds) (F++G)
end
inductive Kd where
 |one|imm|frh|any|bor|dp
noncomputable def Got (KF:PySem.W.Frag) (k:Kd) (W:Addr->Prop) (H H':Hp) (v:V) (d:Dv):Prop:=match k with
 | .one=> ∃a,v= .ref a/\H a=none/\Cell KF H' a d
 | .dp=> ∃F:List Addr,F.Nodup/\(∀b∈F,H b=none)/\Tree KF H' v d F
 | .imm=>RepF KF Imm H' v d
 | .frh=>RepF KF (fun a=>H a=none) H' v d
 | .any=>RepF KF (fun a=> ¬W a) H' v d
 | .bor=>RepF KF (fun _=>True) H' v d
noncomputable def Sft (o:HO):Prop:=(∀xs,o≠ .tup xs)/\ ∀b u,o≠ .frz b u
noncomputable def AnyL (KF:PySem.W.Frag) (W:Addr->Prop) (H:Hp) (a:Addr) (d:Dv):Prop:= ∃xs ds,d= .lst ds/\H a=some (.lst xs)/\RepsF KF (fun b=> ¬W b) H xs ds
noncomputable def bA (KF:PySem.W.Frag) (ms:List Nat) (W:Addr->Prop) (H:Hp) (i:Nat) (a:Addr) (d:Dv) (F:List Addr):Prop:=(i∈ms/\F=[a]/\Cell KF H a d) \/(i∉ms/\i+1000∈ms/\Tree KF H (.ref a) d F) \/(i∉ms/\i+1000∉ms/\F=[a]/\AnyL KF W H a d)
structure Foot (KF:PySem.W.Frag) (ms:List Nat) (W:Addr->Prop) (H0:Hp) (δ:Dt) (σ:St) (H:Hp) (Φ:Nat->List Addr):Prop where
 wr: ∀i b,b∈Φ i->W b/\H0 b=none
 dj: ∀i j b,b∈Φ i->b∈Φ j->i=j
 nd: ∀i,(Φ i).Nodup
 at_: ∀i d,isOwn ms i=true->δ[i]?=some (some d)-> ∃a,σ[i]?=some (some (.ref a))/\bA KF ms W H i a d (Φ i)
structure Rel (KF:PySem.W.Frag) (ms:List Nat) (W:Addr->Prop) (H0:Hp) (δ:Dt) (σ:St) (H:Hp):Prop where
 len:σ.length=δ.length
 keep:Same H0 H
 soft: ∀a,W a-> ∃o,H a=some o/\Sft o
 get: ∀i d,isOwn ms i=false->δ[i]?=some (some d)-> ∃v,σ[i]?=some (some v)/\RepF KF (fun a=> ¬W a) H v d
 foot: ∃Φ,Foot KF ms W H0 δ σ H Φ
theorem Cell.there {H:Hp}{a:Addr}{d:Dv} (h:Cell KF H a d): ∃o,H a=some o/\Sft o:=by
 cases d with
 |lst ds=>obtain ⟨xs,h,_⟩:=h;exact ⟨_,h,fun _ z=>(nomatch z),fun _ _ z=>(nomatch z)⟩
 |dic ds=>obtain ⟨xs,h,_⟩:=h;exact ⟨_,h,fun _ z=>(nomatch z),fun _ _ z=>(nomatch z)⟩
 |_=>exact h.elim
theorem Cell.keep {H H':Hp}{a:Addr}{d:Dv} (h:Cell KF H a d) (e:ay Imm H H') (ha: ∀o,H a=some o->H' a=some o):Cell KF H' a d:=by
 cases d with
 |lst ds=>obtain ⟨xs,h,r⟩:=h;exact ⟨xs,ha _ h,r.keep e⟩
 |dic ds=>obtain ⟨xs,h,r⟩:=h;exact ⟨xs,ha _ h,r.keep e⟩
 |_=>exact h.elim
theorem Cell.same {H H':Hp}{a:Addr}{d:Dv} (h:Cell KF H a d) (e:Same H H'):Cell KF H' a d:=h.keep (.of e) fun o q=>e a o q
theorem Cell.rep {H:Hp}{a:Addr}{d:Dv}{S:Addr->Prop} (h:Cell KF H a d) (s:S a):RepF KF S H (.ref a) d:=by
 cases d with
 |lst ds=>obtain ⟨xs,h,r⟩:=h;exact .lst s h (r.mono fun _ _ z=>z.elim)
 |dic ds=>obtain ⟨xs,h,r⟩:=h;exact .dic s (.inl h) (r.mono fun _ _ z=>z.elim)
 |_=>exact h.elim
section
variable {ms:List Nat}{σ σ':St}{H0 H H1 H2:Hp}{δ:Dt}{v:V}{d:Dv}{k:Kd}
theorem Rel.own (R:Rel KF ms W H0 δ σ H) {a:Addr} (h:W a): ∃o,H a=some o/\Sft o:=R.soft a h
theorem Rel.fresh (R:Rel KF ms W H0 δ σ H) {a:Addr} (h:H a=none): ¬W a:=fun z=>by
 obtain ⟨o,e,_⟩:=R.own z
 rw [h] at e;cases e
theorem Tree.ind {m1:V->Dv->List Addr->Prop}{m2:List V->List Dv->List Addr->Prop}{m3:(κ:Type)->List (κ×V)->List (κ×Dv)->List Addr->Prop} (c1: ∀{v:V}{d:Dv},RepF KF Imm H v d->m1 v d [])
  (c2: ∀{a:Addr}{xs:List V}{ds:List Dv}{F:List Addr},H a=some (.lst xs)->m2 xs ds F->m1 (.ref a) (.lst ds) (a::F))
  (c3: ∀{a:Addr}{xs:List (List Key×V)}{ds:List (List Key×Dv)}{F:List Addr},H a=some (.dT xs)->m3 _ xs ds F->m1 (.ref a) (.dic ds) (a::F))
  (c4: ∀{a:Addr}{xs:List (Key×V)}{ds:List (Key×Dv)}{F:List Addr},H a=some (.dK xs)->m3 _ xs ds F->m1 (.ref a) (.dik ds) (a::F))
  (c5: ∀{a C dx:Addr}{xs:List (Str×V)}{ds:List (Str×Dv)}{F:List Addr},H a=some (.ins C dx xs)->m3 _ xs ds F->m1 (.ref a) (.ins C ds) (a::F))
  (c6:m2 [] [] []) (c7: ∀{v:V}{vs:List V}{d:Dv}{ds:List Dv}{F G:List Addr},m1 v d F->m2 vs ds G->m2 (v::vs) (d::ds) (F++G))
  (c8: ∀{κ:Type},m3 κ [] [] []) (c9: ∀{κ:Type}{k:κ}{v:V}{vs:List (κ×V)}{d:Dv}{ds:List (κ×Dv)}{F G:List Addr},m1 v d F->m3 κ vs ds G->m3 κ ((k,v)::vs) ((k,d)::ds) (F++G)):
  (∀{v:V}{d:Dv}{F:List Addr},Tree KF H v d F->m1 v d F)/\(∀{vs:List V}{ds:List Dv}{F:List Addr},az KF H vs ds F->m2 vs ds F)/\ ∀{κ:Type}{vs:List (κ×V)}{ds:List (κ×Dv)}{F:List Addr},aC KF H vs ds F->m3 κ vs ds F:=
 ⟨fun t=>Tree.rec (motive_1:=fun v d F _=>m1 v d F) (motive_2:=fun v d F _=>m2 v d F) (motive_3:=fun {κ} v d F _=>m3 κ v d F) (fun r=>c1 r) (fun h _ f=>c2 h f) (fun h _ f=>c3 h f) (fun h _ f=>c4 h f) (fun h _ f=>c5 h f) c6 (fun _ _ f g=>c7 f g) c8 (fun _ _ f g=>c9 f g) t,
  fun t=>az.rec (motive_1:=fun v d F _=>m1 v d F) (motive_2:=fun v d F _=>m2 v d F) (motive_3:=fun {κ} v d F _=>m3 κ v d F) (fun r=>c1 r) (fun h _ f=>c2 h f) (fun h _ f=>c3 h f) (fun h _ f=>c4 h f) (fun h _ f=>c5 h f) c6 (fun _ _ f g=>c7 f g) c8 (fun _ _ f g=>c9 f g) t,
  fun t=>aC.rec (motive_1:=fun v d F _=>m1 v d F) (motive_2:=fun v d F _=>m2 v d F) (motive_3:=fun {κ} v d F _=>m3 κ v d F) (fun r=>c1 r) (fun h _ f=>c2 h f) (fun h _ f=>c3 h f) (fun h _ f=>c4 h f) (fun h _ f=>c5 h f) c6 (fun _ _ f g=>c7 f g) c8 (fun _ _ f g=>c9 f g) t⟩
theorem iV {xs:List V}:Sft (.lst xs):=⟨fun _ z=>(nomatch z),fun _ _ z=>(nomatch z)⟩
theorem iW {xs:List (List Key×V)}:Sft (.dT xs):=⟨fun _ z=>(nomatch z),fun _ _ z=>(nomatch z)⟩
theorem iX {xs:List (Key×V)}:Sft (.dK xs):=⟨fun _ z=>(nomatch z),fun _ _ z=>(nomatch z)⟩
theorem iY {C dx:Addr}{xs:List (Str×V)}:Sft (.ins C dx xs):=⟨fun _ z=>(nomatch z),fun _ _ z=>(nomatch z)⟩
noncomputable abbrev cX (H H1:Hp) (F:List Addr):Prop:= ∀b∈F,∀o,H b=some o->Sft o->H1 b=some o
theorem fS (im: ∀{v:V}{d:Dv},RepF KF Imm H v d->RepF KF Imm H1 v d):(∀{v:V}{d:Dv}{F:List Addr},Tree KF H v d F->cX H H1 F->Tree KF H1 v d F)/\(∀{vs:List V}{ds:List Dv}{F:List Addr},az KF H vs ds F->cX H H1 F->az KF H1 vs ds F)/\ ∀{κ:Type}{vs:List (κ×V)}{ds:List (κ×Dv)}{F:List Addr},aC KF H vs ds F->cX H H1 F->aC KF H1 vs ds F:=
 Tree.ind (m1:=fun v d F=>cX H H1 F->Tree KF H1 v d F) (m2:=fun v d F=>cX H H1 F->az KF H1 v d F) (m3:=fun _ v d F=>cX H H1 F->aC KF H1 v d F) (fun r _=> .imm (im r))
  (fun h r f=> .lst (f _ (List.mem_cons_self ..) _ h iV) (r fun b hb=>f b (List.mem_cons_of_mem _ hb))) (fun h r f=> .dic (f _ (List.mem_cons_self ..) _ h iW) (r fun b hb=>f b (List.mem_cons_of_mem _ hb)))
  (fun h r f=> .dik (f _ (List.mem_cons_self ..) _ h iX) (r fun b hb=>f b (List.mem_cons_of_mem _ hb))) (fun h r f=> .ins (f _ (List.mem_cons_self ..) _ h iY) (r fun b hb=>f b (List.mem_cons_of_mem _ hb)))
  (fun _=> .nil) (fun h r f=> .cons (h fun b hb=>f b (List.mem_append_left _ hb)) (r fun b hb=>f b (List.mem_append_right _ hb))) (fun _=> .nil) (fun h r f=> .cons (h fun b hb=>f b (List.mem_append_left _ hb)) (r fun b hb=>f b (List.mem_append_right _ hb)))
theorem Tree.keep (e:ay Imm H H1) {v:V}{d:Dv}{F:List Addr} (t:Tree KF H v d F) (f: ∀b∈F,∀o,H b=some o->H1 b=some o):Tree KF H1 v d F:=(fS fun r=>r.keep e).1 t fun b hb o h _=>f b hb o h
theorem az.keep (e:ay Imm H H1) {v:List V}{d:List Dv}{F:List Addr} (t:az KF H v d F) (f: ∀b∈F,∀o,H b=some o->H1 b=some o):az KF H1 v d F:=(fS fun r=>r.keep e).2.1 t fun b hb o h _=>f b hb o h
theorem aC.keep (e:ay Imm H H1) {κ:Type}{v:List (κ×V)}{d:List (κ×Dv)}{F:List Addr} (t:aC KF H v d F) (f: ∀b∈F,∀o,H b=some o->H1 b=some o):aC KF H1 v d F:=(fS fun r=>r.keep e).2.2 t fun b hb o h _=>f b hb o h
theorem fT {S:Addr->Prop}:(∀{v:V}{d:Dv}{F:List Addr},Tree KF H v d F->(∀b∈F,S b)->RepF KF S H v d)/\(∀{vs:List V}{ds:List Dv}{F:List Addr},az KF H vs ds F->(∀b∈F,S b)->RepsF KF S H vs ds)/\ ∀{κ:Type}{vs:List (κ×V)}{ds:List (κ×Dv)}{F:List Addr},aC KF H vs ds F->(∀b∈F,S b)->ar KF S H vs ds:=
 Tree.ind (m1:=fun v d F=>(∀b∈F,S b)->RepF KF S H v d) (m2:=fun v d F=>(∀b∈F,S b)->RepsF KF S H v d) (m3:=fun _ v d F=>(∀b∈F,S b)->ar KF S H v d) (fun r _=>r.mono fun _ _ z=>z.elim)
  (fun h r f=> .lst (f _ (List.mem_cons_self ..)) h (r fun b hb=>f b (List.mem_cons_of_mem _ hb))) (fun h r f=> .dic (f _ (List.mem_cons_self ..)) (.inl h) (r fun b hb=>f b (List.mem_cons_of_mem _ hb)))
  (fun h r f=> .dik (f _ (List.mem_cons_self ..)) (.inl h) (r fun b hb=>f b (List.mem_cons_of_mem _ hb))) (fun h r f=> .ins (f _ (List.mem_cons_self ..)) h (r fun b hb=>f b (List.mem_cons_of_mem _ hb)))
  (fun _=> .nil) (fun h r f=> .cons (h fun b hb=>f b (List.mem_append_left _ hb)) (r fun b hb=>f b (List.mem_append_right _ hb))) (fun _=> .nil) (fun h r f=> .cons (h fun b hb=>f b (List.mem_append_left _ hb)) (r fun b hb=>f b (List.mem_append_right _ hb)))
theorem Tree.rep {S:Addr->Prop}{v:V}{d:Dv}{F:List Addr} (t:Tree KF H v d F) (f: ∀b∈F,S b):RepF KF S H v d:=fT.1 t f
theorem az.rep {S:Addr->Prop}{v:List V}{d:List Dv}{F:List Addr} (t:az KF H v d F) (f: ∀b∈F,S b):RepsF KF S H v d:=fT.2.1 t f
theorem aC.rep {S:Addr->Prop}{κ:Type}{v:List (κ×V)}{d:List (κ×Dv)}{F:List Addr} (t:aC KF H v d F) (f: ∀b∈F,S b):ar KF S H v d:=fT.2.2 t f
noncomputable abbrev aM (H:Hp) (F:List Addr):Prop:= ∀b∈F,∃o,H b=some o/\Sft o
theorem aM.cons {a:Addr}{F:List Addr}{o:HO} (h:H a=some o) (s:Sft o) (f:aM H F):aM H (a::F):=fun b hb=>(List.mem_cons.mp hb).elim (fun z=>z▸⟨o,h,s⟩) (f b)
theorem aM.app {F G:List Addr} (f:aM H F) (g:aM H G):aM H (F++G):=fun b hb=>(List.mem_append.mp hb).elim (f b) (g b)
theorem fU:(∀{v:V}{d:Dv}{F:List Addr},Tree KF H v d F->aM H F)/\(∀{vs:List V}{ds:List Dv}{F:List Addr},az KF H vs ds F->aM H F)/\ ∀{κ:Type}{vs:List (κ×V)}{ds:List (κ×Dv)}{F:List Addr},aC KF H vs ds F->aM H F:=
 Tree.ind (m1:=fun _ _ F=>aM H F) (m2:=fun _ _ F=>aM H F) (m3:=fun _ _ _ F=>aM H F) (fun _ _ hb=>nomatch hb)
  (fun h r=>aM.cons h iV r) (fun h r=>aM.cons h iW r) (fun h r=>aM.cons h iX r) (fun h r=>aM.cons h iY r) (fun _ hb=>nomatch hb) (fun f g=>f.app g) (fun _ hb=>nomatch hb) (fun f g=>f.app g)
theorem Tree.there {v:V}{d:Dv}{F:List Addr} (t:Tree KF H v d F): ∀b∈F,∃o,H b=some o/\Sft o:=fU.1 t
theorem az.there {v:List V}{d:List Dv}{F:List Addr} (t:az KF H v d F): ∀b∈F,∃o,H b=some o/\Sft o:=fU.2.1 t
theorem aC.there {κ:Type}{v:List (κ×V)}{d:List (κ×Dv)}{F:List Addr} (t:aC KF H v d F): ∀b∈F,∃o,H b=some o/\Sft o:=fU.2.2 t
theorem iZ: ∀{xs:List V}{ds:List Dv},RepsF KF Imm H xs ds->az KF H xs ds []
 |_,_,.nil=> .nil
 |_,_,.cons h r=> .cons (F:=[]) (G:=[]) (.imm h) (iZ r)
theorem i0: ∀{xs:List (List Key×V)}{ds:List (List Key×Dv)},ar KF Imm H xs ds->aC KF H xs ds []
 |_,_,.nil=> .nil
 |_,_,.cons h r=> .cons (F:=[]) (G:=[]) (.imm h) (i0 r)
theorem Cell.tree {a:Addr} (c:Cell KF H a d):Tree KF H (.ref a) d [a]:=by
 cases d with
 |lst ds=>obtain ⟨xs,h,r⟩:=c;exact .lst h (iZ r)
 |dic ds=>obtain ⟨xs,h,r⟩:=c;exact .dic h (i0 r)
 |_=>exact c.elim
theorem bA.keep {W':Addr->Prop}{i:Nat}{a:Addr}{F:List Addr} (h:bA KF ms W H i a d F) (e:ay (fun b=> ¬W b) H H1) (f: ∀b∈F,∀o,H b=some o->H1 b=some o) (g: ∀b,¬W b->H b≠none-> ¬W' b):bA KF ms W' H1 i a d F:=by
 have ei:ay Imm H H1:=e.mono fun _ z=>z.elim
 rcases h with ⟨m,ef,c⟩|⟨n,n3,r⟩|⟨n,n2,ef,xs,ds,rfl,h,r⟩
 ·subst ef;exact .inl ⟨m,rfl,c.keep ei (f a (List.mem_cons_self ..))⟩
 ·exact .inr (.inl ⟨n,n3,r.keep ei f⟩)
 ·subst ef
  refine .inr (.inr ⟨n,n2,rfl,xs,ds,rfl,f a (List.mem_cons_self ..) _ h,?_⟩)
  exact (RepsF.keep (S:=fun b=> ¬W b/\H b≠none) (e.mono fun _ z=>z.1) (r.mono fun _ h n=>⟨n,h⟩)).mono fun b _ z=>g b z.1 z.2
theorem bA.rep {i:Nat}{a:Addr}{F:List Addr}{S:Addr->Prop} (h:bA KF ms W H i a d F) (f: ∀b∈F,S b) (g: ∀b,¬W b->S b):RepF KF S H (.ref a) d:=by
 rcases h with ⟨m,ef,c⟩|⟨n,n3,r⟩|⟨n,n2,ef,xs,ds,rfl,h,r⟩
 ·subst ef;exact c.rep (f a (List.mem_cons_self ..))
 ·exact r.rep f
 ·subst ef;exact .lst (f a (List.mem_cons_self ..)) h (r.mono fun b _ z=>g b z)
theorem bA.there {i:Nat}{a:Addr}{F:List Addr} (h:bA KF ms W H i a d F): ∀b∈F,∃o,H b=some o/\Sft o:=by
 rcases h with ⟨m,ef,c⟩|⟨n,n3,r⟩|⟨n,n2,ef,xs,ds,rfl,h,r⟩
 ·subst ef
  intro b hb
  rw [List.mem_singleton.mp hb]
  exact c.there
 ·exact r.there
 ·subst ef
  intro b hb
  rw [List.mem_singleton.mp hb]
  exact ⟨_,h,fun _ z=>(nomatch z),fun _ _ z=>(nomatch z)⟩
theorem Rel.same (R:Rel KF ms W H0 δ σ H) (e:Same H H1):Rel KF ms W H0 δ σ H1:=by
 refine ⟨R.len,fun a o h=>e a o (R.keep a o h),fun a w=> ?_,fun i d n hd=> ?_,?_⟩
 ·obtain ⟨o,ho,so⟩:=R.soft a w
  exact ⟨o,e a o ho,so⟩
 ·obtain ⟨v,hv,r⟩:=R.get i d n hd
  exact ⟨v,hv,r.same e⟩
 ·obtain ⟨Φ,f⟩:=R.foot
  refine ⟨Φ,f.wr,f.dj,f.nd,fun i d n hd=> ?_⟩
  obtain ⟨a,ha,o⟩:=f.at_ i d n hd
  exact ⟨a,ha,o.keep (.of e) (fun b _ o h=>e b o h) fun _ z _=>z⟩
theorem Rel.any (R:Rel KF ms W H0 δ σ H) {i:Nat}{d:Dv} (hd:δ[i]?=some (some d)): ∃v,σ[i]?=some (some v)/\RepF KF (fun _=>True) H v d:=by
 cases n:isOwn ms i with
 |false=>
  obtain ⟨v,hv,r⟩:=R.get i d n hd
  exact ⟨v,hv,r.mono fun _ _ _=>trivial⟩
 |true=>
  obtain ⟨Φ,f⟩:=R.foot
  obtain ⟨a,ha,o⟩:=f.at_ i d n hd
  exact ⟨_,ha,o.rep (fun _ _=>trivial) fun _ _=>trivial⟩
theorem Got.same (g:Got KF k W H H1 v d) (e:Same H1 H2):Got KF k W H H2 v d:=by
 cases k with
 |dp=>obtain ⟨F,nd,h,c⟩:=g;exact ⟨F,nd,h,c.keep (.of e) fun b _ o z=>e b o z⟩
 |one=>obtain ⟨a,ea,h,c⟩:=g;exact ⟨a,ea,h,c.same e⟩
 |imm=>exact RepF.same e g
 |frh=>exact RepF.same e g
 |any=>exact RepF.same e g
 |bor=>exact RepF.same e g
theorem aU (e:Same H H1) {a:Addr} (h:H1 a=none):H a=none:=by
 cases q:H a with
 |none=>rfl
 |some o=>rw [e a o q] at h;cases h
theorem Got.back (g:Got KF k W H1 H2 v d) (e:Same H H1):Got KF k W H H2 v d:=by
 cases k with
 |dp=>obtain ⟨F,nd,h,c⟩:=g;exact ⟨F,nd,fun b hb=>aU e (h b hb),c⟩
 |one=>obtain ⟨a,ea,h,c⟩:=g;exact ⟨a,ea,aU e h,c⟩
 |imm=>exact g
 |frh=>exact RepF.mono (fun a _ h=>aU e h) g
 |any=>exact g
 |bor=>exact g
theorem Got.bor (g:Got KF k W H H1 v d):RepF KF (fun _=>True) H1 v d:=by
 cases k with
 |dp=>obtain ⟨F,nd,h,c⟩:=g;exact c.rep fun _ _=>trivial
 |one=>obtain ⟨a,ea,h,c⟩:=g;subst ea;exact c.rep trivial
 |imm=>exact RepF.mono (fun _ _ z=>z.elim) g
 |frh=>exact RepF.mono (fun _ _ z=>trivial) g
 |any=>exact RepF.mono (fun _ _ z=>trivial) g
 |bor=>exact g
inductive Kd.le:Kd->Kd->Prop
 |refl (k:Kd):Kd.le k k
 |one_frh:Kd.le .one .frh
 |one_any:Kd.le .one .any
 |imm_frh:Kd.le .imm .frh
 |imm_any:Kd.le .imm .any
 |frh_any:Kd.le .frh .any
 |bor (k:Kd):Kd.le k .bor
 |dp_frh:Kd.le .dp .frh
 |dp_any:Kd.le .dp .any
 |one_dp:Kd.le .one .dp
 |imm_dp:Kd.le .imm .dp
theorem Got.le (R:Rel KF ms W H0 δ σ H) {k':Kd} (l:Kd.le k k') (g:Got KF k W H H1 v d):Got KF k' W H H1 v d:=by
 cases l with
 |refl=>exact g
 |one_frh=>obtain ⟨a,ea,h,c⟩:=g;subst ea;exact c.rep h
 |one_any=>obtain ⟨a,ea,h,c⟩:=g;subst ea;exact c.rep (R.fresh h)
 |imm_frh=>exact RepF.mono (fun _ _ z=>z.elim) g
 |imm_any=>exact RepF.mono (fun _ _ z=>z.elim) g
 |frh_any=>exact RepF.mono (fun _ _ z=>R.fresh z) g
 |bor=>exact g.bor
 |dp_frh=>obtain ⟨F,nd,h,c⟩:=g;exact c.rep h
 |dp_any=>obtain ⟨F,nd,h,c⟩:=g;exact c.rep fun b hb=>R.fresh (h b hb)
 |one_dp=>
  obtain ⟨a,ea,h,c⟩:=g
  subst ea
  exact ⟨[a],by simp,fun b hb=>by rw [List.mem_singleton.mp hb];exact h,c.tree⟩
 |imm_dp=>exact ⟨[],List.nodup_nil,fun b hb=>(List.not_mem_nil hb).elim,.imm g⟩
theorem Got.imm (g:Got KF k W H H1 v d) (h:d.imm=true):RepF KF Imm H1 v d:=g.bor.imm h
end
noncomputable def DE (KF:PySem.W.Frag) (ms:List Nat) (k:Kd) (te:TE) (m:EM):Prop:=
 ∀{W:Addr->Prop} (δ:Dt) (σ:St) (H0 H:Hp) (Q:VK) (d:Dv),Rel KF ms W H0 δ σ H->m δ=some d->(∀v H',Same H H'->Got KF k W H H' v d->Q v H')->te σ H Q
noncomputable def PD (X:Cx) (ms:List Nat) (k:Kd) (e:Expr) (m:EM):Prop:= ∃te,PE X e te/\DE X.K ms k te m
noncomputable def DTs (KF:PySem.W.Frag) (ms:List Nat) (tt:TT) (m:Dt->Option Bool):Prop:=
 ∀{W:Addr->Prop} (δ:Dt) (σ:St) (H0 H:Hp) (Q:Bool->Hp->Prop) (b:Bool),Rel KF ms W H0 δ σ H->m δ=some b->(∀H',Same H H'->Q b H')->tt σ H Q
noncomputable def PDt (X:Cx) (ms:List Nat) (e:Expr) (m:Dt->Option Bool):Prop:= ∃tt,PT X e tt/\DTs X.K ms tt m
noncomputable def PDw (X:Cx) (ms:List Nat) (e:Expr) (m:Dt->Option Bool):Prop:= ∃tt,PW X e tt/\DTs X.K ms tt m
noncomputable def Gots (KF:PySem.W.Frag) (k:Kd) (W:Addr->Prop) (H H':Hp):List V->List Dv->Prop
 |[],[]=>True
 |v::vs,d::ds=>Got KF k W H H' v d/\Gots KF k W H H' vs ds
 |_,_=>False
noncomputable def DA (KF:PySem.W.Frag) (ms:List Nat) (k:Kd) (ta:TA) (m:Dt->Option (List Dv)):Prop:=
 ∀{W:Addr->Prop} (δ:Dt) (σ:St) (H0 H:Hp) (Q:List V->Hp->Prop) (ds:List Dv),Rel KF ms W H0 δ σ H->m δ=some ds->(∀vs H',Same H H'->Gots KF k W H H' vs ds->Q vs H')->ta σ H Q
noncomputable def PDa (X:Cx) (ms:List Nat) (k:Kd) (es:List Expr) (m:Dt->Option (List Dv)):Prop:= ∃ta,PA X es ta/\DA X.K ms k ta m
section
variable {ms:List Nat}{σ:St}{H H1 H2:Hp}{k:Kd}
theorem Gots.back: ∀{vs:List V}{ds:List Dv},Gots KF k W H1 H2 vs ds->Same H H1->Gots KF k W H H2 vs ds
 |[],[],_,_=>trivial
 |_::_,_::_,h,e=>⟨h.1.back e,Gots.back h.2 e⟩
 |[],_::_,h,_=>h.elim
 |_::_,[],h,_=>h.elim
theorem Gots.length: ∀{vs:List V}{ds:List Dv},Gots KF k W H H1 vs ds->vs.length=ds.length
 |[],[],_=>rfl
 |_::_,_::_,h=>congrArg (· +1) (Gots.length h.2)
 |[],_::_,h=>h.elim
 |_::_,[],h=>h.elim
theorem Gots.bor: ∀{vs:List V}{ds:List Dv},Gots KF k W H H1 vs ds->RepsF KF (fun _=>True) H1 vs ds
 |[],[],_=> .nil
 |_::_,_::_,h=> .cons h.1.bor (Gots.bor h.2)
 |[],_::_,h=>h.elim
 |_::_,[],h=>h.elim
theorem Gots.anys: ∀{vs:List V}{ds:List Dv},Gots KF .any W H H1 vs ds->RepsF KF (fun a=> ¬W a) H1 vs ds
 |[],[],_=> .nil
 |_::_,_::_,h=> .cons h.1 (Gots.anys h.2)
 |[],_::_,h=>h.elim
 |_::_,[],h=>h.elim
theorem Gots.frhs: ∀{vs:List V}{ds:List Dv},Gots KF .frh W H H1 vs ds->RepsF KF (fun a=>H a=none) H1 vs ds
 |[],[],_=> .nil
 |_::_,_::_,h=> .cons h.1 (Gots.frhs h.2)
 |[],_::_,h=>h.elim
 |_::_,[],h=>h.elim
theorem Gots.imms: ∀{vs:List V}{ds:List Dv},Gots KF .imm W H H1 vs ds->RepsF KF Imm H1 vs ds
 |[],[],_=> .nil
 |_::_,_::_,h=> .cons h.1 (Gots.imms h.2)
 |[],_::_,h=>h.elim
 |_::_,[],h=>h.elim
end
noncomputable def eVar (i:Nat):EM:=fun δ=>(δ[i]?).join
noncomputable def eC (d:Dv):EM:=fun _=>some d
noncomputable def eOp (f:Dv->Dv->Option Dv) (a b:EM):EM:=fun δ=>(a δ).bind fun x=>(b δ).bind fun y=>f x y
noncomputable def eUn (f:Dv->Option Dv) (a:EM):EM:=fun δ=>(a δ).bind f
noncomputable def eImm (a:EM):EM:=fun δ=>(a δ).bind fun x=>if x.imm=true then some x else none
noncomputable def eAnd (a b:EM):EM:=fun δ=>(a δ).bind fun x=>match x with
 | .bl true=>b δ
 | .bl false=>some (.bl false)
 |_=>none
noncomputable def eOr (a b:EM):EM:=fun δ=>(a δ).bind fun x=>match x with
 | .bl true=>some (.bl true)
 | .bl false=>b δ
 |_=>none
noncomputable def eIf (c:Dt->Option Bool) (a b:EM):EM:=fun δ=>(c δ).bind fun x=>if x=true then a δ else b δ
noncomputable def fV:Dv->Option Bool
 | .bl b=>some b
 |_=>none
noncomputable def tOf (a:EM):Dt->Option Bool:=fun δ=>(a δ).bind fV
noncomputable def tyes:Dt->Option Bool:=fun _=>some true
noncomputable def tnot (a:Dt->Option Bool):Dt->Option Bool:=fun δ=>(a δ).map (!·)
noncomputable def tand (a b:Dt->Option Bool):Dt->Option Bool:=fun δ=>(a δ).bind fun x=>if x=true then b δ else some false
noncomputable def tor (a b:Dt->Option Bool):Dt->Option Bool:=fun δ=>(a δ).bind fun x=>if x=true then some true else b δ
noncomputable def aNil:Dt->Option (List Dv):=fun _=>some []
noncomputable def aa (a:EM) (r:Dt->Option (List Dv)):Dt->Option (List Dv):=fun δ=>(a δ).bind fun x=>(r δ).bind fun xs=>some (x::xs)
noncomputable def lim:Nat:=100000
theorem cB {n:Nat} (h:n<=lim):n<sizeLine:=Nat.lt_of_le_of_lt h (by decide)
noncomputable def eTup (a:Dt->Option (List Dv)):EM:=fun δ=>(a δ).bind fun xs=>if xs.length<=lim then some (.tup xs) else none
noncomputable def eLst (a:Dt->Option (List Dv)):EM:=fun δ=>(a δ).bind fun xs=>if xs.length<=lim then some (.lst xs) else none
noncomputable def bI (a:Dt->Option (List Dv)):EM:=fun δ=>(a δ).bind fun xs=>if xs.length<=lim/\imms xs=true then some (.lst xs) else none
noncomputable def dAdd:Dv->Dv->Option Dv
 | .int i,.int j=>some (.int (i+j))
 |_,_=>none
noncomputable def dSub:Dv->Dv->Option Dv
 | .int i,.int j=>some (.int (i-j))
 |_,_=>none
noncomputable def bJ (i j:Int):Bool:=decide (i.natAbs<2^64)||decide (j.natAbs<2^64)||(decide (i.natAbs<2^2048)&&decide (j.natAbs<2^2048))
noncomputable def dMul:Dv->Dv->Option Dv
 | .int i,.int j=>if bJ i j=true then some (.int (i*j)) else none
 |_,_=>none
noncomputable def dDiv:Dv->Dv->Option Dv
 | .int i,.int j=>if 0<j/\j<1073741824 then some (.int (i/j)) else none
 |_,_=>none
noncomputable def dMod:Dv->Dv->Option Dv
 | .int i,.int j=>if 0<j then some (.int (i%j)) else none
 |_,_=>none
noncomputable def dNeg:Dv->Option Dv
 | .int i=>some (.int (-i))
 |_=>none
noncomputable def dNot:Dv->Option Dv
 | .bl b=>some (.bl (!b))
 |_=>none
noncomputable def dLt:Dv->Dv->Option Dv
 | .int i,.int j=>some (.bl (decide (i<j)))
 |_,_=>none
noncomputable def dLe:Dv->Dv->Option Dv
 | .int i,.int j=>some (.bl (decide (i<=j)))
 |_,_=>none
noncomputable def dGt:Dv->Dv->Option Dv
 | .int i,.int j=>some (.bl (decide (j<i)))
 |_,_=>none
noncomputable def dGe:Dv->Dv->Option Dv
 | .int i,.int j=>some (.bl (decide (j<=i)))
 |_,_=>none
noncomputable def dEq (x y:Dv):Option Dv:=if eqOk x y=true then some (.bl (PyData.eqv x.toPy y.toPy)) else none
noncomputable def dNe (x y:Dv):Option Dv:=if eqOk x y=true then some (.bl (!PyData.eqv x.toPy y.toPy)) else none
noncomputable def dIx:Dv->Dv->Option Dv
 | .lst xs,.int i=>atI xs i
 | .scr ns,.int i=>(atI ns i).map .int
 | .tup xs,.int i=>atI xs i
 |_,_=>none
noncomputable def dLen:Dv->Option Dv
 | .lst xs=>some (.int xs.length)
 | .scr xs=>some (.int xs.length)
 | .tup xs=>some (.int xs.length)
 |_=>none
noncomputable def dCat:Dv->Dv->Option Dv
 | .lst xs,.lst ys=>if xs.length+ys.length<=lim then some (.lst (xs++ys)) else none
 |_,_=>none
section
variable {X:Cx}{ms:List Nat}{k k':Kd}{e a b:Expr}{m ma mb:EM}{pos:Pos}
theorem PD.le (h:PD X ms k e m) (l:Kd.le k k'):PD X ms k' e m:=by
 obtain ⟨te,p,q⟩:=h
 exact ⟨te,p,fun δ σ H0 H Q d R hm hq=>q δ σ H0 H Q d R hm fun v H' s g=>hq v H' s (g.le R l)⟩
theorem i1 (h:PD X ms k e m):PD X ms .imm e (eImm m):=by
 obtain ⟨te,p,q⟩:=h
 refine ⟨te,p,fun δ σ H0 H Q d R hm hq=> ?_⟩
 obtain ⟨x,hx,e⟩:=Option.bind_eq_some_iff.mp hm
 split at e
 ·next h=>cases e;exact q δ σ H0 H Q _ R hx fun v H' s g=>hq v H' s (g.imm h)
 ·cases e
theorem PE.pd_c {v:V}{d:Dv} (h:PE X e (tC v)) (r: ∀H,RepF X.K Imm H v d):PD X ms .imm e (eC d):=
 ⟨_,h,fun δ σ H0 H Q d' R hm hq=>by cases hm;exact hq v H (fun _ _ z=>z) (r H)⟩
theorem ai {i j}:PD X ms .imm (.Constant (.int i) j pos) (eC (.int i)):=PE.pd_c ly fun _=> .int i
theorem cC {i j}:PD X ms .imm (.Constant (.bool i) j pos) (eC (.bl i)):=PE.pd_c lz fun _=> .bl i
theorem i2 {j}:PD X ms .imm (.Constant .none j pos) (eC .non):=PE.pd_c lB fun _=> .non
theorem af {i j}:PD X ms .imm (.Constant (.str i) j pos) (eC (.str i)):=PE.pd_c lC fun _=> .str i
theorem eT {i:Nat}{δ:Dt}{d:Dv} (h:eVar i δ=some d):δ[i]?=some (some d):=by
 unfold eVar at h
 cases e:δ[i]? with
 |none=>rw [e] at h;cases h
 |some o=>rw [e] at h;cases o with
  |none=>cases h
  |some x=>cases h;rfl
theorem ad (i:Nat) {x:Str} (hi:isOwn ms i=false) (h:PE X (.Name x pos) (tVar i)):PD X ms .any (.Name x pos) (eVar i):=by
 refine ⟨_,h,fun δ σ H0 H Q d R hm hq=> ?_⟩
 obtain ⟨v,hv,r⟩:=R.get i d hi (eT hm)
 exact ⟨v,hv,hq v H (fun _ _ z=>z) r⟩
theorem i3 (i:Nat) {x:Str} (h:PE X (.Name x pos) (tVar i)):PD X ms .bor (.Name x pos) (eVar i):=by
 refine ⟨_,h,fun δ σ H0 H Q d R hm hq=> ?_⟩
 obtain ⟨v,hv,r⟩:=R.any (eT hm)
 exact ⟨v,hv,hq v H (fun _ _ z=>z) r⟩
noncomputable def OpD (KF:PySem.W.Frag) (r:R2) (f:Dv->Dv->Option Dv):Prop:=
 ∀(H:Hp) (x y:V) (dx dy d:Dv) (Q:VK),RepF KF (fun _=>True) H x dx->RepF KF (fun _=>True) H y dy->f dx dy=some d->(∀v,RepF KF Imm H v d->Q v H)->r x y H Q
theorem fW {r:R2}{f:Dv->Dv->Option Dv}{ta tb:TE}{k1 k2:Kd} (hf:OpD KF r f) (ha:DE KF ms k1 ta ma) (hb:DE KF ms k2 tb mb):DE KF ms .imm (tOp r ta tb) (eOp f ma mb):=by
 intro W δ σ H0 H Q d R hm hq
 obtain ⟨x,hx,e⟩:=Option.bind_eq_some_iff.mp hm
 obtain ⟨y,hy,e⟩:=Option.bind_eq_some_iff.mp e
 refine ha δ σ H0 H _ x R hx fun v H1 s1 g1=> ?_
 refine hb δ σ H0 H1 _ y (R.same s1) hy fun u H2 s2 g2=> ?_
 exact hf H2 v u x y d Q (g1.same s2).bor g2.bor e fun z rz=>hq z H2 (fun a o h=>s2 a o (s1 a o h)) rz
theorem ah {op:Operator}{r:R2}{f:Dv->Dv->Option Dv}{k1 k2:Kd} (ho:OpR X (binaryOp op) r) (hf:OpD X.K r f) (ha:PD X ms k1 a ma) (hb:PD X ms k2 b mb):PD X ms .imm (.BinOp a op b pos) (eOp f ma mb):=by
 obtain ⟨ta,pa,qa⟩:=ha
 obtain ⟨tb,pb,qb⟩:=hb
 exact ⟨_,g8 ho pa pb,fW hf qa qb⟩
theorem i4 {op:CmpOp}{r:R2}{f:Dv->Dv->Option Dv}{k1 k2:Kd} (ho:OpR X (compareOp op) r) (hf:OpD X.K r f) (ha:PD X ms k1 a ma) (hb:PD X ms k2 b mb) (hm:behindInMarks op b=false):PD X ms .imm (.Compare a [op] [b] pos) (eOp f ma mb):=by
 obtain ⟨ta,pa,qa⟩:=ha
 obtain ⟨tb,pb,qb⟩:=hb
 exact ⟨_,mt ho pa pb hm,fW hf qa qb⟩
theorem bj {op:CmpOp}{r:R2}{f:Dv->Dv->Option Dv}{k1 k2:Kd} (ho:OpR X (compareOp op) r) (hf:OpD X.K r f) (ha:PD X ms k1 a ma) (hb:PD X ms k2 b mb) (hm:behindInMarks op b=false):PDt X ms (.Compare a [op] [b] pos) (tOf (eOp f ma mb)):=by
 obtain ⟨ta,pa,qa⟩:=ha
 obtain ⟨tb,pb,qb⟩:=hb
 refine ⟨_,my ho pa pb hm,fun δ σ H0 H Q c R hm hq=> ?_⟩
 obtain ⟨x,hx,e⟩:=Option.bind_eq_some_iff.mp hm
 refine fW hf qa qb δ σ H0 H _ x R hx fun v H' s g=> ?_
 cases x with
 |bl z=>cases e;cases g;exact ⟨_,rfl,hq H' s⟩
 |_=>cases e
theorem cY:OpD KF (rI0 fun i j=> .int (i+j)) dAdd:=by
 intro H x y dx dy d Q rx ry h hq
 unfold dAdd at h
 split at h
 ·cases h;cases rx;cases ry;exact ⟨_,_,rfl,rfl,hq _ (.int _)⟩
 ·cases h
theorem i5:OpD KF (rI0 fun i j=> .int (i-j)) dSub:=by
 intro H x y dx dy d Q rx ry h hq
 unfold dSub at h
 split at h
 ·cases h;cases rx;cases ry;exact ⟨_,_,rfl,rfl,hq _ (.int _)⟩
 ·cases h
theorem i6:OpD KF (rI0 fun i j=> .bl (decide (i<j))) dLt:=by
 intro H x y dx dy d Q rx ry h hq
 unfold dLt at h
 split at h
 ·cases h;cases rx;cases ry;exact ⟨_,_,rfl,rfl,hq _ (.bl _)⟩
 ·cases h
theorem eU:OpD KF (rI0 fun i j=> .bl (decide (j<i))) dGt:=by
 intro H x y dx dy d Q rx ry h hq
 unfold dGt at h
 split at h
 ·cases h;cases rx;cases ry;exact ⟨_,_,rfl,rfl,hq _ (.bl _)⟩
 ·cases h
theorem aV:OpD KF (rI (fun _ j=>0<j) fun i j=> .int (i%j)) dMod:=by
 intro H x y dx dy d Q rx ry h hq
 unfold dMod at h
 split at h
 rotate_left
 ·cases h
 cases rx
 cases ry
 split at h
 ·next c=>cases h;exact ⟨_,_,rfl,rfl,c,hq _ (.int _)⟩
 ·cases h
theorem bX:OpD KF (rI CDiv fun i j=> .int (i/j)) dDiv:=by
 intro H x y dx dy d Q rx ry h hq
 unfold dDiv at h
 split at h
 rotate_left
 ·cases h
 cases rx
 cases ry
 split at h
 ·next c=>cases h;exact ⟨_,_,rfl,rfl,c,hq _ (.int _)⟩
 ·cases h
theorem eV:OpD KF (rEqF KF) dEq:=by
 intro H x y dx dy d Q rx ry h hq
 unfold dEq at h
 split at h
 ·next c=>cases h;exact ⟨_,_,rx,ry,c,hq _ (.bl _)⟩
 ·cases h
theorem fX:OpD KF (rNeF KF) dNe:=by
 intro H x y dx dy d Q rx ry h hq
 unfold dNe at h
 split at h
 ·next c=>cases h;exact ⟨_,_,rx,ry,c,hq _ (.bl _)⟩
 ·cases h
theorem i7 {i:Int}{n:Nat} (h:i.natAbs<2^n):Builtin.Int.intBits i<=n:=by
 unfold Builtin.Int.intBits
 split
 ·exact Nat.zero_le _
 ·next h0=>
  have hn:i.natAbs≠0:=fun z=>h0 (by simpa using z)
  exact (Nat.log2_lt hn).mpr h
theorem nS {i j:Int} (h:bJ i j=true):IntMulOk i j:=by
 unfold bJ at h
 rw [Bool.or_eq_true,Bool.or_eq_true,Bool.and_eq_true] at h
 rcases h with (h|h)|⟨h1,h2⟩
 ·have:=of_decide_eq_true h
  exact (CMul.ok (.inl ⟨by lia,by lia⟩))
 ·have:=of_decide_eq_true h
  exact (CMul.ok (.inr ⟨by lia,by lia⟩))
 ·have h1:=of_decide_eq_true h1
  have h2:=of_decide_eq_true h2
  have b1:=i7 h1
  have b2:=i7 h2
  exact IntMulOk.of_bits (Nat.le_trans b1 (by decide)) (Nat.le_trans b2 (by decide))
theorem eW:OpD KF (rI iO fun i j=> .int (i*j)) dMul:=by
 intro H x y dx dy d Q rx ry h hq
 unfold dMul at h
 split at h
 rotate_left
 ·cases h
 cases rx
 cases ry
 split at h
 ·next c=>cases h;exact ⟨_,_,rfl,rfl,nS c,hq _ (.int _)⟩
 ·cases h
theorem nU {op:UnaryOp}{r:V->Hp->VK->Prop}{f:Dv->Option Dv} (ho:UnR X (unaryOp op) r) (hf: ∀(H:Hp) (x:V) (dx d:Dv) (Q:VK),RepF X.K (fun _=>True) H x dx->f dx=some d->(∀v,RepF X.K Imm H v d->Q v H)->r x H Q)
  (ha:PD X ms k a ma):PD X ms .imm (.UnaryOp op a pos) (eUn f ma):=by
 obtain ⟨ta,pa,qa⟩:=ha
 refine ⟨_,mn ho pa,fun δ σ H0 H Q d R hm hq=> ?_⟩
 obtain ⟨x,hx,e⟩:=Option.bind_eq_some_iff.mp hm
 refine qa δ σ H0 H _ x R hx fun v H1 s1 g1=> ?_
 exact hf H1 v x d Q g1.bor e fun z rz=>hq z H1 s1 rz
theorem nV (ha:PD X ms k a ma):PD X ms .imm (.UnaryOp .USub a pos) (eUn dNeg ma):=nU mq (fun H x dx d Q rx h hq=>by
 cases rx<;>simp only [dNeg] at h<;>first|cases h|skip
 exact ⟨_,rfl,hq _ (.int _)⟩) ha
theorem nW {op} (h:PD X ms k a ma):PD X ms k (.BoolOp op [a] pos) ma:=by
 obtain ⟨ta,pa,qa⟩:=h
 exact ⟨ta,gY pa,qa⟩
theorem nX {rest:List Expr}{k2:Kd} (ha:PD X ms k a ma) (hb:PD X ms k2 (.BoolOp .And (b::rest) pos) mb):PD X ms .bor (.BoolOp .And (a::b::rest) pos) (eAnd ma mb):=by
 obtain ⟨ta,pa,qa⟩:=ha
 obtain ⟨tb,pb,qb⟩:=hb
 refine ⟨_,fC pa pb,fun δ σ H0 H Q d R hm hq=> ?_⟩
 obtain ⟨x,hx,e⟩:=Option.bind_eq_some_iff.mp hm
 refine qa δ σ H0 H _ x R hx fun v H1 s1 g1=> ?_
 have g:=g1.bor
 cases g with
 |bl c=>
  refine ⟨c,rfl,?_⟩
  cases c with
  |true=>exact qb δ σ H0 H1 _ d (R.same s1) e fun u H2 s2 g2=>hq u H2 (fun a o h=>s2 a o (s1 a o h)) g2.bor
  |false=>cases e;exact hq _ H1 s1 (.bl false)
 |_=>cases e
theorem bq (h:PD X ms k e m) (he: ∀whole,isTrue e X.env whole=(do let v<-whole;standAt e.pos;holding [v] (truthy v)):=by intro _;rfl):PDt X ms e (tOf m):=by
 obtain ⟨te,pe,qe⟩:=h
 refine ⟨_,lF pe he,fun δ σ H0 H Q c R hm hq=> ?_⟩
 obtain ⟨x,hx,e⟩:=Option.bind_eq_some_iff.mp hm
 refine qe δ σ H0 H _ x R hx fun v H' s g=> ?_
 have g:=g.bor
 cases g with
 |bl z=>cases e;exact ⟨_,rfl,hq H' s⟩
 |_=>cases e
variable {ta' tb':Dt->Option Bool}
theorem bK (h:PDt X ms a ta'):PDt X ms (.UnaryOp .Not a pos) (tnot ta'):=by
 obtain ⟨t,p,q⟩:=h
 refine ⟨_,lK p,fun δ σ H0 H Q c R hm hq=> ?_⟩
 obtain ⟨x,hx,e⟩:=Option.map_eq_some_iff.mp hm
 subst e
 exact q δ σ H0 H _ x R hx fun H' s=>hq H' s
theorem nY (h:PDt X ms a ta'):PDw X ms (.BoolOp .And [a] pos) ta':=by
 obtain ⟨t,p,q⟩:=h
 exact ⟨t,lG p,q⟩
theorem fY (h:PDt X ms a ta'):PDw X ms (.BoolOp .Or [a] pos) ta':=by
 obtain ⟨t,p,q⟩:=h
 exact ⟨t,lH p,q⟩
theorem nZ {rest:List Expr} (h:PDt X ms a ta') (hb:PDw X ms (.BoolOp .And (b::rest) pos) tb'):PDw X ms (.BoolOp .And (a::b::rest) pos) (tand ta' tb'):=by
 obtain ⟨t,p,q⟩:=h
 obtain ⟨u,p2,q2⟩:=hb
 refine ⟨_,lI p p2,fun δ σ H0 H Q c R hm hq=> ?_⟩
 obtain ⟨x,hx,e⟩:=Option.bind_eq_some_iff.mp hm
 refine q δ σ H0 H _ x R hx fun H1 s1=> ?_
 cases x with
 |true=>exact q2 δ σ H0 H1 _ c (R.same s1) e fun H2 s2=>hq H2 fun a o h=>s2 a o (s1 a o h)
 |false=>cases e;exact hq H1 s1
theorem fZ {rest:List Expr} (h:PDt X ms a ta') (hb:PDw X ms (.BoolOp .Or (b::rest) pos) tb'):PDw X ms (.BoolOp .Or (a::b::rest) pos) (tor ta' tb'):=by
 obtain ⟨t,p,q⟩:=h
 obtain ⟨u,p2,q2⟩:=hb
 refine ⟨_,lJ p p2,fun δ σ H0 H Q c R hm hq=> ?_⟩
 obtain ⟨x,hx,e⟩:=Option.bind_eq_some_iff.mp hm
 refine q δ σ H0 H _ x R hx fun H1 s1=> ?_
 cases x with
 |false=>exact q2 δ σ H0 H1 _ c (R.same s1) e fun H2 s2=>hq H2 fun a o h=>s2 a o (s1 a o h)
 |true=>cases e;exact hq H1 s1
theorem PDw.pt (h:PDw X ms a ta'):PDt X ms a ta':=by
 obtain ⟨t,p,q⟩:=h
 exact ⟨t,p.pt,q⟩
variable {es:List Expr}{ml:Dt->Option (List Dv)}
theorem am:PDa X ms k [] aNil:=⟨_,bU,fun δ σ H0 H Q ds R hm hq=>by cases hm;exact hq [] H (fun _ _ z=>z) trivial⟩
theorem ae (ha:PD X ms k a ma) (hr:PDa X ms k es ml) (hs:starEach (a::es) X.env=(false,eval a X.env)::starEach es X.env:=by rfl):PDa X ms k (a::es) (aa ma ml):=by
 obtain ⟨ta,pa,qa⟩:=ha
 obtain ⟨tr,pr,qr⟩:=hr
 refine ⟨_,aI pa pr hs,fun δ σ H0 H Q ds R hm hq=> ?_⟩
 obtain ⟨x,hx,e⟩:=Option.bind_eq_some_iff.mp hm
 obtain ⟨xs,hxs,e⟩:=Option.bind_eq_some_iff.mp e
 cases e
 refine qa δ σ H0 H _ x R hx fun v H1 s1 g1=> ?_
 refine qr δ σ H0 H1 _ xs (R.same s1) hxs fun vs H2 s2 g2=> ?_
 exact hq (v::vs) H2 (fun a o h=>s2 a o (s1 a o h)) ⟨g1.same s2,g2.back s1⟩
theorem Same.new {H:Hp}{p:Addr}{o:HO} (h:H p=none):Same H (L2.upd H p o):=Same.upd h
theorem n6 {x1} (h:PDa X ms k es ml) (hk:k= .imm \/k= .frh \/k= .any \/k= .bor):PD X ms k (.Tuple es x1 pos) (eTup ml):=by
 obtain ⟨t,p,q⟩:=h
 refine ⟨_,hR p,fun δ σ H0 H Q d R hm hq=> ?_⟩
 obtain ⟨xs,hx,e⟩:=Option.bind_eq_some_iff.mp hm
 split at e
 ·next hl=>
  cases e
  refine q δ σ H0 H _ xs R hx fun vs H1 s1 g1=>⟨?_,fun p hp=> ?_⟩
  ·rw [g1.length];exact Nat.le_of_lt (cB hl)
  ·have s2:=Same.new (o:= .tup vs) hp
   refine hq _ _ (fun a o h=>s2 a o (s1 a o h)) ?_
   rcases hk with rfl|rfl|rfl|rfl
   ·exact .tup ax (g1.imms.same s2)
   ·exact .tup ax (g1.frhs.same s2)
   ·exact .tup ax (g1.anys.same s2)
   ·exact .tup ax (g1.bor.same s2)
 ·cases e
theorem cZ (h:PDa X ms k es ml):PD X ms .one (.List es pos) (bI ml):=by
 obtain ⟨t,p,q⟩:=h
 refine ⟨_,hU p,fun δ σ H0 H Q d R hm hq=> ?_⟩
 obtain ⟨xs,hx,e⟩:=Option.bind_eq_some_iff.mp hm
 split at e
 ·next hl=>
  cases e
  refine q δ σ H0 H _ xs R hx fun vs H1 s1 g1=>⟨?_,fun p hp=> ?_⟩
  ·rw [g1.length];exact Nat.le_of_lt (cB hl.1)
  ·have s2:=Same.new (o:= .lst vs) hp
   exact hq _ _ (fun a o h=>s2 a o (s1 a o h)) ⟨p,rfl,aU s1 hp,vs,ax,(g1.bor.imm hl.2).same s2⟩
 ·cases e
theorem n8 (h:PDa X ms .any es ml):PD X ms .any (.List es pos) (eLst ml):=by
 obtain ⟨t,p,q⟩:=h
 refine ⟨_,hU p,fun δ σ H0 H Q d R hm hq=> ?_⟩
 obtain ⟨xs,hx,e⟩:=Option.bind_eq_some_iff.mp hm
 split at e
 ·next hl=>
  cases e
  refine q δ σ H0 H _ xs R hx fun vs H1 s1 g1=>⟨?_,fun p hp=> ?_⟩
  ·rw [g1.length];exact Nat.le_of_lt (cB hl)
  ·have s2:=Same.new (o:= .lst vs) hp
   exact hq _ _ (fun a o h=>s2 a o (s1 a o h)) (.lst ((R.same s1).fresh hp) ax (g1.anys.same s2))
 ·cases e
end
end L2
set_option maxHeartbeats 4000000
namespace L2
open PySem PySem.Spec PyProof.Rows
variable {KF:PySem.W.Frag}{W W':Addr->Prop}
theorem Same.tr {H H1 H2:Hp} (a:Same H H1) (b:Same H1 H2):Same H H2:=fun x o h=>b x o (a x o h)
noncomputable def ixKd:Kd->Kd
 | .one=> .imm
 | .dp=> .frh
 |k=>k
section
variable {ms:List Nat}{σ:St}{H H1 H2:Hp}{k:Kd}
theorem RepsF.gots_imm: ∀{xs:List V}{ds:List Dv},RepsF KF Imm H1 xs ds->Gots KF .imm W H H1 xs ds
 |_,_,.nil=>trivial
 |_,_,.cons h r=>⟨h,RepsF.gots_imm r⟩
theorem RepsF.gots_frh: ∀{xs:List V}{ds:List Dv},RepsF KF (fun a=>H a=none) H1 xs ds->Gots KF .frh W H H1 xs ds
 |_,_,.nil=>trivial
 |_,_,.cons h r=>⟨h,RepsF.gots_frh r⟩
theorem RepsF.gots_any: ∀{xs:List V}{ds:List Dv},RepsF KF (fun a=> ¬W a) H1 xs ds->Gots KF .any W H H1 xs ds
 |_,_,.nil=>trivial
 |_,_,.cons h r=>⟨h,RepsF.gots_any r⟩
theorem RepsF.gots_bor: ∀{xs:List V}{ds:List Dv},RepsF KF (fun _=>True) H1 xs ds->Gots KF .bor W H H1 xs ds
 |_,_,.nil=>trivial
 |_,_,.cons h r=>⟨h,RepsF.gots_bor r⟩
theorem Got.lst {v:V}{ds:List Dv} (g:Got KF k W H H1 v (.lst ds)): ∃a xs,v= .ref a/\H1 a=some (.lst xs)/\Gots KF (ixKd k) W H H1 xs ds:=by
 cases k with
 |one=>obtain ⟨a,rfl,_,xs,e,r⟩:=g;exact ⟨a,xs,rfl,e,r.gots_imm⟩
 |dp=>
  obtain ⟨F,nd,h,c⟩:=g
  cases c.rep h with
  |lst s h r=>exact ⟨_,_,rfl,h,r.gots_frh⟩
 |imm=>cases g with|lst s h r=>exact s.elim
 |frh=>cases g with|lst s h r=>exact ⟨_,_,rfl,h,r.gots_frh⟩
 |any=>cases g with|lst s h r=>exact ⟨_,_,rfl,h,r.gots_any⟩
 |bor=>cases g with|lst s h r=>exact ⟨_,_,rfl,h,r.gots_bor⟩
theorem Got.tup {v:V}{ds:List Dv} (g:Got KF k W H H1 v (.tup ds)): ∃a xs,v= .ref a/\H1 a=some (.tup xs)/\Gots KF (ixKd k) W H H1 xs ds:=by
 cases k with
 |one=>obtain ⟨a,rfl,_,c⟩:=g;exact c.elim
 |dp=>
  obtain ⟨F,nd,h,c⟩:=g
  cases c.rep h with
  |tup h r=>exact ⟨_,_,rfl,h,r.gots_frh⟩
 |imm=>cases g with|tup h r=>exact ⟨_,_,rfl,h,r.gots_imm⟩
 |frh=>cases g with|tup h r=>exact ⟨_,_,rfl,h,r.gots_frh⟩
 |any=>cases g with|tup h r=>exact ⟨_,_,rfl,h,r.gots_any⟩
 |bor=>cases g with|tup h r=>exact ⟨_,_,rfl,h,r.gots_bor⟩
theorem n9 {v:V}{d:Dv} (r:RepF KF Imm H1 v d):Got KF (ixKd k) W H H1 v d:=by
 cases k with
 |one=>exact r
 |dp=>exact r.mono fun _ _ z=>z.elim
 |imm=>exact r
 |frh=>exact r.mono fun _ _ z=>z.elim
 |any=>exact r.mono fun _ _ z=>z.elim
 |bor=>exact r.mono fun _ _ z=>z.elim
theorem Gots.get: ∀{xs:List V}{ds:List Dv}{j:Nat}{d:Dv},Gots KF k W H H1 xs ds->ds[j]?=some d-> ∃u,xs[j]?=some u/\Got KF k W H H1 u d
 |[],[],_,_,_,e=>by simp at e
 |x::_,_::_,0,_,g,e=>by simp at e;subst e;exact ⟨x,rfl,g.1⟩
 |_::_,_::_,j+1,d,g,e=>by
  obtain ⟨u,h1,h2⟩:=Gots.get (j:=j) (d:=d) g.2 (by simpa using e)
  exact ⟨u,by simpa using h1,h2⟩
 |[],_::_,_,_,g,_=>g.elim
 |_::_,[],_,_,g,_=>g.elim
theorem Gots.atI {xs:List V}{ds:List Dv}{i:Int}{d:Dv} (g:Gots KF k W H H1 xs ds) (e:L2.atI ds i=some d): ∃u,L2.atI xs i=some u/\Got KF k W H H1 u d:=by
 unfold L2.atI at e|-
 rw [g.length]
 obtain ⟨j,hj,e⟩:=Option.bind_eq_some_iff.mp e
 obtain ⟨u,hu,q⟩:=g.get e
 exact ⟨u,by rw [hj];exact hu,q⟩
end
section
variable {X:Cx}{ms:List Nat}{k k1 k2:Kd}{e a b:Expr}{m ma mb:EM}{pos:Pos}
theorem eX (ha:PD X ms k a ma) (hb:PD X ms k2 b mb) (hs:fI b):PD X ms (ixKd k) (.Subscript a b pos) (eOp dIx ma mb):=by
 obtain ⟨ta,pa,qa⟩:=ha
 obtain ⟨tb,pb,qb⟩:=hb
 refine ⟨_,io mR pa pb hs,fun δ σ H0 H Q d R hm hq=> ?_⟩
 obtain ⟨x,hx,e⟩:=Option.bind_eq_some_iff.mp hm
 obtain ⟨y,hy,e⟩:=Option.bind_eq_some_iff.mp e
 refine qa δ σ H0 H _ x R hx fun v H1 s1 g1=> ?_
 refine qb δ σ H0 H1 _ y (R.same s1) hy fun u H2 s2 g2=> ?_
 have g1:=g1.same s2
 have s12:=s1.tr s2
 have g2:=g2.bor
 cases x with
 |lst ds=>
  cases g2<;>simp only [dIx] at e<;>first|cases e|skip
  obtain ⟨p,xs,rfl,h,r⟩:=g1.lst
  obtain ⟨z,hz,gz⟩:=r.atI e
  exact .inl ⟨p,xs,_,z,rfl,rfl,SqL.of h,hz,hq z H2 s12 gz⟩
 |scr ns=>
  cases g2<;>simp only [dIx] at e<;>first|cases e|skip
  have g:=g1.bor
  cases g with
  |scr h=>
   obtain ⟨z,hz,rfl⟩:=Option.map_eq_some_iff.mp e
   refine .inl ⟨_,_,_,.int z,rfl,rfl,h.sq,?_,hq _ H2 s12 (n9 (.int z))⟩
   unfold atI at hz|-
   rw [List.length_map]
   obtain ⟨j,hj,e⟩:=Option.bind_eq_some_iff.mp hz
   rw [hj]
   show (ns.map V.int)[j]?=_
   rw [List.getElem?_map,e]
   rfl
 |tup ds=>
  cases g2<;>simp only [dIx] at e<;>first|cases e|skip
  obtain ⟨p,xs,rfl,h,r⟩:=g1.tup
  obtain ⟨z,hz,gz⟩:=r.atI e
  exact .inr (.inl ⟨p,xs,_,z,rfl,rfl,SqT.of h,hz,hq z H2 s12 gz⟩)
 |_=>cases g2<;>simp only [dIx] at e<;>cases e
noncomputable def PDo (X:Cx) (ms:List Nat) (e:Option Expr) (m:Dt->Option (Option Int)):Prop:= ∃t,PO X e t/\
 ∀{W:Addr->Prop} (δ:Dt) (σ:St) (H0 H:Hp) (Q:Option Int->Hp->Prop) (o:Option Int),Rel X.K ms W H0 δ σ H->m δ=some o->(∀H',Same H H'->Q o H')->t σ H Q
noncomputable def bB:Dt->Option (Option Int):=fun _=>some none
noncomputable def i8:Dv->Option Int
 | .int i=>some i
 |_=>none
noncomputable def br (m:EM):Dt->Option (Option Int):=fun δ=>(m δ).bind fun d=>(i8 d).map some
theorem eY:PDo X ms none bB:=⟨_,mK,fun δ σ H0 H Q o R hm hq=>by cases hm;exact hq H fun _ _ z=>z⟩
theorem eZ (h:PD X ms k e m):PDo X ms (some e) (br m):=by
 obtain ⟨te,p,q⟩:=h
 refine ⟨_,mL p,fun δ σ H0 H Q o R hm hq=> ?_⟩
 obtain ⟨x,hx,e⟩:=Option.bind_eq_some_iff.mp hm
 refine q δ σ H0 H _ x R hx fun v H1 s1 g1=> ?_
 have g:=g1.bor
 cases g<;>simp only [i8] at e<;>cases e
 exact ⟨_,rfl,hq H1 s1⟩
noncomputable def cutD {α:Type} (xs:List α) (lo hi:Option Int):List α:=(xs.drop (HT.sIx xs.length 0 lo)).take (HT.sIx xs.length xs.length hi-HT.sIx xs.length 0 lo)
noncomputable def eSl (m:EM) (lo hi:Dt->Option (Option Int)):EM:=fun δ=>(m δ).bind fun x=>(lo δ).bind fun l=>(hi δ).bind fun h=>match x with
 | .lst ds=>if imms (cutD ds l h)=true then some (.lst (cutD ds l h)) else none
 | .scr ns=>some (.lst (cutD (ns.map Dv.int) l h))
 |_=>none
theorem og {lo hi:Option Expr}{ml mh:Dt->Option (Option Int)}{p2:Pos} (he:PD X ms k e m) (hl:PDo X ms lo ml) (hh:PDo X ms hi mh):PD X ms .one (.Subscript e (.Slice lo hi none p2) pos) (eSl m ml mh):=by
 obtain ⟨te,p,q⟩:=he
 obtain ⟨tl,pl,ql⟩:=hl
 obtain ⟨th,ph,qh⟩:=hh
 refine ⟨_,fG mX p pl ph,fun δ σ H0 H Q d R hm hq=> ?_⟩
 obtain ⟨x,hx,e⟩:=Option.bind_eq_some_iff.mp hm
 obtain ⟨l,hl,e⟩:=Option.bind_eq_some_iff.mp e
 obtain ⟨h,hh,e⟩:=Option.bind_eq_some_iff.mp e
 refine q δ σ H0 H _ x R hx fun v H1 s1 g1=> ?_
 refine ql δ σ H0 H1 _ l (R.same s1) hl fun H2 s2=> ?_
 refine qh δ σ H0 H2 _ h (R.same (s1.tr s2)) hh fun H3 s3=> ?_
 have g:=(g1.same (s2.tr s3)).bor
 cases g with
 | @lst a xs ds _ hr r=>
  simp only at e
  split at e
  ·next hi=>
   cases e
   refine ⟨a,xs,rfl,SqL.of hr,fun p hp=> ?_⟩
   have s4:=Same.new (o:= .lst (cutV xs l h)) hp
   have s03:=s1.tr (s2.tr s3)
   refine hq _ _ (s03.tr s4) ⟨p,rfl,aU s03 hp,_,ax,?_⟩
   have rr:RepsF X.K (fun _=>True) H3 (cutV xs l h) (cutD ds l h):=by
    unfold cutV cutD
    rw [r.length]
    exact (r.drop _).take _
   exact (rr.imm hi).same s4
  ·cases e
 | @scr a ns hr=>
  cases e
  refine ⟨a,_,rfl,hr.sq,fun p hp=> ?_⟩
  have s4:=Same.new (o:= .lst (cutV (ns.map V.int) l h)) hp
  have s03:=s1.tr (s2.tr s3)
  refine hq _ _ (s03.tr s4) ⟨p,rfl,aU s03 hp,_,ax,?_⟩
  have r: ∀HH,RepsF X.K Imm HH (ns.map V.int) (ns.map Dv.int):=fun _=>eR ns
  generalize L2.upd H3 p (.lst (cutV (ns.map V.int) l h))=HH
  unfold cutV cutD
  have:=((r HH).drop (HT.sIx (ns.map V.int).length 0 l)).take (HT.sIx (ns.map V.int).length (ns.map V.int).length h-HT.sIx (ns.map V.int).length 0 l)
  simpa using this
 |_=>cases e
noncomputable def bL (KF:PySem.W.Frag) (r:List V->Hp->VK->Prop) (k:Kd) (f:List Dv->Option Dv):Prop:=
 ∀(W:Addr->Prop) (H:Hp) (vs:List V) (ds:List Dv) (d:Dv) (Q:VK),RepsF KF (fun _=>True) H vs ds->f ds=some d->(∀v H',Same H H'->Got KF k W H H' v d->Q v H')->r vs H Q
noncomputable def aj (f:List Dv->Option Dv) (a:Dt->Option (List Dv)):EM:=fun δ=>(a δ).bind f
variable {es:List Expr}{ml:Dt->Option (List Dv)}{r:List V->Hp->VK->Prop}{f:List Dv->Option Dv}{x:Str}{p:Pos}
theorem bC {id:String} (hc:ba X (.builtin id) r) (hf:bL X.K r k f) (hg:Gl X x) (hm:X.mg x=none) (hv:bootBuiltins x=some (.builtin id)) (ha:PDa X ms k1 (a::es) ml) (hn:x≠"__name__":=by decide) (hdb:(x==("__debug__":Str))=false:=by decide)
  (he:starEach (a::es) X.env=(false,eval a X.env)::starEach es X.env:=by rfl) (hpl:(backTo pos (starEach es X.env)).any (·.1)=false:=by rfl):
  PD X ms k (.Call (.Name x p) (a::es) [] pos) (aj f ml):=by
 obtain ⟨ta,pa,qa⟩:=ha
 refine ⟨_,d3 hc hg hm hv pa hn hdb he hpl,fun δ σ H0 H Q d R hm hq=> ?_⟩
 obtain ⟨xs,hx,e⟩:=Option.bind_eq_some_iff.mp hm
 refine qa δ σ H0 H _ xs R hx fun vs H1 s1 g1=> ?_
 exact hf _ H1 vs xs d Q g1.bor e fun v H' s g=>hq v H' (s1.tr s) (g.back s1)
theorem df {T:String} (hc:ba X (.type T) r) (hf:bL X.K r k f) (hg:Gl X x) (hm:X.mg x=none) (hv:bootBuiltins x=some (.type T)) (ha:PDa X ms k1 (a::es) ml) (hn:x≠"__name__":=by decide) (hdb:(x==("__debug__":Str))=false:=by decide)
  (he:starEach (a::es) X.env=(false,eval a X.env)::starEach es X.env:=by rfl) (hpl:(backTo pos (starEach es X.env)).any (·.1)=false:=by rfl):
  PD X ms k (.Call (.Name x p) (a::es) [] pos) (aj f ml):=by
 obtain ⟨ta,pa,qa⟩:=ha
 refine ⟨_,mG hc hg hm hv pa hn hdb he hpl,fun δ σ H0 H Q d R hm hq=> ?_⟩
 obtain ⟨xs,hx,e⟩:=Option.bind_eq_some_iff.mp hm
 refine qa δ σ H0 H _ xs R hx fun vs H1 s1 g1=> ?_
 exact hf _ H1 vs xs d Q g1.bor e fun v H' s g=>hq v H' (s1.tr s) (g.back s1)
noncomputable def fLen:List Dv->Option Dv
 |[d]=>dLen d
 |_=>none
theorem dg:bL KF (fun xs H Q=> ∃p ys,xs=[.ref p]/\(SqL KF H p ys \/SqT KF H p ys)/\Q (.int ys.length) H) .imm fLen:=by
 intro W H vs ds d Q r e hq
 cases r with
 |nil=>cases e
 |cons h r=>
  cases r with
  |cons _ _=>cases e
  |nil=>
   cases h<;>simp only [fLen,dLen] at e<;>cases e
   ·next a xs ds s h q=>
    refine ⟨a,xs,rfl,.inl (SqL.of h),?_⟩
    rw [q.length]
    exact hq _ H (fun _ _ z=>z) (RepF.int _)
   ·next a xs ds h q=>
    refine ⟨a,xs,rfl,.inr (SqT.of h),?_⟩
    rw [q.length]
    exact hq _ H (fun _ _ z=>z) (RepF.int _)
   ·next a ns h=>
    refine ⟨a,_,rfl,.inl h.sq,?_⟩
    rw [List.length_map]
    exact hq _ H (fun _ _ z=>z) (RepF.int _)
noncomputable def cD:List Dv->Option Dv
 |[.scr ns]=>some (.tup (ns.map .int))
 |[.lst ds]=>if imms ds=true then some (.tup ds) else none
 |[.tup ds]=>if imms ds=true then some (.tup ds) else none
 |_=>none
theorem i9:bL KF (fun xs H Q=> ∃p ys,xs=[.ref p]/\((SqL KF H p ys/\ ∀l,H l=none->Q (.ref l) (upd H l (.tup ys))) \/(SqT KF H p ys/\Q (.ref p) H))) .imm cD:=by
 intro W H vs ds d Q r e hq
 cases r with
 |nil=>cases e
 |cons h r=>
  cases r with
  |cons _ _=>unfold cD at e;split at e<;>first|(next z=>cases z;done)|cases e
  |nil=>
   cases h<;>simp only [cD] at e<;>first|cases e|skip
   ·next a xs ds s h q=>
    split at e
    ·next hi=>
     cases e
     refine ⟨a,xs,rfl,.inl ⟨SqL.of h,fun l hl=> ?_⟩⟩
     have s:=Same.new (o:= .tup xs) hl
     exact hq _ _ s (RepF.tup ax ((q.imm hi).same s))
    ·cases e
   ·next a xs ds h q=>
    split at e
    ·next hi=>cases e;exact ⟨a,xs,rfl,.inr ⟨SqT.of h,hq _ H (fun _ _ z=>z) (RepF.tup h (q.imm hi))⟩⟩
    ·cases e
   ·next a ns h=>
    refine ⟨a,_,rfl,.inl ⟨h.sq,fun l hl=> ?_⟩⟩
    exact hq _ _ (Same.new hl) (RepF.tup ax (eR ns))
noncomputable def bY:List Dv->Option Dv
 |[.scr ns]=>some (.lst (ns.map .int))
 |[.lst ds]=>if imms ds=true then some (.lst ds) else none
 |[.tup ds]=>if imms ds=true then some (.lst ds) else none
 |_=>none
theorem ja:bL KF (fun xs H Q=> ∃p ys,xs=[.ref p]/\(SqL KF H p ys \/SqT KF H p ys)/\ ∀l,H l=none->Q (.ref l) (upd H l (.lst ys))) .one bY:=by
 intro W H vs ds d Q r e hq
 cases r with
 |nil=>cases e
 |cons h r=>
  cases r with
  |cons _ _=>unfold bY at e;split at e<;>first|(next z=>cases z;done)|cases e
  |nil=>
   cases h<;>simp only [bY] at e<;>first|cases e|skip
   ·next a xs ds s h q=>
    split at e
    ·next hi=>
     cases e
     refine ⟨a,xs,rfl,.inl (SqL.of h),fun l hl=> ?_⟩
     have s:=Same.new (o:= .lst xs) hl
     exact hq _ _ s ⟨l,rfl,hl,_,ax,(q.imm hi).same s⟩
    ·cases e
   ·next a xs ds h q=>
    split at e
    ·next hi=>
     cases e
     refine ⟨a,xs,rfl,.inr (SqT.of h),fun l hl=> ?_⟩
     have s:=Same.new (o:= .lst xs) hl
     exact hq _ _ s ⟨l,rfl,hl,_,ax,(q.imm hi).same s⟩
    ·cases e
   ·next a ns h=>
    refine ⟨a,_,rfl,.inl h.sq,fun l hl=> ?_⟩
    exact hq _ _ (Same.new hl) ⟨l,rfl,hl,_,ax,eR ns⟩
noncomputable def cE (x y:Dv):Option Dv:=(dCat x y).bind fun z=>match z with
 | .lst ds=>if imms ds=true then some (.lst ds) else none
 |_=>none
noncomputable def oh:R2:=fun x y H Q=> ∃l b xs zs,x= .ref l/\y= .ref b/\H l=some (.lst xs)/\H b=some (.lst zs)/\xs.length+zs.length<=sizeLine/\ ∀p,H p=none->Q (.ref p) (upd H p (.lst (xs++zs)))
theorem oi:OpR X (binaryOp .Add) oh:=by
 intro pins s σ H x y v u Q I rx ry h
 obtain ⟨l,b,xs,zs,rfl,rfl,hH,hB,hz,q⟩:=h
 cases rx
 cases ry
 obtain ⟨z,its,n,r,e⟩:=(show Rd H l (.lst xs) from .inl hH).ok I.hok
 obtain ⟨z2,its2,n2,r2,e2⟩:=(show Rd H b (.lst zs) from .inl hB).ok I.hok
 have hl:=r.length
 have hl2:=r2.length
 refine PySem.P.add_list e e2 ?_ (by rw [List.size_toArray,List.size_toArray];lia)
 have ea:its.toArray++its2.toArray=(its++its2).toArray:=by simp
 rw [ea]
 exact ⟨.ref _,_,I.lnew (t':=s.toks) (r.append r2) (by rw [List.length_append];lia),rfl,q _ I.fresh⟩
theorem jb (ha:PD X ms k1 a ma) (hb:PD X ms k2 b mb):PD X ms .one (.BinOp a .Add b pos) (eOp cE ma mb):=by
 obtain ⟨ta,pa,qa⟩:=ha
 obtain ⟨tb,pb,qb⟩:=hb
 refine ⟨_,g8 oi pa pb,fun δ σ H0 H Q d R hm hq=> ?_⟩
 obtain ⟨x,hx,e⟩:=Option.bind_eq_some_iff.mp hm
 obtain ⟨y,hy,e⟩:=Option.bind_eq_some_iff.mp e
 obtain ⟨z,hz,e⟩:=Option.bind_eq_some_iff.mp e
 refine qa δ σ H0 H _ x R hx fun v H1 s1 g1=> ?_
 refine qb δ σ H0 H1 _ y (R.same s1) hy fun u H2 s2 g2=> ?_
 have g1:=(g1.same s2).bor
 have g2:=g2.bor
 cases g1 with
 | @lst p1 vs xs _ e1 r1=>
  cases g2 with
  | @lst p2 us ys _ e2 r2=>
   simp only [dCat] at hz
   split at hz
   ·next hl=>
    cases hz
    simp only at e
    split at e
    ·next hi=>
     cases e
     refine ⟨p1,p2,vs,us,rfl,rfl,e1,e2,?_,fun p hp=> ?_⟩
     ·rw [r1.length,r2.length];exact Nat.le_of_lt (cB hl)
     ·have s:=Same.new (o:= .lst (vs++us)) hp
      exact hq _ _ (s1.tr (s2.tr s)) ⟨p,rfl,aU (s1.tr s2) hp,_,ax,((r1.append r2).imm hi).same s⟩
    ·cases e
   ·cases hz
  |_=>cases hz
 |_=>cases hz
end
end L2
set_option maxHeartbeats 4000000
namespace L2
open PySem PySem.Spec PyProof.Rows
variable {KF:PySem.W.Frag}{W W':Addr->Prop}
noncomputable def bM (W:Addr->Prop) (H H':Hp):Prop:= ∀a o,H a=some o-> ¬W a->H' a=some o
noncomputable def IOk (KF:PySem.W.Frag) (W:Addr->Prop) (lp:Bool) (H:Hp) (J:It) (ds:List Dv):Prop:=
 ds.length<=lim/\ ∀H',Same H H' \/(lp=true/\bM W H H')->(∀i,i<ds.length->J.go i H')/\(∀i x H'',i<ds.length->J.yld i H' x H''->H''=H'/\ ∃d,ds[i]?=some d/\RepF KF (fun a=> ¬W a/\H a≠none) H' x d)/\J.stop ds.length H'
noncomputable def PDi (X:Cx) (ms:List Nat) (lp:Bool) (tg iter:Expr) (m:Dt->Option (List Dv)):Prop:= ∃wi,PI X tg iter wi/\
 ∀{W:Addr->Prop} (δ:Dt) (σ:St) (H0 H:Hp) (R:It->Hp->Prop) (ds:List Dv),Rel X.K ms W H0 δ σ H->m δ=some ds->(∀J H',Same H H'->IOk X.K W lp H' J ds->R J H')->wi σ H R
noncomputable def iL (m:EM):Dt->Option (List Dv):=fun δ=>(m δ).bind fun x=>match x with
 | .scr ns=>if ns.length<=lim then some (ns.map .int) else none
 | .lst ds=>if ds.length<=lim then some ds else none
 |_=>none
noncomputable def iLI (m:EM):Dt->Option (List Dv):=fun δ=>(m δ).bind fun x=>match x with
 | .lst ds=>if ds.length<=lim/\imms ds=true then some ds else none
 |_=>none
noncomputable def iT (m:EM):Dt->Option (List Dv):=fun δ=>(m δ).bind fun x=>match x with
 | .tup ds=>if ds.length<=lim then some ds else none
 |_=>none
noncomputable def iTI (m:EM):Dt->Option (List Dv):=fun δ=>(m δ).bind fun x=>match x with
 | .tup ds=>if ds.length<=lim/\imms ds=true then some ds else none
 |_=>none
noncomputable def bn (lo:Int) (n:Nat):List Dv:=(List.range n).map fun (i:Nat)=> .int (lo+(i:Int))
noncomputable def iR1 (m:EM):Dt->Option (List Dv):=fun δ=>(m δ).bind fun x=>match x with
 | .int j=>if-(2^60)<=j/\j<=lim then some (bn 0 j.toNat) else none
 |_=>none
theorem bM.keeps {ms:List Nat}{σ:St}{H H':Hp}{H0:Hp}{δ:Dt} (R:Rel KF ms W H0 δ σ H) (s:bM W H H'):ay (fun a=> ¬W a) H H':=fun a o h c=>by
 rcases c with ⟨xs,rfl⟩|⟨b,u,rfl⟩|c
 ·exact s a _ h fun z=>by
   obtain ⟨o',e',n⟩:=R.own z
   rw [h] at e';cases e'
   exact n.1 xs rfl
 ·exact s a _ h fun z=>by
   obtain ⟨o',e',n⟩:=R.own z
   rw [h] at e';cases e'
   exact n.2 b u rfl
 ·exact s a o h c
theorem jd {lo:Int}{n i:Nat} (h:i<n):(bn lo n)[i]?=some (.int (lo+(i:Int))):=by
 unfold bn
 rw [List.getElem?_map,List.getElem?_range h]
 rfl
theorem gb (lo:Int) (n:Nat):(bn lo n).length=n:=by unfold bn;simp
section
variable {X:Cx}{ms:List Nat}{k:Kd}{lp:Bool}{tg e a b:Expr}{m ma mb:EM}{pos:Pos}
theorem oj {σ:St}{H H0:Hp}{δ:Dt}{p:Addr}{xs:List V}{ds:List Dv} (R:Rel KF ms W H0 δ σ H) (n: ¬W p) (h:H p=some (.lst xs)) (r:RepsF KF (fun a=> ¬W a) H xs ds) (hz:ds.length<=lim):IOk KF W lp H (Itl KF p) ds:=by
 refine ⟨hz,fun H' s=> ?_⟩
 have kp:ay (fun a=> ¬W a) H H':=by
  rcases s with s|⟨_,s⟩
  ·exact .of s
  ·exact bM.keeps R s
 have h':=kp _ _ h (.inr (.inr n))
 have r':=RepsF.keep (S:=fun a=> ¬W a/\H a≠none) (kp.mono fun _ z=>z.1) (r.mono fun _ h n=>⟨n,h⟩)
 refine ⟨fun i hi=> ?_,fun i x H'' hi y=> ?_,⟨xs,SqL.of h',by rw [r.length];exact Nat.le_refl _⟩⟩
 ·have hx:i<xs.length:=by rw [r.length];exact hi
  exact ⟨xs,xs[i],SqL.of h',by simp [hx]⟩
 ·obtain ⟨e1,e2⟩:=y
  obtain ⟨d,hd,rd⟩:=r'.get' (e2 xs (SqL.of h'))
  exact ⟨e1,d,hd,rd⟩
theorem om {σ:St}{H H0:Hp}{δ:Dt}{p:Addr}{ns:List Int} (R:Rel KF ms W H0 δ σ H) (h:Scr KF H p ns) (hz:ns.length<=lim):IOk KF W lp H (Itl KF p) (ns.map .int):=by
 refine ⟨by rw [List.length_map];exact hz,fun H' s=> ?_⟩
 have kp:ay (fun a=> ¬W a) H H':=by
  rcases s with s|⟨_,s⟩
  ·exact .of s
  ·exact bM.keeps R s
 have h':Scr KF H' p ns:=h.imp (fun ⟨o,q⟩=>⟨o,kp _ _ q (.inr (.inl ⟨_,_,rfl⟩))⟩) id
 rw [List.length_map]
 refine ⟨fun i hi=> ?_,fun i x H'' hi y=> ?_,⟨_,h'.sq,by rw [List.length_map];exact Nat.le_refl _⟩⟩
 ·exact ⟨_,.int ns[i],h'.sq,by simp [hi]⟩
 ·obtain ⟨e1,e2⟩:=y
  have e3:=e2 _ h'.sq
  rw [List.getElem?_map,List.getElem?_eq_getElem hi] at e3
  cases e3
  exact ⟨e1,.int ns[i],by simp [hi],.int _⟩
theorem on {σ:St}{H H0:Hp}{δ:Dt}{p:Addr}{xs:List V}{ds:List Dv} (R:Rel KF ms W H0 δ σ H) (h:H p=some (.tup xs)) (r:RepsF KF (fun a=> ¬W a) H xs ds) (hz:ds.length<=lim):IOk KF W lp H (Itt KF p) ds:=by
 refine ⟨hz,fun H' s=> ?_⟩
 have kp:ay (fun a=> ¬W a) H H':=by
  rcases s with s|⟨_,s⟩
  ·exact .of s
  ·exact bM.keeps R s
 have h':=kp _ _ h (.inl ⟨xs,rfl⟩)
 have r':=RepsF.keep (S:=fun a=> ¬W a/\H a≠none) (kp.mono fun _ z=>z.1) (r.mono fun _ h n=>⟨n,h⟩)
 refine ⟨fun i hi=> ?_,fun i x H'' hi y=> ?_,⟨xs,SqT.of h',by rw [r.length];exact Nat.le_refl _⟩⟩
 ·have hx:i<xs.length:=by rw [r.length];exact hi
  exact ⟨xs,xs[i],SqT.of h',by simp [hx]⟩
 ·obtain ⟨e1,e2⟩:=y
  obtain ⟨d,hd,rd⟩:=r'.get' (e2 xs (SqT.of h'))
  exact ⟨e1,d,hd,rd⟩
theorem oq {H:Hp}{lo:Int}{n:Nat} (hz:n<=lim):IOk KF W lp H (Itr lo n) (bn lo n):=by
 refine ⟨by rw [gb];exact hz,fun H' s=> ?_⟩
 rw [gb]
 refine ⟨fun i hi=>hi,fun i x H'' hi y=> ?_,Nat.le_refl n⟩
 obtain ⟨e1,e2⟩:=y
 subst e2
 exact ⟨e1,_,jd hi,.int _⟩
theorem je (h:PD X ms .any e m):PDi X ms lp tg e (iL m):=by
 obtain ⟨te,p,q⟩:=h
 refine ⟨_,lV p,fun δ σ H0 H R ds L hm hq=> ?_⟩
 obtain ⟨x,hx,e⟩:=Option.bind_eq_some_iff.mp hm
 refine q δ σ H0 H _ x L hx fun v H1 s1 g=> ?_
 cases x with
 |lst zs=>
  simp only at e
  split at e
  ·next hz=>
   cases e
   cases g with
   |lst n h r=>exact ⟨_,rfl,⟨_,SqL.of h⟩,hq _ H1 s1 (oj (L.same s1) n h r hz)⟩
  ·cases e
 |scr ns=>
  simp only at e
  split at e
  ·next hz=>
   cases e
   cases g with
   |scr h=>exact ⟨_,rfl,⟨_,h.sq⟩,hq _ H1 s1 (om (L.same s1) h hz)⟩
  ·cases e
 |_=>cases e
theorem ou (h:PD X ms .any e m):PDi X ms lp tg e (iT m):=by
 obtain ⟨te,p,q⟩:=h
 refine ⟨_,lW p,fun δ σ H0 H R ds L hm hq=> ?_⟩
 obtain ⟨x,hx,e⟩:=Option.bind_eq_some_iff.mp hm
 refine q δ σ H0 H _ x L hx fun v H1 s1 g=> ?_
 cases x with
 |tup zs=>
  simp only at e
  split at e
  ·next hz=>
   cases e
   cases g with
   |tup h r=>exact ⟨_,rfl,⟨_,SqT.of h⟩,hq _ H1 s1 (on (L.same s1) h r hz)⟩
  ·cases e
 |_=>cases e
theorem oy {j:Int} (h:j<=(lim:Int)):j<2^62:=Int.lt_of_le_of_lt h (by decide)
theorem jf {p:Pos} (hg:Gl X "range") (hm:X.mg "range"=none) (h:PD X ms k a m) (hs:starEach [a] X.env=[(false,eval a X.env)]:=by rfl):PDi X ms lp tg (.Call (.Name "range" p) [a] [] pos) (iR1 m):=by
 obtain ⟨te,pe,q⟩:=h
 refine ⟨_,lZ hg hm (aI pe bU hs) hs,fun δ σ H0 H R ds L hm hq=> ?_⟩
 obtain ⟨x,hx,e⟩:=Option.bind_eq_some_iff.mp hm
 refine q δ σ H0 H _ x L hx fun v H1 s1 g=> ?_
 have g:=g.bor
 cases g with
 |int j=>
  simp only at e
  split at e
  ·next hl=>
   cases e
   exact ⟨j,rfl,Int.le_trans (by decide) hl.1,oy hl.2,hq _ H1 s1 (oq (by have:=hl.2;lia))⟩
  ·cases e
 |_=>cases e
end
noncomputable def bb (ms:List Nat) (σ σ':St):Prop:= ∀i,isOwn ms i=true->σ'[i]?=σ[i]?
theorem bb.refl {ms:List Nat}{σ:St}:bb ms σ σ:=fun _ _=>rfl
theorem bb.tr {ms:List Nat}{σ σ1 σ2:St} (a:bb ms σ σ1) (b:bb ms σ1 σ2):bb ms σ σ2:=fun i h=>(b i h).trans (a i h)
noncomputable def DG (KF:PySem.W.Frag) (ms:List Nat) (g:TG) (m:Dv->Dt->Option Dt):Prop:=
 ∀{W:Addr->Prop} (δ δ1:Dt) (σ:St) (H0 H:Hp) (v:V) (d:Dv) (Q:St->Hp->Prop),Rel KF ms W H0 δ σ H->RepF KF (fun a=> ¬W a) H v d->m d δ=some δ1->(∀σ1,Rel KF ms W H0 δ1 σ1 H->bb ms σ σ1->Q σ1 H)->g v σ H Q
noncomputable def PDg (X:Cx) (ms:List Nat) (tg:Expr) (m:Dv->Dt->Option Dt):Prop:= ∃g,PG X tg g/\DG X.K ms g m
noncomputable def gN (i:Nat):Dv->Dt->Option Dt:=fun d δ=>some (δ.set i (some d))
noncomputable def gZ:List Dv->Dt->Option Dt
 |[],δ=>some δ
 |_,_=>none
noncomputable def gC (g:Dv->Dt->Option Dt) (r:List Dv->Dt->Option Dt):List Dv->Dt->Option Dt
 |d::ds,δ=>(g d δ).bind (r ds)
 |_,_=>none
noncomputable def gT (n:Nat) (g:List Dv->Dt->Option Dt):Dv->Dt->Option Dt
 | .tup ds,δ=>if ds.length=n then g ds δ else none
 |_,_=>none
theorem Rel.set {ms:List Nat}{H0 H:Hp}{δ:Dt}{σ:St}{i:Nat}{v:V}{d:Dv} (R:Rel KF ms W H0 δ σ H) (hi:isOwn ms i=false) (r:RepF KF (fun a=> ¬W a) H v d):
  Rel KF ms W H0 (δ.set i (some d)) (σ.set i (some v)) H/\bb ms σ (σ.set i (some v)):=by
 refine ⟨⟨by rw [List.length_set,List.length_set];exact R.len,R.keep,R.soft,fun j d' n hd=> ?_,?_⟩,fun j hj=>List.getElem?_set_ne (fun z=>by subst z;rw [hi] at hj;cases hj)⟩
 ·by_cases hj:i=j
  ·subst hj
   have hl:i<δ.length:=by
    have:=(List.getElem?_eq_some_iff.mp hd).1
    rwa [List.length_set] at this
   rw [List.getElem?_set_self hl] at hd
   cases hd
   exact ⟨v,List.getElem?_set_self (by rw [R.len];exact hl),r⟩
  ·rw [List.getElem?_set_ne hj] at hd
   obtain ⟨u,hu,q⟩:=R.get j d' n hd
   exact ⟨u,by rw [List.getElem?_set_ne hj];exact hu,q⟩
 ·obtain ⟨Φ,f⟩:=R.foot
  refine ⟨Φ,f.wr,f.dj,f.nd,fun j d' n hd=> ?_⟩
  have hj:i≠j:=fun z=>by rw [z,n] at hi;cases hi
  rw [List.getElem?_set_ne hj] at hd|-
  exact f.at_ j d' n hd
section
variable {X:Cx}{ms:List Nat}{pos:Pos}
theorem dh {i:Nat}{x:Str} (hi:isOwn ms i=false) (h:PG X (.Name x pos) (cq i)):PDg X ms (.Name x pos) (gN i):=
 ⟨_,h,fun δ δ1 σ H0 H v d Q R r hm hq=>by
  cases hm
  obtain ⟨R',so⟩:=R.set hi r
  exact hq _ R' so⟩
end
noncomputable def aD (ρ:List (Option Nat)) (δ:Dt):Dt:=ρ.map fun o=>match o with
 |none=>none
 |some j=>(δ[j]?).join
noncomputable def bd (g:Dv->Dt->Option Dt) (c:Dt->Option Bool) (el:EM) (δ:Dt):List Dv->Option (List Dv)
 |[]=>some []
 |d::ds=>(g d δ).bind fun δ1=>(c δ1).bind fun b=>if b=true then (el δ1).bind fun x=>if x.imm=true then (bd g c el δ ds).map (x:: ·) else none else bd g c el δ ds
noncomputable def bN (ρ:List (Option Nat)) (it:Dt->Option (List Dv)) (g:Dv->Dt->Option Dt) (c:Dt->Option Bool) (el:EM):EM:=fun δ=>(it δ).bind fun ds=>(bd g c el (aD ρ δ) ds).map .lst
noncomputable def d5 (ρ:List (Option Nat)) (ms ms':List Nat):Bool:=
 (List.range ρ.length).all (fun i=>match ρ[i]? with|some (some j)=>(decide (i∈ms')==decide (j∈ms))&&(decide (i+1000∈ms')==decide (j+1000∈ms))&&(decide (i+2000∈ms')==decide (j+2000∈ms))|_=>true)&&decide ((ρ.filterMap id).Nodup)
theorem e5 {ρ:List (Option Nat)}{δ:Dt}{i:Nat}{d:Dv} (h:(aD ρ δ)[i]?=some (some d)): ∃j,ρ[i]?=some (some j)/\δ[j]?=some (some d):=by
 unfold aD at h
 rw [List.getElem?_map] at h
 cases e:ρ[i]? with
 |none=>rw [e] at h;cases h
 |some o=>
  rw [e] at h
  cases o with
  |none=>cases h
  |some j=>
   refine ⟨j,rfl,?_⟩
   have h':(δ[j]?).join=some d:=Option.some.inj h
   cases q:δ[j]? with
   |none=>rw [q] at h';cases h'
   |some z=>rw [q] at h';exact congrArg some h'
theorem jg {ρ:List (Option Nat)}{σ:St}{i j:Nat}{v:V} (h:ρ[i]?=some (some j)) (e:σ[j]?=some (some v)):(pull ρ σ)[i]?=some (some v):=by
 unfold pull
 rw [List.getElem?_map,h]
 show some ((σ[j]?).getD none)=_
 rw [e];rfl
theorem oA {ρ:List (Option Nat)} (h:(ρ.filterMap id).Nodup): ∀{i i' j:Nat},ρ[i]?=some (some j)->ρ[i']?=some (some j)->i=i':=by
 induction ρ with
 |nil=>intro i i' j e;simp at e
 |cons o r ih=>
  intro i i' j e e'
  have hr:(r.filterMap id).Nodup:=by
   cases o with
   |none=>simpa using h
   |some x=>simp only [List.filterMap_cons,id] at h;exact (List.nodup_cons.mp h).2
  have hm: ∀{q:Nat},r[q]?=some (some j)->j∈r.filterMap id:=fun {q} e=>by
   rw [List.mem_filterMap]
   exact ⟨some j,List.mem_of_getElem? e,rfl⟩
  cases i with
  |zero=>
   cases i' with
   |zero=>rfl
   |succ i'=>
    simp only [List.getElem?_cons_zero,Option.some.injEq] at e
    subst e
    simp only [List.filterMap_cons,id] at h
    exact absurd (hm (by simpa using e')) (List.nodup_cons.mp h).1
  |succ i=>
   cases i' with
   |zero=>
    simp only [List.getElem?_cons_zero,Option.some.injEq] at e'
    subst e'
    simp only [List.filterMap_cons,id] at h
    exact absurd (hm (by simpa using e)) (List.nodup_cons.mp h).1
   |succ i'=>exact congrArg (· +1) (ih hr (by simpa using e) (by simpa using e'))
structure d6 (ρ:List (Option Nat)) (ms ms':List Nat):Prop where
 flat: ∀(i j:Nat),ρ[i]?=some (some j)->(i∈ms'↔j∈ms)
 deep: ∀(i j:Nat),ρ[i]?=some (some j)->(i+1000∈ms'↔j+1000∈ms)
 anyl: ∀(i j:Nat),ρ[i]?=some (some j)->(i+2000∈ms'↔j+2000∈ms)
 inj: ∀(i i' j:Nat),ρ[i]?=some (some j)->ρ[i']?=some (some j)->i=i'
theorem gc {ρ:List (Option Nat)}{ms ms':List Nat} (h:d5 ρ ms ms'=true):d6 ρ ms ms':=by
 unfold d5 at h
 rw [Bool.and_eq_true] at h
 obtain ⟨h2,h3⟩:=h
 have key: ∀(i j:Nat),ρ[i]?=some (some j)->((i∈ms'↔j∈ms)/\(i+1000∈ms'↔j+1000∈ms))/\(i+2000∈ms'↔j+2000∈ms):=fun i j e=>by
  have hl:=(List.getElem?_eq_some_iff.mp e).1
  have q:=List.all_eq_true.mp h2 i (List.mem_range.mpr hl)
  rw [e] at q
  simp only [Bool.and_eq_true,beq_iff_eq,decide_eq_decide] at q
  exact q
 exact ⟨fun i j e=>(key i j e).1.1,fun i j e=>(key i j e).1.2,fun i j e=>(key i j e).2,fun i i' j e e'=>oA (of_decide_eq_true h3) e e'⟩
section
variable {ρ:List (Option Nat)}{ms ms':List Nat}{δ:Dt}{σ:St}{H0 H:Hp}
theorem d6.own (P:d6 ρ ms ms') {i j:Nat} (h:ρ[i]?=some (some j)):isOwn ms' i=isOwn ms j:=by
 unfold isOwn
 rw [decide_eq_decide.mpr (P.flat i j h),decide_eq_decide.mpr (P.deep i j h),decide_eq_decide.mpr (P.anyl i j h)]
theorem Rel.pull (R:Rel KF ms W H0 δ σ H) (P:d6 ρ ms ms'):Rel KF ms' W H0 (aD ρ δ) (L2.pull ρ σ) H:=by
 refine ⟨by unfold L2.pull aD;simp,R.keep,R.soft,fun i d n hd=> ?_,?_⟩
 ·obtain ⟨j,er,ed⟩:=e5 hd
  rw [P.own er] at n
  obtain ⟨v,ev,q⟩:=R.get j d n ed
  exact ⟨v,jg er ev,q⟩
 ·obtain ⟨Φ,f⟩:=R.foot
  refine ⟨fun i=>match ρ[i]? with|some (some j)=>Φ j|_=>[],fun i b hb=> ?_,fun i i' b hb hb'=> ?_,fun i=> ?_,fun i d n hd=> ?_⟩
  ·split at hb
   ·exact f.wr _ b hb
   ·exact nomatch hb
  ·split at hb
   ·next j e=>
    split at hb'
    ·next j' e'=>
     have:=f.dj j j' b hb hb'
     subst this
     exact P.inj i i' j e e'
    ·exact nomatch hb'
   ·exact nomatch hb
  ·split
   ·exact f.nd _
   ·exact List.nodup_nil
  ·obtain ⟨j,er,ed⟩:=e5 hd
   rw [P.own er] at n
   obtain ⟨a,ha,o⟩:=f.at_ j d n ed
   refine ⟨a,jg er ha,?_⟩
   rw [er]
   rcases o with ⟨m,e,c⟩|⟨m,m3,r⟩|⟨m,m2,e,c⟩
   ·exact .inl ⟨(P.flat i j er).mpr m,e,c⟩
   ·exact .inr (.inl ⟨fun z=>m ((P.flat i j er).mp z),(P.deep i j er).mpr m3,r⟩)
   ·exact .inr (.inr ⟨fun z=>m ((P.flat i j er).mp z),fun z=>m2 ((P.deep i j er).mp z),e,c⟩)
theorem Rel.forget {δ1:Dt} (R:Rel KF ms W H0 δ1 σ H) (hl:δ.length=δ1.length) (h: ∀(i:Nat) (d:Dv),δ[i]?=some (some d)->δ1[i]?=some (some d)):Rel KF ms W H0 δ σ H:=by
 refine ⟨R.len.trans hl.symm,R.keep,R.soft,fun i d n hd=>R.get i d n (h i d hd),?_⟩
 obtain ⟨Φ,f⟩:=R.foot
 exact ⟨Φ,f.wr,f.dj,f.nd,fun i d n hd=>f.at_ i d n (h i d hd)⟩
end
end L2
set_option maxHeartbeats 4000000
namespace L2
open PySem PySem.Spec PyProof.Rows
variable {KF:PySem.W.Frag}{W W':Addr->Prop}
noncomputable def tM (KF:PySem.W.Frag) (ms:List Nat) (k:Kd) (m:EM):TE:=fun σ H Q=> ∃(W:Addr->Prop) (H0:Hp) (δ:Dt) (d:Dv),Rel KF ms W H0 δ σ H/\m δ=some d/\ ∀v H',Same H H'->Got KF k W H H' v d->Q v H'
noncomputable def ttM (KF:PySem.W.Frag) (ms:List Nat) (m:Dt->Option Bool):TT:=fun σ H Q=> ∃(W:Addr->Prop) (H0:Hp) (δ:Dt) (b:Bool),Rel KF ms W H0 δ σ H/\m δ=some b/\ ∀H',Same H H'->Q b H'
noncomputable def tgM (KF:PySem.W.Frag) (ms:List Nat) (m:Dv->Dt->Option Dt):TG:=fun v σ H Q=> ∃(W:Addr->Prop) (H0:Hp) (δ:Dt) (d:Dv) (δ1:Dt),Rel KF ms W H0 δ σ H/\RepF KF (fun a=> ¬W a) H v d/\m d δ=some δ1/\ ∀σ1,Rel KF ms W H0 δ1 σ1 H->bb ms σ σ1->Q σ1 H
noncomputable def PDts (X:Cx) (ms:List Nat) (ifs:List Expr) (m:Dt->Option Bool):Prop:= ∃tt,PTs X ifs tt/\DTs X.K ms tt m
noncomputable def GExt (z:List Nat) (g:Dv->Dt->Option Dt):Prop:= ∀d δ δ1,g d δ=some δ1->δ1.length=δ.length/\ ∀i:Nat,i∉z->δ1[i]?=δ[i]?
theorem d7 (i:Nat):GExt [i] (gN i):=fun d δ δ1 h=>by
 cases h
 refine ⟨List.length_set,fun j hj=> ?_⟩
 have ne:i≠j:=fun z=>hj (by simp [z])
 exact List.getElem?_set_ne ne
section
variable {X:Cx}{ms:List Nat}{k:Kd}{e:Expr}{m:EM}{pos:Pos}
theorem PD.pe (h:PD X ms k e m):PE X e (tM X.K ms k m):=by
 obtain ⟨te,p,q⟩:=h
 intro pins s σ H Q I ⟨W,H0,δ,d,R,hm,hq⟩
 exact p pins s σ H Q I (q δ σ H0 H Q d R hm hq)
theorem e6:PDts X ms [] tyes:=⟨_,nM,fun δ σ H0 H Q b R hm hq=>by cases hm;exact hq H fun _ _ z=>z⟩
theorem PDts.pts {ifs:List Expr}{t:Dt->Option Bool} (h:PDts X ms ifs t):PTs X ifs (ttM X.K ms t):=by
 obtain ⟨te,p,q⟩:=h
 intro pins s σ H Q I ⟨W,H0,δ,d,R,hm,hq⟩
 exact p pins s σ H Q I (q δ σ H0 H Q d R hm hq)
theorem PDg.pg {g:Dv->Dt->Option Dt} (h:PDg X ms e g):PG X e (tgM X.K ms g):=by
 obtain ⟨te,p,q⟩:=h
 intro pins s σ H v u Q I r ⟨W,H0,δ,d,δ1,R,rd,hm,hq⟩
 exact p pins s σ H v u Q I r (q δ δ1 σ H0 H v d Q R rd hm hq)
end
section
variable {ms ms':List Nat}{ρ:List (Option Nat)}{k:Kd}{wi:TI}{it:Dt->Option (List Dv)}{g:Dv->Dt->Option Dt}{c:Dt->Option Bool}{el:EM}{z:List Nat}
noncomputable def oB (ρ:List (Option Nat)) (g:TG) (tt:TT) (te:TE) (J:It) (σ:St) (H1:Hp) (Q:VK):Prop:= ∃W:Nat->Nat->List V->St->Hp->Prop,(∃m,W 0 m [] (pull ρ σ) H1)/\ ∀i m acc σc Hc,W i m acc σc Hc->
 (J.stop i Hc/\acc.length<=sizeLine/\ ∀l,Hc l=none->Q (.ref l) (upd Hc l (.lst acc))) \/
 (J.go i Hc/\acc.length<sizeLine/\ ∃N:List V->St->Hp->Prop,(∀acc' σ' H',N acc' σ' H'-> ∃m',m'<m/\W (i+1) m' acc' σ' H')/\
  ∀x H',J.yld i Hc x H'->g x σc H' fun σ2 H2=>tt σ2 H2 fun b H3=>if b=true then te σ2 H3 fun v H4=>N (acc++[v]) σ2 H4 else N acc σ2 H3)
theorem oC {δ:Dt}{σ:St}{H0 H1:Hp}{J:It}{ds out:List Dv}{Q:VK} (R1:Rel KF ms' W H0 (aD ρ δ) (L2.pull ρ σ) H1) (ok:IOk KF W false H1 J ds) (ho:bd g c el (aD ρ δ) ds=some out) (hz:GExt z g) (hz':z.all (fun i=>decide (ρ[i]?=some none))=true)
  (hq: ∀(l:Addr) (acc:List V) (Hc:Hp),Same H1 Hc->Hc l=none->RepsF KF Imm Hc acc out->Q (.ref l) (upd Hc l (.lst acc))):oB ρ (tgM KF ms' g) (ttM KF ms' c) (tM KF ms' k el) J σ H1 Q:=by
 obtain ⟨hlim,ok⟩:=ok
 have notz: ∀{i:Nat}{x:Dv},(aD ρ δ)[i]?=some (some x)->i∉z:=fun {i x} e hzi=>by
  obtain ⟨j,er,_⟩:=e5 e
  have:=of_decide_eq_true (List.all_eq_true.mp hz' i hzi)
  rw [er] at this;cases this
 refine ⟨fun i n acc σc Hc=>n=ds.length-i/\i<=ds.length/\Same H1 Hc/\Rel KF ms' W H0 (aD ρ δ) σc Hc/\bb ms' (pull ρ σ) σc/\acc.length<=i/\
  ∃done rest,RepsF KF Imm Hc acc done/\bd g c el (aD ρ δ) (ds.drop i)=some rest/\done++rest=out,⟨ds.length,by simp,Nat.zero_le _,Same.refl _,R1,.refl,Nat.le_refl _,[],out,.nil,by simpa using ho,by simp⟩,?_⟩
 rintro i n acc σc Hc ⟨rfl,hi',sc,Rc,so,hl,done,rest,ra,hr,hout⟩
 obtain ⟨go,yl,st⟩:=ok Hc (.inl sc)
 by_cases hlt:i<ds.length
 ·right
  refine ⟨go i hlt,?_,fun acc' σ' H'=>Same H1 H'/\Rel KF ms' W H0 (aD ρ δ) σ' H'/\bb ms' (pull ρ σ) σ'/\acc'.length<=i+1/\ ∃done rest,RepsF KF Imm H' acc' done/\bd g c el (aD ρ δ) (ds.drop (i+1))=some rest/\done++rest=out,
   fun acc' σ' H' ⟨a1,a2,a3,a4,a5⟩=>⟨ds.length-(i+1),by lia,rfl,hlt,a1,a2,a3,a4,a5⟩,fun x H' y=> ?_⟩
  ·have:=cB hlim;lia
  ·obtain ⟨rfl,d,hd,rx⟩:=yl i x H' hlt y
   have hdrop:ds.drop i=d::ds.drop (i+1):=by
    rw [List.drop_eq_getElem_cons hlt]
    congr 1
    rw [List.getElem?_eq_getElem hlt] at hd
    exact Option.some.inj hd
   rw [hdrop,bd] at hr
   obtain ⟨δ1,h1,hr⟩:=Option.bind_eq_some_iff.mp hr
   obtain ⟨b,hb,hr⟩:=Option.bind_eq_some_iff.mp hr
   obtain ⟨l1,f1⟩:=hz d _ δ1 h1
   refine ⟨W,H0,aD ρ δ,d,δ1,Rc,rx.mono fun a _ n z=>n.1 z,h1,fun σ1 R1' so1=> ?_⟩
   have forget: ∀{H2:Hp},Rel KF ms' W H0 δ1 σ1 H2->Rel KF ms' W H0 (aD ρ δ) σ1 H2:=fun {H2} R2=>by
    refine R2.forget l1.symm (fun j x e=> ?_)
    rw [f1 j (notz e)];exact e
   refine ⟨W,H0,δ1,b,R1',hb,fun H2 s2=> ?_⟩
   cases b with
   |true=>
    rw [if_pos rfl] at hr
    obtain ⟨y,hy,hr⟩:=Option.bind_eq_some_iff.mp hr
    split at hr
    ·next him=>
     obtain ⟨rest',hr',rfl⟩:=Option.map_eq_some_iff.mp hr
     rw [if_pos rfl]
     refine ⟨W,H0,δ1,y,R1'.same s2,hy,fun v H3 s3 g3=> ?_⟩
     have s23:=s2.tr s3
     refine ⟨sc.tr s23,forget (R1'.same s23),so.tr so1,by rw [List.length_append];exact Nat.add_le_add_right hl 1,done++[y],rest',(ra.same s23).append (.cons (g3.imm him) .nil),hr',by rw [<-hout,List.append_assoc];rfl⟩
    ·cases hr
   |false=>
    rw [if_neg Bool.false_ne_true] at hr
    rw [if_neg Bool.false_ne_true]
    exact ⟨sc.tr s2,forget (R1'.same s2),so.tr so1,Nat.le_succ_of_le hl,done,rest,ra.same s2,hr,hout⟩
 ·left
  have hie:i=ds.length:=by lia
  subst hie
  rw [List.drop_length,bd] at hr
  cases hr
  rw [List.append_nil] at hout
  subst hout
  have:=cB hlim
  refine ⟨st,by lia,fun l hln=> ?_⟩
  exact hq l acc Hc sc hln ra
theorem jh (hi: ∀{W:Addr->Prop} (δ:Dt) (σ:St) (H0 H:Hp) (R:It->Hp->Prop) (ds:List Dv),Rel KF ms W H0 δ σ H->it δ=some ds->(∀J H',Same H H'->IOk KF W false H' J ds->R J H')->wi σ H R)
  (P:d6 ρ ms ms') (hz:GExt z g) (hz':z.all (fun i=>decide (ρ[i]?=some none))=true):DE KF ms .one (eN ρ wi (tgM KF ms' g) (ttM KF ms' c) (tM KF ms' k el)) (bN ρ it g c el):=by
 intro W δ σ H0 H Q d R hm hq
 obtain ⟨ds,hds,e⟩:=Option.bind_eq_some_iff.mp hm
 obtain ⟨out,ho,rfl⟩:=Option.map_eq_some_iff.mp e
 refine hi δ σ H0 H _ ds R hds fun J H1 s1 ok=> ?_
 refine oC ((R.same s1).pull P) ok ho hz hz' fun l acc Hc sc hln ra=> ?_
 have s2:=Same.new (o:= .lst acc) hln
 exact hq _ _ (s1.tr (sc.tr s2)) ⟨l,rfl,aU (s1.tr sc) hln,acc,ax,ra.same s2⟩
variable {X:Cx}{scope:Scope}{tg iter elt:Expr}{ifs:List Expr}{pos:Pos}
theorem gd (N':List Str) (ρ:List (Option Nat)) (ms':List Nat) (hc:X.calm=true) (hi:PDi X ms false tg iter it) (hg: ∀C s H fp,PDg (ag X scope N' C s H fp) ms' tg g)
  (ht: ∀C s H fp,PDts (ag X scope N' C s H fp) ms' ifs c) (he: ∀C s H fp,PD (ag X scope N' C s H fp) ms' k elt el) (hz:GExt z g)
  (ck:cz scope X.env.scope X.N N' ρ=true) (hp:d5 ρ ms ms'=true) (hz':z.all (fun i=>decide (ρ[i]?=some none))=true) (hs: ∀x,foldedSetIterable iter X.env x=pure x:=by intro _;rfl):
  PD X ms .one (.ListComp elt [⟨tg,iter,ifs,0⟩] scope pos) (bN ρ it g c el):=by
 obtain ⟨wi,pi,qi⟩:=hi
 exact ⟨_,nN N' ρ hc pi (fun C s H fp=>(hg C s H fp).pg) (fun C s H fp=>(ht C s H fp).pts) (fun C s H fp=>(he C s H fp).pe) ck hs,jh qi (gc hp) hz hz'⟩
end
inductive Fl where
 |nx (δ:Dt)|rt (d:Dv) (δ:Dt)|bk (δ:Dt)|ct (δ:Dt)
noncomputable abbrev SM:=Dt->Option Fl
noncomputable def Stp (ms:List Nat) (H0:Hp) (W:Addr->Prop) (σ:St) (H:Hp) (W':Addr->Prop) (σ':St) (H':Hp):Prop:=bM W H H'/\(∀a,W' a->W a \/H a=none)/\(∀a,W a->W' a \/H0 a=none)/\(∀i,isOwn ms i=true->i+3000∈ms->σ'[i]?=σ[i]?)/\ ∀b o,H b=some o->Sft o-> ∃o',H' b=some o'/\Sft o'
theorem Stp.refl {ms:List Nat}{σ:St}{H0 H:Hp}:Stp ms H0 W σ H W σ H:=⟨fun _ _ h _=>h,fun _ h=> .inl h,fun _ h=> .inl h,fun _ _ _=>rfl,fun _ o h s=>⟨o,h,s⟩⟩
theorem Stp.of {ms:List Nat}{σ σ':St}{H0 H H':Hp} (s:Same H H') (so:bb ms σ σ'):Stp ms H0 W σ H W σ' H':=⟨fun a o h _=>s a o h,fun a h=> .inl h,fun _ h=> .inl h,fun i hi _=>so i hi,fun b o h q=>⟨o,s b o h,q⟩⟩
theorem Stp.sm {ms:List Nat}{σ:St}{H0 H H':Hp} (s:Same H H'):Stp ms H0 W σ H W σ H':=⟨fun a o h _=>s a o h,fun a h=> .inl h,fun _ h=> .inl h,fun _ _ _=>rfl,fun b o h q=>⟨o,s b o h,q⟩⟩
theorem Stp.tr {ms:List Nat}{σ σ1 σ2:St}{W1 W2:Addr->Prop}{H0 H H1 H2:Hp} (a:Stp ms H0 W σ H W1 σ1 H1) (b:Stp ms H0 W1 σ1 H1 W2 σ2 H2):Stp ms H0 W σ H W2 σ2 H2:=by
 refine ⟨fun x o h n=>b.1 x o (a.1 x o h n) fun z=> ?_,fun x h=> ?_,fun x h=>(a.2.2.1 x h).elim (b.2.2.1 x) .inr,fun i hi hp=>(b.2.2.2.1 i hi hp).trans (a.2.2.2.1 i hi hp),fun x o h q=>by obtain ⟨o1,h1,q1⟩:=a.2.2.2.2 x o h q;exact b.2.2.2.2 x o1 h1 q1⟩
 ·rcases a.2.1 x z with q|q
  ·exact n q
  ·rw [h] at q;cases q
 ·rcases b.2.1 x h with q|q
  ·exact a.2.1 x q
  ·by_cases n:W x
   ·exact .inl n
   ·right
    cases e:H x with
    |none=>rfl
    |some o=>rw [a.1 x o e n] at q;cases q
noncomputable def WE (W:Addr->Prop) (H0:Hp):Addr->Prop:=fun a=>W a/\H0 a≠none
noncomputable def oD (ms:List Nat) (rk:Kd) (Φ:Nat->List Addr) (v:V):Prop:=rk= .one-> ∀j a,j+3000∈ms->v= .ref a->a∉Φ j
noncomputable def e7 (KF:PySem.W.Frag) (ms:List Nat) (rk:Kd) (W:Addr->Prop) (H0:Hp) (σ:St) (H:Hp) (D:Ends):Fl->Prop
 | .nx δ=> ∀(W':Addr->Prop) (σ':St) (H':Hp),Stp ms H0 W σ H W' σ' H'->Rel KF ms W' H0 δ σ' H'->D.nx σ' H'
 | .rt d δ=> ∀(v:V) (W':Addr->Prop) (σ':St) (H':Hp) (Φ:Nat->List Addr),Stp ms H0 W σ H W' σ' H'->Rel KF ms W' H0 δ σ' H'->Foot KF ms W' H0 δ σ' H' Φ->Got KF rk (WE W' H0) H0 H' v d->oD ms rk Φ v->D.rt v H'
 | .bk δ=> ∀(W':Addr->Prop) (σ':St) (H':Hp),Stp ms H0 W σ H W' σ' H'->Rel KF ms W' H0 δ σ' H'->D.bk σ' H'
 | .ct δ=> ∀(W':Addr->Prop) (σ':St) (H':Hp),Stp ms H0 W σ H W' σ' H'->Rel KF ms W' H0 δ σ' H'->D.ct σ' H'
theorem Got.weak {rk:Kd}{W1:Addr->Prop}{H0 H':Hp}{v:V}{d:Dv} (g:Got KF rk W1 H0 H' v d) (h: ∀a,W a->W1 a):Got KF rk W H0 H' v d:=by
 cases rk with
 |any=>exact RepF.mono (fun a _ n z=>n (h a z)) g
 |_=>exact g
theorem e7.step {ms:List Nat}{rk:Kd}{H0:Hp}{W1:Addr->Prop}{σ σ1:St}{H H1:Hp}{D:Ends}{r:Fl} (h:e7 KF ms rk W H0 σ H D r) (s:Stp ms H0 W σ H W1 σ1 H1):e7 KF ms rk W1 H0 σ1 H1 D r:=by
 cases r with
 |nx δ=>exact fun W' σ' H' s' R=>h W' σ' H' (s.tr s') R
 |rt d δ=>exact fun v W' σ' H' Φ s'=>h v W' σ' H' Φ (s.tr s')
 |bk δ=>exact fun W' σ' H' s' R=>h W' σ' H' (s.tr s') R
 |ct δ=>exact fun W' σ' H' s' R=>h W' σ' H' (s.tr s') R
noncomputable def DS (KF:PySem.W.Frag) (ms:List Nat) (rk:Kd) (ts:TS) (m:SM):Prop:=
 ∀{W:Addr->Prop} (δ:Dt) (σ:St) (H0 H:Hp) (D:Ends) (r:Fl),Rel KF ms W H0 δ σ H->m δ=some r->e7 KF ms rk W H0 σ H D r->ts D σ H
noncomputable def PDs (X:Cx) (ms:List Nat) (rk:Kd) (st:Stmt) (m:SM):Prop:= ∃ts,PS X st ts/\DS X.K ms rk ts m
noncomputable def PDss (X:Cx) (ms:List Nat) (rk:Kd) (st:List Stmt) (m:SM):Prop:= ∃ts,PSs X st ts/\DS X.K ms rk ts m
noncomputable def aE:SM:=fun δ=>some (.nx δ)
noncomputable def sSeq (a b:SM):SM:=fun δ=>(a δ).bind fun r=>match r with
 | .nx δ1=>b δ1
 |r=>some r
noncomputable def sSet (i:Nat) (m:EM):SM:=fun δ=>(m δ).map fun d=> .nx (δ.set i (some d))
noncomputable def sRet (m:EM):SM:=fun δ=>(m δ).map fun d=> .rt d δ
noncomputable def sIf (c:Dt->Option Bool) (a b:SM):SM:=fun δ=>(c δ).bind fun x=>if x=true then a δ else b δ
noncomputable def ji (m:EM):SM:=fun δ=>(m δ).map fun _=> .nx δ
noncomputable def loopM (g:Dv->Dt->Option Dt) (body:SM):List Dv->SM
 |[],δ=>some (.nx δ)
 |d::ds,δ=>(g d δ).bind fun δ1=>(body δ1).bind fun r=>match r with
  | .nx δ2=>loopM g body ds δ2
  | .ct δ2=>loopM g body ds δ2
  | .bk δ2=>some (.nx δ2)
  | .rt d δ2=>some (.rt d δ2)
noncomputable def sFor (it:Dt->Option (List Dv)) (g:Dv->Dt->Option Dt) (body:SM):SM:=fun δ=>(it δ).bind fun ds=>loopM g body ds δ
noncomputable def sApp (i:Nat) (m:EM):SM:=fun δ=>(m δ).bind fun d=>(eVar i δ).bind fun x=>match x with
 | .lst ds=>if ds.length<lim/\d.imm=true then some (.nx (δ.set i (some (.lst (ds++[d]))))) else none
 |_=>none
section
variable {X:Cx}{ms:List Nat}{rk k:Kd}{e:Expr}{m:EM}{pos pos':Pos}{st:Stmt}{rest a b:List Stmt}{ma mb:SM}
theorem aO:PDss X ms rk [] aE:=⟨_,fE,fun δ σ H0 H D r R hm hq=>by cases hm;exact hq _ σ H .refl R⟩
theorem av (h1:PDs X ms rk st ma) (h2:PDss X ms rk rest mb):PDss X ms rk (st::rest) (sSeq ma mb):=by
 obtain ⟨t,p,q⟩:=h1
 obtain ⟨u,p2,q2⟩:=h2
 refine ⟨_,eG p p2,fun δ σ H0 H D r R hm hq=> ?_⟩
 obtain ⟨r1,h1,e⟩:=Option.bind_eq_some_iff.mp hm
 refine q δ σ H0 H _ r1 R h1 ?_
 cases r1 with
 |nx δ1=>exact fun W' σ' H' s' R'=>q2 δ1 σ' H0 H' D r R' e (hq.step s')
 |rt d δ1=>cases e;exact hq
 |bk d=>cases e;exact hq
 |ct d=>cases e;exact hq
theorem aA (h1:PDs X ms rk st ma):PDss X ms rk [st] ma:=by
 obtain ⟨t,p,q⟩:=h1
 exact ⟨_,lN p,q⟩
theorem Got.ret {H0 H H1:Hp}{v:V}{d:Dv} (g:Got KF k W H H1 v d) (s:Same H0 H) (l:Kd.le k rk) (fr: ∀a,H a=none-> ¬W a):Got KF rk (WE W H0) H0 H1 v d:=by
 cases l with
 |refl=>
  cases rk with
  |one=>obtain ⟨a,ea,h,c⟩:=g;exact ⟨a,ea,aU s h,c⟩
  |dp=>obtain ⟨F,nd,h,c⟩:=g;exact ⟨F,nd,fun b hb=>aU s (h b hb),c⟩
  |imm=>exact g
  |frh=>exact RepF.mono (fun a _ h=>aU s h) g
  |any=>exact RepF.mono (S':=fun b=> ¬WE W H0 b) (fun a _ n (z:WE W H0 a)=>n z.1) g
  |bor=>exact g
 |one_frh=>obtain ⟨a,ea,h,c⟩:=g;subst ea;exact c.rep (aU s h)
 |one_any=>obtain ⟨a,ea,h,c⟩:=g;subst ea;exact c.rep (S:=fun b=> ¬WE W H0 b) (show¬WE W H0 a from fun z=>fr _ h z.1)
 |imm_frh=>exact RepF.mono (fun _ _ z=>z.elim) g
 |imm_any=>exact RepF.mono (fun _ _ z=>z.elim) g
 |frh_any=>exact RepF.mono (S':=fun b=> ¬WE W H0 b) (fun a _ h (z:WE W H0 a)=>fr a h z.1) g
 |bor=>exact g.bor
 |dp_frh=>obtain ⟨F,nd,h,c⟩:=g;exact c.rep fun b hb=>aU s (h b hb)
 |dp_any=>obtain ⟨F,nd,h,c⟩:=g;exact c.rep (S:=fun b=> ¬WE W H0 b) (fun b hb (z:WE W H0 b)=>fr b (h b hb) z.1)
 |one_dp=>
  obtain ⟨a,ea,h,c⟩:=g
  subst ea
  exact ⟨[a],by simp,fun b hb=>by rw [List.mem_singleton.mp hb];exact aU s h,c.tree⟩
 |imm_dp=>exact ⟨[],List.nodup_nil,fun b hb=>(List.not_mem_nil hb).elim,.imm g⟩
theorem di (h:PD X ms k e m) (l:Kd.le k rk):PDs X ms rk (.Return (some e) pos) (sRet m):=by
 obtain ⟨te,p,q⟩:=h
 refine ⟨_,fF p,fun δ σ H0 H D r R hm hq=> ?_⟩
 obtain ⟨d,hd,rfl⟩:=Option.map_eq_some_iff.mp hm
 refine q δ σ H0 H _ d R hd fun v H' s g=> ?_
 obtain ⟨Φ,f⟩:=(R.same s).foot
 refine hq v _ σ H' Φ (.sm s) (R.same s) f (g.ret R.keep l fun _ z=>R.fresh z) fun e1 j a hj ev ha=> ?_
 subst e1
 cases l with
 |refl=>
  obtain ⟨a',ea,h,_⟩:=g
  rw [ev] at ea;cases ea
  exact R.fresh h (f.wr j a ha).1
theorem be (h:PD X ms k e m) (l:Kd.le k rk) (n:rk≠ .any):PDs X ms rk (.Return (some e) pos) (sRet m):=di h l
theorem e8 {i:Nat} (hi:i∈ms):isOwn ms i=true:=by unfold isOwn;rw [decide_eq_true hi];rfl
theorem Rel.own1 {σ:St}{H0 H:Hp}{δ:Dt}{i:Nat}{d:Dv} (R:Rel KF ms W H0 δ σ H) (hi:i∈ms) (hd:δ[i]?=some (some d)): ∃a,σ[i]?=some (some (.ref a))/\H0 a=none/\Cell KF H a d:=by
 obtain ⟨Φ,f⟩:=R.foot
 obtain ⟨a,ha,o⟩:=f.at_ i d (e8 hi) hd
 rcases o with ⟨_,e,c⟩|⟨n,_⟩|⟨n,_⟩
 ·exact ⟨a,ha,(f.wr i a (by rw [e];exact List.mem_cons_self ..)).2,c⟩
 ·exact absurd hi n
 ·exact absurd hi n
theorem aP {c:Expr}{tc:Dt->Option Bool} (hc:PDt X ms c tc) (ha:PDss X ms rk a ma) (hb:PDss X ms rk b mb):PDs X ms rk (.If c a b pos) (sIf tc ma mb):=by
 obtain ⟨t,p,q⟩:=hc
 obtain ⟨ta,pa,qa⟩:=ha
 obtain ⟨tb,pb,qb⟩:=hb
 refine ⟨_,lO p pa pb,fun δ σ H0 H D r R hm hq=> ?_⟩
 obtain ⟨x,hx,e⟩:=Option.bind_eq_some_iff.mp hm
 refine q δ σ H0 H _ x R hx fun H1 s1=> ?_
 have hq':=hq.step (Stp.sm s1)
 cases x with
 |true=>exact qa δ σ H0 H1 D r (R.same s1) e hq'
 |false=>exact qb δ σ H0 H1 D r (R.same s1) e hq'
theorem jj {te:TE}{i:Nat} (hi:isOwn ms i=false) (q:DE KF ms k te m) (l:Kd.le k .any):DS KF ms rk (tAsg te (cq i)) (sSet i m):=by
 intro W δ σ H0 H D r R hm hq
 obtain ⟨d,hd,rfl⟩:=Option.map_eq_some_iff.mp hm
 refine q δ σ H0 H _ d R hd fun v H' s g=> ?_
 obtain ⟨R',so⟩:=(R.same s).set hi (g.le R l)
 exact hq _ _ H' (.of s so) R'
theorem Rel.chgF {H0 H H':Hp}{δ:Dt}{σ:St}{i:Nat}{a:Addr}{d:Dv}{F G P:List Addr}{Φ:Nat->List Addr} (R:Rel KF ms W H0 δ σ H) (f:Foot KF ms W H0 δ σ H Φ) (hi:isOwn ms i=true) (hP: ∀b∈P,b∈Φ i)
  (c1: ∀b o,H b=some o->b∉P->H' b=some o) (c2: ∀b∈P,∃o,H' b=some o/\Sft o) (c3:F.Nodup) (hG: ∀b∈F,b∈G) (c4: ∀b∈G,b∈P \/H b=none) (c7: ∀b∈G,∃o,H' b=some o/\Sft o) (c5:bA KF ms (fun b=>W b \/b∈G) H' i a d F) (c6:i+3000∈ms->σ[i]?=some (some (.ref a))):
  Rel KF ms (fun b=>W b \/b∈G) H0 (δ.set i (some d)) (σ.set i (some (.ref a))) H'/\Stp ms H0 W σ H (fun b=>W b \/b∈G) (σ.set i (some (.ref a))) H'/\Foot KF ms (fun b=>W b \/b∈G) H0 (δ.set i (some d)) (σ.set i (some (.ref a))) H' (fun j=>if j=i then F else Φ j):=by
 have wP: ∀b∈P,W b:=fun b hb=>(f.wr i b (hP b hb)).1
 have st:bM W H H':=fun b o h n=>c1 b o h fun z=>n (wP b z)
 have kp:ay (fun a=> ¬W a) H H':=bM.keeps R st
 have kpI:ay Imm H H':=kp.mono fun _ z=>z.elim
 have h0P: ∀b∈P,H0 b=none:=fun b hb=>(f.wr i b (hP b hb)).2
 have ft:Foot KF ms (fun b=>W b \/b∈G) H0 (δ.set i (some d)) (σ.set i (some (.ref a))) H' (fun j=>if j=i then F else Φ j):=by
  refine ⟨fun j b hb=> ?_,fun j j' b hb hb'=> ?_,fun j=> ?_,fun j d' n hd=> ?_⟩
  ·split at hb
   ·exact ⟨.inr (hG b hb),(c4 b (hG b hb)).elim (h0P b) (aU R.keep)⟩
   ·exact ⟨.inl (f.wr j b hb).1,(f.wr j b hb).2⟩
  ·have key: ∀{j:Nat},j≠i->b∈F->b∈Φ j->False:=fun {j} ne h1 h2=>by
    rcases c4 b (hG b h1) with z|z
    ·exact ne (f.dj j i b h2 (hP b z))
    ·obtain ⟨o,ho,_⟩:=R.own (f.wr j b h2).1
     rw [z] at ho;cases ho
   split at hb
   ·next e=>
    split at hb'
    ·next e'=>rw [e,e']
    ·next e'=>exact (key e' hb hb').elim
   ·next e=>
    split at hb'
    ·next e'=>exact (key e hb' hb).elim
    ·exact f.dj j j' b hb hb'
  ·split
   ·exact c3
   ·exact f.nd j
  ·by_cases hj:i=j
   ·subst hj
    have hl:i<δ.length:=by
     have:=(List.getElem?_eq_some_iff.mp hd).1
     rwa [List.length_set] at this
    rw [List.getElem?_set_self hl] at hd
    cases hd
    refine ⟨a,List.getElem?_set_self (by rw [R.len];exact hl),?_⟩
    rw [if_pos rfl]
    exact c5
   ·rw [List.getElem?_set_ne hj] at hd|-
    obtain ⟨a',ha',o⟩:=f.at_ j d' n hd
    refine ⟨a',ha',?_⟩
    rw [if_neg (Ne.symm hj)]
    exact o.keep kp (fun b hb ob h=>c1 b ob h fun z=>hj (f.dj i j b (hP b z) hb)) fun b n1 n2 z=>by
     rcases z with z|z
     ·exact n1 z
     ·rcases c4 b z with z|z
      ·exact n1 (wP b z)
      ·exact n2 z
 refine ⟨⟨by rw [List.length_set,List.length_set];exact R.len,fun b o h=> ?_,fun b w=> ?_,fun j d' n hd=> ?_,⟨_,ft⟩⟩,⟨st,fun b w=> ?_,fun b w=> .inl (.inl w),fun j hj hp=> ?_,fun b o h q=> ?_⟩,ft⟩
 ·exact c1 b o (R.keep b o h) fun z=>by rw [h0P b z] at h;cases h
 ·rcases w with w|w
  ·obtain ⟨o,ho,so⟩:=R.soft b w
   by_cases z:b∈P
   ·exact c2 b z
   ·exact ⟨o,c1 b o ho z,so⟩
  ·exact c7 b w
 ·have hj:i≠j:=fun z=>by rw [<-z,hi] at n;cases n
  rw [List.getElem?_set_ne hj] at hd|-
  obtain ⟨v,hv,r⟩:=R.get j d' n hd
  refine ⟨v,hv,(RepF.keep (S:=fun a=> ¬W a/\H a≠none) (kp.mono fun _ z=>z.1) (r.mono fun _ h n=>⟨n,h⟩)).mono fun b _ ⟨n1,n2⟩ z=> ?_⟩
  rcases z with z|z
  ·exact n1 z
  ·rcases c4 b z with z|z
   ·exact n1 (wP b z)
   ·exact n2 z
 ·rcases w with w|w
  ·exact .inl w
  ·rcases c4 b w with z|z
   ·exact .inl (wP b z)
   ·exact .inr z
 ·by_cases e:i=j
  ·subst e
   rw [c6 hp]
   exact List.getElem?_set_self (List.getElem?_eq_some_iff.mp (c6 hp)).1
  ·exact List.getElem?_set_ne e
 ·by_cases z:b∈P
  ·exact c2 b z
  ·exact ⟨o,c1 b o h z,q⟩
theorem Rel.chg {H0 H H':Hp}{δ:Dt}{σ:St}{i:Nat}{a:Addr}{d:Dv}{F P:List Addr}{Φ:Nat->List Addr} (R:Rel KF ms W H0 δ σ H) (f:Foot KF ms W H0 δ σ H Φ) (hi:isOwn ms i=true) (hP: ∀b∈P,b∈Φ i)
  (c1: ∀b o,H b=some o->b∉P->H' b=some o) (c2: ∀b∈P,∃o,H' b=some o/\Sft o) (c3:F.Nodup) (c4: ∀b∈F,b∈P \/H b=none) (c5:bA KF ms (fun b=>W b \/b∈F) H' i a d F) (c6:i+3000∈ms->σ[i]?=some (some (.ref a))):
  Rel KF ms (fun b=>W b \/b∈F) H0 (δ.set i (some d)) (σ.set i (some (.ref a))) H'/\Stp ms H0 W σ H (fun b=>W b \/b∈F) (σ.set i (some (.ref a))) H':=
 let q:=R.chgF f hi hP c1 c2 c3 (fun _ z=>z) c4 c5.there c5 c6;⟨q.1,q.2.1⟩
theorem Rel.setOwn {H0 H H':Hp}{δ:Dt}{σ:St}{i:Nat}{a:Addr}{d:Dv} (R:Rel KF ms W H0 δ σ H) (hi:i∈ms) (s:Same H H') (hn:H a=none) (c:Cell KF H' a d) (hz:i+3000∉ms):
  ∃W':Addr->Prop,Rel KF ms W' H0 (δ.set i (some d)) (σ.set i (some (.ref a))) H'/\Stp ms H0 W σ H W' (σ.set i (some (.ref a))) H':=by
 obtain ⟨Φ,f⟩:=R.foot
 exact ⟨_,R.chg (P:=[]) f (e8 hi) (fun _ z=>nomatch z) (fun b o h _=>s b o h) (fun _ z=>nomatch z) (by simp) (fun b hb=> .inr (by rw [List.mem_singleton.mp hb];exact hn)) (.inl ⟨hi,rfl,c⟩) fun z=>absurd z hz⟩
theorem oE {te:TE}{i:Nat} (hi:decide (i∈ms)=true) (hz:decide (i+3000∈ms)=false) (q:DE KF ms .one te m):DS KF ms rk (tAsg te (cq i)) (sSet i m):=by
 intro W δ σ H0 H D r R hm hq
 obtain ⟨d,hd,rfl⟩:=Option.map_eq_some_iff.mp hm
 refine q δ σ H0 H _ d R hd fun v H' s g=> ?_
 obtain ⟨a,rfl,hn,c⟩:=g
 obtain ⟨W',R',st⟩:=R.setOwn (of_decide_eq_true hi) s hn c (of_decide_eq_false hz)
 exact hq W' _ H' st R'
theorem aW {i:Nat}{x:Str} (hi:isOwn ms i=false) (h:PD X ms k e m) (l:Kd.le k .any) (hN:X.N.Nodup) (hx:X.N[i]?=some x) (hl:Loc X.env.scope x) (hs:swapsWith e (some (.Name x pos')) pos.line X.env=pure false:=by rfl)
  (hf:X.fn x=true \/X.env.scope.names.lookup x=some .local:=by first|exact .inl rfl|exact .inr rfl|assumption):PDs X ms rk (.Assign [.Name x pos'] e pos) (sSet i m):=by
 obtain ⟨te,p,q⟩:=h
 exact ⟨_,eH hN hx hl p hs hf,jj hi q l⟩
theorem oF {i:Nat}{x:Str} (hi:decide (i∈ms)=true) (h:PD X ms .one e m) (hN:X.N.Nodup) (hx:X.N[i]?=some x) (hl:Loc X.env.scope x) (hs:swapsWith e (some (.Name x pos')) pos.line X.env=pure false:=by rfl)
  (hf:X.fn x=true \/X.env.scope.names.lookup x=some .local:=by first|exact .inl rfl|exact .inr rfl|assumption) (hz:decide (i+3000∈ms)=false:=by rfl):PDs X ms rk (.Assign [.Name x pos'] e pos) (sSet i m):=by
 obtain ⟨te,p,q⟩:=h
 exact ⟨_,eH hN hx hl p hs hf,oE hi hz q⟩
section
variable {ms':List Nat}{ρ:List (Option Nat)}{it:Dt->Option (List Dv)}{g:Dv->Dt->Option Dt}{c:Dt->Option Bool}{el:EM}{z:List Nat}{scope:Scope}{tg iter elt:Expr}{ifs:List Expr}{spos cpos:Pos}
theorem oG {i:Nat}{x:Str} (N':List Str) (ρ:List (Option Nat)) (ms':List Nat) (hi':isOwn ms i=false) (hN:X.N.Nodup) (hx:X.N[i]?=some x) (hl:Loc X.env.scope x) (hc:X.calm=true) (hi:PDi X ms false tg iter it) (hg: ∀C s H fp,PDg (ag X scope N' C s H fp) ms' tg g)
  (ht: ∀C s H fp,PDts (ag X scope N' C s H fp) ms' ifs c) (he: ∀C s H fp,PD (ag X scope N' C s H fp) ms' k elt el) (hz:GExt z g)
  (ck:cz scope X.env.scope X.N N' ρ=true) (hp:d5 ρ ms ms'=true) (hz':z.all (fun i=>decide (ρ[i]?=some none))=true)
  (hsw:swapsWith (.ListComp elt [⟨tg,iter,ifs,0⟩] scope cpos) (some (.Name x pos')) spos.line X.env=pure true:=by rfl) (hs: ∀x,foldedSetIterable iter X.env x=pure x:=by intro _;rfl)
  (hf:X.fn x=true \/X.env.scope.names.lookup x=some .local:=by first|exact .inl rfl|exact .inr rfl|assumption):
  PDs X ms rk (.Assign [.Name x pos'] (.ListComp elt [⟨tg,iter,ifs,0⟩] scope cpos) spos) (sSet i (bN ρ it g c el)):=by
 obtain ⟨wi,pi,qi⟩:=hi
 exact ⟨_,nO N' ρ hN hx hl hc pi (fun C s H fp=>(hg C s H fp).pg) (fun C s H fp=>(ht C s H fp).pts) (fun C s H fp=>(he C s H fp).pe) ck hsw hs hf,jj hi' (jh qi (gc hp) hz hz') .one_any⟩
end
theorem oH {iter tg:Expr}{body:List Stmt}{it:Dt->Option (List Dv)}{g:Dv->Dt->Option Dt}{mb:SM} (hp:PassesOwn (model X.prog X.w) X.A X.env X.xe) (hc:X.calm=true) (hi:PDi X ms true tg iter it) (hg:PDg X ms tg g) (hb:PDss X ms rk body mb)
  (hs: ∀x,foldedSetIterable iter X.env x=pure x:=by intro _;rfl):PDs X ms rk (.For tg iter body [] pos) (sFor it g mb):=by
 obtain ⟨wi,pi,qi⟩:=hi
 obtain ⟨tg',pg,qg⟩:=hg
 obtain ⟨tb,pb,qb⟩:=hb
 refine ⟨_,mf hp hc pi pg pb hs,fun {W} δ σ H0 H D r R hm hq=> ?_⟩
 obtain ⟨ds,hds,e⟩:=Option.bind_eq_some_iff.mp hm
 refine qi δ σ H0 H _ ds R hds fun J H1 s1 ok=> ?_
 obtain ⟨hlim,ok⟩:=ok
 have hq1:=hq.step (Stp.sm s1)
 refine ⟨fun i n σc Hc=>n=ds.length-i/\i<=ds.length/\(∃Wc:Addr->Prop,Stp ms H0 W σ H1 Wc σc Hc/\ ∃δc,Rel X.K ms Wc H0 δc σc Hc/\loopM g mb (ds.drop i) δc=some r),⟨ds.length,by simp,Nat.zero_le _,W,.refl,δ,R.same s1,by simpa using e⟩,?_⟩
 rintro i n σc Hc ⟨rfl,hi',Wc,sc,δc,Rc,hr⟩
 obtain ⟨go,yl,st⟩:=ok Hc (.inr ⟨rfl,sc.1⟩)
 by_cases hlt:i<ds.length
 ·right
  refine ⟨go i hlt,fun σ' H'=> ∃Wc:Addr->Prop,Stp ms H0 W σ H1 Wc σ' H'/\ ∃δc,Rel X.K ms Wc H0 δc σ' H'/\loopM g mb (ds.drop (i+1)) δc=some r,fun σ' H' a1=>⟨ds.length-(i+1),by lia,rfl,hlt,a1⟩,fun x H' y=> ?_⟩
  obtain ⟨rfl,d,hd,rx⟩:=yl i x H' hlt y
  have hdrop:ds.drop i=d::ds.drop (i+1):=by
   rw [List.drop_eq_getElem_cons hlt]
   congr 1
   rw [List.getElem?_eq_getElem hlt] at hd
   exact Option.some.inj hd
  rw [hdrop,loopM] at hr
  obtain ⟨δ1,h1,hr⟩:=Option.bind_eq_some_iff.mp hr
  obtain ⟨r1,h2,hr⟩:=Option.bind_eq_some_iff.mp hr
  have rx':RepF X.K (fun a=> ¬Wc a) H' x d:=rx.mono fun a ha n z=>by
   rcases sc.2.1 a z with q|q
   ·exact n.1 q
   ·exact n.2 q
  refine qg δc δ1 σc H0 H' x d _ Rc rx' h1 fun σ1 R1 so1=> ?_
  have sc1:=sc.tr (Stp.of (Same.refl _) so1)
  refine qb δ1 σ1 H0 H' _ r1 R1 h2 ?_
  cases r1 with
  |nx δ2=>exact fun W2 σ2 H2 s2 R2=>⟨W2,sc1.tr s2,δ2,R2,hr⟩
  |ct δ2=>exact fun W2 σ2 H2 s2 R2=>⟨W2,sc1.tr s2,δ2,R2,hr⟩
  |bk δ2=>
   cases hr
   exact fun W2 σ2 H2 s2 R2=>hq1 W2 σ2 H2 (sc1.tr s2) R2
  |rt d' δ'=>
   cases hr
   exact hq1.step sc1
 ·left
  have hie:i=ds.length:=by lia
  subst hie
  rw [List.drop_length,loopM] at hr
  cases hr
  exact ⟨st,hq1 Wc σc Hc sc Rc⟩
end
end L2
set_option maxHeartbeats 4000000
namespace L2
open PySem PySem.Spec PyProof.Rows
variable {KF:PySem.W.Frag}{W W':Addr->Prop}
noncomputable def aK (n:Nat) (ds:List Dv):Dt:=ds.map some++List.replicate (n-ds.length) none
noncomputable def aH (n np:Nat) (body:SM) (ds:List Dv):Option Dv:=if ds.length=np then (body (aK n ds)).bind fun r=>match r with
 | .rt d _=>some d
 |_=>none
 else none
noncomputable def spD (KF:PySem.W.Frag) (rk:Kd) (m:List Dv->Option Dv):Sp:=fun vs H Q _=> ∃ds d,RepsF KF (fun _=>True) H vs ds/\m ds=some d/\ ∀v H',Same H H'->Got KF rk W0 H H' v d->Q v H'
theorem Got.call {rk:Kd}{H H1:Hp}{v:V}{d:Dv} (g:Got KF rk W0 H H1 v d) (n:rk≠ .any):Got KF rk W H H1 v d:=by
 cases rk with
 |any=>exact absurd rfl n
 |_=>exact g
theorem jk {ms:List Nat}{H:Hp}{vs:List V}{ds:List Dv}{N:List Str} (r:RepsF KF (fun a=> ¬W a) H vs ds) (hW: ∀a,W a-> ∃o,H a=some o/\Sft o) (hms: ∀i,isOwn ms i=true->ds.length<=i) (hn:ds.length<=N.length):Rel KF ms W H (aK N.length ds) (aS N vs) H:=by
 have hl:=r.length
 have no: ∀{i:Nat}{d:Dv},(aK N.length ds)[i]?=some (some d)->i<ds.length/\ds[i]?=some d:=fun {i d} hd=>by
  unfold aK at hd
  by_cases hi:i<ds.length
  ·rw [List.getElem?_append_left (by rw [List.length_map];exact hi),List.getElem?_map] at hd
   obtain ⟨d',e1,e2⟩:=Option.map_eq_some_iff.mp hd
   cases e2
   exact ⟨hi,e1⟩
  ·rw [List.getElem?_append_right (by rw [List.length_map];lia)] at hd
   have:=List.mem_of_getElem? hd
   rw [List.mem_replicate] at this
   exact nomatch this.2
 refine ⟨?_,fun _ _ z=>z,hW,fun i d n hd=> ?_,fun _=>[],⟨fun _ b hb=>(List.not_mem_nil hb).elim,fun _ _ b hb=>(List.not_mem_nil hb).elim,fun _=>List.nodup_nil,fun i d n hd=> ?_⟩⟩
 ·unfold aS aK
  simp only [List.length_append,List.length_map,List.length_replicate,hl]
 ·obtain ⟨hi,e1⟩:=no hd
  obtain ⟨v,hv,rv⟩:=r.get e1
  refine ⟨v,?_,rv⟩
  unfold aS
  rw [List.getElem?_append_left (by rw [List.length_map];lia),List.getElem?_map,hv]
  rfl
 ·have:=(no hd).1
  have:=hms i n
  lia
theorem jm {ms:List Nat}{H:Hp}{vs:List V}{ds:List Dv}{N:List Str} (r:RepsF KF (fun _=>True) H vs ds) (hms: ∀i,isOwn ms i=true->ds.length<=i) (hn:ds.length<=N.length):Rel KF ms W0 H (aK N.length ds) (aS N vs) H:=
 jk (r.mono fun _ _ _ z=>z) (fun _ w=>w.elim) hms hn
theorem ge {ms:List Nat}{n:Nat} (hms:ms.all (fun i=>decide (n<=if 2000<=i then i-2000 else if 1000<=i then i-1000 else i))=true) {i:Nat} (hi:isOwn ms i=true):n<=i:=by
 unfold isOwn at hi
 rw [Bool.or_eq_true,Bool.or_eq_true] at hi
 rcases hi with hi|hi|hi
 all_goals
  have:=of_decide_eq_true (List.all_eq_true.mp hms _ (of_decide_eq_true hi))
  split at this<;>(try split at this)<;>lia
section
variable {P:Program}{w:World}{K:PySem.W.Frag}{mg:Str->Option Value}{base:Heap}
theorem bO {x qual:Str}{st:Stmt}{f:Addr}{fd:FuncData}{N ps:List Str}{k:Nat}{rk:Kd}{body:SM} (ms:List Nat) (F:Fun K x qual st f fd) (S:aN N ps (aq st)) (hms:ms.all (fun i=>decide (ps.length<=if 2000<=i then i-2000 else if 1000<=i then i-1000 else i))=true) (hps:decide (ps.length<=N.length)=true)
  (hb: ∀(cdv:Value) (A:Around) (outer:List Env) (s:Shared) (H:Hp) (E:XK),Room k (A.deeper (envOfC qual (aq st) s.heap.objs.size f cdv))->PDss (cxOf CX0 P w K mg base N qual (aq st) f cdv A outer s H E).nox ms rk (aJ st) body):
  FnOk P w K mg base CX0 (k+1) f fd ps (spD K rk (aH N.length ps.length body)):=by
 have len: ∀{ds:List Dv}{d:Dv},aH N.length ps.length body ds=some d->ds.length=ps.length:=fun {ds d} h=>by
  unfold aH at h
  split at h
  ·assumption
  ·cases h
 refine F.ok (k:=k) S (fun vs H Q E h=> ?_) fun cdv A outer s H vs Q E hr h=> ?_
 ·obtain ⟨ds,d,r,hm,_⟩:=h
  rw [r.length]
  exact len hm
 ·obtain ⟨ds,d,r,hm,hq⟩:=h
  obtain ⟨t,p,q⟩:=hb cdv A outer s H E hr
  refine ⟨t,p,?_⟩
  have hl:=len hm
  have hps':=of_decide_eq_true hps
  have R:Rel K ms W0 H (aK N.length ds) (aS N vs) H:=jm r (fun i hi=>by rw [hl];exact ge hms hi) (by lia)
  unfold aH at hm
  rw [if_pos hl] at hm
  obtain ⟨fl,hf,e⟩:=Option.bind_eq_some_iff.mp hm
  cases fl with
  |rt d' δ'=>cases e;exact q _ _ H H _ _ R hf fun v W' σ' H' Φ _ R' _ g _=>hq v H' R'.keep (g.weak fun _ z=>z.elim)
  |_=>cases e
end
section
variable {X:Cx}{ms:List Nat}{rk k1:Kd}{a:Expr}{es:List Expr}{ml:Dt->Option (List Dv)}{m:List Dv->Option Dv}{x:Str}{ps:List Str}{p pos:Pos}
theorem bt {k:Nat} (D:Def X.prog X.w X.K X.mg X.base k x ps (spD X.K rk m)) (hr:Room k X.A) (n:rk≠ .any) (ha:PDa X ms k1 (a::es) ml) (hg:Gl X x:=by rfl)
  (hdb:(x==("__debug__":Str))=false:=by decide) (he:starEach (a::es) X.env=(false,eval a X.env)::starEach es X.env:=by rfl) (hpl:(backTo pos (starEach es X.env)).any (·.1)=false:=by rfl):
  PD X ms rk (.Call (.Name x p) (a::es) [] pos) (aj m ml):=by
 obtain ⟨ta,pa,qa⟩:=ha
 refine ⟨_,iP D hr pa hg hdb he hpl,fun δ σ H0 H Q d R hm hq=> ?_⟩
 obtain ⟨xs,hx,e⟩:=Option.bind_eq_some_iff.mp hm
 refine qa δ σ H0 H _ xs R hx fun vs H1 s1 g1=> ?_
 exact ⟨xs,d,g1.bor,e,fun v H' s g=>hq v H' (s1.tr s) ((g.call n).back s1)⟩
end
noncomputable def tyN:Dv->String
 | .non=>"NoneType"
 | .bl _=>"bool"
 | .int _=>"int"
 | .str _=>"str"
 | .lst _=>"list"
 | .tup _=>"tuple"
 | .dic _=>"dict"
 | .scr _=>"list"
 | .fn _=>"list"
 | .fc _ _ _=>"list"
 | .dik _=>"dict"
 | .ins _ _=>"list"
noncomputable def Dv.isScr:Dv->Bool
 | .scr _=>true
 | .fn _=>true
 | .fc _ _ _=>true
 | .ins _ _=>true
 |_=>false
theorem RepF.ty {S:Addr->Prop}{H:Hp}{v:V}{d:Dv} (r:RepF KF S H v d) (hs:d.isScr=false):TyOf KF H v (.type (tyN d)):=by
 cases r with
 |non=>exact .non
 |bl b=>exact .bl b
 |int i=>exact .int i
 |str x=>exact .str x
 |lst s h r=>exact .lst h
 |tup h r=>exact .tup h
 |dic s h r=>exact .dT h
 |scr h=>cases hs
 |fn h=>cases hs
 |fc h=>cases hs
 |dik s h r=>exact .dK h
 |ins s h r=>cases hs
noncomputable def isiN (T C:String):Bool:=T==C||(T=="bool"&&C=="int")
noncomputable def tys:List String:=["NoneType","bool","int","str","list","tuple","dict"]
theorem oI (d:Dv):tyN d∈tys:=by cases d<;>simp [tyN,tys]
noncomputable def kitB (T C:String):Option Bool:=if (Value.type T==Value.type C)=true then some true else (if PySem.W.kitMeta C=true then (fastBuiltinMro T).map (·.contains (.type C)) else none)
theorem oJ:(tys.all fun T=>tys.all fun C=>decide (kitB T C=some (isiN T C)))=true:=by decide+kernel
theorem oK {K:PySem.W.Frag}{T C:String} (h:T∈tys) (h':C∈tys):PySem.W.kitOne K (.type T) (.type C)=some (isiN T C):=by
 have q:=of_decide_eq_true (List.all_eq_true.mp (List.all_eq_true.mp oJ T h) C h')
 exact q
noncomputable def eIsi (C:String) (m:EM):EM:=fun δ=>(m δ).bind fun d=>if d.isScr=false then some (.bl (isiN (tyN d) C)) else none
section
variable {X:Cx}{ms:List Nat}{k:Kd}{a:Expr}{m:EM}{p p2 pos:Pos}{c:Str}
theorem dk (C:String) (ha:PD X ms k a m) (hg:Gl X "isinstance") (hm:X.mg "isinstance"=none) (hcg:Gl X c) (hcm:X.mg c=none) (hcb:bootBuiltins c=some (.type C)) (hC:C∈tys:=by decide) (hn:c≠"__name__":=by decide) (hd:(c==("__debug__":Str))=false:=by decide)
  (he:starEach [a,.Name c p2] X.env=(false,eval a X.env)::starEach [.Name c p2] X.env:=by rfl) (he2:starEach [.Name c p2] X.env=(false,eval (.Name c p2) X.env)::starEach [] X.env:=by rfl) (hpl:(backTo pos (starEach [.Name c p2] X.env)).any (·.1)=false:=by rfl):
  PD X ms .imm (.Call (.Name "isinstance" p) [a,.Name c p2] [] pos) (eIsi C m):=by
 obtain ⟨ta,pa,qa⟩:=ha
 have pc:PE X (.Name c p2) (tC (.ty C)):=gS hcg hcm hcb rfl hn hd
 refine ⟨_,d3 nP hg hm eP (aI pa (aI pc bU he2) he) (by decide) (by decide) he hpl,fun δ σ H0 H Q d R hm hq=> ?_⟩
 obtain ⟨x,hx,e⟩:=Option.bind_eq_some_iff.mp hm
 split at e
 case isFalse=>cases e
 next hsc=>
 cases e
 refine qa δ σ H0 H _ x R hx fun v H1 s1 g1=> ?_
 exact ⟨v,C,_,_,rfl,g1.bor.ty hsc,oK (oI x) hC,hq _ H1 s1 (RepF.bl _)⟩
end
section
variable {X:Cx}
theorem jo: ∀{bs:List Bool}{us:List Value},Vals (bs.map V.bl) us->us=bs.map Value.bool
 |[],us,r=>by cases r;rfl
 |b::bs,us,r=>by
  cases r with
  |cons r1 r2=>
   have e:_=Value.bool b:=r1
   rw [e,jo r2]
   all_goals rfl
theorem oM (bs:List Bool):(List.range bs.length).all (fun i=>bs.getD i true)=bs.all id:=by
 have e:(List.range bs.length).map (fun i=>bs.getD i true)=bs:=by
  apply List.ext_getElem
  ·simp
  ·intro i h1 h2
   simp [List.getD,h2]
 conv=>rhs;rw [<-e]
 rw [List.all_map]
 rfl
theorem PlainL.lt {h:Heap}{a:Addr}{its:Array Value} (p:PlainL h a its):a<h.objs.size:=by
 obtain ⟨o,n,ho,_⟩:=p
 exact Heap.lt_size ho
theorem oN (hc:X.calm=true):ba X (.builtin "all") (fun xs H Q=> ∃(a:Addr) (bs:List Bool),xs=[.ref a]/\H a=some (.lst (bs.map V.bl))/\Q (.bl (bs.all id)) H):=by
 intro pins s σ H xs us Q I r h
 obtain ⟨a,bs,rfl,hq,q⟩:=h
 obtain ⟨u,rfl,ru⟩:=r.one
 cases ru
 obtain ⟨its,rv,pl,hz⟩:=I.list (SqL.of hq)
 have ei:=jo rv
 subst ei
 have hlt:=PlainL.lt pl
 refine call_all_walk (wpAny_pyIter_list pl.isList ?_)
 refine ⟨s.heap.objs.size,_,_,_,_,_,fun i=>bs.getD i true,rfl,Walks.list (A:=X.A.in1) (I.ok.hd hc) s.heap.objs.size a (Nat.ne_of_lt hlt) (bs.map Value.bool).toArray,⟨⟨_,Heap.get?_push_size _ rfl,rfl,rfl⟩,?_⟩,?_,fun h' tk hk=> ?_⟩
 ·obtain ⟨o,n,ho,hcl,hdi,hd⟩:=pl
  exact ⟨o,Heap.get?_push_of_some _ ho,hcl,n,hd⟩
 ·intro i v s' Q' E' hv hQ
  have hv':(bs.map Value.bool)[i]?=some v:=by simpa using hv
  rw [List.getElem?_map] at hv'
  cases e:bs[i]? with
  |none=>rw [e] at hv';cases hv'
  |some b=>
   rw [e] at hv'
   have hv'':v=Value.bool b:=(Option.some.inj hv').symm
   subst hv''
   have eb:bs.getD i true=b:=by simp [List.getD,e]
   have hQ:Q' (bs.getD i true) s':=hQ
   rw [eb] at hQ
   exact wpAny_truthy_bool hQ
 ·have es:(bs.map Value.bool).toArray.size=bs.length:=by simp
  rw [es,oM]
  refine ⟨.bl (bs.all id),H,I.kept (h':=h') (t':=tk) (fun b o e=>hk b o (fun z=> ?_) (Heap.get?_push_of_some _ e)),rfl,q⟩
  have z':b=s.heap.objs.size:=by simpa using z
  rw [z'] at e
  exact absurd (Heap.lt_size e) (Nat.lt_irrefl _)
end
noncomputable def cF:List Dv->Option (List Bool)
 |[]=>some []
 | .bl b::r=>(cF r).map (b:: ·)
 |_::_=>none
theorem jp: ∀{ds:List Dv}{bs:List Bool},cF ds=some bs->ds=bs.map Dv.bl
 |[],_,h=>by cases h;rfl
 |d::r,bs,h=>by
  cases d with
  |bl b=>
   obtain ⟨bs',h',rfl⟩:=Option.map_eq_some_iff.mp h
   rw [jp h']
   all_goals rfl
  |_=>cases h
noncomputable def fAll:List Dv->Option Dv
 |[.lst ds]=>(cF ds).map fun bs=> .bl (bs.all id)
 |_=>none
theorem oO:bL KF (fun xs H Q=> ∃(a:Addr) (bs:List Bool),xs=[.ref a]/\H a=some (.lst (bs.map V.bl))/\Q (.bl (bs.all id)) H) .imm fAll:=by
 intro W H vs ds d Q r e hq
 cases r with
 |nil=>cases e
 |cons h r=>
  cases r with
  |cons _ _=>cases h<;>cases e
  |nil=>
   cases h with
   |lst s h q=>
    obtain ⟨bs,hb,rfl⟩:=Option.map_eq_some_iff.mp e
    have:=jp hb
    subst this
    have:=q.bls
    subst this
    exact ⟨_,bs,rfl,h,hq _ H (fun _ _ z=>z) (RepF.bl _)⟩
   |_=>cases e
noncomputable def d8:List Dv->Option (List Int)
 |[]=>some []
 | .int b::r=>(d8 r).map (b:: ·)
 |_::_=>none
theorem jq: ∀(bs:List Int),d8 (bs.map Dv.int)=some bs
 |[]=>rfl
 |b::r=>by rw [List.map_cons,d8,jq r];rfl
theorem gf: ∀(bs:List Bool),cF (bs.map Dv.bl)=some bs
 |[]=>rfl
 |b::r=>by rw [List.map_cons,cF,gf r];rfl
noncomputable def fSum:List Dv->Option Dv
 |[.scr ns]=>some (.int ns.sum)
 |[.lst ds]=>(d8 ds).map fun ns=> .int ns.sum
 |_=>none
noncomputable def fAbs:List Dv->Option Dv
 |[.int i]=>some (.int (if i<0 then-i else i))
 |_=>none
noncomputable def fInt:List Dv->Option Dv
 |[.int i]=>some (.int i)
 |[.bl b]=>some (.int (if b then 1 else 0))
 |_=>none
noncomputable def fStr:List Dv->Option Dv
 |[.int i]=>if i.natAbs<2^1920 then some (.str (toString i)) else none
 |_=>none
theorem oP:bL KF (fun xs H Q=> ∃i:Int,xs=[.int i]/\i.natAbs.log2<1920/\Q (.str (toString i)) H) .imm fStr:=by
 intro W H vs ds d Q r e hq
 cases r with
 |nil=>cases e
 |cons h r=>
  cases r with
  |cons _ _=>cases h<;>cases e
  |nil=>
   cases h with
   |int i=>
    simp only [fStr] at e
    split at e
    ·next hi=>
     cases e
     refine ⟨_,rfl,?_,hq _ H (fun _ _ z=>z) (RepF.str _)⟩
     by_cases h0:i.natAbs=0
     ·rw [h0];decide
     ·exact (Nat.log2_lt h0).mpr hi
    ·cases e
   |_=>cases e
theorem jr {α:Type}: ∀{l:List α}{i:Nat}{x:α},l[i]?=some x->l.set i x=l
 |[],_,_,h=>by simp at h
 |y::l,0,x,h=>by simp at h;subst h;rfl
 |y::l,i+1,x,h=>by rw [List.set_cons_succ,jr (by simpa using h)]
theorem Rel.mut {ms:List Nat}{H0 H:Hp}{δ:Dt}{σ:St}{i:Nat}{a:Addr}{d d0:Dv}{o:HO} (R:Rel KF ms W H0 δ σ H) (hi:i∈ms) (hs:σ[i]?=some (some (.ref a))) (hd:δ[i]?=some (some d0)) (ho: ∀xs,o≠ .tup xs) (hf: ∀b u,o≠ .frz b u) (c:Cell KF (L2.upd H a o) a d):
  ∃W':Addr->Prop,Rel KF ms W' H0 (δ.set i (some d)) σ (L2.upd H a o)/\Stp ms H0 W σ H W' σ (L2.upd H a o):=by
 obtain ⟨Φ,f⟩:=R.foot
 obtain ⟨a',ha',oo⟩:=f.at_ i d0 (e8 hi) hd
 rw [hs] at ha';cases ha'
 have e:Φ i=[a]:=by
  rcases oo with ⟨_,e,_⟩|⟨n,_⟩|⟨n,_⟩
  ·exact e
  ·exact absurd hi n
  ·exact absurd hi n
 have:=R.chg (P:=[a]) (H':=L2.upd H a o) f (e8 hi) (fun b hb=>by rw [e];exact hb) (fun b ob h n=>by rw [al (fun z=>n (by rw [z];exact List.mem_cons_self ..))];exact h)
  (fun b hb=>by rw [List.mem_singleton.mp hb];exact ⟨o,ax,ho,hf⟩) (by simp) (fun b hb=> .inl hb) (.inl ⟨hi,rfl,c⟩)
 rw [jr hs] at this
 exact ⟨_,this fun _=>hs⟩
theorem Rel.getOwn {ms:List Nat}{H0 H:Hp}{δ:Dt}{σ:St}{i:Nat}{d:Dv} (R:Rel KF ms W H0 δ σ H) (hi:i∈ms) (h:eVar i δ=some d): ∃a,σ[i]?=some (some (.ref a))/\Cell KF H a d:=by
 obtain ⟨a,ha,_,c⟩:=R.own1 hi (eT h)
 exact ⟨a,ha,c⟩
section
variable {X:Cx}{ms:List Nat}{rk k:Kd}{e:Expr}{m:EM}{i:Nat}{x:Str}{np apos cpos pos:Pos}
end
end L2
set_option maxHeartbeats 4000000
namespace L2
open PySem PySem.Spec PyProof.Rows
variable {KF:PySem.W.Frag}{W W':Addr->Prop}
theorem aB:Kd.imm≠ .any:=fun z=>nomatch z
theorem oQ {H:Hp}{a:Addr}{ns:List Int}{m:List Dv->Option Dv}{E:XK} (hO:Only H) (hS:SqL KF H a (ns.map V.int)) (h:m [.scr ns]=some (.bl true)):spD KF .imm m [.ref a] H (fun v _=>v= .bl true) E:=by
 refine ⟨[.scr ns],_,.cons (.scr ?_) .nil,h,fun v H' s g=> ?_⟩
 ·rcases hS with (hS|⟨o,hS⟩)|hS
  ·rcases hO a with e|⟨o,xs,e⟩
   ·rw [hS] at e;cases e
   ·rw [hS] at e;cases e
  ·exact .inl ⟨o,hS⟩
  ·exact .inr hS
 ·cases g;rfl
noncomputable def opB (f:Dv->Dv->Option Dv):Option Dv->Option Dv->Option Dv
 |some x,some y=>f x y
 |_,_=>none
noncomputable def unB (f:Dv->Option Dv):Option Dv->Option Dv
 |some x=>f x
 |_=>none
noncomputable def immB:Option Dv->Option Dv
 |some x=>if x.imm=true then some x else none
 |_=>none
noncomputable def andB (a:Option Dv) (b:EM) (δ:Dt):Option Dv:=match a with
 |some (.bl true)=>b δ
 |some (.bl false)=>some (.bl false)
 |_=>none
noncomputable def orB (a:Option Dv) (b:EM) (δ:Dt):Option Dv:=match a with
 |some (.bl true)=>some (.bl true)
 |some (.bl false)=>b δ
 |_=>none
noncomputable def ifB {α:Type} (c:Option Bool) (a b:Dt->Option α) (δ:Dt):Option α:=match c with
 |some true=>a δ
 |some false=>b δ
 |none=>none
noncomputable def tofB:Option Dv->Option Bool
 |some (.bl b)=>some b
 |_=>none
noncomputable def e9 (c:Option Bool) (b:Dt->Option Bool) (δ:Dt):Option Bool:=match c with
 |some true=>b δ
 |some false=>some false
 |none=>none
noncomputable def torB (c:Option Bool) (b:Dt->Option Bool) (δ:Dt):Option Bool:=match c with
 |some true=>some true
 |some false=>b δ
 |none=>none
noncomputable def js:Option Bool->Option Bool
 |some b=>some (!b)
 |none=>none
noncomputable def jt:Option Dv->Option (List Dv)->Option (List Dv)
 |some x,some xs=>some (x::xs)
 |_,_=>none
noncomputable def tupB:Option (List Dv)->Option Dv
 |some xs=>if xs.length<=lim then some (.tup xs) else none
 |none=>none
noncomputable def lstB:Option (List Dv)->Option Dv
 |some xs=>if xs.length<=lim then some (.lst xs) else none
 |none=>none
noncomputable def ju:Option (List Dv)->Option Dv
 |some xs=>if xs.length<=lim/\imms xs=true then some (.lst xs) else none
 |none=>none
noncomputable def jv (f:List Dv->Option Dv):Option (List Dv)->Option Dv
 |some xs=>f xs
 |none=>none
noncomputable def slB:Option Dv->Option (Option Int)->Option (Option Int)->Option Dv
 |some (.lst ds),some l,some h=>if imms (cutD ds l h)=true then some (.lst (cutD ds l h)) else none
 |some (.scr ns),some l,some h=>some (.lst (cutD (ns.map Dv.int) l h))
 |_,_,_=>none
noncomputable def jw:Option Dv->Option (Option Int)
 |some (.int i)=>some (some i)
 |_=>none
noncomputable def seqB (a:Option Fl) (b:SM):Option Fl:=match a with
 |some (.nx δ)=>b δ
 |some r=>some r
 |none=>none
noncomputable def setB (i:Nat) (a:Option Dv) (δ:Dt):Option Fl:=match a with
 |some d=>some (.nx (δ.set i (some d)))
 |none=>none
noncomputable def retB (δ:Dt):Option Dv->Option Fl
 |some d=>some (.rt d δ)
 |none=>none
noncomputable def jy (a:Option Dv) (δ:Dt):Option Fl:=match a with
 |some _=>some (.nx δ)
 |none=>none
noncomputable def forB (a:Option (List Dv)) (g:Dv->Dt->Option Dt) (b:SM) (δ:Dt):Option Fl:=match a with
 |some ds=>loopM g b ds δ
 |none=>none
noncomputable def jz (a:Option (List Dv)) (g:Dv->Dt->Option Dt) (c:Dt->Option Bool) (el:EM) (δ:Dt):Option Dv:=match a with
 |some ds=>(bd g c el δ ds).map .lst
 |none=>none
noncomputable def appB (i:Nat) (a x:Option Dv) (δ:Dt):Option Fl:=match a,x with
 |some d,some (.lst ds)=>if ds.length<lim/\d.imm=true then some (.nx (δ.set i (some (.lst (ds++[d]))))) else none
 |_,_=>none
noncomputable def endB:Option Fl->Option Dv
 |some (.rt d _)=>some d
 |_=>none
theorem gg {f:Dv->Dv->Option Dv}{a b:EM}{δ:Dt}:eOp f a b δ=opB f (a δ) (b δ):=by unfold eOp;cases a δ<;>cases b δ<;>rfl
theorem oR {f:Dv->Option Dv}{a:EM}{δ:Dt}:eUn f a δ=unB f (a δ):=by unfold eUn;cases a δ<;>rfl
theorem oS {a:EM}{δ:Dt}:eImm a δ=immB (a δ):=by unfold eImm;cases a δ<;>rfl
theorem oU {a b:EM}{δ:Dt}:eAnd a b δ=andB (a δ) b δ:=by
 unfold eAnd andB
 cases a δ with
 |none=>rfl
 |some x=>cases x with
  |bl b=>cases b<;>rfl
  |_=>rfl
theorem oV {a b:EM}{δ:Dt}:eOr a b δ=orB (a δ) b δ:=by
 unfold eOr orB
 cases a δ with
 |none=>rfl
 |some x=>cases x with
  |bl b=>cases b<;>rfl
  |_=>rfl
theorem oW {c:Dt->Option Bool}{a b:EM}{δ:Dt}:eIf c a b δ=ifB (c δ) a b δ:=by
 unfold eIf ifB
 cases c δ with
 |none=>rfl
 |some x=>cases x<;>rfl
theorem oX {c:Dt->Option Bool}{a b:SM}{δ:Dt}:sIf c a b δ=ifB (c δ) a b δ:=by
 unfold sIf ifB
 cases c δ with
 |none=>rfl
 |some x=>cases x<;>rfl
theorem oY {a:EM}{δ:Dt}:tOf a δ=tofB (a δ):=by
 unfold tOf tofB fV
 cases a δ with
 |none=>rfl
 |some x=>cases x<;>rfl
theorem oZ {a b:Dt->Option Bool}{δ:Dt}:tand a b δ=e9 (a δ) b δ:=by
 unfold tand e9
 cases a δ with
 |none=>rfl
 |some x=>cases x<;>rfl
theorem o0 {a b:Dt->Option Bool}{δ:Dt}:tor a b δ=torB (a δ) b δ:=by
 unfold tor torB
 cases a δ with
 |none=>rfl
 |some x=>cases x<;>rfl
theorem o3 {a:Dt->Option Bool}{δ:Dt}:tnot a δ=js (a δ):=by unfold tnot;cases a δ<;>rfl
theorem o4 {δ:Dt}:tyes δ=some true:=rfl
theorem o5 {δ:Dt}:aNil δ=some []:=rfl
theorem o6 {a:EM}{r:Dt->Option (List Dv)}{δ:Dt}:aa a r δ=jt (a δ) (r δ):=by unfold aa;cases a δ<;>cases r δ<;>rfl
theorem o7 {a:Dt->Option (List Dv)}{δ:Dt}:eTup a δ=tupB (a δ):=by unfold eTup;cases a δ<;>rfl
theorem o8 {a:Dt->Option (List Dv)}{δ:Dt}:eLst a δ=lstB (a δ):=by unfold eLst;cases a δ<;>rfl
theorem o9 {a:Dt->Option (List Dv)}{δ:Dt}:bI a δ=ju (a δ):=by unfold bI;cases a δ<;>rfl
theorem pd {f:List Dv->Option Dv}{a:Dt->Option (List Dv)}{δ:Dt}:aj f a δ=jv f (a δ):=by unfold aj;cases a δ<;>rfl
theorem pf {m:EM}{lo hi:Dt->Option (Option Int)}{δ:Dt}:eSl m lo hi δ=slB (m δ) (lo δ) (hi δ):=by
 unfold eSl
 cases m δ with
 |none=>rfl
 |some x=>cases lo δ<;>cases hi δ<;>cases x<;>rfl
theorem pj {δ:Dt}:bB δ=some none:=rfl
theorem pp {m:EM}{δ:Dt}:br m δ=jw (m δ):=by
 unfold br
 cases m δ with
 |none=>rfl
 |some x=>cases x<;>rfl
theorem pq {a b:SM}{δ:Dt}:sSeq a b δ=seqB (a δ) b:=by
 unfold sSeq
 cases a δ with
 |none=>rfl
 |some x=>cases x<;>rfl
theorem pw {i:Nat}{m:EM}{δ:Dt}:sSet i m δ=setB i (m δ) δ:=by unfold sSet;cases m δ<;>rfl
theorem px {m:EM}{δ:Dt}:sRet m δ=retB δ (m δ):=by unfold sRet;cases m δ<;>rfl
theorem py {m:EM}{δ:Dt}:ji m δ=jy (m δ) δ:=by unfold ji;cases m δ<;>rfl
theorem pz {δ:Dt}:aE δ=some (.nx δ):=rfl
theorem pA {it:Dt->Option (List Dv)}{g:Dv->Dt->Option Dt}{b:SM}{δ:Dt}:sFor it g b δ=forB (it δ) g b δ:=by unfold sFor;cases it δ<;>rfl
theorem pB {ρ:List (Option Nat)}{it:Dt->Option (List Dv)}{g:Dv->Dt->Option Dt}{c:Dt->Option Bool}{el:EM}{δ:Dt}:bN ρ it g c el δ=jz (it δ) g c el (aD ρ δ):=by unfold bN;cases it δ<;>rfl
theorem pC {i:Nat}{m:EM}{δ:Dt}:sApp i m δ=appB i (m δ) (eVar i δ) δ:=by
 unfold sApp
 cases m δ with
 |none=>rfl
 |some d=>
  cases eVar i δ with
  |none=>rfl
  |some x=>cases x<;>rfl
theorem eC_b {d:Dv}{δ:Dt}:eC d δ=some d:=rfl
theorem pD {n np:Nat}{body:SM}{ds:List Dv} (h:ds.length=np):aH n np body ds=endB (body (aK n ds)):=by
 unfold aH
 rw [if_pos h]
 cases body (aK n ds) with
 |none=>rfl
 |some x=>cases x<;>rfl
theorem pE {d:Option Dv}{δ:Dt}:eVar 0 (d::δ)=d:=rfl
theorem pF {i:Nat}{d:Option Dv}{δ:Dt}:eVar (i+1) (d::δ)=eVar i δ:=rfl
theorem pG {f:Dv->Dv->Option Dv}{x y:Dv}:opB f (some x) (some y)=f x y:=rfl
theorem pH {f:Dv->Option Dv}{x:Dv}:unB f (some x)=f x:=rfl
theorem pI {x:Dv} (h:x.imm=true):immB (some x)=some x:=by show (if _ then _ else _)=_;rw [if_pos h]
theorem pJ {b:EM}{δ:Dt}:andB (some (.bl true)) b δ=b δ:=rfl
theorem pK {b:EM}{δ:Dt}:andB (some (.bl false)) b δ=some (.bl false):=rfl
theorem pL {b:EM}{δ:Dt}:orB (some (.bl true)) b δ=some (.bl true):=rfl
theorem pM {b:EM}{δ:Dt}:orB (some (.bl false)) b δ=b δ:=rfl
theorem pN {α:Type}{a b:Dt->Option α}{δ:Dt}:ifB (some true) a b δ=a δ:=rfl
theorem pO {α:Type}{a b:Dt->Option α}{δ:Dt}:ifB (some false) a b δ=b δ:=rfl
theorem pP {b:Bool}:tofB (some (.bl b))=some b:=rfl
theorem pQ {b:Dt->Option Bool}{δ:Dt}:e9 (some true) b δ=b δ:=rfl
theorem pR {b:Dt->Option Bool}{δ:Dt}:e9 (some false) b δ=some false:=rfl
theorem pS {b:Dt->Option Bool}{δ:Dt}:torB (some true) b δ=some true:=rfl
theorem pT {b:Dt->Option Bool}{δ:Dt}:torB (some false) b δ=b δ:=rfl
theorem pU {b:Bool}:js (some b)=some (!b):=rfl
theorem pV {x:Dv}{xs:List Dv}:jt (some x) (some xs)=some (x::xs):=rfl
theorem pW {xs:List Dv} (h:xs.length<=lim):tupB (some xs)=some (.tup xs):=by show (if _ then _ else _)=_;rw [if_pos h]
theorem pX {xs:List Dv} (h:xs.length<=lim):lstB (some xs)=some (.lst xs):=by show (if _ then _ else _)=_;rw [if_pos h]
theorem pY {xs:List Dv} (h:xs.length<=lim) (h':imms xs=true):ju (some xs)=some (.lst xs):=by show (if xs.length<=lim/\imms xs=true then _ else _)=_;rw [if_pos ⟨h,h'⟩]
theorem pZ {f:List Dv->Option Dv}{xs:List Dv}:jv f (some xs)=f xs:=rfl
theorem p0 {i:Int}:jw (some (.int i))=some (some i):=rfl
theorem p6 {ns:List Int}{l h:Option Int}:slB (some (.scr ns)) (some l) (some h)=some (.lst (cutD (ns.map Dv.int) l h)):=rfl
theorem p7 {ds:List Dv}{l h:Option Int} (hi:imms (cutD ds l h)=true):slB (some (.lst ds)) (some l) (some h)=some (.lst (cutD ds l h)):=by
 show (if imms (cutD ds l h)=true then _ else _)=_
 rw [if_pos hi]
theorem p8 {δ:Dt}{b:SM}:seqB (some (.nx δ)) b=b δ:=rfl
theorem p9 {d:Dv}{δ:Dt}{b:SM}:seqB (some (.rt d δ)) b=some (.rt d δ):=rfl
theorem qc {i:Nat}{d:Dv}{δ:Dt}:setB i (some d) δ=some (.nx (δ.set i (some d))):=rfl
theorem qd {d:Dv}{δ:Dt}:retB δ (some d)=some (.rt d δ):=rfl
theorem qf {d:Dv}{δ:Dt}:jy (some d) δ=some (.nx δ):=rfl
theorem qj {ds:List Dv}{g:Dv->Dt->Option Dt}{b:SM}{δ:Dt}:forB (some ds) g b δ=loopM g b ds δ:=rfl
theorem qk {ds:List Dv}{g:Dv->Dt->Option Dt}{c:Dt->Option Bool}{el:EM}{δ:Dt}:jz (some ds) g c el δ=(bd g c el δ ds).map .lst:=rfl
theorem qm {d:Dv}{δ:Dt}:endB (some (.rt d δ))=some d:=rfl
theorem qo {i:Nat}{d:Dv}{ds:List Dv}{δ:Dt} (h:ds.length<lim) (h':d.imm=true):appB i (some d) (some (.lst ds)) δ=some (.nx (δ.set i (some (.lst (ds++[d]))))):=by
 show (if ds.length<lim/\d.imm=true then _ else _)=_
 rw [if_pos ⟨h,h'⟩]
theorem gN_b {i:Nat}{d:Dv}{δ:Dt}:gN i d δ=some (δ.set i (some d)):=rfl
theorem qp {i j:Int}:dAdd (.int i) (.int j)=some (.int (i+j)):=rfl
theorem qq {i j:Int}:dSub (.int i) (.int j)=some (.int (i-j)):=rfl
theorem gh {i j:Int} (h:0<j):dMod (.int i) (.int j)=some (.int (i%j)):=by show (if 0<j then _ else _)=_;rw [if_pos h]
theorem qt {i j:Int} (h:0<j/\j<1073741824):dDiv (.int i) (.int j)=some (.int (i/j)):=by show (if 0<j/\j<1073741824 then _ else _)=_;rw [if_pos h]
theorem fb {i j:Int} (h:bJ i j=true):dMul (.int i) (.int j)=some (.int (i*j)):=by show (if bJ i j=true then _ else _)=_;rw [if_pos h]
theorem qu {i j:Int}:dLt (.int i) (.int j)=some (.bl (decide (i<j))):=rfl
theorem qw {i j:Int}:dLe (.int i) (.int j)=some (.bl (decide (i<=j))):=rfl
theorem qx {i j:Int}:dGt (.int i) (.int j)=some (.bl (decide (j<i))):=rfl
theorem qy {i j:Int}:dGe (.int i) (.int j)=some (.bl (decide (j<=i))):=rfl
theorem qz {i:Int}:dNeg (.int i)=some (.int (-i)):=rfl
theorem qA {b:Bool}:dNot (.bl b)=some (.bl (!b)):=rfl
theorem qB {i j:Int}:dEq (.int i) (.int j)=some (.bl (decide (i=j))):=by
 have h:eqOk (.int i) (.int j)=true:=by
  show (true&&true&&decide (min 1 1<=60))=true
  rfl
 show (if eqOk _ _=true then _ else _)=_
 rw [if_pos h]
 rfl
theorem qC {i j:Int}:dNe (.int i) (.int j)=some (.bl (!decide (i=j))):=by
 have h:eqOk (.int i) (.int j)=true:=by
  show (true&&true&&decide (min 1 1<=60))=true
  rfl
 show (if eqOk _ _=true then _ else _)=_
 rw [if_pos h]
 rfl
theorem qD {i j:Bool}:dEq (.bl i) (.bl j)=some (.bl (i==j)):=by
 have h:eqOk (.bl i) (.bl j)=true:=by
  show (true&&true&&decide (min 1 1<=60))=true
  rfl
 show (if eqOk _ _=true then _ else _)=_
 rw [if_pos h]
 rfl
theorem qE {xs:List Dv}{i:Int}:dIx (.lst xs) (.int i)=atI xs i:=rfl
theorem qF {xs:List Dv}{i:Int}:dIx (.tup xs) (.int i)=atI xs i:=rfl
theorem qG {xs:List Int}{i:Int}:dIx (.scr xs) (.int i)=(atI xs i).map .int:=rfl
theorem jA {α:Type}{xs:List α}{i:Int}{x:α} (h0:0<=i) (h:xs[i.toNat]?=some x):atI xs i=some x:=by
 have e:((i.toNat:Nat):Int)=i:=Int.toNat_of_nonneg h0
 have:=mO h
 rwa [e] at this
theorem qH {zs:List Int}{i:Int} (h0:0<=i) (h1:i<(zs.length:Int)):atI (zs.map Dv.int) i=some (.int (zs.getD i.toNat 0)):=by
 refine jA h0 ?_
 have hlt:i.toNat<zs.length:=by lia
 rw [List.getElem?_map,List.getElem?_eq_getElem hlt]
 simp [List.getD,hlt]
theorem dl: ∀(zs:List Int),imms (zs.map Dv.int)=true
 |[]=>rfl
 |z::r=>by rw [List.map_cons,imms,dl r];rfl
theorem qI:lim=100000:=(rfl)
theorem lenc {α:Type}{a:α}{l:List α}:(a::l).length=l.length+1:=(rfl)
theorem lenn {α:Type}:([]:List α).length=0:=(rfl)
theorem qJ {i:Int}:Dv.imm (.int i)=true:=(rfl)
theorem qK {i:Bool}:Dv.imm (.bl i)=true:=(rfl)
theorem qL {i:Str}:Dv.imm (.str i)=true:=(rfl)
theorem qM:Dv.imm .non=true:=(rfl)
theorem qN {ds:List Dv}:Dv.imm (.tup ds)=imms ds:=(rfl)
theorem qO:imms []=true:=(rfl)
theorem qP {d:Dv}{ds:List Dv}:imms (d::ds)=(d.imm&&imms ds):=(rfl)
theorem jB: ∀{a b:List Dv},imms (a++b)=(imms a&&imms b)
 |[],b=>rfl
 |x::a,b=>by rw [List.cons_append,imms,imms,jB,Bool.and_assoc]
theorem qQ {ds:List Dv}:fLen [.lst ds]=some (.int ds.length):=rfl
theorem qR {ds:List Dv}:fLen [.tup ds]=some (.int ds.length):=rfl
theorem qS {ds:List Int}:fLen [.scr ds]=some (.int ds.length):=rfl
theorem qT {ds:List Dv} (h:imms ds=true):cD [.lst ds]=some (.tup ds):=by show (if _ then _ else _)=_;rw [if_pos h]
theorem qU {ds:List Dv} (h:imms ds=true):cD [.tup ds]=some (.tup ds):=by show (if _ then _ else _)=_;rw [if_pos h]
theorem qV {ds:List Dv} (h:imms ds=true):bY [.lst ds]=some (.lst ds):=by show (if _ then _ else _)=_;rw [if_pos h]
theorem qW {ds:List Dv} (h:imms ds=true):bY [.tup ds]=some (.lst ds):=by show (if _ then _ else _)=_;rw [if_pos h]
theorem qX {ds:List Int}:bY [.scr ds]=some (.lst (ds.map .int)):=rfl
theorem jC {a b:List Dv} (h:a.length+b.length<=lim) (h':imms (a++b)=true):cE (.lst a) (.lst b)=some (.lst (a++b)):=by
 unfold cE
 show (Option.bind (if a.length+b.length<=lim then _ else _) _)=_
 rw [if_pos h]
 show (if imms (a++b)=true then _ else _)=_
 rw [if_pos h']
theorem qY {C:String}{m:EM}{δ:Dt}:eIsi C m δ=(match m δ with|some d=>if d.isScr=false then some (.bl (isiN (tyN d) C)) else none|none=>none):=by unfold eIsi;cases m δ<;>rfl
theorem jD {m:EM}{δ:Dt}{j:Int} (h:m δ=some (.int j)) (hl:0<=j/\j<=100000):iR1 m δ=some (bn 0 j.toNat):=by
 unfold iR1;rw [h]
 show (if _ then _ else _)=_
 rw [if_pos]
 have:(lim:Int)=100000:=rfl
 lia
theorem qZ {α β:Type} (f:α->β) (xs:List α) (l h:Option Int):cutD (xs.map f) l h=(cutD xs l h).map f:=by
 unfold cutD
 rw [List.length_map,<-List.map_drop,<-List.map_take]
theorem jE {i j:Int} (h: -(2^63)<=i/\i<=2^63):bJ i j=true:=by
 unfold bJ
 rw [decide_eq_true (show i.natAbs<2^64 by lia)]
 rfl
theorem jF {i j:Int} (h: -(2^63)<=j/\j<=2^63):bJ i j=true:=by
 unfold bJ
 rw [decide_eq_true (show j.natAbs<2^64 by lia),Bool.or_true]
 rfl
theorem jG {g:Dv->Dt->Option Dt}{body:SM}: ∀{ds:List Dv}{δ:Dt} (I:Nat->Dt->Prop),I 0 δ->(∀i d δ,ds[i]?=some d->I i δ-> ∃δ1 δ2,g d δ=some δ1/\body δ1=some (.nx δ2)/\I (i+1) δ2)-> ∃δ',loopM g body ds δ=some (.nx δ')/\I ds.length δ'
 |[],δ,I,h0,_=>⟨δ,rfl,h0⟩
 |d::ds,δ,I,h0,st=>by
  obtain ⟨δ1,δ2,h1,h2,h3⟩:=st 0 d δ rfl h0
  obtain ⟨δ',e,h⟩:=jG (ds:=ds) (δ:=δ2) (fun i=>I (i+1)) h3 fun i d δ hd hi=>st (i+1) d δ (by simpa using hd) hi
  refine ⟨δ',?_,h⟩
  rw [loopM,h1]
  show Option.bind (body δ1) _=_
  rw [h2]
  exact e
noncomputable def celM (g:Dv->Dt->Option Dt) (c:Dt->Option Bool) (el:EM) (δ:Dt) (d:Dv):Option (Option Dv):=match g d δ with
 |none=>none
 |some δ1=>match c δ1 with
  |none=>none
  |some false=>some none
  |some true=>match el δ1 with
   |none=>none
   |some x=>if x.imm=true then some (some x) else none
theorem jH {α:Type}{g:Dv->Dt->Option Dt}{c:Dt->Option Bool}{el:EM}{δ:Dt} (enc:α->Dv) (f:α->Option Dv): ∀(xs:List α),(∀x,x∈xs->celM g c el δ (enc x)=some (f x))->bd g c el δ (xs.map enc)=some (xs.filterMap f)
 |[],_=>rfl
 |x::xs,h=>by
  have h0:=h x List.mem_cons_self
  have ih:=jH enc f xs fun y hy=>h y (List.mem_cons_of_mem _ hy)
  rw [List.map_cons,bd,List.filterMap_cons]
  unfold celM at h0
  cases e1:g (enc x) δ with
  |none=>rw [e1] at h0;cases h0
  |some δ1=>
   rw [e1] at h0
   simp only at h0
   rw [Option.bind_some]
   cases e2:c δ1 with
   |none=>rw [e2] at h0;cases h0
   |some b=>
    rw [e2] at h0
    rw [Option.bind_some]
    cases b with
    |false=>
     have e4:none=f x:=Option.some.inj h0
     rw [if_neg Bool.false_ne_true,ih,<-e4]
    |true=>
     simp only at h0
     rw [if_pos rfl]
     cases e3:el δ1 with
     |none=>rw [e3] at h0;cases h0
     |some y=>
      rw [e3] at h0
      simp only at h0
      rw [Option.bind_some]
      split at h0
      ·next hi=>
       have e4:=Option.some.inj h0
       rw [if_pos hi,ih,<-e4]
       rfl
      ·cases h0
noncomputable def cel3:Option Dv->Option (Option Dv)
 |some x=>if x.imm=true then some (some x) else none
 |none=>none
noncomputable def cel2 (b:Option Bool) (el:EM) (δ:Dt):Option (Option Dv):=match b with
 |some true=>cel3 (el δ)
 |some false=>some none
 |none=>none
noncomputable def celB (o:Option Dt) (c:Dt->Option Bool) (el:EM):Option (Option Dv):=match o with
 |some δ=>cel2 (c δ) el δ
 |none=>none
theorem q5 {g:Dv->Dt->Option Dt}{c:Dt->Option Bool}{el:EM}{δ:Dt}{d:Dv}:celM g c el δ d=celB (g d δ) c el:=by
 unfold celM celB cel2 cel3
 cases g d δ with
 |none=>rfl
 |some δ1=>
  simp only
  cases c δ1 with
  |none=>rfl
  |some b=>cases b<;>first|rfl|(cases el δ1<;>rfl)
theorem rc {δ:Dt}{c:Dt->Option Bool}{el:EM}:celB (some δ) c el=cel2 (c δ) el δ:=rfl
theorem re {δ:Dt}{el:EM}:cel2 (some true) el δ=cel3 (el δ):=rfl
theorem rf {δ:Dt}{el:EM}:cel2 (some false) el δ=some none:=rfl
theorem rg {x:Dv} (h:x.imm=true):cel3 (some x)=some (some x):=by show (if _ then _ else _)=_;rw [if_pos h]
theorem fe {α:Type}{xs:List α}{i:Int} (h0:0<=i) (h1:i<(xs.length:Int)): ∃x,x∈xs/\atI xs i=some x:=by
 have hlt:i.toNat<xs.length:=by lia
 exact ⟨xs[i.toNat],List.getElem_mem hlt,jA h0 (by simp [hlt])⟩
noncomputable def lp2 (r:Option Fl) (g:Dv->Dt->Option Dt) (body:SM) (ds:List Dv):Option Fl:=match r with
 |some (.nx δ)=>loopM g body ds δ
 |some (.ct δ)=>loopM g body ds δ
 |some (.bk δ)=>some (.nx δ)
 |some (.rt d δ)=>some (.rt d δ)
 |none=>none
noncomputable def lp1 (o:Option Dt) (g:Dv->Dt->Option Dt) (body:SM) (ds:List Dv):Option Fl:=match o with
 |some δ=>lp2 (body δ) g body ds
 |none=>none
theorem rh {g:Dv->Dt->Option Dt}{body:SM}{d:Dv}{ds:List Dv}{δ:Dt}:loopM g body (d::ds) δ=lp1 (g d δ) g body ds:=by
 rw [loopM]
 cases g d δ with
 |none=>rfl
 |some δ1=>
  show Option.bind (body δ1) _=lp2 (body δ1) g body ds
  unfold lp2
  cases body δ1 with
  |none=>rfl
  |some r=>cases r<;>rfl
theorem rj {g:Dv->Dt->Option Dt}{body:SM}{δ:Dt}:loopM g body [] δ=some (.nx δ):=rfl
theorem rm {g:Dv->Dt->Option Dt}{body:SM}{ds:List Dv}{δ:Dt}:lp1 (some δ) g body ds=lp2 (body δ) g body ds:=rfl
theorem rn {g:Dv->Dt->Option Dt}{body:SM}{ds:List Dv}{δ:Dt}:lp2 (some (.nx δ)) g body ds=loopM g body ds δ:=rfl
theorem rp {g:Dv->Dt->Option Dt}{body:SM}{ds:List Dv}{δ:Dt}:lp2 (some (.ct δ)) g body ds=loopM g body ds δ:=rfl
theorem rq {g:Dv->Dt->Option Dt}{body:SM}{ds:List Dv}{δ:Dt}:lp2 (some (.bk δ)) g body ds=some (.nx δ):=rfl
theorem rA {g:Dv->Dt->Option Dt}{body:SM}{ds:List Dv}{d:Dv}{δ:Dt}:lp2 (some (.rt d δ)) g body ds=some (.rt d δ):=rfl
theorem gT_b {n:Nat}{g:List Dv->Dt->Option Dt}{ds:List Dv}{δ:Dt} (h:ds.length=n):gT n g (.tup ds) δ=g ds δ:=by
 show (if ds.length=n then _ else _)=_
 rw [if_pos h]
noncomputable def gcB (o:Option Dt) (r:List Dv->Dt->Option Dt) (ds:List Dv):Option Dt:=match o with
 |some δ=>r ds δ
 |none=>none
theorem gC_b {g:Dv->Dt->Option Dt}{r:List Dv->Dt->Option Dt}{d:Dv}{ds:List Dv}{δ:Dt}:gC g r (d::ds) δ=gcB (g d δ) r ds:=by
 show Option.bind (g d δ) (r ds)=_
 cases g d δ<;>rfl
theorem rB {r:List Dv->Dt->Option Dt}{ds:List Dv}{δ:Dt}:gcB (some δ) r ds=r ds δ:=rfl
theorem gZ_b {δ:Dt}:gZ [] δ=some δ:=rfl
noncomputable def ilB:Option Dv->Option (List Dv)
 |some (.lst ds)=>if ds.length<=lim then some ds else none
 |some (.scr ns)=>if ns.length<=lim then some (ns.map .int) else none
 |_=>none
noncomputable def iliB:Option Dv->Option (List Dv)
 |some (.lst ds)=>if ds.length<=lim/\imms ds=true then some ds else none
 |_=>none
noncomputable def itB:Option Dv->Option (List Dv)
 |some (.tup ds)=>if ds.length<=lim then some ds else none
 |_=>none
noncomputable def itiB:Option Dv->Option (List Dv)
 |some (.tup ds)=>if ds.length<=lim/\imms ds=true then some ds else none
 |_=>none
theorem iL_b {m:EM}{δ:Dt}:iL m δ=ilB (m δ):=by
 unfold iL
 cases m δ with
 |none=>rfl
 |some x=>cases x<;>rfl
theorem rC {m:EM}{δ:Dt}:iLI m δ=iliB (m δ):=by
 unfold iLI
 cases m δ with
 |none=>rfl
 |some x=>cases x<;>rfl
theorem iT_b {m:EM}{δ:Dt}:iT m δ=itB (m δ):=by
 unfold iT
 cases m δ with
 |none=>rfl
 |some x=>cases x<;>rfl
theorem rD {m:EM}{δ:Dt}:iTI m δ=itiB (m δ):=by
 unfold iTI
 cases m δ with
 |none=>rfl
 |some x=>cases x<;>rfl
theorem rE {ds:List Dv} (h:ds.length<=lim):ilB (some (.lst ds))=some ds:=by show (if _ then _ else _)=_;rw [if_pos h]
theorem rF {ds:List Int} (h:ds.length<=lim):ilB (some (.scr ds))=some (ds.map .int):=by show (if _ then _ else _)=_;rw [if_pos h]
theorem rG {ds:List Dv} (h:ds.length<=lim) (h':imms ds=true):iliB (some (.lst ds))=some ds:=by show (if ds.length<=lim/\imms ds=true then _ else _)=_;rw [if_pos ⟨h,h'⟩]
theorem rH {ds:List Dv} (h:ds.length<=lim):itB (some (.tup ds))=some ds:=by show (if _ then _ else _)=_;rw [if_pos h]
theorem rJ {ds:List Dv} (h:ds.length<=lim) (h':imms ds=true):itiB (some (.tup ds))=some ds:=by show (if ds.length<=lim/\imms ds=true then _ else _)=_;rw [if_pos ⟨h,h'⟩]
end L2
set_option maxHeartbeats 4000000
namespace DhSort
open PySem PyProof.Rows
structure Wk where
 lt:Keyed->Keyed->Bool
 irr: ∀p,lt p p=false
 tra: ∀p q r,lt p q=true->lt q r=true->lt p r=true
 neg: ∀p q r,lt p r=true->lt p q=true \/lt q r=true
namespace Wk
variable {W:Wk}{p q r:Keyed}
noncomputable def le (W:Wk) (p q:Keyed):Prop:=W.lt q p=false
theorem uV (a:W.lt p q=true):W.le p q:=by
 unfold le
 cases h:W.lt q p with
 |false=>rfl
 |true=>have:=W.tra _ _ _ a h;rw [W.irr] at this;cases this
end Wk
noncomputable def kAt (xs:Array Keyed) (i:Nat):Keyed:=(xs[i]?).getD (Value.none,Value.none)
noncomputable def rK (W:Wk) (xs:Array Keyed) (lo hi:Nat):Prop:= ∀i j,lo<=i->i<=j->j<hi->W.le (kAt xs i) (kAt xs j)
structure Bs (a₀:Array Keyed) (kd:SortKind) (P:Array (Nat×Nat×Nat)) (st:SortSt):Prop where
 perm:(arrOf st).Perm a₀
 kind:kindOf st=kd
 failed:failedOf st=none
 pend:pendingOf st=P
section
variable {prog:Program}{w:World}{A:Around}{E:Value->Shared->Prop}{s:Shared}{W:Wk}{kd:SortKind}{good:Keyed->Prop}{a₀:Array Keyed}{P:Array (Nat×Nat×Nat)}{st:SortSt}
theorem Bs.set (B:Bs a₀ kd P st) {xs:Array Keyed} (hp:xs.Perm (arrOf st)):Bs a₀ kd P (setArr st xs):=⟨hp.trans B.perm,B.kind,B.failed,B.pend⟩
end
end DhSort
set_option maxHeartbeats 4000000
namespace DhSort
open PySem PyProof.Rows
section
variable {prog:Program}{w:World}{A:Around}{E:Value->Shared->Prop}{s:Shared}{W:Wk}{kd:SortKind}{good:Keyed->Prop}{a₀:Array Keyed}{P:Array (Nat×Nat×Nat)}{st:SortSt}
end
end DhSort
set_option maxHeartbeats 4000000
namespace DhSort
open PySem PyProof.Rows
section
variable {prog:Program}{w:World}{A:Around}{E:Value->Shared->Prop}{s:Shared}{W:Wk}{kd:SortKind}{good:Keyed->Prop}{st:SortSt}
end
end DhSort
set_option maxHeartbeats 4000000
namespace DhSort
open PySem PyProof.Rows
section
variable {W:Wk}{a b out:Array Keyed}{ia ib:Nat}
end
section
variable {prog:Program}{w:World}{A:Around}{E:Value->Shared->Prop}{s:Shared}{W:Wk}{kd:SortKind}{good:Keyed->Prop}{st:SortSt}
end
end DhSort
set_option maxHeartbeats 4000000
namespace DhSort
open PySem PyProof.Rows
section
variable {W:Wk}{a b out:Array Keyed}{na nb:Nat}
end
section
variable {prog:Program}{w:World}{A:Around}{E:Value->Shared->Prop}{s:Shared}{W:Wk}{kd:SortKind}{good:Keyed->Prop}{st:SortSt}
end
end DhSort
set_option maxHeartbeats 4000000
namespace DhSort
open PySem PyProof.Rows
noncomputable abbrev Run:=Nat×Nat×Nat
noncomputable def cG (W:Wk) (xs:Array Keyed):Nat->List Run->Nat->Prop
 |p,[],q=>p=q
 |p,(s,n,_)::r,q=>s=p/\1<=n/\rK W xs p (p+n)/\cG W xs (p+n) r q
section
variable {W:Wk}{xs ys:Array Keyed}
theorem cG.le: ∀{l:List Run}{p q:Nat},cG W xs p l q->p<=q
 |[],p,q,h=>Nat.le_of_eq h
 |(s,n,_)::r,p,q,h=>by
  have:=cG.le h.2.2.2
  lia
theorem cG.len: ∀{l:List Run}{p q:Nat},cG W xs p l q->p+l.length<=q
 |[],p,q,h=>Nat.le_of_eq (show p+0=q from h)
 |(s,n,_)::r,p,q,h=>by
  have:=cG.len h.2.2.2
  have:=h.2.1
  rw [List.length_cons]
  lia
end
section
variable {prog:Program}{w:World}{A:Around}{E:Value->Shared->Prop}{s:Shared}{W:Wk}{kd:SortKind}{good:Keyed->Prop}{a₀:Array Keyed}{P:Array Run}{st:SortSt}
end
end DhSort
set_option maxHeartbeats 4000000
namespace DhSort
open PySem PySem.Calls PyProof.Rows PySem.W L2
theorem jI: ∀p:List Int,HT.cw p p=false
 |[]=>rfl
 |x::r=>by rw [HT.mH,if_pos rfl];exact jI r
noncomputable def ff (h:Heap) (v:Value) (ns:List Int):Prop:= ∃x ob us n,v= .ref x/\h.get? x=some ob/\ob.cls= .type "tuple"/\ob.data= .seq us n/\IntsAre us.toList ns
theorem ff.keep {h h':Heap}{v:Value}{ns:List Int} (r:ff h v ns) (k: ∀x ob,v= .ref x->h.get? x=some ob->h'.get? x=some ob):ff h' v ns:=by
 obtain ⟨x,ob,us,n,e,g,c,d,i⟩:=r
 exact ⟨x,ob,us,n,e,k x ob e g,c,d,i⟩
section
variable {prog:Program}{w:World}{A:Around}{E:Value->Shared->Prop}{s:Shared}
end
end DhSort
set_option maxHeartbeats 4000000
namespace DhSort
open PySem PySem.Calls PyProof.Rows PySem.W L2
section
variable {prog:Program}{w:World}{A:Around}{E:Value->Shared->Prop}{s:Shared}
end
end DhSort
set_option maxHeartbeats 4000000
namespace DhSort
open PySem PySem.Calls PyProof.Rows PySem.W L2
noncomputable def DEnt (h:Heap) (d:Addr) (es:Array DictEntry) (ep:Nat):Prop:= ∃ob,h.get? d=some ob/\ob.ExactDict/\ob.data= .dict es ep
theorem DEnt.mono {h h':Heap}{d:Addr}{es:Array DictEntry}{ep:Nat} (x:DEnt h d es ep) (k: ∀ob,h.get? d=some ob->h'.get? d=some ob):DEnt h' d es ep:=let ⟨ob,g,r⟩:=x;⟨ob,k ob g,r⟩
theorem DEnt.lt {h:Heap}{d:Addr}{es:Array DictEntry}{ep:Nat} (x:DEnt h d es ep):d<h.objs.size:=let ⟨_,g,_⟩:=x;Heap.lt_size g
section
variable {prog:Program}{w:World}{A:Around}{E:Value->Shared->Prop}{t:Shared}{d z:Addr}{es:Array DictEntry}{ep i:Nat}
end
end DhSort
set_option maxHeartbeats 4000000
namespace L2
open PySem PySem.Spec PyProof.Rows
noncomputable def ins (x:List Int):List (List Int)->List (List Int)
 |[]=>[x]
 |y::r=>if HT.cw y x=true then y::ins x r else x::y::r
section
variable {X:Cx}{KF:PySem.W.Frag}{pins:List (Addr×Obj)}{σ:St}{H:Hp}{s:Shared}
noncomputable def bD (ns:List Int):Dv:= .tup (ns.map .int)
end
end L2
set_option maxHeartbeats 4000000
namespace L2
open PySem PySem.Spec PyProof.Rows
variable {KF:PySem.W.Frag}{W W':Addr->Prop}
noncomputable def rL:Dv->Option Key
 | .int i=>some (.inl i)
 | .str x=>some (.inr x)
 |_=>none
noncomputable def dKey:Dv->Option (List Key)
 | .tup ds=>ds.mapM rL
 |_=>none
noncomputable def putD (kvs:List (List Key×Dv)) (k:List Key) (v:Dv):List (List Key×Dv):=
 if (kvs.any fun kv=>decide (kv.1=k))=true then kvs.map (fun kv=>if kv.1=k then (kv.1,v) else kv) else kvs++[(k,v)]
noncomputable def sPut (i:Nat) (mk mv:EM):SM:=fun δ=>(mv δ).bind fun v=>(mk δ).bind fun y=>(eVar i δ).bind fun x=>match x with
 | .dic kvs=>(dKey y).bind fun k=>if kvs.length<lim/\v.imm=true then some (.nx (δ.set i (some (.dic (putD kvs k v))))) else none
 |_=>none
noncomputable def jJ (i:Nat):SM:=fun δ=>(eVar i δ).bind fun x=>match x with
 | .lst ds=>some (.nx (δ.set i (some (.lst []))))
 |_=>none
noncomputable def jK (i:Nat):SM:=fun δ=>(eVar i δ).bind fun x=>match x with
 | .lst ds=>some (.nx (δ.set i (some (.lst ds.reverse))))
 |_=>none
section
variable {S:Addr->Prop}{H:Hp}
theorem ar.length: ∀{xs:List (List Key×V)}{ds:List (List Key×Dv)},ar KF S H xs ds->xs.length=ds.length
 |_,_,.nil=>rfl
 |_,_,.cons _ t=>by rw [List.length_cons,List.length_cons,ar.length t]
theorem ar.any: ∀{xs:List (List Key×V)}{ds:List (List Key×Dv)}{k:List Key},ar KF S H xs ds->(xs.any fun kv=>decide (kv.1=k))=ds.any fun kv=>decide (kv.1=k)
 |_,_,_,.nil=>rfl
 |_,_,_,.cons q t=>by rw [List.any_cons,List.any_cons,ar.any t]
theorem ar.rep: ∀{xs:List (List Key×V)}{ds:List (List Key×Dv)}{k:List Key}{v:V}{d:Dv},ar KF S H xs ds->RepF KF S H v d->
  ar KF S H (xs.map fun kv=>if kv.1=k then (kv.1,v) else kv) (ds.map fun kv=>if kv.1=k then (kv.1,d) else kv)
 |_,_,_,_,_,.nil,r=> .nil
 |_,_,k,_,_,.cons (k:=k1) q t,r=>by
  rw [List.map_cons,List.map_cons]
  by_cases e:k1=k
  ·rw [if_pos e,if_pos e];exact .cons r (ar.rep t r)
  ·rw [if_neg e,if_neg e];exact .cons q (ar.rep t r)
end
section
variable {X:Cx}{ms:List Nat}{k k1 k2 k3 rk:Kd}{e a b c:Expr}{m ma mb mc:EM}{pos:Pos}
end
end L2
set_option maxHeartbeats 4000000
namespace L2
open PySem PySem.Spec PyProof.Rows
noncomputable def putB (i:Nat) (v y x:Option Dv) (δ:Dt):Option Fl:=match v,y,x with
 |some v,some y,some (.dic kvs)=>(match dKey y with
  |some k=>if kvs.length<lim/\v.imm=true then some (.nx (δ.set i (some (.dic (putD kvs k v))))) else none
  |none=>none)
 |_,_,_=>none
theorem rM {i:Nat}{mk mv:EM}{δ:Dt}:sPut i mk mv δ=putB i (mv δ) (mk δ) (eVar i δ) δ:=by
 unfold sPut putB
 cases mv δ with
 |none=>rfl
 |some v=>
  cases mk δ with
  |none=>rfl
  |some y=>
   cases eVar i δ with
   |none=>rfl
   |some x=>
    cases x<;>try rfl
    cases h:dKey y<;>simp [h]
noncomputable def clrB (i:Nat) (x:Option Dv) (δ:Dt):Option Fl:=match x with
 |some (.lst _)=>some (.nx (δ.set i (some (.lst []))))
 |_=>none
theorem rN {i:Nat}{δ:Dt}:jJ i δ=clrB i (eVar i δ) δ:=by
 unfold jJ clrB
 cases eVar i δ with
 |none=>rfl
 |some x=>cases x<;>rfl
theorem rO {i:Nat}{ds:List Dv}{δ:Dt}:clrB i (some (.lst ds)) δ=some (.nx (δ.set i (some (.lst [])))):=rfl
noncomputable def revB (i:Nat) (x:Option Dv) (δ:Dt):Option Fl:=match x with
 |some (.lst ds)=>some (.nx (δ.set i (some (.lst ds.reverse))))
 |_=>none
theorem rP {i:Nat}{δ:Dt}:jK i δ=revB i (eVar i δ) δ:=by
 unfold jK revB
 cases eVar i δ with
 |none=>rfl
 |some x=>cases x<;>rfl
theorem rQ {i:Nat}{ds:List Dv}{δ:Dt}:revB i (some (.lst ds)) δ=some (.nx (δ.set i (some (.lst ds.reverse)))):=rfl
theorem d9 {α:Type} (f:α->Dv): ∀xs:List α,bW (xs.map f)=xs.map fun x=>(f x).toPy
 |[]=>rfl
 |x::xs=>by rw [List.map_cons,bW,d9 f xs];rfl
theorem jL {α:Type}{f:α->PyData}: ∀{xs:List α},(∀x∈xs,(f x).canLay0=true)->PyData.canLayAll0 (xs.map f)=true
 |[],_=>rfl
 |x::xs,h=>by rw [List.map_cons,PyData.canLayAll0,h x (.head _),jL fun y hy=>h y (.tail _ hy)];rfl
theorem jM {α:Type}{f:α->PyData}{n:Nat}: ∀{xs:List α},(∀x∈xs,(f x).depth<=n)->PyData.depthAll (xs.map f)<=n
 |[],_=>Nat.zero_le _
 |x::xs,h=>by rw [List.map_cons,PyData.depthAll];exact Nat.max_le.mpr ⟨h x (.head _),jM fun y hy=>h y (.tail _ hy)⟩
theorem jN (r:List Int):(bD r).toPy.canLay0=true:=by
 unfold bD Dv.toPy
 rw [d9]
 exact jL fun _ _=>rfl
theorem rR (r:List Int):(bD r).toPy.depth<=1:=by
 unfold bD Dv.toPy
 rw [d9,PyData.depth]
 exact Nat.succ_le_succ (jM fun _ _=>Nat.le_refl _)
theorem ee {α:Type}{g:Dv->Dt->Option Dt}{c:Dt->Option Bool}{el:EM}{δ:Dt} (enc f:α->Dv) (xs:List α) (h: ∀x,x∈xs->celM g c el δ (enc x)=some (some (f x))):bd g c el δ (xs.map enc)=some (xs.map f):=by
 rw [jH enc (fun x=>some (f x)) xs h]
 congr 1
 clear h
 induction xs with
 |nil=>rfl
 |cons x xs ih=>rw [List.filterMap_cons,ih];rfl
theorem rS {i:Int}:fInt [.int i]=some (.int i):=rfl
theorem rT {b:Bool}:fInt [.bl b]=some (.int (if b then 1 else 0)):=rfl
theorem rV {ns:List Int}:fSum [.lst (ns.map .int)]=some (.int ns.sum):=by
 show (d8 _).map _=_
 rw [jq]
 rfl
theorem at20 {a b:Dv}:atI [a,b] 0=some a:=rfl
theorem at21 {a b:Dv}:atI [a,b] 1=some b:=rfl
theorem c2:((2:Nat):Int)=2:=rfl
theorem bo (a b:Int) (h:0<b):0<=a%b/\a%b<b:=⟨Int.emod_nonneg _ (by lia),Int.emod_lt_of_pos _ h⟩
theorem rW {α:Type} (xs:List α) (l h:Option Int):(cutD xs l h).length<=xs.length:=by
 unfold cutD
 rw [List.length_take,List.length_drop]
 lia
end L2
set_option maxHeartbeats 4000000
local macro_rules
 | `(tactic| simp_arith $cfg:optConfig [$xs,*]) => `(tactic| simp $cfg:optConfig only [$xs,*,L2.gg,L2.oR,L2.oS,L2.oU,L2.oV,L2.oW,L2.oX,L2.oY,L2.oZ,L2.o0,L2.o3,L2.o4,L2.o5,L2.o6,L2.o7,L2.o8,L2.o9,L2.pd,L2.pf,L2.pj,L2.pp,L2.pq,L2.pw,L2.px,L2.py,L2.pz,L2.pA,L2.pB,L2.pC,L2.eC_b,L2.pE,L2.pF,L2.pG,L2.pH,L2.pI,L2.pJ,L2.pK,L2.pL,L2.pM,L2.pN,L2.pO,L2.pP,L2.pQ,L2.pR,L2.pS,L2.pT,L2.pU,L2.pV,L2.pW,L2.pX,L2.pY,L2.pZ,L2.p0,L2.p6,L2.p7,L2.p8,L2.p9,L2.qc,L2.qd,L2.qf,L2.qj,L2.qk,L2.qm,L2.qo,L2.gN_b,L2.qp,L2.qq,L2.gh,L2.qt,L2.qu,L2.qw,L2.qx,L2.qy,L2.qz,L2.qA,L2.qB,L2.qC,L2.qD,L2.qE,L2.qF,L2.qG,L2.qJ,L2.qK,L2.qL,L2.qM,L2.qN,L2.qO,L2.qP,L2.dl,L2.qQ,L2.qR,L2.qS,L2.qT,L2.qU,L2.qV,L2.qW,L2.qX,List.set_cons_zero,List.set_cons_succ,Option.map_some,L2.lenc,L2.lenn,Nat.reduceAdd,Nat.reduceLeDiff,Int.reduceLT,Int.reduceLE,List.length_map,L2.qI,Bool.and_true,Bool.and_self,Bool.not_true,Bool.not_false,L2.aD,List.map_cons,List.map_nil,List.getElem?_cons_zero,List.getElem?_cons_succ,Option.join_some,L2.aK,List.cons_append,List.nil_append,List.replicate,and_self,and_true,true_and,L2.qY,L2.Dv.isScr,L2.tyN,L2.pD,L2.q5,L2.rc,L2.re,L2.rf,L2.rg,L2.rh,L2.rj,L2.rm,L2.rn,L2.rp,L2.rq,L2.rA,L2.gT_b,L2.gC_b,L2.rB,L2.gZ_b,L2.iL_b,L2.rC,L2.iT_b,L2.rD,L2.rE,L2.rF,L2.rG,L2.rH,L2.rJ,L2.rM,L2.rN,L2.rO,L2.rP,L2.rQ,L2.rS,L2.rT,L2.rV,L2.at20,L2.at21,L2.c2])
namespace L2
open PySem PySem.Spec PyProof.Rows
end L2
set_option maxHeartbeats 4000000
namespace L2
open PySem PySem.Spec PyProof.Rows
noncomputable def fg (i:Nat) (mk mv:EM):SM:=fun δ=>(mv δ).bind fun v=>(mk δ).bind fun y=>(eVar i δ).bind fun x=>match x,y with
 | .lst ds,.int k=>(ixN ds.length k).bind fun j=>if v.imm=true then some (.nx (δ.set i (some (.lst (ds.set j v))))) else none
 |_,_=>none
section
variable {X:Cx}{ms:List Nat}{k k1 k2 k3 rk:Kd}{e a b c:Expr}{m ma mb mc:EM}{pos:Pos}
theorem rX {i:Nat}{x:Str}{np pos':Pos}{v:Expr}{mv:EM} (hi:decide (i∈ms)=true) (hx:PE X (.Name x np) (tVar i)) (hk:PD X ms k1 b mb) (hv:PD X ms k2 v mv)
  (hs:swapsWithSole [.Subscript (.Name x np) b pos'] v pos.line X.env=pure false:=by rfl) (hw:swappedStores [.Subscript (.Name x np) b pos'] v X.env=pure none:=by rfl)
  (h1:(assignEach [.Subscript (.Name x np) b pos'] X.env).map (·.2)=[assign (.Subscript (.Name x np) b pos') X.env]:=by rfl)
  (ha: ∀v,assign (.Subscript (.Name x np) b pos') X.env v=(do
   let ow<-holding [v] (eval (.Name x np) X.env)
   let iw<-holding [v,ow] (eval b X.env)
   standAt pos'
   holding [v,ow,iw] (setItem ow iw v)
   release [v,ow,iw] []):=by intro _;rfl):PDs X ms rk (.Assign [.Subscript (.Name x np) b pos'] v pos) (fg i mb mv):=by
 obtain ⟨tb,pb,qb⟩:=hk
 obtain ⟨tv,pv,qv⟩:=hv
 refine ⟨_,lQ pv (lP hx pb mU ha) hs hw h1,fun δ σ H0 H D r R hm hq=> ?_⟩
 have hi:=of_decide_eq_true hi
 obtain ⟨dv,hv,e⟩:=Option.bind_eq_some_iff.mp hm
 obtain ⟨y,hy,e⟩:=Option.bind_eq_some_iff.mp e
 obtain ⟨z,hz,e⟩:=Option.bind_eq_some_iff.mp e
 have sh: ∃ds kk,z= .lst ds/\y= .int kk:=by
  cases z<;>first|(cases e;done)|(cases y<;>first|(cases e;done)|exact ⟨_,_,rfl,rfl⟩)
 obtain ⟨ds,kk,rfl,rfl⟩:=sh
 obtain ⟨j,hj,e⟩:=Option.bind_eq_some_iff.mp e
 split at e
 ·next im=>
  cases e
  refine qv δ σ H0 H _ dv R hv fun w1 H1 s1 g1=> ?_
  have R1:=R.same s1
  obtain ⟨p,hsp,xs0,hp0,q0⟩:=R1.getOwn hi hz
  refine ⟨_,hsp,?_⟩
  refine qb δ σ H0 H1 _ _ R1 hy fun u H2 s2 g2=> ?_
  have R2:=R1.same s2
  obtain ⟨p',hsp',xs,hp,q⟩:=R2.getOwn hi hz
  rw [hsp] at hsp';cases hsp'
  have g2:=g2.bor
  cases g2
  refine ⟨p,xs,kk,j,rfl,rfl,hp,by rw [q.length];exact hj,?_⟩
  have nt: ∀ys,HO.lst (xs.set j w1)≠ .tup ys:=fun _ z=>nomatch z
  have kp:ay Imm H2 (L2.upd H2 p (.lst (xs.set j w1))):=fun b ob hb kq=>by
   rcases kq with ⟨ys,rfl⟩|⟨c,u,rfl⟩|kq
   ·rw [al (fun z=>by rw [z,hp] at hb;cases hb)];exact hb
   ·rw [al (fun z=>by rw [z,hp] at hb;cases hb)];exact hb
   ·exact kq.elim
  have cl:Cell X.K (L2.upd H2 p (.lst (xs.set j w1))) p (.lst (ds.set j dv)):=⟨_,ax,(q.set j ((g1.same s2).bor.imm im)).keep kp⟩
  obtain ⟨W9,R3,st⟩:=R2.mut hi hsp (eT hz) nt (fun _ _ z=>nomatch z) cl
  exact hq W9 σ _ ((Stp.sm (s1.tr s2)).tr st) R3
 ·cases e
theorem uW (t:Tok) (l:Addr) (its:Array Value) (n:Nat) (dc:Option Addr) (sl:Array (Option Value)):
  Meets (Builtin.«tuple.__mul__» ⟨[.ref l,.int 1 t],[]⟩) (fun _ R s=>s.heap.get? l=some ⟨.type "tuple",dc,.seq its n,sl⟩/\R (.ok (.ret (.ref l))) s):=
 .of_wp fun prog w A R s h=>by obtain ⟨hp,g,d,tk,os⟩:=s;obtain ⟨hl,h⟩:=h;wp_walk;exact ⟨_,rfl,h⟩
theorem RepsF.rep {KF:PySem.W.Frag}{S:Addr->Prop}{H:Hp}{xs:List V}{ds:List Dv} (r:RepsF KF S H xs ds): ∀n:Nat,RepsF KF S H (List.replicate n xs).flatten (List.replicate n ds).flatten
 |0=> .nil
 |n+1=>by rw [List.replicate_succ,List.replicate_succ,List.flatten_cons,List.flatten_cons];exact r.append (RepsF.rep r n)
end
end L2
set_option maxHeartbeats 4000000
namespace L2
open PySem PySem.Spec PyProof.Rows
theorem jO: ∀a b:List Int,PyData.eqvAll (a.map fun x=>(Dv.int x).toPy) (b.map fun x=>(Dv.int x).toPy)=decide (a=b)
 |[],[]=>rfl
 |[],_::_=>rfl
 |_::_,[]=>rfl
 |x::a,y::b=>by
  rw [List.map_cons,List.map_cons,PyData.eqvAll,jO a b]
  show ((x==y)&&decide (a=b))=_
  by_cases h:x=y
  ·subst h;rw [beq_self_eq_true];simp
  ·rw [beq_eq_false_iff_ne.mpr h];simp [h]
theorem rY (a b:List Int):eqOk (bD a) (bD b)=true:=by
 unfold eqOk
 rw [jN,jN,decide_eq_true (Nat.le_trans (Nat.min_le_left _ _) (Nat.le_trans (rR a) (by decide)))]
 rfl
theorem rZ (a b:List Int):PyData.eqv (bD a).toPy (bD b).toPy=decide (a=b):=by
 rw [<-jO a b]
 unfold bD Dv.toPy
 rw [d9,d9]
 rfl
theorem r4 (a b:List Int):dNe (.tup (a.map .int)) (.tup (b.map .int))=some (.bl (!decide (a=b))):=by
 have h:=rY a b
 have e:=rZ a b
 unfold bD at h e
 unfold dNe
 rw [if_pos h,e]
theorem r8 {n:Nat}{k:Int} (h0:0<=k) (h1:k<(n:Int)):ixN n k=some k.toNat:=by
 unfold ixN
 rw [if_pos h0,if_pos h1]
end L2
set_option maxHeartbeats 4000000
namespace L2
open PySem PySem.Spec PyProof.Rows
section
variable {X:Cx}{pins:List (Addr×Obj)}{σ:St}{H:Hp}{s:Shared}{h':Heap}
end
end L2
set_option maxHeartbeats 4000000
namespace L2
open PySem PySem.Spec PyProof.Rows
section
variable {X:Cx}
variable {ms:List Nat}{rk:Kd}
end
end L2
set_option maxHeartbeats 4000000
namespace L2
open PySem PySem.Spec PyProof.Rows
noncomputable def sUnp (m:EM) (g:Dv->Dt->Option Dt):SM:=fun δ=>(m δ).bind fun d=>(g d δ).map .nx
section
variable {X:Cx}{ms:List Nat}{k k1 rk:Kd}{e tg:Expr}{m:EM}{g:Dv->Dt->Option Dt}{pos:Pos}
end
end L2
set_option maxHeartbeats 4000000
namespace HT
open PySem PyProof.Rows
section
open PySem.SeqAt
open PySem.AutoSeq1 (wpAny_loadPart')
open PySem.MeetsSeq PySem.MeetsSeq2 PySem.MeetsSeq3
end
section
variable {prog:Program}{w:World}{A:Around}{E:Value->Shared->Prop}{s:Shared}
end
end HT
namespace L2
open PySem PySem.Spec PyProof.Rows
variable {KF:PySem.W.Frag}{W W':Addr->Prop}
section
variable {X:Cx}
end
section
variable {X:Cx}{ms:List Nat}{k k1 k2 k3 rk:Kd}{e a b c:Expr}{m ma mb mc:EM}{pos:Pos}
noncomputable def tOf2 (f:Dv->Dv->Option Dv) (ma mb:EM):Dt->Option Bool:=tOf (eOp f ma mb)
end
end L2
set_option maxHeartbeats 4000000
namespace L2
open PySem PySem.Spec PyProof.Rows
variable {KF:PySem.W.Frag}{W W':Addr->Prop}
section
variable {X:Cx}{ms:List Nat}{rk k:Kd}{e:Expr}{m:EM}{pos pos':Pos}{st:Stmt}{rest a b:List Stmt}{ma mb:SM}
end
section
variable {X:Cx}
end
section
variable {X:Cx}{ms:List Nat}{k k1 k2 k3 rk:Kd}{e a b c:Expr}{m ma mb mc:EM}{pos:Pos}
theorem RepsF.pick {S:Addr->Prop}{H:Hp}{xs:List V}{ds:List Dv} (r:RepsF KF S H xs ds): ∀(l:List Nat),RepsF KF S H (l.filterMap fun i=>xs[i]?) (l.filterMap fun i=>ds[i]?)
 |[]=> .nil
 |i::l=>by
  rw [List.filterMap_cons,List.filterMap_cons]
  cases hx:xs[i]? with
  |none=>
   have:ds[i]?=none:=by rw [List.getElem?_eq_none_iff] at hx|-;rw [<-r.length];exact hx
   rw [this]
   exact r.pick l
  |some x=>
   obtain ⟨d,hd,rd⟩:=r.get' hx
   rw [hd]
   exact .cons rd (r.pick l)
theorem Vals.pick {xs:List V}{us:List Value} (r:Vals xs us): ∀(l:List Nat),Vals (l.filterMap fun i=>xs[i]?) (l.filterMap fun i=>us[i]?)
 |[]=> .nil
 |i::l=>by
  rw [List.filterMap_cons,List.filterMap_cons]
  cases hx:xs[i]? with
  |none=>
   have:us[i]?=none:=by rw [List.getElem?_eq_none_iff] at hx|-;rw [<-r.length];exact hx
   rw [this]
   exact Vals.pick r l
  |some x=>
   obtain ⟨d,hd,rd⟩:=r.get hx
   rw [hd]
   exact .cons rd (Vals.pick r l)
end
end L2
set_option maxHeartbeats 4000000
namespace L2
open PySem PySem.Spec PyProof.Rows
noncomputable abbrev Hl:=List (List Int×Int)
noncomputable def Rise (h:Hl):Prop:=h.Pairwise fun p q=>HT.cw p.1 q.1=true
theorem Rise.nd {h:Hl} (r:Rise h):(h.map (·.1)).Nodup:=by
 refine List.Pairwise.map _ (fun a b e=> ?_) r
 intro z
 have e':HT.cw a.1 b.1=true:=e
 rw [z,DhSort.jI] at e'
 cases e'
theorem Rise.filter {h:Hl} (r:Rise h) (f:List Int×Int->Bool):Rise (h.filter f):=List.Pairwise.filter f r
end L2
set_option maxHeartbeats 4000000
namespace DhRev
open PySem PySem.Calls PyProof.Rows PySem.W
section
variable {prog:Program}{w:World}{A:Around}{E:Value->Shared->Prop}{s:Shared}{r:Addr}
end
end DhRev
namespace L2
open PySem PySem.Spec PyProof.Rows
variable {KF:PySem.W.Frag}{W W':Addr->Prop}
section
variable {X:Cx}{ms:List Nat}{k k1 k2 k3 rk:Kd}{e a b c:Expr}{m ma mb mc:EM}{pos:Pos}{te:TE}
end
end L2
set_option maxHeartbeats 4000000
namespace L2
open PySem PySem.Spec PyProof.Rows
variable {KF:PySem.W.Frag}{W W':Addr->Prop}
theorem az.length {H:Hp}: ∀{vs:List V}{ds:List Dv}{F:List Addr},az KF H vs ds F->vs.length=ds.length
 |_,_,_,.nil=>rfl
 |_,_,_,.cons _ r=>congrArg (· +1) (az.length r)
section
variable {X:Cx}{ms:List Nat}{k k' rk:Kd}{e a b:Expr}{m ma mb:EM}{pos pos':Pos}{es:List Expr}{ml:Dt->Option (List Dv)}
theorem Tree.ref {H:Hp}{v:V}{d:Dv}{F:List Addr} (t:Tree KF H v d F) (h:(∃ds,d= .lst ds) \/ ∃ds,d= .dic ds): ∃a,v= .ref a:=by
 cases t with
 |imm r=>
  rcases h with ⟨ds,rfl⟩|⟨ds,rfl⟩
  ·cases r with|lst s _ _=>exact s.elim
  ·cases r with|dic s _ _=>exact s.elim
 |lst _ _=>exact ⟨_,rfl⟩
 |dic _ _=>exact ⟨_,rfl⟩
 |dik _ _=>exact ⟨_,rfl⟩
 |ins _ _=>exact ⟨_,rfl⟩
noncomputable def jP (i:Nat) (m:EM):SM:=fun δ=>(m δ).bind fun d=>match d with
 | .lst _=>some (.nx (δ.set i (some d)))
 | .dic _=>some (.nx (δ.set i (some d)))
 |_=>none
end
theorem az.get {H:Hp}: ∀{xs:List V}{ds:List Dv}{F:List Addr}{j:Nat}{d:Dv},az KF H xs ds F->ds[j]?=some d-> ∃v,xs[j]?=some v
 |_,_,_,_,_,.nil,h=>by simp at h
 |_,_,_,0,_,.cons t r,h=>⟨_,rfl⟩
 |_,_,_,j+1,_,.cons t r,h=>by
  obtain ⟨v,hv⟩:=az.get (j:=j) r (by simpa using h)
  exact ⟨v,by simpa using hv⟩
section
variable {X:Cx}{ms:List Nat}{k k2 rk:Kd}{ix:Expr}{m mi:EM}{pos:Pos}{i:Nat}{x:Str}{np apos cpos ipos:Pos}
noncomputable def fh (i:Nat) (j:Option Dv) (f:List Dv->Option (List Dv)):SM:=fun δ=>j.bind fun y=>(eVar i δ).bind fun z=>match z,y with
 | .lst ds,.int q=>(ixN ds.length q).bind fun j=>match ds[j]? with
  |some (.lst es)=>(f es).map fun es'=> .nx (δ.set i (some (.lst (ds.set j (.lst es')))))
  |_=>none
 |_,_=>none
noncomputable def sd (i:Nat) (mi:EM):SM:=fun δ=>fh i (mi δ) (fun _=>some []) δ
noncomputable def jQ (i:Nat) (mi m:EM):SM:=fun δ=>fh i (mi δ) (fun es=>(m δ).bind fun d=>if es.length<lim/\d.imm=true then some (es++[d]) else none) δ
end
end L2
set_option maxHeartbeats 4000000
namespace PySem
section
variable {prog:Program}{w:World}{K:Type} [DecidableEq K] {knd:HeapKind prog w K}{A:Around}{E:Value->Shared->Prop}{s:Shared}{d a:Addr}{k:K}{xs:List (K×Addr×Value)}
end
end PySem
namespace L2
open PySem PySem.Spec PyProof.Rows
variable {KF:PySem.W.Frag}{W W':Addr->Prop}
section
variable {X:Cx}{pins:List (Addr×Obj)}{σ:St}{H:Hp}{s:Shared}{a b:Addr}{v:V}{r:Value}{A:Around}{E:Value->Shared->Prop}
end
section
variable {X:Cx}{o e f:Expr}{td ty tz:TE}{apos cpos:Pos}
end
theorem aC.length {H:Hp}: ∀{vs:List (List Key×V)}{ds:List (List Key×Dv)}{F:List Addr},aC KF H vs ds F->vs.length=ds.length
 |_,_,_,.nil=>rfl
 |_,_,_,.cons _ r=>congrArg (· +1) (aC.length r)
section
variable {X:Cx}{ms:List Nat}{k1 k2 rk:Kd}{ke e:Expr}{mk mv:EM}{pos:Pos}{i:Nat}{x:Str}{np apos1 cpos1 lpos apos cpos:Pos}
end
end L2
set_option maxHeartbeats 4000000
namespace L2
open PySem PySem.Spec PyProof.Rows
noncomputable def unpB (o:Option Dv) (g:Dv->Dt->Option Dt) (δ:Dt):Option Fl:=match o with
 |some d=>nxB (g d δ)
 |none=>none
where nxB:Option Dt->Option Fl
 |some δ=>some (.nx δ)
 |none=>none
theorem se {m:EM}{g:Dv->Dt->Option Dt}{δ:Dt}:sUnp m g δ=unpB (m δ) g δ:=by
 unfold sUnp unpB
 cases m δ with
 |none=>rfl
 |some d=>
  show (g d δ).map Fl.nx=unpB.nxB (g d δ)
  cases g d δ<;>rfl
theorem sf {d:Dv}{g:Dv->Dt->Option Dt}{δ:Dt}:unpB (some d) g δ=unpB.nxB (g d δ):=rfl
theorem si {δ:Dt}:unpB.nxB (some δ)=some (.nx δ):=rfl
noncomputable def fj (i:Nat) (o:Option Dv) (δ:Dt):Option Fl:=match o with
 |some (.lst ds)=>some (.nx (δ.set i (some (.lst ds))))
 |some (.dic ds)=>some (.nx (δ.set i (some (.dic ds))))
 |_=>none
theorem sk {i:Nat}{m:EM}{δ:Dt}:jP i m δ=fj i (m δ) δ:=by
 unfold jP fj
 cases m δ with
 |none=>rfl
 |some d=>cases d<;>rfl
theorem sr {i:Nat}{ds:List Dv}{δ:Dt}:fj i (some (.lst ds)) δ=some (.nx (δ.set i (some (.lst ds)))):=rfl
theorem ss {i:Nat}{ds:List (List Key×Dv)}{δ:Dt}:fj i (some (.dic ds)) δ=some (.nx (δ.set i (some (.dic ds)))):=rfl
noncomputable def subB (i:Nat) (o z:Option Dv) (f:List Dv->Option (List Dv)) (δ:Dt):Option Fl:=match o,z with
 |some (.int q),some (.lst ds)=>(ixN ds.length q).bind fun j=>match ds[j]? with
  |some (.lst es)=>(f es).map fun es'=> .nx (δ.set i (some (.lst (ds.set j (.lst es')))))
  |_=>none
 |_,_=>none
theorem jR {i:Nat}{o:Option Dv}{f:List Dv->Option (List Dv)}{δ:Dt}:fh i o f δ=subB i o (eVar i δ) f δ:=by
 unfold fh subB
 cases o with
 |none=>rfl
 |some y=>
  show (eVar i δ).bind _=_
  cases eVar i δ with
  |none=>cases y<;>rfl
  |some z=>cases z<;>cases y<;>rfl
theorem su {i:Nat}{mi:EM}{δ:Dt}:sd i mi δ=subB i (mi δ) (eVar i δ) (fun _=>some []) δ:=jR
noncomputable def appE (o:Option Dv) (es:List Dv):Option (List Dv):=match o with
 |some d=>if es.length<lim/\d.imm=true then some (es++[d]) else none
 |none=>none
theorem sv {i:Nat}{mi m:EM}{δ:Dt}:jQ i mi m δ=subB i (mi δ) (eVar i δ) (appE (m δ)) δ:=by
 unfold jQ
 rw [jR]
 congr 1
 funext es
 cases m δ<;>rfl
theorem sx {i:Nat}{es:List Dv}{r:List Dv}{f:List Dv->Option (List Dv)}{δ:Dt}:subB i (some (.int 0)) (some (.lst (.lst es::r))) f δ=(f es).map fun es'=> .nx (δ.set i (some (.lst (.lst es'::r)))):=by
 unfold subB
 have:ixN ((.lst es::r:List Dv).length) 0=some 0:=by
  unfold ixN
  rw [if_pos (by decide),if_pos (by simp only [List.length_cons];lia)]
  rfl
 dsimp only
 rw [this]
 rfl
theorem sy {i:Nat}{a:Dv}{es:List Dv}{r:List Dv}{f:List Dv->Option (List Dv)}{δ:Dt}:subB i (some (.int 1)) (some (.lst (a:: .lst es::r))) f δ=(f es).map fun es'=> .nx (δ.set i (some (.lst (a:: .lst es'::r)))):=by
 unfold subB
 have:ixN ((a:: .lst es::r).length) 1=some 1:=by
  unfold ixN
  rw [if_pos (by decide),if_pos (by simp only [List.length_cons];lia)]
  rfl
 dsimp only
 rw [this]
 rfl
theorem sA {d:Dv}{es:List Dv} (h:es.length<lim) (h':d.imm=true):appE (some d) es=some (es++[d]):=by show (if _ then _ else _)=_;rw [if_pos ⟨h,h'⟩]
theorem sB {f:Dv->Dv->Option Dv}{a b:EM}{δ:Dt}:tOf2 f a b δ=tOf (eOp f a b) δ:=rfl
end L2
set_option maxHeartbeats 4000000
local macro_rules
 | `(tactic| simp_arith $cfg:optConfig only [$xs,*]) => `(tactic| simp_arith $cfg:optConfig [$xs,*,L2.se,L2.sf,L2.si,L2.sk,L2.sr,L2.ss,L2.su,L2.sv,L2.sx,L2.sy,L2.sA,L2.sB])
namespace L2
open PySem PySem.Spec PyProof.Rows
noncomputable def cutR (pl r:List Int):List Int:=pl.map fun a=>r.getD a.toNat 0
noncomputable def pos (h:Hl):List (List Int):=(h.filter fun p=>decide (0<p.2)).map (·.1)
end L2
set_option maxHeartbeats 4000000
namespace L2
open PySem PySem.Spec PyProof.Rows
variable {KF:PySem.W.Frag}{W W':Addr->Prop}
section
variable {X:Cx}{pins:List (Addr×Obj)}{σ:St}{H:Hp}{s:Shared}{a:Addr}{ob:Obj}{kvs:List (List Key×V)}
end
section
variable {X:Cx}{tg:Expr}
end
section
variable {H:Hp}{a:Addr}{ob:Obj}{xs:List (List Key×V)}{S:Addr->Prop}
end
section
variable {X:Cx}{scope:Scope}{tg iter elt:Expr}{ifs:List Expr}{pos:Pos}{ms:List Nat}{k:Kd}{m:EM}{g:Dv->Dt->Option Dt}{c:Dt->Option Bool}{el:EM}{z:List Nat}
end
end L2
set_option maxHeartbeats 4000000
namespace L2
open PySem PySem.Spec PyProof.Rows
variable {KF:PySem.W.Frag}{W W':Addr->Prop}
section
variable {X:Cx}{ms:List Nat}{rk k k2 k3:Kd}{st:Stmt}{rest a b:List Stmt}{ma mb:SM}{pos:Pos}{e:Expr}{m:EM}{pos':Pos}
variable {i:Nat}{x:Str}{np ipos:Pos}{ix jx v:Expr}{mi mj mv:EM}
end
section
variable {P:Program}{w:World}{K:PySem.W.Frag}{mg:Str->Option Value}{base:Heap}
end
section
variable {X:Cx}{ms:List Nat}{rk:Kd}{i:Nat}{x y:Str}{ps:List Str}{np p pos spos:Pos}{es:List Expr}{ml:Dt->Option (List Dv)}{m:List Dv->Option Dv}
theorem Gots.reps_any {H H1:Hp}: ∀{vs:List V}{ds:List Dv},Gots KF .any W H H1 vs ds->RepsF KF (fun a=> ¬W a) H1 vs ds
 |[],[],_=> .nil
 |v::vs,d::ds,⟨g,r⟩=> .cons g (Gots.reps_any r)
 |[],_::_,g=>g.elim
 |_::_,[],g=>g.elim
end
end L2
set_option maxHeartbeats 4000000
namespace L2
open PySem PySem.Spec PyProof.Rows
section
variable {prog:Program}{w:World}{A:Around}{E:Value->Shared->Prop}{s:Shared}
end
section
variable {X:Cx}{ms:List Nat}{k rk:Kd}{e st:Expr}{m:EM}{mst:Dt->Option (Option Int)}{pos p2:Pos}
end
end L2
set_option maxHeartbeats 4000000
namespace HT
open PySem PySem.Spec PyProof.Rows
section
variable {prog:Program}{w:World}{A:Around}{E:Value->Shared->Prop}{s:Shared}
end
end HT
namespace L2
open PySem PySem.Spec PyProof.Rows
section
variable {X:Cx}{ms:List Nat}{k k1 k2:Kd}{e a b:Expr}{m ma mb:EM}{pos:Pos}
end
end L2
set_option maxHeartbeats 4000000
namespace L2
open PySem PySem.Spec PyProof.Rows
section
variable {X:Cx}{ms:List Nat}{k1 k2 k3:Kd}{a b c:Expr}{ma mb mc:EM}{pos:Pos}
end
end L2
set_option maxHeartbeats 4000000
namespace L2
open PySem PySem.Spec PyProof.Rows
section
variable {X:Cx}{ms:List Nat}{k k1 k2:Kd}{a b:Expr}{ma mb:EM}{pos:Pos}
end
end L2
set_option maxHeartbeats 4000000
namespace L2
open PySem PySem.Spec PyProof.Rows
variable {KF:PySem.W.Frag}{W W':Addr->Prop}
section
variable {X:Cx}{k:Kd}{st:Stmt}{rest a b:List Stmt}{ma mb:SM}{pos pos':Pos}{e:Expr}{m:EM}
end
noncomputable def NSf (H:Hp) (a:Addr):Prop:= ∀o,H a=some o-> ¬Sft o
theorem NSf.none {H:Hp}{a:Addr} (h:H a=none):NSf H a:=fun o e=>by rw [h] at e;cases e
noncomputable def spA (KF:PySem.W.Frag) (m:List Dv->Option Dv):Sp:=fun vs H Q _=> ∃(S:Addr->Prop) (ds:List Dv) (d:Dv),RepsF KF S H vs ds/\m ds=some d/\ ∀v H',Same H H'->RepF KF (fun a=>S a \/NSf H a) H' v d->Q v H'
section
variable {P:Program}{w:World}{K:PySem.W.Frag}{mg:Str->Option Value}{base:Heap}
theorem sC {x qual:Str}{st:Stmt}{f:Addr}{fd:FuncData}{N ps:List Str}{k:Nat}{body:SM} (ms:List Nat) (F:Fun K x qual st f fd) (S:aN N ps (aq st)) (hms:ms.all (fun i=>decide (ps.length<=if 2000<=i then i-2000 else if 1000<=i then i-1000 else i))=true) (hps:decide (ps.length<=N.length)=true)
  (hb: ∀(cdv:Value) (A:Around) (outer:List Env) (s:Shared) (H:Hp) (E:XK),Room k (A.deeper (envOfC qual (aq st) s.heap.objs.size f cdv))->PDss (cxOf CX0 P w K mg base N qual (aq st) f cdv A outer s H E).nox ms .any (aJ st) body):
  FnOk P w K mg base CX0 (k+1) f fd ps (spA K (aH N.length ps.length body)):=by
 have len: ∀{ds:List Dv}{d:Dv},aH N.length ps.length body ds=some d->ds.length=ps.length:=fun {ds d} h=>by
  unfold aH at h
  split at h
  ·assumption
  ·cases h
 refine F.ok (k:=k) S (fun vs H Q E h=> ?_) fun cdv A outer s H vs Q E hr h=> ?_
 ·obtain ⟨S,ds,d,r,hm,_⟩:=h
  rw [r.length]
  exact len hm
 ·obtain ⟨S,ds,d,r,hm,hq⟩:=h
  obtain ⟨t,p,q⟩:=hb cdv A outer s H E hr
  refine ⟨t,p,?_⟩
  have hl:=len hm
  have hps':=of_decide_eq_true hps
  have R:Rel K ms (fun a=>(∃o,H a=some o/\Sft o)/\ ¬S a) H (aK N.length ds) (aS N vs) H:=jk (r.mono fun _ _ s z=>z.2 s) (fun _ w=>w.1) (fun i hi=>by rw [hl];exact ge hms hi) (by lia)
  unfold aH at hm
  rw [if_pos hl] at hm
  obtain ⟨fl,hf,e⟩:=Option.bind_eq_some_iff.mp hm
  cases fl with
  |rt d' δ'=>
   cases e
   refine q _ _ H H _ _ R hf fun v W' σ' H' Φ st R' _ g _=>hq v H' R'.keep ?_
   refine RepF.mono (fun a _ n=> ?_) g
   have n: ¬WE (fun a=>(∃o,H a=some o/\Sft o)/\ ¬S a) H a:=fun z=>n ⟨(st.2.2.1 a z.1).elim id fun q=>absurd q z.2,z.2⟩
   by_cases hS:S a
   ·exact .inl hS
   ·exact .inr fun o ho so=>n ⟨⟨⟨o,ho,so⟩,hS⟩,fun z=>by rw [z] at ho;cases ho⟩
  |_=>cases e
end
section
variable {X:Cx}{ms:List Nat}{a:Expr}{es:List Expr}{ml:Dt->Option (List Dv)}{m:List Dv->Option Dv}{x:Str}{ps:List Str}{p pos:Pos}
theorem sD {k:Nat} (D:Def X.prog X.w X.K X.mg X.base k x ps (spA X.K m)) (hr:Room k X.A) (ha:PDa X ms .any (a::es) ml) (hg:Gl X x:=by rfl)
  (hdb:(x==("__debug__":Str))=false:=by decide) (he:starEach (a::es) X.env=(false,eval a X.env)::starEach es X.env:=by rfl) (hpl:(backTo pos (starEach es X.env)).any (·.1)=false:=by rfl):
  PD X ms .any (.Call (.Name x p) (a::es) [] pos) (aj m ml):=by
 obtain ⟨ta,pa,qa⟩:=ha
 refine ⟨_,iP D hr pa hg hdb he hpl,fun {W} δ σ H0 H Q d R hm hq=> ?_⟩
 obtain ⟨xs,hx,e⟩:=Option.bind_eq_some_iff.mp hm
 refine qa δ σ H0 H _ xs R hx fun vs H1 s1 g1=> ?_
 refine ⟨fun a=> ¬W a,xs,d,g1.reps_any,e,fun v H' s g=>hq v H' (s1.tr s) ?_⟩
 show RepF X.K (fun a=> ¬W a) H' v d
 refine g.mono fun a _ q=> ?_
 rcases q with q|q
 ·exact q
 ·intro wa
  obtain ⟨o,ho,so⟩:=R.soft a wa
  exact q o (s1 a o ho) so
end
end L2
set_option maxHeartbeats 4000000
namespace L2
open PySem PySem.Spec PyProof.Rows
end L2
set_option maxHeartbeats 4000000
namespace L2
open PySem PySem.Spec PyProof.Rows
end L2
set_option maxHeartbeats 4000000
namespace L2
open PySem PySem.Spec PyProof.Rows
noncomputable def rng (lo:Int) (n:Nat):List Int:=(List.range n).map fun (i:Nat)=>lo+(i:Int)
end L2
set_option maxHeartbeats 4000000
namespace L2
open PySem PySem.Spec PyProof.Rows
variable {KF:PySem.W.Frag}{W W':Addr->Prop}
section
variable {X:Cx}{ms:List Nat}{k k1 k2 k3 rk:Kd}{e a b c:Expr}{m ma mb mc:EM}{pos:Pos}
end
end L2
set_option maxHeartbeats 4000000
namespace DhDct
open PySem PySem.Calls PyProof.Rows PySem.W
section
variable {prog:Program}{w:World}{A:Around}{E:Value->Shared->Prop}{s:Shared}
section
variable {K:Type} [DecidableEq K] {knd:HeapKind prog w K}
variable {I:Addr}{fp wr:List Addr}{n:Nat}{P:Nat->Value->Prop}{St:Nat->Shared->Prop}{R:Result->Shared->Prop}
end
end
end DhDct
namespace L2
open PySem PySem.Spec PyProof.Rows
variable {KF:PySem.W.Frag}{W W':Addr->Prop}
section
variable {X:Cx}
end
end L2
set_option maxHeartbeats 4000000
namespace DhUnp
open PySem PySem.Calls PyProof.Rows PySem.W
section
variable {prog:Program}{w:World}{A:Around}{E:Value->Shared->Prop}{s:Shared}
end
end DhUnp
namespace L2
open PySem PySem.Spec PyProof.Rows
variable {KF:PySem.W.Frag}{W W':Addr->Prop}
section
variable {X:Cx}{pos:Pos}{ms:List Nat}
end
end L2
set_option maxHeartbeats 4000000
namespace DhExt
open PySem PySem.Calls PyProof.Rows PySem.W Sem
open Builtin
end DhExt
namespace L2
open PySem PySem.Spec PyProof.Rows
variable {KF:PySem.W.Frag}{W W':Addr->Prop}
noncomputable def bu:Dv->Dv->Option Dv
 | .str a,.str b=>if a.length+b.length<=100000 then some (.str (a++b)) else none
 |_,_=>none
theorem bZ:OpD KF (fun x y H Q=> ∃i j,x= .str i/\y= .str j/\i.length+j.length<=sizeLine/\Q (.str (i++j)) H) bu:=by
 intro H x y dx dy d Q rx ry h hq
 unfold bu at h
 split at h
 rotate_left
 ·cases h
 cases rx
 cases ry
 split at h
 ·next c=>cases h;exact ⟨_,_,rfl,rfl,Nat.le_trans c (by decide),hq _ (.str _)⟩
 ·cases h
noncomputable def dIxS:Dv->Dv->Option Dv
 | .str z,.int i=>if z.length<=100000 then (atI z.cps.toList i).map fun c=> .str ⟨#[c]⟩ else none
 |_,_=>none
section
variable {X:Cx}{ms:List Nat}{k k1 k2 k3 rk:Kd}{e a b c:Expr}{m ma mb mc:EM}{pos:Pos}
theorem sE (ha:PD X ms k1 a ma) (hb:PD X ms k2 b mb) (hs:fI b):PD X ms .imm (.Subscript a b pos) (eOp dIxS ma mb):=by
 obtain ⟨ta,pa,qa⟩:=ha
 obtain ⟨tb,pb,qb⟩:=hb
 refine ⟨_,io ip pa pb hs,fun δ σ H0 H Q d R hm hq=> ?_⟩
 obtain ⟨x,hx,e⟩:=Option.bind_eq_some_iff.mp hm
 obtain ⟨y,hy,e⟩:=Option.bind_eq_some_iff.mp e
 refine qa δ σ H0 H _ x R hx fun v H1 s1 g1=> ?_
 refine qb δ σ H0 H1 _ y (R.same s1) hy fun u H2 s2 g2=> ?_
 have g1:=(g1.same s2).bor
 have g2:=g2.bor
 unfold dIxS at e
 split at e
 rotate_left
 ·cases e
 split at e
 ·next hl=>
  obtain ⟨ch,hc,rfl⟩:=Option.map_eq_some_iff.mp e
  cases g1
  cases g2
  exact ⟨_,_,ch,rfl,rfl,Nat.le_trans hl (by decide),hc,hq _ H2 (s1.tr s2) (RepF.str _)⟩
 ·cases e
end
end L2
set_option maxHeartbeats 4000000
namespace L2
open PySem PySem.Spec PyProof.Rows
variable {KF:PySem.W.Frag}{W W':Addr->Prop}
section
variable {ms ms':List Nat}{ρ:List (Option Nat)}{k:Kd}{wi:TI}{it:Dt->Option (List Dv)}{g:Dv->Dt->Option Dt}{c:Dt->Option Bool}{el:EM}{z:List Nat}
variable {X:Cx}{scope:Scope}{tg iter elt:Expr}{ifs:List Expr}{pos:Pos}
end
section
variable {X:Cx}{ms:List Nat}{k:Kd}{e:Expr}{m:EM}{pos:Pos}
end
end L2
set_option maxHeartbeats 4000000
namespace L2
open PySem PySem.Spec PyProof.Rows
variable {KF:PySem.W.Frag}{W W':Addr->Prop}
section
variable {X:Cx}{params:Arguments}{body:Expr}{scope:Scope}{pos:Pos}{T c:Addr}{q:Str}
end
section
variable {CX:CXT}{P:Program}{w:World}{K:PySem.W.Frag}{mg:Str->Option Value}{base:Heap}{k:Nat}{f:Addr}{L:LamD}{N ps:List Str}{A:Around}{outer:List Env}{s:Shared}{H:Hp}{us:List Value}{vs:List V}{Q:VK}{E:XK}
end
section
variable {X:Cx}{ms:List Nat}{rk k1:Kd}{a:Expr}{es:List Expr}{ml:Dt->Option (List Dv)}{m:List Dv->Option Dv}{x:Str}{p pos:Pos}{i:Nat}{L:LamD}
end
end L2
set_option maxHeartbeats 4000000
namespace L2
open PySem PySem.Spec PyProof.Rows
variable {KF:PySem.W.Frag}{W W':Addr->Prop}
section
variable {P:Program}{w:World}{K:PySem.W.Frag}{mg:Str->Option Value}{base:Heap}{T:Addr}{q:Str}
end
section
variable {X:Cx}{ms:List Nat}{rk k1:Kd}{a:Expr}{es:List Expr}{ml:Dt->Option (List Dv)}{m:List Dv->Option Dv}{x:Str}{ps:List Str}{p pos:Pos}{T:Addr}{q:Str}
end
end L2
set_option maxHeartbeats 4000000
namespace L2
open PySem PySem.Spec PyProof.Rows
variable {KF:PySem.W.Frag}{W W':Addr->Prop}
section
variable {X:Cx}{ms:List Nat}{rk k:Kd}{e:Expr}{m:EM}{pos pos':Pos}{st:Stmt}{rest a b:List Stmt}{ma mb:SM}
section
variable {ms':List Nat}{ρ:List (Option Nat)}{it:Dt->Option (List Dv)}{g:Dv->Dt->Option Dt}{c:Dt->Option Bool}{el:EM}{z:List Nat}{scope:Scope}{tg iter elt:Expr}{ifs:List Expr}{spos cpos:Pos}
end
end
end L2
set_option maxHeartbeats 4000000
namespace L2
open PySem PySem.Spec PyProof.Rows
variable {KF:PySem.W.Frag}{W W':Addr->Prop}
section
variable {X:Cx}
end
section
variable {H:Hp}
end
end L2
set_option maxHeartbeats 4000000
namespace L2
open PySem PySem.Spec PyProof.Rows
variable {KF:PySem.W.Frag}{W W':Addr->Prop}
section
variable {H:Hp}{c:Addr}{ol:Obj}{S:Addr->Prop}
end
section
variable {X:Cx}{params:Arguments}{body:Expr}{scope:Scope}{pos:Pos}{T c:Addr}{q:Str}{clos:List (Str×Addr)}
end
section
variable {P:Program}{w:World}{K:PySem.W.Frag}{mg:Str->Option Value}{base:Heap}{k:Nat}{f:Addr}{L:LamD}{p x:Str}{A:Around}{outer:List Env}{s:Shared}{H:Hp}{u:Value}{v:V}{Q:VK}{E:XK}{iv:Int}
end
section
variable {X:Cx}{ms:List Nat}{k1:Kd}{a:Expr}{es:List Expr}{ml:Dt->Option (List Dv)}{m:Int->List Dv->Option Dv}{y x:Str}{p pos:Pos}{i:Nat}{L:LamD}
end
end L2
set_option maxHeartbeats 4000000
namespace L2
open PySem PySem.Spec PyProof.Rows
variable {KF:PySem.W.Frag}{W W':Addr->Prop}
section
variable {X:Cx}
end
end L2
set_option maxHeartbeats 4000000
namespace L2
open PySem PySem.Spec PyProof.Rows
variable {KF:PySem.W.Frag}{W W':Addr->Prop}
noncomputable abbrev Tbs:=List (Addr×Str)
section
variable {P:Program}{w:World}{K:PySem.W.Frag}{mg:Str->Option Value}{base:Heap}{ts:Tbs}
end
section
variable {X:Cx}{ms:List Nat}{rk k1:Kd}{a:Expr}{es:List Expr}{ml:Dt->Option (List Dv)}{m:List Dv->Option Dv}{x:Str}{ps:List Str}{p pos:Pos}{ts:Tbs}
end
end L2
set_option maxHeartbeats 4000000
namespace L2
open PySem PySem.Spec PyProof.Rows
variable {KF:PySem.W.Frag}{W W':Addr->Prop}
section
variable {X:Cx}
end
section
variable {X:Cx}{ms:List Nat}{rk k k1 k2:Kd}{e b:Expr}{m mb:EM}{pos pos':Pos}
end
section
variable {prog:Program}{w:World}{A:Around}{E:Value->Shared->Prop}{s:Shared}
end
section
variable {X:Cx}{ms:List Nat}{k1 k2:Kd}{o e:Expr}{mo me:EM}{apos cpos:Pos}
end
end L2
set_option maxHeartbeats 4000000
namespace DhSort
open PySem PySem.Calls PyProof.Rows PySem.W L2
noncomputable def gi (l:Addr) (len:Nat) (h:Heap) (v:Value) (ns:List Int):Prop:= ∃(x y:Addr) (ob:Obj) (us:Array Value) (n:Nat) (w:Int) (t:Tok) (r:List Int),v= .ref x/\h.get? x=some ob/\ob.cls= .type "tuple"/\ob.data= .seq us n/\us.toList=[.ref y,.int w t]/\ff h (.ref y) r/\y≠l/\r.length=len/\ns=r++[w]
theorem gi.keep {l:Addr}{len:Nat}{h h':Heap}{v:Value}{ns:List Int} (e:gi l len h v ns) (n1: ∀x,v= .ref x->x≠l) (k: ∀x ob,x≠l->h.get? x=some ob->h'.get? x=some ob):gi l len h' v ns:=by
 obtain ⟨x,y,ob,us,n,w,t,r,e1,g,c,d,u,rr,ny,rl,en⟩:=e
 exact ⟨x,y,ob,us,n,w,t,r,e1,k x ob (n1 x e1) g,c,d,u,rr.keep fun z oz ez gz=>k z oz (by cases ez;exact ny) gz,ny,rl,en⟩
section
variable {prog:Program}{w:World}{A:Around}{E:Value->Shared->Prop}{s:Shared}
end
section
variable {prog:Program}{w:World}{A:Around}{E:Value->Shared->Prop}{t:Shared}
end
end DhSort
namespace L2
open PySem PySem.Spec PyProof.Rows
variable {KF:PySem.W.Frag}{W W':Addr->Prop}
section
variable {X:Cx}
end
end L2
set_option maxHeartbeats 4000000
namespace L2
open PySem PySem.Spec PyProof.Rows
variable {KF:PySem.W.Frag}{W W':Addr->Prop}
section
variable {X:Cx}
end
end L2
set_option maxHeartbeats 4000000
namespace L2
open PySem PySem.Spec PyProof.Rows
section
variable {X:Cx}{ms:List Nat}{k1 k2:Kd}{o e:Expr}{mo me:EM}{apos cpos:Pos}{td ty:TE}
end
end L2
set_option maxHeartbeats 4000000
namespace L2
open PySem PySem.Spec PyProof.Rows
variable {KF:PySem.W.Frag}
section
variable {X:Cx}
noncomputable def jS:V->List V->Hp->VK->Prop:=fun x xs H Q=> ∃a b,x= .str a/\xs=[.str b]/\Q (.bl (Txt.startswith a b)) H
theorem jU:MtM X "str.startswith" jS:=by
 intro pins s σ H x vs v us Q I rx rv h
 obtain ⟨a,b,rfl,rfl,q⟩:=h
 obtain ⟨t,rfl⟩:=rx
 obtain ⟨u,rfl,t',rfl⟩:=rv.one
 exact call_gives F.slot_str_startswith (typeIs_str s a t) F.entry_str_startswith (F.args_str_startswith_2 _ _) (gives_str_startswith a b t t') ⟨.bl _,H,I,rfl,q⟩
noncomputable def jV:V->List V->Hp->VK->Prop:=fun x xs H Q=> ∃a b,x= .str a/\xs=[.str b]/\(b.length==0)=false/\a.length+2<=sizeLine/\ ∀p,H p=none->Q (.ref p) (upd H p (.lst ((Txt.split a b).map V.str)))
theorem jW: ∀l:List (Str×Tok),Vals ((l.map (·.1)).map V.str) (strValues l)
 |[]=> .nil
 |p::l=> .cons ⟨p.2,rfl⟩ (jW l)
theorem jX {a b:Str} (hz:a.length+2<=sizeLine):(Builtin.Str.partsBetween a (Builtin.Str.occurrences a b 0 a.length (a.length+1)) b.length).length<=sizeLine:=by
 have e1:=StrLaws.occ_length_le a b 0 a.length (a.length+1)
 rw [length_partsBetween]
 lia
theorem sF {a b:Str} (hz:a.length+2<=sizeLine):(Txt.split a b).length<=sizeLine:=by
 unfold Txt.split
 split
 ·show 1<=sizeLine;decide
 ·split
  ·show 1<=sizeLine;decide
  ·exact jX hz
theorem gj:MtM X "str.split" jV:=by
 intro pins s σ H x vs v us Q I rx rv h
 obtain ⟨a,b,rfl,rfl,hy,hz,q⟩:=h
 obtain ⟨t,rfl⟩:=rx
 obtain ⟨u,rfl,t',rfl⟩:=rv.one
 have fin: ∀(l:List (Str×Tok)) (tk:Nat),l.map (·.1)=Txt.split a b->EP X pins σ Q (.ref s.heap.objs.size) {s with heap:=s.heap.push {cls:= .type "list",data:= .seq (strValues l).toArray},toks:=tk}:=fun l tk e=>
  ⟨.ref s.heap.objs.size,_,I.laid (t':=tk) (o:= .lst ((Txt.split a b).map V.str)) (fun b ob q=>Heap.get?_push_of_some _ q) (Nat.le_refl _) ⟨by rw [List.length_map];exact sF hz,strValues l,0,e▸jW l,Heap.get?_push_size _ rfl⟩,rfl,q _ (I.hok.fresh (Nat.le_refl _))⟩
 cases h1:(decide (a.length<b.length)||decide (Builtin.Str.strKind a<Builtin.Str.strKind b))
 ·cases hf:(Builtin.Str.occurrences a b 0 a.length (a.length+1)).isEmpty
  ·refine call_meets F.slot_str_split (typeIs_str _ _ _) F.entry_str_split (F.args_str_split_2 _ _) (meets_str_split_sep a b t t' h1 hy hf (by lia) (jX hz)) ?_
   show EP X pins σ Q (.ref s.heap.objs.size) {s with toks:=_,heap:=s.heap.push {cls:= .type "list",data:= .seq (strsFrom s.toks (Builtin.Str.partsBetween a (Builtin.Str.occurrences a b 0 a.length (a.length+1)) b.length)).toArray}}
   rw [strsFrom_eq]
   exact fin (numbered s.toks _) _ ((numbered_texts _ _).trans ((if_neg (ne_true_of_eq_false h1)).trans (if_neg (ne_true_of_eq_false hf))).symm)
  ·exact call_meets F.slot_str_split (typeIs_str _ _ _) F.entry_str_split (F.args_str_split_2 _ _) (meets_str_split_not_found a b t t' h1 hy hf) (fin [(a,t)] s.toks ((if_neg (ne_true_of_eq_false h1)).trans (if_pos hf)).symm)
 ·exact call_meets F.slot_str_split (typeIs_str _ _ _) F.entry_str_split (F.args_str_split_2 _ _) (meets_str_split_cannot_occur a b t t' h1) (fin [(a,t)] s.toks (if_pos h1).symm)
noncomputable def jY (K:PySem.W.Frag):V->List V->Hp->VK->Prop:=fun x xs H Q=> ∃a p ys,x= .str a/\xs=[.ref p]/\SqL K H p (ys.map V.str)/\(ys.map (·.length)).sum+ys.length*a.length<=16777216/\Q (.str (Txt.join a ys)) H
theorem jZ: ∀{ys:List Str}{us:List Value},Vals (ys.map V.str) us->StrsAre us ys
 |[],_,.nil=> .nil
 |_::_,_,.cons ⟨_,rfl⟩ r=> .cons _ _ (jZ r)
theorem gk:MtM X "str.join" (jY X.K):=by
 intro pins s σ H x vs v us Q I rx rv h
 obtain ⟨a,p,ys,rfl,rfl,hl,hz,q⟩:=h
 obtain ⟨t,rfl⟩:=rx
 obtain ⟨u,rfl,ru⟩:=rv.one
 cases ru
 obtain ⟨its,r,pl,_⟩:=I.list hl
 exact join_list pl.isList (by simpa using jZ r) hz fun t' k=>⟨.str _,H,I.tok k,⟨_,rfl⟩,q⟩
theorem sG:OpR X (compareOp .In) (fun x y H Q=> ∃a b,x= .str a/\y= .str b/\Q (.bl (!(Builtin.Str.occurrences b a 0 b.length 1).isEmpty)) H):=by
 intro pins s σ H x y v u Q I rx ry h
 obtain ⟨a,b,rfl,rfl,q⟩:=h
 obtain ⟨t,rfl⟩:=rx
 obtain ⟨t',rfl⟩:=ry
 exact P.in_str ⟨.bl _,H,I,rfl,q⟩
noncomputable def dInS:Dv->Dv->Option Dv
 | .str a,.str b=>some (.bl (!(Builtin.Str.occurrences b a 0 b.length 1).isEmpty))
 |_,_=>none
theorem sH:OpD KF (fun x y H Q=> ∃a b,x= .str a/\y= .str b/\Q (.bl (!(Builtin.Str.occurrences b a 0 b.length 1).isEmpty)) H) dInS:=by
 intro H x y dx dy d Q rx ry h hq
 unfold dInS at h
 split at h
 rotate_left
 ·cases h
 cases rx
 cases ry
 cases h
 exact ⟨_,_,rfl,rfl,hq _ (.bl _)⟩
theorem sI:ba X (.type "int") (fun xs H Q=> ∃x n,xs=[.str x]/\PySem.intText? x=some n/\x.length<=640/\Q (.int n) H):=by
 intro pins s σ H xs us Q I r h
 obtain ⟨x,n,rfl,hn,hl,q⟩:=h
 obtain ⟨u,rfl,t,rfl⟩:=cS r
 exact PySem.W.KIN.call_text hn hl ⟨.int n,H,I.tok _,⟨_,rfl⟩,q⟩
noncomputable def fk:List Dv->Option Dv
 |[.str x]=>if x.length<=640 then (PySem.intText? x).map .int else none
 |_=>none
theorem sJ:bL KF (fun xs H Q=> ∃x n,xs=[.str x]/\PySem.intText? x=some n/\x.length<=640/\Q (.int n) H) .imm fk:=by
 intro W H vs ds d Q r e hq
 unfold fk at e
 split at e
 rotate_left
 ·cases e
 split at e
 rotate_left
 ·cases e
 next hl=>
  obtain ⟨n,hn,rfl⟩:=Option.map_eq_some_iff.mp e
  cases r with
  |cons h r=>
   cases h
   cases r
   exact ⟨_,n,rfl,hn,hl,hq _ H (fun _ _ z=>z) (.int n)⟩
theorem gl:ba X (.builtin "len") (fun xs H Q=> ∃x,xs=[.str x]/\x.length<=sizeLine/\Q (.int x.length) H):=by
 intro pins s σ H xs us Q I r h
 obtain ⟨x,rfl,hl,q⟩:=h
 obtain ⟨u,rfl,t,rfl⟩:=cS r
 have h1:(sizeLine:Int)<2^63:=by decide
 exact P.len_str (by lia) ⟨.int x.length,H,I.tok _,⟨_,rfl⟩,q⟩
noncomputable def cf:List Dv->Option Dv
 |[.str x]=>if x.length<=lim then some (.int x.length) else none
 |_=>none
theorem gm:bL KF (fun xs H Q=> ∃x,xs=[.str x]/\x.length<=sizeLine/\Q (.int x.length) H) .imm cf:=by
 intro W H vs ds d Q r e hq
 unfold cf at e
 split at e
 rotate_left
 ·cases e
 split at e
 rotate_left
 ·cases e
 next hl=>
  cases e
  cases r with
  |cons h r=>
   cases h
   cases r
   exact ⟨_,rfl,Nat.le_trans hl (by decide),hq _ H (fun _ _ z=>z) (.int _)⟩
end
end L2
set_option maxHeartbeats 4000000
namespace L2
open PySem PySem.Spec PyProof.Rows
variable {KF:PySem.W.Frag}
section
variable {X:Cx}{ms:List Nat}{k k1 k2 rk:Kd}{o e:Expr}{mo me:EM}{apos cpos pos:Pos}{name:Str}{id:String}{r:V->List V->Hp->VK->Prop}{f:Dv->Dv->Option Dv}
noncomputable def MtS (KF:PySem.W.Frag) (r:V->List V->Hp->VK->Prop) (k:Kd) (f:Dv->Dv->Option Dv):Prop:=
 ∀{W:Addr->Prop} (H:Hp) (x:Str) (u:V) (dy d:Dv) (Q:VK),RepF KF (fun _=>True) H u dy->f (.str x) dy=some d->(∀v H',Same H H'->Got KF k W H H' v d->Q v H')->r (.str x) [u] H Q
theorem cg (slot:Slot "str" name id) (hty:typeOf (.builtin id)=pure (.type "method_descriptor")) (hm:MtM X id r) (hd:MtS X.K r k f) (hs: ∀x y d,f x y=some d-> ∃z,x= .str z) (ho:PD X ms k1 o mo) (he:PD X ms k2 e me)
  (hbase:attributeBase o name X.env (eval o X.env)=eval o X.env:=by rfl)
  (hfew:((backTo cpos (starEach [e] X.env)).all (fun x=> !x.1)&&(backToKw cpos (keywordEach [] X.env)).all (fun x=>x.1.isSome)
   &&decide (([e]:List Expr).length+([]:List Keyword).length+(if ([]:List Keyword).isEmpty then 0 else 1)<30))=true:=by rfl)
  (hline:(apos.endLine==cpos.line)=true:=by rfl) (hst:starEach [e] X.env=(false,eval e X.env)::starEach [] X.env:=by rfl) (hplain:(backTo cpos (starEach [] X.env)).any (·.1)=false:=by rfl):
  PD X ms k (.Call (.Attribute o name apos) [e] [] cpos) (eOp f mo me):=by
 obtain ⟨ta,pa,qa⟩:=ho
 obtain ⟨tb,pb,qb⟩:=he
 refine ⟨_,mZ PySem.F.plainAttrs_str slot hty hm pa (aI pb bU hst) hbase hfew hline hst hplain,fun δ σ H0 H Q d R hm hq=> ?_⟩
 obtain ⟨x,hx,e⟩:=Option.bind_eq_some_iff.mp hm
 obtain ⟨y,hy,e⟩:=Option.bind_eq_some_iff.mp e
 obtain ⟨z,rfl⟩:=hs x y d e
 refine qa δ σ H0 H _ _ R hx fun v H1 s1 g1=> ?_
 have g1:=g1.bor
 cases g1
 refine ⟨rfl,?_⟩
 refine qb δ σ H0 H1 _ y (R.same s1) hy fun u H2 s2 g2=> ?_
 exact hd H2 z u y d Q g2.bor e fun v H' s g=>hq v H' ((s1.tr s2).tr s) (g.back (s1.tr s2))
noncomputable def bE:Dv->Dv->Option Dv
 | .str a,.str b=>some (.bl (Txt.startswith a b))
 |_,_=>none
theorem j1:MtS KF jS .imm bE:=by
 intro W H x u dy d Q ru h hq
 cases dy<;>simp only [bE,reduceCtorEq] at h
 cases h
 cases ru
 exact ⟨_,_,rfl,rfl,hq _ H (fun _ _ z=>z) (RepF.bl _)⟩
theorem j2 (x y d:Dv) (h:bE x y=some d): ∃z,x= .str z:=by
 cases x<;>first|exact ⟨_,rfl⟩|cases h
noncomputable def bw:Dv->Dv->Option Dv
 | .str a,.str b=>if (b.length==0)=false/\a.length<=lim then some (.lst ((Txt.split a b).map Dv.str)) else none
 |_,_=>none
theorem j3 {S:Addr->Prop}{H:Hp}: ∀l:List Str,RepsF KF S H (l.map V.str) (l.map Dv.str)
 |[]=> .nil
 |x::r=> .cons (.str x) (j3 r)
theorem RepsF.strs {S:Addr->Prop}{H:Hp}: ∀{xs:List V}{r:List Str},RepsF KF S H xs (r.map Dv.str)->xs=r.map V.str
 |_,[],.nil=>rfl
 |_,_::_,.cons (.str _) q=>by rw [List.map_cons,RepsF.strs q]
theorem gn:MtS KF jV .one bw:=by
 intro W H x u dy d Q ru h hq
 cases dy<;>simp only [bw,reduceCtorEq] at h
 split at h
 rotate_left
 ·cases h
 next c=>
  cases h
  cases ru
  refine ⟨_,_,rfl,rfl,c.1,Nat.le_trans (Nat.add_le_add_right c.2 2) (by decide),fun p hp=> ?_⟩
  exact hq _ _ (Same.new hp) ⟨p,rfl,hp,_,ax,j3 _⟩
theorem gp (x y d:Dv) (h:bw x y=some d): ∃z,x= .str z:=by
 cases x<;>first|exact ⟨_,rfl⟩|cases h
noncomputable def dm:List Dv->Option (List Str)
 |[]=>some []
 | .str b::r=>(dm r).map (b:: ·)
 |_::_=>none
theorem j4: ∀{ds:List Dv}{bs:List Str},dm ds=some bs->ds=bs.map Dv.str
 |[],_,h=>by cases h;rfl
 |d::r,bs,h=>by
  cases d with
  |str b=>
   obtain ⟨bs',h',rfl⟩:=Option.map_eq_some_iff.mp h
   rw [j4 h']
   all_goals rfl
  |_=>cases h
theorem j5: ∀(bs:List Str),dm (bs.map Dv.str)=some bs
 |[]=>rfl
 |b::r=>by rw [List.map_cons,dm,j5 r];rfl
noncomputable def cH:Dv->Dv->Option Dv
 | .str a,.lst ds=>(dm ds).bind fun ys=>if (ys.map (·.length)).sum+ys.length*a.length<=1000000 then some (.str (Txt.join a ys)) else none
 |_,_=>none
theorem gq:MtS KF (jY KF) .imm cH:=by
 intro W H x u dy d Q ru h hq
 cases dy<;>simp only [cH,reduceCtorEq] at h
 obtain ⟨ys,h1,h⟩:=Option.bind_eq_some_iff.mp h
 split at h
 rotate_left
 ·cases h
 next c=>
  cases h
  have es:=j4 h1
  subst es
  cases ru with
  |lst s hp q=>
   have ev:=q.strs
   subst ev
   exact ⟨_,_,ys,rfl,rfl,SqL.of hp,Nat.le_trans c (by decide),hq _ H (fun _ _ z=>z) (RepF.str _)⟩
theorem gr (x y d:Dv) (h:cH x y=some d): ∃z,x= .str z:=by
 cases x<;>first|exact ⟨_,rfl⟩|cases h
noncomputable def rSlS:V->Option Int->Option Int->Hp->VK->Prop:=fun x lo hi H Q=> ∃a i,x= .str a/\lo=some i/\hi=none/\a.length<=sizeLine/\Q (.str (Txt.slice a (some i) none)) H
theorem sK:SlR X rSlS:=by
 intro pins s σ H x v vl vu lo hi sl Q I rx hs pl pu h
 obtain ⟨a,i,rfl,rfl,rfl,hz,q⟩:=h
 obtain ⟨t,rfl⟩:=rx
 cases pl with
 |int _ ti=>
  cases pu with
  |none=>
   refine ⟨"str",_,F.slot_str_getitem.lookup,typeIs_str _ _ _,?_⟩
   exact wpAny_getItem_str_slice (l:=some (i,ti)) (u:=none) (st:=none) hs rfl (post_val_or_str ⟨Nat.le_trans (Txt.slice_le a _ _) hz,fun t' k=>⟨.str _,H,I.tok k,⟨_,rfl⟩,q⟩⟩)
noncomputable def dq (m:EM) (lo hi:Dt->Option (Option Int)):EM:=fun δ=>(m δ).bind fun x=>(lo δ).bind fun l=>(hi δ).bind fun h=>match x,l,h with
 | .str a,some i,none=>if a.length<=lim then some (.str (Txt.slice a (some i) none)) else none
 |_,_,_=>none
theorem j6 {lo hi:Option Expr}{ml mh:Dt->Option (Option Int)}{p2:Pos} (he:PD X ms k1 e me) (hl:PDo X ms lo ml) (hh:PDo X ms hi mh):PD X ms .imm (.Subscript e (.Slice lo hi none p2) pos) (dq me ml mh):=by
 obtain ⟨te,p,q⟩:=he
 obtain ⟨tl,pl,ql⟩:=hl
 obtain ⟨th,ph,qh⟩:=hh
 refine ⟨_,fG sK p pl ph,fun δ σ H0 H Q d R hm hq=> ?_⟩
 obtain ⟨x,hx,e⟩:=Option.bind_eq_some_iff.mp hm
 obtain ⟨l,hl,e⟩:=Option.bind_eq_some_iff.mp e
 obtain ⟨h,hh,e⟩:=Option.bind_eq_some_iff.mp e
 refine q δ σ H0 H _ x R hx fun v H1 s1 g1=> ?_
 refine ql δ σ H0 H1 _ l (R.same s1) hl fun H2 s2=> ?_
 refine qh δ σ H0 H2 _ h (R.same (s1.tr s2)) hh fun H3 s3=> ?_
 cases x<;>cases l<;>cases h<;>simp only [reduceCtorEq] at e
 split at e
 rotate_left
 ·cases e
 next c=>
  cases e
  have g1:=g1.bor
  cases g1
  exact ⟨_,_,rfl,rfl,rfl,Nat.le_trans c (by decide),hq _ H3 ((s1.tr s2).tr s3) (RepF.str _)⟩
theorem fm:OpR X (binaryOp .Mult) (fun x y H Q=> ∃a n,x= .str a/\y= .int n/\1<n/\n<=1000/\0<a.length/\a.length<=1000/\Q (.str ⟨(List.replicate n.toNat a.cps).foldl (· ++ ·) #[]⟩) H):=by
 intro pins s σ H x y v u Q I rx ry h
 obtain ⟨a,n,rfl,rfl,n1,n2,a1,a2,q⟩:=h
 obtain ⟨t,rfl⟩:=rx
 obtain ⟨t',rfl⟩:=ry
 have pb:a.length*n.toNat<=1000*1000:=Nat.mul_le_mul a2 (by lia)
 have f1:(n==1||a.length==0)=false:=by
  rw [Bool.or_eq_false_iff]
  exact ⟨beq_eq_false_iff_ne.mpr (by lia),beq_eq_false_iff_ne.mpr (by lia)⟩
 have fo: ∀(k:Nat) (acc:Array Nat),((List.replicate k a.cps).foldl (· ++ ·) acc).size=acc.size+a.cps.size*k:=by
  intro k
  induction k with
  |zero=>intro acc;simp
  |succ k ih=>intro acc;rw [List.replicate_succ,List.foldl_cons,ih,Array.size_append,Nat.mul_succ];lia
 have ln:(⟨(List.replicate n.toNat a.cps).foldl (· ++ ·) #[]⟩:Str).length<=sizeLine:=by
  have:=fo n.toNat #[]
  show ((List.replicate n.toNat a.cps).foldl (· ++ ·) #[]).size<=sizeLine
  rw [this]
  have e:a.cps.size*n.toNat=a.length*n.toNat:=rfl
  rw [e]
  exact Nat.le_trans (by simp;lia) (show 1000000<=sizeLine by decide)
 refine P.mul_str (by rw [decide_eq_false (by lia),decide_eq_false (by lia)];rfl) (fun _ _=> ?_) (fun _ _=> ?_) ?_
 ·have:(1000:Int)<=(2^63-1)/n:=Int.le_ediv_of_mul_le (by lia) (by lia)
  lia
 ·unfold Builtin.Str.tooLong
  exact decide_eq_false (by have:sizeLine=16777216:=rfl;lia)
 ·rw [if_neg (by lia),if_neg (by rw [f1];exact Bool.false_ne_true)]
  exact ⟨ln,⟨.str _,H,I.tok _,⟨_,rfl⟩,q⟩⟩
noncomputable def dt:Dv->Dv->Option Dv
 | .str a,.int n=>if 1<n/\n<=1000/\0<a.length/\a.length<=1000 then some (.str ⟨(List.replicate n.toNat a.cps).foldl (· ++ ·) #[]⟩) else none
 |_,_=>none
theorem gu:OpD KF (fun x y H Q=> ∃a n,x= .str a/\y= .int n/\1<n/\n<=1000/\0<a.length/\a.length<=1000/\Q (.str ⟨(List.replicate n.toNat a.cps).foldl (· ++ ·) #[]⟩) H) dt:=by
 intro H x y dx dy d Q rx ry h hq
 unfold dt at h
 split at h
 rotate_left
 ·cases h
 cases rx
 cases ry
 split at h
 ·next c=>cases h;exact ⟨_,_,rfl,rfl,c.1,c.2.1,c.2.2.1,c.2.2.2,hq _ (.str _)⟩
 ·cases h
noncomputable def sNo:SM:=fun _=>none
theorem du {st:Stmt}:PDs X ms rk st sNo:=⟨fun _ _ _=>False,fun _ _ _ _ _ _ h=>h.elim,fun _ _ _ _ _ _ _ h _=>by cases h⟩
noncomputable def Its (x:Str):It:=⟨fun i _=>i<x.cps.size,fun i H v H'=>H'=H/\ ∃c,x.cps[i]?=some c/\v= .str ⟨#[c]⟩,fun i _=>x.cps.size<=i⟩
theorem sL {P:Program}{w:World}{K:PySem.W.Frag}{tg:Expr} (x:Str) (t:Tok) (it:Addr):Turn P w K tg (Its x) [it] it (fun i h=>h.IsStrIter it "str_ascii_iterator" x t i) where
 mem:=by simp
 obj:=fun i h st b hb=>by
  have e:b=it:=by simpa using hb
  subst e
  obtain ⟨o,e,c,d⟩:=st
  exact ⟨o,e,fun v z=>by rw [d] at z;cases z⟩
 keep:=fun i h h' st k=>by
  obtain ⟨o,e,c⟩:=st
  exact ⟨o,k it (by simp) o e,c⟩
 item:=by
  intro X hP hw hK hc i pins s σ H E I hf st hg
  subst hP hw hK
  obtain ⟨f0,f1,f2,f3,f4,f5⟩:=hf it (by simp)
  have hx:x.cps[i]?=some (x.cps[i]'hg):=Array.getElem?_eq_getElem hg
  refine wpAny_pyNext_ascii_item st hx fun h' st' sb=> ?_
  have I1:Inv X pins σ H {s with heap:=h',toks:=s.toks+1}:=I.turned (t':=s.toks+1) (fun b o hb e=>(sb.2 b hb).trans e) f0 f1 f3 f4 f5
  obtain ⟨o,e,c,d⟩:=id st'
  exact ⟨_,rfl,eI (s:={s with heap:=h',toks:=s.toks+1}) e c d (by decide) ⟨.str ⟨#[x.cps[i]'hg]⟩,H,I1,⟨_,rfl⟩,⟨rfl,_,hx,rfl⟩,st',fun b hb=>(hf b hb).1⟩⟩
 done:=by
  intro X hP hw hK hc i pins s σ H E I hf st hg
  subst hP hw hK
  obtain ⟨f0,f1,f2,f3,f4,f5⟩:=hf it (by simp)
  exact wpAny_pyNext_ascii_end (I.ok.hd hc) st (Array.getElem?_eq_none hg) fun h' eb=>⟨rfl,I.turned (t':=s.toks) (fun b o hb e=>eb b o hb e) f0 f1 f3 f4 f5⟩
 self:=fun _ _ _ _ _ st h=>wpAny_pyIter_striter_ascii st h
noncomputable def iStr (tl:TE):TI:=fun σ H R=>tl σ H fun x H1=> ∃a,x= .str a/\a.cps.all (· <128)=true/\R (Its a) H1
theorem sM {tg l:Expr}{tl:TE} (hl:PE X l tl):PI X tg l (iStr tl):=by
 intro pins s σ H R I h
 refine thn (hl pins s σ H _ I h) fun v s1 ⟨x,H1,I1,r1,q1⟩=> ?_
 obtain ⟨a,e,ha,q⟩:=q1
 subst e
 obtain ⟨t,rfl⟩:=r1
 refine wpAny_pyIter_ascii ha ?_
 refine ⟨s1.heap.objs.size,[s1.heap.objs.size],_,_,H1,rfl,I1.kept (t':=s1.toks) fun b o e=>Heap.get?_push_of_some _ e,sL a t _,⟨_,Heap.get?_push_size _ rfl,rfl,rfl⟩,fun b hb=> ?_,q⟩
 have e:b=s1.heap.objs.size:=by simpa using hb
 subst e
 exact I1.fpOk (Nat.le_refl _) (I1.hok.fresh (Nat.le_refl _))
noncomputable def ci (a:Str):List Dv:=a.cps.toList.map fun c=> .str ⟨#[c]⟩
noncomputable def iS (m:EM):Dt->Option (List Dv):=fun δ=>(m δ).bind fun x=>match x with
 | .str a=>if a.cps.size<=lim/\a.cps.all (· <128)=true then some (ci a) else none
 |_=>none
theorem sN {W:Addr->Prop}{H:Hp}{lp:Bool}{a:Str} (hz:a.cps.size<=lim):IOk KF W lp H (Its a) (ci a):=by
 have ln:(ci a).length=a.cps.size:=by unfold ci;rw [List.length_map,Array.length_toList]
 refine ⟨by rw [ln];exact hz,fun H' s=> ?_⟩
 rw [ln]
 refine ⟨fun i hi=>hi,fun i x H'' hi y=> ?_,Nat.le_refl _⟩
 obtain ⟨e1,c,e2,e3⟩:=y
 subst e3
 refine ⟨e1,.str ⟨#[c]⟩,?_,.str _⟩
 unfold ci
 rw [List.getElem?_map,Array.getElem?_toList,e2]
 rfl
theorem sO {lp:Bool}{tg:Expr} (h:PD X ms k e me):PDi X ms lp tg e (iS me):=by
 obtain ⟨te,p,q⟩:=h
 refine ⟨_,sM p,fun δ σ H0 H R ds L hm hq=> ?_⟩
 obtain ⟨x,hx,e⟩:=Option.bind_eq_some_iff.mp hm
 refine q δ σ H0 H _ x L hx fun v H1 s1 g=> ?_
 have g:=g.bor
 cases x with
 |str a=>
  simp only at e
  split at e
  ·next hz=>
   cases e
   cases g
   exact ⟨_,rfl,hz.2,hq _ H1 s1 (sN hz.1)⟩
  ·cases e
 |_=>cases e
end
end L2
set_option maxHeartbeats 4000000
namespace L2
open PySem PySem.Spec PyProof.Rows
variable {KF:PySem.W.Frag}
section
variable {X:Cx}{ms:List Nat}{k:Kd}{e:Expr}{m:EM}{p p2 pos pos2:Pos}
end
end L2
set_option maxHeartbeats 4000000
namespace L2
open PySem PySem.Spec PyProof.Rows
variable {KF:PySem.W.Frag}{W W':Addr->Prop}
section
variable {ms ms':List Nat}{ρ:List (Option Nat)}{k:Kd}{wi:TI}{it:Dt->Option (List Dv)}{g:Dv->Dt->Option Dt}{c:Dt->Option Bool}{el:EM}{z:List Nat}
variable {X:Cx}{scope:Scope}{tg iter elt:Expr}{ifs:List Expr}{pos:Pos}
end
section
variable {X:Cx}{ms:List Nat}{k rk:Kd}{e:Expr}{m:EM}{i:Nat}{x:Str}{np apos cpos pos pos':Pos}{tg:Expr}
end
end L2
set_option maxHeartbeats 4000000
namespace L2
open PySem PySem.Spec PyProof.Rows
variable {KF:PySem.W.Frag}{W W':Addr->Prop}
section
variable {X:Cx}
end
section
variable {H H0 H0':Hp}{a:Addr}{ob:Obj}{xs:List (List Key×V)}
end
section
variable {X:Cx}{ms:List Nat}{rk:Kd}{pos:Pos}
end
end L2
set_option maxHeartbeats 4000000
namespace L2
noncomputable def gN' (pl:List Int) (o:Hl) (pc:Nat) (k:List Int):List Int:=(o.filter fun p=>decide (cutR pl p.1=k)).map fun p=>p.1.getD pc 0
end L2
set_option maxHeartbeats 4000000
namespace L2
noncomputable abbrev Sel:=List Int->Option Int
noncomputable def sl (sel:Sel) (pl:List Int) (o:Hl) (pc:Nat) (k:List Int):Int:=(sel (gN' pl o pc k)).getD 0
section
variable {keys few:List Int}{parts:List Hl}{h X:Hl}{pc:Nat}
end
section
variable {co:List Int}{parts:List Hl}{h:Hl}{pc:Nat}
end
end L2
set_option maxHeartbeats 4000000
namespace L2
open PySem PySem.Spec PyProof.Rows
variable {KF:PySem.W.Frag}{W W':Addr->Prop}
section
variable {X:Cx}{ms:List Nat}{k k1 rk:Kd}{e b v:Expr}{m mb mv:EM}{i:Nat}{x:Str}{np apos cpos pos pos':Pos}
end
end L2
set_option maxHeartbeats 4000000
namespace L2
open PySem PySem.Spec PyProof.Rows
variable {KF:PySem.W.Frag}{W W':Addr->Prop}
noncomputable def gv:Dv->Option Key
 | .int i=>some (.inl i)
 | .str x=>some (.inr x)
 |_=>none
theorem sP {S:Addr->Prop}{H:Hp}{v:V}{d:Dv}{k:Key} (r:RepF KF S H v d) (h:gv d=some k):v=kV k:=by
 cases r<;>simp only [gv,reduceCtorEq,Option.some.injEq] at h
 ·subst h;rfl
 ·subst h;rfl
noncomputable def gw (mk mv:EM):EM:=fun δ=>(mk δ).bind fun x=>(mv δ).bind fun y=>(gv x).bind fun k=>if y.imm=true then some (.dik [(k,y)]) else none
section
variable {X:Cx}{ms:List Nat}{k1 k2:Kd}{a b:Expr}{ma mb:EM}{pos:Pos}
theorem sQ (ha:PD X ms k1 a ma) (hb:PD X ms k2 b mb):PD X ms .frh (.Dict [some a] [b] pos) (gw ma mb):=by
 obtain ⟨ta,pa,qa⟩:=ha
 obtain ⟨tb,pb,qb⟩:=hb
 refine ⟨_,nz (nv pa pb nu) rfl rfl (fun z=>nomatch z) (show 1<=15 by decide),fun {W} δ σ H0 H Q d R hm hq p hp=> ?_⟩
 obtain ⟨x,hx,e⟩:=Option.bind_eq_some_iff.mp hm
 obtain ⟨y,hy,e⟩:=Option.bind_eq_some_iff.mp e
 obtain ⟨k,hk,e⟩:=Option.bind_eq_some_iff.mp e
 split at e
 ·next im=>
  cases e
  have s0:=Same.new (o:= .dK []) hp
  have R0:=R.same s0
  refine qa δ σ H0 _ _ x R0 hx fun v H1 s1 g1=> ?_
  refine qb δ σ H0 H1 _ y (R0.same s1) hy fun u H2 s2 g2=> ?_
  have hp2:H2 p=some (.dK []):=s2 p _ (s1 p _ ax)
  refine ⟨hp2,[(k,u)],?_,(show 1<=15 by decide),?_⟩
  ·rw [sP g1.bor hk];rfl
  ·have st:Same H (L2.upd H2 p (.dK (cV [] [(k,u)]))):=fun c o hc=>by
    rw [al (aY hc hp)]
    exact s2 c o (s1 c o (s0 c o hc))
   refine hq _ _ st ?_
   have kp:ay Imm H2 (L2.upd H2 p (.dK [(k,u)])):=fun c o hc z=>by
    rcases z with ⟨xs,rfl⟩|⟨c',u',rfl⟩|z
    ·rw [al (fun z=>by rw [z,hp2] at hc;cases hc)];exact hc
    ·rw [al (fun z=>by rw [z,hp2] at hc;cases hc)];exact hc
    ·exact z.elim
   exact RepF.dik hp (.inl ax) (.cons (((g2.bor.imm im:RepF X.K Imm H2 u y).keep kp).mono fun _ _ z=>z.elim) .nil)
 ·cases e
end
end L2
set_option maxHeartbeats 4000000
namespace L2
open PySem PySem.Spec PyProof.Rows
variable {KF:PySem.W.Frag}{W W':Addr->Prop}
section
variable {X:Cx}{ms:List Nat}{k1 k2:Kd}{a b:Expr}{ma mb:EM}{pos:Pos}
end
end L2
set_option maxHeartbeats 4000000
namespace L2
open PySem PySem.Spec PyProof.Rows
variable {KF:PySem.W.Frag}{W W':Addr->Prop}
section
variable {X:Cx}{tg:Expr}{ms:List Nat}{k:Kd}{e:Expr}{m:EM}{pos:Pos}{lp:Bool}
end
end L2
set_option maxHeartbeats 4000000
namespace L2
open PySem PySem.Spec PyProof.Rows
variable {KF:PySem.W.Frag}{W W':Addr->Prop}
section
variable {X:Cx}{ms:List Nat}{k:Kd}{e:Expr}{m:EM}{pos:Pos}
end
end L2
set_option maxHeartbeats 4000000
namespace L2
open PySem PySem.Spec PyProof.Rows
variable {KF:PySem.W.Frag}{W W':Addr->Prop}
section
variable {ms:List Nat}{i:Nat}
end
section
variable {X:Cx}{ms ms':List Nat}{k rk:Kd}{e a b:Expr}{m ma mb:EM}{pos pos':Pos}{i:Nat}{x:Str}{st:List Stmt}{sm:SM}
end
end L2
set_option maxHeartbeats 4000000
namespace L2
open PySem PySem.Spec PyProof.Rows
variable {KF:PySem.W.Frag}{W W':Addr->Prop}
section
variable {X:Cx}{ms:List Nat}{k k2 k3 rk:Kd}{ix:Expr}{m mi:EM}{pos:Pos}{i:Nat}{x:Str}{np apos cpos ipos:Pos}
end
end L2
set_option maxHeartbeats 4000000
namespace L2
open PySem PySem.Spec PyProof.Rows
variable {KF:PySem.W.Frag}{W W':Addr->Prop}
theorem sR {prog:Program}{w:World}{A:Around}{E:Value->Shared->Prop}{s:Shared}{nm:String}{a b:Addr}{k:List Key}{pa pb:Addr}{i:Int}{t u:Tok}{Q:Bool->Shared->Prop} (hu:(tupleKind (aG prog w)).room A) (ha:(a==sysModules)=false) (hb:(b==sysModules)=false)
  (da:s.heap.DictOfH (tupleKind (aG prog w)) a [(k,pa,.int i t)]) (db:s.heap.DictOfH (tupleKind (aG prog w)) b [(k,pb,.int i u)]) (h:Q true s):
  wpAny (model prog w) A (Builtin.Dict.samePairs nm a b) Q E s:=by
 obtain ⟨oa,es,ep,hoa,_,hda,hea,hia,hna⟩:=da
 obtain ⟨ob,es',ep',hob,_,hdb,heb,hib,hnb⟩:=db
 have e1:es= #[entryOfKey (tupleKind (aG prog w)) (k,pa,.int i t)]:=by apply Array.ext';rw [hea];rfl
 have e2:es'= #[entryOfKey (tupleKind (aG prog w)) (k,pb,.int i u)]:=by apply Array.ext';rw [heb];rfl
 unfold Builtin.Dict.samePairs Builtin.Dict.showsAll
 rw [if_neg (show¬(a==sysModules)=true by rw [ha];exact Bool.false_ne_true),if_neg (show¬(b==sysModules)=true by rw [hb];exact Bool.false_ne_true)]
 refine wpAny_bind (wpAny_pure (wpAny_bind (wpAny_pure ?_)))
 refine wpAny_bind (wpAny_dictEntries hoa hda ?_)
 dsimp only
 refine wpAny_bind (wpAny_dictEntries hob hdb ?_)
 have sz:es.size=es'.size:=by rw [e1,e2];rfl
 rw [if_neg (by rw [sz];simp)]
 refine wpAny_bind (wpAny_dictEpoch hoa hda ?_)
 refine wpAny_bind ?_
 rw [Std.Legacy.Range.forIn_eq_forIn_range']
 simp only [Std.Legacy.Range.size,Nat.sub_zero,Nat.add_sub_cancel,Nat.div_one]
 have s1:es.size=1:=by rw [e1];rfl
 rw [s1]
 refine wpAny_forIn_list _ (fun rest q s'=>s'=s/\q=(none,())/\(rest=[0] \/rest=[])) _ ?_ ?_ _ _ ⟨rfl,rfl,.inl rfl⟩
 ·rintro x rest q s' ⟨rfl,rfl,hr⟩
  rcases hr with hr|hr
  rotate_left
  ·cases hr
  cases hr
  refine wpAny_bind (wpAny_dictEntries hoa hda ?_)
  have g0:es[0]?=some (entryOfKey (tupleKind (aG prog w)) (k,pa,.int i t)):=by rw [e1];rfl
  rw [g0]
  show wpAny _ _ (holding [Value.ref pa,Value.int i t] _>>=_) _ _ _
  refine wpAny_bind (wpAny_holding (wpAny_bind (wpAny_dictFind_heap (knd:=tupleKind (aG prog w)) (a:=pa) (k:=k) hu (hia _ (List.mem_cons_self ..)) hob hdb heb hib hnb (fun n=>absurd rfl (n 0 (pb,.int i u))) fun j p hj=> ?_)))
  have j0:j=0:=by
   cases j with
   |zero=>rfl
   |succ j=>simp at hj
  subst j0
  refine wpAny_bind (wpAny_dictEntries hob hdb ?_)
  have g1:es'[0]?=some (entryOfKey (tupleKind (aG prog w)) (k,pb,.int i u)):=by rw [e2];rfl
  rw [g1]
  have eq:=SeqAt.EqAt.int_int (A:=A) (s:=s') i t i u
  refine wpAny_holding (eq prog w _ _ ?_)
  rw [beq_self_eq_true]
  show wpAny _ _ (if (!true)=true then _ else _) _ _ _
  rw [if_neg (by decide)]
  refine wpAny_bind (wpAny_dictEpoch hoa hda ?_)
  rw [if_neg (by simp)]
  exact wpAny_pure ⟨rfl,rfl,.inr rfl⟩
 ·rintro q s' ⟨rfl,rfl,_⟩
  exact wpAny_pure h
theorem ne1 {prog:Program}{w:World}{A:Around}{E:Value->Shared->Prop}{s:Shared}{a b:Addr}{k:List Key}{pa pb:Addr}{i:Int}{t u:Tok}{Q:Value->Shared->Prop} (hu:A.units+1<cLine) (ha:(a==sysModules)=false) (hb:(b==sysModules)=false)
  (ta:s.TypeIs (.ref a) "dict") (tb:s.TypeIs (.ref b) "dict") (da:s.heap.DictOfH (tupleKind (aG prog w)) a [(k,pa,.int i t)]) (db:s.heap.DictOfH (tupleKind (aG prog w)) b [(k,pb,.int i u)]) (h:Q (.bool false) s):
  wpAny (model prog w) A (compareOp .NotEq (.ref a) (.ref b)) Q E s:=by
 refine wpAny_richCompare_same_room (op:= .NotEq) ta tb PySem.F.slot_dict_ne (wpAny_call_entry PySem.F.slot_dict_ne ta PySem.F.entry_dict_ne ?_ (PySem.F.args_dict_ne_2 _ _)) (by lia)
 show wpAny _ _ (Builtin.Dict.dictSlotArgs "__ne__" ⟨[.ref a,.ref b],[]⟩>>=_) _ _ s
 refine wpAny_bind ?_
 unfold Builtin.Dict.dictSlotArgs
 refine wpAny_bind (wpAny_notOrdered_dict ta ?_)
 show wpAny _ _ (pure (Value.ref a,Value.ref b)) _ _ s
 refine wpAny_pure ?_
 refine wpAny_bind (wpAny_isInstance (T:="dict") tb PySem.F.sub_dict_dict ?_)
 simp only [Bool.not_true,Bool.false_eq_true,if_false]
 refine wpAny_bind (wpAny_pure (wpAny_bind (wpAny_pure ?_)))
 refine wpAny_bind (sR (tupleKind_room_in1 hu) ha hb da db ?_)
 refine wpAny_pure ⟨_,rfl,?_,?_⟩
 ·exact fun x=>nomatch x
 ·simpa using h
section
variable {X:Cx}{ms:List Nat}{k k1 rk:Kd}{e b v:Expr}{m mb mv:EM}{i:Nat}{x:Str}{np apos cpos pos pos':Pos}
end
end L2
set_option maxHeartbeats 4000000
namespace L2
open PySem PySem.Spec PyProof.Rows
variable {KF:PySem.W.Frag}{W W':Addr->Prop}
noncomputable def OwnT (KF:PySem.W.Frag) (fl:Bool) (H:Hp) (a:Addr) (d:Dv) (F:List Addr):Prop:=if fl=true then F=[a]/\Cell KF H a d else Tree KF H (.ref a) d F
theorem OwnT.there {fl:Bool}{H:Hp}{a:Addr}{d:Dv}{F:List Addr} (t:OwnT KF fl H a d F): ∀b∈F,∃o,H b=some o/\Sft o:=by
 unfold OwnT at t
 split at t
 ·obtain ⟨rfl,c⟩:=t
  intro b hb
  rw [List.mem_singleton.mp hb]
  exact c.there
 ·exact t.there
section
variable {P:Program}{w:World}{K:PySem.W.Frag}{mg:Str->Option Value}{base:Heap}
theorem uX {α:Type}{o:Option (Option α)}{x:α} (h:o.join=some x):o=some (some x):=by
 cases o with
 |none=>cases h
 |some y=>exact congrArg some h
end
end L2
set_option maxHeartbeats 4000000
namespace L2
open PySem PySem.Spec PyProof.Rows
variable {KF:PySem.W.Frag}{W W':Addr->Prop}
section
variable {ms:List Nat}{fl:Bool}{rk:Kd}{σ:St}{H0 H H':Hp}{δ:Dt}{i j:Nat}{d' r:Dv}{v:V}
theorem Rel.free {c:Addr}{Φ:Nat->List Addr} (R:Rel KF ms W H0 δ σ H) (f:Foot KF ms W H0 δ σ H Φ) (hc: ∀j,c∉Φ j) (h0:H0 c=none):Rel KF ms (fun b=>W b/\b≠c) H0 δ σ H/\Stp ms H0 W σ H (fun b=>W b/\b≠c) σ H:=by
 refine ⟨⟨R.len,R.keep,fun a w=>R.soft a w.1,fun k d n hd=> ?_,Φ,⟨fun k b hb=>⟨⟨(f.wr k b hb).1,fun z=>hc k (z▸hb)⟩,(f.wr k b hb).2⟩,f.dj,f.nd,fun k d n hd=> ?_⟩⟩,fun a o h n=>h,fun a w=> .inl w.1,fun a w=> ?_,fun _ _ _=>rfl,fun b o h s=>⟨o,h,s⟩⟩
 ·obtain ⟨u,hu,q⟩:=R.get k d n hd
  exact ⟨u,hu,q.mono fun a _ n z=>n z.1⟩
 ·obtain ⟨a,ha,o⟩:=f.at_ k d n hd
  exact ⟨a,ha,o.keep (.of (Same.refl _)) (fun _ _ _ h=>h) fun b n1 _ z=>n1 z.1⟩
 ·by_cases z:a=c
  ·exact .inr (z▸h0)
  ·exact .inl ⟨w,z⟩
end
section
variable {X:Cx}{ms:List Nat}{fl:Bool}{rk rk':Kd}{i j:Nat}{e:Expr}{mm:Dt->Option (Dv×Dv)}{x:Str}{pos pos':Pos}
end
section
variable {X:Cx}{ms:List Nat}{fl:Bool}{rk:Kd}{i:Nat}{x y:Str}{ps:List Str}{np p pos:Pos}{es:List Expr}{ml:Dt->Option (List Dv)}{m:List Dv->Option (Dv×Dv)}
end
end L2
set_option maxHeartbeats 4000000
namespace L2
open PySem PySem.Spec PyProof.Rows
section
variable {prog:Program}{w:World}{K:Type} [DecidableEq K] {knd:HeapKind prog w K}{A:Around}{E:Value->Shared->Prop}{s:Shared}
end
end L2
set_option maxHeartbeats 4000000
namespace L2
open PySem PySem.Spec PyProof.Rows
variable {KF:PySem.W.Frag}{W W':Addr->Prop}
section
variable {X:Cx}{pins:List (Addr×Obj)}{σ:St}{H:Hp}{s:Shared}{a:Addr}{kvs:List (List Key×V)}{k:List Key}{A:Around}{E:Value->Shared->Prop}
end
end L2
set_option maxHeartbeats 4000000
namespace L2
open PySem PySem.Spec PyProof.Rows
variable {KF:PySem.W.Frag}{W W':Addr->Prop}
section
variable {X:Cx}{ms:List Nat}{k k1 k2 rk:Kd}{e:Expr}{m mk mv:EM}{pos pos' tpos np:Pos}{f:Str}{C:Addr}{i:Nat}{x:Str}
end
end L2
set_option maxHeartbeats 4000000
namespace L2
open PySem PySem.Spec PyProof.Rows
variable {KF:PySem.W.Frag}{W W':Addr->Prop}
section
variable {X:Cx}{ms:List Nat}{k k1 k2 rk:Kd}{e kx:Expr}{m mk mv:EM}{pos pos' tpos np apos cpos:Pos}{f:Str}{C:Addr}{i:Nat}{x:Str}
end
section
variable {X:Cx}{ms:List Nat}{fl:Bool}{rk k1:Kd}{i j:Nat}{e:Expr}{ma:EM}{x y m:Str}{ps:List Str}{np p pos apos:Pos}{es:List Expr}{C:Addr}{M:List Dv->Option (Dv×Dv)}
end
end L2
set_option maxHeartbeats 4000000
namespace L2
open PySem PySem.Spec PyProof.Rows
variable {KF:PySem.W.Frag}{W W':Addr->Prop}
section
variable {X:Cx}{ms:List Nat}{fl:Bool}{rk k2:Kd}{i:Nat}{e e2 a b:Expr}{mm:Dt->Option (Dv×Dv)}{m2:EM}{x:Str}{ps:List Str}{p pos:Pos}{mx ma mb:Dt->Option (Dt×Dv)}{ta tb:Dt->Option (Dt×Bool)}
end
end L2
set_option maxHeartbeats 4000000
namespace L2
open PySem PySem.Spec PyProof.Rows
variable {KF:PySem.W.Frag}{W W':Addr->Prop}
section
variable {X:Cx}{tg:Expr}
variable {ms:List Nat}{lp:Bool}{k k2 k3:Kd}{a b c:Expr}{ma mb mc:EM}{pos:Pos}
end
end L2
set_option maxHeartbeats 4000000
namespace L2
open PySem PySem.Spec PyProof.Rows
variable {KF:PySem.W.Frag}{W W':Addr->Prop}
section
variable {X:Cx}{ms:List Nat}{rk:Kd}{e:Expr}{m:EM}{pos pos':Pos}
end
end L2
set_option maxHeartbeats 4000000
namespace L2
open PySem PySem.Spec PyProof.Rows
theorem au.there {P:Program}{w:World}{H:Hp}{h:Heap}{a:Addr}{o:HO} (x:au P w H h a o): ∃u,h.get? a=some u:=by
 cases o with
 |lst xs=>obtain ⟨_,_,_,_,e⟩:=x;exact ⟨_,e⟩
 |tup xs=>obtain ⟨_,_,_,_,e,_⟩:=x;exact ⟨_,e⟩
 |dK kvs=>obtain ⟨_,_,_,_,o,_,_,e,_⟩:=x;exact ⟨_,e⟩
 |dT kvs=>obtain ⟨_,_,_,_,o,_,_,e,_⟩:=x;exact ⟨_,e⟩
 |set S n=>obtain ⟨o,_,_,_,e,_⟩:=x;exact ⟨_,e⟩
 |ins C dx fs=>obtain ⟨_,_,_,e,_⟩:=x;exact ⟨_,e⟩
 |own y=>exact x
 |xd fs=>obtain ⟨_,⟨_,_,_,e,_⟩,_⟩:=x;exact ⟨_,e⟩
 |rng lo hi=>obtain ⟨_,_,_,e⟩:=x;exact ⟨_,e⟩
 |frz ob u=>obtain ⟨e,_⟩:=x;exact ⟨_,e⟩
 |tbl q=>obtain ⟨_,e,_⟩:=x;exact ⟨_,e⟩
 |met f y=>exact ⟨_,show h.get? a=some _ from x⟩
 |ext φ=>obtain ⟨_,e,_⟩:=x;exact e
noncomputable def Fly (base:Heap) (l:List Env) (ex:List Addr) (H:Hp) (g:Heap) (C e:Addr) (h:Heap):Prop:=
 ∃B a0 fl,B.StaysIn h/\B.get? e=none/\h.FunFrames B l/\h.TracedAtW B e (.ref C) a0 fl/\base.StaysIn B/\(∀b u,H b=some u-> ∃o,B.get? b=some o)/\ ∀b o,g.get? b=some o->b∉frs l->b∉ex-> ∃o',B.get? b=some o'
noncomputable def CXe (P:Program) (w:World) (base:Heap) (C:Addr):CXT:=fun outer H s E e s'=>
 ∃ea H',e= .ref ea/\s'.os=s.os/\AllBare s'.gens/\Un (frs outer) [] H H' s.heap s'.heap/\HOk P w H' s'.heap/\Fly base outer [] H' s.heap C ea s'.heap/\E (.ref C) none H'
noncomputable def Thrown (X:Cx) (C:Addr) (Z:Hp->Prop) (e:Value) (s':Shared):Prop:=X.Ok/\
 ∃ea H',e= .ref ea/\s'.os=X.s₀.os/\AllBare s'.gens/\Un (frs X.stack) X.ex X.H₀ H' X.s₀.heap s'.heap/\HOk X.prog X.w H' s'.heap/\Fly X.base X.stack X.ex H' X.s₀.heap C ea s'.heap/\(∃m,s'.heap.Ns X.env.locals m)/\H' X.env.locals=none/\Z H'
theorem j7 {X:Cx} (ok:X.Ok): ∀b∈X.fs,b∈frs X.stack:=fun b hb=>by
 rcases ok.stk with h|⟨h,_⟩
 ·rw [h];exact hb
 ·rw [h]
  obtain ⟨env,he,hf⟩:=List.mem_filterMap.mp hb
  exact List.mem_filterMap.mpr ⟨env,List.mem_cons_of_mem _ he,hf⟩
theorem sS {X:Cx}{C:Addr}{Z:Hp->Prop} (hx: ∀e s',Thrown X C Z e s'->X.xe e s'):d2 (CXe X.prog X.w X.base C) X (fun _ _ H'=>Z H'):=by
 intro pins σ H s e s' I ⟨ea,H',he,os,bare,un,hok,⟨B,a0,fl,f1,f2,f3,f4,f5,f6,f7⟩,z⟩
 subst he
 have I':Inv X pins σ H' s':=I.call' os un hok bare (fun b z=>absurd z (by simp))
 obtain ⟨m,hm,_⟩:=I'.loc
 refine hx _ _ ⟨I.ok,ea,H',rfl,I'.os,bare,I'.base.mono (j7 I.ok) (fun _ z=>z),hok,⟨B,a0,fl,f1,f2,f3,f4,f5,f6,fun b o q n m=> ?_⟩,⟨m,hm⟩,I'.free,z⟩
 obtain ⟨o',q'⟩:=I.base.there b o q m
 exact f7 b o' q' n (by simp)
theorem eg {l:List Env}{h h' B:Heap} (f3:h.FunFrames B l) (up:h.UpToSlots h'): ∀b∈frs l,∀o,h.get? b=some o-> ∃sl,h'.get? b=some {o with slots:=sl}:=fun b hb o q=>up b o q fun vs e=>by
 obtain ⟨_,o1,ho1,hd1⟩:=f3.mem hb
 rw [q] at ho1
 cases ho1
 exact hd1 vs e
theorem fq {P:Program}{w:World}{l:List Env}{ex:List Addr}{H H':Hp}{g h h' B:Heap} (un:Un (frs l) ex H H' g h) (hok:HOk P w H' h) (f1:B.StaysIn h)
  (f6: ∀b u,H' b=some u-> ∃o,B.get? b=some o) (f7: ∀b o,g.get? b=some o->b∉frs l->b∉ex-> ∃o',B.get? b=some o') (k1:B.StaysIn h')
  (nf: ∀b∈frs l,∀o,h.get? b=some o-> ∃sl,h'.get? b=some {o with slots:=sl}):Un (frs l) ex H H' g h'/\HOk P w H' h':=by
 refine ⟨⟨fun b o q n hb hx=> ?_,fun b o q n hb hx=> ?_,un.free,fun b o q hx=> ?_,un.tups,un.frzs,un.tbls⟩,fun b u q=> ?_⟩
 ·obtain ⟨o',e⟩:=f7 b o q hb hx
  have e1:=un.keep b o q n hb hx
  rw [f1 b o' e] at e1
  cases e1
  exact k1 b _ e
 ·obtain ⟨sl,e1⟩:=un.slot b o q n hb hx
  obtain ⟨sl',e2⟩:=nf b hb _ e1
  exact ⟨sl',e2⟩
 ·by_cases hb:b∈frs l
  ·obtain ⟨o',e1⟩:=un.there b o q hx
   obtain ⟨sl,e2⟩:=nf b hb _ e1
   exact ⟨_,e2⟩
  ·obtain ⟨o',e⟩:=f7 b o q hb hx
   exact ⟨o',k1 b _ e⟩
 ·refine (hok b u q).stay (fun c v hc r=> ?_) (fun _ q=>q) fun _ _ q=>q
  have hin: ∃o,B.get? c=some o:=by
   rcases hc with z|z
   ·rw [z];exact f6 b u q
   ·exact f6 c _ z
  obtain ⟨o,e⟩:=hin
  have e1:=f1 c o e
  rw [r] at e1
  cases e1
  exact k1 c _ e
section
variable {M:Model}{A:Around}{E:Value->Shared->Prop}{s:Shared}
theorem gx {base:Heap}{env:Env}{outer:List Env}{L e:Addr}{cls a0 fl:Value}{Q:Unit->Shared->Prop}
  (hfr:A.frames=some (env::outer)) (hl:s.heap.FunFrames base (env::outer)) (hf:env.frame=some L) (ht:s.heap.TracedAtW base e cls a0 fl) (hkb:base.StaysIn s.heap) (hen:base.get? e=none)
  (h: ∀h',Heap.NotedW base (env::outer) e cls a0 (rawInt L) s.heap h'->Q () {s with heap:=h'}):wpAny M A (noteFrame (.ref e) env) Q E s:=by
 by_cases hq:fl=rawInt L
 ·subst hq
  exact wpAny_noteFrame_againW hf ht (h s.heap ⟨hkb,hl,ht,Heap.UpToSlots.refl _⟩)
 ·obtain ⟨oe,vs,T,oT,ts,he,⟨hcls,h0⟩,hd,h1,hnT,hTe,hT,hdT,h3⟩:=ht
  subst hcls
  unfold noteFrame
  simp only [hf]
  refine wpAny_bind (wpAny_field he hd h1 ?_)
  rw [if_pos (show (Value.ref T !=Value.none)=true from by simp)]
  refine wpAny_bind (wpAny_field hT hdT h3 ?_)
  rw [if_neg (show¬((fl==rawInt L)=true) from by simpa using hq)]
  refine wpAny_bind (wpAny_setField hT hdT (Array.getElem?_eq_some_iff.mp h3).1 ?_)
  have other: ∀b,b≠T->(s.heap.update T (Obj.mapFields (·.setIfInBounds 3 Value.none))).get? b=s.heap.get? b:=fun b hb=>Heap.get?_update_other _ _ (Ne.symm hb)
  have noRecord: ∀b o,s.heap.get? b=some o->(∀vs,o.data≠ .fields vs)->b≠T:=fun b o hb hnf q=>by
   rw [q,hT] at hb;injection hb with hb;subst hb;exact hnf ts hdT
  exact wpAny_entryW hfr (hl.of_keeps fun b o hb hnf=>⟨o,(other b (noRecord b o hb hnf)).trans hb,rfl⟩) hf ((other e (Ne.symm hTe)).trans he)
   (fun b o hbo=>(other b fun q=>by rw [q,hnT] at hbo;cases hbo).trans (hkb b o hbo)) hen hd (Array.getElem?_eq_some_iff.mp h1).1 h0
   fun h' ⟨x1,x2,x3,x4⟩=>h h' ⟨x1,x2,x3,fun b o hb hnf=>x4 b o ((other b (noRecord b o hb hnf)).trans hb) hnf⟩
theorem gy {base:Heap}{l:List Env}{e:Addr}{cls a0 fl:Value}{to:Option Addr}{Q:Unit->Shared->Prop}
  (hkb:base.StaysIn s.heap) (hl:s.heap.FunFrames base l) (ht:s.heap.TracedAtW base e cls a0 fl)
  (h: ∀h' fl',base.StaysIn h'->h'.FunFrames base l->h'.TracedAtW base e cls a0 fl'->s.heap.UpToSlots h'->Q () {s with heap:=h'}):wpAny M A (setFlight (.ref e) to) Q E s:=by
 obtain ⟨oe,vs,T,oT,ts,he,hcls,hd,h1,hnT,hTe,hT,hdT,h3⟩:=ht
 have hsz3:3<ts.size:=(Array.getElem?_eq_some_iff.mp h3).1
 have other: ∀b,b≠T->(s.heap.update T (Obj.mapFields (·.setIfInBounds 3 (to.elim Value.none fun f=>rawInt f)))).get? b=s.heap.get? b:=
  fun b hb=>Heap.get?_update_other _ _ (Ne.symm hb)
 have noRecord: ∀b o,s.heap.get? b=some o->(∀vs,o.data≠ .fields vs)->b≠T:=fun b o hb hnf q=>by
  rw [q,hT] at hb;injection hb with hb;subst hb;exact hnf ts hdT
 unfold setFlight
 refine wpAny_bind (wpAny_field he hd h1 ?_)
 rw [if_pos (show (Value.ref T !=Value.none)=true from by simp)]
 refine wpAny_setField hT hdT hsz3 (h _ (to.elim Value.none fun f=>rawInt f) (fun b o hbo=>(other b fun q=>by rw [q,hnT] at hbo;cases hbo).trans (hkb b o hbo))
  (hl.of_keeps fun b o hb hnf=>⟨o,(other b (noRecord b o hb hnf)).trans hb,rfl⟩) ?_ fun b o hb hnf=>⟨o.slots,(other b (noRecord b o hb hnf)).trans hb⟩)
 exact ⟨oe,vs,T,_,_,(other e (Ne.symm hTe)).trans he,hcls,hd,h1,hnT,hTe,Heap.get?_update_self _ hT (Obj.isFreed_of_fields (Obj.data_mapFields hdT _)),Obj.data_mapFields hdT _,by simp [hsz3]⟩
end
section
variable {P:Program}{w:World}{K:PySem.W.Frag}{mg:Str->Option Value}{base:Heap}{N:List Str}{qual:Str}{scope:Scope}{f C:Addr}{cd:Value}{A:Around}{outer:List Env}{s:Shared}{H:Hp}{E:XK}
theorem gA {b:Addr}{o:Obj} (q:s.heap.get? b=some o) (n:b∉frs outer):b∉frs (envOfC qual scope s.heap.objs.size f cd::outer):=fun m=>by
 obtain ⟨env,he,hf⟩:=List.mem_filterMap.mp m
 rcases List.mem_cons.mp he with rfl|he
 ·have e:s.heap.objs.size=b:=Option.some.inj hf
  rw [<-e] at q
  exact absurd (Heap.lt_size q) (Nat.lt_irrefl _)
 ·exact n (List.mem_filterMap.mpr ⟨env,he,hf⟩)
theorem sT {e:Value}{s':Shared} (T:Thrown (cxOf (CXe P w base C) P w K mg base N qual scope f cd A outer s H E) C (E (.ref C) none) e s'):
  (cxOf (CXe P w base C) P w K mg base N qual scope f cd A outer s H E).xe e s':=by
 obtain ⟨ok,ea,H',he,os,bare,un,hok,⟨B,a0,fl,f1,f2,f3,f4,f5,f6,f7⟩,_,_,z⟩:=T
 subst he
 show wpAny _ _ (leaving _ (.ref ea)) _ _ s'
 unfold leaving
 refine wpAny_bind (gx ok.frames f3 (L:=s.heap.objs.size) rfl f4 f1 f2 fun h1 ⟨k1,k2,k3,k4⟩=> ?_)
 refine wpAny_landsW (s:={s' with heap:=h1}) (L:=s.heap.objs.size) ⟨k1,f2,k2,k3⟩ fun h' x up=> ?_
 obtain ⟨un',hok'⟩:=fq un hok f1 f6 f7 x.1 (eg f3 (Heap.UpToSlots.trans k4 up))
 have nx: ∀b:Addr,b∉(cxOf (CXe P w base C) P w K mg base N qual scope f cd A outer s H E).ex:=fun b z=>absurd (show b∈([]:List Addr) from z) (by simp)
 refine ⟨ea,H',rfl,os,bare,⟨fun b o q n hb _=>un'.keep b o q n (gA q hb) (nx b),fun b o q n hb _=>un'.any q n (nx b),fun b o q n _=>un'.free b o q n (nx b),fun b o q _=>un'.there b o q (nx b),un'.tups,un'.frzs,un'.tbls⟩,hok',
  ⟨B,a0,.none,x.1,x.2.1,x.2.2.1.2.2,x.2.2.2,f5,f6,fun b o q n _=>f7 b o q (gA q n) (nx b)⟩,z⟩
theorem sU {pins:List (Addr×Obj)}{σ:St}{H':Hp}{s':Shared}{ea:Addr}{h':Heap}{vs:List Value} (I:Inv (cxOf (CXe P w base C) P w K mg base N qual scope f cd A outer s H E) pins σ H' s')
  (hx:Heap.MadeExcOf s'.heap h' ea (.ref C) vs) (z:E (.ref C) none H'):(cxOf (CXe P w base C) P w K mg base N qual scope f cd A outer s H E).xe (.ref ea) {s' with heap:=h'}:=by
 have stk:s'.heap.FunFrames base (envOfC qual scope s.heap.objs.size f cd::outer):=I.stack
 have hin: ∀env∈(envOfC qual scope s.heap.objs.size f cd::outer),∀b,env.frame=some b->b∈frs (envOfC qual scope s.heap.objs.size f cd::outer):=fun env he b hb=>List.mem_filterMap.mpr ⟨env,he,hb⟩
 have I2:Inv (cxOf (CXe P w base C) P w K mg base N qual scope f cd A outer s H E) pins σ H' {s' with heap:=h'}:=I.kept (t':=s'.toks) hx.keeps
 have nx: ∀b:Addr,b∉(cxOf (CXe P w base C) P w K mg base N qual scope f cd A outer s H E).ex:=fun b z=>absurd (show b∈([]:List Addr) from z) (by simp)
 have hf2:=(PySem.W.funFrames_hide stk hin).of_keeps (h':=h') fun b o q _=>⟨o,hx.keeps b o q,rfl⟩
 have g6: ∀b u,H' b=some u-> ∃o,(PySem.W.hideAll s'.heap (frs (envOfC qual scope s.heap.objs.size f cd::outer))).get? b=some o:=fun b u q=>by
  obtain ⟨o,ho⟩:=au.there (I.hok b u q)
  refine ⟨o,PySem.W.hideAll_get _ ho fun m=> ?_⟩
  have e2:=I.stkFree b m
  rw [q] at e2
  cases e2
 have g7: ∀b o,s.heap.get? b=some o->b∉frs outer->b∉([]:List Addr)-> ∃o',(PySem.W.hideAll s'.heap (frs (envOfC qual scope s.heap.objs.size f cd::outer))).get? b=some o':=fun b o q n _=>by
  obtain ⟨o',e⟩:=I.base.there b o q (nx b)
  exact ⟨o',PySem.W.hideAll_get _ e (gA q n)⟩
 have g5:base.StaysIn (PySem.W.hideAll s'.heap (frs (envOfC qual scope s.heap.objs.size f cd::outer))):=fun b o q=>PySem.W.hideAll_get _ (I.bk b o q) fun m=>by
  rw [(stk.mem m).1] at q
  cases q
 show wpAny _ _ (leaving _ (.ref ea)) _ _ _
 refine wpAny_leaves_madeW (s:={s' with heap:=h'}) (base:=PySem.W.hideAll s'.heap (frs (envOfC qual scope s.heap.objs.size f cd::outer))) (h:=s'.heap) I.ok.frames rfl (fun b o q=>PySem.W.of_hideAll _ q) (PySem.W.funFrames_hide stk hin) hx fun h'' t x1 x2 x3 up=> ?_
 obtain ⟨un',hok'⟩:=fq (l:=outer) (ex:=[]) (B:=PySem.W.hideAll s'.heap (frs (envOfC qual scope s.heap.objs.size f cd::outer))) I2.base I2.hok (fun b o q=>hx.keeps b o (PySem.W.of_hideAll _ q)) g6 g7 x1.1 (eg hf2.2.2 up)
 exact ⟨ea,H',rfl,I.os,I.bare,un',hok',⟨_,_,.none,x1.1,x1.2.1,x1.2.2.1,x1.2.2.2,g5,g6,g7⟩,z⟩
end
end L2
set_option maxHeartbeats 4000000
namespace L2
open PySem PySem.Spec PyProof.Rows
noncomputable def PRs (X:Cx) (ms:List Nat) (Z:Hp->Prop) (st:Stmt) (m:Dt->Bool):Prop:=
 ∀(W:Addr->Prop) (pins:List (Addr×Obj)) (s:Shared) (δ:Dt) (σ:St) (H0 H:Hp) (QQ:Flow->Shared->Prop),Inv X pins σ H s->Rel X.K ms W H0 δ σ H->m δ=true->(∀H',Same H0 H'->Z H')->wpAny (model X.prog X.w) X.A (exec st X.env) QQ X.xe s
noncomputable def PRss (X:Cx) (ms:List Nat) (Z:Hp->Prop) (st:List Stmt) (m:Dt->Bool):Prop:=
 ∀(W:Addr->Prop) (pins:List (Addr×Obj)) (s:Shared) (δ:Dt) (σ:St) (H0 H:Hp) (QQ:Flow->Shared->Prop),Inv X pins σ H s->Rel X.K ms W H0 δ σ H->m δ=true->(∀H',Same H0 H'->Z H')->wpAny (model X.prog X.w) X.A (execs st X.env) QQ X.xe s
noncomputable def PRe (X:Cx) (ms:List Nat) (Z:Hp->Prop) (e:Expr) (m:Dt->Bool):Prop:=
 ∀(W:Addr->Prop) (pins:List (Addr×Obj)) (s:Shared) (δ:Dt) (σ:St) (H0 H:Hp) (QQ:Value->Shared->Prop),Inv X pins σ H s->Rel X.K ms W H0 δ σ H->m δ=true->(∀H',Same H0 H'->Z H')->wpAny (model X.prog X.w) X.A (eval e X.env) QQ X.xe s
section
variable {X:Cx}{ms:List Nat}{Z:Hp->Prop}{st:Stmt}{rest a b:List Stmt}{m m':Dt->Bool}{e c:Expr}{pos p:Pos}
theorem j8 (h:PRss X ms Z rest m) (h':PRss X ms Z rest m'):PRss X ms Z rest (fun δ=>m δ||m' δ):=fun W pins s δ σ H0 H QQ I R hm hz=>by
 rcases Bool.or_eq_true_iff.mp hm with q|q
 ·exact h W pins s δ σ H0 H QQ I R q hz
 ·exact h' W pins s δ σ H0 H QQ I R q hz
theorem cI (h:PRs X ms Z st m):PRss X ms Z (st::rest) m:=fun W pins s δ σ H0 H QQ I R hm hz=>wpAny_execs_cons (h W pins s δ σ H0 H _ I R hm hz)
noncomputable def bP (a:SM) (m:Dt->Bool):Dt->Bool:=fun δ=>match a δ with
 |some (.nx δ1)=>m δ1
 |_=>false
theorem eh {rk:Kd}{ma:SM} (h1:PDs X ms rk st ma) (h2:PRss X ms Z rest m):PRss X ms Z (st::rest) (bP ma m):=fun W pins s δ σ H0 H QQ I R hm hz=>by
 obtain ⟨t,p,q⟩:=h1
 unfold bP at hm
 split at hm
 ·rename_i δ1 e1
  have hn:=q δ σ H0 H {nx:=fun σ' H'=> ∃W',Rel X.K ms W' H0 δ1 σ' H',rt:=fun _ _=>False} _ R e1 (fun W' σ' H' _ R'=>⟨W',R'⟩)
  refine wpAny_execs_cons (thn (p pins s σ H _ I hn) fun f s1 hq=> ?_)
  cases f with
  |next=>
   obtain ⟨σ',H',I',W',R'⟩:=hq
   exact h2 W' pins s1 δ1 σ' H0 H' QQ I' R' hm hz
  |ret v=>
   obtain ⟨_,_,_,_,_,z⟩:=hq
   exact False.elim z
  |brk=>
   obtain ⟨_,_,_,z⟩:=hq
   exact False.elim z
  |cont=>
   obtain ⟨_,_,_,z⟩:=hq
   exact False.elim z
 ·cases hm
noncomputable def rIf (tc:Dt->Option Bool) (m:Dt->Bool):Dt->Bool:=fun δ=>match tc δ with
 |some true=>m δ
 |_=>false
theorem gB {tc:Dt->Option Bool} (hc:PDt X ms c tc) (ha:PRss X ms Z a m):PRs X ms Z (.If c a b pos) (rIf tc m):=fun W pins s δ σ H0 H QQ I R hm hz=>by
 obtain ⟨t,p,q⟩:=hc
 unfold rIf at hm
 split at hm
 ·rename_i e1
  refine wpAny_If (thn (p pins s σ H (fun b H1=>b=true/\Same H H1) I (q δ σ H0 H _ true R e1 fun H1 s1=>⟨rfl,s1⟩)) fun d s1 ⟨H1,I1,hd,s1'⟩=> ?_)
  subst hd
  exact ha W pins s1 δ σ H0 H1 _ I1 (R.same s1') hm hz
 ·cases hm
theorem sV (h:PRe X ms Z e m):PRs X ms Z (.Return (some e) pos) m:=fun W pins s δ σ H0 H QQ I R hm hz=>wpAny_Return_some (h W pins s δ σ H0 H _ I R hm hz)
theorem sW {x:Str}{T:String} (h:PRe X ms Z e m) (hg:Gl X x) (hm:X.mg x=none) (hv:bootBuiltins x=some (.type T)) (hn:x≠"__name__":=by decide) (hdb:(x==("__debug__":Str))=false:=by decide)
  (he:starEach [e] X.env=[(false,eval e X.env)]:=by rfl):PRe X ms Z (.Call (.Name x p) [e] [] pos) m:=fun W pins s δ σ H0 H QQ I R hq hz=>by
 refine wpAny_Call_Name_kw (dY I hg hm hv ?_ hn hdb)
 refine PyProof.Rows.callWith_type1 ?_ he rfl
 rw [he]
 exact Calls.spliced_cons (h W pins s δ σ H0 H _ I R hq hz)
end
noncomputable def spX (K:PySem.W.Frag) (C:Addr) (m:List Dv->Bool):Sp:=fun vs H _ E=> ∃ds,RepsF K (fun _=>True) H vs ds/\m ds=true/\ ∀H',Same H H'->E (.ref C) none H'
noncomputable def cj (n np:Nat) (m:Dt->Bool) (ds:List Dv):Bool:=decide (ds.length=np)&&m (aK n ds)
section
variable {P:Program}{w:World}{K:PySem.W.Frag}{mg:Str->Option Value}{base:Heap}{C:Addr}
theorem j9 {x qual:Str}{st:Stmt}{f:Addr}{fd:FuncData}{N ps:List Str}{k:Nat}{m:Dt->Bool} (ms:List Nat) (F:Fun K x qual st f fd) (S:aN N ps (aq st)) (hms:ms.all (fun i=>decide (ps.length<=if 2000<=i then i-2000 else if 1000<=i then i-1000 else i))=true) (hps:decide (ps.length<=N.length)=true)
  (hb: ∀(cdv:Value) (A:Around) (outer:List Env) (s:Shared) (H:Hp) (E:XK),Room k (A.deeper (envOfC qual (aq st) s.heap.objs.size f cdv))->PRss (cxOf (CXe P w base C) P w K mg base N qual (aq st) f cdv A outer s H E) ms (E (.ref C) none) (aJ st) m):
  FnOk P w K mg base (CXe P w base C) (k+1) f fd ps (spX K C (cj N.length ps.length m)):=by
 obtain ⟨oc,od,kV,doc,pm,an,cdv,ct,osl,rfl,lk,hcd⟩:=F.ex
 have len: ∀{ds:List Dv},cj N.length ps.length m ds=true->ds.length=ps.length/\m (aK N.length ds)=true:=fun {ds} h=>by
  unfold cj at h
  rw [Bool.and_eq_true] at h
  exact ⟨of_decide_eq_true h.1,h.2⟩
 refine ij lk hcd S (fun vs H Q E h=> ?_) fun A outer s H vs Q E hr h=> ?_
 ·obtain ⟨ds,r,hm,_⟩:=h
  rw [r.length]
  exact (len hm).1
 ·obtain ⟨ds,r,hm,hz⟩:=h
  obtain ⟨hl,hm⟩:=len hm
  have hps':=of_decide_eq_true hps
  have R:Rel K ms W0 H (aK N.length ds) (aS N vs) H:=jm r (fun i hi=>by rw [hl];exact ge hms hi) (by lia)
  exact ⟨fun _ σ' H'=>Rel K ms W0 H (aK N.length ds) σ' H',fun pins s' σ' H' D I R'=>hb cdv A outer s H E hr W0 pins s' _ σ' H H' _ I R' hm hz,R⟩
end
noncomputable def DefX (P:Program) (w:World) (K:PySem.W.Frag) (mg:Str->Option Value) (base:Heap) (C:Addr) (k:Nat) (x:Str) (ps:List Str) (sp:Sp):Prop:=
 ∃f fd,FnOk P w K mg base (CXe P w base C) k f fd ps sp/\mg x=some (.ref f)/\PySem.W.keepIn K (.ref f)=true/\bx K fd ps []
section
variable {X:Cx}{ms:List Nat}{Z:Hp->Prop}{k1:Kd}{a:Expr}{es:List Expr}{ml:Dt->Option (List Dv)}{m:List Dv->Bool}{x:Str}{ps:List Str}{p pos:Pos}{C:Addr}
noncomputable def aQ (m:List Dv->Bool) (ml:Dt->Option (List Dv)):Dt->Bool:=fun δ=>match ml δ with
 |some xs=>m xs
 |none=>false
theorem sX {k:Nat} (D:DefX X.prog X.w X.K X.mg X.base C k x ps (spX X.K C m)) (hr:Room k X.A) (hx: ∀e s',Thrown X C Z e s'->X.xe e s') (ha:PDa X ms k1 (a::es) ml) (hg:Gl X x:=by rfl)
  (hdb:(x==("__debug__":Str))=false:=by decide) (he:starEach (a::es) X.env=(false,eval a X.env)::starEach es X.env:=by rfl) (hpl:(backTo pos (starEach es X.env)).any (·.1)=false:=by rfl):
  PRe X ms Z (.Call (.Name x p) (a::es) [] pos) (aQ m ml):=fun W pins s δ σ H0 H QQ I R hm hz=>by
 obtain ⟨f,fd,F,hf,hk,hb⟩:=D
 obtain ⟨ta,pa,qa⟩:=ha
 unfold aQ at hm
 split at hm
 ·rename_i xs e1
  refine thn (hZ (dvs:=[]) (ds:=[]) (E:=fun _ _ H'=>Z H') F hr hg hf hk hb .nil (sS hx) pa hdb he hpl pins s σ H (fun _ _=>False) I ?_) fun v s' ⟨_,_,_,_,z⟩=>z.elim
  refine qa δ σ H0 H _ xs R e1 fun vs H1 s1 g1=> ?_
  refine ⟨xs,?_,hm,fun H' s2=>hz H' (R.keep.tr (s1.tr s2))⟩
  rw [List.append_nil]
  exact g1.bor
 ·cases hm
end
section
variable {P:Program}{w:World}{K:PySem.W.Frag}{mg:Str->Option Value}{base:Heap}{N:List Str}{qual:Str}{scope:Scope}{f C:Addr}{cd:Value}{A:Around}{outer:List Env}{s:Shared}{H:Hp}{E:XK}
theorem gD {ms:List Nat}{x:Str}{a:Expr}{np cpos pos:Pos}{bm:List Value}{B newId initId:String}{k1:Kd}{ml:EM} (O:OwnCls x C bm newId mg base) (FB:ExcBaseFacts B newId initId bm)
  (ha:PD (cxOf (CXe P w base C) P w K mg base N qual scope f cd A outer s H E) ms k1 a ml) (hg:Gl (cxOf (CXe P w base C) P w K mg base N qual scope f cd A outer s H E) x:=by rfl)
  (hdb:(x==("__debug__":Str))=false:=by decide)
  (he:starEach [a] (cxOf (CXe P w base C) P w K mg base N qual scope f cd A outer s H E).env=[(false,eval a (cxOf (CXe P w base C) P w K mg base N qual scope f cd A outer s H E).env)]:=by rfl):
  PRs (cxOf (CXe P w base C) P w K mg base N qual scope f cd A outer s H E) ms (E (.ref C) none) (.Raise (some (.Call (.Name x np) [a] [] cpos)) none pos) (fun δ=>(ml δ).isSome):=fun W pins s' δ σ H0 H' QQ I R hm hz=>by
 obtain ⟨ta,pa,qa⟩:=ha
 obtain ⟨d,e1⟩:=Option.isSome_iff_exists.mp hm
 obtain ⟨tl,Nn,nm,q,bs,hdct,sn,sub,ab,col,dd,k0,k1,k2,k3,k5,mN,hC,hN,hni,T⟩:=O.obj
 refine wpAny_Raise_call_subT (C:=C) (nm:=nm) (q:=q) (N:=Nn) (bs:=bs) (bm:=tl) (hdct:=hdct) (sn:=sn) (sub:=sub) (ab:=ab) (col:=col) (dd:=dd) (k0:=k0) (k1:=k1) (k2:=k2) (k3:=k3) (k5:=k5)
  FB (mN:=mN) (T.hasType FB.hasBase) (I.ok.hd rfl) (by rw [he];rfl) hni (dX I hg O.bound ⟨rfl,?_⟩ hdb)
 rw [he]
 refine Calls.evalArgs_plain (Calls.spliced_cons (thn (pa pins s' σ H' (fun v H1=>Same H' H1) I (qa δ σ H0 H' _ d R e1 fun v H1 s1 g1=>s1)) fun u s1 ⟨v,H1,I1,r1,q1⟩=>Calls.spliced_nil ?_))
 exact ⟨rfl,Nat.le_of_lt (iC (n:=1) (by decide)),I1.bk _ _ hC,hN.keeps I1.bk,T.keeps I1.bk,fun h' e hx=>sU I1 hx (hz _ (R.keep.tr q1))⟩
end
end L2
set_option maxHeartbeats 4000000
namespace L2
open PySem PySem.Spec PyProof.Rows
theorem sY {e:Value}{env env':Env} (h:env.frame=env'.frame):noteFrame e env=noteFrame e env':=by unfold noteFrame PySem.frameOf;rw [h]
theorem fu {B:Heap}{C b:Addr}{o:Obj} (h:(PySem.W.hideAll B [C]).get? b=some o):B.get? b=some o/\b≠C:=by
 refine ⟨PySem.W.of_hideAll _ h,fun z=> ?_⟩
 subst z
 rw [PySem.W.hideAll_none (l:=[b]) (List.mem_cons_self)] at h
 cases h
theorem gE {B:Heap}{C b:Addr} (h:B.get? b=none):(PySem.W.hideAll B [C]).get? b=none:=by
 cases q:(PySem.W.hideAll B [C]).get? b with
 |none=>rfl
 |some o=>rw [(fu q).1] at h;cases h
theorem gF {B:Heap}{C b:Addr}{o:Obj} (h:B.get? b=some o) (n:b≠C):(PySem.W.hideAll B [C]).get? b=some o:=PySem.W.hideAll_get _ h fun m=>n (by simpa using m)
theorem sZ {h h2 B:Heap}{C e:Addr}{m:Str->Option Value}{cls a0 fl:Value} (hn:h.Ns C m) (sb:Heap.SameBut C h h2) (k:h.TracedAtW B e cls a0 fl):h2.TracedAtW (PySem.W.hideAll B [C]) e cls a0 fl:=by
 obtain ⟨oe,vs,T,oT,ts,he,hcls,hd,h1,hnT,hTe,hT,hdT,h3⟩:=k
 obtain ⟨o,es,ep,ho,hdo,_⟩:=hn
 have ne:e≠C:=fun z=>by rw [z,ho] at he;cases he;rw [hdo] at hd;cases hd
 have nT:T≠C:=fun z=>by rw [z,ho] at hT;cases hT;rw [hdo] at hdT;cases hdT
 exact ⟨oe,vs,T,oT,ts,(sb.2 e ne).trans he,hcls,hd,h1,gE hnT,hTe,(sb.2 T nT).trans hT,hdT,h3⟩
theorem ka {h h2 B:Heap}{C:Addr} (sb:Heap.SameBut C h h2): ∀{l:List Env},C∉frs l->h.FunFrames B l->h2.FunFrames (PySem.W.hideAll B [C]) l
 |[],_,_=>trivial
 |env::l,hC,⟨hk,⟨L,o,hf,hn,ho,hd⟩,hr⟩=>by
  have nL:L≠C:=fun z=>hC (List.mem_filterMap.mpr ⟨env,List.mem_cons_self,by rw [hf,z]⟩)
  refine ⟨hk,⟨L,o,hf,gE hn,(sb.2 L nL).trans ho,hd⟩,ka sb (fun m=>hC ?_) hr⟩
  obtain ⟨env',he,hf'⟩:=List.mem_filterMap.mp m
  exact List.mem_filterMap.mpr ⟨env',List.mem_cons_of_mem _ he,hf'⟩
theorem tf {h h':Heap}{L:Addr}{m:Str->Option Value} (hn:h.Ns L m) (k: ∀o,h.get? L=some o-> ∃sl,h'.get? L=some {o with slots:=sl}):h'.Ns L m:=by
 obtain ⟨o,es,ep,ho,r⟩:=hn
 obtain ⟨sl,e⟩:=k o ho
 exact ⟨_,es,ep,e,r⟩
section
variable {prog:Program}{w:World}{A:Around}{R:Result->Shared->Prop}{s:Shared}
theorem tj {elt target iter:Expr}{scope:Scope}{pos:Pos}{it acc:Value}{env:Env} (I:Nat->Shared->Prop) (XE:Value->Shared->Prop) (hE: ∀e s',XE e s'->notedBy (model prog w) A env (fun e s'=>R (.error e) s') e s')
  (turn: ∀n s,I n s->wpAny (model prog w) A (pyNext it) (fun r s₁=>match r with
   |none=>False
   |some v=>wpAny (model prog w) A (letOwnedTupleGo target it v) (fun _ s₁'=>wpAny (model prog w) A (assign target env v) (fun _ s₂=>
      wpAny (model prog w) A (eval elt env) (fun x s₄=>
       wpAny (model prog w) A (call (.builtin "list.append") [acc,x]) (fun _ s₅=> ∃m,m<n/\I m s₅) X0 s₄) XE s₂) X0 s₁') X0 s₁) X0 s)
  (n:Nat) (h:I n s):codeAny (model prog w) A (.compLoop (.ListComp elt [⟨target,iter,[],0⟩] scope pos) 0 it acc env) R s:=by
 refine codeAny_loop rfl I (fun n s hI=> ?_) n h
 show wpAny _ A ((compTurn (.ListComp elt [⟨target,iter,[],0⟩] scope pos) 0 it acc env).onRaise (fun x=>do noteFrame x env;theTreesLotGoes x)) _ _ s
 refine wpAny_noted ?_
 rw [compTurn_list]
 refine wpAny_bind (wpAny_standAt (wpAny_bind (fN (wpAny_mono (turn n s hI) (fun r s₁ h₁=> ?_) fun _ _ h'=>False.elim h'))))
 cases r with
 |none=>exact False.elim h₁
 |some v=>
  refine wpAny_bind (wpAny_mono h₁ (fun _ s₁' h₁'=> ?_) fun _ _ h'=>False.elim h')
  refine wpAny_bind (wpAny_mono h₁' (fun _ s₂ h₂=>wpAny_bind (wpAny_tests_nil ?_)) fun _ _ h'=>False.elim h')
  exact wpAny_bind (wpAny_bind (wpAny_mono h₂ (fun x s₄ h₄=>wpAny_bind (wpAny_mono h₄ (fun _ s₅ h₅=>wpAny_pure (wpAny_pure ⟨rfl,h₅⟩)) fun _ _ h'=>False.elim h')) hE))
end
theorem tm {X:Cx}{scope:Scope}{N':List Str}{Cl Cp:Addr}{Z:Hp->Prop}{pins:List (Addr×Obj)}{σ:St}{H2:Hp}{s2 s':Shared}{fp:List Addr}{e:Value}{use:Option (Value->Sem Unit)}{QQ:Value->Shared->Prop}{l:Value}
  (hX: ∀e s',Thrown X Cl Z e s'->X.xe e s') (hst:X.stack=X.env::X.outer) (hfm:X.env.frame=some X.env.locals) (I2:Inv X pins σ H2 s2) (f2: ∀b∈fp,FpOk X pins H2 b) (hC:s2.heap.objs.size<=Cp)
  (T:Thrown (ag X scope N' Cp s2 H2 fp) Cl Z e s'):notedBy (model X.prog X.w) X.A (ag X scope N' Cp s2 H2 fp).env (fun e s'=>compPost (model X.prog X.w) X.A X.xe use QQ l Cp (.error e) s') e s':=by
 obtain ⟨okY,ea,H',he,os,bare,un,hok,⟨B,a0,fl,g1,g2,g3,g4,g5,g6,g7⟩,⟨m,hm⟩,hfree,z⟩:=T
 subst he
 have un:Un (frs X.stack) fp H2 H' s2.heap s'.heap:=un
 have g3:s'.heap.FunFrames B X.stack:=g3
 have g7: ∀b o,s2.heap.get? b=some o->b∉frs X.stack->b∉fp-> ∃o',B.get? b=some o':=g7
 have hm:s'.heap.Ns Cp m:=hm
 have hfree:H' Cp=none:=hfree
 have hCf:Cp∉frs X.stack:=fun mm=>by
  obtain ⟨_,o,ho,_⟩:=I2.stack.mem mm
  exact absurd (Nat.lt_of_lt_of_le (Heap.lt_size ho) hC) (Nat.lt_irrefl _)
 have hnf: ∀b o,X.s₀.heap.get? b=some o->b∉X.ex->b∉fp:=fun b o q hx hb=>by
  rcases (f2 b hb).2.2.2.1 with y|y
  ·exact hx y
  ·exact absurd (Nat.lt_of_lt_of_le (Heap.lt_size q) y) (Nat.lt_irrefl _)
 have unA:Un (frs X.stack) X.ex X.H₀ H2 X.s₀.heap s2.heap:=I2.base.mono (j7 I2.ok) fun _ y=>y
 have unX:Un (frs X.stack) X.ex X.H₀ H' X.s₀.heap s'.heap:=by
  refine ⟨fun b o q n hb hx=>un.keep b o (unA.keep b o q n hb hx) (unA.free b o q n hx) hb (hnf b o q hx),fun b o q n hb hx=> ?_,fun b o q n hx=> ?_,fun b o q hx=> ?_,fun b xs q=>un.tups b xs (unA.tups b xs q),fun b u xs q=>un.frzs b u xs (unA.frzs b u xs q),fun b ps q=>un.tbls b ps (unA.tbls b ps q)⟩
  ·obtain ⟨sl,e1⟩:=unA.slot b o q n hb hx
   obtain ⟨sl',e2⟩:=un.slot b _ e1 (unA.free b o q n hx) hb (hnf b o q hx)
   exact ⟨sl',e2⟩
  ·obtain ⟨o',e1⟩:=unA.there b o q hx
   exact un.free b o' e1 (unA.free b o q n hx) (hnf b o q hx)
  ·obtain ⟨o',e1⟩:=unA.there b o q hx
   exact un.there b o' e1 (hnf b o q hx)
 have hLfp:X.env.locals∉fp:=fun y=>(f2 _ y).2.1 rfl
 have hL':H' X.env.locals=none:=by
  obtain ⟨m0,⟨o,es,ep,ho,_⟩,_⟩:=I2.loc
  exact un.free _ o ho I2.free hLfp
 have hLC:X.env.locals≠Cp:=fun y=>by
  obtain ⟨m0,⟨o,es,ep,ho,_⟩,_⟩:=I2.loc
  rw [y] at ho
  exact absurd (Nat.lt_of_lt_of_le (Heap.lt_size ho) hC) (Nat.lt_irrefl _)
 unfold notedBy
 rw [sY (show (ag X scope N' Cp s2 H2 fp).env.frame=X.env.frame from rfl)]
 refine gx (hst▸I2.ok.frames) (hst▸g3) hfm g4 g1 g2 fun h1 ⟨k1,k2,k3,k4⟩=> ?_
 rw [<-hst] at k2
 have fin: ∃m,h1.Ns Cp m/\ ∀h',Heap.SameBut Cp h1 h'-> ∀cenv:Env,cenv.locals=Cp->wpAny (model X.prog X.w) X.A (PySem.passOn "comprehension.variables-let-go" (.ref ea) cenv:Sem Value) (fun _ _=>False) X.xe {s' with heap:=h'}:=by
  refine ⟨m,Heap.UpToSlots.ns k4 hm,fun h2 sb cenv _=> ?_⟩
  have t2:=sZ (Heap.UpToSlots.ns k4 hm) sb k3
  have fr2:=ka sb hCf k2
  have st2:(PySem.W.hideAll B [Cp]).StaysIn h2:=fun b o q=>(sb.2 b (fu q).2).trans (k1 b o (fu q).1)
  unfold PySem.passOn
  obtain ⟨oe,vs,T,oT,ts,ce,ccls,cd,c1,cnT,cTe,cT,cdT,c3⟩:=id t2
  refine wpAny_bind (wpAny_field (s:={s' with heap:=h2}) ce cd c1 ?_)
  rw [if_neg (show¬((Value.ref T==Value.none)=true) from by simp)]
  refine wpAny_bind (gy (s:={s' with heap:=h2}) st2 fr2 t2 fun h3 fl' x1 x2 x3 up3=> ?_)
  refine wpAny_throw (hX _ _ ?_)
  have nf: ∀b∈frs X.stack,∀o,s'.heap.get? b=some o-> ∃sl,h3.get? b=some {o with slots:=sl}:=fun b hb o q=>by
   obtain ⟨sl1,e1⟩:=eg g3 k4 b hb o q
   have e2:h2.get? b=some {o with slots:=sl1}:=(sb.2 b fun y=>hCf (y▸hb)).trans e1
   obtain ⟨sl3,e3⟩:=eg fr2 up3 b hb _ e2
   exact ⟨sl3,e3⟩
  have h6: ∀b u,H' b=some u-> ∃o,(PySem.W.hideAll B [Cp]).get? b=some o:=fun b u q=>by
   obtain ⟨o,e⟩:=g6 b u q
   exact ⟨o,gF e fun y=>by rw [y,hfree] at q;cases q⟩
  have h7: ∀b o,X.s₀.heap.get? b=some o->b∉frs X.stack->b∉X.ex-> ∃o',(PySem.W.hideAll B [Cp]).get? b=some o':=fun b o q n hx=>by
   obtain ⟨o',e1⟩:=unA.there b o q hx
   obtain ⟨o2,e2⟩:=g7 b o' e1 n (hnf b o q hx)
   exact ⟨o2,gF e2 fun y=>absurd (Nat.lt_of_lt_of_le (Heap.lt_size (y▸e1)) hC) (Nat.lt_irrefl _)⟩
  obtain ⟨un3,hok3⟩:=fq unX hok (fun b o q=>g1 b o (fu q).1) h6 h7 x1 nf
  refine ⟨I2.ok,ea,H',rfl,(show s'.os=s2.os from os).trans I2.os,bare,un3,hok3,⟨_,a0,fl',x1,gE g2,x2,x3,fun b o q=> ?_,h6,h7⟩,?_,hL',z⟩
  ·refine gF (g5 b o q) fun y=> ?_
   have e1:=I2.bk b o q
   exact absurd (Nat.lt_of_lt_of_le (Heap.lt_size (y▸e1)) hC) (Nat.lt_irrefl _)
  ·obtain ⟨m0,hm0,_⟩:=I2.loc
   have hmem:X.env.locals∈frs X.stack:=by rw [hst];exact List.mem_filterMap.mpr ⟨X.env,List.mem_cons_self,hfm⟩
   refine ⟨m0,tf hm0 fun o q=> ?_⟩
   obtain ⟨sl,e1⟩:=un.slot _ o q I2.free hmem hLfp
   obtain ⟨sl',e2⟩:=nf _ hmem _ e1
   exact ⟨sl',e2⟩
 cases use<;>exact fin
noncomputable def tq (ρ:List (Option Nat)) (wi:TI) (g:TG) (te:TE) (tx:St->Hp->Prop):St->Hp->Prop:=fun σ H=>wi σ H fun J H1=> ∃W:Nat->Nat->List V->St->Hp->Prop,(∃m,W 0 m [] (pull ρ σ) H1)/\ ∀i m acc σc Hc,W i m acc σc Hc->
 J.go i Hc/\acc.length<sizeLine/\ ∃N:List V->St->Hp->Prop,(∀acc' σ' H',N acc' σ' H'-> ∃m',m'<m/\W (i+1) m' acc' σ' H')/\
  ∀x H',J.yld i Hc x H'->g x σc H' fun σ2 H2=>(te σ2 H2 fun v H4=>N (acc++[v]) σ2 H4) \/tx σ2 H2
section
variable {X:Cx}{scope:Scope}{N':List Str}{ρ:List (Option Nat)}{tg iter elt:Expr}{pos:Pos}{wi:TI}{g:TG}{te:TE}{tx:St->Hp->Prop}
theorem tu {use:Option (Value->Sem Unit)}{pins:List (Addr×Obj)}{s:Shared}{σ:St}{H:Hp}{QQ:Value->Shared->Prop}{Cl:Addr}{Z:Hp->Prop} (hX: ∀e s',Thrown X Cl Z e s'->X.xe e s') (hst:X.stack=X.env::X.outer) (hfm:X.env.frame=some X.env.locals)
  (hc:X.calm=true) (hi:PI X tg iter wi) (hg: ∀C s H fp,PG (ag X scope N' C s H fp) tg g) (he: ∀C s H fp,PE (ag X scope N' C s H fp) elt te)
  (hx: ∀C s H fp pins s' σ' H' QQ,Inv (ag X scope N' C s H fp) pins σ' H' s'->tx σ' H'->wpAny (model X.prog X.w) X.A (eval elt (ag X scope N' C s H fp).env) QQ (Thrown (ag X scope N' C s H fp) Cl Z) s')
  (ck:d4 scope X.env.scope X.N N' ρ) (hs: ∀x,foldedSetIterable iter X.env x=pure x) (I:Inv X pins σ H s) (h:tq ρ wi g te tx σ H):
  wpAny (model X.prog X.w) X.A (comprehension (.ListComp elt [⟨tg,iter,[],0⟩] scope pos) scope X.env (firstIterPos [⟨tg,iter,[],0⟩] pos) (newList []) false (eval iter X.env) use) QQ X.xe s:=by
 have hfr:=I.cells_of ck
 refine wpAny_comprehension_free rfl hs (iE hfr) ck.kind ck.loc ?_
 refine thn (hi pins s σ H _ I h) fun v s1 h1=>thn h1 fun itv s2 h2=> ?_
 obtain ⟨it,fp,tn,J,H2,e,I2,T,st2,f2,W,⟨m0,w0⟩,turn⟩:=h2
 subst e
 refine wpAny_newObj_type (iK fun h₁ hns₁ hsb₁ hcl₁ hap₁=> ?_)
 dsimp only at hns₁ hsb₁ hcl₁ hap₁|-
 generalize hH2:s2.heap.push {cls:= .type "list",dict:=none,data:= .seq ([]:List Value).toArray}=G2 at hns₁ hsb₁ hcl₁ hap₁|-
 have hCs:G2.objs.size=s2.heap.objs.size+1:=by rw [<-hH2,Heap.size_push]
 have hlC:s2.heap.objs.size≠G2.objs.size:=by rw [hCs];exact Nat.ne_of_lt (Nat.lt_succ_self _)
 have hC:s2.heap.objs.size<=G2.objs.size:=by rw [hCs];exact Nat.le_succ _
 have old: ∀b o,s2.heap.get? b=some o->h₁.get? b=some o:=fun b o e=>hsb₁ b o (hH2▸Heap.get?_push_of_some _ e)
 have hlo:h₁.get? s2.heap.objs.size=some {cls:= .type "list",data:= .seq ([]:List Value).toArray}:=hsb₁ _ _ (hH2▸Heap.get?_push_size _ rfl)
 have hfo: ∀b∈fp,∃o,s2.heap.get? b=some o:=fun b hb=>let ⟨o,e,_⟩:=T.obj _ _ st2 b hb;⟨o,e⟩
 have I3:Inv (ag X scope N' G2.objs.size s2 H2 fp) [(s2.heap.objs.size,{cls:= .type "list",data:= .seq ([]:List Value).toArray})] (pull ρ σ) H2 {s2 with heap:=h₁}:=
  I2.block (t':=s2.toks) ck f2 hfo old hC hns₁ hcl₁ hap₁ (Nat.le_refl _) hlC hlo (fun v z=>nomatch z)
 have st3:tn 0 h₁:=T.keep _ _ _ st2 fun b _ o e=>old b o e
 have fpok: ∀{Hc:Hp}{lo:Obj},(∀b∈fp,Hc b=none)-> ∀b∈fp,FpOk (ag X scope N' G2.objs.size s2 H2 fp) [(s2.heap.objs.size,lo)] Hc b:=fun {Hc lo} hn b hb=>by
  obtain ⟨o,ho⟩:=hfo b hb
  have ne: ∀{a:Addr},s2.heap.objs.size<=a->b≠a:=fun ha z=>by
   subst z
   exact absurd (Nat.lt_of_lt_of_le (Heap.lt_size ho) ha) (Nat.lt_irrefl _)
  refine ⟨hn b hb,ne hC,fM I2 f2 hb,.inl hb,fun x c e=>by
   rcases cf_look e with ⟨_,g,_⟩|e
   ·exact Ne.symm (ne (by lia))
   ·exact (f2 b hb).2.2.2.2.1 x c (bV hfr e),fun p hp=> ?_⟩
  have hp':p∈[(s2.heap.objs.size,lo)]:=hp
  rcases List.mem_cons.mp hp' with z|z
  ·subst z;exact Ne.symm (ne (Nat.le_refl _))
  ·exact nomatch z
 have loop: ∀s₃:Shared,s₃={s2 with heap:=h₁}->
   codeAny (model X.prog X.w) X.A (.compLoop (.ListComp elt [⟨tg,iter,[],0⟩] scope pos) 0 (.ref it) (.ref s2.heap.objs.size) (compEnvC scope (cellsFrom (G2.objs.size+1) scope.names (bp scope X.env)) G2.objs.size X.env))
    (compPost (model X.prog X.w) X.A X.xe use QQ (.ref s2.heap.objs.size) G2.objs.size) s₃:=by
  rintro s₃ rfl
  refine tj (fun n s'=> ∃i acc its k σc Hc,Inv (ag X scope N' G2.objs.size s2 H2 fp) [(s2.heap.objs.size,{cls:= .type "list",data:= .seq (its:List Value).toArray k})] σc Hc s'/\Vals acc its/\tn i s'.heap/\(∀b∈fp,Hc b=none)/\W i n acc σc Hc) (Thrown (ag X scope N' G2.objs.size s2 H2 fp) Cl Z) (fun e s' T=>tm hX hst hfm I2 f2 hC T) ?_ m0
   ⟨0,[],[],0,_,_,I3,.nil,st3,fun b hb=>(f2 b hb).1,w0⟩
  rintro n s4 ⟨i,acc,its,k,σ4,H4,I4,rv,st4,fr4,w4⟩
  obtain ⟨go,hz,N,hN,step⟩:=turn i n acc σ4 H4 w4
  ·refine thn (T.item (ag X scope N' G2.objs.size s2 H2 fp) rfl rfl rfl hc i _ s4 σ4 H4 X0 I4 (fpok fr4) st4 go) fun r s5 ⟨u,hr,h5⟩=> ?_
   subst hr
   refine thn h5 fun _ s6 ⟨x,H6,I6,r6,y6,st6,fr6⟩=> ?_
   have I6':=I6.pinned (fpok fr6) (T.obj _ _ st6)
   refine thn (hg G2.objs.size s2 H2 fp _ s6 σ4 H6 x u _ I6' r6 (step x H6 y6)) fun _ s7 ⟨σ7,H7,I7,q7⟩=> ?_
   have stay: ∀{σ9:St}{H9:Hp}{s9:Shared},Inv (ag X scope N' G2.objs.size s2 H2 fp) ([(s2.heap.objs.size,{cls:= .type "list",data:= .seq its.toArray k})]++cP fp s6.heap) σ9 H9 s9->tn (i+1) s9.heap/\ ∀b∈fp,H9 b=none:=fun {σ9 H9 s9} I9=>by
    refine ⟨T.keep _ _ _ st6 fun b hb o e=>(I9.pin (b,o) (List.mem_append_right _ (List.mem_append_right _ (cQ hb e)))).1,fun b hb=> ?_⟩
    obtain ⟨o,e,d⟩:=T.obj _ _ st6 b hb
    exact (I9.pin (b,o) (List.mem_append_right _ (List.mem_append_right _ (cQ hb e)))).2.1
   rcases q7 with q7|q7
   ·refine thn (fN (he G2.objs.size s2 H2 fp _ s7 σ7 H7 _ I7 q7)) fun y s9 ⟨v,H9,I9,r9,q9⟩=> ?_
    obtain ⟨m',hm,w9⟩:=hN _ _ _ q9
    obtain ⟨a1,a2⟩:=stay I9
    have J9:=I9.unpinned
    obtain ⟨p1,p2,p3,p4,p5⟩:=J9.pin (s2.heap.objs.size,{cls:= .type "list",data:= .seq its.toArray k}) (List.mem_append_right _ List.mem_cons_self)
    have p1:s9.heap.get? s2.heap.objs.size=some {cls:= .type "list",data:= .seq its.toArray k}:=p1
    have hlen:=rv.length
    refine iM p1 (by lia) fun h10 k' g10 sb10=>⟨m',hm,i+1,acc++[v],its++[y],k',σ7,H9,?_,Vals.append rv (.cons r9 .nil),?_,a2,w9⟩
    ·have nfp:s2.heap.objs.size∉fp:=fun z=>by
      obtain ⟨o,e⟩:=hfo _ z
      exact absurd (Heap.lt_size e) (Nat.lt_irrefl _)
     have J10:Inv (ag X scope N' G2.objs.size s2 H2 fp) [] σ7 H9 s9:=J9.pins_of fun p hp=>nomatch hp
     have ncell: ∀x c,(ag X scope N' G2.objs.size s2 H2 fp).env.cells.lookup x=some c->c≠s2.heap.objs.size:=fun x c e z=>by
      obtain ⟨v',o',ho',hd'⟩:=J10.cell x c e
      rw [z,p1] at ho'
      cases ho'
      cases hd'
     have J11:Inv (ag X scope N' G2.objs.size s2 H2 fp) [] σ7 H9 {s9 with heap:=h10}:=J10.turned (t':=s9.toks) (it:=s2.heap.objs.size) (fun b o hb e=>sb10 b o hb e) p2 p3 (.inr (Nat.le_refl _)) ncell (fun p hp=>nomatch hp)
     refine J11.pins_of fun p hp=> ?_
     rcases List.mem_cons.mp hp with z|z
     ·subst z
      exact ⟨g10,p2,p3,p4,fun v z=>nomatch z⟩
     ·exact nomatch z
    ·refine T.keep _ _ _ a1 fun b hb o e=>sb10 b o (fun z=> ?_) e
     subst z
     obtain ⟨o',e'⟩:=hfo _ hb
     exact absurd (Heap.lt_size e') (Nat.lt_irrefl _)
   ·exact hx G2.objs.size s2 H2 fp _ s7 σ7 H7 _ I7 q7
 exact codeAny_compStart_list (loop _ rfl) (T.self X.A 0 _ _ _ st3 (loop _ rfl))
end
end L2
set_option maxHeartbeats 4000000
namespace L2
open PySem PySem.Spec PyProof.Rows
variable {KF:PySem.W.Frag}{W W':Addr->Prop}
noncomputable def bQ (g:Dv->Dt->Option Dt) (el:EM) (rx:Dt->Bool) (δ:Dt):List Dv->Bool
 |[]=>false
 |d::r=>match g d δ with
  |none=>false
  |some δ1=>rx δ1||(match el δ1 with
   |some _=>bQ g el rx δ r
   |none=>false)
noncomputable def ej (ρ:List (Option Nat)) (it:Dt->Option (List Dv)) (g:Dv->Dt->Option Dt) (el:EM) (rx:Dt->Bool):Dt->Bool:=fun δ=>match it δ with
 |some ds=>bQ g el rx (aD ρ δ) ds
 |none=>false
theorem tw {X:Cx}{C:Addr}{Z:Hp->Prop}{E:Value->Shared->Prop}{e:Value}{s':Shared} (T:Thrown (X.wish E) C Z e s'):Thrown X C Z e s':=⟨T.1.unwish,T.2⟩
noncomputable def txM (KF:PySem.W.Frag) (ms:List Nat) (Z:Hp->Prop) (rx:Dt->Bool) (σ:St) (H:Hp):Prop:= ∃(W:Addr->Prop) (H0:Hp) (δ:Dt),Rel KF ms W H0 δ σ H/\rx δ=true/\ ∀H',Same H0 H'->Z H'
section
variable {ms ms':List Nat}{ρ:List (Option Nat)}{k:Kd}{wi:TI}{it:Dt->Option (List Dv)}{g:Dv->Dt->Option Dt}{el:EM}{rx:Dt->Bool}{z:List Nat}{Z:Hp->Prop}
variable {X:Cx}{scope:Scope}{tg iter elt:Expr}{pos:Pos}{Cl:Addr}
theorem tD (N':List Str) (ρ:List (Option Nat)) (ms':List Nat) (hX: ∀e s',Thrown X Cl Z e s'->X.xe e s') (hst:X.stack=X.env::X.outer) (hfm:X.env.frame=some X.env.locals) (hc:X.calm=true) (hi:PDi X ms false tg iter it)
  (hg: ∀C s H fp,PDg (ag X scope N' C s H fp) ms' tg g) (he: ∀C s H fp,PD (ag X scope N' C s H fp) ms' k elt el)
  (hx: ∀C s H fp,PRe ((ag X scope N' C s H fp).wish (Thrown (ag X scope N' C s H fp) Cl Z)) ms' Z elt rx) (hz:GExt z g)
  (ck:cz scope X.env.scope X.N N' ρ=true) (hp:d5 ρ ms ms'=true) (hz':z.all (fun i=>decide (ρ[i]?=some none))=true) (hs: ∀x,foldedSetIterable iter X.env x=pure x:=by intro _;rfl):
  PRe X ms Z (.ListComp elt [⟨tg,iter,[],0⟩] scope pos) (ej ρ it g el rx):=fun W pins s δ σ H0 H QQ I R hm hq=>by
 obtain ⟨wi,pi,qi⟩:=hi
 rw [eval_ListComp]
 unfold ej at hm
 split at hm
 case h_2=>cases hm
 case h_1 ds hds=>
 refine tu (g:=tgM X.K ms' g) (te:=tM X.K ms' k el) (tx:=txM X.K ms' Z rx) hX hst hfm hc pi (fun C s H fp=>(hg C s H fp).pg) (fun C s H fp=>(he C s H fp).pe) (fun C s H fp pins' s' σ' H' QQ' I' ⟨W1,H1,δ1,R1,e1,z1⟩=>hx C s H fp W1 pins' s' δ1 σ' H1 H' QQ' (I'.wish _) R1 e1 z1) (fL ck) hs I ?_
 refine qi δ σ H0 H _ ds R hds fun J H1 s1 ok=> ?_
 have R1:=(R.same s1).pull (gc hp)
 obtain ⟨hlim,ok⟩:=ok
 have notz: ∀{i:Nat}{x:Dv},(aD ρ δ)[i]?=some (some x)->i∉z:=fun {i x} e hzi=>by
  obtain ⟨j,er,_⟩:=e5 e
  have:=of_decide_eq_true (List.all_eq_true.mp hz' i hzi)
  rw [er] at this;cases this
 refine ⟨fun i n acc σc Hc=>n=ds.length-i/\Same H1 Hc/\Rel X.K ms' W H0 (aD ρ δ) σc Hc/\bb ms' (pull ρ σ) σc/\acc.length<=i/\bQ g el rx (aD ρ δ) (ds.drop i)=true,⟨ds.length,by simp,Same.refl _,R1,.refl,Nat.le_refl _,by simpa using hm⟩,?_⟩
 rintro i n acc σc Hc ⟨rfl,sc,Rc,so,hl,hr⟩
 obtain ⟨go,yl,st⟩:=ok Hc (.inl sc)
 have hlt:i<ds.length:=by
  by_cases h:i<ds.length
  ·exact h
  ·rw [List.drop_eq_nil_of_le (by lia),bQ] at hr
   cases hr
 refine ⟨go i hlt,?_,fun acc' σ' H'=>Same H1 H'/\Rel X.K ms' W H0 (aD ρ δ) σ' H'/\bb ms' (pull ρ σ) σ'/\acc'.length<=i+1/\bQ g el rx (aD ρ δ) (ds.drop (i+1))=true,
  fun acc' σ' H' ⟨a1,a2,a3,a4,a5⟩=>⟨ds.length-(i+1),by lia,rfl,a1,a2,a3,a4,a5⟩,fun x H' y=> ?_⟩
 ·have:=cB hlim;lia
 ·obtain ⟨rfl,d,hd,rx'⟩:=yl i x H' hlt y
  have hdrop:ds.drop i=d::ds.drop (i+1):=by
   rw [List.drop_eq_getElem_cons hlt]
   congr 1
   rw [List.getElem?_eq_getElem hlt] at hd
   exact Option.some.inj hd
  rw [hdrop,bQ] at hr
  split at hr
  ·cases hr
  ·rename_i δ1 h1
   obtain ⟨l1,f1⟩:=hz d _ δ1 h1
   refine ⟨W,H0,aD ρ δ,d,δ1,Rc,rx'.mono fun a _ n z=>n.1 z,h1,fun σ1 R1' so1=> ?_⟩
   rcases Bool.or_eq_true_iff.mp hr with hr|hr
   ·exact .inr ⟨W,H0,δ1,R1',hr,hq⟩
   ·split at hr
    ·rename_i y' hy
     refine .inl ⟨W,H0,δ1,y',R1',hy,fun v H3 s3 g3=> ?_⟩
     refine ⟨sc.tr s3,(R1'.same s3).forget l1.symm (fun j x e=> ?_),so.tr so1,by rw [List.length_append];exact Nat.add_le_add_right hl 1,hr⟩
     rw [f1 j (notz e)];exact e
    ·cases hr
end
end L2
set_option maxHeartbeats 4000000
namespace L2
open PySem PySem.Spec PyProof.Rows PySem.W PySem.Calls
open PySem.Builtin.ObjectAttr PySem.Builtin.Getset_descriptor
section
variable {prog:Program}{w:World}{A:Around}{E:Value->Shared->Prop}{s:Shared}{K:Frag}{x D:Addr}{ox:Obj}
structure ExcK (K:Frag) (D:Addr):Prop where
 cs:(clsIn K D).isSome=true
 ga:findIn K (.ref D) "__getattribute__"=some (some (.builtin "BaseException.__getattribute__"))
 gt:findIn K (.ref D) "__getattr__"=some none
 fc:findIn K (.ref D) "__class__"=some (some (.builtin "object.__class__"))
 gs:specialIn K (.builtin "object.__class__") "__get__"=some (some (.builtin "getset_descriptor.__get__"))
 tk:takesIn K (.builtin "object.__class__")=some true
 sb:subIn K (.ref D) (.type "BaseException")=some true
 mo:mroIn K D (.type "object")=some true
noncomputable def cm (x D:Addr) (h:Heap):Prop:= ∃o,h.get? x=some o/\o.cls= .ref D
theorem cm.type {M:Model}{h:Heap} (I:cm x D h):Looks M h (typeOf (.ref x)) (.ref D):=by
 obtain ⟨o,h1,h2⟩:=I
 exact h2▸(Looks.ld h1).andThen .now
theorem tE {M:Model}{h:Heap} (X:K.In h) (Z:ExcK K D):Looks M h (find (.ref x) (.ref D) "__class__") (.bind (.builtin "getset_descriptor.__get__") (.builtin "object.__class__")):=by
 have L1:=looks_findIn (M:=M) X Z.fc
 have L2:Looks M h (getOf (some (.builtin "object.__class__"))) (some (.builtin "getset_descriptor.__get__")):=looks_specialIn X Z.gs
 have L3:=looks_takesIn (M:=M) X Z.tk
 exact L1.andThen (L2.andThen ((show Looks M h (dataDescriptor? (some (.builtin "object.__class__")) (some (.builtin "getset_descriptor.__get__"))) (some (.builtin "getset_descriptor.__get__",.builtin "object.__class__")) from L3.andThen .now).andThen (Looks.tag .now)))
theorem tF {tp:Value}{R:Result->Shared->Prop} (X:K.In s.heap) (I:cm x D s.heap) (hm:mroIn K D (.type "object")=some true)
  (h:R (.ok (.ret (.ref D))) s):codeAny (model prog w) A (.call (.builtin "getset_descriptor.__get__") ⟨[.builtin "object.__class__",.ref x,tp],[]⟩) R s:=by
 obtain ⟨hh,g,dr,t,os⟩:=s
 have L0:=I.type (M:=model prog w)
 have L1:=looks_mroIn (M:=model prog w) X hm
 refine codeAny_call_builtin KF.slot_gs.plain KF.entry_gs (KF.slot_gs.check _ _ _ _ _ _ _ _ KF.type_class (KF.args_gs _ _ _) ?_)
 unfold Builtin.«getset_descriptor.__get__» descrGet
 rw [dga_obj]
 refine wpAny_bind (wpAny_pure ?_)
 unfold descrGetter descrCheckInstance descrNameAndClass isInstance
 simp only [KF.owner_class]
 repeat lk
 refine ⟨Code.quiet_builtin _ (by decide+kernel),codeAny_builtin KF.entry_class ?_⟩
 unfold Builtin.«object.__class__» shownTypeOf
 repeat lk
 exact h
theorem tG {M:Model}{nameV:Value}{Q:Unit->Shared->Prop} (X:K.In s.heap) (I:cm x D s.heap) (Z:ExcK K D) (hq:Q () s):wpAny M A (checkBuiltinCall "BaseException.__getattribute__" ⟨[.ref x,nameV],[]⟩) Q E s:=by
 obtain ⟨hh,g,d,t,os⟩:=s
 have hk:builtinKind "BaseException.__getattribute__"=some .slot:=by decide+kernel
 have hsplit:splitId "BaseException.__getattribute__"=some ("BaseException","__getattribute__"):=by decide+kernel
 have ha:=F.args_bexc_ga (.ref x) nameV
 have L0:=I.type (M:=M)
 have L4:=looks_subIn (M:=M) X Z.sb
 simp only [checkBuiltinCall,hk,hsplit]
 refine wpAny_bind ?_
 unfold isInstance
 refine wpAny_bind (L0.at (L4.at ?_))
 repeat (first|wp_step)
 exact hq
theorem tH {tk:Tok}{R:Result->Shared->Prop} (X:K.In s.heap) (I:cm x D s.heap) (Z:ExcK K D) (h:R (.ok (.ret (.ref D))) s):
  codeAny (model prog w) A (.call (.builtin "BaseException.__getattribute__") ⟨[.ref x,.str "__class__" tk],[]⟩) R s:=by
 refine codeAny_call_builtin F.excAttr_ValueError.ga.plain F.entry_bexc_ga (tG X I Z ?_)
 obtain ⟨hh,g,d,t,os⟩:=s
 have L0:=I.type (M:=model prog w)
 have L3:=tE (x:=x) (M:=model prog w) X Z
 unfold Builtin.«object.__getattribute__»
 refine wpAny_bind (wpAny_pure (wpAny_bind (wpAny_pure (wpAny_bind (L0.at (wpAny_bind (L3.at ?_)))))))
 show wpAny _ _ (holding [.builtin "object.__class__"] (call (.builtin "getset_descriptor.__get__") [.builtin "object.__class__",.ref x,.ref D])>>=ret) _ _ _
 refine wpAny_bind (wpAny_holding (wpAny_call (tF (s:=⟨hh,g,d,t,os⟩) X I Z.mo ?_)))
 exact wpAny_pure h
theorem tI {Q:Option Value->Shared->Prop} (X:K.In s.heap) (I:cm x D s.heap) (Z:ExcK K D) (h:Q (some (.ref D)) {s with toks:=s.toks+1}):wpAny (model prog w) A (getAttr? (.ref x) "__class__") Q E s:=by
 obtain ⟨hh,g,d,t,os⟩:=s
 have L0:=I.type (M:=model prog w)
 have L1:=looks_findIn (M:=model prog w) X Z.ga
 have L2:=looks_findIn (M:=model prog w) X Z.gt
 unfold getAttr? getAttrBy? getAttrBy
 refine wpAny_bind (wpAny_mkText (wpAny_bind (wpAny_attempt (wpAny_holding (wpAny_bind (L0.at (wpAny_bind (L1.at ?_))))))))
 have hx2:(Value.builtin "BaseException.__getattribute__"==Value.builtin "object.__getattribute__")=false:=by decide+kernel
 dsimp only
 rw [hx2,Bool.and_false,if_neg (by decide)]
 unfold getAttrByItsOwn hookBefore
 rw [if_pos (show onTheHeap (Value.ref D)=true from rfl)]
 refine wpAny_bind (L2.at (wpAny_bind (wpAny_attempt (wpAny_holding ?_))))
 unfold callGetattribute boundAndCalled
 rw [if_neg (by decide)]
 rw [F.excAttr_ValueError.ga.bind (.ref x)]
 refine wpAny_bind (wpAny_pure (wpAny_call (tH (s:=⟨hh,g,d,t+1,os⟩) X I Z ?_)))
 exact handed_on rfl (wpAny_pure h)
theorem kb (Z:ExcK K D):KitX K (.ref x) (.ref D) (cm x D) where
 ty:=fun _ _ _ I=>I.type
 it:=fun _ _ X _=>by
  obtain ⟨cdD,hcD⟩:=Option.isSome_iff_exists.mp Z.cs
  unfold clsIn at hcD
  split at hcD
  ·rename_i c' d' cd' sl' ho
   intro A' Q' E' s' k q
   unfold isType loadHead
   exact wpAny_bind (wpAny_loadPart (k _ _ (X _ _ ho)) (wpAny_pure q))
  ·cases hcD
 ne:=fun h tp dd its n sl X htp=>by
  obtain ⟨cdD,hcD⟩:=Option.isSome_iff_exists.mp Z.cs
  refine Bool.eq_false_iff.mpr fun q=> ?_
  have e:D=tp:=Value.ref.inj (beq_iff_eq.mp q)
  subst e
  unfold clsIn at hcD
  split at hcD
  ·rename_i c' d' cd' sl' ho
   have z:=(X _ _ ho).symm.trans htp
   cases z
  ·cases hcD
 ca:=fun X I k=>tI X I Z k
end
end L2
set_option maxHeartbeats 4000000
namespace L2
open PySem PySem.Spec PyProof.Rows
section
variable {X:Cx}{pins:List (Addr×Obj)}{σ:St}{H:Hp}{s:Shared}
theorem tJ {M:Model}{A:Around}{E:Value->Shared->Prop}{j:Nat}{n:Str}{pos:Pos}{Q:Unit->Shared->Prop} (I:Inv X pins σ H s) (hN:X.N.Nodup) (hj:X.N[j]?=some n) (hk:X.env.scope.names.lookup n=some .local)
  (h: ∀s',Inv X pins (σ.set j none) H s'->Q () s'):wpAny M A (do bindName X.env n .none;unbindBehindTheSuite X.env n pos) Q E s:=by
 obtain ⟨m,hn,hl⟩:=id I.loc
 have hcls:(X.env.scope.kind== .class||(X.env.scope.kind== .module&&X.env.locals !=X.env.globals))=false:=by rw [I.ok.kind];rfl
 have cne:=I.cne
 refine wpAny_nameGoes_keeps hk hn hcls fun h' v hn' hs=> ?_
 obtain ⟨oL,_,_,hoL,_⟩:=id hn
 refine h _ ⟨I.ok,I.os,I.bare,⟨fun b o e n hb hx=> ?_,fun b o e n hb hx=> ?_,I.base.free,fun b o e hx=> ?_,I.base.tups,I.base.frzs,I.base.tbls⟩,⟨_,hn',fun j' y v' e1 e2 e3=> ?_⟩,fun y c e=> ?_,I.free,I.freeC,fun p hp=> ?_,fun b ob e=> ?_,by simpa using I.len⟩
 ·exact (hs.2 b (Nat.ne_of_lt (Nat.lt_of_lt_of_le (Heap.lt_size e) I.ok.above))).trans (I.base.keep b o e n hb hx)
 ·obtain ⟨sl,e1⟩:=I.base.slot b o e n hb hx
  exact ⟨sl,(hs.2 b (Nat.ne_of_lt (Nat.lt_of_lt_of_le (Heap.lt_size e) I.ok.above))).trans e1⟩
 ·obtain ⟨o',e1⟩:=I.base.there b o e hx
  exact ⟨o',(hs.2 b (Nat.ne_of_lt (Nat.lt_of_lt_of_le (Heap.lt_size e) I.ok.above))).trans e1⟩
 ·by_cases hj':j'=j
  ·subst hj'
   rw [List.getElem?_set] at e2
   simp at e2
  ·rw [List.getElem?_set_ne (Ne.symm hj')] at e2
   obtain ⟨u',r',q⟩:=hl j' y v' e1 e2 e3
   refine ⟨u',r',?_⟩
   rcases q with ⟨k,e⟩|⟨k,c,e,z⟩
   ·refine .inl ⟨k,?_⟩
    have:y≠n:=fun e=>hj' (fz hN e1 (e▸hj))
    simp [this,e]
   ·exact .inr ⟨k,c,e,z.sameBut hs (cne y c e)⟩
 ·obtain ⟨w',z⟩:=I.cell y c e
  exact ⟨w',z.sameBut hs (cne y c e)⟩
 ·obtain ⟨e,n,ne,nf,d⟩:=I.pin p hp
  exact ⟨(hs.2 p.1 ne).trans e,n,ne,nf,d⟩
 ·refine (I.hok b ob e).stay (fun c w' hc q=>(hs.2 c ?_).trans q) (fun _ q=>q) fun _ _ q=>q
  rintro rfl
  have hfree:=I.free
  rcases hc with rfl|hc
  ·rw [hfree] at e;cases e
  ·rw [hfree] at hc;cases hc
noncomputable abbrev Cx.held (X:Cx) (e:Value):Cx:={X with A:=X.A.mark (some e),calm:=false,xe:=fun _ _=>False}
theorem Inv.held (I:Inv X pins σ H s) (e:Value):Inv (X.held e) pins σ H s:=by
 have ok:=I.ok
 exact ⟨⟨ok.mod,ok.kind,ok.glob,ok.blt,ok.above,ok.inj,ok.has,ok.cab,(fun z=>nomatch z),ok.frames,ok.stk,ok.exf,ok.bs,ok.bsz,ok.noex,ok.exfs,ok.funs,ok.frf⟩,I.os,I.bare,I.base,I.loc,I.cell,I.free,I.freeC,I.pin,I.hok,I.len⟩
theorem Inv.unheld {e:Value} (ok:X.Ok) (I:Inv (X.held e) pins σ H s):Inv X pins σ H s:=⟨ok,I.os,I.bare,I.base,I.loc,I.cell,I.free,I.freeC,I.pin,I.hok,I.len⟩
end
section
variable {X:Cx}{k i j:Nat}{f Cl Cx':Addr}{fd:FuncData}{ps:List Str}{sp:Sp}{fx cx n y:Str}{p np yp np2 ap hpos tpos cpos epos:Pos}{a:Expr}{es:List Expr}{t:TA}{Z:Hp->Prop}
theorem tK (F:FnOk X.prog X.w X.K X.mg X.base (CXe X.prog X.w X.base Cl) k f fd ps sp) (hr:Room k X.A) (hg:Gl X fx) (hm:X.mg fx=some (.ref f)) (hk:PySem.W.keepIn X.K (.ref f)=true) (hb:bx X.K fd ps [])
  (hx0: ∀e s,X.xe e s->False) (hst:X.stack=X.env::X.outer) (hfm:X.env.frame=some X.env.locals) (ha:PA X (a::es) t)
  (hgc:Gl X cx) (hmc:X.mg cx=some (.ref Cx')) (hex:PySem.W.exmOne X.K (.ref Cl) (.ref Cx')=some true) (hN:X.N.Nodup) (hi:X.N[i]?=some y) (hj:X.N[j]?=some n) (hly:X.env.scope.names.lookup y=some .local) (hln:X.env.scope.names.lookup n=some .local)
  (hdb:(fx==("__debug__":Str))=false) (hdc:(cx==("__debug__":Str))=false) (hdn:(n==("__debug__":Str))=false) (hcn:(n==("__classdict__":Str))=false)
  (he:starEach (a::es) X.env=(false,eval a X.env)::starEach es X.env) (hpl:(backTo cpos (starEach es X.env)).any (·.1)=false)
  (hsw:swapsWith (.Call (.Name fx p) (a::es) [] cpos) none epos.line X.env=pure false) (hsy:swapsWith (.Name n np2) (some (.Name y yp)) ap.line X.env=pure false)
  {pins:List (Addr×Obj)}{s:Shared}{σ:St}{H:Hp}{QQ:Flow->Shared->Prop} (I:Inv X pins σ H s) (h:t σ H fun vs H1=>sp vs H1 (fun _ _=>False) fun _ _ H'=>Z H')
  (post: ∀ea oe H' s',oe.cls= .ref Cl->Inv X pins (((σ.set j (some (.ref ea))).set i (some (.ref ea))).set j none) (upd H' ea (.frz oe (.own 0))) s'->H' ea=none->Z H'->QQ .next s'):
  wpAny (model X.prog X.w) X.A (exec (.Try [.Expr (.Call (.Name fx p) (a::es) [] cpos) epos] [.ExceptHandler (some (.Name cx np)) (some n) [.Assign [.Name y yp] (.Name n np2) ap] hpos] [] [] tpos) X.env) QQ X.xe s:=by
 have l0: ∀{α:Type}{m:Sem α}{Q:α->Shared->Prop}{E:Value->Shared->Prop}{s:Shared},wpAny (model X.prog X.w) X.A m Q X.xe s->wpAny (model X.prog X.w) X.A m Q E s:=fun h=>wpAny_mono h (fun _ _ q=>q) fun e s z=>(hx0 e s z).elim
 refine wpAny_Try_except (wpAny_execs_cons (wpAny_Expr_any ?_ I.quiet hsw))
 refine wpAny_Call_Name_kw (dX I hg hm ?_ hdb)
 refine PySem.W.callWith_K (h₀:=X.base) I.ok.mod.kin hk (l0 (thn (ha cpos pins s σ H _ I h) fun us s1 ⟨vs,H1,I1,r,q⟩=> ?_)) he hpl
 refine ⟨I1.kIn,?_⟩
 have hl:us.length=ps.length:=by rw [<-r.length];exact F.len _ _ _ _ q
 refine wpAny_call (codeAny_mono (F.run X.A X.stack s1 H1 ⟨us,[]⟩ us vs _ _ hr I1.env0 (by have:=hb s1 us I1.kIn (by simpa using hl);rwa [List.append_nil] at this) r q) fun rr s2 hq=> ?_)
 cases rr with
 |ok fl=>
  cases fl with
  |ret u=>obtain ⟨v,H',_,_,_,_,_,z⟩:=hq;exact z.elim
  |next=>exact False.elim hq
  |brk=>exact False.elim hq
  |cont=>exact False.elim hq
 |error e=>
  obtain ⟨ea,H',he',os,bare,un,hok,⟨B,a0,fl,g1,g2,g3,g4,g5,g6,g7⟩,z⟩:=hq
  subst he'
  refine gx (hst▸I1.ok.frames) (hst▸g3) hfm g4 g1 g2 fun h1 ⟨k1,k2,k3,k4⟩=> ?_
  rw [<-hst] at k2
  refine gy (s:={s2 with heap:=h1}) k1 k2 k3 fun h2 fl2 x1 x2 x3 up2=> ?_
  refine wpAny_handleBy_cons (codeAny_handlers_test ?_) (by intro q;cases q)
  have bk2: ∀b o,X.base.get? b=some o->h2.get? b=some o:=fun b o q=>x1 b o (g5 b o q)
  refine Calls.Name_function_global I1.ok.kind hgc (Calls.loadGlobal_global (by rw [I1.ok.glob];exact I1.mod.glob.keeps bk2) hmc ?_) hdc
  have hx2:cm ea Cl h2:=by
   obtain ⟨oe,_,_,_,_,q1,q2,_⟩:=x3
   exact ⟨oe,q1,q2.1⟩
  refine PySem.W.exm_one (I1.ok.mod.kin.keeps bk2) hx2.type hex _ _ _ _ (fun b o q=>q) ?_
  refine codeAny_handlers_suite_as ?_
  refine gy (s:={s2 with heap:=h2}) x1 x2 x3 fun h3 fl3 y1 y2 y3 up3=> ?_
  have nf:=eg g3 (Heap.UpToSlots.trans (Heap.UpToSlots.trans k4 up2) up3)
  obtain ⟨un3,hok3⟩:=fq un hok g1 g6 g7 y1 nf
  obtain ⟨oe,vs',T,oT,ts,ce,⟨ccls,_⟩,cd',_⟩:=y3
  have hea:H' ea=none:=by
   cases q:H' ea with
   |none=>rfl
   |some u=>
    obtain ⟨o,e⟩:=g6 ea u q
    rw [g2] at e
    cases e
  have hsea:s1.heap.get? ea=none:=by
   cases q:s1.heap.get? ea with
   |none=>rfl
   |some o=>
    by_cases hfr:ea∈frs X.stack
    ·obtain ⟨_,o1,e1,e2⟩:=y2.mem hfr
     rw [ce] at e1
     cases e1
     exact absurd cd' (e2 _)
    ·obtain ⟨o',e⟩:=g7 ea o q hfr (by simp)
     rw [g2] at e
     cases e
  have ne1: ∀{b:Addr}{o:Obj},s1.heap.get? b=some o->b≠ea:=fun e y=>by rw [y,hsea] at e;cases e
  have ne2: ∀{b:Addr}{u:HO},H' b=some u->b≠ea:=fun e y=>by rw [y,hea] at e;cases e
  have un4:Un (frs X.stack) [] H1 (upd H' ea (.frz oe (.own 0))) s1.heap h3:=
   ⟨un3.keep,un3.slot,fun b o q n hx=>by rw [al (ne1 q)];exact un3.free b o q n hx,un3.there,fun b xs q=>by rw [al (ne2 (un3.tups b xs q))];exact un3.tups b xs q,fun b o u q=>by rw [al (ne2 (un3.frzs b o u q))];exact un3.frzs b o u q,fun b ps q=>by rw [al (ne2 (un3.tbls b ps q))];exact un3.tbls b ps q⟩
  have hok4:HOk X.prog X.w (upd H' ea (.frz oe (.own 0))) h3:=fun b u q=>by
   by_cases hb':b=ea
   ·subst hb'
    rw [ax] at q
    cases q
    exact ⟨ce,oe,ce⟩
   ·rw [al hb'] at q
    exact (hok3 b u q).stay (fun _ _ _ q=>q) (fun c q=>by rw [al (ne2 q)];exact q) (fun c xs q=>by rw [al (ne2 q)];exact q) fun c _ _ _ q=>by rw [al (ne2 q)];exact q
  have I4:Inv X pins σ (upd H' ea (.frz oe (.own 0))) {s2 with heap:=h3}:=I1.call' (s':={s2 with heap:=h3}) os un4 hok4 bare (fun b z=>absurd z (by simp))
  refine fA I4 hN hj (.inl hln) (v:= .ref ea) rfl (fun s4 I5=> ?_) (.inr hln)
  have hps:=eH (X:=X.held (.ref ea)) (pos:=ap) (pos':=yp) hN hi (.inl hly) (gR (X:=X.held (.ref ea)) (pos:=np2) hj (.inl hln) hdn hcn) hsy (.inr hly)
  have hjl:j<σ.length:=by rw [I4.len];exact (List.getElem?_eq_some_iff.mp hj).1
  refine wpAny_execs_cons (wpAny_mono (hps pins s4 _ _ {nx:=fun σ' H''=>σ'=((σ.set j (some (.ref ea))).set i (some (.ref ea)))/\H''=upd H' ea (.frz oe (.own 0)),rt:=fun _ _=>False} (I5.held _) ?_) (fun fl s5 q=> ?_) fun _ _ z=>z.elim)
  ·exact ⟨.ref ea,List.getElem?_set_self hjl,rfl,rfl⟩
  ·cases fl with
   |next=>
    obtain ⟨σ',H'',I6,e1,e2⟩:=q
    subst e1 e2
    refine wpAny_execs_nil ?_
    exact tJ (I6.unheld I.ok) hN hj hln fun s6 I7=>post ea oe H' s6 ccls I7 hea z
   |ret v=>obtain ⟨_,_,_,_,_,z⟩:=q;exact z.elim
   |brk=>obtain ⟨_,_,_,z⟩:=q;exact z.elim
   |cont=>obtain ⟨_,_,_,z⟩:=q;exact z.elim
end
end L2
set_option maxHeartbeats 4000000
namespace L2
open PySem PySem.Spec PyProof.Rows
section
variable {X:Cx}{Cl:Addr}
noncomputable def gG (K:PySem.W.Frag) (Cl:Addr) (xs:List V) (H:Hp) (Q:VK):Prop:= ∃ea oe c cv b,xs=[.ref ea,c]/\H ea=some (.frz oe (.own 0))/\oe.cls= .ref Cl/\(∀u,RelV c u->u=cv)/\PySem.W.kitOne K (.ref Cl) cv=some b/\Q (.bl b) H
theorem kc (Z:ExcK X.K Cl):ba X (.builtin "isinstance") (gG X.K Cl):=by
 intro pins s σ H xs us Q I r h
 obtain ⟨ea,oe,c,cv,b,rfl,e1,e2,e3,e4,q⟩:=h
 cases r with
 |cons r1 r=>
  cases r with
  |cons r2 r=>
   cases r
   cases r1
   have hc:=e3 _ r2
   subst hc
   have ho:s.heap.get? ea=some oe:=(show au X.prog X.w H s.heap ea (.frz oe (.own 0)) from I.hok ea _ e1).1
   exact PySem.W.kia_one (kb Z) I.kIn ⟨oe,ho,e2⟩ e4 (fun z=>nomatch z) fun tk=>⟨.bl b,H,I.tok tk,rfl,q⟩
theorem kf: ∀{cs:List Addr}{us:List Value},Vals (cs.map V.ref) us->us=cs.map Value.ref
 |[],us,r=>by cases r;rfl
 |c::cs,us,r=>by
  cases r with
  |cons r1 r=>
   cases r1
   rw [kf r]
   rfl
noncomputable def kg (K:PySem.W.Frag) (Cl:Addr) (xs:List V) (H:Hp) (Q:VK):Prop:= ∃(ea:Addr) (oe:Obj) (tp:Addr) (cs:List Addr) (b:Bool),xs=[.ref ea,.ref tp]/\H ea=some (.frz oe (.own 0))/\oe.cls= .ref Cl/\H tp=some (.tup (cs.map V.ref))/\PySem.W.kitAny K (.ref Cl) (cs.map Value.ref)=some b/\Q (.bl b) H
theorem tL (Z:ExcK X.K Cl):ba X (.builtin "isinstance") (kg X.K Cl):=by
 intro pins s σ H xs us Q I r h
 obtain ⟨ea,oe,tp,cs,b,rfl,e1,e2,e3,e4,q⟩:=h
 cases r with
 |cons r1 r=>
  cases r with
  |cons r2 r=>
   cases r
   cases r1
   cases r2
   have ho:s.heap.get? ea=some oe:=(show au X.prog X.w H s.heap ea (.frz oe (.own 0)) from I.hok ea _ e1).1
   obtain ⟨_,its,rv,o,t1,t2,⟨n,t3⟩,t4⟩:=(show au X.prog X.w H s.heap tp (.tup (cs.map V.ref)) from I.hok tp _ e3)
   obtain ⟨oc,od,ot,os⟩:=o
   cases t2
   cases t3
   have hi:=kf rv
   subst hi
   exact PySem.W.kia_tup (kb Z) I.kIn ⟨oe,ho,e2⟩ t1 e4 (fun z=>nomatch z) fun tk=>⟨.bl b,H,I.tok tk,rfl,q⟩
end
section
variable {X:Cx}{ms:List Nat}{k i j:Nat}{Cl Cx':Addr}{ps:List Str}{mx:List Dv->Bool}{fx cx n y:Str}{p np yp np2 ap hpos tpos cpos epos:Pos}{a:Expr}{es:List Expr}{k1:Kd}{ml:Dt->Option (List Dv)}{rest:List Stmt}{tr:TS}
noncomputable def sTry (r:Dt->Bool):SM:=fun δ=>if r δ=true then some (.rt (.bl true) δ) else none
theorem kh (D:DefX X.prog X.w X.K X.mg X.base Cl k fx ps (spX X.K Cl mx)) (hr:Room k X.A) (hx0: ∀e s,X.xe e s->False) (hst:X.stack=X.env::X.outer) (hfm:X.env.frame=some X.env.locals) (ha:PDa X ms k1 (a::es) ml)
  (hmc:X.mg cx=some (.ref Cx')) (hex:PySem.W.exmOne X.K (.ref Cl) (.ref Cx')=some true) (hN:X.N.Nodup) (i j:Nat) (hij:i≠j) (hi:X.N[i]?=some y) (hj:X.N[j]?=some n) (hly:X.env.scope.names.lookup y=some .local) (hln:X.env.scope.names.lookup n=some .local)
  (hrest:PSs X rest tr) (hsem: ∀(D:Ends) (σ:St) (H:Hp) (ea:Addr) (oe:Obj),oe.cls= .ref Cl->σ[i]?=some (some (.ref ea))->σ.length=X.N.length->H ea=some (.frz oe (.own 0))->(∀H',Same H H'->D.rt (.bl true) H')->tr D σ H)
  (hg:Gl X fx:=by rfl) (hgc:Gl X cx:=by rfl)
  (hdb:(fx==("__debug__":Str))=false:=by decide) (hdc:(cx==("__debug__":Str))=false:=by decide) (hdn:(n==("__debug__":Str))=false:=by decide) (hcn:(n==("__classdict__":Str))=false:=by decide)
  (he:starEach (a::es) X.env=(false,eval a X.env)::starEach es X.env:=by rfl) (hpl:(backTo cpos (starEach es X.env)).any (·.1)=false:=by rfl)
  (hsw:swapsWith (.Call (.Name fx p) (a::es) [] cpos) none epos.line X.env=pure false:=by rfl) (hsy:swapsWith (.Name n np2) (some (.Name y yp)) ap.line X.env=pure false:=by rfl):
  PDss X ms .imm (.Try [.Expr (.Call (.Name fx p) (a::es) [] cpos) epos] [.ExceptHandler (some (.Name cx np)) (some n) [.Assign [.Name y yp] (.Name n np2) ap] hpos] [] [] tpos::rest) (sTry (aQ mx ml)):=by
 obtain ⟨f,fd,F,hf,hk,hb⟩:=D
 obtain ⟨ta,pa,qa⟩:=ha
 refine ⟨fun D σ H=> ∃(W:Addr->Prop) (H0:Hp) (δ:Dt),Rel X.K ms W H0 δ σ H/\aQ mx ml δ=true/\ ∀H',Same H H'->D.rt (.bl true) H',fun pins s σ H D I ⟨W,H0,δ,R,hm,hD⟩=> ?_,fun δ σ H0 H D r R hm hq=> ?_⟩
 ·unfold aQ at hm
  split at hm
  case h_2=>cases hm
  case h_1 xs e1=>
  refine wpAny_execs_cons (tK (Z:=fun H'=>Same H H') F hr hg hf hk hb hx0 hst hfm pa hgc hmc hex hN hi hj hly hln hdb hdc hdn hcn he hpl hsw hsy I ?_ fun ea oe H' s' hcl I' hea hz=> ?_)
  ·refine qa δ σ H0 H _ xs R e1 fun vs H1 s1 g1=> ?_
   exact ⟨xs,g1.bor,hm,fun H' s2=>s1.tr s2⟩
  ·have hl:σ.length=X.N.length:=I.len
   have hil:i<σ.length:=by rw [hl];exact (List.getElem?_eq_some_iff.mp hi).1
   refine hrest pins s' _ _ D I' (hsem D _ _ ea oe hcl ?_ ?_ ax fun H'' s2=>hD H'' (hz.tr ((Same.new hea).tr s2)))
   ·rw [List.getElem?_set_ne (Ne.symm hij),List.getElem?_set_self (by rw [List.length_set];exact hil)]
   ·rw [List.length_set,List.length_set,List.length_set];exact hl
 ·unfold sTry at hm
  split at hm
  ·cases hm
   obtain ⟨Φ,f'⟩:=R.foot
   refine ⟨_,H0,δ,R,by assumption,fun H' s=> ?_⟩
   obtain ⟨Φ,f'⟩:=(R.same s).foot
   exact hq _ _ σ H' Φ (.sm s) (R.same s) f' (RepF.bl _) fun z=>nomatch z
  ·cases hm
end
end L2
set_option maxHeartbeats 4000000
namespace L2
open PySem PySem.Spec PyProof.Rows PySem.W
theorem tN {K:Frag}{h₀:Heap}{mg:Str->Option Value}{x:Str}{C:Addr}{bmB:List Value}{newId:String} (X:K.In h₀) (e:mg x=some (.ref C)) (q:excIn K C bmB newId=true):OwnCls x C bmB newId mg h₀:=by
 refine ⟨e,?_⟩
 unfold excIn at q
 split at q
 ·rename_i dd cd sl ho
  split at q
  ·rename_i C' bm k0 k1 k2 k3 n k5 hm hs
   simp only [Bool.and_eq_true,beq_iff_eq,Bool.not_eq_true'] at q
   obtain ⟨⟨⟨⟨⟨rfl,rfl⟩,hdel⟩,ht⟩,hok⟩,hni⟩:=q
   obtain ⟨nm,bs,mro,ns,qn,hd,sn,sub,ab,col,del⟩:=cd
   dsimp only at hm hdel hok hni
   subst hm hdel
   have hsl:sl= #[k0,k1,k2,k3,some (.builtin n),k5]:=by
    obtain ⟨l⟩:=sl
    simp only at hs
    rw [hs]
   subst hsl
   exact ⟨bm,ns,nm,qn,bs,hd,sn,sub,ab,col,dd,k0,k1,k2,k3,k5,_,X _ _ ho,.of_isNs (isNs_of_in X hok),nsMap_none_of_in X hok hni,tail_of_in X ht⟩
  ·cases q
 ·cases q
theorem tO:bootBuiltins "ValueError"=some (.type "ValueError"):=PyProof.Rows.Boot.«ValueError»
theorem tP {i:Nat} (D:Ends) (σ:St) (H:Hp) (ea:Addr) (h2:σ[i]?=some (some (.ref ea))) (h5: ∀H',Same H H'->D.rt (.bl true) H'):tSeq (tRet (gW (tVar i))) fD D σ H:=⟨.ref ea,h2,h5 _ (Same.refl _)⟩
theorem tQ {K:Frag}{C:Addr}{i q:Nat}{cs:List Addr}{c1 c2:V}{v1 v2:Value}{tt:TA} (hne:q≠i) (D:Ends) (σ:St) (H:Hp) (ea:Addr) (oe:Obj) (h1:oe.cls= .ref C) (h2:σ[i]?=some (some (.ref ea))) (hq:q<σ.length) (h4:H ea=some (.frz oe (.own 0)))
  (h5: ∀H',Same H H'->D.rt (.bl true) H') (htt: ∀σ H Q,Q (cs.map V.ref) H->tt σ H Q) (hcs:cs.length<=sizeLine) (kt:kitAny K (.ref C) (cs.map Value.ref)=some false)
  (r1: ∀u,RelV c1 u->u=v1) (r2: ∀u,RelV c2 u->u=v2) (k1:kitOne K (.ref C) v1=some true) (k2:kitOne K (.ref C) v2=some true):
  tSeq (tAsg (tCB (kg K C) (cu (tVar i) (cu (tTup tt) tNil))) (cq q)) (tSeq (tRet (fB (tCB (gG K C) (cu (tVar i) (cu (tC c1) tNil))) (fB (tCB (gG K C) (cu (tVar i) (cu (tC c2) tNil))) (gX (tVar q))))) fD) D σ H:=by
 refine ⟨.ref ea,h2,htt σ H _ ⟨by rw [List.length_map];exact hcs,fun p hp=> ?_⟩⟩
 have ne:ea≠p:=fun z=>by rw [z,hp] at h4;cases h4
 have h4':upd H p (.tup (cs.map V.ref)) ea=some (.frz oe (.own 0)):=(al ne).trans h4
 refine ⟨ea,oe,p,cs,false,rfl,h4',h1,ax,kt,?_⟩
 have hs:(σ.set q (some (.bl false)))[i]?=some (some (.ref ea)):=by rw [List.getElem?_set_ne hne];exact h2
 refine ⟨.ref ea,hs,ea,oe,c1,v1,true,rfl,h4',h1,r1,k1,true,rfl,?_⟩
 rw [if_pos rfl]
 refine ⟨.ref ea,hs,ea,oe,c2,v2,true,rfl,h4',h1,r2,k2,true,rfl,?_⟩
 rw [if_pos rfl]
 exact ⟨.bl false,List.getElem?_set_self hq,false,rfl,h5 _ (Same.new hp)⟩
section
variable {X:Cx}{ms:List Nat}{rk:Kd}{m:List Dv->Option Dv}{x:Str}{ps:List Str}{p pos:Pos}
theorem tR {k:Nat} (D:Def X.prog X.w X.K X.mg X.base k x ps (spD X.K rk m)) (hr:Room k X.A) (n:rk≠ .any) (hg:Gl X x:=by rfl) (hdb:(x==("__debug__":Str))=false:=by decide):PD X ms rk (.Call (.Name x p) [] [] pos) (aj m aNil):=by
 obtain ⟨f,fd,F,hm,kp,hb⟩:=D
 refine ⟨_,mE (E:=E0) (dvs:=[]) (ds:=[]) F hr hg hm kp hb .nil iB hdb,fun δ σ H0 H Q d R hm hq=> ?_⟩
 obtain ⟨xs,hx,e⟩:=Option.bind_eq_some_iff.mp hm
 cases hx
 exact ⟨[],d,.nil,e,fun v H' s g=>hq v H' s (g.call n)⟩
end
end L2
set_option maxHeartbeats 4000000
namespace L2
open PySem PySem.Spec PyProof.Rows
variable {KF:PySem.W.Frag}{W:Addr->Prop}
section
variable {X:Cx}{ms:List Nat}{k1:Kd}{e:Expr}{me:EM}{pos:Pos}
noncomputable def ki:V->V->Hp->VK->Prop:=fun x y H Q=> ∃a n,x= .str a/\y= .int n/\((n=1/\Q (.str a) H) \/(1<n/\n<=1000/\0<a.length/\a.length<=1000/\Q (.str ⟨(List.replicate n.toNat a.cps).foldl (· ++ ·) #[]⟩) H))
theorem tS:OpR X (binaryOp .Mult) ki:=by
 intro pins s σ H x y v u Q I rx ry h
 obtain ⟨a,n,rfl,rfl,⟨n1,q⟩|h⟩:=h
 ·subst n1
  obtain ⟨t,rfl⟩:=rx
  obtain ⟨t',rfl⟩:=ry
  refine P.mul_str (by decide) (fun _ z=>by cases z) (fun _ z=>by cases z) ?_
  rw [if_neg (by decide),if_pos (show ((1:Int)==1||a.length==0)=true from rfl)]
  exact ⟨.str a,H,I,⟨_,rfl⟩,q⟩
 ·exact fm pins s σ H (.str a) (.int n) v u Q I rx ry ⟨a,n,rfl,rfl,h⟩
noncomputable def dMulT:Dv->Dv->Option Dv
 | .str a,.int n=>if n=1 then some (.str a) else if 1<n/\n<=1000/\0<a.length/\a.length<=1000 then some (.str ⟨(List.replicate n.toNat a.cps).foldl (· ++ ·) #[]⟩) else none
 |_,_=>none
theorem tT:OpD KF ki dMulT:=by
 intro H x y dx dy d Q rx ry h hq
 unfold dMulT at h
 split at h
 rotate_left
 ·cases h
 cases rx
 cases ry
 split at h
 ·next c=>cases h;exact ⟨_,_,rfl,rfl,.inl ⟨c,hq _ (.str _)⟩⟩
 split at h
 ·next c=>cases h;exact ⟨_,_,rfl,rfl,.inr ⟨c.1,c.2.1,c.2.2.1,c.2.2.2,hq _ (.str _)⟩⟩
 ·cases h
noncomputable def tU:V->Option Int->Option Int->Hp->VK->Prop:=fun x lo hi H Q=> ∃a j,x= .str a/\lo=none/\hi=some j/\a.length<=sizeLine/\Q (.str (Txt.slice a none (some j))) H
theorem tV:SlR X tU:=by
 intro pins s σ H x v vl vu lo hi sl Q I rx hs pl pu h
 obtain ⟨a,i,rfl,rfl,rfl,hz,q⟩:=h
 obtain ⟨t,rfl⟩:=rx
 cases pl with
 |none=>
  cases pu with
  |int _ ti=>
   refine ⟨"str",_,F.slot_str_getitem.lookup,typeIs_str _ _ _,?_⟩
   exact wpAny_getItem_str_slice (l:=none) (u:=some (i,ti)) (st:=none) hs rfl (post_val_or_str ⟨Nat.le_trans (Txt.slice_le a _ _) hz,fun t' k=>⟨.str _,H,I.tok k,⟨_,rfl⟩,q⟩⟩)
noncomputable def gH (m:EM) (lo hi:Dt->Option (Option Int)):EM:=fun δ=>(m δ).bind fun x=>(lo δ).bind fun l=>(hi δ).bind fun h=>match x,l,h with
 | .str a,none,some j=>if a.length<=lim then some (.str (Txt.slice a none (some j))) else none
 |_,_,_=>none
theorem tW {lo hi:Option Expr}{ml mh:Dt->Option (Option Int)}{p2:Pos} (he:PD X ms k1 e me) (hl:PDo X ms lo ml) (hh:PDo X ms hi mh):PD X ms .imm (.Subscript e (.Slice lo hi none p2) pos) (gH me ml mh):=by
 obtain ⟨te,p,q⟩:=he
 obtain ⟨tl,pl,ql⟩:=hl
 obtain ⟨th,ph,qh⟩:=hh
 refine ⟨_,fG tV p pl ph,fun δ σ H0 H Q d R hm hq=> ?_⟩
 obtain ⟨x,hx,e⟩:=Option.bind_eq_some_iff.mp hm
 obtain ⟨l,hl,e⟩:=Option.bind_eq_some_iff.mp e
 obtain ⟨h,hh,e⟩:=Option.bind_eq_some_iff.mp e
 refine q δ σ H0 H _ x R hx fun v H1 s1 g1=> ?_
 refine ql δ σ H0 H1 _ l (R.same s1) hl fun H2 s2=> ?_
 refine qh δ σ H0 H2 _ h (R.same (s1.tr s2)) hh fun H3 s3=> ?_
 cases x<;>cases l<;>cases h<;>simp only [reduceCtorEq] at e
 split at e
 rotate_left
 ·cases e
 next c=>
  cases e
  have g1:=g1.bor
  cases g1
  exact ⟨_,_,rfl,rfl,rfl,Nat.le_trans c (by decide),hq _ H3 ((s1.tr s2).tr s3) (RepF.str _)⟩
end
end L2
set_option maxHeartbeats 4000000
namespace K56
open PySem L2
noncomputable def top (i:Nat):Stmt:=PySem.Challenge.pw_deltahouse_k56_rows_refused.main.body.getD i (.Pass ⟨0,0,0,0⟩)
structure Blt (mg:Str->Option Value):Prop where
 all_:mg "all"=none
 int_:mg "int"=none
 isinstance_:mg "isinstance"=none
 len_:mg "len"=none
 list_:mg "list"=none
 range_:mg "range"=none
 str_:mg "str"=none
 tuple_:mg "tuple"=none
noncomputable abbrev dw:Stmt:=top 15
theorem tX:aN ["text"] ["text"] (aq dw):=⟨rfl,rfl,rfl,by decide+kernel,rfl,by decide+kernel,by decide+kernel⟩
noncomputable abbrev dz:Stmt:=top 20
theorem kj:aN ["_law_cell","_law_k","_law_number"] ["_law_cell","_law_k"] (aq dz):=⟨rfl,rfl,rfl,by decide+kernel,rfl,by decide+kernel,by decide+kernel⟩
noncomputable abbrev dA:Stmt:=top 21
theorem kl:aN ["_law_some"] [] (aq dA):=⟨rfl,rfl,rfl,by decide+kernel,rfl,by decide+kernel,by decide+kernel⟩
noncomputable abbrev dB:Stmt:=top 22
theorem gI:aN ["_law_cell","_law_some"] ["_law_cell"] (aq dB):=⟨rfl,rfl,rfl,by decide+kernel,rfl,by decide+kernel,by decide+kernel⟩
noncomputable abbrev dC:Stmt:=top 16
theorem tY:aN ["text"] ["text"] (aq dC):=⟨rfl,rfl,rfl,by decide+kernel,rfl,by decide+kernel,by decide+kernel⟩
noncomputable abbrev dD:Stmt:=top 23
theorem dE:aN ["_law_words","_law_cell","_law_way","_law_more","_law_made","_law_text","_law_at"] ["_law_words","_law_cell"] (aq dD):=⟨rfl,rfl,rfl,by decide+kernel,rfl,by decide+kernel,by decide+kernel⟩
noncomputable abbrev cJ:Stmt:=top 17
theorem km:aN ["text"] ["text"] (aq cJ):=⟨rfl,rfl,rfl,by decide+kernel,rfl,by decide+kernel,by decide+kernel⟩
noncomputable abbrev cK:Stmt:=top 18
theorem eu:aN ["text","words"] ["text"] (aq cK):=⟨rfl,rfl,rfl,by decide+kernel,rfl,by decide+kernel,by decide+kernel⟩
noncomputable abbrev dF:Stmt:=top 24
theorem ey:aN ["_law_text","_law_cell","_law_caught","error","_law_other"] ["_law_text","_law_cell"] (aq dF):=⟨rfl,rfl,rfl,by decide+kernel,rfl,by decide+kernel,by decide+kernel⟩
noncomputable abbrev bR:Stmt:=top 25
theorem dG:aN ["_law_script","_law_cells","_law_k","_law_cell","_law_row","_law_words"] ["_law_script"] (aq bR):=⟨rfl,rfl,rfl,by decide+kernel,rfl,by decide+kernel,by decide+kernel⟩
noncomputable def eA:EM:=
 (eOp dInS (eVar 0) (eC (.str "0123456789")))
noncomputable def cn:SM:=
 (sSeq (sIf (tor (tOf (eOp dLt (aj cf (aa (eVar 0) aNil)) (eC (.int 1)))) (tOf (eOp dGt (aj cf (aa (eVar 0) aNil)) (eC (.int 60)))))
   (sRet (eC (.bl false)))
   aE)
  (sSeq (sIf (tand (tOf (eOp bE (eVar 0) (eC (.str "0")))) (tOf (eOp dNe (eVar 0) (eC (.str "0")))))
   (sRet (eC (.bl false)))
   aE)
  (sRet (aj fAll (aa (bN [none] (iS (eVar 0)) (gN 0) tyes eA) aNil)))))
noncomputable def bf:List Dv->Option Dv:=aH 1 1 cn
noncomputable def ko:SM:=
 (sSeq (sSet 2 (eOp dMod (eOp dMul (eOp dAdd (eOp dAdd (eVar 0) (eVar 1)) (eC (.int 1))) (eOp dAdd (eC (.int 48271)) (eOp dMul (eOp dMul (eC (.int 2)) (eVar 1)) (eVar 1)))) (eC (.int 2147483647))))
  (sRet (eOp dMod (eOp dMul (eVar 2) (eVar 2)) (eC (.int 2147483629)))))
noncomputable def dH:List Dv->Option Dv:=aH 3 2 ko
noncomputable def kr:SM:=
 (sSeq (sSet 0 (eC (.str " !\"#$&'()*+./:;<=>?@ABCDEFGHIJKLMNOPQRSTUVWXYZ[\\]^_`")))
  (sRet (eOp bu (eVar 0) (eC (.str "abcdefghijklmnopqrstuvwxyz{|}~\n\t")))))
noncomputable def eB:List Dv->Option Dv:=aH 1 0 kr
noncomputable def ku:SM:=
 (sSeq (sSet 1 (bI (aa (eC (.str "")) (aa (eC (.str "-")) (aa (eC (.str "00")) (aa (eC (.str "01")) (aa (eC (.str "-0")) (aa (eC (.str "-01")) (aa (eC (.str "+1")) (aa (eC (.str " 1")) (aa (eC (.str "1 ")) (aa (eC (.str "1_0")) (aa (eC (.str "1\n")) (aa (eC (.str "x")) (aa (eC (.str "1.0")) (aa (eC (.str "--1")) (aa (eC (.str "1-")) (aa (eC (.str "0x1")) (aa (eC (.str "1e3")) aNil)))))))))))))))))))
  (sSeq (sSet 1 (eOp cE (eVar 1) (bI (aa (eOp dt (eC (.str "9")) (eC (.int 61))) (aa (eOp bu (eC (.str "-")) (eOp dt (eC (.str "9")) (eC (.int 61)))) (aa (eOp bu (eC (.str "1")) (eOp dt (eC (.str "0")) (eC (.int 60)))) (aa (eC (.str "\n1")) (aa (eC (.str "- 1")) (aa (eC (.str "000")) (aa (eC (.str "1-1")) (aa (eC (.str "o")) (aa (eC (.str "l")) (aa (eC (.str "-00")) (aa (eC (.str "1\t")) aNil))))))))))))))
  (sRet (eImm (eOp dIx (eVar 1) (eOp dMod (eVar 0) (eC (.int 28))))))))
noncomputable def cL:List Dv->Option Dv:=aH 2 1 ku
noncomputable def dI:SM:=
 (sSeq (sIf (tOf (eOp bE (eVar 0) (eC (.str "-"))))
   (sRet (eImm (eAnd (eOp dNe (eVar 0) (eC (.str "-0"))) (aj bf (aa (dq (eVar 0) (br (eC (.int 1))) bB) aNil)))))
   aE)
  (sRet (aj bf (aa (eVar 0) aNil))))
noncomputable def bg:List Dv->Option Dv:=aH 1 1 dI
noncomputable def dJ:SM:=
 (sSeq (sSet 2 (eOp dMod (eVar 1) (eC (.int 4))))
  (sSeq (sSet 3 (eOp dDiv (eVar 1) (eC (.int 4))))
  (sSeq (sIf (tOf (eOp dLt (eVar 2) (eC (.int 2))))
   (sSeq (sSet 4 (aj bY (aa (eVar 0) aNil)))
  (sSeq (fg 4 (eOp dMod (eOp dDiv (eVar 3) (eC (.int 28))) (aj fLen (aa (eVar 4) aNil))) (aj cL (aa (eVar 3) aNil)))
  (sRet (eOp cH (eC (.str ",")) (eVar 4)))))
   aE)
  (sSeq (sSet 5 (eOp cH (eC (.str ",")) (eVar 0)))
  (sSeq (sIf (tOf (eOp dEq (eVar 2) (eC (.int 2))))
   (sSeq (sSet 6 (eOp dMod (eVar 3) (eOp dAdd (aj cf (aa (eVar 5) aNil)) (eC (.int 1)))))
  (sRet (eOp bu (eOp bu (gH (eVar 5) bB (br (eVar 6))) (eOp dIxS (aj eB aNil) (eOp dMod (eOp dDiv (eVar 3) (eC (.int 64))) (eC (.int 84))))) (dq (eVar 5) (br (eVar 6)) bB))))
   aE)
  (sSeq (sIf (tOf (eOp dEq (eOp dMod (eVar 3) (eC (.int 3))) (eC (.int 0))))
   (sRet (eOp bu (eVar 5) (eOp dMulT (eC (.str ",1")) (eOp dAdd (eOp dSub (eC (.int 9)) (aj fLen (aa (eVar 0) aNil))) (eOp dMod (eOp dDiv (eVar 3) (eC (.int 3))) (eC (.int 3)))))))
   aE)
  (sSeq (sIf (tOf (eOp dEq (eOp dMod (eVar 3) (eC (.int 3))) (eC (.int 1))))
   (sRet (eOp dIx (bI (aa (eOp bu (eVar 5) (eC (.str ","))) (aa (eOp bu (eC (.str ",")) (eVar 5)) (aa (eC (.str "")) aNil)))) (eOp dMod (eOp dDiv (eVar 3) (eC (.int 3))) (eC (.int 3)))))
   aE)
  (sRet (eOp dIx (eLst (aa (eC .non) (aa (eC (.bl true)) (aa (eC (.int 5)) (aa (eTup (aa (eC (.int 1)) (aa (eC (.int 2)) aNil))) (aa (bI (aa (eVar 5) aNil)) (aa (gw (eVar 5) (eC (.int 1))) (aa (eC (.bl false)) (aa (bI aNil) (aa (eUn dNeg (eC (.int 1))) aNil)))))))))) (eOp dMod (eOp dDiv (eVar 3) (eC (.int 3))) (eC (.int 9))))))))))))
noncomputable def M_w_spoiled:List Dv->Option Dv:=aH 7 2 dJ
noncomputable def kw:SM:=
 (sSeq (sIf (tor (tnot (tOf (eIsi "str" (eVar 0)))) (tnot (tOf (aj bg (aa (eVar 0) aNil)))))
   sNo
   aE)
  (sRet (aj fk (aa (eVar 0) aNil))))
noncomputable def dL:List Dv->Option Dv:=aH 1 1 kw
noncomputable def bF:EM:=
 (aj dL (aa (eVar 0) aNil))
noncomputable def ky:SM:=
 (sSeq (sIf (tnot (tOf (eIsi "str" (eVar 0))))
   sNo
   aE)
  (sSeq (sSet 1 (eOp bw (eVar 0) (eC (.str ","))))
  (sSeq (sIf (tOf (eOp dGt (aj fLen (aa (eVar 1) aNil)) (eC (.int 8))))
   sNo
   aE)
  (sRet (aj cD (aa (bN [none] (iL (eVar 1)) (gN 0) tyes bF) aNil))))))
noncomputable def eD:List Dv->Option Dv:=aH 2 1 ky
noncomputable def kz:Dt->Bool:=
 (rIf (tor (tnot (tOf (eIsi "str" (eVar 0)))) (tnot (tOf (aj bg (aa (eVar 0) aNil))))) (fun δ=>((eC (.str "this is written as no number"):EM) δ).isSome))
noncomputable def aX:List Dv->Bool:=cj 1 1 kz
noncomputable def dM:Dt->Bool:=
 (rIf (tnot (tOf (eIsi "str" (eVar 0)))) (fun δ=>((eC (.str "a row is read of a text alone"):EM) δ).isSome))
noncomputable def dN:Dt->Bool:=
 (bP (sIf (tnot (tOf (eIsi "str" (eVar 0))))
   sNo
   aE)
  (bP (sSet 1 (eOp bw (eVar 0) (eC (.str ","))))
  (rIf (tOf (eOp dGt (aj fLen (aa (eVar 1) aNil)) (eC (.int 8)))) (fun δ=>((eC (.str "this is written as more numbers than a row has"):EM) δ).isSome))))
noncomputable def dO:Dt->Bool:=
 (bP (sIf (tnot (tOf (eIsi "str" (eVar 0))))
   sNo
   aE)
  (bP (sSet 1 (eOp bw (eVar 0) (eC (.str ","))))
  (bP (sIf (tOf (eOp dGt (aj fLen (aa (eVar 1) aNil)) (eC (.int 8))))
   sNo
   aE)
  (ej [none] (iL (eVar 1)) (gN 0) bF (aQ aX (aa (eVar 0) aNil))))))
noncomputable def gJ:Dt->Bool:=fun δ=>(fun δ=>dM δ||dN δ) δ||dO δ
noncomputable def aF:List Dv->Bool:=cj 2 1 gJ
noncomputable def gK:SM:=
 (sSeq (sSet 2 (eC .non))
  (sSeq (sIf (tOf (eOp dEq (eOp dMod (eVar 1) (eC (.int 3))) (eC (.int 0))))
   (sTry (aQ aF (aa (eVar 0) aNil)))
   aE)
  (sTry (aQ aF (aa (eVar 0) aNil)))))
noncomputable def dP:List Dv->Option Dv:=aH 5 2 gK
noncomputable def gL:EM:=
 (eOp dSub (eOp dMod (aj dH (aa (eVar 1) (aa (eVar 0) aNil))) (eC (.int 2001))) (eC (.int 1000)))
noncomputable def gM:EM:=
 (aj fStr (aa (eVar 0) aNil))
noncomputable def l_law_1:SM:=
 (sSeq (sSet 3 (aj dH (aa (eOp dIx (eVar 1) (eVar 2)) (aa (eVar 2) aNil))))
  (sSeq (sSet 4 (aj cD (aa (bN [none,some 3] (iR1 (eOp dAdd (eC (.int 1)) (eOp dMod (eVar 3) (eC (.int 8))))) (gN 0) tyes gL) aNil)))
  (sSeq (sSet 5 (bN [none] (iT (eVar 4)) (gN 0) tyes gM))
  (sSeq (sIf (tnot (tOf (aj dP (aa (aj M_w_spoiled (aa (eVar 5) (aa (eOp dDiv (eVar 3) (eC (.int 8))) aNil))) (aa (eOp dDiv (eVar 3) (eC (.int 7))) aNil)))))
   (sRet (eC (.bl false)))
   aE)
  (sIf (tOf (eOp dNe (aj eD (aa (eOp cH (eC (.str ",")) (eVar 5)) aNil)) (eVar 4)))
   (sRet (eC (.bl false)))
   aE)))))
noncomputable def kA:SM:=
 (sSeq (sSet 1 (eOp cE (aj bY (aa (eSl (eVar 0) bB (br (eC (.int 63)))) aNil)) (bI (aa (eC (.int 11)) (aa (eC (.int 25)) aNil)))))
  (sSeq (sFor (iR1 (aj fLen (aa (eVar 1) aNil))) (gN 2) l_law_1)
  (sRet (eC (.bl true)))))
noncomputable def dQ:List Dv->Option Dv:=aH 6 1 kA
section
variable {P:Program}{w:World}{K:PySem.W.Frag}{mg:Str->Option Value}{base:Heap}
theorem tZ {f:Addr}{fd:FuncData}{t_FIGURES:Tok}{t_MOST_FIGURES:Tok}{t_WIDEST:Tok} (F:Fun K "is_written_place" "is_written_place" dw f fd) (B:Blt mg) (G_FIGURES:mg "FIGURES"=some (.str "0123456789" t_FIGURES)) (G_MOST_FIGURES:mg "MOST_FIGURES"=some (.int 60 t_MOST_FIGURES)) (G_WIDEST:mg "WIDEST"=some (.int 8 t_WIDEST)):
  FnOk P w K mg base CX0 1 f fd ["text"] (spD K .imm bf):=
 bO (rk:= .imm) (k:=0) [] F tX rfl rfl fun cdv A outer s H E hr=>
   (av (aP (PDw.pt (fZ (bj hJ i6 (bC (k1:= .bor) gl gm rfl B.len_ bH (ae (PD.le (ad 0 rfl (pv 0)) (Kd.le.bor _)) am)) ai (bc _)) (fY (bj eJ eU (bC (k1:= .bor) gl gm rfl B.len_ bH (ae (PD.le (ad 0 rfl (pv 0)) (Kd.le.bor _)) am)) (PE.pd_c (aZ (v:= .int 60) rfl G_MOST_FIGURES ⟨_,rfl⟩) fun _=> .int _) (bc _)))))
    (aA (be cC (Kd.le.refl _) aB))
    aO)
   (av (aP (PDw.pt (nZ (bq (cg PySem.F.slot_str_startswith PySem.F.type_str_startswith jU j1 j2 (ad 0 rfl (pv 0)) af)) (nY (bj (fR hr.units) fX (ad 0 rfl (pv 0)) af (bc _)))))
    (aA (be cC (Kd.le.refl _) aB))
    aO)
   (aA (be (bC (k1:= .bor) (oN rfl) oO rfl B.all_ nQ (ae (PD.le (gd ["sign"] [none] [] (hc:=rfl) (hi:=(sO (ad 0 rfl (pv 0)))) (hg:=fun _ _ _ _=>(dh rfl (cO (i:=0) (show (["sign"]:List Str).Nodup by decide+kernel) rfl (Or.inl rfl)))) (ht:=fun _ _ _ _=>e6) (he:=fun _ _ _ _=>(i4 sG sH (ad 0 rfl (pv 0)) (PE.pd_c (aZ (v:= .str "0123456789") rfl G_FIGURES ⟨_,rfl⟩) fun _=> .str _) rfl)) (hz:=(d7 0)) (ck:=rfl) (hp:=rfl) (hz':=rfl)) (Kd.le.bor _)) am)) (Kd.le.refl _) aB))))
theorem t0 {f:Addr}{fd:FuncData}{t_FIGURES:Tok}{t_MOST_FIGURES:Tok}{t_WIDEST:Tok} (F:Fun K "_law_mixed" "_law_mixed" dz f fd) (B:Blt mg) (G_FIGURES:mg "FIGURES"=some (.str "0123456789" t_FIGURES)) (G_MOST_FIGURES:mg "MOST_FIGURES"=some (.int 60 t_MOST_FIGURES)) (G_WIDEST:mg "WIDEST"=some (.int 8 t_WIDEST)):
  FnOk P w K mg base CX0 1 f fd ["_law_cell","_law_k"] (spD K .imm dH):=
 bO (rk:= .imm) (k:=0) [] F kj rfl rfl fun cdv A outer s H E hr=>
   (av (aW (i:=2) rfl (PD.le (ah aR aV (ah eO eW (ah cR cY (ah cR cY (ad 0 rfl (pv 0)) (ad 1 rfl (pv 1))) ai) (ah cR cY ai (ah eO eW (ah eO eW ai (ad 1 rfl (pv 1))) (ad 1 rfl (pv 1))))) ai) Kd.le.imm_any) (Kd.le.refl _) kj.nd rfl (Or.inl rfl))
   (aA (be (ah aR aV (ah eO eW (ad 2 rfl (pv 2)) (ad 2 rfl (pv 2))) ai) (Kd.le.refl _) aB)))
theorem t5 {f:Addr}{fd:FuncData}{t_FIGURES:Tok}{t_MOST_FIGURES:Tok}{t_WIDEST:Tok} (F:Fun K "_law_signs" "_law_signs" dA f fd) (B:Blt mg) (G_FIGURES:mg "FIGURES"=some (.str "0123456789" t_FIGURES)) (G_MOST_FIGURES:mg "MOST_FIGURES"=some (.int 60 t_MOST_FIGURES)) (G_WIDEST:mg "WIDEST"=some (.int 8 t_WIDEST)):
  FnOk P w K mg base CX0 1 f fd [] (spD K .imm eB):=
 bO (rk:= .imm) (k:=0) [] F kl rfl rfl fun cdv A outer s H E hr=>
   (av (aW (i:=0) rfl (PD.le af Kd.le.imm_any) (Kd.le.refl _) kl.nd rfl (Or.inl rfl))
   (aA (be (ah bT bZ (ad 0 rfl (pv 0)) af) (Kd.le.refl _) aB)))
theorem t6 {f:Addr}{fd:FuncData}{t_FIGURES:Tok}{t_MOST_FIGURES:Tok}{t_WIDEST:Tok} (F:Fun K "_law_odd" "_law_odd" dB f fd) (B:Blt mg) (G_FIGURES:mg "FIGURES"=some (.str "0123456789" t_FIGURES)) (G_MOST_FIGURES:mg "MOST_FIGURES"=some (.int 60 t_MOST_FIGURES)) (G_WIDEST:mg "WIDEST"=some (.int 8 t_WIDEST)):
  FnOk P w K mg base CX0 1 f fd ["_law_cell"] (spD K .imm cL):=
 bO (rk:= .imm) (k:=0) [] F gI rfl rfl fun cdv A outer s H E hr=>
   (av (aW (i:=1) rfl (PD.le (cZ (k:= .bor) (ae (PD.le af (Kd.le.bor _)) (ae (PD.le af (Kd.le.bor _)) (ae (PD.le af (Kd.le.bor _)) (ae (PD.le af (Kd.le.bor _)) (ae (PD.le af (Kd.le.bor _)) (ae (PD.le af (Kd.le.bor _)) (ae (PD.le af (Kd.le.bor _)) (ae (PD.le af (Kd.le.bor _)) (ae (PD.le af (Kd.le.bor _)) (ae (PD.le af (Kd.le.bor _)) (ae (PD.le af (Kd.le.bor _)) (ae (PD.le af (Kd.le.bor _)) (ae (PD.le af (Kd.le.bor _)) (ae (PD.le af (Kd.le.bor _)) (ae (PD.le af (Kd.le.bor _)) (ae (PD.le af (Kd.le.bor _)) (ae (PD.le af (Kd.le.bor _)) am)))))))))))))))))) Kd.le.one_any) (Kd.le.refl _) gI.nd rfl (Or.inl rfl))
   (av (aW (i:=1) rfl (PD.le (jb (ad 1 rfl (pv 1)) (cZ (k:= .bor) (ae (PD.le (ah fm gu af ai) (Kd.le.bor _)) (ae (PD.le (ah bT bZ af (ah fm gu af ai)) (Kd.le.bor _)) (ae (PD.le (ah bT bZ af (ah fm gu af ai)) (Kd.le.bor _)) (ae (PD.le af (Kd.le.bor _)) (ae (PD.le af (Kd.le.bor _)) (ae (PD.le af (Kd.le.bor _)) (ae (PD.le af (Kd.le.bor _)) (ae (PD.le af (Kd.le.bor _)) (ae (PD.le af (Kd.le.bor _)) (ae (PD.le af (Kd.le.bor _)) (ae (PD.le af (Kd.le.bor _)) am))))))))))))) Kd.le.one_any) (Kd.le.refl _) gI.nd rfl (Or.inl rfl))
   (aA (be (i1 (eX (ad 1 rfl (pv 1)) (ah aR aV (ad 0 rfl (pv 0)) ai) (fun _ _=>rfl))) (Kd.le.refl _) aB))))
theorem t7 {f:Addr}{fd:FuncData}{t_FIGURES:Tok}{t_MOST_FIGURES:Tok}{t_WIDEST:Tok} (F:Fun K "is_written_number" "is_written_number" dC f fd) (B:Blt mg) (G_FIGURES:mg "FIGURES"=some (.str "0123456789" t_FIGURES)) (G_MOST_FIGURES:mg "MOST_FIGURES"=some (.int 60 t_MOST_FIGURES)) (G_WIDEST:mg "WIDEST"=some (.int 8 t_WIDEST)) (D_is_written_place:Def P w K mg base 1 "is_written_place" ["text"] (spD K .imm bf)):
  FnOk P w K mg base CX0 2 f fd ["text"] (spD K .imm bg):=
 bO (rk:= .imm) (k:=1) [] F tY rfl rfl fun cdv A outer s H E hr=>
   (av (aP (bq (cg PySem.F.slot_str_startswith PySem.F.type_str_startswith jU j1 j2 (ad 0 rfl (pv 0)) af))
    (aA (be (i1 (nX (i4 (fR hr.units) fX (ad 0 rfl (pv 0)) af (bc _)) (nW (bt (k1:= .bor) D_is_written_place (hr.mono (by decide)) aB (ae (PD.le (j6 (ad 0 rfl (pv 0)) (eZ ai) eY) (Kd.le.bor _)) am))))) (Kd.le.refl _) aB))
    aO)
   (aA (be (bt (k1:= .bor) D_is_written_place (hr.mono (by decide)) aB (ae (PD.le (ad 0 rfl (pv 0)) (Kd.le.bor _)) am)) (Kd.le.refl _) aB)))
theorem t8 {f:Addr}{fd:FuncData}{t_FIGURES:Tok}{t_MOST_FIGURES:Tok}{t_WIDEST:Tok} (F:Fun K "_law_spoiled" "_law_spoiled" dD f fd) (B:Blt mg) (G_FIGURES:mg "FIGURES"=some (.str "0123456789" t_FIGURES)) (G_MOST_FIGURES:mg "MOST_FIGURES"=some (.int 60 t_MOST_FIGURES)) (G_WIDEST:mg "WIDEST"=some (.int 8 t_WIDEST)) (D_w_odd:Def P w K mg base 1 "_law_odd" ["_law_cell"] (spD K .imm cL)) (D_w_signs:Def P w K mg base 1 "_law_signs" [] (spD K .imm eB)):
  FnOk P w K mg base CX0 2 f fd ["_law_words","_law_cell"] (spA K M_w_spoiled):=
 sC (k:=1) [4] F dE rfl rfl fun cdv A outer s H E hr=>
   (av (aW (i:=2) rfl (PD.le (ah aR aV (ad 1 rfl (pv 1)) ai) Kd.le.imm_any) (Kd.le.refl _) dE.nd rfl (Or.inl rfl))
   (av (aW (i:=3) rfl (PD.le (ah bS bX (ad 1 rfl (pv 1)) ai) Kd.le.imm_any) (Kd.le.refl _) dE.nd rfl (Or.inl rfl))
   (av (aP (bj hJ i6 (ad 2 rfl (pv 2)) ai (bc _))
    (av (oF (i:=4) rfl (df (k1:= .bor) iq ja rfl B.list_ iQ (ae (PD.le (ad 0 rfl (pv 0)) (Kd.le.bor _)) am)) dE.nd rfl (Or.inl rfl))
   (av (rX rfl (pv 4) (ah aR aV (ah bS bX (ad 3 rfl (pv 3)) ai) (bC (k1:= .bor) cU dg rfl B.len_ bH (ae (i3 4 (pv 4)) am))) (bt (k1:= .bor) D_w_odd (hr.mono (by decide)) aB (ae (PD.le (ad 3 rfl (pv 3)) (Kd.le.bor _)) am)))
   (aA (di (PD.le (cg PySem.F.slot_str_join PySem.F.type_str_join gk gq gr af (i3 4 (pv 4))) Kd.le.imm_any) (Kd.le.refl _)))))
    aO)
   (av (aW (i:=5) rfl (PD.le (cg PySem.F.slot_str_join PySem.F.type_str_join gk gq gr af (ad 0 rfl (pv 0))) Kd.le.imm_any) (Kd.le.refl _) dE.nd rfl (Or.inl rfl))
   (av (aP (bj (eS hr.units) eV (ad 2 rfl (pv 2)) ai (bc _))
    (av (aW (i:=6) rfl (PD.le (ah aR aV (ad 3 rfl (pv 3)) (ah cR cY (bC (k1:= .bor) gl gm rfl B.len_ bH (ae (PD.le (ad 5 rfl (pv 5)) (Kd.le.bor _)) am)) ai)) Kd.le.imm_any) (Kd.le.refl _) dE.nd rfl (Or.inl rfl))
   (aA (di (PD.le (ah bT bZ (ah bT bZ (tW (ad 5 rfl (pv 5)) eY (eZ (ad 6 rfl (pv 6)))) (sE (tR D_w_signs (hr.mono (by decide)) aB) (ah aR aV (ah bS bX (ad 3 rfl (pv 3)) ai) ai) (fun _ _=>rfl))) (j6 (ad 5 rfl (pv 5)) (eZ (ad 6 rfl (pv 6))) eY)) Kd.le.imm_any) (Kd.le.refl _))))
    aO)
   (av (aP (bj (eS hr.units) eV (ah aR aV (ad 3 rfl (pv 3)) ai) ai (bc _))
    (aA (di (PD.le (ah bT bZ (ad 5 rfl (pv 5)) (ah tS tT af (ah cR cY (ah g9 i5 ai (bC (k1:= .bor) cU dg rfl B.len_ bH (ae (PD.le (ad 0 rfl (pv 0)) (Kd.le.bor _)) am))) (ah aR aV (ah bS bX (ad 3 rfl (pv 3)) ai) ai)))) Kd.le.imm_any) (Kd.le.refl _)))
    aO)
   (av (aP (bj (eS hr.units) eV (ah aR aV (ad 3 rfl (pv 3)) ai) ai (bc _))
    (aA (di (PD.le (eX (cZ (k:= .bor) (ae (PD.le (ah bT bZ (ad 5 rfl (pv 5)) af) (Kd.le.bor _)) (ae (PD.le (ah bT bZ af (ad 5 rfl (pv 5))) (Kd.le.bor _)) (ae (PD.le af (Kd.le.bor _)) am)))) (ah aR aV (ah bS bX (ad 3 rfl (pv 3)) ai) ai) (fun _ _=>rfl)) Kd.le.imm_any) (Kd.le.refl _)))
    aO)
   (aA (di (eX (n8 (ae (PD.le i2 Kd.le.imm_any) (ae (PD.le cC Kd.le.imm_any) (ae (PD.le ai Kd.le.imm_any) (ae (PD.le (n6 (ae ai (ae ai am)) (.inl rfl)) Kd.le.imm_any) (ae (PD.le (cZ (k:= .bor) (ae (PD.le (ad 5 rfl (pv 5)) (Kd.le.bor _)) am)) Kd.le.one_any) (ae (PD.le (sQ (ad 5 rfl (pv 5)) ai) Kd.le.frh_any) (ae (PD.le cC Kd.le.imm_any) (ae (PD.le (cZ (k:= .bor) am) Kd.le.one_any) (ae (PD.le (nV ai) Kd.le.imm_any) am)))))))))) (ah aR aV (ah bS bX (ad 3 rfl (pv 3)) ai) ai) (fun _ _=>rfl)) (Kd.le.refl _))))))))))
theorem t9 {f:Addr}{fd:FuncData}{t_FIGURES:Tok}{t_MOST_FIGURES:Tok}{t_WIDEST:Tok} (F:Fun K "read_number" "read_number" cJ f fd) (B:Blt mg) (G_FIGURES:mg "FIGURES"=some (.str "0123456789" t_FIGURES)) (G_MOST_FIGURES:mg "MOST_FIGURES"=some (.int 60 t_MOST_FIGURES)) (G_WIDEST:mg "WIDEST"=some (.int 8 t_WIDEST)) (D_is_written_number:Def P w K mg base 2 "is_written_number" ["text"] (spD K .imm bg)):
  FnOk P w K mg base CX0 3 f fd ["text"] (spD K .imm dL):=
 bO (rk:= .imm) (k:=2) [] F km rfl rfl fun cdv A outer s H E hr=>
   (av (aP (PDw.pt (fZ (bK (bq (dk "str" (ad 0 rfl (pv 0)) rfl B.isinstance_ rfl B.str_ cA))) (fY (bK (bq (bt (k1:= .bor) D_is_written_number (hr.mono (by decide)) aB (ae (PD.le (ad 0 rfl (pv 0)) (Kd.le.bor _)) am)))))))
    (aA du)
    aO)
   (aA (be (df (k1:= .bor) sI sJ rfl B.int_ nR (ae (PD.le (ad 0 rfl (pv 0)) (Kd.le.bor _)) am)) (Kd.le.refl _) aB)))
theorem ua {f:Addr}{fd:FuncData}{t_FIGURES:Tok}{t_MOST_FIGURES:Tok}{t_WIDEST:Tok} (F:Fun K "read_row" "read_row" cK f fd) (B:Blt mg) (G_FIGURES:mg "FIGURES"=some (.str "0123456789" t_FIGURES)) (G_MOST_FIGURES:mg "MOST_FIGURES"=some (.int 60 t_MOST_FIGURES)) (G_WIDEST:mg "WIDEST"=some (.int 8 t_WIDEST)) (D_read_number:Def P w K mg base 3 "read_number" ["text"] (spD K .imm dL)):
  FnOk P w K mg base CX0 4 f fd ["text"] (spD K .imm eD):=
 bO (rk:= .imm) (k:=3) [] F eu rfl rfl fun cdv A outer s H E hr=>
   (av (aP (bK (bq (dk "str" (ad 0 rfl (pv 0)) rfl B.isinstance_ rfl B.str_ cA)))
    (aA du)
    aO)
   (av (aW (i:=1) rfl (PD.le (cg PySem.F.slot_str_split PySem.F.type_str_split gj gn gp (ad 0 rfl (pv 0)) af) Kd.le.one_any) (Kd.le.refl _) eu.nd rfl (Or.inl rfl))
   (av (aP (bj eJ eU (bC (k1:= .bor) cU dg rfl B.len_ bH (ae (PD.le (ad 1 rfl (pv 1)) (Kd.le.bor _)) am)) (PE.pd_c (aZ (v:= .int 8) rfl G_WIDEST ⟨_,rfl⟩) fun _=> .int _) (bc _))
    (aA du)
    aO)
   (aA (be (df (k1:= .bor) ir i9 rfl B.tuple_ fO (ae (PD.le (gd ["word"] [none] [] (hc:=rfl) (hi:=(je (ad 1 rfl (pv 1)))) (hg:=fun _ _ _ _=>(dh rfl (cO (i:=0) (show (["word"]:List Str).Nodup by decide+kernel) rfl (Or.inl rfl)))) (ht:=fun _ _ _ _=>e6) (he:=fun _ _ _ _=>(bt (k1:= .bor) D_read_number (hr.mono (by decide)) aB (ae (PD.le (ad 0 rfl (pv 0)) (Kd.le.bor _)) am))) (hz:=(d7 0)) (ck:=rfl) (hp:=rfl) (hz':=rfl)) (Kd.le.bor _)) am)) (Kd.le.refl _) aB)))))
theorem ub {C:Addr}{Bb newId initId:String}{bm:List Value}{f:Addr}{fd:FuncData}{t_FIGURES:Tok}{t_MOST_FIGURES:Tok}{t_WIDEST:Tok} (F:Fun K "read_number" "read_number" cJ f fd) (B:Blt mg) (G_FIGURES:mg "FIGURES"=some (.str "0123456789" t_FIGURES)) (G_MOST_FIGURES:mg "MOST_FIGURES"=some (.int 60 t_MOST_FIGURES)) (G_WIDEST:mg "WIDEST"=some (.int 8 t_WIDEST)) (D_is_written_number:Def P w K mg base 2 "is_written_number" ["text"] (spD K .imm bg)) (O:PyProof.Rows.OwnCls "NoText" C bm newId mg base) (FB:ExcBaseFacts Bb newId initId bm):
  FnOk P w K mg base (CXe P w base C) 3 f fd ["text"] (spX K C aX):=
 j9 (k:=2) [] F km rfl rfl fun cdv A outer s H E hr=>
   (cI (gB (PDw.pt (fZ (bK (bq (dk "str" (ad 0 rfl (pv 0)) rfl B.isinstance_ rfl B.str_ cA))) (fY (bK (bq (bt (k1:= .bor) D_is_written_number (hr.mono (by decide)) aB (ae (PD.le (ad 0 rfl (pv 0)) (Kd.le.bor _)) am))))))) (cI (gD O FB af))))
theorem uc {C:Addr}{Bb newId initId:String}{bm:List Value}{f:Addr}{fd:FuncData}{t_FIGURES:Tok}{t_MOST_FIGURES:Tok}{t_WIDEST:Tok} (F:Fun K "read_row" "read_row" cK f fd) (B:Blt mg) (G_FIGURES:mg "FIGURES"=some (.str "0123456789" t_FIGURES)) (G_MOST_FIGURES:mg "MOST_FIGURES"=some (.int 60 t_MOST_FIGURES)) (G_WIDEST:mg "WIDEST"=some (.int 8 t_WIDEST)) (D_read_number:Def P w K mg base 3 "read_number" ["text"] (spD K .imm dL)) (O:PyProof.Rows.OwnCls "NoText" C bm newId mg base) (FB:ExcBaseFacts Bb newId initId bm) (DX_read_number:DefX P w K mg base C 3 "read_number" ["text"] (spX K C aX)):
  FnOk P w K mg base (CXe P w base C) 4 f fd ["text"] (spX K C aF):=
 j9 (k:=3) [] F eu rfl rfl fun cdv A outer s H E hr=>
   (j8 (j8 (m:=dM) (m':=dN) (cI (gB (bK (bq (dk "str" (ad 0 rfl (pv 0)) rfl B.isinstance_ rfl B.str_ cA))) (cI (gD O FB af))))
    (eh (rk:= .imm) (aP (bK (bq (dk "str" (ad 0 rfl (pv 0)) rfl B.isinstance_ rfl B.str_ cA))) (aA du) aO) (eh (rk:= .imm) (aW (i:=1) rfl (PD.le (cg PySem.F.slot_str_split PySem.F.type_str_split gj gn gp (ad 0 rfl (pv 0)) af) Kd.le.one_any) (Kd.le.refl _) eu.nd rfl (Or.inl rfl)) (cI (gB (bj eJ eU (bC (k1:= .bor) cU dg rfl B.len_ bH (ae (PD.le (ad 1 rfl (pv 1)) (Kd.le.bor _)) am)) (PE.pd_c (aZ (v:= .int 8) rfl G_WIDEST ⟨_,rfl⟩) fun _=> .int _) (bc _)) (cI (gD O FB af)))))))
    (m':=dO)
    (eh (rk:= .imm) (aP (bK (bq (dk "str" (ad 0 rfl (pv 0)) rfl B.isinstance_ rfl B.str_ cA))) (aA du) aO) (eh (rk:= .imm) (aW (i:=1) rfl (PD.le (cg PySem.F.slot_str_split PySem.F.type_str_split gj gn gp (ad 0 rfl (pv 0)) af) Kd.le.one_any) (Kd.le.refl _) eu.nd rfl (Or.inl rfl)) (eh (rk:= .imm) (aP (bj eJ eU (bC (k1:= .bor) cU dg rfl B.len_ bH (ae (PD.le (ad 1 rfl (pv 1)) (Kd.le.bor _)) am)) (PE.pd_c (aZ (v:= .int 8) rfl G_WIDEST ⟨_,rfl⟩) fun _=> .int _) (bc _)) (aA du) aO)
     (cI (sV (sW (tD ["word"] [none] [] (fun _ _ z=>sT z) rfl rfl rfl (je (ad 1 rfl (pv 1)))
      (fun _ _ _ _=>(dh rfl (cO (i:=0) (show (["word"]:List Str).Nodup by decide+kernel) rfl (Or.inl rfl))))
      (fun _ _ _ _=>(bt (k1:= .bor) D_read_number (hr.mono (by decide)) aB (ae (PD.le (ad 0 rfl (pv 0)) (Kd.le.bor _)) am)))
      (fun _ _ _ _=>(sX (k1:= .bor) DX_read_number (hr.mono (by decide)) (fun _ _ z=>tw z) (ae (PD.le (ad 0 rfl (pv 0)) (Kd.le.bor _)) am)))
      (d7 0) rfl rfl rfl) rfl B.tuple_ fO)))))))
theorem ud {C CH C1 C2 C3 C4 C5 C6 C7 C8:Addr}{f:Addr}{fd:FuncData}{t_FIGURES:Tok}{t_MOST_FIGURES:Tok}{t_WIDEST:Tok} (F:Fun K "_law_refused" "_law_refused" dF f fd) (B:Blt mg) (G_FIGURES:mg "FIGURES"=some (.str "0123456789" t_FIGURES)) (G_MOST_FIGURES:mg "MOST_FIGURES"=some (.int 60 t_MOST_FIGURES)) (G_WIDEST:mg "WIDEST"=some (.int 8 t_WIDEST)) (DX_read_row:DefX P w K mg base C 4 "read_row" ["text"] (spX K C aF)) (Z:ExcK K C) (hNT:mg "NoText"=some (.ref C)) (hHE:mg "HouseError"=some (.ref CH)) (m1:mg "NoBook"=some (.ref C1)) (m2:mg "NoDeed"=some (.ref C2)) (m3:mg "NoHeap"=some (.ref C3)) (m4:mg "NoMoment"=some (.ref C4)) (m5:mg "NoName"=some (.ref C5)) (m6:mg "NoRow"=some (.ref C6)) (m7:mg "TooLate"=some (.ref C7)) (m8:mg "TooMuch"=some (.ref C8)) (bv:mg "ValueError"=none) (x1:PySem.W.exmOne K (.ref C) (.ref C)=some true) (x2:PySem.W.exmOne K (.ref C) (.ref CH)=some true) (kt:PySem.W.kitAny K (.ref C) ([C1,C2,C3,C4,C5,C6,C7,C8].map Value.ref)=some false) (kn:PySem.W.kitOne K (.ref C) (.ref C)=some true) (kv:PySem.W.kitOne K (.ref C) (.type "ValueError")=some true):
  FnOk P w K mg base CX0 5 f fd ["_law_text","_law_cell"] (spD K .imm dP):=
 bO (rk:= .imm) (k:=4) [] F ey rfl rfl fun cdv A outer s H E hr=>
   (av (aW (i:=2) rfl (PD.le i2 Kd.le.imm_any) (Kd.le.refl _) ey.nd rfl (Or.inl rfl))
   (av (aP (bj (eS hr.units) eV (ah aR aV (ad 1 rfl (pv 1)) ai) ai (bc _))
    (kh (k1:= .bor) DX_read_row (hr.mono (by decide)) (fun _ _ z=>z) rfl rfl (ae (PD.le (ad 0 rfl (pv 0)) (Kd.le.bor _)) am) hNT x1 ey.nd 2 3 (by decide) rfl rfl rfl rfl (eG (fF (lE (lD (pv 2)))) fE) (fun D σ H ea oe h1 h2 h3 h4 h5=>tP D σ H ea h2 h5))
    aO)
   (kh (k1:= .bor) DX_read_row (hr.mono (by decide)) (fun _ _ z=>z) rfl rfl (ae (PD.le (ad 0 rfl (pv 0)) (Kd.le.bor _)) am) hHE x2 ey.nd 2 3 (by decide) rfl rfl rfl rfl
    (eG (eH (i:=4) ey.nd rfl (Or.inl rfl) (d3 (tL Z) rfl B.isinstance_ eP (aI (pv 2) (aI (hR (aI (aZ (v:= .ref C1) rfl m1 rfl) (aI (aZ (v:= .ref C2) rfl m2 rfl) (aI (aZ (v:= .ref C3) rfl m3 rfl) (aI (aZ (v:= .ref C4) rfl m4 rfl) (aI (aZ (v:= .ref C5) rfl m5 rfl) (aI (aZ (v:= .ref C6) rfl m6 rfl) (aI (aZ (v:= .ref C7) rfl m7 rfl) (aI (aZ (v:= .ref C8) rfl m8 rfl) bU))))))))) bU))))
     (eG (fF (fC (d3 (kc Z) rfl B.isinstance_ eP (aI (pv 2) (aI (aZ (v:= .ref C) rfl hNT rfl) bU))) (fC (d3 (kc Z) rfl B.isinstance_ eP (aI (pv 2) (aI (gS (v:= .ty "ValueError") rfl bv tO rfl) bU))) (gY (lM (pv 4)))))) fE))
    (fun D σ H ea oe h1 h2 h3 h4 h5=>tQ (cs:=[C1,C2,C3,C4,C5,C6,C7,C8]) (by decide) D σ H ea oe h1 h2 (by rw [h3];exact (show 4<5 by decide)) h4 h5 (fun _ _ _ q=>q) (Nat.le_of_lt (iC (n:=8) (by decide))) kt (fun _ z=>z) (fun _ z=>z) kn kv))))
theorem ue {f:Addr}{fd:FuncData}{t_FIGURES:Tok}{t_MOST_FIGURES:Tok}{t_WIDEST:Tok} (F:Fun K "law" "law" bR f fd) (B:Blt mg) (G_FIGURES:mg "FIGURES"=some (.str "0123456789" t_FIGURES)) (G_MOST_FIGURES:mg "MOST_FIGURES"=some (.int 60 t_MOST_FIGURES)) (G_WIDEST:mg "WIDEST"=some (.int 8 t_WIDEST)) (D_w_mixed:Def P w K mg base 1 "_law_mixed" ["_law_cell","_law_k"] (spD K .imm dH)) (D_w_refused:Def P w K mg base 5 "_law_refused" ["_law_text","_law_cell"] (spD K .imm dP)) (D_w_spoiled:Def P w K mg base 2 "_law_spoiled" ["_law_words","_law_cell"] (spA K M_w_spoiled)) (D_read_row:Def P w K mg base 4 "read_row" ["text"] (spD K .imm eD)):
  FnOk P w K mg base CX0 6 f fd ["_law_script"] (spD K .imm dQ):=
 bO (rk:= .imm) (k:=5) [] F dG rfl rfl fun cdv A outer s H E hr=>
   (av (aW (i:=1) rfl (PD.le (jb (df (k1:= .bor) iq ja rfl B.list_ iQ (ae (PD.le (og (ad 0 rfl (pv 0)) eY (eZ ai)) (Kd.le.bor _)) am)) (cZ (k:= .bor) (ae (PD.le ai (Kd.le.bor _)) (ae (PD.le ai (Kd.le.bor _)) am)))) Kd.le.one_any) (Kd.le.refl _) dG.nd rfl (Or.inl rfl))
   (av (oH PassesOwn.never rfl (jf rfl B.range_ (bC (k1:= .bor) cU dg rfl B.len_ bH (ae (PD.le (ad 1 rfl (pv 1)) (Kd.le.bor _)) am))) (dh rfl (cO (i:=2) dG.nd rfl (Or.inl rfl)))
   (av (aW (i:=3) rfl (PD.le (bt (k1:= .bor) D_w_mixed (hr.mono (by decide)) aB (ae (PD.le (eX (ad 1 rfl (pv 1)) (ad 2 rfl (pv 2)) (fun _ _=>rfl)) (Kd.le.bor _)) (ae (PD.le (ad 2 rfl (pv 2)) (Kd.le.bor _)) am))) Kd.le.imm_any) (Kd.le.refl _) dG.nd rfl (Or.inr rfl))
   (av (aW (i:=4) rfl (PD.le (df (k1:= .bor) ir i9 rfl B.tuple_ fO (ae (PD.le (gd ["_law_j","_law_cell"] [none,some 3] [] (hc:=rfl) (hi:=(jf rfl B.range_ (ah cR cY ai (ah aR aV (ad 3 rfl (pv 3)) ai)))) (hg:=fun _ _ _ _=>(dh rfl (cO (i:=0) (show (["_law_j","_law_cell"]:List Str).Nodup by decide+kernel) rfl (Or.inl rfl)))) (ht:=fun _ _ _ _=>e6) (he:=fun _ _ _ _=>(ah g9 i5 (ah aR aV (bt (k1:= .bor) D_w_mixed (hr.mono (by decide)) aB (ae (PD.le (ad 1 rfl (pv 1)) (Kd.le.bor _)) (ae (PD.le (ad 0 rfl (pv 0)) (Kd.le.bor _)) am))) ai) ai)) (hz:=(d7 0)) (ck:=rfl) (hp:=rfl) (hz':=rfl)) (Kd.le.bor _)) am)) Kd.le.imm_any) (Kd.le.refl _) dG.nd rfl (Or.inl rfl))
   (av (oG (i:=5) (hi':=rfl) (hN:=dG.nd) (hx:=rfl) (hl:=Or.inl rfl) ["_law_number"] [none] [] (hc:=rfl) (hi:=(ou (ad 4 rfl (pv 4)))) (hg:=fun _ _ _ _=>(dh rfl (cO (i:=0) (show (["_law_number"]:List Str).Nodup by decide+kernel) rfl (Or.inl rfl)))) (ht:=fun _ _ _ _=>e6) (he:=fun _ _ _ _=>(df (k1:= .bor) mz oP rfl B.str_ cA (ae (PD.le (ad 0 rfl (pv 0)) (Kd.le.bor _)) am))) (hz:=(d7 0)) (ck:=rfl) (hp:=rfl) (hz':=rfl))
   (av (aP (bK (bq (bt (k1:= .bor) D_w_refused (hr.mono (by decide)) aB (ae (PD.le (sD D_w_spoiled (hr.mono (by decide)) (ae (ad 5 rfl (pv 5)) (ae (PD.le (ah bS bX (ad 3 rfl (pv 3)) ai) Kd.le.imm_any) am))) (Kd.le.bor _)) (ae (PD.le (ah bS bX (ad 3 rfl (pv 3)) ai) (Kd.le.bor _)) am)))))
    (aA (be cC (Kd.le.refl _) aB))
    aO)
   (aA (aP (bj (fR hr.units) fX (bt (k1:= .bor) D_read_row (hr.mono (by decide)) aB (ae (PD.le (cg PySem.F.slot_str_join PySem.F.type_str_join gk gq gr af (ad 5 rfl (pv 5))) (Kd.le.bor _)) am)) (ad 4 rfl (pv 4)) (bc _))
    (aA (be cC (Kd.le.refl _) aB))
    aO)))))))
   (aA (be cC (Kd.le.refl _) aB))))
end
end K56
set_option maxHeartbeats 1000000
namespace K56
open PySem L2
noncomputable def Good (ds:List Nat):Prop:=ds≠[]/\ds.length<=60/\(∀d∈ds,d<10)/\(1<ds.length->ds.head?≠some 0)
noncomputable def txt (ds:List Nat):Str:=⟨(ds.map (· +48)).toArray⟩
noncomputable def val (ds:List Nat):Nat:=ds.foldl (fun a d=>a*10+d) 0
theorem uf (ds:List Nat) (d:Nat):val (ds++[d])=val ds*10+d:=by
 unfold val
 rw [List.foldl_append]
 rfl
theorem ug (ds:List Nat): ∀a:Nat,a<=ds.foldl (fun a d=>a*10+d) a:=by
 induction ds with
 |nil=>intro a;exact Nat.le_refl _
 |cons d ds ih=>intro a;exact Nat.le_trans (by lia) (ih (a*10+d))
theorem uh {ds:List Nat} (hn:ds≠[]) (h:ds.head?≠some 0):0<val ds:=by
 cases ds with
 |nil=>exact absurd rfl hn
 |cons d ds=>
  have:d≠0:=fun z=>h (by rw [z];rfl)
  have:=ug ds (0*10+d)
  show 0<ds.foldl (fun a d=>a*10+d) (0*10+d)
  lia
theorem kB (d:Nat) (h:d<10):(Nat.digitChar d).toNat=d+48:=by
 have:=PySem.W.KIN.digit_back d h
 revert d
 decide
theorem ui: ∀(n:Nat) (ds:List Nat),ds.length=n->ds≠[]->(∀d∈ds,d<10)->(1<ds.length->ds.head?≠some 0)->(Nat.toDigits 10 (val ds)).map Char.toNat=ds.map (· +48):=by
 intro n
 induction n with
 |zero=>intro ds h hn;exact absurd (List.eq_nil_of_length_eq_zero h) hn
 |succ n ih=>
  intro ds hl hn hd hh
  obtain ⟨es,d,rfl⟩: ∃es d,ds=es++[d]:=⟨ds.dropLast,ds.getLast hn,(List.dropLast_concat_getLast hn).symm⟩
  have d10:d<10:=hd d (by simp)
  rw [uf]
  by_cases he:es=[]
  ·subst he
   show (Nat.toDigits 10 (0*10+d)).map Char.toNat=_
   rw [Nat.zero_mul,Nat.zero_add,Nat.toDigits_of_lt_base d10]
   simp [kB d d10]
  ·have hl':es.length=n:=by rw [List.length_append] at hl;simp at hl;exact hl
   have ln:0<es.length:=List.length_pos_iff.mpr he
   have hh':es.head?≠some 0:=fun z=>hh (by rw [List.length_append];simp;lia) (by
    cases es with
    |nil=>exact absurd rfl he
    |cons x es=>exact z)
   have t:Nat.toDigits 10 (val es)++Nat.toDigits 10 d=Nat.toDigits 10 (10*val es+d):=Nat.toDigits_append_toDigits (by decide) (uh he hh') d10
   rw [Nat.mul_comm] at t
   rw [<-t,List.map_append,ih es hl' he (fun x hx=>hd x (by simp [hx])) (fun _=>hh'),Nat.toDigits_of_lt_base d10]
   simp [kB d d10]
theorem bh {a b:Str} (h:a.cps.toList=b.cps.toList):a=b:=by
 obtain ⟨a⟩:=a
 obtain ⟨b⟩:=b
 congr 1
 exact Array.ext' h
theorem aL (a b:Str):(a++b).cps.toList=a.cps.toList++b.cps.toList:=by
 show (a.cps++b.cps).toList=_
 simp
theorem bi (ds:List Nat):(txt ds).cps.toList=ds.map (· +48):=rfl
theorem kC {ds:List Nat} (g:Good ds):Str.ofString (toString ((val ds:Nat):Int))=txt ds:=bh (by
 rw [PySem.W.KIN.signs_num,ui ds.length ds rfl g.1 g.2.2.1 g.2.2.2,bi])
noncomputable def WN (v:Int) (t:Str):Prop:= ∃ds,Good ds/\((v=(val ds:Nat)/\t=txt ds) \/(0<val ds/\v= -((val ds:Nat):Int)/\t=(⟨#[45]⟩:Str)++txt ds))
theorem kD: ∀(ds:List Nat) (a:Nat),(∀d∈ds,d<10)->ds.foldl (fun a d=>a*10+d) a<(a+1)*10^ds.length
 |[],a,_=>by simp
 |d::ds,a,h=>by
  have:=kD ds (a*10+d) fun x hx=>h x (.tail _ hx)
  have hd:=h d (.head _)
  rw [List.foldl_cons,List.length_cons,Nat.pow_succ]
  have e:(a*10+d+1)*10^ds.length<=(a+1)*10*10^ds.length:=Nat.mul_le_mul_right _ (by lia)
  have e2:(a+1)*(10^ds.length*10)=(a+1)*10*10^ds.length:=by rw [Nat.mul_comm (10^ds.length),Nat.mul_assoc]
  lia
theorem kE {ds:List Nat} (g:Good ds):val ds<10^60:=by
 have:=kD ds 0 g.2.2.1
 have e:(10:Nat)^ds.length<=10^60:=Nat.pow_le_pow_right (by decide) g.2.1
 unfold val
 lia
theorem uj {ds:List Nat} (g:Good ds) (p:0<val ds):Str.ofString (toString (-((val ds:Nat):Int)))=(⟨#[45]⟩:Str)++txt ds:=by
 have h:=kC g
 obtain ⟨m,hm⟩: ∃m,val ds=m+1:=⟨val ds-1,by lia⟩
 rw [hm] at h|-
 rw [<-h]
 apply bh
 have e2: -(((m+1:Nat)):Int)=Int.negSucc m:=rfl
 rw [aL,e2,PyProof.Rows.signs_ofString,PySem.W.KIN.signs_num]
 show ("-"++Nat.repr (m+1)).toList.map Char.toNat=_
 rw [String.toList_append,List.map_append,Nat.toList_repr]
 rfl
theorem WN.str {v:Int}{t:Str} (h:WN v t):fStr [.int v]=some (.str t):=by
 obtain ⟨ds,g,⟨rfl,rfl⟩|⟨p,rfl,rfl⟩⟩:=h
 ·have b:=kE g
  have c:((val ds:Nat):Int).natAbs<2^1920:=Nat.lt_of_lt_of_le (by rw [Int.natAbs_natCast];exact b) (by decide+kernel)
  show (if _ then some (Dv.str (Str.ofString (toString ((val ds:Nat):Int)))) else none)=_
  rw [if_pos c,kC g]
 ·have b:=kE g
  have c:(-((val ds:Nat):Int)).natAbs<2^1920:=Nat.lt_of_lt_of_le (by rw [Int.natAbs_neg,Int.natAbs_natCast];exact b) (by decide+kernel)
  show (if _ then some (Dv.str (Str.ofString (toString (-((val ds:Nat):Int))))) else none)=_
  rw [if_pos c,uj g p]
theorem l0:(Str.ofString "0").cps.toList=[48]:=by rw [PyProof.Rows.signs_ofString];rfl
theorem lm:(Str.ofString "-").cps.toList=[45]:=by rw [PyProof.Rows.signs_ofString];rfl
theorem lm0:(Str.ofString "-0").cps.toList=[45,48]:=by rw [PyProof.Rows.signs_ofString];rfl
theorem lc:Str.ofString ","=⟨#[44]⟩:=bh (by rw [PyProof.Rows.signs_ofString];rfl)
theorem le_:Str.ofString ""=Str.empty:=bh (by rw [PyProof.Rows.signs_ofString];rfl)
theorem ak (t:Str):t.length=t.cps.toList.length:=by
 show t.cps.size=_
 simp
theorem eE {t z:Str}{c:Nat} (hz:z.cps.toList=[c]):Txt.startswith t z=decide (t.cps.toList.head?=some c):=by
 have zl:z.length=1:=by rw [ak,hz];rfl
 unfold Txt.startswith
 rw [StrLaws.subAt_eq,zl,hz,ak t]
 cases t.cps.toList with
 |nil=>rfl
 |cons a r=>
  show (decide (0+1<=(a::r).length)&&([a]==[c]))=_
  rw [decide_eq_true (show 0+1<=(a::r).length by simp)]
  by_cases h:a=c
  ·subst h;simp
  ·simp [h]
theorem uk (a b:Str):(a==b)=decide (a=b):=by
 by_cases h:a=b
 ·subst h;simp
 ·rw [decide_eq_false h];exact beq_eq_false_iff_ne.mpr h
theorem fv {a b:Str} (ha:PyData.strOk a=true) (hb:PyData.strOk b=true):dNe (.str a) (.str b)=some (.bl (!decide (a=b))):=by
 have ok:eqOk (.str a) (.str b)=true:=by
  show (PyData.strOk a&&PyData.strOk b&&decide _)=true
  rw [ha,hb]
  rfl
 show (if eqOk _ _=true then some (Dv.bl (!(a==b))) else none)=_
 rw [if_pos ok,uk]
theorem cp {a:Str} (h: ∀c∈a.cps.toList,c<128):PyData.strOk a=true:=by
 unfold PyData.strOk
 rw [Array.all_eq_true']
 intro c hc
 have:=h c (by simpa using hc)
 exact decide_eq_true (by lia)
theorem kF {a:Str} (h: ∀c∈a.cps.toList,c<128):a.cps.all (· <128)=true:=by
 rw [Array.all_eq_true']
 intro c hc
 exact decide_eq_true (h c (by simpa using hc))
theorem dR {ds:List Nat} (h: ∀d∈ds,d<10): ∀c∈(txt ds).cps.toList,48<=c/\c<58:=by
 rw [bi]
 intro c hc
 obtain ⟨d,hd,rfl⟩:=List.mem_map.mp hc
 have:=h d hd
 lia
theorem ul: ∀d:Nat,d<10->dInS (.str ⟨#[d+48]⟩) (.str (Str.ofString "0123456789"))=some (.bl true):=by
 intro d hd
 have e:Str.ofString "0123456789"=⟨#[48,49,50,51,52,53,54,55,56,57]⟩:=bh (by rw [PyProof.Rows.signs_ofString];rfl)
 rw [e]
 have: ∀d:Fin 10,(!(Builtin.Str.occurrences ⟨#[48,49,50,51,52,53,54,55,56,57]⟩ ⟨#[d.val+48]⟩ 0 10 1).isEmpty)=true:=by decide+kernel
 have:=this ⟨d,hd⟩
 show some (Dv.bl (!(Builtin.Str.occurrences ⟨#[48,49,50,51,52,53,54,55,56,57]⟩ ⟨#[d+48]⟩ 0 10 1).isEmpty))=_
 rw [this]
theorem fw (ds:List Nat):(txt ds).length=ds.length:=by rw [ak,bi,List.length_map]
theorem kG {ds:List Nat} (g:Good ds):bf [.str (txt ds)]=some (.bl true):=by
 have asc:=dR g.2.2.1
 have ln:cf [.str (txt ds)]=some (.int (ds.length:Int)):=by
  show (if (txt ds).length<=lim then some (Dv.int ((txt ds).length:Int)) else none)=_
  rw [fw,if_pos (by have:=g.2.1;show _<=100000;lia)]
 have l1: ¬((ds.length:Int)<1):=by
  have:=List.length_pos_iff.mpr g.1
  lia
 have l2: ¬((60:Int)<(ds.length:Int)):=by
  have:=g.2.1
  lia
 have hs:iS (eVar 0) [some (.str (txt ds))]=some (ds.map fun d=> .str ⟨#[d+48]⟩):=by
  show (if (txt ds).cps.size<=lim/\(txt ds).cps.all (· <128)=true then some (ci (txt ds)) else none)=_
  rw [if_pos ⟨by have:=fw ds;have:=g.2.1;show (txt ds).length<=100000;lia,kF fun c hc=>by have:=asc c hc;lia⟩]
  unfold ci
  rw [bi,List.map_map]
  rfl
 have hc:=ee (g:=gN 0) (c:=tyes) (el:=eA) (δ:=[none]) (fun d:Nat=>Dv.str ⟨#[d+48]⟩) (fun _=> .bl true) ds (fun d hd=>by
  have:=ul d (g.2.2.1 d hd)
  simp_arith only [eA,this])
 have fa:fAll [.lst (ds.map fun _=>Dv.bl true)]=some (.bl true):=by
  have e:(ds.map fun _=>Dv.bl true)=(ds.map fun _=>true).map .bl:=by rw [List.map_map];rfl
  rw [e]
  show (cF _).map _=_
  rw [gf]
  simp
 have sw:=eE (t:=txt ds) (z:=Str.ofString "0") l0
 have st:bE (.str (txt ds)) (.str (Str.ofString "0"))=some (.bl (decide ((txt ds).cps.toList.head?=some 48))):=congrArg (fun b=>some (Dv.bl b)) sw
 by_cases h0:(txt ds).cps.toList.head?=some 48
 ·have e0:txt ds=Str.ofString "0":=by
   apply bh
   rw [l0,bi]
   rw [bi] at h0
   cases ds with
   |nil=>cases h0
   |cons d r=>
    have d0:d=0:=by
     have:some (d+48)=some 48:=h0
     have:=Option.some.inj this
     lia
    subst d0
    cases r with
    |nil=>rfl
    |cons x r=>exact absurd rfl (g.2.2.2 (by simp))
  have ne:dNe (.str (txt ds)) (.str (Str.ofString "0"))=some (.bl false):=by
   rw [fv (cp fun c hc=>by have:=asc c hc;lia) (cp (by rw [l0];simp)),decide_eq_true e0]
   rfl
  rw [decide_eq_true h0] at st
  simp_arith only [bf,cn,Nat.sub_self,ln,decide_eq_false l1,decide_eq_false l2,st,ne,hs,hc,fa]
 ·rw [decide_eq_false h0] at st
  simp_arith only [bf,cn,Nat.sub_self,ln,decide_eq_false l1,decide_eq_false l2,st,hs,hc,fa]
theorem kH (t:Str) (h:1<=t.length):(Txt.slice t (some 1) none).cps.toList=t.cps.toList.drop 1:=by
 have e:Builtin.Str.strSliceIndices (some 1) none 1 t.length=(List.range (t.length-1)).map (fun k=>1+k):=by
  rw [<-StrLaws.strSliceIndices_plain (a:=1) (b:=t.length) h (Nat.le_refl _)]
  have h2: ¬(((t.length:Nat):Int)<0):=by lia
  have e2:max (0:Int) (min ((t.length:Nat):Int) ((t.length:Nat):Int))=(t.length:Nat):=by lia
  simp only [Builtin.Str.strSliceIndices,h2,if_false,e2,show ((1:Int)>0)=True from by simp,if_true]
  rfl
 unfold Txt.slice
 rw [e,List.length_map,List.length_range]
 rw [if_neg (by
  have:(t.length-1==t.length)=false:=beq_eq_false_iff_ne.mpr (by lia)
  rw [this]
  simp)]
 show ((((List.range (t.length-1)).map (fun k=>1+k)).filterMap (t.cps[·]?)).toArray).toList=_
 have pk:=StrLaws.picks t.cps.toList (t.length-1) 1 (by have:=ak t;lia)
 have e3:(((List.range (t.length-1)).map (fun k=>1+k)).filterMap (t.cps[·]?))=(((List.range (t.length-1)).map (fun k=>1+k)).filterMap (t.cps.toList[·]?)):=by
  congr 1
  funext k
  simp
 rw [List.toList_toArray,e3,pk]
 apply List.take_of_length_le
 have:=ak t
 rw [List.length_drop]
 lia
theorem WN.asc {v:Int}{t:Str} (h:WN v t): ∀c∈t.cps.toList,c=45 \/(48<=c/\c<=57):=by
 obtain ⟨ds,g,⟨rfl,rfl⟩|⟨p,rfl,rfl⟩⟩:=h
 ·intro c hc
  have:=dR g.2.2.1 c hc
  lia
 ·intro c hc
  rw [aL] at hc
  rcases List.mem_append.mp hc with hc|hc
  ·left
   exact List.mem_singleton.mp hc
  ·have:=dR g.2.2.1 c hc
   lia
theorem WN.len {v:Int}{t:Str} (h:WN v t):t.length<=61:=by
 obtain ⟨ds,g,⟨rfl,rfl⟩|⟨p,rfl,rfl⟩⟩:=h
 ·rw [fw];have:=g.2.1;lia
 ·rw [ak,aL,List.length_append,bi,List.length_map]
  have:=g.2.1
  show 1+ds.length<=61
  lia
theorem WN.ok {v:Int}{t:Str} (h:WN v t):PyData.strOk t=true:=cp fun c hc=>by
 have:=h.asc c hc
 lia
theorem um {v:Int}{t:Str} (h:WN v t):bg [.str t]=some (.bl true):=by
 have ok:=h.ok
 obtain ⟨ds,g,⟨rfl,rfl⟩|⟨p,rfl,rfl⟩⟩:=h
 ·have mp:=kG g
  have sw:=eE (t:=txt ds) (z:=Str.ofString "-") lm
  have hn: ¬((txt ds).cps.toList.head?=some 45):=fun z=>by
   have:=dR g.2.2.1 45 (List.mem_of_head? z)
   lia
  rw [decide_eq_false hn] at sw
  have st:bE (.str (txt ds)) (.str (Str.ofString "-"))=some (.bl false):=congrArg (fun b=>some (Dv.bl b)) sw
  simp_arith only [bg,dI,st,mp]
 ·have mp:=kG g
  have cl:((⟨#[45]⟩:Str)++txt ds).cps.toList=45::(txt ds).cps.toList:=aL _ _
  have sw:=eE (t:=(⟨#[45]⟩:Str)++txt ds) (z:=Str.ofString "-") lm
  rw [decide_eq_true (by rw [cl];rfl)] at sw
  have ne:(⟨#[45]⟩:Str)++txt ds≠Str.ofString "-0":=fun z=>by
   have:=congrArg (fun a:Str=>a.cps.toList) z
   rw [cl,lm0,bi] at this
   have e:=(List.cons.inj this).2
   cases ds with
   |nil=>cases e
   |cons d r=>
    obtain ⟨e1,e2⟩:=List.cons.inj e
    have e1':d+48=48:=e1
    have d0:d=0:=by lia
    subst d0
    cases r with
    |nil=>exact absurd p (by decide)
    |cons _ _=>cases e2
  have dn:=fv (a:=(⟨#[45]⟩:Str)++txt ds) (b:=Str.ofString "-0") ok (cp (by rw [lm0];simp))
  rw [decide_eq_false ne] at dn
  have ln:1<=((⟨#[45]⟩:Str)++txt ds).length:=by rw [ak,cl];simp
  have sl:Txt.slice ((⟨#[45]⟩:Str)++txt ds) (some 1) none=txt ds:=bh (by rw [kH _ ln,cl];rfl)
  have l9:((⟨#[45]⟩:Str)++txt ds).length<=61:=WN.len ⟨ds,g,.inr ⟨p,rfl,rfl⟩⟩
  generalize (⟨#[45]⟩:Str)++txt ds=t at*
  have st:bE (.str t) (.str (Str.ofString "-"))=some (.bl true):=congrArg (fun b=>some (Dv.bl b)) sw
  have es:dq (eVar 0) (br (eC (.int 1))) bB [some (.str t)]=some (.str (txt ds)):=by
   show (if t.length<=lim then some (Dv.str (Txt.slice t (some 1) none)) else none)=_
   rw [if_pos (by show _<=100000;lia),sl]
  simp_arith only [bg,dI,Nat.sub_self,st,dn,es,mp]
theorem gO: ∀(ds:List Nat) (a:Nat),(ds.map (· +48)).foldl (fun v c=>v*10+(c-48)) a=ds.foldl (fun a d=>a*10+d) a
 |[],_=>rfl
 |d::ds,a=>by
  rw [List.map_cons,List.foldl_cons,List.foldl_cons,Nat.add_sub_cancel]
  exact gO ds _
theorem kI {v:Int}{t:Str} (h:WN v t):dL [.str t]=some (.int v):=by
 have mi:=um h
 have l9:=h.len
 have it:PySem.intText? t=some v:=by
  obtain ⟨ds,g,⟨rfl,rfl⟩|⟨p,rfl,rfl⟩⟩:=h
  ·have:=PySem.intText_digits (x:=txt ds) (fun c hc=>by have:=dR g.2.2.1 c hc;exact ⟨by lia,by lia⟩) (by rw [bi];simpa using g.1) (by lia)
   rw [this,bi]
   congr 2
   exact gO ds 0
  ·have:=PySem.intText_neg (x:=(⟨#[45]⟩:Str)++txt ds) (cs:=(txt ds).cps.toList) (aL _ _) (fun c hc=>by have:=dR g.2.2.1 c hc;exact ⟨by lia,by lia⟩) (by rw [bi];simpa using g.1) (by lia)
   rw [this,bi]
   congr 2
   exact congrArg _ (gO ds 0)
 have fi:fk [.str t]=some (.int v):=by
  show (if t.length<=640 then (PySem.intText? t).map Dv.int else none)=_
  rw [if_pos (by lia),it]
  rfl
 simp_arith only [dL,kw,show isiN "str" "str"=true from by decide+kernel,if_true,mi,fi]
theorem kJ {c:Nat}: ∀{a b x y:List Nat},c∉a->c∉b->a++c::x=b++c::y->a=b/\x=y
 |[],[],x,y,_,_,h=>⟨rfl,(List.cons.inj h).2⟩
 |[],b::bs,x,y,_,hb,h=>absurd (List.mem_cons.mpr (.inl (List.cons.inj h).1)) hb
 |a::as,[],x,y,ha,_,h=>absurd (List.mem_cons.mpr (.inl (List.cons.inj h).1.symm)) ha
 |a::as,b::bs,x,y,ha,hb,h=>by
  obtain ⟨h1,h2⟩:=List.cons.inj h
  obtain ⟨e1,e2⟩:=kJ (fun z=>ha (.tail _ z)) (fun z=>hb (.tail _ z)) h2
  exact ⟨by rw [h1,e1],e2⟩
theorem dS (c:Nat) (a b:Str) (r:List Str):(Str.join ⟨#[c]⟩ (a::b::r)).cps.toList=a.cps.toList++c::(Str.join ⟨#[c]⟩ (b::r)).cps.toList:=by
 show ((a++(⟨#[c]⟩:Str))++Str.join ⟨#[c]⟩ (b::r)).cps.toList=_
 rw [aL,aL,List.append_assoc]
 rfl
theorem kK {c:Nat}: ∀{as bs:List Str},as≠[]->bs≠[]->(∀a∈as,c∉a.cps.toList)->(∀b∈bs,c∉b.cps.toList)->Str.join ⟨#[c]⟩ as=Str.join ⟨#[c]⟩ bs->as=bs
 |[],_,h,_,_,_,_=>absurd rfl h
 |_::_,[],_,h,_,_,_=>absurd rfl h
 |[a],[b],_,_,_,_,h=>by
  have:a=b:=h
  rw [this]
 |[a],b::b2::bs,_,_,ha,_,h=>by
  have h2:a.cps.toList=(Str.join ⟨#[c]⟩ (b::b2::bs)).cps.toList:=congrArg (fun x:Str=>x.cps.toList) h
  rw [dS] at h2
  exact absurd (by rw [h2];simp) (ha a (.head _))
 |a::a2::as,[b],_,_,_,hb,h=>by
  have h2:(Str.join ⟨#[c]⟩ (a::a2::as)).cps.toList=b.cps.toList:=congrArg (fun x:Str=>x.cps.toList) h
  rw [dS] at h2
  exact absurd (by rw [<-h2];simp) (hb b (.head _))
 |a::a2::as,b::b2::bs,_,_,ha,hb,h=>by
  have h2:(Str.join ⟨#[c]⟩ (a::a2::as)).cps.toList=(Str.join ⟨#[c]⟩ (b::b2::bs)).cps.toList:=congrArg (fun x:Str=>x.cps.toList) h
  rw [dS,dS] at h2
  obtain ⟨e1,e2⟩:=kJ (ha a (.head _)) (hb b (.head _)) h2
  have:=kK (as:=a2::as) (bs:=b2::bs) (by simp) (by simp) (fun x hx=>ha x (.tail _ hx)) (fun x hx=>hb x (.tail _ hx)) (bh e2)
  rw [bh e1,this]
theorem uo: ∀(ts:List Str),(∀t∈ts,∀c∈t.cps.toList,c<128)-> ∀c∈(Str.join ⟨#[44]⟩ ts).cps.toList,c<128
 |[],_,c,hc=>by cases hc
 |[t],h,c,hc=>h t (.head _) c hc
 |t::t2::r,h,c,hc=>by
  rw [dS] at hc
  rcases List.mem_append.mp hc with hc|hc
  ·exact h t (.head _) c hc
  ·rcases List.mem_cons.mp hc with rfl|hc
   ·decide
   ·exact uo (t2::r) (fun x hx=>h x (.tail _ hx)) c hc
theorem uq (x y:Str):Txt.split x y≠[]:=by
 unfold Txt.split
 split
 ·simp
 ·split
  ·simp
  ·rw [StrLaws.partsBetween_eq]
   obtain ⟨p,r,e⟩:=StrLaws.partsFrom_ne x y.length 0 (Builtin.Str.occurrences x y 0 x.length (x.length+1))
   rw [e]
   simp
theorem kL {c:Nat}{ts:List Str} (ne:ts≠[]) (h: ∀t∈ts,c∉t.cps.toList):Txt.split (Str.join ⟨#[c]⟩ ts) ⟨#[c]⟩=ts:=
 kK (uq _ _) ne (StrLaws.split_free _ c) h (StrLaws.join_split _ _)
noncomputable def en (p:Int×Str):Dv:= .tup [.int p.1,.str p.2]
theorem WN.free {v:Int}{t:Str} (h:WN v t):44∉t.cps.toList:=fun z=>by
 have:=h.asc 44 z
 lia
theorem kM: ∀(L:List Str),(∀t∈L,t.length<=61)->(L.map (·.length)).sum<=L.length*61
 |[],_=>by simp
 |t::L,h=>by
  have:=kM L fun x hx=>h x (.tail _ hx)
  have:=h t (.head _)
  rw [List.map_cons,List.sum_cons,List.length_cons,Nat.succ_mul]
  lia
theorem ur (L:List (Int×Str)) (ne:L≠[]) (hl:L.length<=8) (h: ∀p∈L,WN p.1 p.2):eD [.str (Txt.join ⟨#[44]⟩ (L.map (·.2)))]=some (.tup ((L.map (·.1)).map .int)):=by
 have sl:=kM (L.map (·.2)) fun t ht=>by
  obtain ⟨p,hp,rfl⟩:=List.mem_map.mp ht
  exact (h p hp).len
 rw [List.length_map] at sl
 have jl:(Txt.join ⟨#[44]⟩ (L.map (·.2))).length<=1000:=by
  unfold Txt.join
  rw [StrLaws.glued_eq_join]
  have:=StrLaws.join_length_le ⟨#[44]⟩ (L.map (·.2))
  rw [List.length_map] at this
  have e:(⟨#[44]⟩:Str).length=1:=rfl
  rw [e] at this
  lia
 have sj:Txt.split (Txt.join ⟨#[44]⟩ (L.map (·.2))) ⟨#[44]⟩=L.map (·.2):=by
  unfold Txt.join
  rw [StrLaws.glued_eq_join]
  exact kL (by simpa using ne) fun t ht=>by
   obtain ⟨p,hp,rfl⟩:=List.mem_map.mp ht
   exact (h p hp).free
 have ds:bw (.str (Txt.join ⟨#[44]⟩ (L.map (·.2)))) (.str (Str.ofString ","))=some (.lst (L.map fun p=> .str p.2)):=by
  rw [lc]
  show (if _ then some (Dv.lst ((Txt.split (Txt.join ⟨#[44]⟩ (L.map fun p:Int×Str=>p.2)) ⟨#[44]⟩).map Dv.str)) else none)=_
  rw [if_pos ⟨rfl,by show _<=100000;lia⟩,sj,List.map_map]
  rfl
 have hc:=ee (g:=gN 0) (c:=tyes) (el:=bF) (δ:=[none]) (fun p:Int×Str=>Dv.str p.2) (fun p=> .int p.1) L (fun p hp=>by
  have:=kI (h p hp)
  simp_arith only [bF,this])
 have e2:(L.map fun p:Int×Str=>Dv.int p.1)=(L.map (·.1)).map .int:=by rw [List.map_map];rfl
 rw [e2] at hc
 have hl':L.length<=100000:=by lia
 have h8: ¬((8:Int)<(L.length:Int)):=by lia
 generalize Txt.join ⟨#[44]⟩ (L.map (·.2))=T at*
 simp_arith only [eD,ky,show isiN "str" "str"=true from by decide+kernel,if_true,ds,decide_eq_false h8,hl',hc,dl]
noncomputable def mx (c k:Int):Int:=(c+k+1)*(48271+2*k*k)%2147483647*((c+k+1)*(48271+2*k*k)%2147483647)%2147483629
theorem kN (c k:Int) (k0:0<=k) (k1:k<=1000):dH [.int c,.int k]=some (.int (mx c k)):=by
 unfold mx
 have a:0<=2*k*k:=Int.mul_nonneg (by lia) k0
 have b:2*k*k<=2000*1000:=Int.mul_le_mul (by lia) k1 k0 (by lia)
 obtain ⟨y0,y1⟩:=bo ((c+k+1)*(48271+2*k*k)) 2147483647 (by decide)
 simp_arith only [dH,ko,fb (jF (i:=c+k+1) (j:=48271+2*k*k) ⟨by lia,by lia⟩),fb (jE (i:=2) (j:=k) ⟨by decide,by decide⟩),fb (jF (i:=2*k) (j:=k) ⟨by lia,by lia⟩),fb (jE (i:=(c+k+1)*(48271+2*k*k)%2147483647) (j:=(c+k+1)*(48271+2*k*k)%2147483647) ⟨by lia,by lia⟩)]
end K56
set_option maxHeartbeats 1000000
namespace K56
open PySem L2
noncomputable def fig (c:Nat):Bool:=decide (48<=c)&&decide (c<=57)
noncomputable def isPl (cs:List Nat):Bool:=(decide (1<=cs.length)&&decide (cs.length<=60))&&(!(decide (cs.head?=some 48)&& !decide (cs=[48]))&&cs.all fig)
noncomputable def isNu (cs:List Nat):Bool:=if cs.head?=some 45 then !decide (cs=[45,48])&&isPl (cs.drop 1) else isPl cs
theorem ut: ∀c:Nat,c<128->dInS (.str ⟨#[c]⟩) (.str (Str.ofString "0123456789"))=some (.bl (fig c)):=by
 intro d hd
 have e:Str.ofString "0123456789"=⟨#[48,49,50,51,52,53,54,55,56,57]⟩:=bh (by rw [PyProof.Rows.signs_ofString];rfl)
 rw [e]
 have: ∀d:Fin 128,(!(Builtin.Str.occurrences ⟨#[48,49,50,51,52,53,54,55,56,57]⟩ ⟨#[d.val]⟩ 0 10 1).isEmpty)=fig d.val:=by decide+kernel
 have:=this ⟨d,hd⟩
 show some (Dv.bl (!(Builtin.Str.occurrences ⟨#[48,49,50,51,52,53,54,55,56,57]⟩ ⟨#[d]⟩ 0 10 1).isEmpty))=_
 rw [this]
theorem kO {t:Str} (asc: ∀c∈t.cps.toList,c<128) (hl:t.length<=1000):bf [.str t]=some (.bl (isPl t.cps.toList)):=by
 have tl:=ak t
 have ln:cf [.str t]=some (.int (t.length:Int)):=by
  show (if t.length<=lim then some (Dv.int (t.length:Int)) else none)=_
  rw [if_pos (by show _<=100000;lia)]
 by_cases l1:((t.length:Int)<1)
 ·have e:isPl t.cps.toList=false:=by
   unfold isPl
   rw [decide_eq_false (show¬1<=t.cps.toList.length by lia)]
   rfl
  rw [e]
  simp_arith only [bf,cn,Nat.sub_self,ln,decide_eq_true l1]
 by_cases l2:((60:Int)<(t.length:Int))
 ·have e:isPl t.cps.toList=false:=by
   unfold isPl
   rw [decide_eq_false (show¬t.cps.toList.length<=60 by lia),Bool.and_false]
   rfl
  rw [e]
  simp_arith only [bf,cn,Nat.sub_self,ln,decide_eq_false l1,decide_eq_true l2]
 have sw:=eE (t:=t) (z:=Str.ofString "0") l0
 have st:bE (.str t) (.str (Str.ofString "0"))=some (.bl (decide (t.cps.toList.head?=some 48))):=congrArg (fun b=>some (Dv.bl b)) sw
 have hs:iS (eVar 0) [some (.str t)]=some (t.cps.toList.map fun c=> .str ⟨#[c]⟩):=by
  show (if t.cps.size<=lim/\t.cps.all (· <128)=true then some (ci t) else none)=_
  rw [if_pos ⟨by show t.length<=100000;lia,kF asc⟩]
  rfl
 have hc:=ee (g:=gN 0) (c:=tyes) (el:=eA) (δ:=[none]) (fun d:Nat=>Dv.str ⟨#[d]⟩) (fun d=> .bl (fig d)) t.cps.toList (fun d hd=>by
  have:=ut d (asc d hd)
  simp_arith only [eA,this])
 have fa:fAll [.lst (t.cps.toList.map fun d=>Dv.bl (fig d))]=some (.bl (t.cps.toList.all fig)):=by
  have e:(t.cps.toList.map fun d=>Dv.bl (fig d))=(t.cps.toList.map fig).map .bl:=by rw [List.map_map];rfl
  rw [e]
  show (cF _).map _=_
  rw [gf]
  simp [List.all_map,Function.comp_def]
 have e1:(decide (1<=t.cps.toList.length)&&decide (t.cps.toList.length<=60))=true:=by
  rw [decide_eq_true (show 1<=t.cps.toList.length by lia),decide_eq_true (show t.cps.toList.length<=60 by lia)]
  rfl
 unfold isPl
 rw [e1,Bool.true_and]
 have dn:=fv (a:=t) (b:=Str.ofString "0") (cp asc) (cp (by rw [l0];simp))
 have de:decide (t=Str.ofString "0")=decide (t.cps.toList=[48]):=by
  by_cases h:t=Str.ofString "0"
  ·rw [decide_eq_true h,decide_eq_true (by rw [h,l0])]
  ·rw [decide_eq_false h,decide_eq_false (fun z=>h (bh (by rw [l0];exact z)))]
 rw [de] at dn
 cases h0:decide (t.cps.toList.head?=some 48) with
 |true=>
  rw [h0] at st
  cases h1:decide (t.cps.toList=[48]) with
  |true=>
   rw [h1] at dn
   simp_arith only [bf,cn,Nat.sub_self,ln,decide_eq_false l1,decide_eq_false l2,st,dn,hs,hc,fa]
   all_goals rfl
  |false=>
   rw [h1] at dn
   simp_arith only [bf,cn,Nat.sub_self,ln,decide_eq_false l1,decide_eq_false l2,st,dn,hs,hc,fa]
   all_goals rfl
 |false=>
  rw [h0] at st
  simp_arith only [bf,cn,Nat.sub_self,ln,decide_eq_false l1,decide_eq_false l2,st,hs,hc,fa]
  all_goals rfl
end K56
set_option maxHeartbeats 1000000
namespace K56
open PySem L2
theorem uu {t:Str} (asc: ∀c∈t.cps.toList,c<128) (hl:t.length<=1000):bg [.str t]=some (.bl (isNu t.cps.toList)):=by
 have tl:=ak t
 have sw:=eE (t:=t) (z:=Str.ofString "-") lm
 have st:bE (.str t) (.str (Str.ofString "-"))=some (.bl (decide (t.cps.toList.head?=some 45))):=congrArg (fun b=>some (Dv.bl b)) sw
 unfold isNu
 by_cases h:t.cps.toList.head?=some 45
 ·rw [if_pos h]
  rw [decide_eq_true h] at st
  have l1:1<=t.length:=by
   rw [tl]
   cases hh:t.cps.toList with
   |nil=>rw [hh] at h;cases h
   |cons _ _=>simp
  have dn:=fv (a:=t) (b:=Str.ofString "-0") (cp asc) (cp (by rw [lm0];simp))
  have de:decide (t=Str.ofString "-0")=decide (t.cps.toList=[45,48]):=by
   by_cases h:t=Str.ofString "-0"
   ·rw [decide_eq_true h,decide_eq_true (by rw [h,lm0])]
   ·rw [decide_eq_false h,decide_eq_false (fun z=>h (bh (by rw [lm0];exact z)))]
  rw [de] at dn
  have sl:=kH t l1
  have mp:=kO (t:=Txt.slice t (some 1) none) (by rw [sl];exact fun c hc=>asc c (List.mem_of_mem_drop hc)) (by rw [ak,sl,List.length_drop];lia)
  rw [sl] at mp
  have es:dq (eVar 0) (br (eC (.int 1))) bB [some (.str t)]=some (.str (Txt.slice t (some 1) none)):=by
   show (if t.length<=lim then some (Dv.str (Txt.slice t (some 1) none)) else none)=_
   rw [if_pos (by show _<=100000;lia)]
  cases hd:decide (t.cps.toList=[45,48]) with
  |true=>
   rw [hd] at dn
   simp_arith only [bg,dI,Nat.sub_self,st,dn]
   all_goals rfl
  |false=>
   rw [hd] at dn
   simp_arith only [bg,dI,Nat.sub_self,st,dn,es,mp]
   all_goals rfl
 ·rw [if_neg h]
  rw [decide_eq_false h] at st
  have mp:=kO asc hl
  simp_arith only [bg,dI,Nat.sub_self,st,mp]
theorem kP {cs:List Nat}{c:Nat} (hc:c∈cs) (h:fig c=false):isPl cs=false:=by
 have e:cs.all fig=false:=by
  cases q:cs.all fig with
  |false=>rfl
  |true=>rw [List.all_eq_true.mp q c hc] at h;cases h
 unfold isPl
 rw [e,Bool.and_false,Bool.and_false]
theorem uv {cs:List Nat}{c:Nat} (hc:c∈cs) (h:fig c=false) (h2:c≠45):isNu cs=false:=by
 unfold isNu
 split
 ·cases cs with
  |nil=>cases hc
  |cons a r=>
   rename_i q
   have ea:a=45:=Option.some.inj q
   subst ea
   rcases List.mem_cons.mp hc with z|z
   ·exact absurd z h2
   ·rw [List.drop_succ_cons,List.drop_zero,kP z h,Bool.and_false]
 ·exact kP hc h
theorem eF {t:Str} (asc: ∀c∈t.cps.toList,c<128) (hl:t.length<=1000) (h:isNu t.cps.toList=false):aX [.str t]=true:=by
 have mi:=uu asc hl
 rw [h] at mi
 have q:(tor (tnot (tOf (eIsi "str" (eVar 0)))) (tnot (tOf (aj bg (aa (eVar 0) aNil))))) [some (.str t)]=some true:=by
  simp_arith only [show isiN "str" "str"=true from by decide+kernel,if_true,mi]
  all_goals rfl
 unfold aX cj kz rIf
 rw [show aK 1 [Dv.str t]=[some (.str t)] from rfl,q]
 rfl
theorem uw {d:Dv} (h0:d.isScr=false) (h:isiN (tyN d) "str"=false):aF [d]=true:=by
 have q:(tnot (tOf (eIsi "str" (eVar 0)))) [some d,none]=some true:=by
  simp [tnot,tOf,eIsi,eVar,h0,h,fV]
 have e:dM [some d,none]=true:=by
  unfold dM rIf
  rw [q]
  rfl
 unfold aF cj gJ
 rw [show aK 2 [d]=[some d,none] from rfl]
 show (decide (1=1)&&(dM [some d,none]||dN [some d,none]||dO [some d,none]))=true
 rw [e]
 rfl
theorem kQ {bad:Str}{post:List Str} (hb:aX [.str bad]=true): ∀(pre:List Str),(∀w∈pre,∃v,WN v w)->
  bQ (gN 0) bF (aQ aX (aa (eVar 0) aNil)) [none] ((pre++bad::post).map Dv.str)=true
 |[],_=>by
  show (aQ aX (aa (eVar 0) aNil) [some (.str bad)]||_)=true
  have e:aQ aX (aa (eVar 0) aNil) [some (.str bad)]=true:=hb
  rw [e]
  rfl
 |w::pre,h=>by
  obtain ⟨v,hv⟩:=h w (.head _)
  have ih:=kQ (post:=post) hb pre fun x hx=>h x (.tail _ hx)
  have m:bF [some (.str w)]=some (.int v):=by
   have:=kI hv
   simp_arith only [bF,this]
  show (aQ aX (aa (eVar 0) aNil) [some (.str w)]||(match bF [some (.str w)] with
   |some _=>bQ (gN 0) bF (aQ aX (aa (eVar 0) aNil)) [none] ((pre++bad::post).map Dv.str)
   |none=>false))=true
  rw [m]
  show (_||bQ (gN 0) bF (aQ aX (aa (eVar 0) aNil)) [none] ((pre++bad::post).map Dv.str))=true
  rw [ih,Bool.or_true]
theorem dU {T:Str}{ws:List Str} (hl:T.length<=1000) (hs:Txt.split T ⟨#[44]⟩=ws) (hw:ws.length<=1000) (h:8<ws.length \/ ∃pre bad post,ws=pre++bad::post/\(∀w∈pre,∃v,WN v w)/\aX [.str bad]=true):aF [.str T]=true:=by
 have ds:bw (.str T) (.str (Str.ofString ","))=some (.lst (ws.map .str)):=by
  rw [lc]
  show (if _ then some (Dv.lst ((Txt.split T ⟨#[44]⟩).map Dv.str)) else none)=_
  rw [if_pos ⟨rfl,by show _<=100000;lia⟩,hs]
 have hl':ws.length<=100000:=by lia
 have s1:(sIf (tnot (tOf (eIsi "str" (eVar 0)))) sNo aE) [some (.str T),none]=some (.nx [some (.str T),none]):=by
  simp_arith only [show isiN "str" "str"=true from by decide+kernel,if_true]
  all_goals rfl
 have s2:(sSet 1 (eOp bw (eVar 0) (eC (.str ",")))) [some (.str T),none]=some (.nx [some (.str T),some (.lst (ws.map .str))]):=by
  simp_arith only [ds]
  all_goals rfl
 have fl:(aj fLen (aa (eVar 1) aNil)) [some (.str T),some (.lst (ws.map .str))]=some (.int (ws.length:Int)):=by
  simp_arith only [hl']
 have q2:(tOf (eOp dGt (aj fLen (aa (eVar 1) aNil)) (eC (.int 8)))) [some (.str T),some (.lst (ws.map .str))]=some (decide ((8:Int)<(ws.length:Int))):=by
  simp_arith only [hl']
  all_goals rfl
 unfold aF cj gJ
 rw [show aK 2 [Dv.str T]=[some (.str T),none] from rfl]
 show (decide (1=1)&&(dM [some (.str T),none]||dN [some (.str T),none]||dO [some (.str T),none]))=true
 by_cases h8:8<ws.length
 ·have e:dN [some (.str T),none]=true:=by
   unfold dN bP
   rw [s1]
   show (match (sSet 1 (eOp bw (eVar 0) (eC (.str ",")))) [some (.str T),none] with
    |some (.nx δ1)=>_
    |_=>false)=true
   rw [s2]
   show rIf _ _ _=true
   unfold rIf
   rw [q2,decide_eq_true (by lia)]
   rfl
  rw [e,Bool.or_true,Bool.true_or]
  rfl
 ·rcases h with h|⟨pre,bad,post,rfl,hp,hb⟩
  ·exact absurd h h8
  ·have cb:=kQ (post:=post) hb pre hp
   have e:dO [some (.str T),none]=true:=by
    unfold dO bP
    rw [s1]
    show (match (sSet 1 (eOp bw (eVar 0) (eC (.str ",")))) [some (.str T),none] with
     |some (.nx δ1)=>_
     |_=>false)=true
    rw [s2]
    have s3:(sIf (tOf (eOp dGt (aj fLen (aa (eVar 1) aNil)) (eC (.int 8)))) sNo aE) [some (.str T),some (.lst ((pre++bad::post).map .str))]=some (.nx [some (.str T),some (.lst ((pre++bad::post).map .str))]):=by
     unfold sIf
     rw [q2,decide_eq_false (by lia)]
     rfl
    show (match (sIf (tOf (eOp dGt (aj fLen (aa (eVar 1) aNil)) (eC (.int 8)))) sNo aE) [some (.str T),some (.lst ((pre++bad::post).map .str))] with
     |some (.nx δ1)=>_
     |_=>false)=true
    rw [s3]
    show ej _ _ _ _ _ _=true
    unfold ej
    have il:iL (eVar 1) [some (.str T),some (.lst ((pre++bad::post).map .str))]=some ((pre++bad::post).map .str):=by
     show (if ((pre++bad::post).map Dv.str).length<=lim then some ((pre++bad::post).map Dv.str) else none)=_
     rw [if_pos (by rw [List.length_map];exact hl')]
    rw [il]
    exact cb
   rw [e,Bool.or_true]
   rfl
end K56
set_option maxHeartbeats 1000000
namespace K56
open PySem L2
theorem kR (n:Nat) (h:n<=1000): ∃ds,Good ds/\val ds=n/\ds.length<=4:=by
 by_cases h1:n<10
 ·exact ⟨[n],⟨by simp,by simp,by simpa using h1,fun z=>absurd z (by simp)⟩,by show 0*10+n=n;lia,by simp⟩
 by_cases h2:n<100
 ·exact ⟨[n/10,n%10],⟨by simp,by simp,by simp;lia,fun _ z=>by have:=Option.some.inj z;lia⟩,by show (0*10+n/10)*10+n%10=n;lia,by simp⟩
 by_cases h3:n<1000
 ·exact ⟨[n/100,n/10%10,n%10],⟨by simp,by simp,by simp;lia,fun _ z=>by have:=Option.some.inj z;lia⟩,by show ((0*10+n/100)*10+n/10%10)*10+n%10=n;lia,by simp⟩
 ·have:n=1000:=by lia
  subst this
  exact ⟨[1,0,0,0],⟨by simp,by simp,by simp,fun _ z=>by have:=Option.some.inj z;lia⟩,rfl,by simp⟩
theorem ux (v:Int) (h1: -1000<=v) (h2:v<=1000): ∃t,WN v t/\t.length<=5:=by
 by_cases h:0<=v
 ·obtain ⟨ds,g,e,l⟩:=kR v.toNat (by lia)
  exact ⟨txt ds,⟨ds,g,.inl ⟨by lia,rfl⟩⟩,by rw [fw];lia⟩
 ·obtain ⟨ds,g,e,l⟩:=kR (-v).toNat (by lia)
  refine ⟨(⟨#[45]⟩:Str)++txt ds,⟨ds,g,.inr ⟨by lia,by lia,rfl⟩⟩,?_⟩
  rw [ak,aL,List.length_append,bi,List.length_map]
  show 1+ds.length<=5
  lia
noncomputable def rep (a:Str) (n:Nat):Str:=⟨(List.replicate n a.cps).foldl (· ++ ·) #[]⟩
noncomputable def chk (cs:List Nat):Bool:=cs.all (fun c=>decide (c<128)&& !decide (c=44))&&(decide (cs.length<=62)&& !isNu cs)
noncomputable def L28:List Str:=[Str.ofString "",Str.ofString "-",Str.ofString "00",Str.ofString "01",Str.ofString "-0",Str.ofString "-01",Str.ofString "+1",Str.ofString " 1",Str.ofString "1 ",Str.ofString "1_0",Str.ofString "1\n",Str.ofString "x",Str.ofString "1.0",Str.ofString "--1",Str.ofString "1-",Str.ofString "0x1",Str.ofString "1e3",rep (Str.ofString "9") 61,Str.ofString "-"++rep (Str.ofString "9") 61,Str.ofString "1"++rep (Str.ofString "0") 60,Str.ofString "\n1",Str.ofString "- 1",Str.ofString "000",Str.ofString "1-1",Str.ofString "o",Str.ofString "l",Str.ofString "-00",Str.ofString "1\t"]
theorem uy:(L28.all fun t=>chk t.cps.toList)=true:=by decide+kernel
theorem uz {t:Str} (h:chk t.cps.toList=true):(∀c∈t.cps.toList,c<128)/\44∉t.cps.toList/\t.length<=62/\isNu t.cps.toList=false:=by
 unfold chk at h
 rw [Bool.and_eq_true,Bool.and_eq_true] at h
 obtain ⟨h1,h2,h3⟩:=h
 have a: ∀c∈t.cps.toList,c<128/\c≠44:=fun c hc=>by
  have:=List.all_eq_true.mp h1 c hc
  rw [Bool.and_eq_true] at this
  exact ⟨of_decide_eq_true this.1,by simpa using this.2⟩
 exact ⟨fun c hc=>(a c hc).1,fun z=>(a 44 z).2 rfl,by rw [ak];exact of_decide_eq_true h2,by simpa using h3⟩
theorem mulS {a:Str}{n:Int} (h1:1<n) (h2:n<=1000) (h3:0<a.length) (h4:a.length<=1000):dt (.str a) (.int n)=some (.str (rep a n.toNat)):=by
 show (if 1<n/\n<=1000/\0<a.length/\a.length<=1000 then _ else none)=_
 rw [if_pos ⟨h1,h2,h3,h4⟩]
 rfl
theorem catS {a b:Str} (h:a.length+b.length<=100000):bu (.str a) (.str b)=some (.str (a++b)):=by
 show (if a.length+b.length<=100000 then _ else none)=_
 rw [if_pos h]
theorem uA (z:Int): ∃t∈L28,cL [.int z]=some (.str t):=by
 have m9:=mulS (a:=Str.ofString "9") (n:=61) (by decide) (by decide) (by decide+kernel) (by decide+kernel)
 have m0:=mulS (a:=Str.ofString "0") (n:=60) (by decide) (by decide) (by decide+kernel) (by decide+kernel)
 have c9:=catS (a:=Str.ofString "-") (b:=rep (Str.ofString "9") 61) (by decide+kernel)
 have c0:=catS (a:=Str.ofString "1") (b:=rep (Str.ofString "0") 60) (by decide+kernel)
 rw [show ((61:Int).toNat)=61 from rfl] at m9
 rw [show ((60:Int).toNat)=60 from rfl] at m0
 obtain ⟨n0,n1⟩:=bo z 28 (by decide)
 obtain ⟨d,hd,ed⟩:=fe (xs:=L28.map Dv.str) n0 (by exact n1)
 obtain ⟨t,ht,rfl⟩:=List.mem_map.mp hd
 refine ⟨t,ht,?_⟩
 replace ed:atI [Dv.str (Str.ofString ""),Dv.str (Str.ofString "-"),Dv.str (Str.ofString "00"),Dv.str (Str.ofString "01"),Dv.str (Str.ofString "-0"),Dv.str (Str.ofString "-01"),Dv.str (Str.ofString "+1"),Dv.str (Str.ofString " 1"),Dv.str (Str.ofString "1 "),Dv.str (Str.ofString "1_0"),Dv.str (Str.ofString "1\n"),Dv.str (Str.ofString "x"),Dv.str (Str.ofString "1.0"),Dv.str (Str.ofString "--1"),Dv.str (Str.ofString "1-"),Dv.str (Str.ofString "0x1"),Dv.str (Str.ofString "1e3"),Dv.str (rep (Str.ofString "9") 61),Dv.str (Str.ofString "-"++rep (Str.ofString "9") 61),Dv.str (Str.ofString "1"++rep (Str.ofString "0") 60),Dv.str (Str.ofString "\n1"),Dv.str (Str.ofString "- 1"),Dv.str (Str.ofString "000"),Dv.str (Str.ofString "1-1"),Dv.str (Str.ofString "o"),Dv.str (Str.ofString "l"),Dv.str (Str.ofString "-00"),Dv.str (Str.ofString "1\t")] (z%28)=some (.str t):=ed
 have cc:cE (.lst [Dv.str (Str.ofString ""),Dv.str (Str.ofString "-"),Dv.str (Str.ofString "00"),Dv.str (Str.ofString "01"),Dv.str (Str.ofString "-0"),Dv.str (Str.ofString "-01"),Dv.str (Str.ofString "+1"),Dv.str (Str.ofString " 1"),Dv.str (Str.ofString "1 "),Dv.str (Str.ofString "1_0"),Dv.str (Str.ofString "1\n"),Dv.str (Str.ofString "x"),Dv.str (Str.ofString "1.0"),Dv.str (Str.ofString "--1"),Dv.str (Str.ofString "1-"),Dv.str (Str.ofString "0x1"),Dv.str (Str.ofString "1e3")]) (.lst [Dv.str (rep (Str.ofString "9") 61),Dv.str (Str.ofString "-"++rep (Str.ofString "9") 61),Dv.str (Str.ofString "1"++rep (Str.ofString "0") 60),Dv.str (Str.ofString "\n1"),Dv.str (Str.ofString "- 1"),Dv.str (Str.ofString "000"),Dv.str (Str.ofString "1-1"),Dv.str (Str.ofString "o"),Dv.str (Str.ofString "l"),Dv.str (Str.ofString "-00"),Dv.str (Str.ofString "1\t")])=some (.lst [Dv.str (Str.ofString ""),Dv.str (Str.ofString "-"),Dv.str (Str.ofString "00"),Dv.str (Str.ofString "01"),Dv.str (Str.ofString "-0"),Dv.str (Str.ofString "-01"),Dv.str (Str.ofString "+1"),Dv.str (Str.ofString " 1"),Dv.str (Str.ofString "1 "),Dv.str (Str.ofString "1_0"),Dv.str (Str.ofString "1\n"),Dv.str (Str.ofString "x"),Dv.str (Str.ofString "1.0"),Dv.str (Str.ofString "--1"),Dv.str (Str.ofString "1-"),Dv.str (Str.ofString "0x1"),Dv.str (Str.ofString "1e3"),Dv.str (rep (Str.ofString "9") 61),Dv.str (Str.ofString "-"++rep (Str.ofString "9") 61),Dv.str (Str.ofString "1"++rep (Str.ofString "0") 60),Dv.str (Str.ofString "\n1"),Dv.str (Str.ofString "- 1"),Dv.str (Str.ofString "000"),Dv.str (Str.ofString "1-1"),Dv.str (Str.ofString "o"),Dv.str (Str.ofString "l"),Dv.str (Str.ofString "-00"),Dv.str (Str.ofString "1\t")]):=jC (by decide) rfl
 simp_arith only [cL,ku,Nat.sub_self,m9,m0,c9,c0,cc,List.map_cons,List.map_nil,ed]
 all_goals rfl
theorem uB {t:Str} (h:t∈L28):aX [.str t]=true/\(∀c∈t.cps.toList,c<128)/\44∉t.cps.toList/\t.length<=62:=by
 obtain ⟨h1,h2,h3,h4⟩:=uz (List.all_eq_true.mp uy t h)
 exact ⟨eF h1 (by lia) h4,h1,h2,h3⟩
end K56
set_option maxHeartbeats 1000000
namespace K56
open PySem L2
noncomputable abbrev cds (t:Str):List Nat:=t.cps.toList
noncomputable def jn:List (List Nat)->List Nat
 |[]=>[]
 |[a]=>a
 |a::b::r=>a++44::jn (b::r)
theorem jc: ∀ws:List Str,(Str.join ⟨#[44]⟩ ws).cps.toList=jn (ws.map cds)
 |[]=>rfl
 |[a]=>rfl
 |a::b::r=>by
  rw [dS,jc (b::r)]
  rfl
theorem jT (ws:List Str):(Txt.join ⟨#[44]⟩ ws).cps.toList=jn (ws.map cds):=by
 unfold Txt.join
 rw [StrLaws.glued_eq_join]
 exact jc ws
theorem sp {T:Str}{ws:List Str} (ne:ws≠[]) (h: ∀t∈ws,44∉t.cps.toList) (e:T.cps.toList=jn (ws.map cds)):Txt.split T ⟨#[44]⟩=ws:=by
 have:T=Str.join ⟨#[44]⟩ ws:=bh (by rw [e,jc])
 rw [this]
 exact kL ne h
theorem fy {x:List Nat}{xs:List (List Nat)} (h:xs≠[]):jn (x::xs)=x++44::jn xs:=by
 cases xs with
 |nil=>exact absurd rfl h
 |cons y r=>rfl
theorem gP {y:List Nat}: ∀{xs:List (List Nat)},xs≠[]->jn (xs++[y])=jn xs++44::y
 |[],h=>absurd rfl h
 |[x],_=>rfl
 |x::x2::r,_=>by
  rw [List.cons_append,fy (by simp),gP (xs:=x2::r) (by simp),fy (x:=x) (xs:=x2::r) (by simp),List.append_assoc]
  rfl
theorem kS {xs:List (List Nat)} (h:xs≠[]): ∀n:Nat,jn (xs++List.replicate n [49])=jn xs++(List.replicate n [44,49]).flatten
 |0=>by simp
 |n+1=>by
  rw [List.replicate_succ',<-List.append_assoc,gP (by simp [h]),kS h n,List.replicate_succ',List.flatten_append,List.append_assoc]
  rfl
theorem kT {c:Nat}: ∀(xs:List (List Nat)) (at':Nat),xs≠[]->at'<=(jn xs).length->
  ∃pre a b post,xs=pre++(a++b)::post/\(jn xs).take at'++c::(jn xs).drop at'=jn (pre++(a++c::b)::post)
 |[],_,h,_=>absurd rfl h
 |[x],n,_,_=>⟨[],x.take n,x.drop n,[],by simp,rfl⟩
 |x::y::r,n,_,hn=>by
  by_cases h:n<=x.length
  ·refine ⟨[],x.take n,x.drop n,y::r,by simp,?_⟩
   show (x++44::jn (y::r)).take n++c::(x++44::jn (y::r)).drop n=(x.take n++c::x.drop n)++44::jn (y::r)
   rw [List.take_append_of_le_length h,List.drop_append_of_le_length h,List.append_assoc]
   rfl
  ·have hl:(jn (x::y::r)).length=x.length+((jn (y::r)).length+1):=by
    show (x++44::jn (y::r)).length=_
    rw [List.length_append]
    rfl
   obtain ⟨k,hk⟩: ∃k,n=x.length+(k+1):=⟨n-x.length-1,by lia⟩
   subst hk
   obtain ⟨pre,a,b,post,e1,e2⟩:=kT (c:=c) (y::r) k (by simp) (by lia)
   refine ⟨x::pre,a,b,post,by rw [e1];rfl,?_⟩
   show (x++44::jn (y::r)).take (x.length+(k+1))++c::(x++44::jn (y::r)).drop (x.length+(k+1))=jn (x::(pre++(a++c::b)::post))
   rw [fy (x:=x) (xs:=pre++(a++c::b)::post) (by simp),<-e2,List.take_length_add_append,List.drop_length_add_append,List.take_succ_cons,List.drop_succ_cons,List.append_assoc]
   rfl
theorem jlen {m:Nat}: ∀xs:List (List Nat),(∀x∈xs,x.length<=m)->(jn xs).length<=xs.length*(m+1)
 |[],_=>by simp [jn]
 |[x],h=>by
  have:=h x (.head _)
  show x.length<=1*(m+1)
  lia
 |x::y::r,h=>by
  have h1:=h x (.head _)
  have h2:=jlen (y::r) fun z hz=>h z (.tail _ hz)
  show (x++44::jn (y::r)).length<=_
  rw [List.length_append,List.length_cons,List.length_cons,Nat.succ_mul]
  lia
end K56
set_option maxHeartbeats 1000000
namespace K56
open PySem L2
structure WS (ws:List Str):Prop where
 ne:ws≠[]
 l8:ws.length<=8
 wn: ∀w∈ws,∃v,WN v w/\w.length<=5
theorem kU: ∀ws:List Str,imms (ws.map Dv.str)=true
 |[]=>rfl
 |w::ws=>by
  rw [List.map_cons,imms,kU ws]
  rfl
theorem kW {m:Nat}: ∀(L:List Str),(∀t∈L,t.length<=m)->(L.map (·.length)).sum<=L.length*m
 |[],_=>by simp
 |t::L,h=>by
  have:=kW L fun x hx=>h x (.tail _ hx)
  have:=h t (.head _)
  rw [List.map_cons,List.sum_cons,List.length_cons,Nat.succ_mul]
  lia
theorem dW {ws:List Str} (hl:ws.length<=1000) (h: ∀w∈ws,w.length<=62):cH (.str (Str.ofString ",")) (.lst (ws.map .str))=some (.str (Txt.join ⟨#[44]⟩ ws)):=by
 have sl:=kW ws h
 rw [lc]
 show ((dm _).bind _)=_
 rw [j5]
 show (if _ then _ else _)=_
 rw [if_pos (by show _+ws.length*1<=_;lia)]
theorem WS.len {ws:List Str} (H:WS ws):(Txt.join ⟨#[44]⟩ ws).length<=48:=by
 rw [ak,jT]
 have:=jlen (m:=5) (ws.map cds) fun x hx=>by
  obtain ⟨w,hw,rfl⟩:=List.mem_map.mp hx
  obtain ⟨v,_,l⟩:=H.wn w hw
  rw [ak] at l
  exact l
 rw [List.length_map] at this
 have:=H.l8
 lia
theorem WS.free {ws:List Str} (H:WS ws): ∀t∈ws,44∉t.cps.toList:=fun t ht=>by
 obtain ⟨v,h,_⟩:=H.wn t ht
 exact h.free
theorem WS.pre {ws:List Str} (H:WS ws): ∀t∈ws,∃v,WN v t:=fun t ht=>by
 obtain ⟨v,h,_⟩:=H.wn t ht
 exact ⟨v,h⟩
theorem uC {ws:List Str} (hl:ws.length<=9) (h: ∀w∈ws,w.length<=62):(Txt.join ⟨#[44]⟩ ws).length<=600:=by
 rw [ak,jT]
 have:=jlen (m:=62) (ws.map cds) fun x hx=>by
  obtain ⟨w,hw,rfl⟩:=List.mem_map.mp hx
  have:=h w hw
  rw [ak] at this
  exact this
 rw [List.length_map] at this
 lia
theorem uD {ws:List Str} (H:WS ws) (z:Int) (h:z%4<2): ∃t,M_w_spoiled [.lst (ws.map .str),.int z]=some (.str t)/\aF [.str t]=true:=by
 obtain ⟨o,ho,eo⟩:=uA (z/4)
 obtain ⟨xo,ao,fo,lo⟩:=uB ho
 have lp:0<ws.length:=List.length_pos_iff.mpr H.ne
 have hn: ¬((ws.length:Int)=0):=by lia
 obtain ⟨k0,k1⟩:=bo (z/4/28) (ws.length:Int) (by lia)
 have hj:(z/4/28%(ws.length:Int)).toNat<ws.length:=by lia
 have ix:=r8 (n:=(ws.map Dv.str).length) k0 (by rw [List.length_map];exact k1)
 generalize hjj:(z/4/28%(ws.length:Int)).toNat=j at ix hj
 have ms:(ws.map Dv.str).set j (.str o)=(ws.set j o).map Dv.str:=(List.map_set ..).symm
 have l62: ∀w∈ws.set j o,w.length<=62:=fun w hw=>by
  rcases List.mem_or_eq_of_mem_set hw with q|q
  ·obtain ⟨v,_,l⟩:=H.wn w q
   lia
  ·rw [q];exact lo
 have dj:=dW (ws:=ws.set j o) (by rw [List.length_set];have:=H.l8;lia) l62
 have hl':ws.length<=100000:=by have:=H.l8;lia
 refine ⟨Txt.join ⟨#[44]⟩ (ws.set j o),?_,?_⟩
 ·have im:=kU ws
  have hset:fg 4 (eOp dMod (eOp dDiv (eVar 3) (eC (.int 28))) (aj fLen (aa (eVar 4) aNil))) (aj cL (aa (eVar 3) aNil)) [some (.lst (ws.map .str)),some (.int z),some (.int (z%4)),some (.int (z/4)),some (.lst (ws.map .str)),none,none]=
    some (.nx [some (.lst (ws.map .str)),some (.int z),some (.int (z%4)),some (.int (z/4)),some (.lst ((ws.set j o).map .str)),none,none]):=by
   have e1:(aj cL (aa (eVar 3) aNil)) [some (.lst (ws.map .str)),some (.int z),some (.int (z%4)),some (.int (z/4)),some (.lst (ws.map .str)),none,none]=some (.str o):=by simp_arith only [eo]
   have e2:(eOp dMod (eOp dDiv (eVar 3) (eC (.int 28))) (aj fLen (aa (eVar 4) aNil))) [some (.lst (ws.map .str)),some (.int z),some (.int (z%4)),some (.int (z/4)),some (.lst (ws.map .str)),none,none]=some (.int (z/4/28%(ws.length:Int))):=by
    simp_arith only [hl',gh (i:=z/4/28) (j:=(ws.length:Int)) (by lia)]
   unfold fg
   rw [e1]
   show ((eOp dMod (eOp dDiv (eVar 3) (eC (.int 28))) (aj fLen (aa (eVar 4) aNil))) _).bind _=_
   rw [e2]
   show ((ixN (ws.map Dv.str).length (z/4/28%(ws.length:Int))).bind fun j=>if (Dv.str o).imm=true then some (Fl.nx _) else none)=_
   rw [ix]
   show some (Fl.nx [some (.lst (ws.map .str)),some (.int z),some (.int (z%4)),some (.int (z/4)),some (.lst ((ws.map Dv.str).set j (.str o))),none,none])=_
   rw [ms]
  simp_arith only [M_w_spoiled,dJ,Nat.sub_self,decide_eq_true h,im,hset,dj]
  all_goals rfl
 ·have fr: ∀t∈ws.set j o,44∉t.cps.toList:=fun w hw=>by
   rcases List.mem_or_eq_of_mem_set hw with q|q
   ·exact H.free w q
   ·rw [q];exact fo
  have l9:=uC (ws:=ws.set j o) (by rw [List.length_set];have:=H.l8;lia) l62
  refine dU (ws:=ws.set j o) (by lia) (sp (by intro z;have:=congrArg List.length z;rw [List.length_set,List.length_nil] at this;lia) fr (jT _)) (by rw [List.length_set];have:=H.l8;lia) (.inr ⟨ws.take j,o,ws.drop (j+1),List.set_eq_take_append_cons_drop▸(by rw [if_pos hj]),fun w hw=>H.pre w (List.mem_of_mem_take hw),xo⟩)
end K56
set_option maxHeartbeats 1000000
namespace K56
open PySem L2
theorem slT {x:Str}{j:Int} (h0:0<=j) (h1:j<=x.length):(Txt.slice x none (some j)).cps.toList=x.cps.toList.take j.toNat:=by
 have e:Txt.slice x none (some j)=StrLaws.sliceText x none (some j):=rfl
 rw [e,StrLaws.sliceText_to ⟨h0,by rw [ak] at h1;exact h1⟩]
 show (x.cps.toList.drop 0).take (j-0).toNat=_
 rw [List.drop_zero,Int.sub_zero]
theorem slF {x:Str}{j:Int} (h0:0<=j) (h1:j<=x.length):(Txt.slice x (some j) none).cps.toList=x.cps.toList.drop j.toNat:=by
 have e:Txt.slice x (some j) none=StrLaws.sliceText x (some j) none:=rfl
 rw [ak] at h1
 rw [e,StrLaws.sliceText_from ⟨h0,h1⟩]
 show (x.cps.toList.drop j.toNat).take ((x.cps.toList.length:Int)-j).toNat=_
 apply List.take_of_length_le
 rw [List.length_drop]
 lia
noncomputable def SG : Str := Str.ofString " !\"#$&'()*+./:;<=>?@ABCDEFGHIJKLMNOPQRSTUVWXYZ[\\]^_`" ++ Str.ofString "abcdefghijklmnopqrstuvwxyz{|}~\n\t"
theorem uE:(SG.cps.toList.all fun c=>decide (c<128)&&(!decide (c=44)&&(!decide (c=45)&& !fig c)))=true:=by decide+kernel
theorem kX:SG.cps.toList.length=84:=by decide+kernel
theorem uF:eB []=some (.str SG):=by
 have c := catS (a := Str.ofString " !\"#$&'()*+./:;<=>?@ABCDEFGHIJKLMNOPQRSTUVWXYZ[\\]^_`") (b := Str.ofString "abcdefghijklmnopqrstuvwxyz{|}~\n\t") (by decide +kernel)
 simp_arith only [eB,kr,Nat.sub_zero,c]
 all_goals rfl
theorem uG (i:Int): ∃c,dIxS (.str SG) (.int (i%84))=some (.str ⟨#[c]⟩)/\c<128/\c≠44/\c≠45/\fig c=false:=by
 obtain ⟨n0,n1⟩:=bo i 84 (by decide)
 obtain ⟨c,hc,ec⟩:=fe (xs:=SG.cps.toList) n0 (by rw [kX];exact n1)
 have:=List.all_eq_true.mp uE c hc
 simp only [Bool.and_eq_true,Bool.not_eq_true',decide_eq_true_eq,decide_eq_false_iff_not] at this
 refine ⟨c,?_,this.1,this.2.1,this.2.2.1,this.2.2.2⟩
 show (if SG.length<=100000 then (atI SG.cps.toList (i%84)).map _ else none)=_
 rw [if_pos (by rw [ak,kX];decide),ec]
 rfl
theorem lnT {T:Str} (h:T.length<=1000):cf [.str T]=some (.int (T.length:Int)):=by
 show (if T.length<=lim then some (Dv.int (T.length:Int)) else none)=_
 rw [if_pos (by show _<=100000;lia)]
theorem kY {α β:Type}{f:α->β}: ∀{ws:List α}{pre post:List β}{x:β},ws.map f=pre++x::post-> ∃l1 w l3,ws=l1++w::l3/\l1.map f=pre/\f w=x/\l3.map f=post
 |[],pre,post,x,h=>by
  cases pre<;>cases h
 |w::ws,[],post,x,h=>by
  obtain ⟨h1,h2⟩:=List.cons.inj h
  exact ⟨[],w,ws,rfl,rfl,h1,h2⟩
 |w::ws,p::pre,post,x,h=>by
  obtain ⟨h1,h2⟩:=List.cons.inj h
  obtain ⟨l1,y,l3,e1,e2,e3,e4⟩:=kY h2
  exact ⟨w::l1,y,l3,by rw [e1];rfl,by rw [List.map_cons,e2,h1],e3,e4⟩
theorem uH {ws:List Str} (H:WS ws) (z:Int) (h:z%4=2): ∃t,M_w_spoiled [.lst (ws.map .str),.int z]=some (.str t)/\aF [.str t]=true:=by
 have tl:=H.len
 have tc:=jT ws
 have dj:=dW (ws:=ws) (by have:=H.l8;lia) fun w hw=>by obtain ⟨_,_,l⟩:=H.wn w hw;lia
 generalize Txt.join ⟨#[44]⟩ ws=T at tl tc dj
 have ln:=lnT (T:=T) (by lia)
 obtain ⟨c,ec,c1,c2,c3,c4⟩:=uG (z/4/64)
 obtain ⟨a0,a1⟩:=bo (z/4) ((T.length:Int)+1) (by lia)
 have hm:=gh (i:=z/4) (j:=(T.length:Int)+1) (by lia)
 generalize z/4%((T.length:Int)+1)=q at a0 a1 hm
 have e1:gH (eVar 5) bB (br (eVar 6)) [some (.lst (ws.map .str)),some (.int z),some (.int (z%4)),some (.int (z/4)),none,some (.str T),some (.int q)]=some (.str (Txt.slice T none (some q))):=by
  show (if T.length<=lim then some (Dv.str (Txt.slice T none (some q))) else none)=_
  rw [if_pos (by show _<=100000;lia)]
 have e2:dq (eVar 5) (br (eVar 6)) bB [some (.lst (ws.map .str)),some (.int z),some (.int (z%4)),some (.int (z/4)),none,some (.str T),some (.int q)]=some (.str (Txt.slice T (some q) none)):=by
  show (if T.length<=lim then some (Dv.str (Txt.slice T (some q) none)) else none)=_
  rw [if_pos (by show _<=100000;lia)]
 have s1:=slT (x:=T) a0 (by lia)
 have s2:=slF (x:=T) a0 (by lia)
 have g1:=Txt.slice_le T none (some q)
 have g2:=Txt.slice_le T (some q) none
 generalize Txt.slice T none (some q)=A at e1 s1 g1
 generalize Txt.slice T (some q) none=B at e2 s2 g2
 have k1:=catS (a:=A) (b:=⟨#[c]⟩) (by show _+1<=_;lia)
 have lA:(A++(⟨#[c]⟩:Str)).length<=49:=by
  rw [ak,aL,List.length_append,<-ak]
  show A.length+1<=49
  lia
 have k2:=catS (a:=A++(⟨#[c]⟩:Str)) (b:=B) (by lia)
 have hc:((A++(⟨#[c]⟩:Str))++B).cps.toList=(jn (ws.map cds)).take q.toNat++c::(jn (ws.map cds)).drop q.toNat:=by
  rw [aL,aL,s1,s2,tc,List.append_assoc]
  rfl
 have hlT:((A++(⟨#[c]⟩:Str))++B).length<=97:=by
  rw [ak,aL,List.length_append,<-ak,<-ak]
  lia
 refine ⟨(A++(⟨#[c]⟩:Str))++B,?_,?_⟩
 ·have n2: ¬(z%4<2):=by lia
  have sg:=uF
  simp_arith only [M_w_spoiled,dJ,Nat.sub_self,decide_eq_false n2,decide_eq_true h,dj,ln,hm,e1,e2,sg,ec,k1,k2]
  all_goals rfl
 ·obtain ⟨pre,a,b,post,x1,x2⟩:=kT (c:=c) (ws.map cds) q.toNat (by simpa using H.ne) (by rw [<-tc,<-ak];lia)
  obtain ⟨l1,w,l3,y1,y2,y3,y4⟩:=kY x1
  have hw:w∈ws:=by rw [y1];simp
  obtain ⟨v,wv,_⟩:=H.wn w hw
  have aw:=wv.asc
  have lw:=wv.len
  rw [ak] at lw
  replace y3:w.cps.toList=a++b:=y3
  rw [y3] at aw lw
  have cb:(⟨(a++c::b).toArray⟩:Str).cps.toList=a++c::b:=rfl
  have ma: ∀d∈a++c::b,d=c \/d∈a++b:=fun d hd=>by
   simp only [List.mem_append,List.mem_cons] at hd|-
   rcases hd with q|q|q
   ·exact .inr (.inl q)
   ·exact .inl q
   ·exact .inr (.inr q)
  have e:((A++(⟨#[c]⟩:Str))++B).cps.toList=jn ((l1++(⟨(a++c::b).toArray⟩:Str)::l3).map cds):=by
   rw [hc,x2,List.map_append,List.map_cons,y2,y4]
  have l8:(l1++(⟨(a++c::b).toArray⟩:Str)::l3).length=ws.length:=by rw [y1];simp
  have:=H.l8
  refine dU (by lia) (sp (by simp) (fun t ht=> ?_) e) (by lia) (.inr ⟨l1,_,l3,rfl,fun t ht=>H.pre t (by rw [y1];simp [ht]),?_⟩)
  ·rcases List.mem_append.mp ht with q|q
   ·exact H.free t (by rw [y1];simp [q])
   ·rcases List.mem_cons.mp q with q|q
    ·rw [q,cb]
     intro z
     rcases ma 44 z with q|q
     ·exact c2 q.symm
     ·have:=aw 44 q
      lia
    ·exact H.free t (by rw [y1];simp [q])
  ·refine eF (by rw [cb];intro d hd;rcases ma d hd with q|q;(·lia);(·have:=aw d q;lia)) ?_ (by rw [cb];exact uv (c:=c) (by simp) c4 c3)
   rw [ak,cb,List.length_append,List.length_cons]
   rw [List.length_append] at lw
   lia
end K56
set_option maxHeartbeats 1000000
namespace K56
open PySem L2
theorem lc1:(Str.ofString ",1").cps.toList=[44,49]:=by rw [PyProof.Rows.signs_ofString];rfl
theorem l1_:(Str.ofString "1").cps.toList=[49]:=by rw [PyProof.Rows.signs_ofString];rfl
theorem lc_:(Str.ofString ",").cps.toList=[44]:=by rw [PyProof.Rows.signs_ofString];rfl
theorem le0:(Str.ofString "").cps.toList=[]:=by rw [PyProof.Rows.signs_ofString];rfl
theorem kZ (A:Array Nat): ∀(n:Nat) (acc:Array Nat),((List.replicate n A).foldl (· ++ ·) acc).toList=acc.toList++(List.replicate n A.toList).flatten
 |0,acc=>by simp
 |n+1,acc=>by
  rw [List.replicate_succ,List.foldl_cons,kZ A n,Array.toList_append,List.replicate_succ,List.flatten_cons,List.append_assoc]
theorem mulT {n:Int} (h1:1<=n) (h2:n<=1000): ∃r,dMulT (.str (Str.ofString ",1")) (.int n)=some (.str r)/\r.cps.toList=(List.replicate n.toNat [44,49]).flatten:=by
 have l2:(Str.ofString ",1").length=2:=by rw [ak,lc1];rfl
 by_cases h:n=1
 ·subst h
  exact ⟨_,rfl,by rw [lc1];rfl⟩
 ·refine ⟨rep (Str.ofString ",1") n.toNat,?_,?_⟩
  ·show (if n=1 then _ else if 1<n/\n<=1000/\0<(Str.ofString ",1").length/\(Str.ofString ",1").length<=1000 then _ else none)=_
   rw [if_neg h,if_pos ⟨by lia,h2,by lia,by lia⟩]
   rfl
  ·show ((List.replicate n.toNat (Str.ofString ",1").cps).foldl (· ++ ·) #[]).toList=_
   rw [kZ,lc1]
   rfl
theorem uI {ws:List Str} (H:WS ws) (z:Int) (h:z%4=3) (h3:z/4%3=0): ∃t,M_w_spoiled [.lst (ws.map .str),.int z]=some (.str t)/\aF [.str t]=true:=by
 have tl:=H.len
 have tc:=jT ws
 have dj:=dW (ws:=ws) (by have:=H.l8;lia) fun w hw=>by obtain ⟨_,_,l⟩:=H.wn w hw;lia
 generalize Txt.join ⟨#[44]⟩ ws=T at tl tc dj
 have l8:=H.l8
 have lp:0<ws.length:=List.length_pos_iff.mpr H.ne
 obtain ⟨a0,a1⟩:=bo (z/4/3) 3 (by decide)
 obtain ⟨r,er,cr⟩:=mulT (n:=9-(ws.length:Int)+z/4/3%3) (by lia) (by lia)
 generalize hn:9-(ws.length:Int)+z/4/3%3=n at er cr
 have hn1:1<=n:=by lia
 have hn2:n<=11:=by lia
 have lr:r.length=2*n.toNat:=by
  rw [ak,cr]
  have: ∀m:Nat,((List.replicate m [44,49]).flatten).length=2*m:=by
   intro m
   induction m with
   |zero=>rfl
   |succ m ih=>rw [List.replicate_succ,List.flatten_cons,List.length_append,ih];show 2+2*m=_;lia
  exact this _
 have k1:=catS (a:=T) (b:=r) (by lia)
 have hl':ws.length<=100000:=by lia
 refine ⟨T++r,?_,?_⟩
 ·have n2: ¬(z%4<2):=by lia
  have n3: ¬(z%4=2):=by lia
  simp_arith only [M_w_spoiled,dJ,Nat.sub_self,decide_eq_false n2,decide_eq_false n3,decide_eq_true h3,dj,hl',hn,er,k1]
  all_goals rfl
 ·refine dU (ws:=ws++List.replicate n.toNat (Str.ofString "1")) ?_ (sp (by simp [H.ne]) (fun t ht=> ?_) ?_) ?_ (.inl ?_)
  ·rw [ak,aL,List.length_append,<-ak,<-ak]
   lia
  ·rcases List.mem_append.mp ht with q|q
   ·exact H.free t q
   ·rw [(List.mem_replicate.mp q).2,l1_]
    simp
  ·rw [aL,tc,cr,List.map_append,List.map_replicate,<-kS (by simpa using H.ne)]
   show _=jn (ws.map cds++List.replicate n.toNat (Str.ofString "1").cps.toList)
   rw [l1_]
  ·rw [List.length_append,List.length_replicate];lia
  ·rw [List.length_append,List.length_replicate];lia
theorem uJ {ws:List Str} (H:WS ws) {T t:Str} (hl:t.length<=1000) (h:t.cps.toList=jn (ws.map cds)++[44]):aF [.str t]=true:=by
 have l8:=H.l8
 refine dU (ws:=ws++[Str.ofString ""]) hl (sp (by simp) (fun t ht=> ?_) ?_) (by rw [List.length_append];show _+1<=_;lia) (.inr ⟨ws,Str.ofString "",[],rfl,H.pre,eF (by rw [le0];simp) (by rw [ak,le0];decide) (by rw [le0];rfl)⟩)
 ·rcases List.mem_append.mp ht with q|q
  ·exact H.free t q
  ·rw [List.mem_singleton.mp q,le0];simp
 ·rw [h,List.map_append,List.map_cons,List.map_nil,gP (by simpa using H.ne)]
  show _=_++44::(Str.ofString "").cps.toList
  rw [le0]
theorem uK {ws:List Str} (H:WS ws) {t:Str} (hl:t.length<=1000) (h:t.cps.toList=44::jn (ws.map cds)):aF [.str t]=true:=by
 have l8:=H.l8
 refine dU (ws:=Str.ofString ""::ws) hl (sp (by simp) (fun t ht=> ?_) ?_) (by rw [List.length_cons];lia) (.inr ⟨[],Str.ofString "",ws,rfl,fun _ z=>(nomatch z),eF (by rw [le0];simp) (by rw [ak,le0];decide) (by rw [le0];rfl)⟩)
 ·rcases List.mem_cons.mp ht with q|q
  ·rw [q,le0];simp
  ·exact H.free t q
 ·rw [h,List.map_cons,fy (by simpa using H.ne)]
  show _=(Str.ofString "").cps.toList++_
  rw [le0]
  rfl
theorem uL:aF [.str (Str.ofString "")]=true:=
 dU (ws:=[Str.ofString ""]) (by rw [ak,le0];decide) (sp (by simp) (fun t ht=>by rw [List.mem_singleton.mp ht,le0];simp) (by rw [le0];show []=(Str.ofString "").cps.toList;rw [le0])) (by decide)
  (.inr ⟨[],Str.ofString "",[],rfl,fun _ z=>(nomatch z),eF (by rw [le0];simp) (by rw [ak,le0];decide) (by rw [le0];rfl)⟩)
theorem uM {ws:List Str} (H:WS ws) (z:Int) (h:z%4=3) (h3:z/4%3=1): ∃t,M_w_spoiled [.lst (ws.map .str),.int z]=some t/\aF [t]=true:=by
 have tl:=H.len
 have tc:=jT ws
 have dj:=dW (ws:=ws) (by have:=H.l8;lia) fun w hw=>by obtain ⟨_,_,l⟩:=H.wn w hw;lia
 generalize Txt.join ⟨#[44]⟩ ws=T at tl tc dj
 have lk:(Str.ofString ",").length=1:=by rw [ak,lc_];rfl
 have k1:=catS (a:=T) (b:=Str.ofString ",") (by lia)
 have k2:=catS (a:=Str.ofString ",") (b:=T) (by lia)
 obtain ⟨n0,n1⟩:=bo (z/4/3) 3 (by decide)
 obtain ⟨d,hd,ed⟩:=fe (xs:=[Dv.str (T++Str.ofString ","),.str (Str.ofString ","++T),.str (Str.ofString "")]) n0 (by exact n1)
 refine ⟨d,?_,?_⟩
 ·have n2: ¬(z%4<2):=by lia
  have n3: ¬(z%4=2):=by lia
  have n4: ¬(z/4%3=0):=by lia
  simp_arith only [M_w_spoiled,dJ,Nat.sub_self,decide_eq_false n2,decide_eq_false n3,decide_eq_false n4,decide_eq_true h3,dj,k1,k2,ed]
  all_goals rfl
 ·simp only [List.mem_cons,List.not_mem_nil,or_false] at hd
  rcases hd with rfl|rfl|rfl
  ·exact uJ (T:=T) H (by rw [ak,aL,List.length_append,<-ak,<-ak];lia) (by rw [aL,tc,lc_])
  ·exact uK H (by rw [ak,aL,List.length_append,<-ak,<-ak];lia) (by rw [aL,tc,lc_];rfl)
  ·exact uL
theorem uN {ws:List Str} (H:WS ws) (z:Int) (h:z%4=3) (h3:z/4%3=2): ∃t,M_w_spoiled [.lst (ws.map .str),.int z]=some t/\aF [t]=true:=by
 have dj:=dW (ws:=ws) (by have:=H.l8;lia) fun w hw=>by obtain ⟨_,_,l⟩:=H.wn w hw;lia
 generalize Txt.join ⟨#[44]⟩ ws=T at dj
 obtain ⟨n0,n1⟩:=bo (z/4/3) 9 (by decide)
 obtain ⟨d,hd,ed⟩:=fe (xs:=[Dv.non,.bl true,.int 5,.tup [.int 1,.int 2],.lst [.str T],.dik [(.inr T,.int 1)],.bl false,.lst [],.int (-1)]) n0 (by exact n1)
 refine ⟨d,?_,?_⟩
 ·have n2: ¬(z%4<2):=by lia
  have n3: ¬(z%4=2):=by lia
  have n4: ¬(z/4%3=0):=by lia
  have n5: ¬(z/4%3=1):=by lia
  have hd1:gw (eVar 5) (eC (.int 1)) [some (.lst (ws.map .str)),some (.int z),some (.int (z%4)),some (.int (z/4)),none,some (.str T),none]=some (.dik [(.inr T,.int 1)]):=rfl
  simp_arith only [M_w_spoiled,dJ,Nat.sub_self,decide_eq_false n2,decide_eq_false n3,decide_eq_false n4,decide_eq_false n5,dj,hd1,ed]
  all_goals rfl
 ·simp only [List.mem_cons,List.not_mem_nil,or_false] at hd
  have q: ∀s∈["NoneType","bool","int","tuple","list","dict"],isiN s "str"=false:=by decide+kernel
  rcases hd with rfl|rfl|rfl|rfl|rfl|rfl|rfl|rfl|rfl<;>exact uw rfl (q _ (by simp [tyN]))
theorem uO {ws:List Str} (H:WS ws) (z:Int): ∃t,M_w_spoiled [.lst (ws.map .str),.int z]=some t/\aF [t]=true:=by
 obtain ⟨a0,a1⟩:=bo z 4 (by decide)
 obtain ⟨b0,b1⟩:=bo (z/4) 3 (by decide)
 by_cases h:z%4<2
 ·obtain ⟨t,e,x⟩:=uD H z h
  exact ⟨_,e,x⟩
 by_cases h2:z%4=2
 ·obtain ⟨t,e,x⟩:=uH H z h2
  exact ⟨_,e,x⟩
 by_cases h3:z/4%3=0
 ·obtain ⟨t,e,x⟩:=uI H z (by lia) h3
  exact ⟨_,e,x⟩
 by_cases h4:z/4%3=1
 ·exact uM H z (by lia) h4
 ·exact uN H z (by lia) (by lia)
theorem uP {t:Dv} (z:Int) (h:aF [t]=true):dP [t,.int z]=some (.bl true):=by
 have e: ∀v:Option Dv,sTry (aQ aF (aa (eVar 0) aNil)) [some t,some (.int z),v,none,none]=some (.rt (.bl true) [some t,some (.int z),v,none,none]):=fun v=>by
  unfold sTry aQ
  show (if aF [t]=true then _ else _)=_
  rw [if_pos h]
 by_cases h3:z%3=0
 ·simp_arith only [dP,gK,decide_eq_true h3,e]
  all_goals rfl
 ·simp_arith only [dP,gK,decide_eq_false h3,e]
  all_goals rfl
end K56
set_option maxHeartbeats 2000000
namespace K56
open PySem L2
theorem uQ (n:Nat):bn 0 n=(List.range n).map fun k=> .int (0+(k:Int)):=by
 unfold bn
 rfl
theorem la (f:Nat->Int) (hf: ∀k,-1000<=f k/\f k<=1000): ∀l:List Nat,∃L:List (Int×Str),L.map (·.1)=l.map f/\ ∀p∈L,WN p.1 p.2/\p.2.length<=5
 |[]=>⟨[],rfl,fun _ z=>(nomatch z)⟩
 |k::l=>by
  obtain ⟨L,e,h⟩:=la f hf l
  obtain ⟨t,w,lt⟩:=ux (f k) (hf k).1 (hf k).2
  refine ⟨(f k,t)::L,by rw [List.map_cons,List.map_cons,e],fun p hp=> ?_⟩
  rcases List.mem_cons.mp hp with rfl|hp
  ·exact ⟨w,lt⟩
  ·exact h p hp
theorem turn (y:Int) (i:Nat) (hi:i<=100) (v0 v1 v4 v5:Option Dv) (v3:Option Dv) (hix:eOp dIx (eVar 1) (eVar 2) [v0,v1,some (.int (0+(i:Int))),v3,v4,v5]=some (.int y)):
  ∃w3 w4 w5,l_law_1 [v0,v1,some (.int (0+(i:Int))),v3,v4,v5]=some (.nx [v0,v1,some (.int (0+(i:Int))),w3,w4,w5]):=by
 have em:=kN y (0+(i:Int)) (by lia) (by lia)
 generalize mx y (0+(i:Int))=cell at em
 obtain ⟨c0,c1⟩:=bo cell 8 (by decide)
 have hr:iR1 (eOp dAdd (eC (.int 1)) (eOp dMod (eVar 3) (eC (.int 8)))) [v0,v1,some (.int (0+(i:Int))),some (.int cell),v4,v5]=some (bn 0 (1+cell%8).toNat):=jD (by simp_arith only [gg]) (by lia)
 have hn1:1<=(1+cell%8).toNat:=by lia
 have hn8:(1+cell%8).toNat<=8:=by lia
 rw [uQ] at hr
 generalize (1+cell%8).toNat=n at hr hn1 hn8
 have hc:=ee (g:=gN 0) (c:=tyes) (el:=gL) (δ:=[none,some (.int cell)]) (fun k:Nat=>Dv.int (0+(k:Int))) (fun k=> .int (mx cell (0+(k:Int))%2001-1000)) (List.range n) (fun k hk=>by
  have hk':=List.mem_range.mp hk
  have:=kN cell (0+(k:Int)) (by lia) (by lia)
  simp_arith only [gL,this])
 obtain ⟨L,eL,hL⟩:=la (fun k=>mx cell (0+(k:Int))%2001-1000) (fun k=>by
  obtain ⟨a,b⟩:=bo (mx cell (0+(k:Int))) 2001 (by decide)
  lia) (List.range n)
 have lL:L.length=n:=by
  have:=congrArg List.length eL
  rw [List.length_map,List.length_map,List.length_range] at this
  exact this
 have e1:((List.range n).map fun k:Nat=>Dv.int (mx cell (0+(k:Int))%2001-1000))=(L.map (·.1)).map .int:=by rw [eL,List.map_map];rfl
 rw [e1] at hc
 have hs:=ee (g:=gN 0) (c:=tyes) (el:=gM) (δ:=[none]) (fun p:Int×Str=>Dv.int p.1) (fun p=> .str p.2) L (fun p hp=>by
  have:=(hL p hp).1.str
  simp_arith only [gM,this])
 have e2:(L.map fun p:Int×Str=>Dv.int p.1)=(L.map (·.1)).map .int:=by rw [List.map_map];rfl
 have e3:(L.map fun p:Int×Str=>Dv.str p.2)=(L.map (·.2)).map .str:=by rw [List.map_map];rfl
 rw [e2,e3] at hs
 have ne:L≠[]:=fun z=>by rw [z] at lL;simp at lL;lia
 have WSL:WS (L.map (·.2)):=⟨by simpa using ne,by rw [List.length_map];lia,fun w hw=>by
  obtain ⟨p,hp,rfl⟩:=List.mem_map.mp hw
  exact ⟨p.1,hL p hp⟩⟩
 obtain ⟨t,et,xt⟩:=uO WSL (cell/8)
 have mr:=uP (cell/7) xt
 have rr:=ur L ne (by lia) fun p hp=>(hL p hp).1
 have dj:=dW (ws:=L.map (·.2)) (by rw [List.length_map];lia) fun w hw=>by
  obtain ⟨v,_,l⟩:=WSL.wn w hw
  lia
 have dn:=r4 (L.map (·.1)) (L.map (·.1))
 rw [decide_eq_true rfl] at dn
 have hl1:(L.map (·.1)).length<=100000:=by rw [List.length_map];lia
 have im:=dl (L.map (·.1))
 generalize L.map (·.1)=R at*
 generalize L.map (·.2)=ws at*
 generalize Txt.join ⟨#[44]⟩ ws=T at*
 refine ⟨some (.int cell),some (.tup (R.map .int)),some (.lst (ws.map .str)),?_⟩
 simp_arith only [l_law_1,hix,em,hr,hc,hs,im,hl1,et,mr,dj,rr,dn]
 all_goals rfl
theorem uR (ns:List Int) (hl:ns.length<=63):dQ [.scr ns]=some (.bl true):=by
 have hc0:cutD (ns.map Dv.int) none (some 63)=(cutD ns none (some 63)).map .int:=qZ ..
 have hcl:(cutD ns none (some 63)).length<=63:=Nat.le_trans (rW ..) hl
 generalize cutD ns none (some 63)=zs at hc0 hcl
 have zl9:zs.length<=100000:=by lia
 have hcat:cE (.lst (zs.map .int)) (.lst [.int 11,.int 25])=some (.lst ((zs++[11,25]).map .int)):=by
  rw [jC (by rw [List.length_map];show _+2<=100000;lia) (by rw [jB,dl];rfl),List.map_append]
  rfl
 have hcs:(zs++[11,25]).length<=65:=by rw [List.length_append];show _+2<=65;lia
 generalize zs++[11,25]=cs at hcat hcs
 obtain ⟨δ',e,v2,v3,v4,v5,rfl⟩:=jG (g:=gN 2) (body:=l_law_1) (ds:=bn 0 cs.length) (δ:=[some (.scr ns),some (.lst (cs.map .int)),none,none,none,none])
  (fun _ δ=> ∃v2 v3 v4 v5:Option Dv,δ=[some (.scr ns),some (.lst (cs.map .int)),v2,v3,v4,v5]) ⟨_,_,_,_,rfl⟩ (by
  rintro i d δ hd ⟨v2,v3,v4,v5,rfl⟩
  have hi:i<cs.length:=by
   have:=(List.getElem?_eq_some_iff.mp hd).1
   rwa [gb] at this
  rw [jd hi] at hd
  cases hd
  have ac:=qH (zs:=cs) (i:=0+(i:Int)) (by lia) (by lia)
  generalize cs.getD (0+(i:Int)).toNat 0=y at ac
  obtain ⟨w3,w4,w5,ew⟩:=turn y i (by lia) (some (.scr ns)) (some (.lst (cs.map .int))) v4 v5 v3 (by simp_arith only [ac])
  exact ⟨_,_,rfl,ew,_,_,_,_,rfl⟩)
 have hr:iR1 (aj fLen (aa (eVar 1) aNil)) [some (.scr ns),some (.lst (cs.map .int)),none,none,none,none]=some (bn 0 cs.length):=jD (j:=(cs.length:Int)) (by simp_arith only [gg]) (by lia)
 simp_arith-implicitDefEqProofs only [dQ,kA,hc0,dl,zl9,hcat,hr,e]
end K56
set_option maxHeartbeats 4000000
namespace K56
open PySem L2
theorem uS {l:PySem.W.OpenLaw}{w:World}{K:PySem.W.Frag}{h:Heap}{mg:Str->Option Value}{C CH C1 C2 C3 C4 C5 C6 C7 C8 fa f1 f2 f3 f4 f5 f6 f7 f8 f9 f10:Addr} (X:K.In h) (G:h.Ns mainGlobals mg) (hfa:mg "law"=some (.ref fa))
  {od1 an1 od2 an2 od3 an3 od4 an4 od5 an5 od6 an6 od7 an7 od8 an8 od9 an9 od10 an10:Option Addr}{sl1 sl2 sl3 sl4 sl5 sl6 sl7 sl8 sl9 sl10:Array (Option Value)}{oc1 kV1 dc1 pm1 cd1 ct1 oc2 kV2 dc2 pm2 cd2 ct2 oc3 kV3 dc3 pm3 cd3 ct3 oc4 kV4 dc4 pm4 cd4 ct4 oc5 kV5 dc5 pm5 cd5 ct5 oc6 kV6 dc6 pm6 cd6 ct6 oc7 kV7 dc7 pm7 cd7 ct7 oc8 kV8 dc8 pm8 cd8 ct8 oc9 kV9 dc9 pm9 cd9 ct9 oc10 kV10 dc10 pm10 cd10 ct10:Value}
  {tFIGURES tMOST_FIGURES tWIDEST:Tok}
  (a1:PySem.W.nsIn K mainGlobals "is_written_place"=some (some (.ref f1))) (l1:K.lookup f1=some ⟨oc1,od1,.func (PySem.W.fnOf "is_written_place" "is_written_place" (aT dw) (aJ dw) (aq dw) .none kV1 dc1 pm1 an1 cd1 ct1),sl1⟩) (c1:PySem.W.codeIn K cd1 "is_written_place"=true) (k1:PySem.W.keepIn K (.ref f1)=true)
  (a2:PySem.W.nsIn K mainGlobals "_law_mixed"=some (some (.ref f2))) (l2:K.lookup f2=some ⟨oc2,od2,.func (PySem.W.fnOf "_law_mixed" "_law_mixed" (aT dz) (aJ dz) (aq dz) .none kV2 dc2 pm2 an2 cd2 ct2),sl2⟩) (c2:PySem.W.codeIn K cd2 "_law_mixed"=true) (k2:PySem.W.keepIn K (.ref f2)=true)
  (a3:PySem.W.nsIn K mainGlobals "_law_signs"=some (some (.ref f3))) (l3:K.lookup f3=some ⟨oc3,od3,.func (PySem.W.fnOf "_law_signs" "_law_signs" (aT dA) (aJ dA) (aq dA) .none kV3 dc3 pm3 an3 cd3 ct3),sl3⟩) (c3:PySem.W.codeIn K cd3 "_law_signs"=true) (k3:PySem.W.keepIn K (.ref f3)=true)
  (a4:PySem.W.nsIn K mainGlobals "_law_odd"=some (some (.ref f4))) (l4:K.lookup f4=some ⟨oc4,od4,.func (PySem.W.fnOf "_law_odd" "_law_odd" (aT dB) (aJ dB) (aq dB) .none kV4 dc4 pm4 an4 cd4 ct4),sl4⟩) (c4:PySem.W.codeIn K cd4 "_law_odd"=true) (k4:PySem.W.keepIn K (.ref f4)=true)
  (a5:PySem.W.nsIn K mainGlobals "is_written_number"=some (some (.ref f5))) (l5:K.lookup f5=some ⟨oc5,od5,.func (PySem.W.fnOf "is_written_number" "is_written_number" (aT dC) (aJ dC) (aq dC) .none kV5 dc5 pm5 an5 cd5 ct5),sl5⟩) (c5:PySem.W.codeIn K cd5 "is_written_number"=true) (k5:PySem.W.keepIn K (.ref f5)=true)
  (a6:PySem.W.nsIn K mainGlobals "_law_spoiled"=some (some (.ref f6))) (l6:K.lookup f6=some ⟨oc6,od6,.func (PySem.W.fnOf "_law_spoiled" "_law_spoiled" (aT dD) (aJ dD) (aq dD) .none kV6 dc6 pm6 an6 cd6 ct6),sl6⟩) (c6:PySem.W.codeIn K cd6 "_law_spoiled"=true) (k6:PySem.W.keepIn K (.ref f6)=true)
  (a7:PySem.W.nsIn K mainGlobals "read_number"=some (some (.ref f7))) (l7:K.lookup f7=some ⟨oc7,od7,.func (PySem.W.fnOf "read_number" "read_number" (aT cJ) (aJ cJ) (aq cJ) .none kV7 dc7 pm7 an7 cd7 ct7),sl7⟩) (c7:PySem.W.codeIn K cd7 "read_number"=true) (k7:PySem.W.keepIn K (.ref f7)=true)
  (a8:PySem.W.nsIn K mainGlobals "read_row"=some (some (.ref f8))) (l8:K.lookup f8=some ⟨oc8,od8,.func (PySem.W.fnOf "read_row" "read_row" (aT cK) (aJ cK) (aq cK) .none kV8 dc8 pm8 an8 cd8 ct8),sl8⟩) (c8:PySem.W.codeIn K cd8 "read_row"=true) (k8:PySem.W.keepIn K (.ref f8)=true)
  (a9:PySem.W.nsIn K mainGlobals "_law_refused"=some (some (.ref f9))) (l9:K.lookup f9=some ⟨oc9,od9,.func (PySem.W.fnOf "_law_refused" "_law_refused" (aT dF) (aJ dF) (aq dF) .none kV9 dc9 pm9 an9 cd9 ct9),sl9⟩) (c9:PySem.W.codeIn K cd9 "_law_refused"=true) (k9:PySem.W.keepIn K (.ref f9)=true)
  (a10:PySem.W.nsIn K mainGlobals "law"=some (some (.ref f10))) (l10:K.lookup f10=some ⟨oc10,od10,.func (PySem.W.fnOf "law" "law" (aT bR) (aJ bR) (aq bR) .none kV10 dc10 pm10 an10 cd10 ct10),sl10⟩) (c10:PySem.W.codeIn K cd10 "law"=true) (k10:PySem.W.keepIn K (.ref f10)=true)
  (z1:PySem.W.nsIn K mainGlobals "all"=some none)
  (z2:PySem.W.nsIn K mainGlobals "int"=some none)
  (z3:PySem.W.nsIn K mainGlobals "isinstance"=some none)
  (z4:PySem.W.nsIn K mainGlobals "len"=some none)
  (z5:PySem.W.nsIn K mainGlobals "list"=some none)
  (z6:PySem.W.nsIn K mainGlobals "range"=some none)
  (z7:PySem.W.nsIn K mainGlobals "str"=some none)
  (z8:PySem.W.nsIn K mainGlobals "tuple"=some none)
  (g1:PySem.W.nsIn K mainGlobals "FIGURES"=some (some (.str "0123456789" tFIGURES)))
  (g2:PySem.W.nsIn K mainGlobals "MOST_FIGURES"=some (some (.int 60 tMOST_FIGURES)))
  (g3:PySem.W.nsIn K mainGlobals "WIDEST"=some (some (.int 8 tWIDEST)))
  (ye1:PySem.W.nsIn K mainGlobals "NoText"=some (some (.ref C)))
  (ye2:PySem.W.nsIn K mainGlobals "HouseError"=some (some (.ref CH)))
  (ye3:PySem.W.nsIn K mainGlobals "NoBook"=some (some (.ref C1)))
  (ye4:PySem.W.nsIn K mainGlobals "NoDeed"=some (some (.ref C2)))
  (ye5:PySem.W.nsIn K mainGlobals "NoHeap"=some (some (.ref C3)))
  (ye6:PySem.W.nsIn K mainGlobals "NoMoment"=some (some (.ref C4)))
  (ye7:PySem.W.nsIn K mainGlobals "NoName"=some (some (.ref C5)))
  (ye8:PySem.W.nsIn K mainGlobals "NoRow"=some (some (.ref C6)))
  (ye9:PySem.W.nsIn K mainGlobals "TooLate"=some (some (.ref C7)))
  (ye10:PySem.W.nsIn K mainGlobals "TooMuch"=some (some (.ref C8)))
  (yev:PySem.W.nsIn K mainGlobals "ValueError"=some none)
  (yeo:PySem.W.excIn K C [.type "ValueError",.type "Exception",.type "BaseException",.type "object"] "ValueError.__new__"=true)
  (yex1:PySem.W.exmOne K (.ref C) (.ref C)=some true)
  (yex2:PySem.W.exmOne K (.ref C) (.ref CH)=some true)
  (yekt:PySem.W.kitAny K (.ref C) [.ref C1,.ref C2,.ref C3,.ref C4,.ref C5,.ref C6,.ref C7,.ref C8]=some false)
  (yekn:PySem.W.kitOne K (.ref C) (.ref C)=some true)
  (yekv:PySem.W.kitOne K (.ref C) (.type "ValueError")=some true)
  (yf1:PySem.W.isClsIn K C=true)
  (yf2:PySem.W.findIn K (.ref C) "__getattribute__"=some (some (.builtin "BaseException.__getattribute__")))
  (yf3:PySem.W.findIn K (.ref C) "__getattr__"=some none)
  (yf4:PySem.W.findIn K (.ref C) "__class__"=some (some (.builtin "object.__class__")))
  (yf5:PySem.W.specialIn K (.builtin "object.__class__") "__get__"=some (some (.builtin "getset_descriptor.__get__")))
  (yf6:PySem.W.takesIn K (.builtin "object.__class__")=some true)
  (yf7:PySem.W.subIn K (.ref C) (.type "BaseException")=some true)
  (yf8:PySem.W.mroIn K C (.type "object")=some true)
  : ∃fd:FuncData,(∀(s:Shared) (v:Value),BindsTo s fd ⟨[v],[]⟩ [("_law_script",v)])/\ ∀base:Heap,K.In base->base.Ns mainGlobals mg->FnOk l.prog w K mg base CX0 6 fa fd ["_law_script"] (spD K .imm dQ):=by
 have e:=hfa.symm.trans (PySem.W.mg_of X G a10)
 cases e
 have B:Blt mg:=⟨PySem.W.mg_none_of X G z1,PySem.W.mg_none_of X G z2,PySem.W.mg_none_of X G z3,PySem.W.mg_none_of X G z4,PySem.W.mg_none_of X G z5,PySem.W.mg_none_of X G z6,PySem.W.mg_none_of X G z7,PySem.W.mg_none_of X G z8⟩
 have G_FIGURES:=PySem.W.mg_of X G g1
 have G_MOST_FIGURES:=PySem.W.mg_of X G g2
 have G_WIDEST:=PySem.W.mg_of X G g3
 have F1:=bz (st:=dw) l1 c1 k1
 have b1:=F1.binds (ps:=["text"]) fun _ _ _ _ _ _ us hl=>match us,hl with|[_],_=>rfl
 have F2:=bz (st:=dz) l2 c2 k2
 have b2:=F2.binds (ps:=["_law_cell","_law_k"]) fun _ _ _ _ _ _ us hl=>match us,hl with|[_,_],_=>rfl
 have F3:=bz (st:=dA) l3 c3 k3
 have b3:=F3.binds (ps:=[]) fun _ _ _ _ _ _ us hl=>match us,hl with|[],_=>rfl
 have F4:=bz (st:=dB) l4 c4 k4
 have b4:=F4.binds (ps:=["_law_cell"]) fun _ _ _ _ _ _ us hl=>match us,hl with|[_],_=>rfl
 have F5:=bz (st:=dC) l5 c5 k5
 have b5:=F5.binds (ps:=["text"]) fun _ _ _ _ _ _ us hl=>match us,hl with|[_],_=>rfl
 have F6:=bz (st:=dD) l6 c6 k6
 have b6:=F6.binds (ps:=["_law_words","_law_cell"]) fun _ _ _ _ _ _ us hl=>match us,hl with|[_,_],_=>rfl
 have F7:=bz (st:=cJ) l7 c7 k7
 have b7:=F7.binds (ps:=["text"]) fun _ _ _ _ _ _ us hl=>match us,hl with|[_],_=>rfl
 have F8:=bz (st:=cK) l8 c8 k8
 have b8:=F8.binds (ps:=["text"]) fun _ _ _ _ _ _ us hl=>match us,hl with|[_],_=>rfl
 have F9:=bz (st:=dF) l9 c9 k9
 have b9:=F9.binds (ps:=["_law_text","_law_cell"]) fun _ _ _ _ _ _ us hl=>match us,hl with|[_,_],_=>rfl
 have F10:=bz (st:=bR) l10 c10 k10
 refine ⟨PySem.W.fnOf "law" "law" (aT bR) (aJ bR) (aq bR) .none kV10 dc10 pm10 an10 cd10 ct10,fun s v=> .of_eq rfl,fun base KB _=> ?_⟩
 have D_is_written_place:=bG (P:=l.prog) (w:=w) (base:=base) F1 (PySem.W.mg_of X G a1) (tZ F1 B G_FIGURES G_MOST_FIGURES G_WIDEST) b1
 have D_w_mixed:=bG (P:=l.prog) (w:=w) (base:=base) F2 (PySem.W.mg_of X G a2) (t0 F2 B G_FIGURES G_MOST_FIGURES G_WIDEST) b2
 have D_w_signs:=bG (P:=l.prog) (w:=w) (base:=base) F3 (PySem.W.mg_of X G a3) (t5 F3 B G_FIGURES G_MOST_FIGURES G_WIDEST) b3
 have D_w_odd:=bG (P:=l.prog) (w:=w) (base:=base) F4 (PySem.W.mg_of X G a4) (t6 F4 B G_FIGURES G_MOST_FIGURES G_WIDEST) b4
 have D_is_written_number:=bG (P:=l.prog) (w:=w) (base:=base) F5 (PySem.W.mg_of X G a5) (t7 F5 B G_FIGURES G_MOST_FIGURES G_WIDEST D_is_written_place) b5
 have D_w_spoiled:=bG (P:=l.prog) (w:=w) (base:=base) F6 (PySem.W.mg_of X G a6) (t8 F6 B G_FIGURES G_MOST_FIGURES G_WIDEST D_w_odd D_w_signs) b6
 have D_read_number:=bG (P:=l.prog) (w:=w) (base:=base) F7 (PySem.W.mg_of X G a7) (t9 F7 B G_FIGURES G_MOST_FIGURES G_WIDEST D_is_written_number) b7
 have D_read_row:=bG (P:=l.prog) (w:=w) (base:=base) F8 (PySem.W.mg_of X G a8) (ua F8 B G_FIGURES G_MOST_FIGURES G_WIDEST D_read_number) b8
 have O:=tN KB (PySem.W.mg_of X G ye1) yeo
 have DX_read_number:DefX l.prog w K mg base C 3 "read_number" ["text"] (spX K C aX):=⟨_,_,ub F7 B G_FIGURES G_MOST_FIGURES G_WIDEST D_is_written_number O F.excBase_ValueError,PySem.W.mg_of X G a7,k7,b7⟩
 have DX_read_row:DefX l.prog w K mg base C 4 "read_row" ["text"] (spX K C aF):=⟨_,_,uc F8 B G_FIGURES G_MOST_FIGURES G_WIDEST D_read_number O F.excBase_ValueError DX_read_number,PySem.W.mg_of X G a8,k8,b8⟩
 have D_w_refused:=bG (P:=l.prog) (w:=w) (base:=base) F9 (PySem.W.mg_of X G a9) (ud F9 B G_FIGURES G_MOST_FIGURES G_WIDEST DX_read_row ⟨yf1,yf2,yf3,yf4,yf5,yf6,yf7,yf8⟩ (PySem.W.mg_of X G ye1) (PySem.W.mg_of X G ye2) (PySem.W.mg_of X G ye3) (PySem.W.mg_of X G ye4) (PySem.W.mg_of X G ye5) (PySem.W.mg_of X G ye6) (PySem.W.mg_of X G ye7) (PySem.W.mg_of X G ye8) (PySem.W.mg_of X G ye9) (PySem.W.mg_of X G ye10) (PySem.W.mg_none_of X G yev) yex1 yex2 yekt yekn yekv) b9
 exact ue F10 B G_FIGURES G_MOST_FIGURES G_WIDEST D_w_mixed D_w_refused D_w_spoiled D_read_row
theorem walk {l:PySem.W.OpenLaw}{q:Program}{loose:List Str}{XP:(Str->Option Value)->Heap->Prop}{YP:World->Heap->Prop}{d:DefRec}{K:Params->PySem.W.Frag} (hn:l.most=some 63) (hdf:d.params.defaults=[])
  (hY: ∀(w:World) (h:Heap),YP w h->(K w.params).In h)
  (F: ∀(w:World) (mg:Str->Option Value) (fa:Addr) (h:Heap),(K w.params).In h->h.Ns mainGlobals mg->mg d.name=some (.ref fa)->
   ∃fd:FuncData,(∀(s:Shared) (u:Value),BindsTo s fd ⟨[u],[]⟩ [("_law_script",u)])/\ ∀base:Heap,(K w.params).In base->base.Ns mainGlobals mg->FnOk l.prog w (K w.params) mg base CX0 6 fa fd ["_law_script"] (spD (K w.params) .imm dQ)):
  PySem.W.WalkO q loose XP YP l.row.toRowW d [] (fun f vs=>PySem.call f vs):=
 L2.nF (n:=63) (k:=6) (x:="_law_script") (CX:=fun _=>CX0) (sp:=fun w=>spD (K w.params) .imm dQ) hn (by decide) hdf ⟨rfl,by decide,by decide⟩ hY F (fun _ _ a ns hl hO hS=>oQ hO hS (uR ns hl)) fun _ _ _ _ _ z=>z
end K56
open PySem PySem.W PyProof.Rows
set_option maxRecDepth 100000 in
set_option maxHeartbeats 0 in
theorem PySem.Challenge.cw_deltahouse_k56_rows_refused_holds : PySem.Challenge.rw_deltahouse_k56_rows_refused.Holds := by
 w_on;o_law;k_head;(case hw=>w_witness2)
 k_fill
 refine K56.walk (l:=PySem.Challenge.rw_deltahouse_k56_rows_refused) rfl rfl (fun w h Y=>PySem.W.kIn_of Y) ?F
 case F=>
  intro w mg fa h KX G hmg
  refine' K56.uS KX G hmg ?a1 ?l1 ?c1 ?k1 ?a2 ?l2 ?c2 ?k2 ?a3 ?l3 ?c3 ?k3 ?a4 ?l4 ?c4 ?k4 ?a5 ?l5 ?c5 ?k5 ?a6 ?l6 ?c6 ?k6 ?a7 ?l7 ?c7 ?k7 ?a8 ?l8 ?c8 ?k8 ?a9 ?l9 ?c9 ?k9 ?a10 ?l10 ?c10 ?k10 ?z1 ?z2 ?z3 ?z4 ?z5 ?z6 ?z7 ?z8 ?g1 ?g2 ?g3 ?ye1 ?ye2 ?ye3 ?ye4 ?ye5 ?ye6 ?ye7 ?ye8 ?ye9 ?ye10 ?yev ?yeo ?yex1 ?yex2 ?yekt ?yekn ?yekv ?yf1 ?yf2 ?yf3 ?yf4 ?yf5 ?yf6 ?yf7 ?yf8
  (case a1=>k_is);(case l1=>k_is);(case c1=>k_is);(case k1=>k_is)
  (case a2=>k_is);(case l2=>k_is);(case c2=>k_is);(case k2=>k_is)
  (case a3=>k_is);(case l3=>k_is);(case c3=>k_is);(case k3=>k_is)
  (case a4=>k_is);(case l4=>k_is);(case c4=>k_is);(case k4=>k_is)
  (case a5=>k_is);(case l5=>k_is);(case c5=>k_is);(case k5=>k_is)
  (case a6=>k_is);(case l6=>k_is);(case c6=>k_is);(case k6=>k_is)
  (case a7=>k_is);(case l7=>k_is);(case c7=>k_is);(case k7=>k_is)
  (case a8=>k_is);(case l8=>k_is);(case c8=>k_is);(case k8=>k_is)
  (case a9=>k_is);(case l9=>k_is);(case c9=>k_is);(case k9=>k_is)
  (case a10=>k_is);(case l10=>k_is);(case c10=>k_is);(case k10=>k_is)
  (case z1=>k_is);(case z2=>k_is);(case z3=>k_is);(case z4=>k_is)
  (case z5=>k_is);(case z6=>k_is);(case z7=>k_is);(case z8=>k_is)
  (case g1=>k_is);(case g2=>k_is);(case g3=>k_is)
  (case ye1=>k_is)
  (case ye2=>k_is)
  (case ye3=>k_is)
  (case ye4=>k_is)
  (case ye5=>k_is)
  (case ye6=>k_is)
  (case ye7=>k_is)
  (case ye8=>k_is)
  (case ye9=>k_is)
  (case ye10=>k_is)
  (case yev=>k_is)
  (case yeo=>k_exc)
  (case yex1=>kts_exm)
  (case yex2=>kts_exm)
  (case yekt=>kit_is)
  (case yekn=>kit_is)
  (case yekv=>kit_is)
  (case yf1=>k_is)
  (case yf2=>k_is)
  (case yf3=>k_is)
  (case yf4=>k_is)
  (case yf5=>k_is)
  (case yf6=>k_is)
  (case yf7=>k_is)
  (case yf8=>k_is)
