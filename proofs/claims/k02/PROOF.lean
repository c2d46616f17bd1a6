import PyProof.Rows.All
import Wide.All
import OpenK.AllK
import Wide.FinOn
import Lean
import PyProof.EqAt
import PyProof.EqKinds
import PyProof.TupleCall
import KE.KLam
import KE.KNestM
import PyProof.P3Eq
import PyProof.NeData
import KE.KIsAll
import PyProof.SumAny
import PyProof.Rows.SortShell
import PyProof.Rows.SortRuns
import KE.KSortTup
import KE.KDictSum
import PyProof.ZipIter
import KE.KRevIter
import PyProof.P3In
import KE.KDictList
import PyProof.DictFindH
import PyProof.DictRoadsH
import PyProof.Rows.ListMulArg
import PyProof.AttrMissHeap
import KE.KDictOf
import PyProof.CollectWalk
import PyProof.MaxThree
import PyProof.AutoSeq1
import PyProof.Rows.MinMaxN
import KE.KIntText
import PyProof.Rows.StrJoin2
import PyProof.Rows.StrSplitAre
import PyProof.StrOps2
import PyProof.Rows.SetFrom
import PyProof.SetRoads
import KE.KEqDict
import PySem.Challenge.RW_deltahouse_k02_a_heap
set_option Elab.async false
set_option linter.all false
set_option maxRecDepth 100000
set_option maxHeartbeats 4000000
namespace L2
open PySem PySem.Spec PyProof.Rows
noncomputable abbrev Key:=Sum Int Str
noncomputable def dH:Key->Value->Bool
 | .inl k,v=>Value.isInt k v
 | .inr x,v=>Value.isStrOf x v
noncomputable def keyH (w:World):Key->Int
 | .inl k=>hashInt k
 | .inr x=>hashStr w x
theorem keyIs_shape: ∀{k:Key}{v:Value},dH k v=true->(∃i t,k=Sum.inl i/\v=Value.int i t) \/(∃x t,k=Sum.inr x/\v=Value.str x t)
 | .inl i,v,h=>by
  obtain ⟨t,e⟩:=Value.isInt_shape (k:=i) (v:=v) h
  exact .inl ⟨i,t,rfl,e⟩
 | .inr x,v,h=>by
  obtain ⟨t,e⟩:=Value.isStrOf_shape (x:=x) (v:=v) h
  exact .inr ⟨x,t,rfl,e⟩
theorem m4 (i:Int) (t:Tok):dH (.inl i) (.int i t)=true:=by simp [dH,Value.isInt]
theorem m5 (x:Str) (t:Tok):dH (.inr x) (.str x t)=true:=by simp [dH,Value.isStrOf]
theorem m6 (a b:Int):decide ((Sum.inl a:Key)=Sum.inl b)=(a==b):=by
 by_cases e:a=b
 ·subst e;simp
 ·have h: ¬(Sum.inl a:Key)=Sum.inl b:=fun q=>e (Sum.inl.inj q)
  rw [decide_eq_false h]
  exact (beq_eq_false_iff_ne.mpr e).symm
theorem m7 (a b:Str):decide ((Sum.inr a:Key)=Sum.inr b)=decide (a=b):=by
 by_cases e:a=b
 ·subst e;simp
 ·have h: ¬(Sum.inr a:Key)=Sum.inr b:=fun q=>e (Sum.inr.inj q)
  rw [decide_eq_false h,decide_eq_false e]
theorem m8 (a:Int) (b:Str):decide ((Sum.inl a:Key)=Sum.inr b)=false:=decide_eq_false (fun q=>nomatch q)
theorem m9 (a:Str) (b:Int):decide ((Sum.inr a:Key)=Sum.inl b)=false:=decide_eq_false (fun q=>nomatch q)
noncomputable def aM (prog:Program) (w:World):PySem.KeyKind prog w Key where
 is:=dH
 hash:=keyH w
 inj:=fun v a b ha hb=>by
  rcases keyIs_shape ha with ⟨i,t,rfl,rfl⟩|⟨x,t,rfl,rfl⟩
  ·rcases keyIs_shape hb with ⟨j,u,rfl,e⟩|⟨y,u,rfl,e⟩
   ·injection e with e1 _;rw [e1]
   ·exact nomatch e
  ·rcases keyIs_shape hb with ⟨j,u,rfl,e⟩|⟨y,u,rfl,e⟩
   ·exact nomatch e
   ·injection e with e1 _;rw [e1]
 byValue:=fun k v h=>by
  rcases keyIs_shape h with ⟨i,t,rfl,rfl⟩|⟨x,t,rfl,rfl⟩<;>rfl
 pyHash:=fun hv h=>by
  rcases keyIs_shape hv with ⟨i,t,rfl,rfl⟩|⟨x,t,rfl,rfl⟩
  ·exact wpAny_pyHash_int h
  ·exact wpAny_pyHash_str h
 eqBool:=fun hu hv h=>by
  rcases keyIs_shape hu with ⟨i,t,rfl,rfl⟩|⟨x,t,rfl,rfl⟩
  ·rcases keyIs_shape hv with ⟨j,u,rfl,rfl⟩|⟨y,u,rfl,rfl⟩
   ·rw [m6] at h;exact wpAny_eqBool_int h
   ·rw [m8] at h;exact SeqAt.EqAt.int_str i t y u _ _ _ _ h
  ·rcases keyIs_shape hv with ⟨j,u,rfl,rfl⟩|⟨y,u,rfl,rfl⟩
   ·rw [m9] at h;exact SeqAt.EqAt.str_int x t j u _ _ _ _ h
   ·rw [m7] at h;exact wpAny_eqBool_str h
 «strs»:=fun k x t v h=>by
  rcases keyIs_shape h with ⟨i,u,rfl,e⟩|⟨y,u,rfl,e⟩
  ·exact nomatch e
  ·injection e with e1 _
   subst e1
   cases v<;>rfl
theorem ng (prog:Program) (w:World) (i:Int) (t:Tok):(aM prog w).is (.inl i) (.int i t)=true:=m4 i t
theorem nh (prog:Program) (w:World) (x:Str) (t:Tok):(aM prog w).is (.inr x) (.str x t)=true:=m5 x t
end L2
namespace L2
open PySem PySem.Spec PyProof.Rows
inductive V where
 |non|bl (b:Bool)|int (i:Int)|str (x:Str)|byt (b:Array UInt8)|flt (b:UInt64)|ref (a:Addr)|ty (n:String)
 deriving DecidableEq
noncomputable def RelV:V->Value->Prop
 | .non,u=>u=Value.none
 | .bl b,u=>u=Value.bool b
 | .int i,u=> ∃t,u=Value.int i t
 | .str x,u=> ∃t,u=Value.str x t
 | .byt b,u=> ∃t,u=Value.bytes b t
 | .flt b,u=> ∃t,u=Value.float b t
 | .ref a,u=>u=Value.ref a
 | .ty n,u=>u=Value.type n
noncomputable abbrev Vals:List V->List Value->Prop:=Paired RelV
theorem Vals.length {xs:List V}{us:List Value} (r:Vals xs us):xs.length=us.length:=Paired.length r
theorem Vals.get: ∀{xs:List V}{us:List Value}{i:Nat}{x:V},Vals xs us->xs[i]?=some x-> ∃u,us[i]?=some u/\RelV x u
 |_,_,_,_,.nil,e=>by simp at e
 |_,_,0,_,.cons r _,e=>by simp at e;subst e;exact ⟨_,rfl,r⟩
 |_,_,i+1,x,.cons _ t,e=>by
  obtain ⟨u,h1,h2⟩:=Vals.get (i:=i) (x:=x) t (by simpa using e)
  exact ⟨u,by simpa using h1,h2⟩
theorem Vals.set {x:V}{u:Value} (r:RelV x u): ∀{xs:List V}{us:List Value} (i:Nat),Vals xs us->Vals (xs.set i x) (us.set i u)
 |_,_,_,.nil=> .nil
 |_,_,0,.cons _ t=> .cons r t
 |_,_,i+1,.cons q t=> .cons q (Vals.set r i t)
theorem Vals.append: ∀{xs ys:List V}{us ws:List Value},Vals xs us->Vals ys ws->Vals (xs++ys) (us++ws)
 |_,_,_,_,.nil,s=>s
 |_,_,_,_,.cons r t,s=> .cons r (Vals.append t s)
theorem Vals.take: ∀{xs:List V}{us:List Value} (n:Nat),Vals xs us->Vals (xs.take n) (us.take n)
 |_,_,0,_=> .nil
 |_,_,_+1,.nil=> .nil
 |_,_,n+1,.cons r t=> .cons r (Vals.take n t)
theorem Vals.drop: ∀{xs:List V}{us:List Value} (n:Nat),Vals xs us->Vals (xs.drop n) (us.drop n)
 |_,_,0,r=>r
 |_,_,_+1,.nil=> .nil
 |_,_,n+1,.cons _ t=>Vals.drop n t
theorem Vals.none_of: ∀{xs:List V}{us:List Value}{i:Nat},Vals xs us->xs[i]?=none->us[i]?=none:=fun {xs us i} r e=>by
 have h1:=r.length
 have h2:xs.length<=i:=List.getElem?_eq_none_iff.mp e
 exact List.getElem?_eq_none_iff.mpr (by lia)
noncomputable def RelO:Option V->Option Value->Prop
 |some v,some u=>RelV v u
 |none,none=>True
 |_,_=>False
noncomputable def KV {κ:Type}:List (κ×V)->List (κ×Value)->Prop:=Paired fun (p:κ×V) (q:κ×Value)=>p.1=q.1/\RelV p.2 q.2
noncomputable def kV:Key->V
 | .inl i=> .int i
 | .inr x=> .str x
inductive HO where
 |lst (xs:List V)
 |tup (xs:List V)
 |dK (kvs:List (Key×V))|dT (kvs:List (List Key×V))
 |set (S:Int->Bool) (n:Nat)
 |ins (C dx:Addr) (fs:List (Str×V))
 |own (x:Addr)
 |xd (fs:List (Str×V))
 |met (f x:Addr)
 |rng (lo hi:Int)
 |frz (o:Obj) (u:HO)
 |tbl (q:Str)
 |ext (φ:Heap->Prop)
noncomputable abbrev Hp:=Addr->Option HO
noncomputable def upd (H:Hp) (a:Addr) (o:HO):Hp:=fun b=>if b=a then some o else H b
theorem ay {H:Hp}{a:Addr}{o:HO}:upd H a o a=some o:=by unfold upd;rw [if_pos rfl]
theorem au {H:Hp}{a b:Addr}{o:HO} (h:b≠a):upd H a o b=H b:=by unfold upd;rw [if_neg h]
theorem jl {H:Hp}{a b:Addr}{o u:HO} (h:H a=some o) (h':H b=some u) (d:o≠u):a≠b:=by
 intro e;subst e;rw [h] at h';exact d (Option.some.inj h')
theorem bp {H:Hp}{a b:Addr}{o:HO} (h:H a=some o) (h':H b=none):a≠b:=by
 intro e;subst e;rw [h] at h';cases h'
noncomputable def cR (h:Heap) (a:Addr) (items:Array Value):Prop:= ∃o,h.get? a=some o/\o.cls= .type "tuple"/\(∃n,o.data= .seq items n)/\o.dict=none
theorem cR.tup {h:Heap}{a:Addr}{items:Array Value} (x:cR h a items):IsTup h a items:=let ⟨o,h1,h2,h3,_⟩:=x;⟨o,h1,h2,h3⟩
theorem cR.new (h:Heap) (items:Array Value):cR (h.push {cls:= .type "tuple",data:= .seq items}) h.objs.size items:=⟨_,Heap.get?_push_size _ rfl,rfl,⟨_,rfl⟩,rfl⟩
section
variable (P:Program) (w:World)
noncomputable def ax (H:Hp) (h:Heap) (a:Addr):HO->Prop
 | .lst xs=>xs.length<=sizeLine/\ ∃(its:List Value) (n:Nat),Vals xs its/\h.get? a=some {cls:= .type "list",data:= .seq its.toArray n}
 | .tup xs=>xs.length<=sizeLine/\ ∃its:List Value,Vals xs its/\cR h a its.toArray
 | .dK kvs=>kvs.length<=sizeLine/\(a==sysModules)=false/\ ∃vs,KV kvs vs/\h.DictOf (aM P w) a vs
 | .dT kvs=>kvs.length<=sizeLine/\(a==sysModules)=false/\ ∃xs:List (List Key×Addr×Value),
   Paired (fun (p:List Key×V) (q:List Key×Addr×Value)=>p.1=q.1/\H q.2.1=some (.tup (p.1.map kV))/\RelV p.2 q.2.2) kvs xs/\
   ∃o es ep,h.get? a=some o/\o.ExactDict/\o.data= .dict es ep/\es.toList=xs.map (entryOfKey (tupleKind (aM P w)))/\(xs.map (·.1)).Nodup
 | .set S n=>h.SetOf (intKind P w) a S n
 | .ins C dx fs=>H dx=some (.own a)/\fs.length<=1000/\dx≠a/\h.get? a=some (PySem.W.instObj C dx)/\
   ∃mA,h.Ns1 dx mA/\(∀f,RelO (fs.lookup f) (mA f))/\PySem.Within mA (fs.map (·.1))
 | .own _=> ∃o,h.get? a=some o
 | .xd fs=> ∃mA,h.Ns1 a mA/\ ∀f,RelO (fs.lookup f) (mA f)
 | .rng lo hi=> ∃t u v,h.get? a=some {cls:= .type "range",data:= .fields #[.int lo t,.int hi u,.int 1 v]}
 | .frz o u=>h.get? a=some o/\ax H h a u
 | .tbl q=> ∃ps:Array Value,h.get? a=some {cls:= .none,data:= .fields ps}/\TriplesOk ps.toList/\ ∀pos cv,codeAmong pos ps.toList=some cv-> ∃(c:Addr) (oc:Obj) (vs:Array Value) (t:Tok),cv= .ref c/\H c=some (.frz oc (.own 0))/\oc.data= .fields vs/\vs[1]?=some (.str q t)
 | .met f x=>h.get? a=some (PySem.W.methodObj (.ref f) (.ref x))
 | .ext φ=>φ h/\(∃o,h.get? a=some o)/\ ∀h1 h2:Heap,φ h1->(∀o,h1.get? a=some o->h2.get? a=some o)->φ h2
noncomputable def HOk (H:Hp) (h:Heap):Prop:= ∀a o,H a=some o->ax P w H h a o
end
section
variable {P:Program}{w:World}{H H':Hp}{h h':Heap}{a:Addr}{o:HO}
theorem ax.lt (x:ax P w H h a o):a<h.objs.size:=by
 cases o with
 |lst xs=>obtain ⟨_,_,_,_,e⟩:=x;exact Heap.lt_size e
 |tup xs=>obtain ⟨_,_,_,p⟩:=x;exact p.tup.lt
 |dK kvs=>obtain ⟨_,_,_,_,o,_,_,e,_⟩:=x;exact Heap.lt_size e
 |dT kvs=>obtain ⟨_,_,_,_,o,_,_,e,_⟩:=x;exact Heap.lt_size e
 |set S n=>obtain ⟨o,_,_,_,e,_⟩:=x;exact Heap.lt_size e
 |ins C dx fs=>obtain ⟨_,_,_,e,_⟩:=x;exact Heap.lt_size e
 |own y=>obtain ⟨_,e⟩:=x;exact Heap.lt_size e
 |xd fs=>obtain ⟨_,⟨_,_,_,e,_⟩,_⟩:=x;exact Heap.lt_size e
 |rng lo hi=>obtain ⟨_,_,_,e⟩:=x;exact Heap.lt_size e
 |frz ob u=>obtain ⟨e,_⟩:=x;exact Heap.lt_size e
 |tbl q=>obtain ⟨_,e,_⟩:=x;exact Heap.lt_size e
 |met f y=>exact Heap.lt_size (show h.get? a=some _ from x)
 |ext φ=>obtain ⟨_,⟨_,e⟩,_⟩:=x;exact Heap.lt_size e
theorem Paired.mapP {α β:Type}{F G:α->β->Prop}: ∀{l₁:List α}{l₂:List β},Paired F l₁ l₂->(∀a b,F a b->G a b)->Paired G l₁ l₂
 |_,_,.nil,_=> .nil
 |_,_,.cons r t,f=> .cons (f _ _ r) (Paired.mapP t f)
theorem Paired.imp' {α β:Type}{F G:α->β->Prop} (f: ∀a b,F a b->G a b) {l₁:List α}{l₂:List β} (r:Paired F l₁ l₂):Paired G l₁ l₂:=Paired.mapP r f
theorem ax.stay (x:ax P w H h a o) (k: ∀b u,(b=a \/H b=some (.own a))->h.get? b=some u->h'.get? b=some u)
  (ho: ∀b,H b=some (.own a)->H' b=some (.own a)) (ht: ∀b xs,H b=some (.tup xs)->H' b=some (.tup xs)) (hc: ∀b ob u,(∃vs,ob.data= .fields vs)->H b=some (.frz ob u)->H' b=some (.frz ob u):=by exact fun _ _ _ _ q=>q):ax P w H' h' a o:=by
 induction o with
 |lst xs=>obtain ⟨z,its,n,r,e⟩:=x;exact ⟨z,its,n,r,k _ _ (.inl rfl) e⟩
 |tup xs=>obtain ⟨z,its,r,ob,e,c⟩:=x;exact ⟨z,its,r,ob,k _ _ (.inl rfl) e,c⟩
 |dK kvs=>obtain ⟨z,y,vs,r,ob,es,ep,e,c⟩:=x;exact ⟨z,y,vs,r,ob,es,ep,k _ _ (.inl rfl) e,c⟩
 |dT kvs=>
  obtain ⟨z,y,xs,r,ob,es,ep,e,c⟩:=x
  exact ⟨z,y,xs,Paired.mapP r fun p q z=>⟨z.1,ht _ _ z.2.1,z.2.2⟩,ob,es,ep,k _ _ (.inl rfl) e,c⟩
 |set S n=>obtain ⟨ob,es,ep,t,e,c⟩:=x;exact ⟨ob,es,ep,t,k _ _ (.inl rfl) e,c⟩
 |ins C dx fs=>
  obtain ⟨d,z,ne,e,mA,⟨od,es,ep,e2,c⟩,r⟩:=x
  exact ⟨ho _ d,z,ne,k _ _ (.inl rfl) e,mA,⟨od,es,ep,k _ _ (.inr d) e2,c⟩,r⟩
 |own y=>obtain ⟨ob,e⟩:=x;exact ⟨ob,k _ _ (.inl rfl) e⟩
 |xd fs=>obtain ⟨mA,⟨od,es,ep,e,c⟩,r⟩:=x;exact ⟨mA,⟨od,es,ep,k _ _ (.inl rfl) e,c⟩,r⟩
 |rng lo hi=>obtain ⟨t,u,v,e⟩:=x;exact ⟨t,u,v,k _ _ (.inl rfl) e⟩
 |frz ob u ih=>obtain ⟨e,q⟩:=x;exact ⟨k _ _ (.inl rfl) e,ih q⟩
 |tbl q=>
  obtain ⟨ps,e,t,l⟩:=x
  exact ⟨ps,k _ _ (.inl rfl) e,t,fun pos cv ec=>by obtain ⟨c,oc,vs,t,r,z,d,g⟩:=l pos cv ec;exact ⟨c,oc,vs,t,r,hc c oc (.own 0) ⟨vs,d⟩ z,d,g⟩⟩
 |met f y=>
  have e:h.get? a=some (PySem.W.methodObj (.ref f) (.ref y)):=x
  show h'.get? a=some (PySem.W.methodObj (.ref f) (.ref y))
  exact k a _ (.inl rfl) e
 |ext φ=>obtain ⟨p,⟨o,e⟩,st⟩:=x;exact ⟨st _ _ p fun o q=>k _ _ (.inl rfl) q,⟨o,k _ _ (.inl rfl) e⟩,st⟩
theorem HOk.lt (x:HOk P w H h) (e:H a=some o):a<h.objs.size:=(x a o e).lt
theorem HOk.fresh (x:HOk P w H h) (e:h.objs.size<=a):H a=none:=by
 cases q:H a with
 |none=>rfl
 |some u=>exact absurd (Nat.lt_of_lt_of_le (x.lt q) e) (Nat.lt_irrefl _)
theorem HOk.kept (x:HOk P w H h) (k: ∀b u,h.get? b=some u->h'.get? b=some u):HOk P w H h':=fun a o e=>
 (x a o e).stay (fun b u _ q=>k b u q) (fun _ q=>q) fun _ _ q=>q
theorem HOk.laid (x:HOk P w H h) (k: ∀b u,h.get? b=some u->h'.get? b=some u) (hp:h.objs.size<=a) (new:ax P w (upd H a o) h' a o):HOk P w (upd H a o) h':=fun b u e=>by
 have hn:=x.fresh hp
 by_cases hb:b=a
 ·subst hb;rw [ay] at e;cases e;exact new
 ·rw [au hb] at e
  exact (x b u e).stay (fun c v _ q=>k c v q) (fun c q=>by rw [au (bp q hn)];exact q) (fun c xs q=>by rw [au (bp q hn)];exact q) fun c _ _ _ q=>by rw [au (bp q hn)];exact q
end
noncomputable def Rd (H:Hp) (a:Addr) (u:HO):Prop:=H a=some u \/ ∃o,H a=some (.frz o u)
theorem Rd.of {H:Hp}{a:Addr}{u:HO} (h:H a=some u):Rd H a u:= .inl h
theorem Rd.ok {P:Program}{w:World}{H:Hp}{h:Heap}{a:Addr}{u:HO} (r:Rd H a u) (x:HOk P w H h):ax P w H h a u:=by
 rcases r with r|⟨o,r⟩
 ·exact x a u r
 ·obtain ⟨_,q⟩:=x a _ r
  exact q
noncomputable def Mut:Option HO->Prop
 |some (.lst _)=>True
 |some (.dK _)=>True
 |some (.dT _)=>True
 |some (.set _ _)=>True
 |some (.ins _ _ _)=>True
 |some (.ext _)=>True
 |_=>False
section
variable {P:Program}{w:World}{H:Hp}{h h':Heap}{x e:Addr}{o':HO}
theorem HOk.write (ok:HOk P w H h) (mu:Mut (H x)) (he:e=x \/H e=some (.own x)) (k: ∀b u,b≠e->h.get? b=some u->h'.get? b=some u) (heo: ∃u,h'.get? e=some u)
  (new:ax P w (upd H x o') h' x o'):HOk P w (upd H x o') h':=fun b u q=>by
 have nown: ∀c y,H c=some (.own y)->c≠x:=fun c y r z=>by subst z;rw [r] at mu;exact mu
 have ntup: ∀c xs,H c=some (.tup xs)->c≠x:=fun c xs r z=>by subst z;rw [r] at mu;exact mu
 have nfrz: ∀c ob u,H c=some (.frz ob u)->c≠x:=fun c ob u r z=>by subst z;rw [r] at mu;exact mu
 by_cases hb:b=x
 ·subst hb;rw [ay] at q;cases q;exact new
 ·rw [au hb] at q
  by_cases hbe:b=e
  ·have q':H b=some (.own x):=by
    rcases he with z|z
    ·exact absurd (hbe.trans z) hb
    ·rw [hbe];exact z
   rw [q] at q';cases q'
   obtain ⟨v,hv⟩:=heo
   exact ⟨v,by rw [hbe];exact hv⟩
  ·refine (ok b u q).stay (fun c v hc r=>k c v ?_ r) (fun c r=>by rw [au (nown c b r)];exact r) (fun c xs r=>by rw [au (ntup c xs r)];exact r) fun c _ _ _ r=>by rw [au (nfrz c _ _ r)];exact r
   rcases hc with rfl|hc
   ·exact hbe
   ·rintro rfl
    rcases he with z|z
    ·exact nown c b hc z
    ·rw [hc] at z;cases z;exact hb rfl
end
structure Un (fs ex:List Addr) (H H':Hp) (h h':Heap):Prop where
 keep: ∀b o,h.get? b=some o->H b=none->b∉fs->b∉ex->h'.get? b=some o
 slot: ∀b o,h.get? b=some o->H b=none->b∈fs->b∉ex-> ∃sl,h'.get? b=some {o with slots:=sl}
 free: ∀b o,h.get? b=some o->H b=none->b∉ex->H' b=none
 there: ∀b o,h.get? b=some o->b∉ex-> ∃o',h'.get? b=some o'
 tups: ∀b xs,H b=some (.tup xs)->H' b=some (.tup xs)
 frzs: ∀b o u,H b=some (.frz o u)->H' b=some (.frz o u)
 tbls: ∀b q,H b=some (.tbl q)->H' b=some (.tbl q)
section
variable {fs fs' ex ex':List Addr}{H H1 H2:Hp}{h h1 h2 h':Heap}{a x e:Addr}{o:HO}
theorem Un.any (u:Un fs ex H H1 h h1) {b:Addr}{ob:Obj} (q:h.get? b=some ob) (n:H b=none) (hx:b∉ex): ∃sl,h1.get? b=some {ob with slots:=sl}:=by
 by_cases hb:b∈fs
 ·exact u.slot b ob q n hb hx
 ·exact ⟨ob.slots,u.keep b ob q n hb hx⟩
theorem Un.trans (a:Un fs ex H H1 h h1) (b:Un fs ex H1 H2 h1 h2):Un fs ex H H2 h h2 where
 keep:=fun c ob q n hc hx=>b.keep c ob (a.keep c ob q n hc hx) (a.free c ob q n hx) hc hx
 slot:=fun c ob q n hc hx=>by
  obtain ⟨sl,e1⟩:=a.slot c ob q n hc hx
  obtain ⟨sl',e2⟩:=b.slot c _ e1 (a.free c ob q n hx) hc hx
  exact ⟨sl',e2⟩
 free:=fun c ob q n hx=>by
  obtain ⟨o',e1⟩:=a.there c ob q hx
  exact b.free c o' e1 (a.free c ob q n hx) hx
 there:=fun c ob q hx=>by
  obtain ⟨o',e1⟩:=a.there c ob q hx
  exact b.there c o' e1 hx
 tups:=fun c xs q=>b.tups c xs (a.tups c xs q)
 frzs:=fun c ob xs q=>b.frzs c ob xs (a.frzs c ob xs q)
 tbls:=fun c ps q=>b.tbls c ps (a.tbls c ps q)
theorem Un.kept (k: ∀b u,h.get? b=some u->h'.get? b=some u):Un fs ex H H h h':=
 ⟨fun b ob q _ _ _=>k b ob q,fun b ob q _ _ _=>⟨ob.slots,k b ob q⟩,fun _ _ _ n _=>n,fun b ob q _=>⟨ob,k b ob q⟩,fun _ _ q=>q,fun _ _ _ q=>q,fun _ _ q=>q⟩
theorem Un.refl:Un fs ex H H h h:=Un.kept fun _ _ q=>q
theorem Un.laid (k: ∀b u,h.get? b=some u->h'.get? b=some u) (hp:h.objs.size<=a) (hn:H a=none):Un fs ex H (upd H a o) h h' where
 keep:=fun b u q _ _ _=>k b u q
 slot:=fun b u q _ _ _=>⟨u.slots,k b u q⟩
 free:=fun b u q n _=>by rw [au (Nat.ne_of_lt (Nat.lt_of_lt_of_le (Heap.lt_size q) hp))];exact n
 there:=fun b u q _=>⟨u,k b u q⟩
 tups:=fun b xs q=>by rw [au (bp q hn)];exact q
 frzs:=fun b u xs q=>by rw [au (bp q hn)];exact q
 tbls:=fun b ps q=>by rw [au (bp q hn)];exact q
theorem Un.write (mu:Mut (H x)) (he:e=x \/H e=some (.own x)) (k: ∀b u,b≠e->h.get? b=some u->h'.get? b=some u) (heo: ∃u,h'.get? e=some u):Un fs ex H (upd H x o) h h':=by
 have hx: ∀b,H b=none->b≠x:=fun b n z=>by subst z;rw [n] at mu;exact mu
 have hb: ∀b,H b=none->b≠e:=fun b n z=>by
  subst z
  rcases he with r|r
  ·exact hx b n r
  ·rw [n] at r;cases r
 have hm: ∀b u,H b=some u-> ¬Mut (some u)->b≠x:=fun b u q nm z=>by subst z;rw [q] at mu;exact nm mu
 refine ⟨fun b u q n _ _=>k b u (hb b n) q,fun b u q n _ _=>⟨u.slots,k b u (hb b n) q⟩,fun b u q n _=>by rw [au (hx b n)];exact n,fun b u q _=> ?_,
  fun b xs q=>by rw [au (hm b _ q fun z=>z)];exact q,fun b u xs q=>by rw [au (hm b _ q fun z=>z)];exact q,fun b ps q=>by rw [au (hm b _ q fun z=>z)];exact q⟩
 by_cases hbe:b=e
 ·subst hbe;exact heo
 ·exact ⟨u,k b u hbe q⟩
end
noncomputable def trk (h:Heap) (H:Hp):List Addr:=(List.range h.objs.size).filter fun a=>(H a).isSome
noncomputable def hidT (h:Heap) (H:Hp):Heap:=PySem.W.hideAll h (trk h H)
theorem ni (h:Heap) (H:Hp):(hidT h H).objs.size=h.objs.size:=PySem.W.hideAll_size _ _
theorem nj {h:Heap}{H:Hp}{b:Addr}{o:Obj} (e:h.get? b=some o) (n:H b=none):(hidT h H).get? b=some o:=
 PySem.W.hideAll_get _ e fun hm=>by
  have q:(H b).isSome=true:=(List.mem_filter.mp hm).2
  rw [n] at q;simp at q
theorem nk {h:Heap}{H:Hp}{b:Addr}{o:Obj} (e:(hidT h H).get? b=some o):h.get? b=some o/\H b=none:=by
 have e':h.get? b=some o:=PySem.W.of_hideAll (trk h H) e
 refine ⟨e',?_⟩
 cases q:H b with
 |none=>rfl
 |some x=>
  have hm:b∈trk h H:=List.mem_filter.mpr ⟨List.mem_range.mpr (Heap.lt_size e'),by simp [q]⟩
  have z:(hidT h H).get? b=none:=PySem.W.hideAll_none (trk h H) hm
  rw [z] at e;cases e
noncomputable def nl (g h:Heap) (L:Addr):List (Addr×Obj):=(List.range h.objs.size).filterMap fun a=>if a=L \/(g.get? a).isSome=true then none else (h.get? a).map fun o=>(a,o)
noncomputable def rest (g h:Heap) (L d:Addr):List (Addr×Obj):=(nl g h L).filter fun p=>decide (p.1≠d)
end L2
namespace L2
open PySem PySem.Spec PyProof.Rows
structure Mod (K:PySem.W.Frag) (mg:Str->Option Value) (base:Heap):Prop where
 kin:K.In base
 glob:base.Ns mainGlobals mg
 blt: ∃mb,base.Ns builtinsNs mb/\ ∀x:Str,x≠"__name__"->mb x=bootBuiltins x
 nolimit:base.NoLimit
structure Cx where
 prog:Program
 w:World
 K:PySem.W.Frag
 mg:Str->Option Value
 base:Heap
 A:Around
 N:List Str
 s₀:Shared
 H₀:Hp
 env:Env
 outer:List Env
 stack:List Env
 ex:List Addr
 fn:Str->Bool
 calm:Bool
 pn:List (Addr×Obj)
 xe:Value->Shared->Prop
noncomputable def frs (l:List Env):List Addr:=l.filterMap (·.frame)
noncomputable abbrev Cx.fs (X:Cx):List Addr:=frs X.outer
noncomputable def Vis (sc:Scope) (x:Str):Prop:=sc.names.lookup x=some .local \/sc.names.lookup x=some .cell \/sc.names.lookup x=some .free
noncomputable def Loc (sc:Scope) (x:Str):Prop:=sc.names.lookup x=some .local \/sc.names.lookup x=some .cell
noncomputable def Look (env:Env) (h:Heap) (m:Str->Option Value) (x:Str) (u:Value):Prop:=
 (env.kindOf x=some .local/\m x=some u) \/((env.kindOf x=some .cell \/env.kindOf x=some .free)/\ ∃c,env.cells.lookup x=some c/\h.IsCell c (some u))
structure Cx.Ok (X:Cx):Prop where
 mod:Mod X.K X.mg X.base
 kind:X.env.scope.kind= .function
 glob:X.env.globals=mainGlobals
 blt:X.env.builtins=builtinsNs
 above:X.s₀.heap.objs.size<=X.env.locals
 inj: ∀x y c,X.env.cells.lookup x=some c->X.env.cells.lookup y=some c->x=y
 has: ∀x,(X.env.kindOf x=some .cell \/X.env.kindOf x=some .free)-> ∃c,X.env.cells.lookup x=some c
 cab: ∀x c,X.fn x=true->X.env.cells.lookup x=some c->X.s₀.heap.objs.size<=c
 hd:X.calm=true->X.A.handled=none
 frames:X.A.frames=some X.stack
 stk:X.stack=X.outer \/(X.stack=X.env::X.outer/\X.env.frame=some X.env.locals)
 exf: ∀b∈X.ex,b≠X.env.locals/\ ∀x c,X.env.cells.lookup x=some c->c≠b
 bs: ∀b o,X.base.get? b=some o->X.s₀.heap.get? b=some o/\X.H₀ b=none
 bsz:X.base.objs.size<=X.s₀.heap.objs.size
 noex: ∀b o,X.base.get? b=some o->b∉X.ex
 exfs: ∀b∈X.ex,b∉X.fs
 funs:X.s₀.heap.FunFrames X.base X.outer
 frf: ∀b∈X.fs,X.H₀ b=none
structure Inv (X:Cx) (pins:List (Addr×Obj)) (σ:List (Option V)) (H:Hp) (s:Shared):Prop where
 ok:X.Ok
 os:s.os=X.s₀.os
 bare:AllBare s.gens
 base:Un X.fs X.ex X.H₀ H X.s₀.heap s.heap
 loc: ∃m,s.heap.Ns X.env.locals m/\ ∀(i:Nat) (x:Str) (v:V),X.N[i]?=some x->σ[i]?=some (some v)->Vis X.env.scope x-> ∃u,RelV v u/\Look X.env s.heap m x u
 cell: ∀x c,X.env.cells.lookup x=some c-> ∃v,s.heap.IsCell c v
 free:H X.env.locals=none
 freeC: ∀x c,X.env.cells.lookup x=some c->H c=none
 pin: ∀p∈X.pn++pins,s.heap.get? p.1=some p.2/\H p.1=none/\p.1≠X.env.locals/\p.1∉X.fs/\ ∀v,p.2.data≠ .cell v
 hok:HOk X.prog X.w H s.heap
 len:σ.length=X.N.length
section
variable {X:Cx}{pins:List (Addr×Obj)}{σ:List (Option V)}{H H':Hp}{s:Shared}{h':Heap}
theorem Cx.Ok.nofr (ok:X.Ok) {b:Addr}{o:Obj} (e:X.base.get? b=some o):b∉X.fs:=fun hb=>by
 have:=(ok.funs.mem hb).1
 rw [e] at this;cases this
theorem Inv.bs (I:Inv X pins σ H s): ∀b o,X.base.get? b=some o->s.heap.get? b=some o/\H b=none:=fun b o e=>
 ⟨I.base.keep b o (I.ok.bs b o e).1 (I.ok.bs b o e).2 (I.ok.nofr e) (I.ok.noex b o e),I.base.free b o (I.ok.bs b o e).1 (I.ok.bs b o e).2 (I.ok.noex b o e)⟩
theorem Inv.bk (I:Inv X pins σ H s): ∀b o,X.base.get? b=some o->s.heap.get? b=some o:=fun b o e=>(I.bs b o e).1
theorem Inv.mod (I:Inv X pins σ H s):Mod X.K X.mg X.base:=I.ok.mod
theorem Inv.kIn (I:Inv X pins σ H s):X.K.In s.heap:=I.ok.mod.kin.keeps I.bk
theorem Inv.lt (I:Inv X pins σ H s):X.env.locals<s.heap.objs.size:=let ⟨_,hn,_⟩:=I.loc;hn.lt
theorem Inv.sz (I:Inv X pins σ H s):X.s₀.heap.objs.size<=s.heap.objs.size:=Nat.le_trans I.ok.above (Nat.le_of_lt I.lt)
theorem Inv.nofs (I:Inv X pins σ H s) {a:Addr} (h:s.heap.objs.size<=a):a∉X.fs:=fun hb=>by
 obtain ⟨_,o,ho,_⟩:=I.ok.funs.mem hb
 exact absurd (Nat.lt_of_lt_of_le (Heap.lt_size ho) (Nat.le_trans I.sz h)) (Nat.lt_irrefl _)
theorem Inv.cne (I:Inv X pins σ H s): ∀x c,X.env.cells.lookup x=some c->c≠X.env.locals:=fun x c e z=>by
 obtain ⟨v,o,ho,hd⟩:=I.cell x c e
 obtain ⟨m,⟨o',es,ep,ho',hd',_⟩,_⟩:=I.loc
 rw [z,ho'] at ho;cases ho;rw [hd'] at hd;cases hd
theorem Inv.funs (I:Inv X pins σ H s):s.heap.FunFrames X.base X.outer:=by
 have all: ∀(l:List Env),(∀b∈frs l,b∈X.fs)->X.s₀.heap.FunFrames X.base l->s.heap.FunFrames X.base l:=by
  intro l
  induction l with
  |nil=>intro _ _;trivial
  |cons env r ih=>
   intro hs hl
   obtain ⟨hk,⟨L,o,hf,hn,ho,hd⟩,hr⟩:=hl
   have hL:L∈X.fs:=hs L (by unfold frs;rw [List.filterMap_cons,hf];exact List.mem_cons_self)
   obtain ⟨sl,e⟩:=I.base.slot L o ho (I.ok.frf L hL) hL fun z=>I.ok.exfs L z hL
   exact ⟨hk,⟨L,_,hf,hn,e,hd⟩,ih (fun b hb=>hs b (by unfold frs;rw [List.filterMap_cons,hf];exact List.mem_cons_of_mem _ hb)) hr⟩
 exact all X.outer (fun _ hb=>hb) I.ok.funs
theorem Inv.stack (I:Inv X pins σ H s):s.heap.FunFrames X.base X.stack:=by
 rcases I.ok.stk with e|⟨e,hf⟩
 ·rw [e];exact I.funs
 ·rw [e]
  obtain ⟨m,hn,_⟩:=I.loc
  refine .cons (by rw [I.ok.kind];decide) hf hn ?_ I.funs
  exact Heap.get?_none_of_le (Nat.le_trans I.ok.bsz I.ok.above)
theorem Inv.stkSub (I:Inv X pins σ H s): ∀b∈frs X.stack,b∈X.env.locals::X.fs:=fun b hb=>by
 rcases I.ok.stk with e|⟨e,hf⟩
 ·rw [e] at hb;exact List.mem_cons_of_mem _ hb
 ·rw [e] at hb
  unfold frs at hb
  rw [List.filterMap_cons,hf] at hb
  exact hb
theorem Inv.stkFree (I:Inv X pins σ H s): ∀b∈frs X.stack,H b=none:=fun b hb=>by
 rcases List.mem_cons.mp (I.stkSub b hb) with e|hb
 ·rw [e];exact I.free
 ·obtain ⟨_,o,ho,_⟩:=I.ok.funs.mem hb
  exact I.base.free b o ho (I.ok.frf b hb) fun z=>I.ok.exfs b z hb
theorem Inv.step {g':Array GenState}{t':Nat}{d':Drawn}{ch:List Addr} (I:Inv X pins σ H s)
  (hch: ∀b∈ch,(b∈X.ex \/X.s₀.heap.objs.size<=b)/\b≠X.env.locals/\(∀x c,X.env.cells.lookup x=some c->c≠b)/\ ∀p∈X.pn++pins,p.1≠b)
  (keep: ∀b o,b≠X.env.locals->b∉X.fs->b∉ch->s.heap.get? b=some o->H b=none->h'.get? b=some o)
  (slot: ∀b o,b≠X.env.locals->b∈X.fs->b∉ch->s.heap.get? b=some o->H b=none-> ∃sl,h'.get? b=some {o with slots:=sl}) (free: ∀b o,b∉ch->s.heap.get? b=some o->H b=none->H' b=none)
  (there: ∀b o,b∉ch->s.heap.get? b=some o-> ∃o',h'.get? b=some o')
  (tups: ∀b xs,H b=some (.tup xs)->H' b=some (.tup xs)) (frzs: ∀b o u,H b=some (.frz o u)->H' b=some (.frz o u)) (tbls: ∀b q,H b=some (.tbl q)->H' b=some (.tbl q))
  (ns: ∀m,s.heap.Ns X.env.locals m->h'.Ns X.env.locals m) (hok:HOk X.prog X.w H' h') (hg:AllBare g'):
  Inv X pins σ H' {s with heap:=h',gens:=g',drawn:=d',toks:=t'}:=by
 have neL: ∀b o,X.s₀.heap.get? b=some o->b≠X.env.locals:=fun b o e=>Nat.ne_of_lt (Nat.lt_of_lt_of_le (Heap.lt_size e) I.ok.above)
 have neC: ∀b o,X.s₀.heap.get? b=some o->b∉X.ex->b∉ch:=fun b o e hx hb=>by
  rcases (hch b hb).1 with z|z
  ·exact hx z
  ·exact absurd (Nat.lt_of_lt_of_le (Heap.lt_size e) z) (Nat.lt_irrefl _)
 have cellK: ∀x c,X.env.cells.lookup x=some c-> ∀v,s.heap.IsCell c v->h'.IsCell c v:=fun x c e v ⟨o,ho,hd⟩=>by
  have nch:c∉ch:=fun z=>(hch c z).2.2.1 x c e rfl
  by_cases hc:c∈X.fs
  ·obtain ⟨sl,q⟩:=slot c o (I.cne x c e) hc nch ho (I.freeC x c e)
   exact ⟨_,q,hd⟩
  ·exact ⟨o,keep c o (I.cne x c e) hc nch ho (I.freeC x c e),hd⟩
 refine ⟨I.ok,I.os,hg,⟨fun b o e n hb hx=> ?_,fun b o e n hb hx=> ?_,fun b o e n hx=> ?_,fun b o e hx=> ?_,fun b xs e=>tups b xs (I.base.tups b xs e),fun b o xs e=>frzs b o xs (I.base.frzs b o xs e),fun b ps e=> ?_⟩,?_,fun x c e=> ?_,?_,fun x c e=> ?_,fun p hp=> ?_,hok,I.len⟩
 ·exact keep b o (neL b o e) hb (neC b o e hx) (I.base.keep b o e n hb hx) (I.base.free b o e n hx)
 ·obtain ⟨sl,e1⟩:=I.base.slot b o e n hb hx
  obtain ⟨sl',e2⟩:=slot b _ (neL b o e) hb (neC b o e hx) e1 (I.base.free b o e n hx)
  exact ⟨sl',e2⟩
 ·obtain ⟨o',e1⟩:=I.base.there b o e hx
  exact free b o' (neC b o e hx) e1 (I.base.free b o e n hx)
 ·obtain ⟨o',e1⟩:=I.base.there b o e hx
  exact there b o' (neC b o e hx) e1
 ·exact tbls b _ (I.base.tbls b ps e)
 ·obtain ⟨m,hn,hl⟩:=I.loc
  refine ⟨m,ns m hn,fun i x v e1 e2 e3=> ?_⟩
  obtain ⟨u,r,l⟩:=hl i x v e1 e2 e3
  refine ⟨u,r,?_⟩
  rcases l with l|⟨k,c,e,z⟩
  ·exact .inl l
  ·exact .inr ⟨k,c,e,cellK x c e _ z⟩
 ·obtain ⟨v,z⟩:=I.cell x c e
  exact ⟨v,cellK x c e v z⟩
 ·obtain ⟨m,⟨o,_,_,ho,_⟩,_⟩:=I.loc
  exact free _ o (fun z=>(hch _ z).2.1 rfl) ho I.free
 ·obtain ⟨v,o,ho,hd⟩:=I.cell x c e
  exact free c o (fun z=>(hch c z).2.2.1 x c e rfl) ho (I.freeC x c e)
 ·obtain ⟨e,n,ne,nf,d⟩:=I.pin p hp
  have nch:p.1∉ch:=fun z=>(hch p.1 z).2.2.2 p hp rfl
  exact ⟨keep p.1 p.2 ne nf nch e n,free p.1 p.2 nch e n,ne,nf,d⟩
theorem Inv.un {t':Nat} (I:Inv X pins σ H s) (u:Un X.fs [] H H' s.heap h') (hok:HOk X.prog X.w H' h'):Inv X pins σ H' {s with heap:=h',toks:=t'}:=by
 obtain ⟨m,⟨o,es,ep,ho,r⟩,_⟩:=id I.loc
 obtain ⟨sl,hL⟩:=u.any ho I.free (by simp)
 exact I.step (g':=s.gens) (d':=s.drawn) (ch:=[]) (fun _ z=>nomatch z) (fun b o _ hb _ e n=>u.keep b o e n hb (by simp)) (fun b o _ hb _ e n=>u.slot b o e n hb (by simp)) (fun b o _ e n=>u.free b o e n (by simp)) (fun b o _ e=>u.there b o e (by simp)) u.tups u.frzs u.tbls (fun m' hm=>by
  obtain ⟨o',es',ep',ho',r'⟩:=hm
  rw [ho] at ho';cases ho'
  exact ⟨_,es',ep',hL,r'⟩) hok I.bare
theorem Inv.call {g':Array GenState}{t':Nat}{d':Drawn}{ch:List Addr} (I:Inv X pins σ H s) (u:Un (frs X.stack) ch H H' s.heap h') (hok:HOk X.prog X.w H' h') (hg:AllBare g')
  (hch: ∀b∈ch,(b∈X.ex \/X.s₀.heap.objs.size<=b)/\b≠X.env.locals/\(∀x c,X.env.cells.lookup x=some c->c≠b)/\ ∀p∈X.pn++pins,p.1≠b):
  Inv X pins σ H' {s with heap:=h',gens:=g',drawn:=d',toks:=t'}:=by
 obtain ⟨m,⟨o,es,ep,ho,r⟩,_⟩:=id I.loc
 obtain ⟨sl,hL⟩:=u.any ho I.free fun z=>(hch _ z).2.1 rfl
 exact I.step (ch:=ch) hch (fun b o hL hb hc e n=>u.keep b o e n (fun z=>(List.mem_cons.mp (I.stkSub b z)).elim hL hb) hc) (fun b o _ _ hc e n=>u.any e n hc) (fun b o hc e n=>u.free b o e n hc) (fun b o hc e=>u.there b o e hc) u.tups u.frzs u.tbls (fun m' hm=>by
  obtain ⟨o',es',ep',ho',r'⟩:=hm
  rw [ho] at ho';cases ho'
  exact ⟨_,es',ep',hL,r'⟩) hok hg
theorem Inv.turned {t':Nat}{it:Addr} (I:Inv X pins σ H s) (k: ∀b o,b≠it->s.heap.get? b=some o->h'.get? b=some o) (hn:H it=none) (hL:it≠X.env.locals)
  (h1:it∈X.ex \/X.s₀.heap.objs.size<=it) (h2: ∀x c,X.env.cells.lookup x=some c->c≠it) (h3: ∀p∈X.pn++pins,p.1≠it):Inv X pins σ H {s with heap:=h',toks:=t'}:=by
 have nit: ∀b u,H b=some u->b≠it:=fun b u e z=>by rw [z,hn] at e;cases e
 refine I.step (g':=s.gens) (d':=s.drawn) (ch:=[it]) (fun b hb=> ?_) (fun b o _ _ hc e _=>k b o (fun z=>hc (by simp [z])) e) (fun b o _ _ hc e _=>⟨o.slots,k b o (fun z=>hc (by simp [z])) e⟩) (fun _ _ _ _ n=>n)
  (fun b o hc e=>⟨o,k b o (fun z=>hc (by simp [z])) e⟩) (fun _ _ e=>e) (fun _ _ _ e=>e) (fun _ _ e=>e) (fun m hm=> ?_) (fun b u e=> ?_) I.bare
 ·have e:b=it:=by simpa using hb
  subst e
  exact ⟨h1,hL,h2,h3⟩
 ·obtain ⟨o,es,ep,ho,r⟩:=hm
  exact ⟨o,es,ep,k _ o (Ne.symm hL) ho,r⟩
 ·refine (I.hok b u e).stay (fun c v hc q=>k c v ?_ q) (fun _ q=>q) fun _ _ q=>q
  rcases hc with z|z
  ·rw [z];exact nit b u e
  ·exact nit c _ z
theorem Inv.tok (I:Inv X pins σ H s) (t:Nat):Inv X pins σ H {s with toks:=t}:=I.un (h':=s.heap) (t':=t) Un.refl I.hok
theorem Inv.kept {t':Nat} (I:Inv X pins σ H s) (k: ∀b u,s.heap.get? b=some u->h'.get? b=some u):Inv X pins σ H {s with heap:=h',toks:=t'}:=I.un (Un.kept k) (I.hok.kept k)
theorem Inv.laid {a:Addr}{o:HO}{t':Nat} (I:Inv X pins σ H s) (k: ∀b u,s.heap.get? b=some u->h'.get? b=some u) (hp:s.heap.objs.size<=a) (new:ax X.prog X.w (upd H a o) h' a o):
  Inv X pins σ (upd H a o) {s with heap:=h',toks:=t'}:=I.un (Un.laid k hp (I.hok.fresh hp)) (I.hok.laid k hp new)
theorem Inv.write {x e:Addr}{o:HO}{t':Nat} (I:Inv X pins σ H s) (mu:Mut (H x)) (he:e=x \/H e=some (.own x)) (k: ∀b u,b≠e->s.heap.get? b=some u->h'.get? b=some u) (heo: ∃u,h'.get? e=some u)
  (new:ax X.prog X.w (upd H x o) h' x o):Inv X pins σ (upd H x o) {s with heap:=h',toks:=t'}:=I.un (Un.write mu he k heo) (I.hok.write mu he k heo new)
theorem Inv.pins_of {pins':List (Addr×Obj)} (I:Inv X pins σ H s) (h: ∀p∈pins',s.heap.get? p.1=some p.2/\H p.1=none/\p.1≠X.env.locals/\p.1∉X.fs/\ ∀v,p.2.data≠ .cell v):Inv X pins' σ H s:=
 ⟨I.ok,I.os,I.bare,I.base,I.loc,I.cell,I.free,I.freeC,fun p hp=>(List.mem_append.mp hp).elim (fun z=>I.pin p (List.mem_append_left _ z)) (h p),I.hok,I.len⟩
theorem jm {N:List Str} (hN:N.Nodup) {i j:Nat}{x:Str} (a:N[i]?=some x) (b:N[j]?=some x):i=j:=by
 obtain ⟨h1,e1⟩:=List.getElem?_eq_some_iff.mp a
 obtain ⟨h2,e2⟩:=List.getElem?_eq_some_iff.mp b
 exact (List.getElem_inj hN).mp (e1.trans e2.symm)
theorem jn {M:Model}{A:Around}{E:Value->Shared->Prop}{i:Nat}{x:Str}{v:V}{u:Value}{Q:Unit->Shared->Prop} (I:Inv X pins σ H s) (hN:X.N.Nodup) (hi:X.N[i]?=some x) (hx:Loc X.env.scope x) (r:RelV v u)
  (h: ∀s',Inv X pins (σ.set i (some v)) H s'->(∃a,Heap.SameBut a s.heap s'.heap/\(a=X.env.locals \/X.env.cells.lookup x=some a))->Q () s') (hf:X.fn x=true \/X.env.scope.names.lookup x=some .local:=by first|exact .inl rfl|exact .inr rfl|assumption):wpAny M A (storeName X.env x u) Q E s:=by
 obtain ⟨m,hn,hl⟩:=id I.loc
 have hcls:(X.env.scope.kind== .class||(X.env.scope.kind== .module&&X.env.locals !=X.env.globals))=false:=by rw [I.ok.kind];rfl
 have hiσ:i<σ.length:=by rw [I.len];exact (List.getElem?_eq_some_iff.mp hi).1
 have cne:=I.cne
 have tracked: ∀{a:Addr}{h':Heap},(∃o,s.heap.get? a=some o/\H a=none)->Heap.SameBut a s.heap h'->HOk X.prog X.w H h':=fun {a h'} ha hs b ob e=>by
  obtain ⟨_,_,hfree⟩:=ha
  refine (I.hok b ob e).stay (fun c w' hc q=>(hs.2 c ?_).trans q) (fun _ q=>q) fun _ _ q=>q
  rintro rfl
  rcases hc with rfl|hc
  ·rw [hfree] at e;cases e
  ·rw [hfree] at hc;cases hc
 rcases hx with hk|hk
 ·refine wpAny_storeName_local hk hn (fun h' hn' hs=> ?_) hcls
  obtain ⟨oL,_,_,hoL,_⟩:=id hn
  refine h _ ⟨I.ok,I.os,I.bare,⟨fun b o e n hb hx=> ?_,fun b o e n hb hx=> ?_,I.base.free,fun b o e hx=> ?_,I.base.tups,I.base.frzs,I.base.tbls⟩,⟨_,hn',fun j y v' e1 e2 e3=> ?_⟩,fun y c e=> ?_,I.free,I.freeC,fun p hp=> ?_,tracked ⟨oL,hoL,I.free⟩ hs,by simpa using I.len⟩ ⟨_,hs,.inl rfl⟩
  ·exact (hs.2 b (Nat.ne_of_lt (Nat.lt_of_lt_of_le (Heap.lt_size e) I.ok.above))).trans (I.base.keep b o e n hb hx)
  ·obtain ⟨sl,e1⟩:=I.base.slot b o e n hb hx
   exact ⟨sl,(hs.2 b (Nat.ne_of_lt (Nat.lt_of_lt_of_le (Heap.lt_size e) I.ok.above))).trans e1⟩
  ·obtain ⟨o',e1⟩:=I.base.there b o e hx
   exact ⟨o',(hs.2 b (Nat.ne_of_lt (Nat.lt_of_lt_of_le (Heap.lt_size e) I.ok.above))).trans e1⟩
  ·by_cases hj:j=i
   ·subst hj
    rw [hi] at e1;cases e1
    rw [List.getElem?_set_self hiσ] at e2
    cases e2
    exact ⟨u,r,.inl ⟨hk,by simp⟩⟩
   ·rw [List.getElem?_set_ne (Ne.symm hj)] at e2
    obtain ⟨u',r',q⟩:=hl j y v' e1 e2 e3
    refine ⟨u',r',?_⟩
    rcases q with ⟨k,e⟩|⟨k,c,e,z⟩
    ·refine .inl ⟨k,?_⟩
     have:y≠x:=fun e=>hj (jm hN e1 (e▸hi))
     simp [this,e]
    ·exact .inr ⟨k,c,e,z.sameBut hs (cne y c e)⟩
  ·obtain ⟨w',z⟩:=I.cell y c e
   exact ⟨w',z.sameBut hs (cne y c e)⟩
  ·obtain ⟨e,n,ne,nf,d⟩:=I.pin p hp
   exact ⟨(hs.2 p.1 ne).trans e,n,ne,nf,d⟩
 ·have hfn:X.fn x=true:=by
   rcases hf with z|z
   ·exact z
   ·rw [z] at hk;cases hk
  obtain ⟨c,hc⟩:=I.ok.has x (.inl hk)
  obtain ⟨w',z⟩:=I.cell x c hc
  refine wpAny_storeName_cell I.ok.kind hk hc z (fun h' hc' hs=> ?_)
  obtain ⟨oc,hoc,hocd⟩:=id z
  refine h {s with heap:=h'} ⟨I.ok,I.os,I.bare,⟨fun b o e n hb hx=> ?_,fun b o e n hb hx=> ?_,I.base.free,fun b o e hx=> ?_,I.base.tups,I.base.frzs,I.base.tbls⟩,⟨m,hn.sameBut hs (Ne.symm (cne x c hc)),fun j y v' e1 e2 e3=> ?_⟩,fun y c' e=> ?_,I.free,I.freeC,fun p hp=> ?_,tracked ⟨oc,hoc,I.freeC x c hc⟩ hs,by simpa using I.len⟩ ⟨c,hs,.inr hc⟩
  ·exact (hs.2 b (Nat.ne_of_lt (Nat.lt_of_lt_of_le (Heap.lt_size e) (I.ok.cab x c hfn hc)))).trans (I.base.keep b o e n hb hx)
  ·obtain ⟨sl,e1⟩:=I.base.slot b o e n hb hx
   exact ⟨sl,(hs.2 b (Nat.ne_of_lt (Nat.lt_of_lt_of_le (Heap.lt_size e) (I.ok.cab x c hfn hc)))).trans e1⟩
  ·obtain ⟨o',e1⟩:=I.base.there b o e hx
   exact ⟨o',(hs.2 b (Nat.ne_of_lt (Nat.lt_of_lt_of_le (Heap.lt_size e) (I.ok.cab x c hfn hc)))).trans e1⟩
  ·by_cases hj:j=i
   ·subst hj
    rw [hi] at e1;cases e1
    rw [List.getElem?_set_self hiσ] at e2
    cases e2
    exact ⟨u,r,.inr ⟨.inl hk,c,hc,hc'⟩⟩
   ·rw [List.getElem?_set_ne (Ne.symm hj)] at e2
    obtain ⟨u',r',q⟩:=hl j y v' e1 e2 e3
    refine ⟨u',r',?_⟩
    rcases q with q|⟨k,c',e,z'⟩
    ·exact .inl q
    ·refine .inr ⟨k,c',e,z'.sameBut hs ?_⟩
     rintro rfl
     exact hj (jm hN e1 (I.ok.inj _ _ _ e hc▸hi))
  ·by_cases hcc:c'=c
   ·subst hcc;exact ⟨_,hc'⟩
   ·obtain ⟨w2,z2⟩:=I.cell y c' e
    exact ⟨w2,z2.sameBut hs hcc⟩
  ·obtain ⟨e,n,ne,nf,d⟩:=I.pin p hp
   refine ⟨(hs.2 p.1 ?_).trans e,n,ne,nf,d⟩
   intro q
   rw [q,hoc] at e
   have q':oc=p.2:=Option.some.inj e
   exact d w' (by rw [<-q'];exact hocd)
theorem jo {M:Model}{A:Around}{E:Value->Shared->Prop}{i:Nat}{x:Str}{v:V}{u:Value}{Q:Unit->Shared->Prop} (I:Inv X pins σ H s) (hN:X.N.Nodup) (hi:X.N[i]?=some x) (hx:Loc X.env.scope x) (r:RelV v u)
  (h: ∀s',Inv X pins (σ.set i (some v)) H s'->Q () s') (hf:X.fn x=true \/X.env.scope.names.lookup x=some .local:=by first|exact .inl rfl|exact .inr rfl|assumption):wpAny M A (storeName X.env x u) Q E s:=
 jn I hN hi hx r (fun s' I' _=>h s' I') hf
theorem Inv.call' {s':Shared}{ch:List Addr} (I:Inv X pins σ H s) (ho:s'.os=s.os) (u:Un (frs X.stack) ch H H' s.heap s'.heap) (hok:HOk X.prog X.w H' s'.heap) (hg:AllBare s'.gens)
  (hch: ∀b∈ch,(b∈X.ex \/X.s₀.heap.objs.size<=b)/\b≠X.env.locals/\(∀x c,X.env.cells.lookup x=some c->c≠b)/\ ∀p∈X.pn++pins,p.1≠b):Inv X pins σ H' s':=by
 obtain ⟨h',g',d',t',o'⟩:=s'
 have e:o'=s.os:=ho
 subst e
 exact I.call (g':=g') (t':=t') (d':=d') u hok hg hch
end
noncomputable abbrev XK:=Value->Option Addr->Hp->Prop
noncomputable abbrev St:=List (Option V)
noncomputable abbrev VK:=V->Hp->Prop
noncomputable abbrev TE:=St->Hp->VK->Prop
noncomputable abbrev TT:=St->Hp->(Bool->Hp->Prop)->Prop
noncomputable abbrev TA:=St->Hp->(List V->Hp->Prop)->Prop
structure Ends where
 nx:St->Hp->Prop
 rt:VK
 bk:St->Hp->Prop:=fun _ _=>False
 ct:St->Hp->Prop:=fun _ _=>False
noncomputable abbrev TS:=Ends->St->Hp->Prop
noncomputable def EP (X:Cx) (pins:List (Addr×Obj)) (σ:St) (Q:VK) (u:Value) (s':Shared):Prop:= ∃v H',Inv X pins σ H' s'/\RelV v u/\Q v H'
noncomputable def TP (X:Cx) (pins:List (Addr×Obj)) (σ:St) (Q:Bool->Hp->Prop) (b:Bool) (s':Shared):Prop:= ∃H',Inv X pins σ H' s'/\Q b H'
noncomputable def AP (X:Cx) (pins:List (Addr×Obj)) (σ:St) (Q:List V->Hp->Prop) (us:List Value) (s':Shared):Prop:= ∃vs H',Inv X pins σ H' s'/\Vals vs us/\Q vs H'
noncomputable def SP (X:Cx) (pins:List (Addr×Obj)) (D:Ends) (f:Flow) (s':Shared):Prop:=
 match f with
 | .next=> ∃σ' H',Inv X pins σ' H' s'/\D.nx σ' H'
 | .brk=> ∃σ' H',Inv X pins σ' H' s'/\D.bk σ' H'
 | .cont=> ∃σ' H',Inv X pins σ' H' s'/\D.ct σ' H'
 | .ret u=> ∃v σ' H',Inv X pins σ' H' s'/\RelV v u/\D.rt v H'
noncomputable def PE (X:Cx) (e:Expr) (t:TE):Prop:=
 ∀(pins:List (Addr×Obj)) (s:Shared) (σ:St) (H:Hp) (Q:VK),Inv X pins σ H s->t σ H Q->wpAny (model X.prog X.w) X.A (eval e X.env) (EP X pins σ Q) X.xe s
noncomputable def PT (X:Cx) (e:Expr) (t:TT):Prop:=
 ∀(pins:List (Addr×Obj)) (s:Shared) (σ:St) (H:Hp) (Q:Bool->Hp->Prop),Inv X pins σ H s->t σ H Q->wpAny (model X.prog X.w) X.A (isTrue e X.env (eval e X.env)) (TP X pins σ Q) X.xe s
noncomputable def PW (X:Cx) (e:Expr) (t:TT):Prop:=
 ∀(whole:Sem Value) (pins:List (Addr×Obj)) (s:Shared) (σ:St) (H:Hp) (Q:Bool->Hp->Prop),Inv X pins σ H s->t σ H Q->wpAny (model X.prog X.w) X.A (isTrue e X.env whole) (TP X pins σ Q) X.xe s
theorem PW.pt {X:Cx}{e:Expr}{t:TT} (h:PW X e t):PT X e t:=h _
noncomputable def PA (X:Cx) (es:List Expr) (t:TA):Prop:=
 ∀(pos:Pos) (pins:List (Addr×Obj)) (s:Shared) (σ:St) (H:Hp) (Q:List V->Hp->Prop),Inv X pins σ H s->t σ H Q->wpAny (model X.prog X.w) X.A (spliced (backTo pos (starEach es X.env))) (AP X pins σ Q) X.xe s
noncomputable def PS (X:Cx) (st:Stmt) (t:TS):Prop:=
 ∀(pins:List (Addr×Obj)) (s:Shared) (σ:St) (H:Hp) (D:Ends),Inv X pins σ H s->t D σ H->wpAny (model X.prog X.w) X.A (exec st X.env) (SP X pins D) X.xe s
noncomputable def PSs (X:Cx) (st:List Stmt) (t:TS):Prop:=
 ∀(pins:List (Addr×Obj)) (s:Shared) (σ:St) (H:Hp) (D:Ends),Inv X pins σ H s->t D σ H->wpAny (model X.prog X.w) X.A (execs st X.env) (SP X pins D) X.xe s
theorem thn {α:Type}{t:Sem α}{Q Q':α->Shared->Prop}{M:Model}{A:Around}{E:Value->Shared->Prop}{s:Shared} (h:wpAny M A t Q E s) (hQ: ∀a s,Q a s->Q' a s):wpAny M A t Q' E s:=wpAny_mono h hQ fun _ _ x=>x
end L2
namespace L2
open PySem PySem.Spec PyProof.Rows
section
variable {X:Cx}
theorem bin {a b:Expr}{ta tb:TE} (ha:PE X a ta) (hb:PE X b tb) {pins:List (Addr×Obj)}{s:Shared}{σ:St}{H:Hp}{R:V->V->Hp->Prop} (I:Inv X pins σ H s) (h:ta σ H fun x H1=>tb σ H1 fun y H2=>R x y H2)
  {α:Type}{Q:α->Shared->Prop}{f:Value->Value->Sem α}
  (hf: ∀v u s2 x y H2,Inv X pins σ H2 s2->RelV x v->RelV y u->R x y H2->wpAny (model X.prog X.w) X.A (f v u) Q X.xe s2):
  wpAny (model X.prog X.w) X.A (eval a X.env) (fun v s₁=>wpAny (model X.prog X.w) X.A (eval b X.env) (fun u s₂=>wpAny (model X.prog X.w) X.A (f v u) Q X.xe s₂) X.xe s₁) X.xe s:=by
 refine thn (ha pins s σ H _ I h) fun v s1 ⟨x,H1,I1,r1,q1⟩=> ?_
 refine thn (hb pins s1 σ H1 _ I1 q1) fun u s2 ⟨y,H2,I2,r2,q2⟩=> ?_
 exact hf v u s2 x y H2 I2 r1 r2 q2
noncomputable def tVar (i:Nat):TE:=fun σ H Q=> ∃v,σ[i]?=some (some v)/\Q v H
noncomputable def tC (v:V):TE:=fun _ H Q=>Q v H
theorem nq {i:Nat}{x:Str}{pos:Pos} (hN:X.N[i]?=some x) (hv:Vis X.env.scope x) (hd:(x==("__debug__":Str))=false:=by decide) (hcd:(x==("__classdict__":Str))=false:=by decide):PE X (.Name x pos) (tVar i):=by
 intro pins s σ H Q I h
 obtain ⟨v,e,h⟩:=h
 obtain ⟨m,hn,hl⟩:=I.loc
 obtain ⟨u,r,l⟩:=hl i x v hN e hv
 have fin:EP X pins σ Q u s:=⟨v,H,I,r,h⟩
 rcases l with ⟨hk,hm⟩|⟨hk,c,hc,hcell⟩
 ·exact wpAny_Name (wpAny_loadName_local I.ok.kind hk hn hm fin) hd
 ·rcases hk with hk|hk
  ·exact wpAny_Name (wpAny_loadName_cell I.ok.kind hk hc hcell fin) hd
  ·exact wpAny_Name (wpAny_loadName_free I.ok.kind hk hc hcell fin hcd) hd
theorem nr {i j pos}:PE X (.Constant (.int i) j pos) (tC (.int i)):=fun _ _ _ H _ I h=>wpAny_Constant_int ⟨.int i,H,I.tok _,⟨_,rfl⟩,h⟩
theorem nv {b j pos}:PE X (.Constant (.bool b) j pos) (tC (.bl b)):=fun _ _ _ H _ I h=>Constant_bool ⟨.bl b,H,I,rfl,h⟩
theorem nA {j pos}:PE X (.Constant .none j pos) (tC .non):=fun _ _ _ H _ I h=>Constant_none ⟨.non,H,I,rfl,h⟩
theorem nB {x j pos}:PE X (.Constant (.str x) j pos) (tC (.str x)):=fun _ _ _ H _ I h=>Calls.Constant_str ⟨.str x,H,I.tok _,⟨_,rfl⟩,h⟩
noncomputable def Gl (X:Cx) (x:Str):Prop:=X.env.kindOf x=some .globalImplicit
theorem jp {E:Value->Shared->Prop}{pins:List (Addr×Obj)}{s:Shared}{σ:St}{H:Hp}{x:Str}{u:Value}{pos:Pos}{Q:Value->Shared->Prop} (I:Inv X pins σ H s) (hg:Gl X x) (hm:X.mg x=some u) (h:Q u s)
  (hd:(x==("__debug__":Str))=false:=by decide):wpAny (model X.prog X.w) X.A (eval (.Name x pos) X.env) Q E s:=
 Calls.Name_function_global I.ok.kind hg (Calls.loadGlobal_global (by rw [I.ok.glob];exact I.mod.glob.keeps I.bk) hm h) hd
theorem eI {E:Value->Shared->Prop}{pins:List (Addr×Obj)}{s:Shared}{σ:St}{H:Hp}{x:Str}{u:Value}{pos:Pos}{Q:Value->Shared->Prop} (I:Inv X pins σ H s) (hg:Gl X x) (hm:X.mg x=none) (hv:bootBuiltins x=some u) (h:Q u s)
  (hn:x≠"__name__":=by decide) (hd:(x==("__debug__":Str))=false:=by decide):wpAny (model X.prog X.w) X.A (eval (.Name x pos) X.env) Q E s:=by
 obtain ⟨mb,h1,h2⟩:=I.mod.blt
 exact Calls.Name_function_global I.ok.kind hg (Calls.loadGlobal_builtin (by rw [I.ok.glob];exact I.mod.glob.keeps I.bk) hm (by rw [I.ok.blt];exact h1.keeps I.bk) ((h2 x hn).trans hv) h) hd
theorem nC {x:Str}{v:V}{u:Value}{pos:Pos} (hg:Gl X x) (hm:X.mg x=some u) (r:RelV v u) (hd:(x==("__debug__":Str))=false:=by decide):PE X (.Name x pos) (tC v):=
 fun _ _ _ H _ I h=>jp I hg hm ⟨v,H,I,r,h⟩ hd
theorem nD {x:Str}{v:V}{u:Value}{pos:Pos} (hg:Gl X x) (hm:X.mg x=none) (hv:bootBuiltins x=some u) (r:RelV v u) (hn:x≠"__name__":=by decide) (hd:(x==("__debug__":Str))=false:=by decide):PE X (.Name x pos) (tC v):=
 fun _ _ _ H _ I h=>eI I hg hm hv ⟨v,H,I,r,h⟩ hn hd
variable {a b:Expr}{ta tb:TE}{pos:Pos}
noncomputable def PC (X:Cx) (op:CmpOp) (a b:Expr) (t:TE):Prop:=
 ∀(pins:List (Addr×Obj)) (s:Shared) (σ:St) (H:Hp) (Q:VK),Inv X pins σ H s->t σ H Q->
  wpAny (model X.prog X.w) X.A (eval a X.env) (fun v s₁=>wpAny (model X.prog X.w) X.A (eval b X.env) (fun u s₂=>wpAny (model X.prog X.w) X.A (compareOp op v u) (EP X pins σ Q) X.xe s₂) X.xe s₁) X.xe s
theorem nE (b:Expr) {op:CmpOp} (h:op≠ .In) (h2:op≠ .NotIn):behindInMarks op b=false:=by
 have e1:(op==CmpOp.In)=false:=by cases op<;>first|rfl|exact absurd rfl h
 have e2:(op==CmpOp.NotIn)=false:=by cases op<;>first|rfl|exact absurd rfl h2
 cases b<;>simp [behindInMarks,e1,e2]
noncomputable def tB (t:TE):TT:=fun σ H Q=>t σ H fun x H1=> ∃c,x= .bl c/\Q c H1
theorem xB {op:CmpOp}{t:TE} (h:PC X op a b t) (h1:behindInMarks op b=false:=by first|exact nE _ (by decide) (by decide)|rfl):PT X (.Compare a [op] [b] pos) (tB t):=by
 intro pins s σ H Q I hw
 refine wpAny_isTrue_Compare1 (thn (h pins s σ H _ I hw) fun v s1 h1=>thn h1 fun u s2 h2=>thn h2 fun c s3 ⟨x,H1,I1,r1,q1⟩=> ?_) h1
 obtain ⟨d,rfl,q⟩:=q1
 cases r1
 exact wpAny_truthy_bool ⟨H1,I1,q⟩
theorem nF {e:Expr}{t:TE} (h:PE X e t) (he: ∀whole,isTrue e X.env whole=(do let v<-whole;standAt e.pos;holding [v] (truthy v)):=by intro _;rfl):PT X e (tB t):=by
 intro pins s σ H Q I hw
 refine isTrue_plain (thn (h pins s σ H _ I hw) fun v s1 ⟨x,H1,I1,r1,q1⟩=> ?_) (he _)
 obtain ⟨d,rfl,q⟩:=q1
 cases r1
 exact wpAny_truthy_bool ⟨H1,I1,q⟩
variable {tA tB':TT}{rest:List Expr}
noncomputable def tAnd (t u:TT):TT:=fun σ H Q=>t σ H fun c H1=>if c=true then u σ H1 Q else Q false H1
noncomputable def tOr (t u:TT):TT:=fun σ H Q=>t σ H fun c H1=>if c=true then Q true H1 else u σ H1 Q
noncomputable def tNot (t:TT):TT:=fun σ H Q=>t σ H fun c H1=>Q (!c) H1
theorem nG (ha:PT X a tA):PW X (.BoolOp .And [a] pos) tA:=by
 intro wh pins s σ H Q I h
 refine isTrue_and (thn (ha pins s σ H Q I h) fun c s1 e=> ?_)
 cases c with
 |true=>exact isTrue_and_nil e
 |false=>exact e
theorem nH (ha:PT X a tA):PW X (.BoolOp .Or [a] pos) tA:=by
 intro wh pins s σ H Q I h
 refine isTrue_or (thn (ha pins s σ H Q I h) fun c s1 e=> ?_)
 cases c with
 |false=>exact isTrue_or_nil e
 |true=>exact e
theorem nI (ha:PT X a tA) (hb:PW X (.BoolOp .And (b::rest) pos) tB'):PW X (.BoolOp .And (a::b::rest) pos) (tAnd tA tB'):=by
 intro wh pins s σ H Q I h
 refine isTrue_and (thn (ha pins s σ H _ I h) fun c s1 ⟨H1,I1,q1⟩=> ?_)
 cases c with
 |true=>exact hb wh pins s1 σ H1 Q I1 q1
 |false=>exact ⟨H1,I1,q1⟩
theorem nJ (ha:PT X a tA) (hb:PW X (.BoolOp .Or (b::rest) pos) tB'):PW X (.BoolOp .Or (a::b::rest) pos) (tOr tA tB'):=by
 intro wh pins s σ H Q I h
 refine isTrue_or (thn (ha pins s σ H _ I h) fun c s1 ⟨H1,I1,q1⟩=> ?_)
 cases c with
 |true=>exact ⟨H1,I1,q1⟩
 |false=>exact hb wh pins s1 σ H1 Q I1 q1
theorem nK (ha:PT X a tA):PT X (.UnaryOp .Not a pos) (tNot tA):=by
 intro pins s σ H Q I h
 exact isTrue_not (ha pins s σ H (fun c H1=>Q (!c) H1) I h)
noncomputable def nL (ta tb:TE):TE:=fun σ H Q=>ta σ H fun x H1=> ∃c,x= .bl c/\if c=true then tb σ H1 Q else Q (.bl false) H1
noncomputable def tOrV (ta tb:TE):TE:=fun σ H Q=>ta σ H fun x H1=> ∃c,x= .bl c/\if c=true then Q (.bl true) H1 else tb σ H1 Q
noncomputable def nM (ta:TE):TE:=fun σ H Q=>ta σ H fun x H1=> ∃c,x= .bl c/\Q (.bl (!c)) H1
theorem nN {op}{t:TE} (h:PE X a t):PE X (.BoolOp op [a] pos) t:=fun pins s σ H Q I hw=>BoolOp_one (h pins s σ H Q I hw)
theorem nO (ha:PE X a ta) (hb:PE X (.BoolOp .And (b::rest) pos) tb):PE X (.BoolOp .And (a::b::rest) pos) (nL ta tb):=by
 intro pins s σ H Q I h
 refine BoolOp_and (thn (ha pins s σ H _ I h) fun v s1 ⟨x,H1,I1,r1,q1⟩=> ?_)
 obtain ⟨c,rfl,q1⟩:=q1
 cases r1
 refine wpAny_truthy_bool ?_
 cases c with
 |true=>exact hb pins s1 σ H1 Q I1 q1
 |false=>exact ⟨.bl false,H1,I1,rfl,q1⟩
theorem nP (ha:PE X a ta) (hb:PE X (.BoolOp .Or (b::rest) pos) tb):PE X (.BoolOp .Or (a::b::rest) pos) (tOrV ta tb):=by
 intro pins s σ H Q I h
 refine BoolOp_or (thn (ha pins s σ H _ I h) fun v s1 ⟨x,H1,I1,r1,q1⟩=> ?_)
 obtain ⟨c,rfl,q1⟩:=q1
 cases r1
 refine wpAny_truthy_bool ?_
 cases c with
 |false=>exact hb pins s1 σ H1 Q I1 q1
 |true=>exact ⟨.bl true,H1,I1,rfl,q1⟩
theorem nQ (ha:PE X a ta):PE X (.UnaryOp .Not a pos) (nM ta):=by
 intro pins s σ H Q I h
 refine UnaryOp_ (thn (ha pins s σ H _ I h) fun v s1 ⟨x,H1,I1,r1,q1⟩=> ?_)
 obtain ⟨c,rfl,q1⟩:=q1
 cases r1
 exact not_of (wpAny_truthy_bool ⟨.bl (!c),H1,I1,rfl,q1⟩)
end
end L2
namespace L2
open PySem PySem.Spec PyProof.Rows
noncomputable def SqL (K:PySem.W.Frag) (H:Hp) (a:Addr) (xs:List V):Prop:=
 Rd H a (.lst xs) \/
  ∃(o:Obj) (its:Array Value) (n:Nat),K.lookup a=some o/\o.cls= .type "list"/\o.dict=none/\o.data= .seq its n/\its.size<=sizeLine/\Vals xs its.toList
noncomputable def SqT (K:PySem.W.Frag) (H:Hp) (a:Addr) (xs:List V):Prop:=
 Rd H a (.tup xs) \/
  ∃(o:Obj) (its:Array Value) (n:Nat),K.lookup a=some o/\o.cls= .type "tuple"/\o.data= .seq its n/\its.size<=sizeLine/\Vals xs its.toList
noncomputable def absV:Value->Option V
 | .none=>some .non
 | .bool b=>some (.bl b)
 | .int i _=>some (.int i)
 | .str x _=>some (.str x)
 | .bytes b _=>some (.byt b)
 | .float b _=>some (.flt b)
 | .ref a=>some (.ref a)
 | .type n=>some (.ty n)
 |_=>none
theorem RelV.abs {x:V}{u:Value} (r:RelV x u):absV u=some x:=by
 cases x with
 |non=>cases r;rfl
 |bl _=>cases r;rfl
 |int _=>obtain ⟨t,rfl⟩:=r;rfl
 |str _=>obtain ⟨t,rfl⟩:=r;rfl
 |byt _=>obtain ⟨t,rfl⟩:=r;rfl
 |flt _=>obtain ⟨t,rfl⟩:=r;rfl
 |ref _=>cases r;rfl
 |ty _=>cases r;rfl
theorem RelV.inj {x y:V}{u:Value} (r:RelV x u) (q:RelV y u):x=y:=Option.some.inj (r.abs.symm.trans q.abs)
theorem Vals.inj: ∀{xs ys:List V}{us:List Value},Vals xs us->Vals ys us->xs=ys
 |_,_,_,.nil,.nil=>rfl
 |_,_,_,.cons r t,.cons r' t'=>by rw [r.inj r',Vals.inj t t']
section
variable {X:Cx}{pins:List (Addr×Obj)}{σ:St}{H:Hp}{s:Shared}{a:Addr}{xs ys:List V}
theorem SqL.of {K:PySem.W.Frag} (h:H a=some (.lst xs)):SqL K H a xs:= .inl (.inl h)
theorem SqT.of {K:PySem.W.Frag} (h:H a=some (.tup xs)):SqT K H a xs:= .inl (.inl h)
theorem Inv.list (I:Inv X pins σ H s) (h:SqL X.K H a xs): ∃its:List Value,Vals xs its/\PlainL s.heap a its.toArray/\xs.length<=sizeLine:=by
 rcases h with h|⟨o,its,n,hk,hc,hd,hs,hz,r⟩
 ·obtain ⟨z,its,n,r,e⟩:=h.ok I.hok
  exact ⟨its,r,⟨_,n,e,rfl,rfl,rfl⟩,z⟩
 ·refine ⟨its.toList,r,⟨o,n,I.kIn a o hk,hc,hd,by simpa using hs⟩,?_⟩
  have e:=r.length
  simp only [Array.length_toList] at e
  lia
theorem Inv.tuple (I:Inv X pins σ H s) (h:SqT X.K H a xs): ∃its:List Value,Vals xs its/\IsTup s.heap a its.toArray/\xs.length<=sizeLine:=by
 rcases h with h|⟨o,its,n,hk,hc,hs,hz,r⟩
 ·obtain ⟨z,its,r,p⟩:=h.ok I.hok
  exact ⟨its,r,p.tup,z⟩
 ·refine ⟨its.toList,r,⟨o,I.kIn a o hk,hc,n,by simpa using hs⟩,?_⟩
  have e:=r.length
  simp only [Array.length_toList] at e
  lia
theorem Inv.list_inj (I:Inv X pins σ H s) (h:SqL X.K H a xs) (h':SqL X.K H a ys):xs=ys:=by
 obtain ⟨its,r,⟨o,n,e,_,_,d⟩,_⟩:=I.list h
 obtain ⟨its',r',⟨o',n',e',_,_,d'⟩,_⟩:=I.list h'
 rw [e] at e';cases e'
 rw [d] at d'
 injection d' with d1 _
 have:its=its':=by simpa using congrArg Array.toList d1
 subst this
 exact r.inj r'
theorem Inv.tuple_inj (I:Inv X pins σ H s) (h:SqT X.K H a xs) (h':SqT X.K H a ys):xs=ys:=by
 obtain ⟨its,r,⟨o,e,_,n,d⟩,_⟩:=I.tuple h
 obtain ⟨its',r',⟨o',e',_,n',d'⟩,_⟩:=I.tuple h'
 rw [e] at e';cases e'
 rw [d] at d'
 injection d' with d1 _
 have:its=its':=by simpa using congrArg Array.toList d1
 subst this
 exact r.inj r'
end
noncomputable abbrev Cx.wish (X:Cx) (E:Value->Shared->Prop):Cx:={X with xe:=E}
noncomputable abbrev Cx.nox (X:Cx):Cx:=X.wish fun _ _=>False
theorem Cx.Ok.wish {X:Cx} (ok:X.Ok) (E:Value->Shared->Prop):(X.wish E).Ok:=
 ⟨ok.mod,ok.kind,ok.glob,ok.blt,ok.above,ok.inj,ok.has,ok.cab,ok.hd,ok.frames,ok.stk,ok.exf,ok.bs,ok.bsz,ok.noex,ok.exfs,ok.funs,ok.frf⟩
theorem Cx.Ok.unwish {X:Cx}{E:Value->Shared->Prop} (ok:(X.wish E).Ok):X.Ok:=
 ⟨ok.mod,ok.kind,ok.glob,ok.blt,ok.above,ok.inj,ok.has,ok.cab,ok.hd,ok.frames,ok.stk,ok.exf,ok.bs,ok.bsz,ok.noex,ok.exfs,ok.funs,ok.frf⟩
section
variable {X:Cx}{pins:List (Addr×Obj)}{σ:St}{H:Hp}{s:Shared}{E:Value->Shared->Prop}
theorem Inv.wish (I:Inv X pins σ H s) (E:Value->Shared->Prop):Inv (X.wish E) pins σ H s:=⟨I.ok.wish E,I.os,I.bare,I.base,I.loc,I.cell,I.free,I.freeC,I.pin,I.hok,I.len⟩
theorem Inv.unwish (I:Inv (X.wish E) pins σ H s):Inv X pins σ H s:=⟨I.ok.unwish,I.os,I.bare,I.base,I.loc,I.cell,I.free,I.freeC,I.pin,I.hok,I.len⟩
theorem SP.unwish {D:Ends}{f:Flow}{s':Shared} (h:SP (X.wish E) pins D f s'):SP X pins D f s':=by
 cases f with
 |next=>obtain ⟨σ',H',I,q⟩:=h;exact ⟨σ',H',I.unwish,q⟩
 |brk=>obtain ⟨σ',H',I,q⟩:=h;exact ⟨σ',H',I.unwish,q⟩
 |cont=>obtain ⟨σ',H',I,q⟩:=h;exact ⟨σ',H',I.unwish,q⟩
 |ret u=>obtain ⟨v,σ',H',I,r,q⟩:=h;exact ⟨v,σ',H',I.unwish,r,q⟩
theorem PSs.nox {st:List Stmt}{t:TS} (h:PSs X.nox st t):PSs X st t:=fun pins s σ H D I hw=>
 wpAny_mono (h pins s σ H D (I.wish _) hw) (fun _ _ q=>q.unwish) fun _ _ z=>False.elim z
end
section
variable {X:Cx}{st:Stmt}{rest:List Stmt}{t u:TS}{e:Expr}{te:TE}{pos:Pos}
noncomputable def nR:TS:=fun D σ H=>D.nx σ H
noncomputable def tSeq (t u:TS):TS:=fun D σ H=>t {D with nx:=u D} σ H
theorem nS:PSs X [] nR:=fun _ _ σ H _ I h=>wpAny_execs_nil ⟨σ,H,I,h⟩
theorem nT (h1:PS X st t) (h2:PSs X rest u):PSs X (st::rest) (tSeq t u):=by
 intro pins s σ H D I h
 refine wpAny_execs_cons (thn (h1 pins s σ H {D with nx:=u D} I h) fun f s1 q=> ?_)
 cases f with
 |next=>
  obtain ⟨σ',H',I',q⟩:=q
  exact h2 pins s1 σ' H' D I' q
 |ret v=>exact q
 |brk=>exact q
 |cont=>exact q
theorem nU (h1:PS X st t):PSs X [st] t:=by
 intro pins s σ H D I h
 refine wpAny_execs_cons (thn (h1 pins s σ H D I h) fun f s1 q=> ?_)
 cases f with
 |next=>exact wpAny_execs_nil q
 |ret v=>exact q
 |brk=>exact q
 |cont=>exact q
theorem Inv.quiet {pins:List (Addr×Obj)}{σ:St}{H:Hp}{s:Shared} (I:Inv X pins σ H s):interactive X.env=false:=by simp [interactive,I.ok.kind]
noncomputable def nV (te:TE):TS:=fun D σ H=>te σ H fun _ H1=>D.nx σ H1
theorem nW (he:PE X e te) (hs:swapsWith e none pos.line X.env=pure false:=by rfl):PS X (.Expr e pos) (nV te):=by
 intro pins s σ H D I h
 exact wpAny_Expr_any (thn (he pins s σ H _ I h) fun v s1 ⟨x,H1,I1,r1,q1⟩=>⟨σ,H1,I1,q1⟩) I.quiet hs
noncomputable def tRet (te:TE):TS:=fun D σ H=>te σ H D.rt
theorem jq (he:PE X e te):PS X (.Return (some e) pos) (tRet te):=by
 intro pins s σ H D I h
 exact wpAny_Return_some (thn (he pins s σ H _ I h) fun v s1 ⟨x,H1,I1,r1,q1⟩=>⟨x,σ,H1,I1,r1,q1⟩)
noncomputable def tIfS (c:TT) (t u:TS):TS:=fun D σ H=>c σ H fun b H1=>if b=true then t D σ H1 else u D σ H1
theorem nX {c:Expr}{a b:List Stmt}{tc:TT} (hc:PT X c tc) (ha:PSs X a t) (hb:PSs X b u):PS X (.If c a b pos) (tIfS tc t u):=by
 intro pins s σ H D I h
 refine wpAny_If (thn (hc pins s σ H _ I h) fun d s1 ⟨H1,I1,q1⟩=> ?_)
 cases d with
 |true=>exact ha pins s1 σ H1 D I1 q1
 |false=>exact hb pins s1 σ H1 D I1 q1
end
noncomputable abbrev TG:=V->St->Hp->(St->Hp->Prop)->Prop
noncomputable def PG (X:Cx) (target:Expr) (t:TG):Prop:=
 ∀(pins:List (Addr×Obj)) (s:Shared) (σ:St) (H:Hp) (v:V) (u:Value) (Q:St->Hp->Prop),Inv X pins σ H s->RelV v u->t v σ H Q->
  wpAny (model X.prog X.w) X.A (assign target X.env u) (fun _ s'=> ∃σ' H',Inv X pins σ' H' s'/\Q σ' H') X.xe s
noncomputable abbrev TSet:=V->V->V->Hp->(Hp->Prop)->Prop
noncomputable def PSet (X:Cx) (t:TSet):Prop:=
 ∀(pins:List (Addr×Obj)) (s:Shared) (σ:St) (H:Hp) (o i v:V) (ov iv u:Value) (Q:Hp->Prop),Inv X pins σ H s->RelV o ov->RelV i iv->RelV v u->t o i v H Q->
  wpAny (model X.prog X.w) X.A (setItem ov iv u) (fun _ s'=> ∃H',Inv X pins σ H' s'/\Q H') X.xe s
section
variable {X:Cx}{pos:Pos}
noncomputable def dI (i:Nat):TG:=fun v σ H Q=>Q (σ.set i (some v)) H
theorem bF {i:Nat}{x:Str} (hN:X.N.Nodup) (hi:X.N[i]?=some x) (hx:Loc X.env.scope x) (hf:X.fn x=true \/X.env.scope.names.lookup x=some .local:=by first|exact .inl rfl|exact .inr rfl|assumption):PG X (.Name x pos) (dI i):=by
 intro pins s σ H v u Q I r h
 exact wpAny_assign_Name (jo I hN hi hx r (fun s' I'=>⟨_,H,I',h⟩) hf)
noncomputable def gSub (to ti:TE) (t:TSet):TG:=fun v σ H Q=>to σ H fun o H1=>ti σ H1 fun i H2=>t o i v H2 fun H3=>Q σ H3
theorem nY {o i:Expr}{to ti:TE}{t:TSet} (ho:PE X o to) (hi:PE X i ti) (hs:PSet X t)
  (ha: ∀v,assign (.Subscript o i pos) X.env v=(do
   let ov<-holding [v] (eval o X.env)
   let iv<-holding [v,ov] (eval i X.env)
   standAt pos
   holding [v,ov,iv] (setItem ov iv v)
   release [v,ov,iv] []):=by intro _;rfl):PG X (.Subscript o i pos) (gSub to ti t):=by
 intro pins s σ H v u Q I r h
 rw [ha]
 refine wpAny_bind (wpAny_holding (thn (ho pins s σ H _ I h) fun ov s1 ⟨x,H1,I1,r1,q1⟩=> ?_))
 refine wpAny_bind (wpAny_holding (thn (hi pins s1 σ H1 _ I1 q1) fun iv s2 ⟨y,H2,I2,r2,q2⟩=> ?_))
 refine wpAny_bind (wpAny_standAt (wpAny_bind (wpAny_holding (thn (hs pins s2 σ H2 x y v ov iv u _ I2 r1 r2 r q2) fun _ s3 ⟨H3,I3,q3⟩=> ?_))))
 exact wpAny_release ⟨σ,H3,I3,q3⟩
noncomputable def tAsg (te:TE) (g:TG):TS:=fun D σ H=>te σ H fun x H1=>g x σ H1 D.nx
theorem nZ {tg e:Expr}{te:TE}{g:TG} (he:PE X e te) (hg:PG X tg g) (hs:swapsWithSole [tg] e pos.line X.env=pure false:=by rfl) (hw:swappedStores [tg] e X.env=pure none:=by rfl)
  (h1:(assignEach [tg] X.env).map (·.2)=[assign tg X.env]:=by rfl):PS X (.Assign [tg] e pos) (tAsg te g):=by
 intro pins s σ H D I h
 refine wpAny_Assign_stores (thn (he pins s σ H _ I h) fun v s1 ⟨x,H1,I1,r1,q1⟩=> ?_) hs hw
 rw [h1]
 exact thn (hg pins s1 σ H1 x v _ I1 r1 q1) fun _ s2 q=>q
theorem gI {i:Nat}{x:Str}{e:Expr}{te:TE}{pos':Pos} (hN:X.N.Nodup) (hi:X.N[i]?=some x) (hx:Loc X.env.scope x) (he:PE X e te) (hs:swapsWith e (some (.Name x pos')) pos.line X.env=pure false:=by rfl) (hf:X.fn x=true \/X.env.scope.names.lookup x=some .local:=by first|exact .inl rfl|exact .inr rfl|assumption):
  PS X (.Assign [.Name x pos'] e pos) (tAsg te (dI i)):=by
 intro pins s σ H D I h
 refine wpAny_Assign_Name (thn (he pins s σ H _ I h) fun v s1 ⟨y,H1,I1,r1,q1⟩=> ?_) hs
 exact jo I1 hN hi hx r1 (fun s2 I2=>⟨_,H1,I2,q1⟩) hf
end
section
variable {X:Cx}{pos:Pos}
end
structure It where
 go:Nat->Hp->Prop
 yld:Nat->Hp->V->Hp->Prop
 stop:Nat->Hp->Prop
noncomputable def FpOk (X:Cx) (pins:List (Addr×Obj)) (H:Hp) (b:Addr):Prop:=
 H b=none/\b≠X.env.locals/\b∉X.fs/\(b∈X.ex \/X.s₀.heap.objs.size<=b)/\(∀x c,X.env.cells.lookup x=some c->c≠b)/\ ∀p∈X.pn++pins,p.1≠b
theorem Inv.fpOk {X:Cx}{pins:List (Addr×Obj)}{σ:St}{H H':Hp}{s:Shared}{b:Addr} (I:Inv X pins σ H s) (hb:s.heap.objs.size<=b) (hn:H' b=none):FpOk X pins H' b:=by
 refine ⟨hn,Nat.ne_of_gt (Nat.lt_of_lt_of_le I.lt hb),I.nofs hb,.inr (Nat.le_trans I.sz hb),fun x c e z=> ?_,fun p hp z=> ?_⟩
 ·obtain ⟨v,q⟩:=I.cell x c e
  exact absurd (Nat.lt_of_lt_of_le q.lt (by rw [z];exact hb)) (Nat.lt_irrefl _)
 ·exact absurd (Nat.lt_of_lt_of_le (Heap.lt_size (I.pin p hp).1) (by rw [z];exact hb)) (Nat.lt_irrefl _)
structure Turn (P:Program) (w:World) (K:PySem.W.Frag) (tg:Expr) (J:It) (fp:List Addr) (it:Addr) (tn:Nat->Heap->Prop):Prop where
 mem:it∈fp
 obj: ∀i h,tn i h-> ∀b∈fp,∃o,h.get? b=some o/\ ∀v,o.data≠ .cell v
 keep: ∀i h h',tn i h->(∀b∈fp,∀o,h.get? b=some o->h'.get? b=some o)->tn i h'
 item: ∀(X:Cx),X.prog=P->X.w=w->X.K=K->X.calm=true-> ∀(i:Nat) (pins:List (Addr×Obj)) (s:Shared) (σ:St) (H:Hp) (E:Value->Shared->Prop),Inv X pins σ H s->(∀b∈fp,FpOk X pins H b)->tn i s.heap->J.go i H->
  wpAny (model P w) X.A (pyNext (.ref it)) (fun r s1=> ∃u,r=some u/\
   wpAny (model P w) X.A (letOwnedTupleGo tg (.ref it) u) (fun _ s2=> ∃x H',Inv X pins σ H' s2/\RelV x u/\J.yld i H x H'/\tn (i+1) s2.heap/\ ∀b∈fp,H' b=none) E s1) E s
 done: ∀(X:Cx),X.prog=P->X.w=w->X.K=K->X.calm=true-> ∀(i:Nat) (pins:List (Addr×Obj)) (s:Shared) (σ:St) (H:Hp) (E:Value->Shared->Prop),Inv X pins σ H s->(∀b∈fp,FpOk X pins H b)->tn i s.heap->J.stop i H->
  wpAny (model P w) X.A (pyNext (.ref it)) (fun r s1=>r=none/\Inv X pins σ H s1) E s
 self: ∀(A:Around) (i:Nat) (s:Shared) (Q:Value->Shared->Prop) (E:Value->Shared->Prop),tn i s.heap->Q (.ref it) s->wpAny (model P w) A (pyIter (.ref it)) Q E s
noncomputable abbrev TI:=St->Hp->(It->Hp->Prop)->Prop
noncomputable def PIE (X:Cx) (pins:List (Addr×Obj)) (σ:St) (tg:Expr) (R:It->Hp->Prop) (itv:Value) (s2:Shared):Prop:=
 ∃(it:Addr) (fp:List Addr) (tn:Nat->Heap->Prop) (J:It) (H':Hp),itv= .ref it/\Inv X pins σ H' s2/\Turn X.prog X.w X.K tg J fp it tn/\tn 0 s2.heap/\(∀b∈fp,FpOk X pins H' b)/\R J H'
noncomputable def PI (X:Cx) (tg iter:Expr) (wi:TI):Prop:=
 ∀(pins:List (Addr×Obj)) (s:Shared) (σ:St) (H:Hp) (R:It->Hp->Prop),Inv X pins σ H s->wi σ H R->
  wpAny (model X.prog X.w) X.A (eval iter X.env) (fun v s1=>wpAny (model X.prog X.w) X.A (pyIter v) (PIE X pins σ tg R) X.xe s1) X.xe s
theorem gJ {M:Model}{A:Around}{E:Value->Shared->Prop}{s:Shared}{tg:Expr}{it:Addr}{u:Value}{o:Obj}{n:String}{vs:Array Value}{Q:Unit->Shared->Prop} (ho:s.heap.get? it=some o) (hc:o.cls= .type n) (hd:o.data= .fields vs)
  (hn:["enumerate","zip","dict_itemiterator","dict_reverseitemiterator","odict_iterator","itertools.zip_longest","itertools.pairwise"].contains n=false) (hQ:Q () s):wpAny M A (letOwnedTupleGo tg (.ref it) u) Q E s:=by
 unfold letOwnedTupleGo
 cases tg<;>first
  |exact wpAny_pure hQ
  |(cases u<;>first
    |exact wpAny_pure hQ
    |(refine wpAny_bind (wpAny_load ho ?_);rw [hc,hd];show wpAny M A (if (["enumerate","zip","dict_itemiterator","dict_reverseitemiterator","odict_iterator","itertools.zip_longest","itertools.pairwise"].contains n&&vs[0]?==some (rawInt _))=true then _ else _) Q E s;rw [if_neg (by intro h;rw [hn,Bool.false_and] at h;cases h)];exact wpAny_pure hQ))
noncomputable def Itl (K:PySem.W.Frag) (a:Addr):It:=
 ⟨fun i H=> ∃xs x,SqL K H a xs/\xs[i]?=some x,fun i H x H'=>H'=H/\ ∀xs,SqL K H a xs->xs[i]?=some x,fun i H=> ∃xs,SqL K H a xs/\xs.length<=i⟩
noncomputable def Itt (K:PySem.W.Frag) (a:Addr):It:=
 ⟨fun i H=> ∃xs x,SqT K H a xs/\xs[i]?=some x,fun i H x H'=>H'=H/\ ∀xs,SqT K H a xs->xs[i]?=some x,fun i H=> ∃xs,SqT K H a xs/\xs.length<=i⟩
noncomputable def Itr (lo:Int) (n:Nat):It:=⟨fun i _=>i<n,fun i H x H'=>H'=H/\x= .int (lo+i),fun i _=>n<=i⟩
theorem n4 {P:Program}{w:World}{K:PySem.W.Frag}{tg:Expr} (a it:Addr):Turn P w K tg (Itl K a) [it] it (fun i h=>h.IsListIter it a i) where
 mem:=by simp
 obj:=fun i h st b hb=>by
  have e:b=it:=by simpa using hb
  subst e
  obtain ⟨o,e,c,d⟩:=st
  exact ⟨o,e,fun v z=>by rw [d] at z;cases z⟩
 keep:=fun i h h' st k=>st.at fun o e=>k it (by simp) o e
 item:=by
  intro X hP hw hK hc i pins s σ H E I hf st hg
  subst hP hw hK
  obtain ⟨xs,x,hq,hx⟩:=hg
  obtain ⟨its,rv,p,hz⟩:=I.list hq
  obtain ⟨u,hu,ru⟩:=rv.get hx
  obtain ⟨f0,f1,f2,f3,f4,f5⟩:=hf it (by simp)
  refine wpAny_pyNext_list_item st p.isList (x:=u) (by simpa using hu) fun h' st' sb=> ?_
  have I1:Inv X pins σ H {s with heap:=h'}:=I.turned (t':=s.toks) (fun b o hb e=>(sb.2 b hb).trans e) f0 f1 f3 f4 f5
  obtain ⟨o,e,c,d⟩:=id st'
  exact ⟨u,rfl,gJ (s:={s with heap:=h'}) e c d (by decide) ⟨x,H,I1,ru,⟨rfl,fun ys hy=>by rw [I.list_inj hy hq];exact hx⟩,st',fun b hb=>(hf b hb).1⟩⟩
 done:=by
  intro X hP hw hK hc i pins s σ H E I hf st hg
  subst hP hw hK
  obtain ⟨xs,hq,hx⟩:=hg
  obtain ⟨its,rv,p,hz⟩:=I.list hq
  obtain ⟨f0,f1,f2,f3,f4,f5⟩:=hf it (by simp)
  have hl:=rv.length
  exact wpAny_pyNext_list_end (I.ok.hd hc) st p.isList (by simp;lia) fun h' eb=>⟨rfl,I.turned (t':=s.toks) (fun b o hb e=>eb b o hb e) f0 f1 f3 f4 f5⟩
 self:=fun _ _ _ _ _ st h=>wpAny_pyIter_listiter st h
theorem n5 {P:Program}{w:World}{K:PySem.W.Frag}{tg:Expr} (a it:Addr):Turn P w K tg (Itt K a) [it] it (fun i h=>h.IsTupleIter it a i) where
 mem:=by simp
 obj:=fun i h st b hb=>by
  have e:b=it:=by simpa using hb
  subst e
  obtain ⟨o,e,c,d⟩:=st
  exact ⟨o,e,fun v z=>by rw [d] at z;cases z⟩
 keep:=fun i h h' st k=>st.at fun o e=>k it (by simp) o e
 item:=by
  intro X hP hw hK hc i pins s σ H E I hf st hg
  subst hP hw hK
  obtain ⟨xs,x,hq,hx⟩:=hg
  obtain ⟨its,rv,p,hz⟩:=I.tuple hq
  obtain ⟨u,hu,ru⟩:=rv.get hx
  obtain ⟨f0,f1,f2,f3,f4,f5⟩:=hf it (by simp)
  refine wpAny_pyNext_tuple_item st (show s.heap.IsTuple a its.toArray from p) (x:=u) (by simpa using hu) fun h' st' sb=> ?_
  have I1:Inv X pins σ H {s with heap:=h'}:=I.turned (t':=s.toks) (fun b o hb e=>(sb.2 b hb).trans e) f0 f1 f3 f4 f5
  obtain ⟨o,e,c,d⟩:=id st'
  exact ⟨u,rfl,gJ (s:={s with heap:=h'}) e c d (by decide) ⟨x,H,I1,ru,⟨rfl,fun ys hy=>by rw [I.tuple_inj hy hq];exact hx⟩,st',fun b hb=>(hf b hb).1⟩⟩
 done:=by
  intro X hP hw hK hc i pins s σ H E I hf st hg
  subst hP hw hK
  obtain ⟨xs,hq,hx⟩:=hg
  obtain ⟨its,rv,p,hz⟩:=I.tuple hq
  obtain ⟨f0,f1,f2,f3,f4,f5⟩:=hf it (by simp)
  have hl:=rv.length
  exact wpAny_pyNext_tuple_end (I.ok.hd hc) st (show s.heap.IsTuple a its.toArray from p) (by simp;lia) fun h' eb=>⟨rfl,I.turned (t':=s.toks) (fun b o hb e=>eb b o hb e) f0 f1 f3 f4 f5⟩
 self:=fun _ _ _ _ _ st h=>wpAny_pyIter_tupleiter st h
theorem n6 {P:Program}{w:World}{K:PySem.W.Frag}{tg:Expr} (it:Addr) (lo:Int) (n:Nat):Turn P w K tg (Itr lo n) [it] it (fun i h=>IsRangeIter h it (lo+(i:Nat)*1) ((n:Int)-(i:Nat)) 1) where
 mem:=by simp
 obj:=fun i h st b hb=>by
  have e:b=it:=by simpa using hb
  subst e
  exact ⟨_,st,fun v z=>by
   have z':Data.fields _=Data.cell v:=z
   cases z'⟩
 keep:=fun i h h' st k=>k it (by simp) _ st
 item:=by
  intro X hP hw hK hc i pins s σ H E I hf st hg
  subst hP hw hK
  obtain ⟨f0,f1,f2,f3,f4,f5⟩:=hf it (by simp)
  have W:=Walks.range (prog:=X.prog) (w:=X.w) (I.ok.hd hc) it lo 1 n
  refine W.item i s _ _ hg st fun v h' tk hv st' kk=> ?_
  obtain ⟨t,rfl⟩:=hv
  have I1:Inv X pins σ H {s with heap:=h',toks:=tk}:=I.turned (fun b o hb e=>kk b o (by simpa using hb) e) f0 f1 f3 f4 f5
  refine ⟨_,rfl,gJ (s:={s with heap:=h',toks:=tk}) (n:="range_iterator") st' rfl rfl (by decide) ⟨.int (lo+i),H,I1,⟨t,?_⟩,⟨rfl,rfl⟩,st',fun b hb=>(hf b hb).1⟩⟩
  rw [Int.mul_one]
 done:=by
  intro X hP hw hK hc i pins s σ H E I hf st hg
  subst hP hw hK
  obtain ⟨f0,f1,f2,f3,f4,f5⟩:=hf it (by simp)
  exact wpAny_pyNext_range_end (I.ok.hd hc) st (by have:n<=i:=hg;lia) fun h' eb=>⟨rfl,I.turned (t':=s.toks) (fun b o hb e=>eb b o hb e) f0 f1 f3 f4 f5⟩
 self:=fun _ _ _ _ _ st h=>wpAny_pyIter_rangeiter st h
end L2
namespace L2
open PySem PySem.Spec PyProof.Rows
section
variable {X:Cx}{tg:Expr}
noncomputable def n8 (K:PySem.W.Frag) (tl:TE):TI:=fun σ H R=>tl σ H fun x H1=> ∃a,x= .ref a/\(∃xs,SqL K H1 a xs)/\R (Itl K a) H1
noncomputable def iTup (K:PySem.W.Frag) (tl:TE):TI:=fun σ H R=>tl σ H fun x H1=> ∃a,x= .ref a/\(∃xs,SqT K H1 a xs)/\R (Itt K a) H1
theorem n9 {l:Expr}{tl:TE} (hl:PE X l tl):PI X tg l (n8 X.K tl):=by
 intro pins s σ H R I h
 refine thn (hl pins s σ H _ I h) fun v s1 ⟨x,H1,I1,r1,q1⟩=> ?_
 obtain ⟨a,e,⟨xs,hq⟩,q⟩:=q1
 subst e
 cases r1
 obtain ⟨its,rv,p,hz⟩:=I1.list hq
 refine wpAny_pyIter_list p.isList ?_
 refine ⟨s1.heap.objs.size,[s1.heap.objs.size],_,_,H1,rfl,I1.kept (t':=s1.toks) fun b o e=>Heap.get?_push_of_some _ e,n4 a _,⟨_,Heap.get?_push_size _ rfl,rfl,rfl⟩,fun b hb=> ?_,q⟩
 have e:b=s1.heap.objs.size:=by simpa using hb
 subst e
 exact I1.fpOk (Nat.le_refl _) (I1.hok.fresh (Nat.le_refl _))
theorem oe {l:Expr}{tl:TE} (hl:PE X l tl):PI X tg l (iTup X.K tl):=by
 intro pins s σ H R I h
 refine thn (hl pins s σ H _ I h) fun v s1 ⟨x,H1,I1,r1,q1⟩=> ?_
 obtain ⟨a,e,⟨xs,hq⟩,q⟩:=q1
 subst e
 cases r1
 obtain ⟨its,rv,p,hz⟩:=I1.tuple hq
 refine wpAny_pyIter_tuple (show s1.heap.IsTuple a its.toArray from p) ?_
 refine ⟨s1.heap.objs.size,[s1.heap.objs.size],_,_,H1,rfl,I1.kept (t':=s1.toks) fun b o e=>Heap.get?_push_of_some _ e,n5 a _,⟨_,Heap.get?_push_size _ rfl,rfl,rfl⟩,fun b hb=> ?_,q⟩
 have e:b=s1.heap.objs.size:=by simpa using hb
 subst e
 exact I1.fpOk (Nat.le_refl _) (I1.hok.fresh (Nat.le_refl _))
theorem jr {pins:List (Addr×Obj)}{σ:St}{H:Hp}{s:Shared}{R:It->Hp->Prop}{E:Value->Shared->Prop}{lo hi:Int}{t u v:Tok}{tk:Nat} (I:Inv X pins σ H s) (h1: -(2^62)<=lo) (h2:lo<2^62) (h3: -(2^62)<=hi) (h4:hi<2^62)
  (q:R (Itr lo (hi-lo).toNat) H):wpAny (model X.prog X.w) X.A (pyIter (.ref s.heap.objs.size)) (PIE X pins σ tg R) E {s with heap:=s.heap.push {cls:= .type "range",data:= .fields #[.int lo t,.int hi u,.int 1 v]},toks:=tk}:=by
 refine wpAny_pyIter_range (IsRange.new ..) (small_one h1 h2 h3 h4) ?_
 have I1:Inv X pins σ H {s with heap:=s.heap.push {cls:= .type "range",data:= .fields #[.int lo t,.int hi u,.int 1 v]},toks:=tk}:=I.kept fun b o e=>Heap.get?_push_of_some _ e
 refine ⟨(s.heap.push {cls:= .type "range",data:= .fields #[.int lo t,.int hi u,.int 1 v]}).objs.size,[(s.heap.push {cls:= .type "range",data:= .fields #[.int lo t,.int hi u,.int 1 v]}).objs.size],_,_,H,rfl,
  I1.kept (t':=tk) fun b o e=>Heap.get?_push_of_some _ e,n6 _ lo (hi-lo).toNat,?_,fun b hb=> ?_,q⟩
 ·have e1:lo+((0:Nat):Int)*1=lo:=by simp
  have e2:(((hi-lo).toNat:Nat):Int)-((0:Nat):Int)=Builtin.Range.rangeSize lo hi 1:=by rw [rangeSize_one];split<;>lia
  show IsRangeIter _ _ (lo+((0:Nat):Int)*1) ((((hi-lo).toNat:Nat):Int)-((0:Nat):Int)) 1
  rw [e1,e2]
  exact Heap.get?_push_size _ rfl
 ·have e:b=(s.heap.push {cls:= .type "range",data:= .fields #[.int lo t,.int hi u,.int 1 v]}).objs.size:=by simpa using hb
  subst e
  exact I1.fpOk (Nat.le_refl _) (I1.hok.fresh (Nat.le_refl _))
noncomputable def og (ta:TA):TI:=fun σ H R=>ta σ H fun vs H1=> ∃j:Int,vs=[.int j]/\ -(2^62)<=j/\j<2^62/\R (Itr 0 j.toNat) H1
noncomputable def oh (ta:TA):TI:=fun σ H R=>ta σ H fun vs H1=> ∃i j:Int,vs=[.int i,.int j]/\(-(2^62)<=i/\i<2^62/\ -(2^62)<=j/\j<2^62)/\R (Itr i (j-i).toNat) H1
theorem oi {a:Expr}{ta:TA}{p pos:Pos} (hg:Gl X "range") (hm:X.mg "range"=none) (ha:PA X [a] ta) (hs:starEach [a] X.env=[(false,eval a X.env)]:=by rfl):PI X tg (.Call (.Name "range" p) [a] [] pos) (og ta):=by
 intro pins s σ H R I h
 refine Call_ (eI I hg hm boot_range (PyProof.Rows.callWith_type1 (thn (ha pos pins s σ H _ I h) fun us s1 ⟨vs,H1,I1,r1,q1⟩=> ?_) hs rfl))
 obtain ⟨j,e,q1,q2,q⟩:=q1
 subst e
 cases r1 with
 |cons r rr=>
  cases rr
  obtain ⟨t,rfl⟩:=r
  exact call_range_1 (jr I1 (by lia) (by lia) q1 q2 (by simpa using q))
theorem oj {a b:Expr}{ta:TA}{p pos:Pos} (hg:Gl X "range") (hm:X.mg "range"=none) (ha:PA X [a,b] ta) (hs:starEach [a,b] X.env=[(false,eval a X.env),(false,eval b X.env)]:=by rfl) (hs2:starEach [b] X.env=[(false,eval b X.env)]:=by rfl):
  PI X tg (.Call (.Name "range" p) [a,b] [] pos) (oh ta):=by
 intro pins s σ H R I h
 refine Call_ (eI I hg hm boot_range (PyProof.Rows.callWith_type1 (thn (ha pos pins s σ H _ I h) fun us s1 ⟨vs,H1,I1,r1,q1⟩=> ?_) (by rw [hs,hs2]) (by rw [hs2];rfl)))
 obtain ⟨i,j,e,⟨q1,q2,q3,q4⟩,q⟩:=q1
 subst e
 cases r1 with
 |cons r rr=>
  cases rr with
  |cons r' rr=>
   cases rr
   obtain ⟨t,rfl⟩:=r
   obtain ⟨t',rfl⟩:=r'
   exact call_range_2 (jr I1 q1 q2 q3 q4 q)
noncomputable def tFor (wi:TI) (g:TG) (tb:TS):TS:=fun D σ H=>wi σ H fun J H1=> ∃W:Nat->Nat->St->Hp->Prop,(∃m,W 0 m σ H1)/\ ∀i m σ H,W i m σ H->
 (J.stop i H/\D.nx σ H) \/(J.go i H/\ ∃N:St->Hp->Prop,(∀σ' H',N σ' H'-> ∃m',m'<m/\W (i+1) m' σ' H')/\ ∀x H',J.yld i H x H'->g x σ H' fun σ2 H2=>tb {D with nx:=N,ct:=N,bk:=D.nx} σ2 H2)
noncomputable def eJ (fp:List Addr) (h:Heap):List (Addr×Obj):=fp.filterMap fun b=>(h.get? b).map fun o=>(b,o)
theorem fy {fp:List Addr}{h:Heap}{b:Addr}{o:Obj} (hb:b∈fp) (e:h.get? b=some o):(b,o)∈eJ fp h:=List.mem_filterMap.mpr ⟨b,hb,by rw [e];rfl⟩
theorem om {fp:List Addr}{h:Heap}{p:Addr×Obj} (hp:p∈eJ fp h):p.1∈fp/\h.get? p.1=some p.2:=by
 obtain ⟨b,hb,e⟩:=List.mem_filterMap.mp hp
 cases q:h.get? b with
 |none=>rw [q] at e;cases e
 |some o=>
  rw [q] at e
  have e':(b,o)=p:=Option.some.inj e
  subst e'
  exact ⟨hb,q⟩
theorem Inv.pinned {pins:List (Addr×Obj)}{σ:St}{H:Hp}{s:Shared}{fp:List Addr} (I:Inv X pins σ H s) (hf: ∀b∈fp,FpOk X pins H b) (ho: ∀b∈fp,∃o,s.heap.get? b=some o/\ ∀v,o.data≠ .cell v):Inv X (pins++eJ fp s.heap) σ H s:=
 I.pins_of fun p hp=>(List.mem_append.mp hp).elim (fun z=>I.pin p (List.mem_append_right _ z)) fun z=>by
  obtain ⟨hb,e⟩:=om z
  obtain ⟨f0,f1,f2,_⟩:=hf p.1 hb
  obtain ⟨o,e',d⟩:=ho p.1 hb
  rw [e] at e';cases e'
  exact ⟨e,f0,f1,f2,d⟩
theorem Inv.unpinned {pins pl:List (Addr×Obj)}{σ:St}{H:Hp}{s:Shared} (I:Inv X (pins++pl) σ H s):Inv X pins σ H s:=I.pins_of fun p hp=>I.pin p (List.mem_append_right _ (List.mem_append_left _ hp))
theorem on {iter:Expr}{body:List Stmt}{wi:TI}{g:TG}{tb:TS}{pos:Pos} (hp:PassesOwn (model X.prog X.w) X.A X.env X.xe) (hc:X.calm=true) (hi:PI X tg iter wi) (hg:PG X tg g) (hb:PSs X body tb)
  (hs: ∀x,foldedSetIterable iter X.env x=pure x:=by intro _;rfl):PS X (.For tg iter body [] pos) (tFor wi g tb):=by
 intro pins s σ H D I h
 refine wpAny_For (thn (hi pins s σ H _ I h) fun v s1 h1=>thn h1 fun itv s2 h2=> ?_) hs
 obtain ⟨it,fp,tn,J,H2,e,I2,T,st2,f2,W,⟨m0,w0⟩,turn⟩:=h2
 subst e
 have stat: ∀{H':Hp},(∀b∈fp,H' b=none)-> ∀b∈fp,FpOk X pins H' b:=fun hn b hb=>⟨hn b hb,(f2 b hb).2⟩
 refine codeAny_forLoop_any (fun n s'=> ∃i σ' H',Inv X pins σ' H' s'/\tn i s'.heap/\(∀b∈fp,H' b=none)/\W i n σ' H') ?_ m0 ⟨0,σ,H2,I2,st2,fun b hb=>(f2 b hb).1,w0⟩
 rintro n s3 ⟨i,σ3,H3,I3,st3,fr3,w3⟩
 rcases turn i n σ3 H3 w3 with ⟨stop,qn⟩|⟨go,N,hN,step⟩
 ·refine wpAny_passesOwn hp (thn (T.done X rfl rfl rfl hc i pins s3 σ3 H3 X.xe I3 (stat fr3) st3 stop) fun r s4 ⟨hr,I4⟩=> ?_)
  subst hr
  exact wpAny_execs_nil ⟨σ3,H3,I4,qn⟩
 ·refine wpAny_passesOwn hp (thn (T.item X rfl rfl rfl hc i pins s3 σ3 H3 X.xe I3 (stat fr3) st3 go) fun r s4 ⟨u,hr,h4⟩=> ?_)
  subst hr
  refine wpAny_passesOwn hp (thn h4 fun _ s5 ⟨x,H5,I5,r5,y5,st5,fr5⟩=> ?_)
  have I5':=I5.pinned (stat fr5) (T.obj _ _ st5)
  refine wpAny_passesOwn hp (thn (hg _ s5 σ3 H5 x u _ I5' r5 (step x H5 y5)) fun _ s6 ⟨σ6,H6,I6,q6⟩=> ?_)
  refine wpAny_passesOwn hp (thn (hb _ s6 σ6 H6 _ I6 q6) fun f s7 q7=> ?_)
  have again: ∀{σ7:St}{H7:Hp},Inv X (pins++eJ fp s5.heap) σ7 H7 s7->N σ7 H7-> ∃m,m<n/\ ∃i σ' H',Inv X pins σ' H' s7/\tn i s7.heap/\(∀b∈fp,H' b=none)/\W i m σ' H':=fun {σ7 H7} I7 n7=>by
   obtain ⟨m',hm,w7⟩:=hN σ7 H7 n7
   refine ⟨m',hm,i+1,σ7,H7,I7.unpinned,T.keep _ _ _ st5 fun b hb o e=>(I7.pin (b,o) (List.mem_append_right _ (List.mem_append_right _ (fy hb e)))).1,fun b hb=> ?_,w7⟩
   obtain ⟨o,e,d⟩:=T.obj _ _ st5 b hb
   exact (I7.pin (b,o) (List.mem_append_right _ (List.mem_append_right _ (fy hb e)))).2.1
  cases f with
  |next=>obtain ⟨σ7,H7,I7,n7⟩:=q7;exact again I7 n7
  |cont=>obtain ⟨σ7,H7,I7,n7⟩:=q7;exact again I7 n7
  |brk=>obtain ⟨σ7,H7,I7,q7⟩:=q7;exact ⟨σ7,H7,I7.unpinned,q7⟩
  |ret v=>obtain ⟨x7,σ7,H7,I7,r7,q7⟩:=q7;exact ⟨x7,σ7,H7,I7.unpinned,r7,q7⟩
end
end L2
namespace L2
open PySem PySem.Spec PyProof.Rows
noncomputable abbrev R2:=V->V->Hp->VK->Prop
noncomputable def OpR (X:Cx) (f:Value->Value->Sem Value) (r:R2):Prop:=
 ∀(pins:List (Addr×Obj)) (s:Shared) (σ:St) (H:Hp) (x y:V) (v u:Value) (Q:VK),Inv X pins σ H s->RelV x v->RelV y u->r x y H Q->
  wpAny (model X.prog X.w) X.A (f v u) (EP X pins σ Q) X.xe s
noncomputable def bj (X:Cx) (f:Value) (r:List V->Hp->VK->Prop):Prop:=
 ∀(pins:List (Addr×Obj)) (s:Shared) (σ:St) (H:Hp) (xs:List V) (us:List Value) (Q:VK),Inv X pins σ H s->Vals xs us->r xs H Q->
  wpAny (model X.prog X.w) X.A (call f us) (EP X pins σ Q) X.xe s
noncomputable def tOp (r:R2) (ta tb:TE):TE:=fun σ H Q=>ta σ H fun x H1=>tb σ H1 fun y H2=>r x y H2 Q
noncomputable def rI (C:Int->Int->Prop) (g:Int->Int->V):R2:=fun x y H Q=> ∃i j,x= .int i/\y= .int j/\C i j/\Q (g i j) H
noncomputable def rI0 (g:Int->Int->V):R2:=fun x y H Q=> ∃i j,x= .int i/\y= .int j/\Q (g i j) H
section
variable {X:Cx}{a b c:Expr}{ta tb tc:TE}{pos:Pos}
theorem binT (ha:PE X a ta) (hb:PE X b tb) {pins:List (Addr×Obj)}{s:Shared}{σ:St}{H:Hp}{R:V->V->Hp->Prop} (I:Inv X pins σ H s)
  (h:ta σ H fun x H1=>tb σ H1 fun y H2=>R x y H2) {Q:Value->Shared->Prop}{f:Value->Value->Sem Value}
  (hf: ∀v u s2 x y H2,Inv X pins σ H2 s2->RelV x v->RelV y u->R x y H2->wpAny (model X.prog X.w) X.A (f v u) Q X.xe s2):
  wpAny (model X.prog X.w) X.A (eval a X.env) (fun v s₁=>wpAny (model X.prog X.w) X.A (eval b X.env) (fun u s₂=>wpAny (model X.prog X.w) X.A (f v u) Q X.xe s₂) X.xe s₁) X.xe s:=by
 refine thn (ha pins s σ H _ I h) fun v s1 ⟨x,H1,I1,r1,q1⟩=> ?_
 refine thn (hb pins s1 σ H1 _ I1 q1) fun u s2 ⟨y,H2,I2,r2,q2⟩=> ?_
 exact hf v u s2 x y H2 I2 r1 r2 q2
theorem jt {op:Operator}{r:R2} (ho:OpR X (binaryOp op) r) (ha:PE X a ta) (hb:PE X b tb):PE X (.BinOp a op b pos) (tOp r ta tb):=by
 intro pins s σ H Q I h
 exact wpAny_BinOp (binT ha hb I h fun v u s2 x y H2 I2 rx ry q=>ho pins s2 σ H2 x y v u Q I2 rx ry q)
theorem opI {f:Value->Value->Sem Value}{C:Int->Int->Prop}{g:Int->Int->Int}
  (rule: ∀(i j:Int) (t u:Tok) (s:Shared) (Q:Value->Shared->Prop) (E:Value->Shared->Prop),C i j->Q (.int (g i j) s.toks) {s with toks:=s.toks+1}->wpAny (model X.prog X.w) X.A (f (.int i t) (.int j u)) Q E s):
  OpR X f (rI C fun i j=> .int (g i j)):=by
 intro pins s σ H x y v u Q I rx ry h
 obtain ⟨i,j,rfl,rfl,hc,q⟩:=h
 obtain ⟨t,rfl⟩:=rx
 obtain ⟨t',rfl⟩:=ry
 exact rule i j t t' s _ _ hc ⟨.int (g i j),H,I.tok _,⟨_,rfl⟩,q⟩
theorem opI0 {f:Value->Value->Sem Value}{g:Int->Int->Int}
  (rule: ∀(i j:Int) (t u:Tok) (s:Shared) (Q:Value->Shared->Prop) (E:Value->Shared->Prop),Q (.int (g i j) s.toks) {s with toks:=s.toks+1}->wpAny (model X.prog X.w) X.A (f (.int i t) (.int j u)) Q E s):
  OpR X f (rI0 fun i j=> .int (g i j)):=by
 intro pins s σ H x y v u Q I rx ry h
 obtain ⟨i,j,rfl,rfl,q⟩:=h
 obtain ⟨t,rfl⟩:=rx
 obtain ⟨t',rfl⟩:=ry
 exact rule i j t t' s _ _ ⟨.int (g i j),H,I.tok _,⟨_,rfl⟩,q⟩
theorem opB0 {f:Value->Value->Sem Value}{g:Int->Int->Bool}
  (rule: ∀(i j:Int) (t u:Tok) (s:Shared) (Q:Value->Shared->Prop) (E:Value->Shared->Prop),Q (.bool (g i j)) s->wpAny (model X.prog X.w) X.A (f (.int i t) (.int j u)) Q E s):
  OpR X f (rI0 fun i j=> .bl (g i j)):=by
 intro pins s σ H x y v u Q I rx ry h
 obtain ⟨i,j,rfl,rfl,q⟩:=h
 obtain ⟨t,rfl⟩:=rx
 obtain ⟨t',rfl⟩:=ry
 exact rule i j t t' s _ _ ⟨.bl (g i j),H,I,rfl,q⟩
noncomputable def CDiv (i j:Int):Prop:=0<j/\j<1073741824
noncomputable def CMul (i j:Int):Prop:=(-(2^64)<i/\i<2^64) \/(-(2^64)<j/\j<2^64)
theorem CMul.ok {i j:Int} (h:CMul i j):IntMulOk i j:=by
 rcases h with ⟨h1,h2⟩|⟨h1,h2⟩
 ·exact .of_left (intBits_le_64 h1 h2)
 ·exact .of_right (intBits_le_64 h1 h2)
theorem bq:OpR X (binaryOp .Add) (rI0 fun i j=> .int (i+j)):=opI0 fun _ _ _ _ _ _ _ q=>add_int q
theorem bU:OpR X (binaryOp .Sub) (rI0 fun i j=> .int (i-j)):=opI0 fun _ _ _ _ _ _ _ q=>sub_int q
theorem cS:OpR X (binaryOp .FloorDiv) (rI CDiv fun i j=> .int (i/j)):=opI fun i j _ _ _ _ _ hc q=>by
 have h1:(0:Int)<j:=hc.1
 have h2:j<1073741824:=hc.2
 exact floordiv_int (by lia) (by rw [Int.fdiv_eq_ediv_of_nonneg i (by lia)];exact q) (.inl (PyProof.noPylong_small (by lia)))
theorem aP:OpR X (binaryOp .Mod) (rI (fun _ j=>0<j) fun i j=> .int (i%j)):=opI fun i j _ _ _ _ _ hc q=>by
 have h1:(0:Int)<j:=hc
 exact mod_int' (by lia) (by rw [Int.fmod_eq_emod_of_nonneg i (by lia)];exact q)
end
section
variable {X:Cx}{a b c:Expr}{ta tb tc:TE}{pos:Pos}
theorem fz:OpR X (compareOp .Lt) (rI0 fun i j=> .bl (decide (i<j))):=opB0 fun _ _ _ _ _ _ _ q=>lt_int q
theorem ju:OpR X (compareOp .Gt) (rI0 fun i j=> .bl (decide (j<i))):=opB0 fun _ _ _ _ _ _ _ q=>gt_int q
theorem OpR.or {f:Value->Value->Sem Value}{r r':R2} (h:OpR X f r) (h':OpR X f r'):OpR X f (fun x y H Q=>r x y H Q \/r' x y H Q):=by
 intro pins s σ H x y v u Q I rx ry q
 rcases q with q|q
 ·exact h pins s σ H x y v u Q I rx ry q
 ·exact h' pins s σ H x y v u Q I rx ry q
theorem aA (b:Expr) {op:CmpOp} (h:op≠ .In:=by decide) (h2:op≠ .NotIn:=by decide):behindInMarks op b=false:=by
 have e1:(op==CmpOp.In)=false:=by cases op<;>first|rfl|exact absurd rfl h
 have e2:(op==CmpOp.NotIn)=false:=by cases op<;>first|rfl|exact absurd rfl h2
 cases b<;>simp [behindInMarks,e1,e2]
theorem oq {op:CmpOp}{r:R2} (ho:OpR X (compareOp op) r) (ha:PE X a ta) (hb:PE X b tb) (hm:behindInMarks op b=false):PE X (.Compare a [op] [b] pos) (tOp r ta tb):=by
 intro pins s σ H Q I h
 exact wpAny_Compare1 (binT ha hb I h fun v u s2 x y H2 I2 rx ry q=>ho pins s2 σ H2 x y v u Q I2 rx ry q) hm
noncomputable def ot (t:TE):TT:=fun σ H Q=>t σ H fun x H'=> ∃k,x= .bl k/\Q k H'
theorem ou {op:CmpOp}{r:R2} (ho:OpR X (compareOp op) r) (ha:PE X a ta) (hb:PE X b tb) (hm:behindInMarks op b=false):PT X (.Compare a [op] [b] pos) (ot (tOp r ta tb)):=by
 intro pins s σ H Q I h
 refine wpAny_isTrue_Compare1 (thn (ha pins s σ H _ I h) fun v s1 ⟨x,H1,I1,r1,q1⟩=>thn (hb pins s1 σ H1 _ I1 q1) fun u s2 ⟨y,H2,I2,r2,q2⟩=>
  thn (ho pins s2 σ H2 x y v u _ I2 r1 r2 q2) fun c s3 ⟨z,H3,I3,r3,k,e,q3⟩=> ?_) hm
 subst e
 cases r3
 exact wpAny_truthy_bool ⟨H3,I3,q3⟩
theorem eK:(sizeLine:Nat)<2^63:=by rw [sizeLine_eq];decide
theorem dl {x:V}{us:List Value} (r:Vals [x] us): ∃u,us=[u]/\RelV x u:=by
 cases r with
 |cons r1 r2=>cases r2;exact ⟨_,rfl,r1⟩
theorem jv {x y:V}{us:List Value} (r:Vals [x,y] us): ∃u w',us=[u,w']/\RelV x u/\RelV y w':=by
 cases r with
 |cons r1 r2=>
  cases r2 with
  |cons r3 r4=>cases r4;exact ⟨_,_,rfl,r1,r3⟩
theorem oA (hc:X.calm=true):bj X (.builtin "max") (fun xs H Q=> ∃i j,xs=[.int i,.int j]/\Q (.int (if j>i then j else i)) H):=by
 intro pins s σ H xs us Q I r h
 obtain ⟨i,j,rfl,q⟩:=h
 obtain ⟨u,w',rfl,⟨t,rfl⟩,⟨t',rfl⟩⟩:=jv r
 refine max_two_ints (I.ok.hd hc) fun h' tk k=>⟨_,H,I.kept k,?_,q⟩
 by_cases hj:j>i
 ·rw [if_pos hj,if_pos hj];exact ⟨_,rfl⟩
 ·rw [if_neg hj,if_neg hj];exact ⟨_,rfl⟩
theorem oB (hc:X.calm=true):bj X (.builtin "min") (fun xs H Q=> ∃i j,xs=[.int i,.int j]/\Q (.int (if j<i then j else i)) H):=by
 intro pins s σ H xs us Q I r h
 obtain ⟨i,j,rfl,q⟩:=h
 obtain ⟨u,w',rfl,⟨t,rfl⟩,⟨t',rfl⟩⟩:=jv r
 refine min_two_ints (I.ok.hd hc) fun h' tk k=>⟨_,H,I.kept k,?_,q⟩
 by_cases hj:j<i
 ·rw [if_pos hj,if_pos hj];exact ⟨_,rfl⟩
 ·rw [if_neg hj,if_neg hj];exact ⟨_,rfl⟩
theorem oC:bj X (.type "int") (fun xs H Q=>(∃i,xs=[.int i]/\Q (.int i) H) \/ ∃k,xs=[.bl k]/\Q (.int (if k then 1 else 0)) H):=by
 intro pins s σ H xs us Q I r h
 rcases h with ⟨i,rfl,q⟩|⟨k,rfl,q⟩
 ·obtain ⟨u,rfl,t,rfl⟩:=dl r
  exact call_int_int ⟨.int i,H,I,⟨_,rfl⟩,q⟩
 ·obtain ⟨u,rfl,r1⟩:=dl r
  cases r1
  exact call_int_bool ⟨.int (if k then 1 else 0),H,I.tok _,⟨_,rfl⟩,q⟩
theorem oD:bj X (.type "str") (fun xs H Q=> ∃i,xs=[.int i]/\i.natAbs.log2<1920/\Q (.str (toString i)) H):=by
 intro pins s σ H xs us Q I r h
 obtain ⟨i,rfl,hz,q⟩:=h
 obtain ⟨u,rfl,t,rfl⟩:=dl r
 exact PySem.P.str_of_int hz ⟨.str _,H,I.tok _,⟨_,rfl⟩,q⟩
end
end L2
namespace L2
open PySem PySem.Spec PyProof.Rows
structure ObjM (h:Heap) (x dx C:Addr) (mA:Str->Option Value):Prop where
 obj:h.get? x=some (PySem.W.instObj C dx)
 ns:h.Ns1 dx mA
 ne:dx≠x
theorem oE {h:Heap}{dx:Addr}{mA:Str->Option Value} (n:h.Ns1 dx mA): ∃od,h.get? dx=some od/\ ∀name,PySem.W.lookIn name od=some (mA name):=by
 obtain ⟨o,es,ep,ho,hd,hk,_,hm⟩:=n
 refine ⟨o,ho,fun name=> ?_⟩
 have e:=hm name
 unfold nsFind findBy at e
 rw [<-Array.find?_toList] at e
 unfold PySem.W.lookIn
 rw [hd]
 dsimp only
 split
 ·rename_i y q
  rw [q] at e
  exact congrArg some e
 ·rename_i q
  rw [q] at e
  have a:es.toList.any (·.refKey)=false:=by
   rw [List.any_eq_false]
   intro y hy
   obtain ⟨z,t,hkey⟩:=hk y (Array.mem_toList_iff.mp hy)
   simp [DictEntry.refKey,hkey]
  have a': ¬es.toList.any (·.refKey)=true:=by rw [a];exact Bool.false_ne_true
  rw [if_neg a']
  exact congrArg some e
theorem ObjM.look {h:Heap}{x dx C:Addr}{mA:Str->Option Value} (I:ObjM h x dx C mA): ∃od,PySem.W.InstAt h x (PySem.W.instObj C dx) C (some od)/\ ∀name,PySem.W.lookIn name od=some (mA name):=
 let ⟨od,ho,hl⟩:=oE I.ns
 ⟨od,⟨I.obj,rfl,rfl,ho⟩,hl⟩
section
variable {prog:Program}{w:World}{A:Around}{E:Value->Shared->Prop}{s:Shared}{K:PySem.W.Frag}{x dx C f:Addr}{mA:Str->Option Value}{name:Str}{v:Value}
end
theorem RelO.some_of {v:V}{o:Option Value} (r:RelO (some v) o): ∃u,o=some u/\RelV v u:=by
 cases o with
 |none=>exact (show False from r).elim
 |some u=>exact ⟨u,rfl,r⟩
theorem RelO.none_of {o:Option Value} (r:RelO none o):o=none:=by
 cases o with
 |none=>rfl
 |some u=>exact (show False from r).elim
section
variable {P:Program}{w:World}{H H':Hp}{h h':Heap}{a C dx:Addr}{fs fs':List (Str×V)}
theorem oF (hok:HOk P w H h) (e:H a=some (.ins C dx fs)): ∃mA,ObjM h a dx C mA/\(∀f,RelO (fs.lookup f) (mA f))/\PySem.Within mA (fs.map (·.1))/\fs.length<=1000/\H dx=some (.own a):=by
 obtain ⟨d,z,ne,ob,mA,n,r,q⟩:=(show ax P w H h a (.ins C dx fs) from hok a _ e)
 exact ⟨mA,⟨ob,n,ne⟩,r,q,z,d⟩
end
structure Cls (K:PySem.W.Frag) (C:Addr):Prop where
 pg:PySem.W.plainGet K C Str.empty=true
 hd:PySem.W.hasDictIn K C=true
 po:PySem.W.plainOver K C=true
 sa:PySem.W.findIn K (.ref C) "__setattr__"=some (some (.builtin "object.__setattr__"))
theorem Cls.get {K:PySem.W.Frag}{C:Addr} (c:Cls K C) (f:Str):PySem.W.plainGet K C f=true:=c.pg
section
variable {X:Cx}{pins:List (Addr×Obj)}{σ:St}{H:Hp}{s:Shared}{a C dx:Addr}{fs:List (Str×V)}{f:Str}{v:V}{A:Around}{E:Value->Shared->Prop}
end
section
variable {X:Cx}{o e value:Expr}{f:Str}{pos pos' tpos:Pos}{ta tv:TE}
end
section
variable {X:Cx}{pins:List (Addr×Obj)}{σ:St}{H:Hp}{s:Shared}{A:Around}{E:Value->Shared->Prop}{Q:Value->Shared->Prop}{c:Value}{b:Bool}
inductive TyOf (K:PySem.W.Frag) (H:Hp):V->Value->Prop where
 |non:TyOf K H .non (.type "NoneType")
 |bl (x:Bool):TyOf K H (.bl x) (.type "bool")
 |int (i:Int):TyOf K H (.int i) (.type "int")
 |str (x:Str):TyOf K H (.str x) (.type "str")
 |flt (x:UInt64):TyOf K H (.flt x) (.type "float")
 |lst {a:Addr}{xs:List V} (e:H a=some (.lst xs)):TyOf K H (.ref a) (.type "list")
 |frz {a:Addr}{o:Obj}{xs:List V} (e:H a=some (.frz o (.lst xs))):TyOf K H (.ref a) (.type "list")
 |tup {a:Addr}{xs:List V} (e:H a=some (.tup xs)):TyOf K H (.ref a) (.type "tuple")
 |dK {a:Addr}{kvs:List (Key×V)} (e:Rd H a (.dK kvs)):TyOf K H (.ref a) (.type "dict")
 |dT {a:Addr}{kvs:List (List Key×V)} (e:Rd H a (.dT kvs)):TyOf K H (.ref a) (.type "dict")
 |ins {a C dx:Addr}{fs:List (Str×V)} (e:H a=some (.ins C dx fs)) (cl:Cls K C) (ha:PySem.W.findIn K (.ref C) "__class__"=some (some (.builtin "object.__class__")))
   (hn:PySem.W.specialIn K (.builtin "object.__class__") "__get__"=some (some (.builtin "getset_descriptor.__get__"))) (htk:PySem.W.takesIn K (.builtin "object.__class__")=some true)
   (hm:PySem.W.mroIn K C (.type "object")=some true):TyOf K H (.ref a) (.ref C)
theorem oG {x:V}{u t:Value} (I:Inv X pins σ H s) (rx:RelV x u) (ty:TyOf X.K H x t) (e:PySem.W.kitOne X.K t c=some b) (h: ∀tk,Q (.bool b) {s with toks:=tk}):
  wpAny (model X.prog X.w) A (call (.builtin "isinstance") [u,c]) Q E s:=by
 cases ty with
 |non=>cases (show u=Value.none from rx);exact PySem.W.kia_one PySem.W.kitx_none I.kIn True.intro e (fun z=>nomatch z) h
 |bl y=>cases (show u=Value.bool y from rx);exact PySem.W.kia_one PySem.W.kitx_bool I.kIn True.intro e (fun z=>nomatch z) h
 |int i=>obtain ⟨t,q⟩:=(show∃t,u=Value.int i t from rx);cases q;exact PySem.W.kia_one PySem.W.kitx_int I.kIn True.intro e (fun z=>nomatch z) h
 |str y=>obtain ⟨t,q⟩:=(show∃t,u=Value.str y t from rx);cases q;exact PySem.W.kia_one PySem.W.kitx_str I.kIn True.intro e (fun z=>nomatch z) h
 |flt y=>obtain ⟨t,q⟩:=(show∃t,u=Value.float y t from rx);cases q;exact PySem.W.kia_one PySem.W.kitx_float I.kIn True.intro e (fun z=>nomatch z) h
 | @lst a xs ea=>
  cases (show u=Value.ref a from rx)
  obtain ⟨_,_,n,_,h1⟩:=(show ax X.prog X.w H s.heap a (.lst xs) from I.hok a _ ea)
  exact PySem.W.kia_one PySem.W.kitx_list I.kIn ⟨_,h1,rfl⟩ e (fun z=>nomatch z) h
 | @frz a ob xs ea=>
  cases (show u=Value.ref a from rx)
  obtain ⟨_,_,_,n,_,h1⟩:=(show ax X.prog X.w H s.heap a (.frz ob (.lst xs)) from I.hok a _ ea)
  exact PySem.W.kia_one PySem.W.kitx_list I.kIn ⟨_,h1,rfl⟩ e (fun z=>nomatch z) h
 | @tup a xs ea=>
  cases (show u=Value.ref a from rx)
  obtain ⟨_,_,_,p⟩:=(show ax X.prog X.w H s.heap a (.tup xs) from I.hok a _ ea)
  obtain ⟨o,h1,h2,_⟩:=p
  exact PySem.W.kia_one PySem.W.kitx_tuple I.kIn ⟨o,h1,h2⟩ e (fun z=>nomatch z) h
 | @dK a kvs ea=>
  cases (show u=Value.ref a from rx)
  obtain ⟨_,_,vs,_,p⟩:=(show ax X.prog X.w H s.heap a (.dK kvs) from ea.ok I.hok)
  obtain ⟨o,es,ep,h1,h2,_⟩:=p
  exact PySem.W.kia_one PySem.W.kitx_dict I.kIn ⟨o,h1,h2.1⟩ e (fun z=>nomatch z) h
 | @dT a kvs ea=>
  cases (show u=Value.ref a from rx)
  obtain ⟨_,_,xs,_,o,es,ep,h1,h2,_⟩:=(show ax X.prog X.w H s.heap a (.dT kvs) from ea.ok I.hok)
  exact PySem.W.kia_one PySem.W.kitx_dict I.kIn ⟨o,h1,h2.1⟩ e (fun z=>nomatch z) h
 | @ins a C dx fs ea cl ha hn htk hm=>
  cases (show u=Value.ref a from rx)
  obtain ⟨mA,O,_⟩:=oF I.hok ea
  obtain ⟨od,J,_⟩:=O.look
  exact PySem.W.kia_one (PySem.W.kitx_own (cl.get _) cl.hd ha hn htk hm) I.kIn J e (fun z=>nomatch z) h
end
end L2
namespace L2
open PySem PySem.Spec PyProof.Rows
structure Room (k:Nat) (A:Around):Prop where
 hd:A.handled=none
 dp:A.depth+3*k+5<recursionLimit
 un:A.units+16*k+200<cLine
theorem Room.mono {j k:Nat}{A:Around} (r:Room k A) (h:j<=k):Room j A:=⟨r.hd,by have:=r.dp;lia,by have:=r.un;lia⟩
theorem Room.deeper {k:Nat}{A:Around} (r:Room (k+1) A) (env:Env):Room k (A.deeper env):=
 ⟨r.hd,by have:=r.dp;show A.depth+1+3*k+5<_;lia,by have:=r.un;show A.units+3+16*k+200<_;lia⟩
theorem Room.depth {k:Nat}{A:Around} (r:Room k A):A.depth<recursionLimit:=by have:=r.dp;lia
theorem Room.units {k:Nat}{A:Around} (r:Room k A):A.units+64<cLine:=by have:=r.un;lia
theorem Room.units0 {k:Nat}{A:Around} (r:Room k A):A.units<cLine:=by have:=r.un;lia
noncomputable def tNil:TA:=fun _ H Q=>Q [] H
noncomputable def oH (ta:TE) (tr:TA):TA:=fun σ H Q=>ta σ H fun x H1=>tr σ H1 fun xs H2=>Q (x::xs) H2
section
variable {X:Cx}{e:Expr}{es:List Expr}{te:TE}{t:TA}{pos:Pos}
theorem dJ:PA X [] tNil:=fun _ _ _ _ H Q I h=>Calls.spliced_nil ⟨[],H,I,.nil,h⟩
theorem cn (ha:PE X e te) (hr:PA X es t) (hs:starEach (e::es) X.env=(false,eval e X.env)::starEach es X.env:=by rfl):PA X (e::es) (oH te t):=by
 intro pos pins s σ H Q I h
 rw [hs]
 show wpAny _ _ (spliced ((false,eval e X.env)::backTo pos (starEach es X.env))) _ _ s
 refine Calls.spliced_cons (thn (ha pins s σ H _ I h) fun u s1 ⟨x,H1,I1,r1,q1⟩=> ?_)
 exact thn (hr pos pins s1 σ H1 _ I1 q1) fun us s2 ⟨xs,H2,I2,r2,q2⟩=>⟨x::xs,H2,I2,.cons r1 r2,q2⟩
noncomputable def tTup (t:TA):TE:=fun σ H Q=>t σ H fun xs H1=>xs.length<=sizeLine/\ ∀p,H1 p=none->Q (.ref p) (upd H1 p (.tup xs))
noncomputable def tLst (t:TA):TE:=fun σ H Q=>t σ H fun xs H1=>xs.length<=sizeLine/\ ∀p,H1 p=none->Q (.ref p) (upd H1 p (.lst xs))
theorem oI {x1} (h:PA X es t):PE X (.Tuple es x1 pos) (tTup t):=by
 intro pins s σ H Q I hq
 refine wpAny_Tuple_spliced (thn (h pos pins s σ H _ I hq) fun us s1 ⟨xs,H1,I1,r,z,q⟩=>⟨by rw [<-r.length];exact z,?_⟩)
 have hf:H1 s1.heap.objs.size=none:=I1.hok.fresh (Nat.le_refl _)
 refine ⟨.ref s1.heap.objs.size,upd H1 s1.heap.objs.size (.tup xs),I1.laid (t':=s1.toks) (fun b u e=>Heap.get?_push_of_some _ e) (Nat.le_refl _) ?_,rfl,q _ hf⟩
 exact ⟨z,us,r,⟨_,Heap.get?_push_size _ rfl,rfl,⟨_,rfl⟩,rfl⟩⟩
theorem jw (h:PA X es t):PE X (.List es pos) (tLst t):=by
 intro pins s σ H Q I hq
 refine wpAny_List_spliced (thn (h pos pins s σ H _ I hq) fun us s1 ⟨xs,H1,I1,r,z,q⟩=>⟨by rw [<-r.length];exact z,?_⟩)
 have hf:H1 s1.heap.objs.size=none:=I1.hok.fresh (Nat.le_refl _)
 refine ⟨.ref s1.heap.objs.size,upd H1 s1.heap.objs.size (.lst xs),I1.laid (t':=s1.toks) (fun b u e=>Heap.get?_push_of_some _ e) (Nat.le_refl _) ?_,rfl,q _ hf⟩
 exact ⟨z,us,0,r,Heap.get?_push_size _ rfl⟩
end
noncomputable abbrev Sp:=List V->Hp->VK->XK->Prop
noncomputable abbrev CXT:=List Env->Hp->Shared->XK->Value->Shared->Prop
structure Env0 (P:Program) (w:World) (K:PySem.W.Frag) (mg:Str->Option Value) (base:Heap) (A:Around) (outer:List Env) (s:Shared) (H:Hp):Prop where
 frames:A.frames=some outer
 mod:Mod K mg base
 bs: ∀b o,base.get? b=some o->s.heap.get? b=some o/\H b=none
 bsz:base.objs.size<=s.heap.objs.size
 funs:s.heap.FunFrames base outer
 frf: ∀b∈frs outer,H b=none
 hok:HOk P w H s.heap
 bare:AllBare s.gens
noncomputable def CE (outer:List Env) (P:Program) (w:World) (H:Hp) (s:Shared) (Q:VK) (u:Value) (s':Shared):Prop:=
 ∃v H',s'.os=s.os/\AllBare s'.gens/\Un (frs outer) [] H H' s.heap s'.heap/\HOk P w H' s'.heap/\RelV v u/\Q v H'
noncomputable def CR (CX:CXT) (outer:List Env) (P:Program) (w:World) (H:Hp) (s:Shared) (Q:VK) (E:XK) (r:Result) (s':Shared):Prop:=
 match r with
 | .ok (.ret u)=>CE outer P w H s Q u s'
 | .ok _=>False
 | .error e=>CX outer H s E e s'
structure FnOk (P:Program) (w:World) (K:PySem.W.Frag) (mg:Str->Option Value) (base:Heap) (CX:CXT) (k:Nat) (f:Addr) (fd:FuncData) (ps:List Str) (sp:Sp):Prop where
 len: ∀vs H Q E,sp vs H Q E->vs.length=ps.length
 run: ∀(A:Around) (outer:List Env) (s:Shared) (H:Hp) (args:Args) (us:List Value) (vs:List V) (Q:VK) (E:XK),Room k A->Env0 P w K mg base A outer s H->BindsTo s fd args (ps.zip us)->Vals vs us->sp vs H Q E->
  codeAny (model P w) A (.call (.ref f) args) (CR CX outer P w H s Q E) s
section
variable {X:Cx}{pins:List (Addr×Obj)}{σ:St}{H:Hp}{s s':Shared}
theorem Inv.env0 (I:Inv X pins σ H s):Env0 X.prog X.w X.K X.mg X.base X.A X.stack s H:=
 ⟨I.ok.frames,I.ok.mod,I.bs,Nat.le_trans I.ok.bsz I.sz,I.stack,I.stkFree,I.hok,I.bare⟩
theorem Inv.after {Q:VK}{u:Value} (I:Inv X pins σ H s) (h:CE X.stack X.prog X.w H s Q u s'):EP X pins σ Q u s':=by
 obtain ⟨v,H',os,bare,un,hok,r,q⟩:=h
 obtain ⟨hh,g,d,t,os'⟩:=s'
 obtain rfl:os'=s.os:=os
 exact ⟨v,H',I.call (h':=hh) (g':=g) (d':=d) (t':=t) (ch:=[]) un hok bare (fun b z=>absurd z (by simp)),r,q⟩
end
noncomputable def gK (sp:Sp) (dvs:List V) (E:XK) (t:TA):TE:=fun σ H Q=>t σ H fun vs H1=>sp (vs++dvs) H1 Q E
noncomputable def dm (K:PySem.W.Frag) (fd:FuncData) (ps:List Str) (ds:List Value):Prop:=
 ∀(s:Shared) (us:List Value),K.In s.heap->(us++ds).length=ps.length->BindsTo s fd ⟨us,[]⟩ (ps.zip (us++ds))
theorem dm.all {K:PySem.W.Frag}{fd:FuncData}{ps:List Str} (h: ∀us:List Value,us.length=ps.length->bindArgs fd ⟨us,[]⟩=pure (ps.zip us)):dm K fd ps []:=fun s us _ hl=>by
 rw [List.append_nil] at hl|-
 exact .of_eq (h us hl)
noncomputable def gL (CX:CXT) (X:Cx) (E:XK):Prop:= ∀(pins:List (Addr×Obj)) (σ:St) (H:Hp) (s:Shared) (e:Value) (s':Shared),Inv X pins σ H s->CX X.stack H s E e s'->X.xe e s'
section
variable {X:Cx}{CX:CXT}{k:Nat}{f C:Addr}{fd:FuncData}{ps:List Str}{sp:Sp}{dvs:List V}{ds:List Value}{E:XK}{x m:Str}{p pos apos:Pos}{e o:Expr}{es:List Expr}{ta:TE}{t:TA}
theorem oJ {pins:List (Addr×Obj)}{σ:St}{H:Hp}{s:Shared}{Q:VK}{us:List Value}{vs:List V} (F:FnOk X.prog X.w X.K X.mg X.base CX k f fd ps sp) (hr:Room k X.A) (hb:dm X.K fd ps ds) (hd:Vals dvs ds) (hx:gL CX X E)
  (I:Inv X pins σ H s) (r:Vals vs us) (h:sp (vs++dvs) H Q E):wpAny (model X.prog X.w) X.A (call (.ref f) us) (EP X pins σ Q) X.xe s:=by
 have r2:Vals (vs++dvs) (us++ds):=r.append hd
 have hl:(us++ds).length=ps.length:=by rw [<-r2.length];exact F.len _ _ _ _ h
 refine wpAny_call (codeAny_mono (F.run X.A X.stack s H ⟨us,[]⟩ (us++ds) (vs++dvs) Q E hr I.env0 (hb s us I.kIn hl) r2 h) fun r s' hq=> ?_)
 cases r with
 |error e=>exact hx pins σ H s e s' I hq
 |ok fl=>
  cases fl with
  |ret u=>exact I.after hq
  |next=>exact False.elim hq
  |brk=>exact False.elim hq
  |cont=>exact False.elim hq
theorem oK (F:FnOk X.prog X.w X.K X.mg X.base CX k f fd ps sp) (hr:Room k X.A) (hg:Gl X x) (hm:X.mg x=some (.ref f)) (hk:PySem.W.keepIn X.K (.ref f)=true) (hb:dm X.K fd ps ds) (hd:Vals dvs ds) (hx:gL CX X E)
  (ha:PA X (e::es) t) (hdb:(x==("__debug__":Str))=false:=by decide) (he:starEach (e::es) X.env=(false,eval e X.env)::starEach es X.env:=by rfl) (hpl:(backTo pos (starEach es X.env)).any (·.1)=false:=by rfl):
  PE X (.Call (.Name x p) (e::es) [] pos) (gK sp dvs E t):=by
 intro pins s σ H Q I h
 refine wpAny_Call_Name_kw (jp I hg hm ?_ hdb)
 refine PySem.W.callWith_K (h₀:=X.base) I.ok.mod.kin hk (thn (ha pos pins s σ H _ I h) fun us s1 ⟨vs,H1,I1,r,q⟩=>⟨I1.kIn,?_⟩) he hpl
 exact oJ F hr hb hd hx I1 r q
end
section
variable {X:Cx}{CX:CXT}{k:Nat}{f C:Addr}{fd:FuncData}{ps ks:List Str}{sp:Sp}{E:XK}{x m:Str}{p pos apos kpos:Pos}{e o:Expr}{es:List Expr}{kws:List Keyword}{te ta:TE}{t tk:TA}{nm:Option Str}
variable {g:List Value->List Value->List Value}{gV:List V->List V->List V}
end
structure aW (N P:List Str) (sc:Scope):Prop where
 kind:sc.kind= .function
 co:sc.isCoroutine=false
 gen:sc.isGenerator=false
 nd:N.Nodup
 pre:N.take P.length=P
 par: ∀x∈P,sc.names.lookup x=some .local \/sc.names.lookup x=some .cell
 nofree: ∀y∈sc.names,y.2≠ .free
theorem jy {kindOf:Str->Option NameKind}{x:Str}: ∀{binds:List (Str×Value)}{m:Str->Option Value},(∀v,(x,v)∉binds)->bindL kindOf binds m x=m x
 |[],_,_=>rfl
 |(n,v)::r,m,h=>by
  unfold bindL
  rw [jy fun w hw=>h w (List.mem_cons_of_mem _ hw)]
  split
  ·have:x≠n:=by rintro rfl;exact h v List.mem_cons_self
   simp [this]
  ·rfl
theorem jz {kindOf:Str->Option NameKind}{x:Str}: ∀{binds:List (Str×Value)}{m:Str->Option Value},(∀v,(x,v)∉binds)->bindC kindOf binds m x=m x
 |[],_,_=>rfl
 |(n,v)::r,m,h=>by
  unfold bindC
  rw [jz fun w hw=>h w (List.mem_cons_of_mem _ hw)]
  split
  ·rfl
  ·have:x≠n:=by rintro rfl;exact h v List.mem_cons_self
   simp [this]
theorem jA {kindOf:Str->Option NameKind}{x:Str}{v:Value}: ∀{P:List Str}{vs:List Value}{i:Nat}{m:Str->Option Value},P.Nodup->P[i]?=some x->vs[i]?=some v->kindOf x=some .local->
  bindL kindOf (P.zip vs) m x=some v
 |[],_,_,_,_,h,_,_=>by simp at h
 |_::_,[],_,_,_,_,h,_=>by simp at h
 |p::P,w::vs,0,m,nd,h1,h2,hk=>by
  simp at h1 h2;subst h1;subst h2
  show bindL kindOf ((p,w)::P.zip vs) m p=_
  unfold bindL
  rw [jy fun v hv=>(List.nodup_cons.mp nd).1 (List.of_mem_zip hv).1,if_pos hk]
  simp
 |p::P,w::vs,i+1,m,nd,h1,h2,hk=>by
  show bindL kindOf ((p,w)::P.zip vs) m x=_
  unfold bindL
  exact jA (i:=i) (List.nodup_cons.mp nd).2 (by simpa using h1) (by simpa using h2) hk
theorem jB {kindOf:Str->Option NameKind}{x:Str}{v:Value}: ∀{P:List Str}{vs:List Value}{i:Nat}{m:Str->Option Value},P.Nodup->P[i]?=some x->vs[i]?=some v->kindOf x≠some .local->
  bindC kindOf (P.zip vs) m x=some v
 |[],_,_,_,_,h,_,_=>by simp at h
 |_::_,[],_,_,_,_,h,_=>by simp at h
 |p::P,w::vs,0,m,nd,h1,h2,hk=>by
  simp at h1 h2;subst h1;subst h2
  show bindC kindOf ((p,w)::P.zip vs) m p=_
  unfold bindC
  rw [jz fun v hv=>(List.nodup_cons.mp nd).1 (List.of_mem_zip hv).1,if_neg hk]
  simp
 |p::P,w::vs,i+1,m,nd,h1,h2,hk=>by
  show bindC kindOf ((p,w)::P.zip vs) m x=_
  unfold bindC
  exact jB (i:=i) (List.nodup_cons.mp nd).2 (by simpa using h1) (by simpa using h2) hk
noncomputable def br (N:List Str) (vs:List V):St:=vs.map some++List.replicate (N.length-vs.length) none
noncomputable def cxOf (CX:CXT) (P:Program) (w:World) (K:PySem.W.Frag) (mg:Str->Option Value) (base:Heap) (N:List Str) (qual:Str) (scope:Scope) (f:Addr) (cd:Value) (A:Around) (outer:List Env) (s:Shared) (H:Hp) (E:XK):Cx where
 prog:=P
 w:=w
 K:=K
 mg:=mg
 base:=base
 A:=A.deeper (envOfC qual scope s.heap.objs.size f cd)
 N:=N
 s₀:=s
 H₀:=H
 env:=envOfC qual scope s.heap.objs.size f cd
 outer:=outer
 stack:=envOfC qual scope s.heap.objs.size f cd::outer
 ex:=[]
 calm:=true
 fn:=fun _=>true
 pn:=[]
 xe:=fun e s'=>wpAny (model P w) (A.deeper (envOfC qual scope s.heap.objs.size f cd)) (leaving (envOfC qual scope s.heap.objs.size f cd) e) (fun _ s''=>CX outer H s E e s'') (fun e' s''=>CX outer H s E e' s'') s'
theorem jC {sc:Scope}{n:Nat}{x:Str} (h:sc.names.lookup x=some .cell): ∃c,(cellsFrom n sc.names []).lookup x=some c:=by
 have q:=PySem.W.cellsFrom_some sc.names n [] (.inl h)
 exact Option.isSome_iff_exists.mp q
theorem oM {CX:CXT}{P:Program}{w:World}{K:PySem.W.Frag}{mg:Str->Option Value}{base:Heap}{N ps:List Str}{qual:Str}{scope:Scope}{f:Addr}{cd:Value}{A:Around}{outer:List Env}{s s1:Shared}{H:Hp}{E:XK}{us:List Value}{vs:List V}
  (S:aW N ps scope) (hd:A.handled=none) (e0:Env0 P w K mg base A outer s H) (hl:vs.length=ps.length) (r:Vals vs us)
  (x:InCallC s s.heap.objs.size (bindL (envOfC qual scope s.heap.objs.size f cd).kindOf (ps.zip us) fun _=>none) (cellsFrom (s.heap.objs.size+1) scope.names []) (bindC (envOfC qual scope s.heap.objs.size f cd).kindOf (ps.zip us) fun _=>none) s1):
  Inv (cxOf CX P w K mg base N qual scope f cd A outer s H E) [] (br N vs) H s1:=by
 have hpl:ps.length<=N.length:=by have:=congrArg List.length S.pre;rw [List.length_take] at this;lia
 obtain ⟨h1,tk,rfl,hk⟩:=x.done
 have noA: ∀b:Addr,b∉(cxOf CX P w K mg base N qual scope f cd A outer s H E).ex:=fun b z=>absurd (show b∈([]:List Addr) from z) (by simp)
 refine ⟨⟨e0.mod,S.kind,rfl,rfl,Nat.le_refl _,fun y z c h1 h2=> ?_,fun y hy=> ?_,fun y c _ h=> ?_,fun _=>hd,Around.frames_deeper e0.frames,.inr ⟨rfl,rfl⟩,fun b z=>absurd z (noA b),e0.bs,e0.bsz,fun b _ _=>noA b,fun b z=>absurd z (noA b),e0.funs,e0.frf⟩,
  rfl,e0.bare,Un.kept hk,⟨_,x.toInCall.ns,fun i y v h1 h2 h3=> ?_⟩,fun y c h=>⟨_,x.cell y c h⟩,e0.hok.fresh (Nat.le_refl _),fun y c h=> ?_,fun p hp=>absurd (show p∈([]:List (Addr×Obj)) from hp) (by simp),e0.hok.kept hk,?_⟩
 ·exact name_of_addr x.apart (PySem.mem_of_lookup h1) (PySem.mem_of_lookup h2)
 ·have hy:scope.names.lookup y=some .cell \/scope.names.lookup y=some .free:=hy
  rcases hy with hy|hy
  ·exact jC hy
  ·exact absurd rfl (S.nofree _ (PySem.mem_of_lookup hy))
 ·exact Nat.le_of_lt (x.above y c (PySem.mem_of_lookup h))
 ·have hi:i<vs.length:=by
   unfold br at h2
   by_cases hi:i<vs.length
   ·exact hi
   ·rw [List.getElem?_append_right (by simpa using hi)] at h2
    rw [List.getElem?_replicate] at h2
    split at h2<;>cases h2
  have ha:vs[i]?=some v:=by
   unfold br at h2
   rw [List.getElem?_append_left (by simpa using hi),List.getElem?_map] at h2
   cases e:vs[i]? with
   |none=>rw [e] at h2;cases h2
   |some a=>rw [e] at h2;cases h2;rfl
  obtain ⟨u,hu,rv⟩:=r.get ha
  have hp:ps[i]?=some y:=by
   rw [<-S.pre,List.getElem?_take_of_lt (by lia)];exact h1
  have ndP:ps.Nodup:=by rw [<-S.pre];exact S.nd.sublist (List.take_sublist _ _)
  refine ⟨u,rv,?_⟩
  rcases S.par y (List.mem_of_getElem? hp) with k|k
  ·exact .inl ⟨k,jA ndP hp hu k⟩
  ·obtain ⟨c,e⟩:=jC (n:=s.heap.objs.size+1) k
   refine .inr ⟨.inl k,c,e,?_⟩
   have q:=x.cell y c e
   rw [jB ndP hp hu (by show scope.names.lookup y≠_;rw [k];decide)] at q
   exact q
 ·exact e0.hok.fresh (Nat.le_of_lt (x.above y c (PySem.mem_of_lookup h)))
 ·unfold br
  show _=N.length
  rw [List.length_append,List.length_map,List.length_replicate]
  lia
theorem oN {CX:CXT}{P:Program}{w:World}{K:PySem.W.Frag}{mg:Str->Option Value}{base:Heap}{k:Nat}{f:Addr}{name qual:Str}{params:Arguments}{body:List Stmt}{scope:Scope}{dV kV doc pm cdv ct oc:Value}{an od:Option Addr}
  {osl:Array (Option Value)}{N ps:List Str}{sp:Sp} (lk:K.lookup f=some ⟨oc,od,.func (PySem.W.fnOf name qual params body scope dV kV doc pm an cdv ct),osl⟩) (hcd:PySem.W.codeIn K cdv qual=true) (S:aW N ps scope)
  (len: ∀vs H Q E,sp vs H Q E->vs.length=ps.length)
  (hbody: ∀(A:Around) (outer:List Env) (s:Shared) (H:Hp) (vs:List V) (Q:VK) (E:XK),Room k (A.deeper (envOfC qual scope s.heap.objs.size f cdv))->sp vs H Q E->
   ∃t,PSs (cxOf CX P w K mg base N qual scope f cdv A outer s H E) body t/\t {nx:=fun _ H'=>Q .non H',rt:=Q} (br N vs) H):
  FnOk P w K mg base CX (k+1) f (PySem.W.fnOf name qual params body scope dV kV doc pm an cdv ct) ps sp:=by
 refine ⟨len,fun A outer s H args us vs Q E hr e0 hb r hsp=> ?_⟩
 have hl:=len _ _ _ _ hsp
 have KX:K.In s.heap:=e0.mod.kin.keeps fun b o e=>(e0.bs b o e).1
 have lim:s.heap.NoLimit:=e0.mod.nolimit.keeps fun b o e=>(e0.bs b o e).1
 have hkind: ∀y∈ps.zip us,scope.names.lookup y.1=some .local \/(scope.names.lookup y.1=some .cell/\((cellsFrom (s.heap.objs.size+1) scope.names []).lookup y.1).isSome=true):=fun ⟨n,v⟩ hy=>by
  rcases S.par n (List.of_mem_zip hy).1 with q|q
  ·exact .inl q
  ·exact .inr ⟨q,PySem.W.cellsFrom_some _ _ _ (.inl q)⟩
 refine codeAny_call_function hr.depth (KX _ _ lk) rfl S.co S.gen rfl (PySem.W.codeRec_of KX hcd) (hb _ _ _ _ ?_)
 refine wpAny_newFunctionEnv_cells S.kind hkind fun env he s1 x=> ?_
 subst he
 refine ⟨lim.keeps x.toInCall.keep,codeAny_func ?_⟩
 obtain ⟨t,ht,hq⟩:=hbody A outer s H vs Q E (hr.deeper _) hsp
 have I:Inv (cxOf CX P w K mg base N qual scope f cdv A outer s H E) [] (br N vs) H s1:=oM S hr.hd e0 hl r x
 refine wpAny_mono (ht [] s1 (br N vs) H _ I hq) (fun fl s' hs=> ?_) fun e s' hs=>hs
 have fin: ∀{σ':St}{H':Hp}{v:V}{u:Value},Inv (cxOf CX P w K mg base N qual scope f cdv A outer s H E) [] σ' H' s'->RelV v u->Q v H'->CE outer P w H s Q u s':=
  fun {σ' H' v u} J rv q=>⟨v,H',J.os,J.bare,J.base,J.hok,rv,q⟩
 cases fl with
 |ret u=>
  obtain ⟨v,σ',H',J,rv,q⟩:=hs
  exact fin J rv q
 |next=>
  obtain ⟨σ',H',J,q⟩:=hs
  exact fin (v:=V.non) (u:=Value.none) J rfl q
 |brk=>
  obtain ⟨_,_,_,q⟩:=hs
  exact False.elim q
 |cont=>
  obtain ⟨_,_,_,q⟩:=hs
  exact False.elim q
end L2
namespace L2
open PySem PySem.Spec PyProof.Rows
section
variable {X:Cx}{x:Str}{p pos:Pos}{e:Expr}{es:List Expr}{t:TA}{id T:String}{r:List V->Hp->VK->Prop}
noncomputable def tCB (r:List V->Hp->VK->Prop) (t:TA):TE:=fun σ H Q=>t σ H fun vs H1=>r vs H1 Q
theorem jD (hc:bj X (.builtin id) r) (hg:Gl X x) (hm:X.mg x=none) (hv:bootBuiltins x=some (.builtin id)) (ha:PA X (e::es) t) (hn:x≠"__name__":=by decide) (hdb:(x==("__debug__":Str))=false:=by decide)
  (he:starEach (e::es) X.env=(false,eval e X.env)::starEach es X.env:=by rfl) (hpl:(backTo pos (starEach es X.env)).any (·.1)=false:=by rfl):PE X (.Call (.Name x p) (e::es) [] pos) (tCB r t):=by
 intro pins s σ H Q I h
 refine wpAny_Call_Name_kw (eI I hg hm hv ?_ hn hdb)
 exact PyProof.Rows.callWith_builtin1 (thn (ha pos pins s σ H _ I h) fun us s1 ⟨vs,H1,I1,r1,q1⟩=>hc pins s1 σ H1 vs us Q I1 r1 q1) he hpl
theorem jE (hc:bj X (.type T) r) (hg:Gl X x) (hm:X.mg x=none) (hv:bootBuiltins x=some (.type T)) (ha:PA X (e::es) t) (hn:x≠"__name__":=by decide) (hdb:(x==("__debug__":Str))=false:=by decide)
  (he:starEach (e::es) X.env=(false,eval e X.env)::starEach es X.env:=by rfl) (hpl:(backTo pos (starEach es X.env)).any (·.1)=false:=by rfl):PE X (.Call (.Name x p) (e::es) [] pos) (tCB r t):=by
 intro pins s σ H Q I h
 refine wpAny_Call_Name_kw (eI I hg hm hv ?_ hn hdb)
 exact PyProof.Rows.callWith_type1 (thn (ha pos pins s σ H _ I h) fun us s1 ⟨vs,H1,I1,r1,q1⟩=>hc pins s1 σ H1 vs us Q I1 r1 q1) he hpl
end
end L2
namespace HT
open PySem PyProof.Rows
noncomputable def ap:List Int->List Int->Bool
 |[],[]=>false
 |[],_::_=>true
 |_::_,[]=>false
 |x::xs,y::ys=>if x=y then ap xs ys else decide (x<y)
theorem cp (x y:Int) (xs ys:List Int):ap (x::xs) (y::ys)=if x=y then ap xs ys else decide (x<y):=rfl
theorem oO:ap [] []=false:=rfl
theorem jF (y:Int) (ys:List Int):ap [] (y::ys)=true:=rfl
theorem jG (x:Int) (xs:List Int):ap (x::xs) []=false:=rfl
theorem oP (A:Around) (s:Shared) (a:Int) (t:Tok) (c:Int) (u:Tok): ∃e,SeqAt.EqAt A s (.int a t) (.int c u) e/\(e=true↔a=c):=
 ⟨(a==c),SeqAt.EqAt.int_int a t c u,by simp⟩
theorem oQ (A:Around) (s:Shared) (a:Int) (t:Tok) (c:Int) (u:Tok) (prog:Program) (w:World) (E:Value->Shared->Prop) (Q:Value->Shared->Prop) (h:Q (.bool (decide (a<c))) s):
  wpAny (model prog w) A (richCompare .Lt (.int a t) (.int c u)) Q E s:=
 (PyProof.Rows.lt_int h:wpAny (model prog w) A (compareOp .Lt (.int a t) (.int c u)) Q E s)
section
open PySem.SeqAt
open PySem.AutoSeq1 (wpAny_loadPart')
open PySem.MeetsSeq PySem.MeetsSeq2 PySem.MeetsSeq3
theorem oR (l b:Addr) (items items2:Array Value) (n n2:Nat) (dd dd2:Option Addr) (sl sl2:Array (Option Value)) (ns ms:List Int) (hi:IntsAre items.toList ns) (hj:IntsAre items2.toList ms):
  Meets (Builtin.«tuple.__lt__» ⟨[.ref l,.ref b],[]⟩)
   (fun _ R s=>s.heap.get? l=some {cls:= .type "tuple",dict:=dd,data:= .seq items n,slots:=sl}/\s.heap.get? b=some {cls:= .type "tuple",dict:=dd2,data:= .seq items2 n2,slots:=sl2}/\
    R (.ok (.ret (.bool (ap ns ms)))) s):=
 .of_wp fun prog w A R s h=>by
  obtain ⟨hp,g,d,tk,os⟩:=s;obtain ⟨hl,hb,h⟩:=h
  have f2:=AutoSeq1.sub_tuple_tuple
  have z1:items.size=ns.length:=by rw [<-hi.length];simp
  have z2:items2.size=ms.length:=by rw [<-hj.length];simp
  wp_walk using wpAny_loadPart' hl,wpAny_loadPart' hb,wpAny_forIn_list _ (fun rest b s'=>b.1=none/\s'=⟨hp,g,d,tk,os⟩/\ ∃(vs ws:List Value) (ns' ms':List Int),rest=vs.zip ws/\
   IntsAre vs ns'/\IntsAre ws ms'/\ns'.length+items2.size=ms'.length+items.size/\R (.ok (.ret (.bool (ap ns' ms')))) ⟨hp,g,d,tk,os⟩) _
  case turn=>
   rintro ⟨y,x⟩ rest b s' ⟨hb',rfl,vs,ws,ns',ms',hz,hvi,hwi,hlen,hR⟩
   cases hvi with
   |nil=>rw [List.zip_nil_left] at hz;cases hz
   |cons a t hvi'=>
    cases hwi with
    |nil=>rw [List.zip_nil_right] at hz;cases hz
    |cons c u hwi'=>
     rw [List.zip_cons_cons] at hz
     injection hz with hyx hrest
     injection hyx with hy hx
     subst hy hx
     rw [cp] at hR
     simp only [List.length_cons] at hlen
     obtain ⟨e,he,hiff⟩:=oP A.in1 ⟨hp,g,d,tk,os⟩ a t c u
     refine wpAny_bind (he prog w _ _ ?_)
     cases e with
     |true=>
      rw [if_pos (hiff.mp rfl)] at hR
      wp_walk
      exact ⟨rfl,rfl,_,_,_,_,hrest,hvi',hwi',by lia,hR⟩
     |false=>
      rw [if_neg (fun q=>absurd (hiff.mpr q) Bool.false_ne_true)] at hR
      have hri:=oQ A.in1 ⟨hp,g,d,tk,os⟩ a t c u prog w
      wp_walk using hri
      exact ⟨_,rfl,by simpa using hR⟩
  case fin=>
   rintro ⟨b1,b2⟩ s' ⟨hb',rfl,vs,ws,ns',ms',hz,hvi,hwi,hlen,hR⟩
   simp only at hb'
   subst hb'
   have hv:ap ns' ms'=decide (items.size<items2.size):=by
    cases hvi with
    |nil=>
     cases hwi with
     |nil=>
      simp only [List.length_nil] at hlen
      rw [oO]
      exact (decide_eq_false (by lia)).symm
     |cons c u hw=>
      simp only [List.length_nil,List.length_cons] at hlen
      rw [jF]
      exact (decide_eq_true (by lia)).symm
    |cons a t hv=>
     cases hwi with
     |nil=>
      simp only [List.length_nil,List.length_cons] at hlen
      rw [jG]
      exact (decide_eq_false (by lia)).symm
     |cons c u hw=>
      rw [List.zip_cons_cons] at hz
      cases hz
   rw [hv] at hR
   wp_walk
   exact ⟨_,rfl,by simpa [Builtin.Tuple.tupleCompareSizes] using hR⟩
  case h=>
   exact ⟨rfl,rfl,items.toList,items2.toList,ns,ms,rfl,hi,hj,by lia,h⟩
end
section
variable {prog:Program}{w:World}{A:Around}{E:Value->Shared->Prop}{s:Shared}
theorem oS {l b:Addr}{items items2:Array Value}{ns ms:List Int}{Q:Value->Shared->Prop} (hl:IsTup s.heap l items) (hb:IsTup s.heap b items2) (hi:IntsAre items.toList ns) (hj:IntsAre items2.toList ms)
  (hu:A.units<cLine) (h:Q (.bool (ap ns ms)) s):wpAny (model prog w) A (compareOp .Lt (.ref l) (.ref b)) Q E s:=by
 obtain ⟨⟨cls,dd,data,sl⟩,ho,hc,n,hd⟩:=id hl
 obtain ⟨⟨cls2,dd2,data2,sl2⟩,ho2,hc2,n2,hd2⟩:=id hb
 simp only at hc hd hc2 hd2
 subst hc hd hc2 hd2
 exact richCompare_meets_room (op:= .Lt) ⟨_,ho,rfl⟩ ⟨_,ho2,rfl⟩ PySem.F.slot_tuple_lt PySem.F.entry_tuple_lt (PySem.F.args_tuple_lt_2 _ _) (oR l b items items2 n n2 dd dd2 sl sl2 ns ms hi hj)
  ⟨ho,ho2,show Value.bool (ap ns ms)≠Value.notImplemented/\Q (.bool (ap ns ms)) s from ⟨(fun x=>nomatch x),h⟩⟩ hu
theorem oT {t b:Addr}{vs ws:List Value}{Q:Value->Shared->Prop} (ht:IsTup s.heap t vs.toArray) (hb:IsTup s.heap b ws.toArray) (hv:vs≠[])
  (h1:ws=[]->Q (.ref t) s) (h2:ws≠[]->Q (.ref s.heap.objs.size) {s with heap:=s.heap.push {cls:= .type "tuple",data:= .seq (vs++ws).toArray}})
  (hsz:vs.length+ws.length<=sizeLine):wpAny (model prog w) A (binaryOp .Add (.ref t) (.ref b)) Q E s:=by
 obtain ⟨⟨cls,dd,data,sl⟩,ho,hc,n,hd⟩:=id ht
 obtain ⟨⟨cls2,dd2,data2,sl2⟩,ho2,hc2,n2,hd2⟩:=id hb
 simp only at hc hd hc2 hd2
 subst hc hd hc2 hd2
 have e:vs.toArray++ws.toArray=(vs++ws).toArray:=by simp
 by_cases hw:ws=[]
 ·exact concat_meets ⟨_,ho,rfl⟩ ⟨_,ho2,rfl⟩ noFill_tuple_add seq_tuple_add PySem.F.slot_tuple_add PySem.F.entry_tuple_add (PySem.F.args_tuple_add_2 _ _)
   (tuple_addW1 t b vs.toArray ws.toArray n n2 dd dd2 sl sl2 (by simpa using hv) (by simp [hw])) ⟨ho,ho2,h1 hw⟩
 ·refine concat_meets ⟨_,ho,rfl⟩ ⟨_,ho2,rfl⟩ noFill_tuple_add seq_tuple_add PySem.F.slot_tuple_add PySem.F.entry_tuple_add (PySem.F.args_tuple_add_2 _ _)
   (tuple_addW2 t b vs.toArray ws.toArray n n2 dd dd2 sl sl2 (by simpa using hv) (by simpa using hw) (by rw [List.size_toArray,List.size_toArray];exact hsz)) ⟨ho,ho2,?_⟩
  rw [e]
  exact h2 hw
noncomputable def sIx (n d:Nat):Option Int->Nat
 |none=>d
 |some v=>if v<0 then (v+(n:Int)).toNat else min v.toNat n
theorem jH (n d:Nat):sIx n d none=d:=rfl
theorem jI (n d k:Nat):sIx n d (some (k:Int))=min k n:=by
 show (if (k:Int)<0 then ((k:Int)+(n:Int)).toNat else min (k:Int).toNat n)=min k n
 rw [if_neg (by lia),Int.toNat_natCast]
theorem oU (n d:Nat) (hd:d<=n) (o:Option Int):sIx n d o<=n:=by
 cases o with
 |none=>exact hd
 |some v=>
  show (if v<0 then (v+(n:Int)).toNat else min v.toNat n)<=n
  by_cases hv:v<0
  ·rw [if_pos hv];lia
  ·rw [if_neg hv];exact Nat.min_le_right _ _
theorem jJ (v:Int) (n d:Nat):(if v<0 then max (v+(n:Int)) 0 else min v (n:Int))=((sIx n d (some v):Nat):Int):=by
 show (if v<0 then max (v+(n:Int)) 0 else min v (n:Int))=(((if v<0 then (v+(n:Int)).toNat else min v.toNat n):Nat):Int)
 by_cases hv:v<0
 ·simp only [if_pos hv];lia
 ·simp only [if_neg hv];lia
theorem oV (lo hi:Option Int) (n:Nat):Builtin.Slice.sliceAdjust lo hi 1 (n:Int)=(((sIx n 0 lo:Nat):Int),((sIx n n hi:Nat):Int)):=by
 have h1: ¬((1:Int)<0):=by lia
 unfold Builtin.Slice.sliceAdjust
 simp only [h1,if_false]
 refine Prod.ext ?_ ?_
 ·cases lo with
  |none=>rfl
  |some v=>exact jJ v n 0
 ·cases hi with
  |none=>rfl
  |some v=>exact jJ v n n
theorem oW (i j:Nat):Builtin.Slice.slicePlaces (i:Int) (j:Int) 1=j-i:=by
 unfold Builtin.Slice.slicePlaces
 have h1:(1:Int)>0:=by lia
 simp only [h1,if_true,Int.ediv_one]
 split<;>lia
theorem jK {v:Value}{o:Option Int}{Q:Option Int->Shared->Prop} (p:IsPart v o) (h:Q o s):wpAny (model prog w) A (Builtin.Slice.slicePartIndex v) Q E s:=by
 cases p with
 |none=>exact slicePart_none h
 |int i t=>exact slicePart_int h
theorem jL {sl:Addr}{vl vu:Value}{lo hi:Option Int}{n:Nat}{Q:Int×Int×Nat->Shared->Prop} (hs:s.heap.IsSliceOf sl vl vu .none) (pl:IsPart vl lo) (pu:IsPart vu hi)
  (h:Q (((sIx n 0 lo:Nat):Int),1,sIx n n hi-sIx n 0 lo) s):wpAny (model prog w) A (Builtin.Slice.sliceApplied (.ref sl) (pure (n:Int))) Q E s:=by
 obtain ⟨os,hos,hcs,hds⟩:=id hs
 unfold Builtin.Slice.sliceApplied Builtin.Slice.sliceFields
 refine wpAny_bind (wpAny_bind (wpAny_field hos hds (x:=vl) rfl (wpAny_bind (wpAny_field hos hds (x:=vu) rfl (wpAny_bind (wpAny_field hos hds (x:= .none) rfl (wpAny_pure ?_)))))))
 refine wpAny_bind (slicePart_none ?_)
 show wpAny _ _ (if ((1:Int)==0)=true then _ else _) _ _ s
 rw [if_neg (by decide)]
 refine wpAny_bind (jK pl (wpAny_bind (jK pu (wpAny_bind (wpAny_pure ?_)))))
 show wpAny _ _ (match Builtin.Slice.sliceAdjust lo hi 1 (n:Int) with|(lo,hi)=>pure (lo,(1:Int),Builtin.Slice.slicePlaces lo hi 1)) _ _ s
 rw [oV lo hi n]
 show wpAny _ _ (pure (((sIx n 0 lo:Nat):Int),(1:Int),Builtin.Slice.slicePlaces ((sIx n 0 lo:Nat):Int) ((sIx n n hi:Nat):Int) 1)) _ _ s
 rw [oW]
 exact wpAny_pure h
theorem oX (xs:Array Value) (i k:Nat):((List.range k).filterMap fun (m:Nat)=>xs[((i:Int)+(m:Int)*1).toNat]?).toArray=((xs.toList.drop i).take k).toArray:=by
 have e:(fun (m:Nat)=>xs[((i:Int)+(m:Int)*1).toNat]?)=fun m=>xs[i+m]?:=by
  funext m
  have:((i:Int)+(m:Int)*1).toNat=i+m:=by lia
  rw [this]
 rw [e]
 have:=pick_run xs i k
 rw [List.filterMap_map] at this
 have e2:((fun x=>xs[x]?)∘fun x=>i+x)=fun m=>xs[i+m]?:=rfl
 rw [e2] at this
 rw [this]
theorem oY {t sl:Addr}{items:Array Value}{vl vu:Value}{lo hi:Option Int}{Q:Value->Shared->Prop} (ht:IsTup s.heap t items) (hs:s.heap.IsSliceOf sl vl vu .none) (pl:IsPart vl lo) (pu:IsPart vu hi)
  (hw: ¬(sIx items.size 0 lo=0/\sIx items.size items.size hi=items.size))
  (h:Q (.ref s.heap.objs.size) {s with heap:=s.heap.push {cls:= .type "tuple",data:= .seq ((items.toList.drop (sIx items.size 0 lo)).take (sIx items.size items.size hi-sIx items.size 0 lo)).toArray}})
  (hsz:items.size<=sizeLine):wpAny (model prog w) A (getItem (.ref t) (.ref sl)) Q E s:=by
 have htake:sizeOk (.seq ((items.toList.drop (sIx items.size 0 lo)).take (sIx items.size items.size hi-sIx items.size 0 lo)).toArray):=by
  show ((items.toList.drop (sIx items.size 0 lo)).take (sIx items.size items.size hi-sIx items.size 0 lo)).toArray.size<=sizeLine
  rw [List.size_toArray,List.length_take,List.length_drop,Array.length_toList]
  lia
 have hj:sIx items.size items.size hi<=items.size:=oU _ _ (Nat.le_refl _) hi
 obtain ⟨os,hos,hcs,hds⟩:=id hs
 have hTs:s.TypeIs (.ref sl) "slice":=⟨os,hos,hcs⟩
 unfold getItem
 try with_reducible refine wpAny_holding ?_
 first|refine wpAny_bind (wpAny_pure ?_)|skip
 refine wpAny_bind (wpAny_sequenceKey ht.typeIs (by decide) ?_)
 refine wpAny_bind (wpAny_callSpecial?_slot (name:=Str.ofString "__getitem__") ht.typeIs PyProof.Rows.slot_tuple_getitem
  (wpAny_call_entry PyProof.Rows.slot_tuple_getitem ht.typeIs entry_tuple_getitem ?_ (args_tuple_getitem _ _)))
 show wpAny _ _ (Builtin.Tuple.tupleItemsOf (.ref t)>>=_) _ _ s
 refine wpAny_bind (tupleItemsOf_ ht ?_)
 refine wpAny_bind (wpAny_typeOf hTs ?_)
 rw [if_pos (by decide)]
 refine wpAny_bind (jL hs pl pu ?_)
 have hno: ¬((((sIx items.size 0 lo:Nat):Int)==0&&(1:Int)==1&&(sIx items.size items.size hi-sIx items.size 0 lo)==items.size)=true):=by
  intro q
  rw [Bool.and_eq_true,Bool.and_eq_true] at q
  have q1:((sIx items.size 0 lo:Nat):Int)=0:=eq_of_beq q.1.1
  have q2:sIx items.size items.size hi-sIx items.size 0 lo=items.size:=eq_of_beq q.2
  exact hw ⟨by lia,by lia⟩
 show wpAny _ _ (if (((sIx items.size 0 lo:Nat):Int)==0&&(1:Int)==1&&(sIx items.size items.size hi-sIx items.size 0 lo)==items.size)=true then _ else _) _ _ s
 rw [if_neg hno,oX]
 first
  |exact wpAny_bind (m:=Builtin.Tuple.tupleExact _) (wpAny_newObj_type (wpAny_pure ⟨_,rfl,wpAny_pure h⟩) htake)
  |exact wpAny_bind (m:=Builtin.Tuple.tupleExact _) (wpAny_newObj_type (wpAny_bind (wpAny_pure (wpAny_pure ⟨_,rfl,wpAny_pure h⟩))) htake)
  |exact wpAny_bind (wpAny_bind (m:=Builtin.Tuple.tupleExact _) (wpAny_newObj_type (wpAny_pure (wpAny_pure ⟨_,rfl,wpAny_pure h⟩)) htake))
  |exact wpAny_bind (wpAny_bind (m:=Builtin.Tuple.tupleExact _) (wpAny_newObj_type (wpAny_pure ⟨_,rfl,wpAny_pure h⟩) htake))
end
end HT
namespace L2
open PySem PySem.Spec PyProof.Rows
noncomputable abbrev TO:=St->Hp->(Option Int->Hp->Prop)->Prop
noncomputable def PO (X:Cx) (e:Option Expr) (t:TO):Prop:=
 ∀(pins:List (Addr×Obj)) (s:Shared) (σ:St) (H:Hp) (Q:Option Int->Hp->Prop),Inv X pins σ H s->t σ H Q->
  wpAny (model X.prog X.w) X.A (evalPart e X.env) (fun u s'=> ∃o H',Inv X pins σ H' s'/\IsPart u o/\Q o H') X.xe s
noncomputable def oZ:TO:=fun _ H Q=>Q none H
noncomputable def o0 (t:TE):TO:=fun σ H Q=>t σ H fun x H1=> ∃i,x= .int i/\Q (some i) H1
theorem jM {ns:List Int}: ∀{us:List Value},Vals (ns.map V.int) us->IntsAre us ns:=by
 induction ns with
 |nil=>intro us r;rw [List.map_nil] at r;cases r;exact .nil
 |cons n ns ih=>
  intro us r
  rw [List.map_cons] at r
  cases r with
  |cons r1 r2=>
   obtain ⟨t,e⟩:=r1
   subst e
   exact .cons n t (ih r2)
section
variable {X:Cx}{e:Expr}{te:TE}{lo hi:Option Expr}{tl th:TO}{pos p2:Pos}
theorem o2:PO X none oZ:=by
 intro pins s σ H Q I h
 rw [evalPart_none]
 exact wpAny_pure ⟨none,H,I,.none,h⟩
theorem o3 (h:PE X e te):PO X (some e) (o0 te):=by
 intro pins s σ H Q I hw
 rw [evalPart_some]
 refine thn (h pins s σ H _ I hw) fun u s1 ⟨x,H1,I1,r1,q1⟩=> ?_
 obtain ⟨i,rfl,q⟩:=q1
 obtain ⟨t,rfl⟩:=r1
 exact ⟨some i,H1,I1,.int i t,q⟩
noncomputable def SlR (X:Cx) (r:V->Option Int->Option Int->Hp->VK->Prop):Prop:=
 ∀(pins:List (Addr×Obj)) (s:Shared) (σ:St) (H:Hp) (x:V) (v vl vu:Value) (lo hi:Option Int) (sl:Addr) (Q:VK),Inv X pins σ H s->RelV x v->s.heap.IsSliceOf sl vl vu .none->IsPart vl lo->IsPart vu hi->r x lo hi H Q->
  ∃T id,typeLookup (.type T) "__getitem__"=pure (some (.builtin id))/\s.TypeIs v T/\wpAny (model X.prog X.w) X.A (getItem v (.ref sl)) (EP X pins σ Q) X.xe s
noncomputable def tSl (r:V->Option Int->Option Int->Hp->VK->Prop) (te:TE) (tl th:TO):TE:=fun σ H Q=>te σ H fun x H1=>tl σ H1 fun l H2=>th σ H2 fun u H3=>r x l u H3 Q
theorem jN {r:V->Option Int->Option Int->Hp->VK->Prop} (hr:SlR X r) (he:PE X e te) (hl:PO X lo tl) (hu:PO X hi th):PE X (.Subscript e (.Slice lo hi none p2) pos) (tSl r te tl th):=by
 intro pins s σ H Q I h
 refine Subscript_ (thn (he pins s σ H _ I h) fun v s1 ⟨x,H1,I1,r1,q1⟩=> ?_)
 refine wpAny_Slice (thn (hl pins s1 σ H1 _ I1 q1) fun vl s2 ⟨l,H2,I2,pl,q2⟩=>thn (hu pins s2 σ H2 _ I2 q2) fun vu s3 ⟨u,H3,I3,pu,q3⟩=> ?_)
 rw [evalPart_none]
 refine wpAny_pure ?_
 have I4:Inv X pins σ H3 {s3 with heap:=s3.heap.push {cls:= .type "slice",data:= .fields #[vl,vu,.none]}}:=I3.kept (t':=s3.toks) fun b ob q=>Heap.get?_push_of_some _ q
 obtain ⟨T,id,hT,ht,hg⟩:=hr pins {s3 with heap:=s3.heap.push {cls:= .type "slice",data:= .fields #[vl,vu,.none]}} σ H3 x v vl vu l u s3.heap.objs.size Q I4 r1 (Heap.IsSliceOf.new ..) pl pu q3
 show wpAny (model X.prog X.w) X.A (subscriptTail e (.Slice lo hi none p2) v (.ref s3.heap.objs.size)) (EP X pins σ Q) X.xe {s3 with heap:=s3.heap.push {cls:= .type "slice",data:= .fields #[vl,vu,.none]}}
 exact tail_any (ops:=[.ref s3.heap.objs.size,v]) ht hT hg (by with_unfolding_all rfl)
noncomputable def cutV (xs:List V) (lo hi:Option Int):List V:=(xs.drop (HT.sIx xs.length 0 lo)).take (HT.sIx xs.length xs.length hi-HT.sIx xs.length 0 lo)
theorem jO (xs:List V) (lo hi:Option Int):(cutV xs lo hi).length<=xs.length:=by
 unfold cutV
 rw [List.length_take,List.length_drop]
 lia
noncomputable def rSlT (K:PySem.W.Frag):V->Option Int->Option Int->Hp->VK->Prop:=fun x lo hi H Q=> ∃a xs,x= .ref a/\SqT K H a xs/\
 ¬(HT.sIx xs.length 0 lo=0/\HT.sIx xs.length xs.length hi=xs.length)/\ ∀p,H p=none->Q (.ref p) (upd H p (.tup (cutV xs lo hi)))
theorem o4:SlR X (rSlT X.K):=by
 intro pins s σ H x v vl vu lo hi sl Q I rx hs pl pu h
 obtain ⟨a,xs,rfl,hx,hw,q⟩:=h
 cases rx
 obtain ⟨its,r,ht,hz⟩:=I.tuple hx
 have hlen:its.toArray.size=xs.length:=by rw [List.size_toArray];exact r.length.symm
 refine ⟨"tuple",_,PyProof.Rows.slot_tuple_getitem.lookup,ht.typeIs,?_⟩
 refine HT.oY ht hs pl pu (by rw [hlen];exact hw) ?_ (by rw [hlen];exact hz)
 rw [hlen]
 refine ⟨.ref s.heap.objs.size,_,I.laid (t':=s.toks) (o:= .tup (cutV xs lo hi)) (fun b ob q=>Heap.get?_push_of_some _ q) (Nat.le_refl _) ?_,rfl,q _ (I.hok.fresh (Nat.le_refl _))⟩
 exact ⟨Nat.le_trans (jO xs lo hi) hz,_,(r.drop (HT.sIx xs.length 0 lo)).take (HT.sIx xs.length xs.length hi-HT.sIx xs.length 0 lo),cR.new _ _⟩
noncomputable def rLtT (K:PySem.W.Frag):R2:=fun x y H Q=> ∃a b ns ms,x= .ref a/\y= .ref b/\SqT K H a (ns.map V.int)/\SqT K H b (ms.map V.int)/\Q (.bl (HT.ap ns ms)) H
theorem o5 (hu:X.A.units<cLine):OpR X (compareOp .Lt) (rLtT X.K):=by
 intro pins s σ H x y v u Q I rx ry h
 obtain ⟨a,b,ns,ms,rfl,rfl,ha,hb,q⟩:=h
 cases rx
 cases ry
 obtain ⟨its,r1,p1,_⟩:=I.tuple ha
 obtain ⟨its2,r2,p2,_⟩:=I.tuple hb
 have i1:IntsAre its.toArray.toList ns:=jM r1
 have i2:IntsAre its2.toArray.toList ms:=jM r2
 exact HT.oS p1 p2 i1 i2 hu ⟨.bl (HT.ap ns ms),H,I,rfl,q⟩
noncomputable def o6 (K:PySem.W.Frag):R2:=fun x y H Q=> ∃a b xs ys,x= .ref a/\y= .ref b/\SqT K H a xs/\SqT K H b ys/\xs≠[]/\xs.length+ys.length<=sizeLine/\
 (ys=[]->Q (.ref a) H)/\(ys≠[]-> ∀p,H p=none->Q (.ref p) (upd H p (.tup (xs++ys))))
theorem Vals.nil_iff {xs:List V}{us:List Value} (r:Vals xs us):us=[]↔xs=[]:=by
 cases r with
 |nil=>simp
 |cons _ _=>simp
theorem o7:OpR X (binaryOp .Add) (o6 X.K):=by
 intro pins s σ H x y v u Q I rx ry h
 obtain ⟨a,b,xs,ys,rfl,rfl,ha,hb,hx,hz,q1,q2⟩:=h
 cases rx
 cases ry
 obtain ⟨its,r1,p1,_⟩:=I.tuple ha
 obtain ⟨its2,r2,p2,_⟩:=I.tuple hb
 refine HT.oT p1 p2 (fun z=>hx (r1.nil_iff.mp z)) (fun z=>⟨.ref a,H,I,rfl,q1 (r2.nil_iff.mp z)⟩) (fun z=> ?_) (by rw [<-r1.length,<-r2.length];exact hz)
 refine ⟨.ref s.heap.objs.size,_,I.laid (t':=s.toks) (o:= .tup (xs++ys)) (fun b ob q=>Heap.get?_push_of_some _ q) (Nat.le_refl _) ?_,rfl,q2 (fun w=>z (r2.nil_iff.mpr w)) _ (I.hok.fresh (Nat.le_refl _))⟩
 exact ⟨by rw [List.length_append];exact hz,_,r1.append r2,cR.new _ _⟩
end
end L2
namespace L2
open PySem PySem.Spec PyProof.Rows
noncomputable def ixN (n:Nat) (i:Int):Option Nat:=if 0<=i then (if i<n then some i.toNat else none) else if-(n:Int)<=i then some (i+n).toNat else none
noncomputable def atI {α:Type} (xs:List α) (i:Int):Option α:=(ixN xs.length i).bind fun j=>xs[j]?
theorem jP {n:Nat}{i:Int}{j:Nat} (h:ixN n i=some j):seqIndex? i n=some j/\j<n/\ -(n:Int)<=i/\i<n:=by
 unfold ixN at h
 by_cases h0:0<=i
 ·rw [if_pos h0] at h
  by_cases h1:i<n
  ·rw [if_pos h1] at h
   have e:i.toNat=j:=Option.some.inj h
   exact ⟨by rw [seqIndex_of h0 h1,e],by lia,by lia,h1⟩
  ·rw [if_neg h1] at h;cases h
 ·rw [if_neg h0] at h
  by_cases h1: -(n:Int)<=i
  ·rw [if_pos h1] at h
   have e:(i+n).toNat=j:=Option.some.inj h
   exact ⟨by rw [seqIndex_neg (by lia) h1,e],by lia,h1,by lia⟩
  ·rw [if_neg h1] at h;cases h
theorem gM {α:Type}{xs:List α}{i:Int}{v:α} (h:atI xs i=some v): ∃j,seqIndex? i xs.length=some j/\xs[j]?=some v/\j<xs.length/\ -(xs.length:Int)<=i/\i<xs.length:=by
 unfold atI at h
 cases e:ixN xs.length i with
 |none=>rw [e] at h;cases h
 |some j=>
  rw [e] at h
  obtain ⟨h1,h2,h3,h4⟩:=jP e
  exact ⟨j,h1,h,h2,h3,h4⟩
theorem o8 {α:Type}{xs:List α}{j:Nat}{v:α} (h:xs[j]?=some v):atI xs (j:Int)=some v:=by
 have hj:j<xs.length:=(List.getElem?_eq_some_iff.mp h).1
 have e:ixN xs.length (j:Int)=some j:=by
  unfold ixN
  rw [if_pos (by lia),if_pos (by lia)];simp
 unfold atI;rw [e];exact h
noncomputable def jQ (b:Expr):Prop:= ∀o i,subscripted b false o i=operate [o,i] (getItem o i)
noncomputable def IxR (X:Cx) (r:R2):Prop:=
 ∀(value slice:Expr) (pins:List (Addr×Obj)) (s:Shared) (σ:St) (H:Hp) (x y:V) (v u:Value) (Q:VK),Inv X pins σ H s->RelV x v->RelV y u->r x y H Q->
  subscripted slice false v u=operate [v,u] (getItem v u)->wpAny (model X.prog X.w) X.A (subscriptTail value slice v u) (EP X pins σ Q) X.xe s
noncomputable def MtR (X:Cx) (id:String) (r:V->List V->Hp->VK->Prop):Prop:=
 ∀(pins:List (Addr×Obj)) (s:Shared) (σ:St) (H:Hp) (x:V) (xs:List V) (v:Value) (us:List Value) (Q:VK),Inv X pins σ H s->RelV x v->Vals xs us->r x xs H Q->
  wpAny (model X.prog X.w) X.A (call (.builtin id) (v::us)) (EP X pins σ Q) X.xe s
section
variable {X:Cx}{a b:Expr}{ta tb:TE}{pos:Pos}
theorem IxR.or {r r':R2} (h:IxR X r) (h':IxR X r'):IxR X (fun x y H Q=>r x y H Q \/r' x y H Q):=by
 intro value slice pins s σ H x y v u Q I rx ry q hs
 rcases q with q|q
 ·exact h value slice pins s σ H x y v u Q I rx ry q hs
 ·exact h' value slice pins s σ H x y v u Q I rx ry q hs
theorem o9 {r:R2} (hr:IxR X r) (ha:PE X a ta) (hb:PE X b tb) (hs:jQ b):PE X (.Subscript a b pos) (tOp r ta tb):=by
 intro pins s σ H Q I h
 exact Subscript_ (binT ha hb I h fun v u s2 x y H2 I2 rx ry q=>hr a b pins s2 σ H2 x y v u Q I2 rx ry q (hs _ _))
noncomputable def rIxL (K:PySem.W.Frag):R2:=fun x y H Q=> ∃p xs i v,x= .ref p/\y= .int i/\SqL K H p xs/\atI xs i=some v/\Q v H
noncomputable def rIxT (K:PySem.W.Frag):R2:=fun x y H Q=> ∃p xs i v,x= .ref p/\y= .int i/\SqT K H p xs/\atI xs i=some v/\Q v H
noncomputable def rIxS:R2:=fun x y H Q=> ∃z i c,x= .str z/\y= .int i/\z.length<=sizeLine/\atI z.cps.toList i=some c/\Q (.str ⟨#[c]⟩) H
theorem pf:IxR X (rIxL X.K):=by
 intro value slice pins s σ H x y v u Q I rx ry h hs
 obtain ⟨p,xs,i,z,rfl,rfl,hq,he,q⟩:=h
 cases rx
 obtain ⟨t,rfl⟩:=ry
 obtain ⟨its,r,pl,hz⟩:=I.list hq
 obtain ⟨j,h1,h2,h3,h4,h5⟩:=gM he
 obtain ⟨w,ew,rw'⟩:=r.get h2
 have hl:=r.length
 have hn:=eK
 have fin:EP X pins σ Q w s:=⟨z,H,I,rw',q⟩
 by_cases h0:0<=i
 ·have hj:i.toNat=j:=by
   rw [seqIndex_of h0 h5] at h1
   exact Option.some.inj h1
  exact item_listR pl.isList h0 (by lia) (by rw [hj];simpa using ew) fin hs
 ·have hj:(i+(its.toArray.size:Int)).toNat=j:=by
   rw [seqIndex_neg (by lia) h4] at h1
   rw [List.size_toArray,<-hl]
   exact Option.some.inj h1
  exact subscriptTail_builtinR (x:=w) pl.isList.typeIs slot_list_getitem.lookup
   (wpAny_getItem_list_neg (Q:=fun r s'=>r=w/\EP X pins σ Q r s') pl.isList (by lia) (by rw [List.size_toArray]<;>lia) (by lia) (by rw [hj];simpa using ew) ⟨rfl,fin⟩) hs
theorem pj:IxR X (rIxT X.K):=by
 intro value slice pins s σ H x y v u Q I rx ry h hs
 obtain ⟨p,xs,i,z,rfl,rfl,hq,he,q⟩:=h
 cases rx
 obtain ⟨t,rfl⟩:=ry
 obtain ⟨its,r,pl,hz⟩:=I.tuple hq
 obtain ⟨j,h1,h2,h3,h4,h5⟩:=gM he
 obtain ⟨w,ew,rw'⟩:=r.get h2
 have hl:=r.length
 have hn:=eK
 have fin:EP X pins σ Q w s:=⟨z,H,I,rw',q⟩
 exact subscriptTail_builtinR (x:=w) pl.typeIs slot_tuple_getitem.lookup
  (getItem_tuple (j:=j) (Q:=fun r s'=>r=w/\EP X pins σ Q r s') pl (by lia) (by lia) (by rw [List.size_toArray,<-hl];exact h1) (by simpa using ew) ⟨rfl,fin⟩) hs
theorem pk:IxR X rIxS:=by
 intro value slice pins s σ H x y v u Q I rx ry h hs
 obtain ⟨z,i,c,rfl,rfl,hz,he,q⟩:=h
 obtain ⟨t,rfl⟩:=rx
 obtain ⟨t',rfl⟩:=ry
 obtain ⟨j,h1,h2,h3,h4,h5⟩:=gM he
 have hl:z.cps.toList.length=z.length:=by simp [Str.length]
 rw [hl] at h1 h4 h5
 have hn:=eK
 exact tail_any (typeIs_str s z t) slot_str_getitem.lookup (getItem_str (c:=c) (by
  have e1:decide (i< -(2^63:Int))=false:=decide_eq_false (by lia)
  have e2:decide (i>=2^63)=false:=decide_eq_false (by lia)
  rw [e1,e2,Bool.or_false]) (by rw [h1];simpa using h2) ⟨.str ⟨#[c]⟩,H,I.tok _,⟨_,rfl⟩,q⟩) hs
noncomputable def rIx (K:PySem.W.Frag):R2:=fun x y H Q=>rIxL K x y H Q \/rIxT K x y H Q \/rIxS x y H Q
theorem pp:IxR X (rIx X.K):=pf.or (pj.or pk)
theorem pq (its:List Value) (n j:Nat) (u:Value):Obj.mapSeq (·.setIfInBounds j u) {cls:= .type "list",data:= .seq its.toArray n}={cls:= .type "list",data:= .seq (its.set j u).toArray n}:=by
 simp [Obj.mapSeq]
theorem Inv.lst {pins:List (Addr×Obj)}{σ:St}{H:Hp}{s:Shared}{p:Addr}{xs:List V} (I:Inv X pins σ H s) (h:H p=some (.lst xs)):
  ∃(its:List Value) (n:Nat),Vals xs its/\s.heap.get? p=some {cls:= .type "list",data:= .seq its.toArray n}/\xs.length<=sizeLine:=by
 obtain ⟨z,its,n,r,e⟩:=I.hok p _ h
 exact ⟨its,n,r,e,z⟩
theorem Inv.lstUpd {pins:List (Addr×Obj)}{σ:St}{H:Hp}{s:Shared}{p:Addr}{xs ys:List V}{its its':List Value}{n n':Nat}{f:Obj->Obj} (I:Inv X pins σ H s) (h:H p=some (.lst xs))
  (ho:s.heap.get? p=some {cls:= .type "list",data:= .seq its.toArray n}) (hf:f {cls:= .type "list",data:= .seq its.toArray n}={cls:= .type "list",data:= .seq its'.toArray n'}) (r:Vals ys its') (hz:ys.length<=sizeLine) (t:Nat):
  Inv X pins σ (upd H p (.lst ys)) {s with heap:=s.heap.update p f,toks:=t}:=by
 have e:(s.heap.update p f).get? p=some {cls:= .type "list",data:= .seq its'.toArray n'}:=by
  rw [Heap.get?_update_self f ho (by rw [hf]<;>rfl),hf]
 refine I.write (x:=p) (e:=p) (by rw [h];trivial) (.inl rfl) (fun b u hb q=>(Heap.get?_update_other _ _ (Ne.symm hb)).trans q) ⟨_,e⟩ ?_
 exact ⟨hz,its',n',r,e⟩
noncomputable def px:V->V->V->Hp->(Hp->Prop)->Prop:=fun o i v H Q=> ∃p xs k j,o= .ref p/\i= .int k/\H p=some (.lst xs)/\ixN xs.length k=some j/\Q (upd H p (.lst (xs.set j v)))
theorem py:PSet X px:=by
 intro pins s σ H o i v ov iv u Q I ro ri rv h
 obtain ⟨p,xs,k,j,rfl,rfl,hp,hj,q⟩:=h
 cases ro
 obtain ⟨t,rfl⟩:=ri
 obtain ⟨its,n,r,ho,hz⟩:=I.lst hp
 obtain ⟨h1,h2,h3,h4⟩:=jP hj
 have hl:=r.length
 have hn:=eK
 have I':Inv X pins σ (upd H p (.lst (xs.set j v))) {s with heap:=s.heap.update p (Obj.mapSeq (·.setIfInBounds j u))}:=
  I.lstUpd hp ho (pq its n j u) (r.set rv j) (by rw [List.length_set];exact hz) s.toks
 by_cases h0:0<=k
 ·have hk:k.toNat=j:=by
   rw [seqIndex_of h0 h4] at h1
   exact Option.some.inj h1
  exact PySem.W.ki_setAt ho h0 (by lia) (by rw [List.size_toArray,<-hl];exact h4) (by rw [hk];exact ⟨_,I',q⟩)
 ·have hk:(k+(its.toArray.size:Int)).toNat=j:=by
   rw [seqIndex_neg (by lia) h3] at h1
   rw [List.size_toArray,<-hl]
   exact Option.some.inj h1
  exact PySem.W.ki_setBack ho (by lia) (by rw [List.size_toArray,<-hl];exact h3) (by lia) (by rw [hk];exact ⟨_,I',q⟩)
theorem pz (lo hi:Option Int) (n:Nat):(sliceBounds lo hi none n).1=((HT.sIx n 0 lo:Nat):Int)/\(sliceBounds lo hi none n).2.1=((HT.sIx n n hi:Nat):Int)/\(sliceBounds lo hi none n).2.2=1:=by
 refine ⟨?_,?_,rfl⟩
 ·cases lo with
  |none=>simp [sliceBounds,HT.sIx]
  |some i=>
   simp only [sliceBounds,HT.sIx,Option.getD_none,show (1:Int)>0 by decide,if_true]
   by_cases h:i<0
   ·simp only [h,if_true]<;>lia
   ·simp only [h,if_false]<;>lia
 ·cases hi with
  |none=>simp [sliceBounds,HT.sIx]
  |some i=>
   simp only [sliceBounds,HT.sIx,Option.getD_none,show (1:Int)>0 by decide,if_true]
   by_cases h:i<0
   ·simp only [h,if_true]<;>lia
   ·simp only [h,if_false]<;>lia
theorem pA (its:List Value) (lo hi:Option Int):slicePick its.toArray lo hi none=((its.drop (HT.sIx its.length 0 lo)).take (HT.sIx its.length its.length hi-HT.sIx its.length 0 lo)).toArray:=by
 obtain ⟨h1,h2,h3⟩:=pz lo hi its.toArray.size
 unfold slicePick
 rw [h1,h2,h3]
 simp only [sliceRange_one,pick_run,List.size_toArray]<;>rfl
noncomputable def rSlL (K:PySem.W.Frag):V->Option Int->Option Int->Hp->VK->Prop:=fun x lo hi H Q=> ∃a xs,x= .ref a/\SqL K H a xs/\ ∀p,H p=none->Q (.ref p) (upd H p (.lst (cutV xs lo hi)))
theorem pB:SlR X (rSlL X.K):=by
 intro pins s σ H x v vl vu lo hi sl Q I rx hs pl pu h
 obtain ⟨a,xs,rfl,hx,q⟩:=h
 cases rx
 obtain ⟨its,r,ht,hz⟩:=I.list hx
 have hlen:=r.length
 refine ⟨"list",_,slot_list_getitem.lookup,ht.isList.typeIs,?_⟩
 refine wpAny_getItem_list_slice ht.isList hs pl pu .none (by simp) ?_ (by rw [List.size_toArray]<;>lia)
 rw [pA,<-hlen]
 refine ⟨.ref s.heap.objs.size,_,I.laid (t':=s.toks) (o:= .lst (cutV xs lo hi)) (fun b ob q=>Heap.get?_push_of_some _ q) (Nat.le_refl _) ?_,rfl,q _ (I.hok.fresh (Nat.le_refl _))⟩
 exact ⟨Nat.le_trans (jO xs lo hi) hz,_,0,(r.drop (HT.sIx xs.length 0 lo)).take (HT.sIx xs.length xs.length hi-HT.sIx xs.length 0 lo),Heap.get?_push_size _ rfl⟩
theorem bV:bj X (.builtin "len") (fun xs H Q=> ∃p ys,xs=[.ref p]/\(SqL X.K H p ys \/SqT X.K H p ys)/\Q (.int ys.length) H):=by
 intro pins s σ H xs us Q I r h
 obtain ⟨p,ys,rfl,hq,q⟩:=h
 obtain ⟨u,rfl,rx⟩:=dl r
 cases rx
 have hn:=eK
 rcases hq with hq|hq
 ·obtain ⟨its,r',pl,hz⟩:=I.list hq
  have hlen:=r'.length
  exact Calls.call_len_list pl.isList (by simp only [List.size_toArray]<;>lia) ⟨.int ys.length,H,I.tok _,⟨s.toks+1,by rw [List.size_toArray,hlen]⟩,q⟩
 ·obtain ⟨its,r',pl,hz⟩:=I.tuple hq
  have hlen:=r'.length
  exact len_tuple pl (by simp only [List.size_toArray]<;>lia) ⟨.int ys.length,H,I.tok _,⟨s.toks+1,by rw [List.size_toArray,hlen]⟩,q⟩
theorem fA:bj X (.type "list") (fun xs H Q=> ∃p ys,xs=[.ref p]/\(SqL X.K H p ys \/SqT X.K H p ys)/\ ∀l,H l=none->Q (.ref l) (upd H l (.lst ys))):=by
 intro pins s σ H xs us Q I r h
 obtain ⟨p,ys,rfl,hq,q⟩:=h
 obtain ⟨u,rfl,rx⟩:=dl r
 cases rx
 have fin: ∀(its:List Value),Vals ys its->ys.length<=sizeLine-> ∀(h':Heap) (c':Nat),(∀b o',s.heap.get? b=some o'->h'.get? b=some o')->
   h'.get? s.heap.objs.size=some {cls:= .type "list",dict:=none,data:= .seq its.toArray c',slots:= #[]}->EP X pins σ Q (.ref s.heap.objs.size) {s with heap:=h'}:=fun its r' hz h' c' kp e=>
  ⟨.ref s.heap.objs.size,_,I.laid (t':=s.toks) kp (Nat.le_refl _) (show ax X.prog X.w _ h' _ (.lst ys) from ⟨hz,its,c',r',e⟩),rfl,q _ (I.hok.fresh (Nat.le_refl _))⟩
 rcases hq with hq|hq
 ·obtain ⟨its,r',pl,hz⟩:=I.list hq
  have hlen:=r'.length
  obtain ⟨o,ho,hc,n,hd⟩:=pl.isList
  exact call_list_seq p (.inl rfl) ho hc hd (fun h' c' kp e=>fin its r' hz h' c' kp e) (by simp only [List.size_toArray]<;>lia)
 ·obtain ⟨its,r',pl,hz⟩:=I.tuple hq
  have hlen:=r'.length
  obtain ⟨o,ho,hc,n,hd⟩:=pl
  exact call_list_seq p (.inr rfl) ho hc hd (fun h' c' kp e=>fin its r' hz h' c' kp e) (by simp only [List.size_toArray]<;>lia)
theorem fB:bj X (.type "tuple") (fun xs H Q=> ∃p ys,xs=[.ref p]/\((SqL X.K H p ys/\ ∀l,H l=none->Q (.ref l) (upd H l (.tup ys))) \/(SqT X.K H p ys/\Q (.ref p) H))):=by
 intro pins s σ H xs us Q I r h
 obtain ⟨p,ys,rfl,h⟩:=h
 obtain ⟨u,rfl,rx⟩:=dl r
 cases rx
 rcases h with ⟨hq,q⟩|⟨hq,q⟩
 ·obtain ⟨its,r',pl,hz⟩:=I.list hq
  have hlen:=r'.length
  refine call_tuple_list pl.isList (fun h' kp=> ?_) (by simp only [List.size_toArray]<;>lia)
  have I1:Inv X pins σ H {s with heap:=h'}:=I.kept (t':=s.toks) kp
  have I2:Inv X pins σ (upd H h'.objs.size (.tup ys)) {s with heap:=h'.push {cls:= .type "tuple",data:= .seq its.toArray}}:=
   I1.laid (t':=s.toks) (fun b o e=>Heap.get?_push_of_some _ e) (Nat.le_refl _) (show ax X.prog X.w _ _ _ (.tup ys) from ⟨hz,its,r',cR.new _ _⟩)
  exact ⟨.ref h'.objs.size,_,I2,rfl,q _ (I1.hok.fresh (Nat.le_refl _))⟩
 ·obtain ⟨its,r',pl,hz⟩:=I.tuple hq
  exact call_tuple_same pl ⟨.ref p,H,I,rfl,q⟩
noncomputable def tyV (K:PySem.W.Frag) (T:String) (x:V) (H:Hp):Prop:=match x with
 | .str _=>T="str"
 | .int _=>T="int"
 | .ref p=>(T="list"/\ ∃xs,SqL K H p xs) \/(T="tuple"/\ ∃o,K.lookup p=some o/\o.cls= .type "tuple"/\o.dict=none) \/
   (T="dict"/\((∃kvs,H p=some (.dK kvs)) \/ ∃kvs,H p=some (.dT kvs))) \/(T="set"/\ ∃S n,H p=some (.set S n))
 |_=>False
theorem pC {pins:List (Addr×Obj)}{σ:St}{H:Hp}{s:Shared}{T:String}{x:V}{v:Value} (I:Inv X pins σ H s) (r:RelV x v) (ty:tyV X.K T x H):
  s.TypeIs v T/\ ∀a,v= .ref a-> ∃ob,s.heap.get? a=some ob/\ob.dict=none:=by
 cases x with
 |str z=>
  obtain ⟨t,rfl⟩:=r
  cases (show T="str" from ty)
  exact ⟨typeIs_str s z t,fun _ e=>nomatch e⟩
 |int i=>
  obtain ⟨t,rfl⟩:=r
  cases (show T="int" from ty)
  exact ⟨typeIs_int s i t,fun _ e=>nomatch e⟩
 |ref p=>
  cases r
  rcases ty with ⟨rfl,xs,hq⟩|⟨rfl,o,hk,hc,hd⟩|⟨rfl,hk⟩|⟨rfl,S,n,hk⟩
  ·obtain ⟨its,_,pl,_⟩:=I.list hq
   refine ⟨pl.isList.typeIs,fun a e=> ?_⟩
   cases e
   obtain ⟨o,n,e,c,hd,_⟩:=pl
   exact ⟨o,e,hd⟩
  ·refine ⟨⟨o,I.kIn p o hk,hc⟩,fun a e=> ?_⟩
   cases e
   exact ⟨o,I.kIn _ o hk,hd⟩
  ·have z: ∃o,s.heap.get? p=some o/\o.ExactDict:=by
    rcases hk with ⟨kvs,hk⟩|⟨kvs,hk⟩
    ·obtain ⟨_,_,_,_,o,_,_,e,ex,_⟩:=I.hok p _ hk
     exact ⟨o,e,ex⟩
    ·obtain ⟨_,_,_,_,o,_,_,e,ex,_⟩:=I.hok p _ hk
     exact ⟨o,e,ex⟩
   obtain ⟨o,e,ex⟩:=z
   refine ⟨⟨o,e,ex.1⟩,fun a e2=> ?_⟩
   cases e2
   exact ⟨o,e,ex.2.1⟩
  ·obtain ⟨o,_,_,_,e,ex,_⟩:=I.hok p _ hk
   refine ⟨⟨o,e,ex.1⟩,fun a e2=> ?_⟩
   cases e2
   exact ⟨o,e,ex.2.1⟩
 |_=>exact False.elim ty
noncomputable def tBM (K:PySem.W.Frag) (T:String) (r:V->List V->Hp->VK->Prop) (to:TE) (t:TA):TE:=fun σ H Q=>to σ H fun x H1=>tyV K T x H1/\t σ H1 fun xs H2=>r x xs H2 Q
variable {o e:Expr}{es:List Expr}{to:TE}{t:TA}{name:Str}{apos cpos:Pos}{T id:String}{r:V->List V->Hp->VK->Prop}
theorem pD (pa:PlainAttrs T) (slot:Slot T name id) (hty:typeOf (.builtin id)=pure (.type "method_descriptor")) (hm:MtR X id r) (ho:PE X o to) (ha:PA X (e::es) t)
  (hbase:attributeBase o name X.env (eval o X.env)=eval o X.env:=by rfl)
  (hfew:((backTo cpos (starEach (e::es) X.env)).all (fun x=> !x.1)&&(backToKw cpos (keywordEach [] X.env)).all (fun x=>x.1.isSome)
   &&decide ((e::es).length+([]:List Keyword).length+(if ([]:List Keyword).isEmpty then 0 else 1)<30))=true:=by rfl)
  (hline:(apos.endLine==cpos.line)=true:=by rfl) (hs:starEach (e::es) X.env=(false,eval e X.env)::starEach es X.env:=by rfl) (hplain:(backTo cpos (starEach es X.env)).any (·.1)=false:=by rfl):
  PE X (.Call (.Attribute o name apos) (e::es) [] cpos) (tBM X.K T r to t):=by
 intro pins s σ H Q I h
 refine wpAny_Call_method_late hbase hfew hline rfl (thn (ho pins s σ H _ I h) fun v s1 ⟨x,H1,I1,r1,ty,q1⟩=> ?_)
 obtain ⟨h1,h2⟩:=pC I1 r1 ty
 refine ⟨T,id,pa,slot,hty,h1,h2,?_⟩
 have hA:=ha cpos pins s1 σ H1 _ I1 q1
 rw [hs] at hA|-
 refine Calls.callWith_builtin (by show (false||(backTo cpos (starEach es X.env)).any (·.1))=false;rw [hplain]<;>rfl) (Calls.evalArgs_plain ?_)
 exact thn hA fun us s2 ⟨vs,H2,I2,r2,q2⟩=>hm pins s2 σ H2 x vs v us Q I2 r1 r2 q2
end
end L2
namespace L2
open PySem PySem.Spec PyProof.Rows
noncomputable def MtM (X:Cx) (id:String) (r:V->List V->Hp->VK->Prop):Prop:=
 ∀(pins:List (Addr×Obj)) (s:Shared) (σ:St) (H:Hp) (x:V) (xs:List V) (v:Value) (us:List Value) (Q:VK),Inv X pins σ H s->RelV x v->Vals xs us->r x xs H Q->
  wpAny (model X.prog X.w) X.A (call (.builtin id) (v::us)) (EP X pins σ Q) X.xe s
theorem Vals.one: ∀{x:V}{us:List Value},Vals [x] us-> ∃u,us=[u]/\RelV x u
 |_,_,.cons r .nil=>⟨_,rfl,r⟩
theorem Vals.two: ∀{x y:V}{us:List Value},Vals [x,y] us-> ∃u v,us=[u,v]/\RelV x u/\RelV y v
 |_,_,_,.cons r (.cons q .nil)=>⟨_,_,rfl,r,q⟩
theorem Vals.zero: ∀{us:List Value},Vals [] us->us=[]
 |_,.nil=>rfl
theorem Vals.dropLast {xs:List V}{us:List Value} (h:Vals xs us):Vals xs.dropLast us.dropLast:=by
 induction h with
 |nil=>exact .nil
 |cons r t ih=>
  cases t with
  |nil=>exact .nil
  |cons q t'=>exact .cons r ih
theorem Vals.eraseIdx: ∀{xs:List V}{us:List Value} (i:Nat),Vals xs us->Vals (xs.eraseIdx i) (us.eraseIdx i)
 |_,_,_,.nil=> .nil
 |_,_,0,.cons _ t=>t
 |_,_,i+1,.cons r t=> .cons r (Vals.eraseIdx i t)
theorem Vals.reverse {xs:List V}{us:List Value} (h:Vals xs us):Vals xs.reverse us.reverse:=by
 induction h with
 |nil=>exact .nil
 |cons r t ih=>rw [List.reverse_cons,List.reverse_cons];exact Vals.append ih (.cons r .nil)
theorem Vals.rep {xs:List V}{us:List Value} (h:Vals xs us): ∀k:Nat,Vals (List.replicate k xs).flatten (List.replicate k us).flatten
 |0=> .nil
 |k+1=>by
  rw [List.replicate_succ,List.replicate_succ,List.flatten_cons,List.flatten_cons]
  exact Vals.append h (Vals.rep h k)
section
variable {X:Cx}{pins:List (Addr×Obj)}{σ:St}{H:Hp}{s:Shared}{l b:Addr}{xs ys zs:List V}
theorem Inv.lset {its its':List Value}{n:Nat}{f:Array Value->Array Value}{t':Nat} (I:Inv X pins σ H s) (hH:H l=some (.lst xs))
  (e:s.heap.get? l=some {cls:= .type "list",data:= .seq its.toArray n}) (hf:f its.toArray=its'.toArray) (hv:Vals ys its') (hz:ys.length<=sizeLine):
  Inv X pins σ (upd H l (.lst ys)) {s with heap:=s.heap.update l (Obj.mapSeq f),toks:=t'}:=by
 have q:=PySem.IsL.update e f
 rw [hf] at q
 refine I.write (x:=l) (e:=l) (by rw [hH];exact trivial) (.inl rfl) (fun b' u hb hu=>(Heap.get?_update_other s.heap (Obj.mapSeq f) (Ne.symm hb)).trans hu) ⟨_,q⟩ ?_
 exact ⟨hz,its',_,hv,q⟩
theorem Inv.lstM (I:Inv X pins σ H s) (hH:H l=some (.lst xs)):xs.length<=sizeLine/\ ∃(its:List Value) (n:Nat),Vals xs its/\xs.length=its.length/\s.heap.get? l=some {cls:= .type "list",data:= .seq its.toArray n}:=by
 obtain ⟨z,its,n,r,e⟩:=I.hok l _ hH
 exact ⟨z,its,n,r,r.length,e⟩
theorem jR {n:Nat} (h:n<=sizeLine):Builtin.List.listTooLong n=false:=by
 unfold Builtin.List.listTooLong
 exact decide_eq_false (by lia)
end
section
variable {X:Cx}
end
section
variable {prog:Program}{w:World}{A:Around}{E:Value->Shared->Prop}{s:Shared}
theorem pE {a c n:Nat} (hac:a<=c) (hc:c<=n):sliceBounds (some (a:Int)) (some (c:Int)) none n=((a:Int),(c:Int),1):=by
 simp only [sliceBounds,Option.getD_none]
 have h1: ¬((a:Int)<0):=by lia
 have h2: ¬((c:Int)<0):=by lia
 simp only [h1,h2,if_false,show (1:Int)>0 by decide,if_true]
 congr 1
 ·lia
 ·congr 1;lia
set_option maxRecDepth 100000 in
theorem xC {l b sl:Addr}{items new:Array Value}{n n2:Nat}{vl vu:Value}{a c:Nat}{Q:Unit->Shared->Prop}
  (e:s.heap.get? l=some {cls:= .type "list",data:= .seq items n}) (e2:s.heap.get? b=some {cls:= .type "list",data:= .seq new n2}) (hne:l≠b)
  (hs:s.heap.IsSliceOf sl vl vu .none) (pl:IsPart vl (some (a:Int))) (pu:IsPart vu (some (c:Int))) (hac:a<=c) (hc:c<=items.size)
  (hsz:items.size+new.size<=sizeLine) (h:Q () {s with heap:=s.heap.update l (Obj.mapSeq fun xs=>xs.extract 0 a++new++xs.extract c xs.size)}):
  wpAny (model prog w) A (setItem (.ref l) (.ref sl) (.ref b)) Q E s:=by
 have hl:s.heap.IsList l items:=PySem.IsL.isList e
 have hb:s.heap.IsList b new:=PySem.IsL.isList e2
 obtain ⟨os,hos,hcs,hds⟩:=id hs
 have hTs:s.TypeIs (.ref sl) "slice":=⟨os,hos,hcs⟩
 have hstep: ¬((rawPart none==rawInt 0)=true):=Bool.false_ne_true
 have hsame:Builtin.List.listSameRef (.ref l) (.ref b)=false:=by
  unfold Builtin.List.listSameRef
  exact beq_eq_false_iff_ne.mpr hne
 have hmax:(max (a:Int) (c:Int)).toNat=c:=by lia
 have hz':((fun xs:Array Value=>xs.extract 0 a++new++xs.extract c xs.size) items).size<=sizeLine+1:=by
  simp only [Array.size_append,Array.size_extract]
  lia
 unfold setItem
 try with_reducible refine wpAny_holding ?_
 first|refine wpAny_bind (wpAny_pure ?_)|skip
 refine wpAny_bind (wpAny_sequenceKey hl.typeIs (by decide) ?_)
 refine wpAny_bind (wpAny_callSpecial?_slot (name:=Str.ofString "__setitem__") hl.typeIs slot_list_setitem
  (wpAny_call_entry slot_list_setitem hl.typeIs entry_list_setitem ?_ (args_list_setitem _ _ _)))
 show wpAny _ _ (Builtin.List.listSubscript? (.ref sl)>>=_) _ _ s
 refine wpAny_bind ?_
 unfold Builtin.List.listSubscript?
 refine wpAny_bind (wpAny_specialOf hTs slice_no_index ?_)
 simp only [Option.isNone_none,if_true]
 refine wpAny_pure ?_
 show wpAny _ _ (typeOf (.ref sl)>>=_) _ _ s
 refine wpAny_bind (wpAny_typeOf hTs ?_)
 first
  |rw [if_neg (by decide)]
  |refine PySem.W.KFB.if_not (by decide) ?_
 rw [listSliceParts_eq]
 refine wpAny_bind (wpAny_bind (wpAny_field hos hds (x:= .none) rfl (wpAny_bind (wpAny_listPart .none ?_))))
 rw [if_neg hstep]
 refine wpAny_bind (wpAny_field hos hds (x:=vl) rfl (wpAny_bind (wpAny_listPart pl ?_)))
 refine wpAny_bind (wpAny_field hos hds (x:=vu) rfl (wpAny_bind (wpAny_listPart pu (wpAny_pure ?_))))
 first
  |simp only [hsame,Bool.false_eq_true,if_false]
  |refine PySem.W.KFB.if_not hsame ?_
  |(dsimp only;rw [if_neg (by rw [hsame];exact Bool.false_ne_true)])
 refine wpAny_bind (m:=Builtin.List.listAllItems (.ref b) "must assign iterable to extended slice") ?_
 unfold Builtin.List.listAllItems
 refine wpAny_bind (wpAny_typeOf hb.typeIs ?_)
 first
  |refine PySem.W.KFB.if_so (by decide) ?_
  |rw [if_pos (by decide)]
  |simp only [beq_self_eq_true,Bool.true_or,if_true]
 unfold Builtin.List.listItems
 refine wpAny_bind (wpAny_seqItems e2 rfl (wpAny_pure ?_))
 refine wpAny_bind (wpAny_bind (wpAny_seqItems e rfl (wpAny_pure ?_)))
 refine wpAny_bind (wpAny_of_eq ((sliceIndices_raw (some (a:Int)) (some (c:Int)) none items.size (by simp)).trans (congrArg (pure:Int×Int×Int->Sem (Int×Int×Int)) (pE hac hc))) ?_)
 show wpAny _ _ (if ((1:Int)==1)=true then _ else _) _ _ s
 rw [if_pos (by decide)]
 refine wpAny_bind (wpAny_rule ?_)
 first
  |simp only [jR hsz,Bool.false_eq_true,if_false]
  |refine PySem.W.KFB.if_not (jR hsz) ?_
 first|refine wpAny_bind (wpAny_pure ?_)|skip
 show wpAny _ _ (updateSeq l (fun xs=>xs.extract 0 ((a:Int)).toNat++new++xs.extract (max (a:Int) (c:Int)).toNat xs.size)>>=_) _ _ s
 rw [hmax,Int.toNat_natCast]
 refine wpAny_bind (wpAny_updateSeq (hz:=Nat.le_trans (Nat.le_add_right _ _) hsz) (_hz':=hz') e rfl ?_)
 refine wpAny_bind (wpAny_letGo ?_)
 first
  |exact wpAny_bind (wpAny_pure (wpAny_pure ⟨.none,rfl,wpAny_pure h⟩))
  |exact wpAny_pure ⟨.none,rfl,wpAny_pure h⟩
end
section
variable {X:Cx}
end
end L2
namespace L2
open PySem PySem.Spec PyProof.Rows
section
variable {κ:Type} [DecidableEq κ]
noncomputable def valV (kvs:List (κ×V)) (k:κ):Option V:=(kvs.find? fun kv=>decide (kv.1=k)).map (·.2)
noncomputable def putK (kvs:List (κ×V)) (k:κ) (v:V):List (κ×V):=
 if (kvs.any fun kv=>decide (kv.1=k))=true then kvs.map (fun kv=>if kv.1=k then (kv.1,v) else kv) else kvs++[(k,v)]
theorem fC {p:κ×V}{r:List (κ×V)}{k:κ} (e:p.1=k):valV (p::r) k=some p.2:=by simp [valV,List.find?_cons,e]
theorem eL {p:κ×V}{r:List (κ×V)}{k:κ} (e: ¬p.1=k):valV (p::r) k=valV r k:=by simp [valV,List.find?_cons,e]
theorem jS (k:κ): ∀kvs:List (κ×V),(kvs.any fun kv=>decide (kv.1=k))=(valV kvs k).isSome
 |[]=>rfl
 |p::r=>by
  rw [List.any_cons]
  by_cases e:p.1=k
  ·simp only [fC e,decide_eq_true e,Bool.true_or,Option.isSome_some]
  ·rw [eL e,decide_eq_false e,Bool.false_or];exact jS k r
theorem gO (kvs:List (κ×V)) (k:κ) (v:V):(putK kvs k v).length<=kvs.length+1:=by
 unfold putK
 split
 ·rw [List.length_map];lia
 ·rw [List.length_append,List.length_cons,List.length_nil];lia
theorem RelO.isSome_eq {o:Option V}{u:Option Value} (r:RelO o u):o.isSome=u.isSome:=by
 cases o with
 |none=>cases u with
  |none=>rfl
  |some _=>exact (show False from r).elim
 |some _=>cases u with
  |none=>exact (show False from r).elim
  |some _=>rfl
theorem RelO.getD {o:Option V}{u:Option Value}{d:V}{d':Value} (r:RelO o u) (rd:RelV d d'):RelV (o.getD d) (u.getD d'):=by
 cases o with
 |none=>cases u with
  |none=>exact rd
  |some _=>exact (show False from r).elim
 |some _=>cases u with
  |none=>exact (show False from r).elim
  |some _=>exact r
theorem KV.val {kvs:List (κ×V)}{vs:List (κ×Value)} (r:KV kvs vs) (k:κ):RelO (valV kvs k) (valueAt vs k):=by
 unfold KV at r
 induction r with
 |nil=>exact True.intro
 | @cons p q ps qs h t ih=>
  obtain ⟨h1,h2⟩:=h
  by_cases e:p.1=k
  ·have e':q.1=k:=h1.symm.trans e
   have b:valueAt (q::qs) k=some q.2:=by simp [valueAt,List.find?_cons,e']
   rw [fC e,b];exact h2
  ·have e': ¬q.1=k:=fun z=>e (h1.trans z)
   have b:valueAt (q::qs) k=valueAt qs k:=by simp [valueAt,List.find?_cons,e']
   rw [eL e,b];exact ih
theorem KV.any {kvs:List (κ×V)}{vs:List (κ×Value)} (r:KV kvs vs) (k:κ):(kvs.any fun kv=>decide (kv.1=k))=vs.any fun kv=>decide (kv.1=k):=by
 unfold KV at r
 induction r with
 |nil=>rfl
 |cons h t ih=>rw [List.any_cons,List.any_cons,ih,h.1]
theorem KV.repl {kvs:List (κ×V)}{vs:List (κ×Value)} (r:KV kvs vs) (k:κ) {y:V}{u:Value} (ry:RelV y u):
  KV (kvs.map fun kv=>if kv.1=k then (kv.1,y) else kv) (vs.map fun kv=>if kv.1=k then (kv.1,u) else kv):=by
 unfold KV at r|-
 induction r with
 |nil=>exact .nil
 | @cons p q ps qs h t ih=>
  rw [List.map_cons,List.map_cons]
  refine .cons ?_ ih
  obtain ⟨h1,h2⟩:=h
  by_cases e:p.1=k
  ·rw [if_pos e,if_pos (h1.symm.trans e)];exact ⟨h1,ry⟩
  ·rw [if_neg e,if_neg (fun z=>e (h1.trans z))];exact ⟨h1,h2⟩
theorem KV.put {kvs:List (κ×V)}{vs:List (κ×Value)} (r:KV kvs vs) (k:κ) {y:V}{u:Value} (ry:RelV y u):KV (putK kvs k y) (stored vs k u):=by
 unfold putK stored
 rw [r.any k]
 by_cases e:(vs.any fun kv=>decide (kv.1=k))=true
 ·rw [if_pos e,if_pos e];exact r.repl k ry
 ·rw [if_neg e,if_neg e];exact Paired.snoc r ⟨rfl,ry⟩
theorem KV.length {kvs:List (κ×V)}{vs:List (κ×Value)} (r:KV kvs vs):kvs.length=vs.length:=Paired.length r
end
theorem gP {P:Program}{w:World}{k:Key}{u:Value} (r:RelV (kV k) u):(aM P w).is k u=true:=by
 cases k with
 |inl i=>obtain ⟨t,e⟩:=(show∃t,u=Value.int i t from r);subst e;exact ng P w i t
 |inr x=>obtain ⟨t,e⟩:=(show∃t,u=Value.str x t from r);subst e;exact nh P w x t
theorem jT {P:Program}{w:World}: ∀{ks:List Key}{us:List Value},Vals (ks.map kV) us->ItemsAre (aM P w) ks us
 |[],_,r=>by rw [List.map_nil] at r;cases r;exact .nil
 |k::ks,_,r=>by
  rw [List.map_cons] at r
  cases r with
  |cons h t=>exact .cons (gP h) (jT t)
noncomputable abbrev KT (H:Hp):List (List Key×V)->List (List Key×Addr×Value)->Prop:=Paired fun p q=>p.1=q.1/\H q.2.1=some (.tup (p.1.map kV))/\RelV p.2 q.2.2
theorem KT.val {H:Hp}{kvs:List (List Key×V)}{xs:List (List Key×Addr×Value)} (r:KT H kvs xs) (k:List Key):RelO (valV kvs k) ((atKey xs k).map (·.2)):=by
 induction r with
 |nil=>exact True.intro
 | @cons p q ps qs h t ih=>
  obtain ⟨h1,_,h2⟩:=h
  by_cases e:p.1=k
  ·have e':q.1=k:=h1.symm.trans e
   have b:atKey (q::qs) k=some q.2:=by simp [atKey,List.find?_cons,e']
   rw [fC e,b];exact h2
  ·have e': ¬q.1=k:=fun z=>e (h1.trans z)
   have b:atKey (q::qs) k=atKey qs k:=by simp [atKey,List.find?_cons,e']
   rw [eL e,b];exact ih
theorem KT.repl {H:Hp}{kvs:List (List Key×V)}{xs:List (List Key×Addr×Value)} (r:KT H kvs xs) (k:List Key) {y:V}{u:Value} (ry:RelV y u):
  KT H (kvs.map fun kv=>if kv.1=k then (kv.1,y) else kv) (xs.map (putAt k u)):=by
 induction r with
 |nil=>exact .nil
 | @cons p q ps qs h t ih=>
  rw [List.map_cons,List.map_cons]
  refine .cons ?_ ih
  obtain ⟨h1,h2,h3⟩:=h
  unfold putAt
  by_cases e:p.1=k
  ·rw [if_pos e,if_pos (h1.symm.trans e)];exact ⟨h1,h2,ry⟩
  ·rw [if_neg e,if_neg (fun z=>e (h1.trans z))];exact ⟨h1,h2,h3⟩
theorem KT.put {H:Hp}{kvs:List (List Key×V)}{xs:List (List Key×Addr×Value)} (r:KT H kvs xs) (k:List Key) {b:Addr}{y:V}{u:Value} (hb:H b=some (.tup (k.map kV))) (ry:RelV y u):
  KT H (putK kvs k y) (storedH xs k b u):=by
 have e:(kvs.any fun kv=>decide (kv.1=k))=(atKey xs k).isSome:=by
  rw [jS,(r.val k).isSome_eq,Option.isSome_map]
 unfold putK storedH
 rw [e]
 by_cases q:(atKey xs k).isSome=true
 ·rw [if_pos q,if_pos q];exact r.repl k ry
 ·rw [if_neg q,if_neg q];exact Paired.snoc r ⟨rfl,hb,ry⟩
theorem KT.keeps {H H':Hp}{kvs:List (List Key×V)}{xs:List (List Key×Addr×Value)} (r:KT H kvs xs) (ht: ∀b ys,H b=some (.tup ys)->H' b=some (.tup ys)):KT H' kvs xs:=
 Paired.mapP r fun _ _ z=>⟨z.1,ht _ _ z.2.1,z.2.2⟩
section
variable {P:Program}{w:World}{H:Hp}{h:Heap}{a:Addr}
theorem gQ {u:HO} (ok:HOk P w H h) (e:Rd H a u):ax P w H h a u:=e.ok ok
theorem gR {kvs:List (Key×V)} (ok:HOk P w H h) (e:Rd H a (.dK kvs)):kvs.length<=sizeLine/\(a==sysModules)=false/\ ∃vs,KV kvs vs/\h.DictOf (aM P w) a vs:=
 show ax P w H h a (.dK kvs) from gQ ok e
theorem pF {kvs:List (Key×V)} (ok:HOk P w H h) (e:H a=some (.dK kvs)):kvs.length<=sizeLine/\(a==sysModules)=false/\ ∃vs,KV kvs vs/\h.DictOf (aM P w) a vs:=gR ok (.inl e)
theorem fD {ks:List Key} (ok:HOk P w H h) (e:H a=some (.tup (ks.map kV))):(tupleKind (aM P w)).is h ks a:=by
 obtain ⟨_,its,r,o,h1,h2,⟨n,h3⟩,_⟩:=(show ax P w H h a (.tup (ks.map kV)) from ok a _ e)
 exact ⟨o,its.toArray,n,h1,h2,h3,by simpa using jT r⟩
theorem eM {kvs:List (List Key×V)} (ok:HOk P w H h) (e:Rd H a (.dT kvs)):kvs.length<=sizeLine/\(a==sysModules)=false/\
  ∃xs,KT H kvs xs/\h.DictOfH (tupleKind (aM P w)) a xs:=by
 obtain ⟨z,y,xs,r,o,es,ep,h1,h2,h3,h4,h5⟩:=(show ax P w H h a (.dT kvs) from gQ ok e)
 refine ⟨z,y,xs,r,o,es,ep,h1,h2,h3,h4,fun x hx=> ?_,h5⟩
 have all: ∀{l:List (List Key×V)}{m:List (List Key×Addr×Value)},KT H l m-> ∀x∈m,(tupleKind (aM P w)).is h x.1 x.2.1:=by
  intro l m q
  induction q with
  |nil=>intro x hx;exact nomatch hx
  | @cons p q ps qs hq t ih=>
   intro x hx
   rcases List.mem_cons.mp hx with e|hx
   ·subst e
    exact fD ok (by rw [<-hq.1];exact hq.2.1)
   ·exact ih x hx
 exact all r x hx
theorem jU {kvs:List (List Key×V)} (ok:HOk P w H h) (e:H a=some (.dT kvs)):kvs.length<=sizeLine/\(a==sysModules)=false/\
  ∃xs,KT H kvs xs/\h.DictOfH (tupleKind (aM P w)) a xs:=eM ok (.inl e)
end
noncomputable def DGet (H:Hp) (a:Addr) (y:V) (r:Option V):Prop:=
 (∃kvs k,Rd H a (.dK kvs)/\y=kV k/\r=valV kvs k) \/ ∃kvs k b,Rd H a (.dT kvs)/\y= .ref b/\H b=some (.tup (k.map kV))/\r=valV kvs k
noncomputable def DPut (H:Hp) (a:Addr) (y v:V) (H':Hp):Prop:=
 (∃kvs k,H a=some (.dK kvs)/\y=kV k/\kvs.length<sizeLine/\H'=upd H a (.dK (putK kvs k v))) \/
 ∃kvs k b,H a=some (.dT kvs)/\y= .ref b/\H b=some (.tup (k.map kV))/\kvs.length<sizeLine/\H'=upd H a (.dT (putK kvs k v))
theorem DPut.t {H:Hp}{a b:Addr}{kvs:List (List Key×V)}{k:List Key}{v:V} (e:H a=some (.dT kvs)) (eb:H b=some (.tup (k.map kV))) (hl:kvs.length<sizeLine):
  DPut H a (.ref b) v (upd H a (.dT (putK kvs k v))):= .inr ⟨kvs,k,b,e,rfl,eb,hl,rfl⟩
section
variable {X:Cx}{pins:List (Addr×Obj)}{σ:St}{H:Hp}{s:Shared}{a:Addr}{y v:V}{u r:Value}{o:Option V}{A:Around}{E:Value->Shared->Prop}
theorem Inv.big (I:Inv X pins σ H s):sysModules<s.heap.objs.size:=by
 have h:mainGlobals<s.heap.objs.size:=(I.mod.glob.keeps I.bk).lt
 exact Nat.lt_trans (by decide) h
theorem pG {Q:Value->Shared->Prop} (hu:A.units+1<cLine) (I:Inv X pins σ H s) (g:DGet H a y (some v)) (ry:RelV y u) (h: ∀w' s',Inv X pins σ H s'->RelV v w'->Q w' s'):
  wpAny (model X.prog X.w) A (getItem (.ref a) u) Q E s:=by
 rcases g with ⟨kvs,k,e,ey,l⟩|⟨kvs,k,b,e,ey,eb,l⟩
 ·subst ey
  obtain ⟨z,hd,vs,rel,dd⟩:=gR I.hok e
  obtain ⟨w',hw,rw'⟩:=RelO.some_of (v:=v) (o:=valueAt vs k) (by rw [l];exact rel.val k)
  exact wpAny_getItem_of (gP ry) dd.mapOf hw (h w' _ (I.tok _) rw')
 ·subst ey
  cases (show u=Value.ref b from ry)
  obtain ⟨z,hd,xs,rel,dd⟩:=eM I.hok e
  obtain ⟨w',hw,rw'⟩:=RelO.some_of (v:=v) (o:=(atKey xs k).map (·.2)) (by rw [l];exact rel.val k)
  obtain ⟨p,hp,hp2⟩:=Option.map_eq_some_iff.mp hw
  refine wpAny_getItem_heap (tupleKind_room_in1 hu) (fD I.hok eb) dd hp ?_
  rw [hp2]
  exact h w' _ (I.tok _) rw'
theorem gS {h':Heap}{t':Nat}{ob:HO} (I:Inv X pins σ H s) (mu:Mut (H a)) (hs:Heap.SameBut a s.heap h') (he: ∃q,h'.get? a=some q) (new:ax X.prog X.w (upd H a ob) h' a ob):
  Inv X pins σ (upd H a ob) {s with heap:=h',toks:=t'}:=
 I.write (x:=a) (e:=a) mu (.inl rfl) (fun b q hb z=>(hs.2 b hb).trans z) he new
theorem pH {P:Program}{w:World}{H':Hp}{h':Heap}{kvs:List (Key×V)}{vs:List (Key×Value)} (z:kvs.length<=sizeLine) (hd:(a==sysModules)=false) (rel:KV kvs vs) (dd:h'.DictOf (aM P w) a vs):
  ax P w H' h' a (.dK kvs):=⟨z,hd,vs,rel,dd⟩
theorem pI {H':Hp}{Q:Unit->Shared->Prop} (hu:A.units+1<cLine) (I:Inv X pins σ H s) (g:DPut H a y v H') (ry:RelV y u) (rv:RelV v r) (h: ∀s',Inv X pins σ H' s'->Q () s'):
  wpAny (model X.prog X.w) A (setItem (.ref a) u r) Q E s:=by
 rcases g with ⟨kvs,k,e,ey,l,eH⟩|⟨kvs,k,b,e,ey,eb,l,eH⟩
 ·subst ey eH
  obtain ⟨z,hd,vs,rel,dd⟩:=pF I.hok e
  have hz:vs.length<=sizeLine:=by rw [<-rel.length];exact z
  have hl:(putK kvs k v).length<=sizeLine:=by have:=gO kvs k v;lia
  refine wpAny_setItem_pairs (hsz:=hz) (gP ry) dd fun h' dd' hs=>h _ ?_
  have he: ∃q,h'.get? a=some q:=let ⟨q,_,_,hq,_⟩:=dd';⟨q,hq⟩
  exact gS I (by rw [e];exact True.intro) hs he (pH hl hd (rel.put k rv) dd')
 ·subst ey eH
  cases (show u=Value.ref b from ry)
  obtain ⟨z,hd,xs,rel,dd⟩:=jU I.hok e
  have hz:xs.length<=sizeLine:=by rw [<-Paired.length rel];exact z
  have hl:(putK kvs k v).length<=sizeLine:=by have:=gO kvs k v;lia
  refine wpAny_setItem_heap (hsz:=hz) (tupleKind_room_in1 hu) (fD I.hok eb) dd fun h' dd' hs=>h _ ?_
  obtain ⟨q,es,ep,hq,h2,h3,h4,_,h5⟩:=dd'
  refine gS I (by rw [e];exact True.intro) hs ⟨q,hq⟩ ⟨hl,hd,_,(rel.put k eb rv).keeps fun c ys ec=> ?_,q,es,ep,hq,h2,h3,h4,h5⟩
  rw [au (jl ec e (fun z=>nomatch z))]
  exact ec
end
section
variable {X:Cx}{pins:List (Addr×Obj)}{σ:St}{H:Hp}{s:Shared}{a:Addr}{kvs:List (Key×V)}{k:Key}{u:Value}{A:Around}{E:Value->Shared->Prop}
end
noncomputable def NoSl (i:Expr):Prop:= ∀ov iv,subscripted i false ov iv=operate [ov,iv] (getItem ov iv)
theorem pJ {prog:Program}{w:World}{A:Around}{E:Value->Shared->Prop}{s:Shared}{env:Env}{value slice:Expr}{pos:Pos}{T id:String}{Q:Value->Shared->Prop}
  (hl:typeLookup (.type T) "__getitem__"=pure (some (.builtin id))) (hs:NoSl slice)
  (h:wpAny (model prog w) A (eval value env) (fun o s₁=>wpAny (model prog w) A (eval slice env) (fun i s₂=>s₂.TypeIs o T/\wpAny (model prog w) A (getItem o i) Q E s₂) E s₁) E s):
  wpAny (model prog w) A (eval (.Subscript value slice pos) env) Q E s:=by
 refine Subscript_ (wpAny_mono h (fun o s₁ h₁=>wpAny_mono h₁ (fun i s₂ h₂=> ?_) fun _ _ x=>x) fun _ _ x=>x)
 obtain ⟨hT,h₂⟩:=h₂
 unfold subscriptTail
 refine wpAny_bind ?_
 rw [getitemInPython_of_ne hT.not_modules]
 refine wpAny_bind (wpAny_specialOf hT hl ?_)
 have fin:wpAny (model prog w) A (subscripted slice false o i) (fun r s₃=>wpAny (model prog w) A (letTemporaryGo value o r>>=fun _=>pure r) Q E s₃) E s₂:=by
  rw [hs o i]
  exact wpAny_operating (wpAny_mono h₂ (fun r s₃ h₃=>wpAny_bind (wpAny_letTemporaryGo (wpAny_pure h₃))) fun _ _ x=>x)
 first
  |exact wpAny_pure (wpAny_bind fin)
  |exact wpAny_bind (wpAny_pure (wpAny_bind fin))
  |exact wpAny_bind fin
theorem pK {X:Cx}{pins:List (Addr×Obj)}{σ:St}{H:Hp}{s:Shared}{a:Addr}{y:V}{o:Option V} (I:Inv X pins σ H s) (g:DGet H a y o):s.TypeIs (.ref a) "dict":=by
 rcases g with ⟨kvs,k,e,_,_⟩|⟨kvs,k,b,e,_,_,_⟩
 ·obtain ⟨_,_,vs,_,dd⟩:=gR I.hok e
  exact dd.typeIs
 ·obtain ⟨_,_,xs,_,dd⟩:=eM I.hok e
  exact dd.typeIs
noncomputable def pL (td ty:TE):TE:=fun σ H Q=>td σ H fun x H1=>ty σ H1 fun y H2=> ∃a v,x= .ref a/\DGet H2 a y (some v)/\Q v H2
noncomputable def pM (td ty tv:TE):TS:=fun D σ H=>tv σ H fun v H1=>td σ H1 fun x H2=>ty σ H2 fun y H3=> ∃a H4,x= .ref a/\DPut H3 a y v H4/\D.nx σ H4
section
variable {X:Cx}{o i e value:Expr}{pos pos' tpos:Pos}{td ty tv:TE}
theorem pN (hu:X.A.units+1<cLine) (ho:PE X o td) (hi:PE X i ty) (hs:NoSl i):PE X (.Subscript o i pos) (pL td ty):=by
 intro pins s σ H Q I h
 refine pJ PySem.F.slot_dict_getitem.lookup hs (thn (ho pins s σ H _ I h) fun u s1 ⟨x,H1,I1,rx,q1⟩=>thn (hi pins s1 σ H1 _ I1 q1) fun iv s2 ⟨y,H2,I2,ry,a,v,ex,g,q2⟩=> ?_)
 subst ex
 obtain rfl:u=Value.ref a:=rx
 exact ⟨pK I2 g,pG hu I2 g ry fun w' s3 I3 rw'=>⟨v,H2,I3,rw',q2⟩⟩
theorem pO (hu:X.A.units+1<cLine) (ho:PE X o td) (hi:PE X i ty) (hv:PE X value tv) (hs:swapsWith value (some (.Subscript o i pos')) pos.line X.env=pure false):
  PS X (.Assign [.Subscript o i pos'] value pos) (pM td ty tv):=by
 intro pins s σ H D I h
 refine wpAny_Assign_Subscript (thn (hv pins s σ H _ I h) fun r s1 ⟨v,H1,I1,rv,q1⟩=>thn (ho pins s1 σ H1 _ I1 q1) fun u s2 ⟨x,H2,I2,rx,q2⟩=>thn (hi pins s2 σ H2 _ I2 q2) fun iv s3 ⟨y,H3,I3,ry,a,H4,ex,g,q3⟩=> ?_) hs
 subst ex
 obtain rfl:u=Value.ref a:=rx
 exact pI hu I3 g ry rv fun s4 I4=>⟨σ,H4,I4,q3⟩
end
theorem jV {P:Program}{w:World}{H:Hp} (h:Heap) (hb:sysModules<h.objs.size):ax P w H (h.push {cls:= .type "dict",data:= .dict #[]}) h.objs.size (.dT []):=
 ⟨Nat.zero_le _,beq_eq_false_iff_ne.mpr (Ne.symm (Nat.ne_of_lt hb)),[],.nil,_,#[],0,Heap.get?_push_size _ rfl,⟨rfl,rfl,rfl⟩,rfl,rfl,List.nodup_nil⟩
noncomputable def pP:TE:=fun _ H Q=> ∀p,H p=none->Q (.ref p) (upd H p (.dT []))
section
variable {X:Cx}{pos:Pos}
theorem pQ:PE X (.Dict [] [] pos) pP:=fun pins s σ H Q I h=>
 wpAny_Dict_empty ⟨.ref s.heap.objs.size,_,I.laid (a:=s.heap.objs.size) (o:= .dT []) (t':=s.toks) (fun _ _ q=>Heap.get?_push_of_some _ q) (Nat.le_refl _) (jV s.heap I.big),rfl,h _ (I.hok.fresh (Nat.le_refl _))⟩
end
noncomputable def jW:List (TE×TE)->St->Hp->(List (V×V)->Hp->Prop)->Prop
 |[],_,H,Q=>Q [] H
 |(tk,tv)::r,σ,H,Q=>tk σ H fun x H1=>tv σ H1 fun y H2=>jW r σ H2 fun ps H3=>Q ((x,y)::ps) H3
noncomputable abbrev VV:List (V×V)->List (Value×Value)->Prop:=Paired fun p q=>RelV p.1 q.1/\RelV p.2 q.2
noncomputable def PPs (X:Cx) (pos:Pos) (keys:List (Option Expr)) (values:List Expr) (trs:List (TE×TE)):Prop:=
 ∀(pins:List (Addr×Obj)) (s:Shared) (σ:St) (H:Hp) (Q:List (V×V)->Hp->Prop),Inv X pins σ H s->jW trs σ H Q->
  wpAny (model X.prog X.w) X.A (evalPairs (pairTrees keys values X.env pos)) (fun vs s'=> ∃ps H',Inv X pins σ H' s'/\VV ps vs/\Q ps H') X.xe s
theorem pR {X:Cx}{pos:Pos}:PPs X pos [] [] []:=fun pins s σ H Q I h=>pairTrees_nil_walk ⟨[],H,I,.nil,h⟩
theorem pS {X:Cx}{pos:Pos}{k v:Expr}{ks:List (Option Expr)}{vs:List Expr}{tk tv:TE}{trs:List (TE×TE)} (hk:PE X k tk) (hv:PE X v tv) (hr:PPs X pos ks vs trs):
  PPs X pos (some k::ks) (v::vs) ((tk,tv)::trs):=fun pins s σ H Q I h=>
 pairTrees_cons_walk (thn (hk pins s σ H _ I h) fun u s1 ⟨x,H1,I1,rx,q1⟩=>thn (hv pins s1 σ H1 _ I1 q1) fun w2 s2 ⟨y,H2,I2,ry,q2⟩=>
  thn (hr pins s2 σ H2 _ I2 q2) fun ws s3 ⟨ps,H3,I3,rel,q3⟩=>⟨(x,y)::ps,H3,I3,.cons ⟨rx,ry⟩ rel,q3⟩)
section
variable {X:Cx}{pins:List (Addr×Obj)}{σ:St}{H:Hp}{s:Shared}{a:Addr}{y d:V}{u r:Value}{o:Option V}{A:Around}{E:Value->Shared->Prop}
end
section
variable {X:Cx}{o e f:Expr}{apos cpos:Pos}{td ty tx:TE}
end
section
variable {X:Cx}{pins:List (Addr×Obj)}{σ:St}{H:Hp}{s:Shared}{a:Addr}{kvs:List (Key×V)}{A:Around}{E:Value->Shared->Prop}
end
section
variable {X:Cx}{pins:List (Addr×Obj)}{σ:St}{H:Hp}{s:Shared}{a:Addr}{y:V}{u:Value}{A:Around}{E:Value->Shared->Prop}
end
end L2
namespace Att
open PySem PySem.W PySem.Calls PyProof.Rows
theorem pT {P:Params}{h:Heap}: ∀(ns:List Int) (vs:List Value),WellAll P h vs (ns.map WData.int)->IntsAre vs ns:=by
 intro ns
 induction ns with
 |nil=>
  intro vs w
  rw [List.map_nil] at w
  cases w
  exact .nil
 |cons n ns ih=>
  intro vs w
  rw [List.map_cons] at w
  cases w with
  |cons a b=>
   cases a
   exact .cons _ _ (ih _ b)
theorem pU {l:OpenLaw}{n:Nat} (hn:l.most=some n) {P:Params}{h:Heap}{args:List WData}{vals:List Value}
  (hpre:l.row.toRowW.claim.pre args=true) (hwl:WellAll P h vals args):
  ∃a vs ns,vals=[Value.ref a]/\args=[WData.list (ns.map WData.int)]/\h.get? a=some {cls:= .type "list",data:= .seq vs.toArray}/\IntsAre vs ns/\ns.length<=n:=by
 have hsh:WShape.hasAll [] args [.list .int]=true:=(pre_splitW hpre).1
 have hc:l.pre.holds [] {args:=args}=true:=(pre_splitW hpre).2
 obtain ⟨d,r,rfl,h1,h2⟩:=hasAllW_cons hsh
 obtain rfl:=hasAllW_nil h2
 obtain ⟨xs,rfl,h3⟩:=hasW_list h1
 obtain ⟨ns,rfl⟩:=items_int h3
 have hlen:ns.length<=n:=by
  unfold OpenLaw.pre at hc
  have h4:(WTm.not (.lt (.lit (.int (n:Int))) (.len (.arg 0)))).holds [] {args:=[.list (ns.map .int)]}=true:=by
   have h4:=(holds_andW hc).1
   rw [hn] at h4
   exact h4
  have h5:=condW_of h4 (w_not (w_lt w_lit (w_len_list (w_arg rfl))))
  rw [List.length_map] at h5
  refine Nat.le_of_not_lt fun q=> ?_
  have q':(n:Int)<((ns.length:Nat):Int):=by lia
  first
   |(rw [decide_eq_true q'] at h5;exact absurd h5 (by decide))
   |(simp at h5;lia)
 cases hwl with
 |cons w1 w2=>
  cases w2
  cases w1 with
  |list ho hall=>exact ⟨_,_,ns,rfl,rfl,ho,pT ns _ hall,hlen⟩
theorem pV (l:OpenLaw) (args:List WData):l.row.toRowW.claim.post args (.bool true) args=true:=
 postW_of (r:=l.row.toRowW) (X:=(true==true))
  (show WShape.has [] (.bool true) .bool=true by first|rfl|decide|simp [WShape.has,WShape.arms,WShape.armsAll])
  (show (WTm.eq .res (.lit (.bool true))).value [] {args:=args,res:=some (.bool true),after:=args}=some (.bool (true==true)) from w_eq_bool (w_res rfl) w_lit) rfl
theorem pW {l:OpenLaw}{n:Nat}{q:Program}{loose:List Str}{XP:(Str->Option Value)->Heap->Prop}{YP:World->Heap->Prop}{d:DefRec}
  (hn:l.most=some n) (hdf:d.params.defaults=[])
  (call: ∀(w:World) (s₀ s₁:Shared) (mg mb:Str->Option Value) (fa:Addr) (o:Obj) (pm cd doc:Value) (a:Addr) (vs:List Value) (ns:List Int),
   Ground q loose [] XP w s₀ mg mb s₁.heap->YP w s₁.heap->
   s₁.heap.get? fa=some o->o.data= .func (docDef d.name d.params d.body d.scope pm cd doc)->s₁.heap.CodeRec cd d.name->mg d.name=some (.ref fa)->
   s₁.heap.get? a=some {cls:= .type "list",data:= .seq vs.toArray}->IntsAre vs ns->ns.length<=n->s₁.gens= #[]->
   codeAny (model l.prog w) callerA (.call (.ref fa) ⟨[.ref a],[]⟩) (fun r s'=>r= .ok (.ret (.bool true))/\OldK s₁.heap s'.heap/\s'.os=s₁.os/\AllBare s'.gens) s₁):
  WalkO q loose XP YP l.row.toRowW d [] (fun f vs=>PySem.call f vs):=by
 intro w s₀ s₁ mg mb G Y fa o pm cd doc dV kV ho hd hcd hD hmg hg args vals as hpre hlay hrd hwl hlo
 obtain rfl:dV= .none:=Dflts.none hD hdf
 obtain rfl:kV= .none:=Dflts.noKw hD
 obtain ⟨a,vs,ns,rfl,rfl,hobj,hints,hlen⟩:=pU hn hpre hwl
 refine enter_call (codeAny_mono (call w s₀ s₁ mg mb fa o pm cd doc a vs ns G Y ho (fd_plain hd) hcd hmg hobj hints hlen hg) fun r s' hq=> ?_)
 obtain ⟨rfl,h2,h3,h4⟩:=hq
 exact ⟨.inl ⟨.bool true,.bool true,[],rfl,fun _=>rfl,.bool true,pV l _,fun _=>⟨List.Pairwise.nil,fun _ hm=>(nomatch hm)⟩⟩,h2,h3,h4⟩
section
variable {prog:Program}{w:World}{A:Around}{E:Value->Shared->Prop}{s:Shared}{K:Frag}
end
end Att
namespace L2
open PySem PySem.Spec PyProof.Rows
theorem jX: ∀{vs:List Value}{ns:List Int},IntsAre vs ns->Vals (ns.map V.int) vs
 |_,_,.nil=> .nil
 |_,_,.cons n t h=> .cons ⟨t,rfl⟩ (jX h)
noncomputable def Only (H:Hp):Prop:= ∀b,H b=none \/ ∃o xs,H b=some (.frz o (.lst xs))
theorem pX {P:Program}{w:World}{K:PySem.W.Frag}{mg mb:Str->Option Value}{CX:CXT}{k:Nat}{fa a:Addr}{fd:FuncData}{x:Str}{sp:Sp}{s₁:Shared}{vs:List Value}{ns:List Int}
  (KX:K.In s₁.heap) (hns:s₁.heap.Ns mainGlobals mg) (hb:s₁.heap.Ns builtinsNs mb) (hbb: ∀x:Str,x≠"__name__"->mb x=bootBuiltins x) (hlim:s₁.heap.NoLimit) (hg:s₁.gens= #[])
  (ha:s₁.heap.get? a=some {cls:= .type "list",data:= .seq vs.toArray}) (hi:IntsAre vs ns) (hl:ns.length<=sizeLine) (hr:Room k callerA)
  (F: ∀base:Heap,K.In base->base.Ns mainGlobals mg->FnOk P w K mg base CX k fa fd [x] sp) (hbind: ∀(s:Shared) (u:Value),BindsTo s fd ⟨[u],[]⟩ [(x,u)])
  (hsp: ∀H:Hp,Only H->SqL K H a (ns.map V.int)->sp [.ref a] H (fun v _=>v= .bl true) fun _ _ _=>False)
  (hCX: ∀H e s',CX [] H s₁ (fun _ _ _=>False) e s'->False):
  codeAny (model P w) callerA (.call (.ref fa) ⟨[.ref a],[]⟩) (fun r s'=>r= .ok (.ret (.bool true))/\OldK s₁.heap s'.heap/\s'.os=s₁.os/\AllBare s'.gens) s₁:=by
 have rv:=jX hi
 have lenV:=hi.length
 have core: ∀H:Hp,Only H->SqL K H a (ns.map V.int)->HOk P w H s₁.heap->(∀b,H b≠none->b=a)->(H a≠none->K.lookup a=none)->
   codeAny (model P w) callerA (.call (.ref fa) ⟨[.ref a],[]⟩) (fun r s'=>r= .ok (.ret (.bool true))/\OldK s₁.heap s'.heap/\s'.os=s₁.os/\AllBare s'.gens) s₁:=by
  intro H hO hS hok hA hK
  have base_of: ∀{b:Addr}{o:Obj},s₁.heap.get? b=some o->H b=none->(hidT s₁.heap H).get? b=some o:=fun e n=>nj e n
  have noA: ∀{b:Addr}{o:Obj}{es:Array DictEntry}{ep:Nat},s₁.heap.get? b=some o->o.data= .dict es ep->H b=none:=fun {b o es ep} e d=>by
   cases q:H b with
   |none=>rfl
   |some u=>
    have e':b=a:=hA b (by rw [q];simp)
    subst e'
    rw [ha] at e;cases e
    have d':Data.seq vs.toArray _=Data.dict es ep:=d
    cases d'
  have nsK: ∀{b:Addr}{m:Str->Option Value},s₁.heap.Ns b m->(hidT s₁.heap H).Ns b m:=fun {b m} ⟨o,es,ep,e,d,r⟩=>⟨o,es,ep,base_of e (noA e d),d,r⟩
  have hKb:K.In (hidT s₁.heap H):=fun b o e=>base_of (KX b o e) (by
   cases q:H b with
   |none=>rfl
   |some u=>
    have e':b=a:=hA b (by rw [q];simp)
    subst e'
    rw [hK (by rw [q];simp)] at e;cases e)
  have hM:Mod K mg (hidT s₁.heap H):=⟨hKb,nsK hns,⟨mb,nsK hb,hbb⟩,let ⟨mc,h1,h2⟩:=hlim;⟨mc,nsK h1,h2⟩⟩
  have e0:Env0 P w K mg (hidT s₁.heap H) callerA [] s₁ H:=⟨rfl,hM,fun b o e=>nk e,Nat.le_of_eq (ni _ _),trivial,fun b hb=>absurd (show b∈([]:List Addr) from hb) (by simp),hok,.of_eq hg⟩
  refine codeAny_mono ((F _ hKb (nsK hns)).run callerA [] s₁ H ⟨[.ref a],[]⟩ [.ref a] [.ref a] _ _ hr e0 (hbind s₁ (.ref a)) (.cons rfl .nil) (hsp H hO hS)) fun r s' h=> ?_
  cases r with
  |error e=>exact (hCX H e s' h).elim
  |ok fl=>
   cases fl with
   |next=>exact False.elim h
   |brk=>exact False.elim h
   |cont=>exact False.elim h
   |ret u=>
    obtain ⟨v,H',os,bare,un,hok',r',q⟩:=h
    have q':v= .bl true:=q
    subst q'
    obtain rfl:u=Value.bool true:=r'
    refine ⟨rfl,OldK.of_keep fun b o e=> ?_,os,bare⟩
    cases q:H b with
    |none=>exact un.keep b o e q (by intro z;exact absurd (show b∈([]:List Addr) from z) (by simp)) (by simp)
    |some u=>
     rcases hO b with z|⟨ob,xs,z⟩
     ·rw [q] at z;cases z
     ·have z2:=un.frzs b ob _ z
      obtain ⟨e1,_⟩:=hok b _ z
      obtain ⟨e2,_⟩:=hok' b _ z2
      rw [e] at e1;cases e1
      exact e2
 cases hk:K.lookup a with
 |some o=>
  have e:=KX a o hk
  rw [ha] at e
  cases e
  refine core (fun _=>none) (fun _=> .inl rfl) (.inr ⟨_,vs.toArray,_,hk,rfl,rfl,rfl,by rw [List.size_toArray,lenV];exact hl,by simpa using rv⟩) (fun b u z=>by have z':(none:Option HO)=some u:=z;cases z') (fun b z=>absurd rfl z) fun z=>absurd rfl z
 |none=>
  refine core (fun b=>if b=a then some (.frz {cls:= .type "list",data:= .seq vs.toArray} (.lst (ns.map V.int))) else none) (fun b=> ?_) (.inl (.inr ⟨{cls:= .type "list",data:= .seq vs.toArray},if_pos rfl⟩)) (fun b u z=> ?_) (fun b z=> ?_) fun _=>hk
  ·by_cases hb:b=a
   ·exact .inr ⟨_,_,if_pos hb⟩
   ·exact .inl (if_neg hb)
  ·by_cases hb:b=a
   ·have z':=(if_pos hb).symm.trans z
    cases z'
    subst hb
    exact ⟨ha,by rw [List.length_map];exact hl,vs,_,rv,ha⟩
   ·have z':=(if_neg hb).symm.trans z
    cases z'
  ·by_cases hb:b=a
   ·exact hb
   ·exact absurd (if_neg hb) z
end L2
namespace L2
open PySem PySem.Spec PyProof.Rows
theorem pY {l:PySem.W.OpenLaw}{n k:Nat}{q:Program}{loose:List Str}{XP:(Str->Option Value)->Heap->Prop}{YP:World->Heap->Prop}{d:DefRec}{K:Params->PySem.W.Frag}{CX:World->CXT}{sp:World->Sp}{x:Str}
  (hn:l.most=some n) (hn2:n<=sizeLine) (hdf:d.params.defaults=[]) (hr:Room k callerA)
  (hY: ∀(w:World) (h:Heap),YP w h->(K w.params).In h)
  (F: ∀(w:World) (mg:Str->Option Value) (fa:Addr) (h:Heap),(K w.params).In h->h.Ns mainGlobals mg->mg d.name=some (.ref fa)->
   ∃fd:FuncData,(∀(s:Shared) (u:Value),BindsTo s fd ⟨[u],[]⟩ [(x,u)])/\
    ∀base:Heap,(K w.params).In base->base.Ns mainGlobals mg->FnOk l.prog w (K w.params) mg base (CX w) k fa fd [x] (sp w))
  (hsp: ∀(w:World) (H:Hp) (a:Addr) (ns:List Int),ns.length<=n->Only H->SqL (K w.params) H a (ns.map V.int)->sp w [.ref a] H (fun v _=>v= .bl true) fun _ _ _=>False)
  (hCX: ∀(w:World) (H:Hp) (s:Shared) (e:Value) (s':Shared),CX w [] H s (fun _ _ _=>False) e s'->False):
  PySem.W.WalkO q loose XP YP l.row.toRowW d [] (fun f vs=>PySem.call f vs):=by
 refine Att.pW hn hdf fun w s₀ s₁ mg mb fa o pm cd doc a vs ns G Y ho hd hcd hmg hobj hints hlen hg=> ?_
 have KX:=hY w _ Y
 obtain ⟨fd,hb,hF⟩:=F w mg fa _ KX G.T.g hmg
 exact pX KX G.T.g G.T.b G.T.builtins G.T.nolimit hg hobj hints (Nat.le_trans hlen hn2) hr hF hb (fun H hO hS=>hsp w H a ns hlen hO hS) fun H e s'=>hCX w H s₁ e s'
end L2
namespace L2
open PySem PySem.Spec PyProof.Rows
noncomputable def aX (s:Stmt):Arguments:=match s with
 | .FunctionDef _ a _ _ _ _ _ _ _ _=>a
 |_=>{posonlyargs:=[],args:=[],vararg:=none,kwonlyargs:=[],kw_defaults:=[],kwarg:=none,defaults:=[]}
noncomputable def aQ (s:Stmt):List Stmt:=match s with
 | .FunctionDef _ _ b _ _ _ _ _ _ _=>b
 |_=>[]
noncomputable def aq (s:Stmt):Scope:=match s with
 | .FunctionDef _ _ _ _ _ _ sc _ _ _=>sc
 |_=>{kind:= .function,names:=[],isGenerator:=false,isCoroutine:=false}
noncomputable abbrev CX0:CXT:=fun _ _ _ _ _ _=>False
noncomputable abbrev E0:XK:=fun _ _ _=>False
theorem pZ {X:Cx}:gL CX0 X E0:=fun _ _ _ _ _ _ _ h=>h.elim
structure Fun (K:PySem.W.Frag) (x qual:Str) (st:Stmt) (f:Addr) (fd:FuncData):Prop where
 ex: ∃(oc:Value) (od:Option Addr) (kV doc pm:Value) (an:Option Addr) (cdv ct:Value) (osl:Array (Option Value)),
  fd=PySem.W.fnOf x qual (aX st) (aQ st) (aq st) .none kV doc pm an cdv ct/\K.lookup f=some ⟨oc,od,.func fd,osl⟩/\PySem.W.codeIn K cdv qual=true
 kp:PySem.W.keepIn K (.ref f)=true
section
variable {P:Program}{w:World}{K:PySem.W.Frag}{mg:Str->Option Value}{base:Heap}
theorem Fun.ok {x qual:Str}{st:Stmt}{f:Addr}{fd:FuncData}{N ps:List Str}{k:Nat}{sp:Sp} (F:Fun K x qual st f fd) (S:aW N ps (aq st)) (len: ∀vs H Q E,sp vs H Q E->vs.length=ps.length)
  (hbody: ∀(cdv:Value) (A:Around) (outer:List Env) (s:Shared) (H:Hp) (vs:List V) (Q:VK) (E:XK),Room k (A.deeper (envOfC qual (aq st) s.heap.objs.size f cdv))->sp vs H Q E->
   ∃t,PSs (cxOf CX0 P w K mg base N qual (aq st) f cdv A outer s H E).nox (aQ st) t/\t {nx:=fun _ H'=>Q .non H',rt:=Q} (br N vs) H):FnOk P w K mg base CX0 (k+1) f fd ps sp:=by
 obtain ⟨oc,od,kV,doc,pm,an,cdv,ct,osl,rfl,lk,hcd⟩:=F.ex
 refine oN lk hcd S len fun A outer s H vs Q E hr hsp=> ?_
 obtain ⟨t,h,q⟩:=hbody cdv A outer s H vs Q E hr hsp
 exact ⟨t,h.nox,q⟩
theorem Fun.binds {x qual:Str}{st:Stmt}{f:Addr}{fd:FuncData}{ps:List Str} (F:Fun K x qual st f fd)
  (h: ∀(kV doc pm:Value) (an:Option Addr) (cdv ct:Value) (us:List Value),us.length=ps.length->bindArgs (PySem.W.fnOf x qual (aX st) (aQ st) (aq st) .none kV doc pm an cdv ct) ⟨us,[]⟩=pure (ps.zip us)):dm K fd ps []:=by
 obtain ⟨oc,od,kV,doc,pm,an,cdv,ct,osl,rfl,lk,hcd⟩:=F.ex
 exact .all (h kV doc pm an cdv ct)
theorem bt {x qual:Str}{st:Stmt}{f:Addr}{oc:Value}{od an:Option Addr}{osl:Array (Option Value)}{kV doc pm cdv ct:Value} (l:K.lookup f=some ⟨oc,od,.func (PySem.W.fnOf x qual (aX st) (aQ st) (aq st) .none kV doc pm an cdv ct),osl⟩)
  (c:PySem.W.codeIn K cdv qual=true) (k:PySem.W.keepIn K (.ref f)=true):Fun K x qual st f (PySem.W.fnOf x qual (aX st) (aQ st) (aq st) .none kV doc pm an cdv ct):=⟨⟨oc,od,kV,doc,pm,an,cdv,ct,osl,rfl,l,c⟩,k⟩
end
theorem gU {A:Around}{k:Nat} (hr:Room k A):A.units+1<cLine:=Nat.lt_of_le_of_lt (Nat.add_le_add_left (by decide:1<=64) _) hr.units
section
variable {X:Cx}
theorem pv (i:Nat) {x:Str}{pos:Pos} (hN:X.N[i]?=some x:=by rfl) (hv:Vis X.env.scope x:=by first|exact Or.inl rfl|exact Or.inr (Or.inl rfl)|exact Or.inr (Or.inr rfl)) (hd:(x==("__debug__":Str))=false:=by decide)
  (hcd:(x==("__classdict__":Str))=false:=by decide):PE X (.Name x pos) (tVar i):=nq hN hv hd hcd
end
noncomputable def Same (H H':Hp):Prop:= ∀b o,H b=some o->H' b=some o
theorem Same.refl (H:Hp):Same H H:=fun _ _ h=>h
theorem Same.trans {H H1 H2:Hp} (a:Same H H1) (b:Same H1 H2):Same H H2:=fun c o h=>b c o (a c o h)
theorem Same.free {H H':Hp} (e:Same H H') {l:Addr} (h:H' l=Option.none):H l=Option.none:=by
 cases q:H l with
 |none=>rfl
 |some o=>
  rw [e l o q] at h
  cases h
section
variable {κ:Type} [DecidableEq κ]
end
end L2
set_option maxHeartbeats 4000000
namespace L2
open PySem PySem.Spec PyProof.Rows
noncomputable def pull (ρ:List (Option Nat)) (σ:St):St:=ρ.map fun o=>match o with
 |none=>none
 |some j=>(σ[j]?).getD none
theorem p6 {ρ:List (Option Nat)}{σ:St}{i:Nat}{v:V} (h:(pull ρ σ)[i]?=some (some v)): ∃j,ρ[i]?=some (some j)/\σ[j]?=some (some v):=by
 unfold pull at h
 rw [List.getElem?_map] at h
 cases e:ρ[i]? with
 |none=>rw [e] at h;cases h
 |some o=>
  rw [e] at h
  cases o with
  |none=>cases h
  |some j=>
   refine ⟨j,rfl,?_⟩
   have h':(σ[j]?).getD none=some v:=Option.some.inj h
   cases q:σ[j]? with
   |none=>rw [q] at h';cases h'
   |some z=>rw [q] at h';exact congrArg some h'
noncomputable def bW (scope:Scope) (env:Env):List (Str×Addr):=scope.names.foldl (fun cs x=>if x.2= .free then (x.1,(env.cells.lookup x.1).getD 0)::cs else cs) []
theorem jY {env:Env}: ∀{names:List (Str×NameKind)}{cs:List (Str×Addr)},(∀x∈names,x.2= .free-> ∃c,env.cells.lookup x.1=some c)->
  (forIn names cs fun (x:Str×NameKind) (r:List (Str×Addr))=>(match x with
   |(name,kind)=>if (kind== .free)=true then do
     let a<-cellOf env name
     pure (ForInStep.yield ((name,a)::r))
    else pure (ForInStep.yield r):Sem (ForInStep (List (Str×Addr)))))=pure (names.foldl (fun cs x=>if x.2= .free then (x.1,(env.cells.lookup x.1).getD 0)::cs else cs) cs)
 |[],cs,_=>rfl
 |(n,k)::r,cs,h=>by
  rw [List.forIn_cons,List.foldl_cons]
  have ih:=fun cs=>jY (names:=r) (cs:=cs) fun x hx=>h x (List.mem_cons_of_mem _ hx)
  by_cases hk:k= .free
  ·subst hk
   obtain ⟨c,e⟩:=h (n,.free) List.mem_cons_self rfl
   have e':env.cells.lookup n=some c:=e
   simp only [beq_self_eq_true,if_true,cellOf,e',pure_bind,Option.getD_some]
   exact ih _
  ·have hb:(k==NameKind.free)=false:=by simpa using hk
   simp only [hb,Bool.false_eq_true,if_false,hk,pure_bind]
   exact ih _
theorem p7 {scope:Scope}{env:Env} (h: ∀x∈scope.names,x.2= .free-> ∃c,env.cells.lookup x.1=some c):closureFor scope env=pure (bW scope env):=by
 unfold closureFor bW
 have q:=jY (cs:=[]) h
 simp only [] at q|-
 rw [q]
 rfl
theorem gW {env:Env}: ∀{names:List (Str×NameKind)}{cs:List (Str×Addr)},(∀x∈names,x.2= .free-> ∃c,env.cells.lookup x.1=some c)->(∀p∈cs,env.cells.lookup p.1=some p.2)->
  ∀p∈names.foldl (fun cs x=>if x.2= .free then (x.1,(env.cells.lookup x.1).getD 0)::cs else cs) cs,env.cells.lookup p.1=some p.2
 |[],_,_,hc=>hc
 |(n,k)::r,cs,h,hc=>by
  rw [List.foldl_cons]
  refine gW (names:=r) (fun x hx=>h x (List.mem_cons_of_mem _ hx)) ?_
  by_cases hk:k= .free
  ·subst hk
   obtain ⟨c,e⟩:=h (n,.free) List.mem_cons_self rfl
   have e':env.cells.lookup n=some c:=e
   rw [if_pos rfl]
   intro p hp
   rcases List.mem_cons.mp hp with z|z
   ·subst z
    show env.cells.lookup n=some ((env.cells.lookup n).getD 0)
    rw [e']
    all_goals rfl
   ·exact hc p z
  ·rw [if_neg hk]
   exact hc
theorem jZ {env:Env}{x:Str}: ∀{names:List (Str×NameKind)}{cs:List (Str×Addr)},((x,NameKind.free)∈names \/ ∃c,(x,c)∈cs)->
  ∃c,(x,c)∈names.foldl (fun cs x=>if x.2= .free then (x.1,(env.cells.lookup x.1).getD 0)::cs else cs) cs
 |[],cs,h=>h.elim (fun z=>nomatch z) fun z=>z
 |(n,k)::r,cs,h=>by
  rw [List.foldl_cons]
  refine jZ (names:=r) ?_
  rcases h with h|⟨c,h⟩
  ·rcases List.mem_cons.mp h with z|z
   ·cases z
    rw [if_pos rfl]
    exact .inr ⟨_,List.mem_cons_self⟩
   ·exact .inl z
  ·right
   by_cases hk:k= .free
   ·rw [if_pos hk];exact ⟨c,List.mem_cons_of_mem _ h⟩
   ·rw [if_neg hk];exact ⟨c,h⟩
theorem j1 {α:Type}: ∀{l:List (Str×α)}{x:Str}{c:α},(x,c)∈l-> ∃d,l.lookup x=some d
 |[],_,_,h=>nomatch h
 |(n,a)::r,x,c,h=>by
  rw [List.lookup_cons]
  cases hx:x==n with
  |true=>exact ⟨a,rfl⟩
  |false=>
   rcases List.mem_cons.mp h with z|z
   ·injection z with z1 z2
    rw [z1] at hx
    simp at hx
   ·exact j1 z
theorem j2 {scope:Scope}{env:Env}{x:Str} (h: ∀x∈scope.names,x.2= .free-> ∃c,env.cells.lookup x.1=some c) (hx:scope.names.lookup x=some .free): ∃c,(bW scope env).lookup x=some c/\env.cells.lookup x=some c:=by
 obtain ⟨c,hc⟩:=jZ (env:=env) (cs:=[]) (.inl (PySem.mem_of_lookup hx))
 obtain ⟨d,hd⟩:=j1 hc
 exact ⟨d,hd,gW (cs:=[]) h (fun p hp=>absurd hp (List.not_mem_nil)) _ (PySem.mem_of_lookup hd)⟩
theorem dn {scope:Scope}{env:Env}{x:Str}{c:Addr} (h: ∀x∈scope.names,x.2= .free-> ∃c,env.cells.lookup x.1=some c) (e:(bW scope env).lookup x=some c):env.cells.lookup x=some c:=
 gW (cs:=[]) h (fun p hp=>absurd hp (List.not_mem_nil)) _ (PySem.mem_of_lookup e)
theorem j3 {f:Str×NameKind->NameKind}{x:Str}: ∀{names:List (Str×NameKind)},(names.map fun y=>(y.1,f y)).lookup x=(names.lookup x).map fun k=>f (x,k)
 |[]=>rfl
 |(n,k)::r=>by
  rw [List.map_cons,List.lookup_cons,List.lookup_cons]
  cases hx:x==n with
  |true=>
   have e:x=n:=by simpa using hx
   subst e
   rfl
  |false=>exact j3
theorem j4 {env:Env}{names:List (Str×NameKind)}{x:Str}:(names.map fun (n,k)=>if (k==NameKind.free&&env.scope.kind== .function&&env.kindOf n==some .cell) then (n,NameKind.cell) else (n,k)).lookup x=
  (names.lookup x).map fun k=>if (k==NameKind.free&&env.scope.kind== .function&&env.kindOf x==some .cell) then NameKind.cell else k:=by
 have e:(fun (y:Str×NameKind)=>match y with|(n,k)=>if (k==NameKind.free&&env.scope.kind== .function&&env.kindOf n==some .cell) then (n,NameKind.cell) else (n,k))=
   fun y=>(y.1,if (y.2==NameKind.free&&env.scope.kind== .function&&env.kindOf y.1==some .cell) then NameKind.cell else y.2):=by
  funext ⟨n,k⟩
  dsimp only
  split<;>rfl
 rw [e]
 exact j3
theorem p8 {env:Env}{names:List (Str×NameKind)}{x:Str} (h:names.lookup x=some .free):
  (names.map fun (n,k)=>if (k==NameKind.free&&env.scope.kind== .function&&env.kindOf n==some .cell) then (n,NameKind.cell) else (n,k)).lookup x=some .cell \/
  (names.map fun (n,k)=>if (k==NameKind.free&&env.scope.kind== .function&&env.kindOf n==some .cell) then (n,NameKind.cell) else (n,k)).lookup x=some .free:=by
 rw [j4,h,Option.map_some]
 split
 ·exact .inl rfl
 ·exact .inr rfl
theorem relabel_of {env:Env}{names:List (Str×NameKind)}{x:Str}
  (h:(names.map fun (n,k)=>if (k==NameKind.free&&env.scope.kind== .function&&env.kindOf n==some .cell) then (n,NameKind.cell) else (n,k)).lookup x=some .cell \/
  (names.map fun (n,k)=>if (k==NameKind.free&&env.scope.kind== .function&&env.kindOf n==some .cell) then (n,NameKind.cell) else (n,k)).lookup x=some .free):names.lookup x=some .cell \/names.lookup x=some .free:=by
 rw [j4] at h
 cases e:names.lookup x with
 |none=>rw [e] at h;rcases h with h|h<;>cases h
 |some k=>
  rw [e,Option.map_some] at h
  by_cases hk:k= .free
  ·rw [hk];exact .inr rfl
  ·have hb:(k==NameKind.free)=false:=by simpa using hk
   rw [hb] at h
   simp only [Bool.false_and,Bool.false_eq_true,if_false] at h
   exact h
theorem dL: ∀(names:List (Str×NameKind)) (n:Nat) (acc:List (Str×Addr)),cellsFrom n names acc=cellsFrom n names []++acc
 |[],_,_=>rfl
 |(y,k)::r,n,acc=>by
  unfold cellsFrom
  split
  ·rw [dL r (n+1) ((y,n)::acc),dL r (n+1) [(y,n)],List.append_assoc]
   rfl
  ·exact dL r n acc
theorem cf_mem {x:Str}{c:Addr}: ∀(names:List (Str×NameKind)) (n:Nat) (acc:List (Str×Addr)),(x,c)∈cellsFrom n names acc->((x,NameKind.cell)∈names/\n<=c) \/(x,c)∈acc
 |[],_,_,h=> .inr h
 |(y,k)::r,n,acc,h=>by
  unfold cellsFrom at h
  split at h
  ·next hk=>
   have ek:k= .cell:=by simpa using hk
   rcases cf_mem r (n+1) _ h with ⟨h1,h2⟩|h1
   ·exact .inl ⟨List.mem_cons_of_mem _ h1,by lia⟩
   ·rcases List.mem_cons.mp h1 with z|z
    ·cases z
     exact .inl ⟨by rw [ek];exact List.mem_cons_self,Nat.le_refl _⟩
    ·exact .inr z
  ·rcases cf_mem r n acc h with ⟨h1,h2⟩|h1
   ·exact .inl ⟨List.mem_cons_of_mem _ h1,h2⟩
   ·exact .inr h1
theorem fE {x:Str}: ∀{a b:List (Str×Addr)},(a++b).lookup x=(a.lookup x).or (b.lookup x)
 |[],_=>rfl
 |(y,c)::r,b=>by
  rw [List.cons_append,List.lookup_cons,List.lookup_cons]
  cases x==y with
  |true=>rfl
  |false=>exact fE
theorem cf_look {names:List (Str×NameKind)}{n:Nat}{acc:List (Str×Addr)}{x:Str}{c:Addr} (h:(cellsFrom n names acc).lookup x=some c):
  ((x,NameKind.cell)∈names/\n<=c/\(x,c)∈cellsFrom n names []) \/acc.lookup x=some c:=by
 rw [dL,fE] at h
 cases e:(cellsFrom n names []).lookup x with
 |some d=>
  rw [e] at h
  cases h
  have m:=PySem.mem_of_lookup e
  rcases cf_mem _ _ _ m with ⟨h1,h2⟩|z
  ·exact .inl ⟨h1,h2,m⟩
  ·exact nomatch z
 |none=>rw [e] at h;exact .inr h
theorem p9 {names:List (Str×NameKind)}{n:Nat}{acc:List (Str×Addr)}{x:Str}{c:Addr} (nc:(x,NameKind.cell)∉names) (h:acc.lookup x=some c):(cellsFrom n names acc).lookup x=some c:=by
 rw [dL,fE]
 cases e:(cellsFrom n names []).lookup x with
 |some d=>
  rcases cf_mem _ _ _ (PySem.mem_of_lookup e) with ⟨h1,_⟩|z
  ·exact absurd h1 nc
  ·exact nomatch z
 |none=>exact h
theorem qc {M:Model}{A:Around}{E:Value->Shared->Prop}{s:Shared}{scope:Scope}{globals:Addr}{cl:List (Str×Addr)}{qual:Str}{env:Env}{builtins:Addr}{Q:Env->Shared->Prop}
  (hQ: ∀h',h'.Ns s.heap.objs.size (fun _=>none)->(∀b o,s.heap.get? b=some o->h'.get? b=some o)->(∀n c,(n,c)∈cellsFrom (s.heap.objs.size+1) scope.names []->h'.IsCell c none)->((cellsFrom (s.heap.objs.size+1) scope.names []).Pairwise fun x y=>x.2≠y.2)->
   Q (newEnv scope s.heap.objs.size globals (cellsFrom (s.heap.objs.size+1) scope.names cl) qual none .none (some env) builtins) {s with heap:=h'}):
  wpAny M A (newFunctionEnv scope globals cl [] qual none .none (some env) builtins) Q E s:=by
 simp only [newFunctionEnv,Option.isSome_some,if_true]
 refine wpAny_bind (wpAny_alloc ?_)
 refine wpAny_bind (wpAny_layCells _ (fun name kind cells=>by cases hkc:kind==NameKind.cell<;>simp [hkc]) _ _ _ _ ?_)
 have ok:=cellsFrom_ok scope.names (s.heap.push {cls:= .type "dict",data:= .dict #[]}) (s.heap.objs.size+1) [] ⟨fun _ _ hm=>(nomatch hm),List.Pairwise.nil⟩ (by rw [Heap.size_push];exact Nat.le_refl _)
 rw [Heap.size_push] at ok
 rw [show ({s with heap:=s.heap.push {cls:= .type "dict",data:= .dict #[]}}:Shared).heap.objs.size=s.heap.objs.size+1 from Heap.size_push ..]
 rw [List.forIn_nil]
 refine wpAny_bind (wpAny_pure (wpAny_pure ?_))
 exact hQ _ ((Heap.Ns.new s.heap (.type "dict")).keeps (pushCells_keeps _ _)) (fun b o e=>pushCells_keeps _ _ b o (Heap.get?_push_of_some _ e)) (fun n c hm=>(ok.empty n c hm).1) ok.apart
noncomputable def dr (sc osc:Scope) (N N':List Str) (ρ:List (Option Nat)):Bool:=
 decide (sc.kind= .function)&&decide (N'.length=ρ.length)&&
 sc.names.all (fun y=>(decide (y.2≠ .cell)||decide (sc.names.lookup y.1=some .cell))&&(decide (y.2≠ .local)||decide (sc.names.lookup y.1=some .local))&&(decide (y.2≠ .free)||(decide (osc.names.lookup y.1=some .cell)||decide (osc.names.lookup y.1=some .free))))&&
 (N'.zip ρ).all (fun p=>match p.2 with
  |none=>true
  |some j=>decide (N[j]?=some p.1)&&decide (sc.names.lookup p.1=some .free))
structure fF (sc osc:Scope) (N N':List Str) (ρ:List (Option Nat)):Prop where
 kind:sc.kind= .function
 len:N'.length=ρ.length
 cell: ∀y∈sc.names,y.2= .cell->sc.names.lookup y.1=some .cell
 loc: ∀y∈sc.names,y.2= .local->sc.names.lookup y.1=some .local
 free: ∀y∈sc.names,y.2= .free->osc.names.lookup y.1=some .cell \/osc.names.lookup y.1=some .free
 from_: ∀(i j:Nat) (x:Str),N'[i]?=some x->ρ[i]?=some (some j)->N[j]?=some x/\sc.names.lookup x=some .free
theorem j5 {sc osc:Scope}{N N':List Str}{ρ:List (Option Nat)} (h:dr sc osc N N' ρ=true):fF sc osc N N' ρ:=by
 unfold dr at h
 rw [Bool.and_eq_true,Bool.and_eq_true,Bool.and_eq_true] at h
 obtain ⟨⟨⟨h1,h2⟩,h3⟩,h4⟩:=h
 have h3':=List.all_eq_true.mp h3
 have h4':=List.all_eq_true.mp h4
 refine ⟨of_decide_eq_true h1,of_decide_eq_true h2,fun y hy e=> ?_,fun y hy e=> ?_,fun y hy e=> ?_,fun i j x e1 e2=> ?_⟩
 ·have q:=h3' y hy
  rw [Bool.and_eq_true,Bool.and_eq_true,Bool.or_eq_true] at q
  rcases q.1.1 with z|z
  ·exact absurd e (of_decide_eq_true z)
  ·exact of_decide_eq_true z
 ·have q:=h3' y hy
  rw [Bool.and_eq_true,Bool.and_eq_true,Bool.or_eq_true,Bool.or_eq_true] at q
  rcases q.1.2 with z|z
  ·exact absurd e (of_decide_eq_true z)
  ·exact of_decide_eq_true z
 ·have q:=h3' y hy
  rw [Bool.and_eq_true,Bool.or_eq_true,Bool.or_eq_true] at q
  rcases q.2 with z|z|z
  ·exact absurd e (of_decide_eq_true z)
  ·exact .inl (of_decide_eq_true z)
  ·exact .inr (of_decide_eq_true z)
 ·have hm:(x,some j)∈N'.zip ρ:=by
   refine List.mem_of_getElem? (i:=i) ?_
   rw [List.getElem?_zip_eq_some]
   exact ⟨e1,e2⟩
  have q:=h4' _ hm
  rw [Bool.and_eq_true] at q
  exact ⟨of_decide_eq_true q.1,of_decide_eq_true q.2⟩
noncomputable def az (X:Cx) (scope:Scope) (N':List Str) (C:Addr) (s:Shared) (H:Hp) (fp:List Addr):Cx where
 prog:=X.prog
 w:=X.w
 K:=X.K
 mg:=X.mg
 base:=X.base
 A:=X.A
 N:=N'
 s₀:=s
 H₀:=H
 env:=compEnvC scope (cellsFrom (C+1) scope.names (bW scope X.env)) C X.env
 outer:=X.stack
 stack:=X.stack
 ex:=fp
 fn:=fun x=>scope.names.lookup x==some .cell
 calm:=X.calm
 pn:=[]
 xe:=fun _ _=>False
section
variable {X:Cx}{pins:List (Addr×Obj)}{σ:St}{H:Hp}{s:Shared}{scope:Scope}{N':List Str}{ρ:List (Option Nat)}
theorem Inv.cells_of (I:Inv X pins σ H s) (ck:fF scope X.env.scope X.N N' ρ): ∀x∈scope.names,x.2= .free-> ∃c,X.env.cells.lookup x.1=some c:=fun x hx e=>I.ok.has x.1 (ck.free x hx e)
theorem qd (I:Inv X pins σ H s) {fp:List Addr} (hf: ∀b∈fp,FpOk X pins H b) {b:Addr}{o:Obj} (e:X.base.get? b=some o):b∉fp:=fun hb=>by
 obtain ⟨_,_,_,h,_⟩:=hf b hb
 rcases h with h|h
 ·exact I.ok.noex b o e h
 ·exact absurd (Nat.lt_of_lt_of_le (Heap.lt_size (I.ok.bs b o e).1) h) (Nat.lt_irrefl _)
theorem j6 (I:Inv X pins σ H s) {fp:List Addr} (hf: ∀b∈fp,FpOk X pins H b) {b:Addr} (hb:b∈fp):b∉frs X.stack:=fun h=>by
 obtain ⟨_,n1,n2,_⟩:=hf b hb
 rcases List.mem_cons.mp (I.stkSub b h) with z|z
 ·exact n1 z
 ·exact n2 z
theorem Inv.block (I:Inv X pins σ H s) (ck:fF scope X.env.scope X.N N' ρ) {fp:List Addr} (hf: ∀b∈fp,FpOk X pins H b) (hfo: ∀b∈fp,∃o,s.heap.get? b=some o)
  {C l:Addr}{lo:Obj}{h':Heap}{t':Nat} (hk: ∀b o,s.heap.get? b=some o->h'.get? b=some o) (hC:s.heap.objs.size<=C) (hn:h'.Ns C fun _=>none) (hcl: ∀n c,(n,c)∈cellsFrom (C+1) scope.names []->h'.IsCell c none) (hap:(cellsFrom (C+1) scope.names []).Pairwise fun x y=>x.2≠y.2)
  (hl:s.heap.objs.size<=l) (hlC:l≠C) (hlo:h'.get? l=some lo) (hld: ∀v,lo.data≠ .cell v):Inv (az X scope N' C s H fp) [(l,lo)] (pull ρ σ) H {s with heap:=h',toks:=t'}:=by
 have hfr:=I.cells_of ck
 have young: ∀{b:Addr}{o:Obj},s.heap.get? b=some o-> ∀{a:Addr},s.heap.objs.size<=a->b≠a:=fun e _ ha z=>by
  subst z
  exact absurd (Nat.lt_of_lt_of_le (Heap.lt_size e) ha) (Nat.lt_irrefl _)
 have cold: ∀{x:Str}{c:Addr},(bW scope X.env).lookup x=some c->c<s.heap.objs.size:=fun {x c} e=>by
  obtain ⟨v,o,ho,_⟩:=I.cell x c (dn hfr e)
  exact Heap.lt_size ho
 refine ⟨⟨I.ok.mod,ck.kind,I.ok.glob,I.ok.blt,hC,fun x y c h1 h2=> ?_,fun x hx=> ?_,fun x c hfn h=> ?_,I.ok.hd,I.ok.frames,.inl rfl,fun b hb=>⟨?_,fun x c e=> ?_⟩,I.bs,Nat.le_trans I.ok.bsz I.sz,fun b o e=>qd I hf e,
  fun b hb=>j6 I hf hb,I.stack,I.stkFree⟩,rfl,I.bare,Un.kept hk,⟨_,hn,fun i x v e1 e2 e3=> ?_⟩,fun x c e=> ?_,I.hok.fresh hC,fun x c e=> ?_,fun p hp=> ?_,I.hok.kept hk,?_⟩
 ·rcases cf_look h1 with ⟨_,g1,m1⟩|h1<;>rcases cf_look h2 with ⟨_,g2,m2⟩|h2
  ·exact PySem.name_of_addr hap m1 m2
  ·exact absurd (Nat.lt_of_lt_of_le (Nat.lt_of_lt_of_le (cold h2) hC) (Nat.le_of_succ_le g1)) (Nat.lt_irrefl _)
  ·exact absurd (Nat.lt_of_lt_of_le (Nat.lt_of_lt_of_le (cold h1) hC) (Nat.le_of_succ_le g2)) (Nat.lt_irrefl _)
  ·exact I.ok.inj x y c (dn hfr h1) (dn hfr h2)
 ·rcases relabel_of hx with hx|hx
  ·exact Option.isSome_iff_exists.mp (PySem.W.cellsFrom_some scope.names (C+1) (bW scope X.env) (.inl hx))
  ·obtain ⟨c,e,_⟩:=j2 hfr hx
   exact Option.isSome_iff_exists.mp (PySem.W.cellsFrom_some scope.names (C+1) (bW scope X.env) (.inr (by rw [e];rfl)))
 ·have hfn':scope.names.lookup x=some .cell:=by
   have q:(scope.names.lookup x==some NameKind.cell)=true:=hfn
   simpa using q
  have hh:(cellsFrom (C+1) scope.names (bW scope X.env)).lookup x=some c:=h
  obtain ⟨d,hd⟩:=Option.isSome_iff_exists.mp (PySem.W.cellsFrom_some scope.names (C+1) [] (.inl hfn'))
  rw [dL,fE,hd] at hh
  cases hh
  rcases cf_mem _ _ _ (PySem.mem_of_lookup hd) with ⟨_,g⟩|z
  ·exact Nat.le_trans hC (Nat.le_of_succ_le g)
  ·exact nomatch z
 ·obtain ⟨o,e⟩:=hfo b hb
  exact young e hC
 ·rcases cf_look e with ⟨_,g,_⟩|e
  ·obtain ⟨o,eo⟩:=hfo b hb
   exact Ne.symm (young eo (by lia))
  ·exact (hf b hb).2.2.2.2.1 x c (dn hfr e)
 ·obtain ⟨j,r1,r2⟩:=p6 e2
  obtain ⟨n1,n2⟩:=ck.from_ i j x e1 r1
  obtain ⟨m,hm,hl'⟩:=I.loc
  have kd:=ck.free _ (PySem.mem_of_lookup n2) rfl
  obtain ⟨u,r,lk⟩:=hl' j x v n1 r2 (.inr kd)
  refine ⟨u,r,.inr ⟨p8 n2,?_⟩⟩
  obtain ⟨c,c1,c2⟩:=j2 hfr n2
  refine ⟨c,p9 (fun z=>by have:=ck.cell _ z rfl;rw [n2] at this;cases this) c1,?_⟩
  rcases lk with ⟨k,_⟩|⟨_,c',e',⟨o,ho,hd⟩⟩
  ·rcases kd with kd|kd
   ·have k':X.env.scope.names.lookup x=some .local:=k
    rw [show X.env.scope.names.lookup x=some .cell from kd] at k';cases k'
   ·have k':X.env.scope.names.lookup x=some .local:=k
    rw [show X.env.scope.names.lookup x=some .free from kd] at k';cases k'
  ·rw [c2] at e';cases e'
   exact ⟨o,hk _ o ho,hd⟩
 ·rcases cf_look e with ⟨_,_,m⟩|e
  ·exact ⟨none,hcl x c m⟩
  ·obtain ⟨v,o,ho,hd⟩:=I.cell x c (dn hfr e)
   exact ⟨v,o,hk _ o ho,hd⟩
 ·rcases cf_look e with ⟨_,g,_⟩|e
  ·exact I.hok.fresh (by lia)
  ·exact I.freeC x c (dn hfr e)
 ·have hp':p∈[(l,lo)]:=hp
  rcases List.mem_cons.mp hp' with z|z
  ·subst z
   refine ⟨hlo,I.hok.fresh hl,hlC,fun z=> ?_,hld⟩
   have z':l∈frs X.stack:=z
   rcases List.mem_cons.mp (I.stkSub l z') with q|q
   ·exact absurd (Nat.lt_of_lt_of_le (q▸I.lt) hl) (Nat.lt_irrefl _)
   ·exact I.nofs hl q
  ·exact nomatch z
 ·show (pull ρ σ).length=N'.length
  unfold pull
  rw [List.length_map,ck.len]
theorem Inv.unblock {s':Shared}{fp:List Addr}{C l:Addr}{σc:St}{Hc:Hp}{acc:List V}{its:List Value}{n:Nat} (I:Inv X pins σ H s) (hf: ∀b∈fp,FpOk X pins H b)
  (hC:s.heap.objs.size<=C) (hl:s.heap.objs.size<=l) (J:Inv (az X scope N' C s H fp) [(l,{cls:= .type "list",data:= .seq its.toArray n})] σc Hc s') (r:Vals acc its) (hz:acc.length<=sizeLine):
  Hc l=none/\Inv X pins σ (upd Hc l (.lst acc)) s':=by
 obtain ⟨hlo,hln,hlC,hlf,_⟩:=J.pin (l,{cls:= .type "list",data:= .seq its.toArray n}) (List.mem_append_right _ List.mem_cons_self)
 have hln:Hc l=none:=hln
 have hlo:s'.heap.get? l=some {cls:= .type "list",data:= .seq its.toArray n}:=hlo
 refine ⟨hln,?_⟩
 have hb:=J.base
 have young: ∀{b:Addr}{o:Obj},s.heap.get? b=some o->b≠l:=fun e z=>by
  subst z
  exact absurd (Nat.lt_of_lt_of_le (Heap.lt_size e) hl) (Nat.lt_irrefl _)
 refine I.call' (ch:=fp) J.os ⟨fun b o e n h1 h2=>hb.keep b o e n h1 h2,fun b o e n h1 h2=>hb.slot b o e n h1 h2,fun b o e n h2=> ?_,fun b o e h2=>hb.there b o e h2,fun b xs e=> ?_,fun b o u e=> ?_,fun b ps e=> ?_⟩ ?_ J.bare fun b hb'=> ?_
 ·rw [au (young e)]
  exact hb.free b o e n h2
 ·have q:=hb.tups b xs e
  rw [au (bp q hln)]
  exact q
 ·have q:=hb.frzs b o u e
  rw [au (bp q hln)]
  exact q
 ·have q:=hb.tbls b ps e
  rw [au (bp q hln)]
  exact q
 ·intro a o e
  by_cases ha:a=l
  ·subst ha
   rw [ay] at e
   cases e
   exact ⟨hz,its,n,r,hlo⟩
  ·rw [au ha] at e
   exact (J.hok a o e).stay (fun _ _ _ q=>q) (fun c q=>by rw [au (bp q hln)];exact q) (fun c xs q=>by rw [au (bp q hln)];exact q) fun c _ _ _ q=>by rw [au (bp q hln)];exact q
 ·obtain ⟨f0,f1,f2,f3,f4,f5⟩:=hf b hb'
  exact ⟨f3,f1,f4,f5⟩
end
section
variable {prog:Program}{w:World}{A:Around}{R:Result->Shared->Prop}{s:Shared}
noncomputable abbrev X0:Value->Shared->Prop:=fun _ _=>False
theorem qf {α:Type}{t:Sem α}{M:Model}{Q:α->Shared->Prop}{E:Value->Shared->Prop} (h:wpAny M A t Q X0 s):wpAny M A t Q E s:=wpAny_mono h (fun _ _ q=>q) fun _ _ z=>False.elim z
theorem qj {l:Addr}{its:List Value}{k:Nat}{y:Value}{E:Value->Shared->Prop}{Q:Value->Shared->Prop} (hl:s.heap.get? l=some {cls:= .type "list",data:= .seq its.toArray k}) (hz:its.length<=sizeLine)
  (h: ∀h' k',h'.get? l=some {cls:= .type "list",data:= .seq (its++[y]).toArray k'}->(∀b o,b≠l->s.heap.get? b=some o->h'.get? b=some o)->Q .none {s with heap:=h'}):
  wpAny (model prog w) A (call (.builtin "list.append") [.ref l,y]) Q E s:=by
 refine wpAny_list_append_plain ⟨k,hl⟩ (fun h' hp sb=> ?_) (by rw [List.size_toArray];exact hz)
 obtain ⟨k',e⟩:=hp
 refine h h' k' ?_ fun b o hb q=>(sb.2 b hb).trans q
 rw [e]
 simp
theorem qk {elt target iter:Expr}{ifs:List Expr}{scope:Scope}{pos:Pos}{it acc:Value}{env:Env} (I:Nat->Shared->Prop)
  (turn: ∀n s,I n s->wpAny (model prog w) A (pyNext it) (fun r s₁=>match r with
   |none=>R (.ok .next) s₁
   |some v=>wpAny (model prog w) A (letOwnedTupleGo target it v) (fun _ s₁'=>wpAny (model prog w) A (assign target env v) (fun _ s₂=>
     wpAny (model prog w) A (forIn ifs true fun c r=>if r=true then do let ok<-isTrue c env (eval c env);pure (ForInStep.yield ok) else pure (ForInStep.yield r)) (fun ok s₃=>
      if ok=true then wpAny (model prog w) A (eval elt env) (fun x s₄=>
       wpAny (model prog w) A (call (.builtin "list.append") [acc,x]) (fun _ s₅=> ∃m,m<n/\I m s₅) X0 s₄) X0 s₃
      else∃m,m<n/\I m s₃) X0 s₂) X0 s₁') X0 s₁) X0 s)
  (n:Nat) (h:I n s):codeAny (model prog w) A (.compLoop (.ListComp elt [⟨target,iter,ifs,0⟩] scope pos) 0 it acc env) R s:=by
 refine codeAny_loop rfl I (fun n s hI=> ?_) n h
 show wpAny _ A ((compTurn (.ListComp elt [⟨target,iter,ifs,0⟩] scope pos) 0 it acc env).onRaise (fun x=>do noteFrame x env;theTreesLotGoes x)) _ _ s
 refine wpAny_noted ?_
 rw [compTurn_list]
 refine wpAny_bind (wpAny_standAt (wpAny_bind (qf (wpAny_mono (turn n s hI) (fun r s₁ h₁=> ?_) fun _ _ h'=>False.elim h'))))
 cases r with
 |none=>exact wpAny_pure h₁
 |some v=>
  refine wpAny_bind (wpAny_mono h₁ (fun _ s₁' h₁'=> ?_) fun _ _ h'=>False.elim h')
  refine wpAny_bind (wpAny_mono h₁' (fun _ s₂ h₂=>wpAny_bind (wpAny_mono h₂ (fun ok s₃ h₃=> ?_) fun _ _ h'=>False.elim h')) fun _ _ h'=>False.elim h')
  cases ok with
  |false=>exact wpAny_pure ⟨rfl,h₃⟩
  |true=>
   exact wpAny_bind (wpAny_bind (wpAny_mono h₃ (fun x s₄ h₄=>wpAny_bind (wpAny_mono h₄ (fun _ s₅ h₅=>wpAny_pure (wpAny_pure ⟨rfl,h₅⟩)) fun _ _ h'=>False.elim h')) fun _ _ h'=>False.elim h'))
end
noncomputable def PTs (X:Cx) (ifs:List Expr) (t:TT):Prop:=
 ∀(pins:List (Addr×Obj)) (s:Shared) (σ:St) (H:Hp) (Q:Bool->Hp->Prop),Inv X pins σ H s->t σ H Q->
  wpAny (model X.prog X.w) X.A (forIn ifs true fun c r=>if r=true then do let ok<-isTrue c X.env (eval c X.env);pure (ForInStep.yield ok) else pure (ForInStep.yield r)) (TP X pins σ Q) X.xe s
noncomputable def tYes:TT:=fun _ H Q=>Q true H
theorem qm {X:Cx}:PTs X [] tYes:=fun _ _ _ H _ I h=>wpAny_tests_nil ⟨H,I,h⟩
noncomputable def eN (ρ:List (Option Nat)) (wi:TI) (g:TG) (tt:TT) (te:TE):TE:=fun σ H Q=>wi σ H fun J H1=> ∃W:Nat->Nat->List V->St->Hp->Prop,(∃m,W 0 m [] (pull ρ σ) H1)/\ ∀i m acc σc Hc,W i m acc σc Hc->
 (J.stop i Hc/\acc.length<=sizeLine/\ ∀l,Hc l=none->Q (.ref l) (upd Hc l (.lst acc))) \/
 (J.go i Hc/\acc.length<sizeLine/\ ∃N:List V->St->Hp->Prop,(∀acc' σ' H',N acc' σ' H'-> ∃m',m'<m/\W (i+1) m' acc' σ' H')/\
  ∀x H',J.yld i Hc x H'->g x σc H' fun σ2 H2=>tt σ2 H2 fun b H3=>if b=true then te σ2 H3 fun v H4=>N (acc++[v]) σ2 H4 else N acc σ2 H3)
section
variable {X:Cx}{scope:Scope}{N':List Str}{ρ:List (Option Nat)}{tg iter elt:Expr}{ifs:List Expr}{pos:Pos}{wi:TI}{g:TG}{tt:TT}{te:TE}
theorem j7 {use:Option (Value->Sem Unit)}{pins:List (Addr×Obj)}{s:Shared}{σ:St}{H:Hp}{Q:VK}{QQ:Value->Shared->Prop} (hc:X.calm=true) (hi:PI X tg iter wi)
  (hg: ∀C s H fp,PG (az X scope N' C s H fp) tg g) (ht: ∀C s H fp,PTs (az X scope N' C s H fp) ifs tt) (he: ∀C s H fp,PE (az X scope N' C s H fp) elt te)
  (ck:fF scope X.env.scope X.N N' ρ) (hs: ∀x,foldedSetIterable iter X.env x=pure x) (I:Inv X pins σ H s) (h:eN ρ wi g tt te σ H Q)
  (post: ∀(l C:Addr) (m:Str->Option Value) (H':Hp) (s':Shared),Inv X pins σ H' s'->Q (.ref l) H'->s'.heap.Ns C m->H' C=none->C≠X.env.locals->(X.s₀.heap.objs.size<=C)->(∀x c,X.env.cells.lookup x=some c->c≠C)->(∀p∈X.pn++pins,p.1≠C)->
   compPost (model X.prog X.w) X.A X.xe use QQ (.ref l) C (.ok .next) s'):
  wpAny (model X.prog X.w) X.A (comprehension (.ListComp elt [⟨tg,iter,ifs,0⟩] scope pos) scope X.env (firstIterPos [⟨tg,iter,ifs,0⟩] pos) (newList []) false (eval iter X.env) use) QQ X.xe s:=by
 have hfr:=I.cells_of ck
 refine wpAny_comprehension_free rfl hs (p7 hfr) ck.kind ck.loc ?_
 refine thn (hi pins s σ H _ I h) fun v s1 h1=>thn h1 fun itv s2 h2=> ?_
 obtain ⟨it,fp,tn,J,H2,e,I2,T,st2,f2,W,⟨m0,w0⟩,turn⟩:=h2
 subst e
 refine wpAny_newObj_type (qc fun h₁ hns₁ hsb₁ hcl₁ hap₁=> ?_)
 dsimp only at hns₁ hsb₁ hcl₁ hap₁|-
 generalize hH2:s2.heap.push {cls:= .type "list",dict:=none,data:= .seq ([]:List Value).toArray}=G2 at hns₁ hsb₁ hcl₁ hap₁|-
 have hCs:G2.objs.size=s2.heap.objs.size+1:=by rw [<-hH2,Heap.size_push]
 have hlC:s2.heap.objs.size≠G2.objs.size:=by rw [hCs];exact Nat.ne_of_lt (Nat.lt_succ_self _)
 have hC:s2.heap.objs.size<=G2.objs.size:=by rw [hCs];exact Nat.le_succ _
 have old: ∀b o,s2.heap.get? b=some o->h₁.get? b=some o:=fun b o e=>hsb₁ b o (hH2▸Heap.get?_push_of_some _ e)
 have hlo:h₁.get? s2.heap.objs.size=some {cls:= .type "list",data:= .seq ([]:List Value).toArray}:=hsb₁ _ _ (hH2▸Heap.get?_push_size _ rfl)
 have hfo: ∀b∈fp,∃o,s2.heap.get? b=some o:=fun b hb=>let ⟨o,e,_⟩:=T.obj _ _ st2 b hb;⟨o,e⟩
 have I3:Inv (az X scope N' G2.objs.size s2 H2 fp) [(s2.heap.objs.size,{cls:= .type "list",data:= .seq ([]:List Value).toArray})] (pull ρ σ) H2 {s2 with heap:=h₁}:=
  I2.block (t':=s2.toks) ck f2 hfo old hC hns₁ hcl₁ hap₁ (Nat.le_refl _) hlC hlo (fun v z=>nomatch z)
 have st3:tn 0 h₁:=T.keep _ _ _ st2 fun b _ o e=>old b o e
 have fpok: ∀{Hc:Hp}{lo:Obj},(∀b∈fp,Hc b=none)-> ∀b∈fp,FpOk (az X scope N' G2.objs.size s2 H2 fp) [(s2.heap.objs.size,lo)] Hc b:=fun {Hc lo} hn b hb=>by
  obtain ⟨o,ho⟩:=hfo b hb
  have ne: ∀{a:Addr},s2.heap.objs.size<=a->b≠a:=fun ha z=>by
   subst z
   exact absurd (Nat.lt_of_lt_of_le (Heap.lt_size ho) ha) (Nat.lt_irrefl _)
  refine ⟨hn b hb,ne hC,j6 I2 f2 hb,.inl hb,fun x c e=>by
   rcases cf_look e with ⟨_,g,_⟩|e
   ·exact Ne.symm (ne (by lia))
   ·exact (f2 b hb).2.2.2.2.1 x c (dn hfr e),fun p hp=> ?_⟩
  have hp':p∈[(s2.heap.objs.size,lo)]:=hp
  rcases List.mem_cons.mp hp' with z|z
  ·subst z;exact Ne.symm (ne (Nat.le_refl _))
  ·exact nomatch z
 have loop: ∀s₃:Shared,s₃={s2 with heap:=h₁}->
   codeAny (model X.prog X.w) X.A (.compLoop (.ListComp elt [⟨tg,iter,ifs,0⟩] scope pos) 0 (.ref it) (.ref s2.heap.objs.size) (compEnvC scope (cellsFrom (G2.objs.size+1) scope.names (bW scope X.env)) G2.objs.size X.env))
    (compPost (model X.prog X.w) X.A X.xe use QQ (.ref s2.heap.objs.size) G2.objs.size) s₃:=by
  rintro s₃ rfl
  refine qk (fun n s'=> ∃i acc its k σc Hc,Inv (az X scope N' G2.objs.size s2 H2 fp) [(s2.heap.objs.size,{cls:= .type "list",data:= .seq (its:List Value).toArray k})] σc Hc s'/\Vals acc its/\tn i s'.heap/\(∀b∈fp,Hc b=none)/\W i n acc σc Hc) ?_ m0
   ⟨0,[],[],0,_,_,I3,.nil,st3,fun b hb=>(f2 b hb).1,w0⟩
  rintro n s4 ⟨i,acc,its,k,σ4,H4,I4,rv,st4,fr4,w4⟩
  rcases turn i n acc σ4 H4 w4 with ⟨stop,hz,q⟩|⟨go,hz,N,hN,step⟩
  ·refine thn (T.done (az X scope N' G2.objs.size s2 H2 fp) rfl rfl rfl hc i _ s4 σ4 H4 X0 I4 (fpok fr4) st4 stop) fun r s5 ⟨hr,I5⟩=> ?_
   subst hr
   obtain ⟨hln,I6⟩:=I2.unblock f2 hC (Nat.le_refl _) I5 rv hz
   obtain ⟨m,hm,_⟩:=I5.loc
   have hcn:H4 G2.objs.size=none:=I5.free
   have f6:=I2.fpOk hC (H':=H2) (I2.hok.fresh hC)
   exact post s2.heap.objs.size G2.objs.size m _ s5 I6 (q _ hln) hm (by rw [au (Ne.symm hlC)];exact hcn) f6.2.1 (Nat.le_trans I2.sz hC) f6.2.2.2.2.1 f6.2.2.2.2.2
  ·refine thn (T.item (az X scope N' G2.objs.size s2 H2 fp) rfl rfl rfl hc i _ s4 σ4 H4 X0 I4 (fpok fr4) st4 go) fun r s5 ⟨u,hr,h5⟩=> ?_
   subst hr
   refine thn h5 fun _ s6 ⟨x,H6,I6,r6,y6,st6,fr6⟩=> ?_
   have I6':=I6.pinned (fpok fr6) (T.obj _ _ st6)
   refine thn (hg G2.objs.size s2 H2 fp _ s6 σ4 H6 x u _ I6' r6 (step x H6 y6)) fun _ s7 ⟨σ7,H7,I7,q7⟩=> ?_
   refine thn (ht G2.objs.size s2 H2 fp _ s7 σ7 H7 _ I7 q7) fun b s8 ⟨H8,I8,q8⟩=> ?_
   have stay: ∀{σ9:St}{H9:Hp}{s9:Shared},Inv (az X scope N' G2.objs.size s2 H2 fp) ([(s2.heap.objs.size,{cls:= .type "list",data:= .seq its.toArray k})]++eJ fp s6.heap) σ9 H9 s9->tn (i+1) s9.heap/\ ∀b∈fp,H9 b=none:=fun {σ9 H9 s9} I9=>by
    refine ⟨T.keep _ _ _ st6 fun b hb o e=>(I9.pin (b,o) (List.mem_append_right _ (List.mem_append_right _ (fy hb e)))).1,fun b hb=> ?_⟩
    obtain ⟨o,e,d⟩:=T.obj _ _ st6 b hb
    exact (I9.pin (b,o) (List.mem_append_right _ (List.mem_append_right _ (fy hb e)))).2.1
   cases b with
   |false=>
    rw [if_neg Bool.false_ne_true]
    rw [if_neg Bool.false_ne_true] at q8
    obtain ⟨m',hm,w9⟩:=hN _ _ _ q8
    obtain ⟨a1,a2⟩:=stay I8
    exact ⟨m',hm,i+1,acc,its,k,σ7,H8,I8.unpinned,rv,a1,a2,w9⟩
   |true=>
    rw [if_pos rfl]
    rw [if_pos rfl] at q8
    refine thn (he G2.objs.size s2 H2 fp _ s8 σ7 H8 _ I8 q8) fun y s9 ⟨v,H9,I9,r9,q9⟩=> ?_
    obtain ⟨m',hm,w9⟩:=hN _ _ _ q9
    obtain ⟨a1,a2⟩:=stay I9
    have J9:=I9.unpinned
    obtain ⟨p1,p2,p3,p4,p5⟩:=J9.pin (s2.heap.objs.size,{cls:= .type "list",data:= .seq its.toArray k}) (List.mem_append_right _ List.mem_cons_self)
    have p1:s9.heap.get? s2.heap.objs.size=some {cls:= .type "list",data:= .seq its.toArray k}:=p1
    have hlen:=rv.length
    refine qj p1 (by lia) fun h10 k' g10 sb10=>⟨m',hm,i+1,acc++[v],its++[y],k',σ7,H9,?_,Vals.append rv (.cons r9 .nil),?_,a2,w9⟩
    ·have nfp:s2.heap.objs.size∉fp:=fun z=>by
      obtain ⟨o,e⟩:=hfo _ z
      exact absurd (Heap.lt_size e) (Nat.lt_irrefl _)
     have J10:Inv (az X scope N' G2.objs.size s2 H2 fp) [] σ7 H9 s9:=J9.pins_of fun p hp=>nomatch hp
     have ncell: ∀x c,(az X scope N' G2.objs.size s2 H2 fp).env.cells.lookup x=some c->c≠s2.heap.objs.size:=fun x c e z=>by
      obtain ⟨v',o',ho',hd'⟩:=J10.cell x c e
      rw [z,p1] at ho'
      cases ho'
      cases hd'
     have J11:Inv (az X scope N' G2.objs.size s2 H2 fp) [] σ7 H9 {s9 with heap:=h10}:=J10.turned (t':=s9.toks) (it:=s2.heap.objs.size) (fun b o hb e=>sb10 b o hb e) p2 p3 (.inr (Nat.le_refl _)) ncell (fun p hp=>nomatch hp)
     refine J11.pins_of fun p hp=> ?_
     rcases List.mem_cons.mp hp with z|z
     ·subst z
      exact ⟨g10,p2,p3,p4,fun v z=>nomatch z⟩
     ·exact nomatch z
    ·refine T.keep _ _ _ a1 fun b hb o e=>sb10 b o (fun z=> ?_) e
     subst z
     obtain ⟨o',e'⟩:=hfo _ hb
     exact absurd (Heap.lt_size e') (Nat.lt_irrefl _)
 exact codeAny_compStart_list (loop _ rfl) (T.self X.A 0 _ _ _ st3 (loop _ rfl))
theorem j8 (N':List Str) (ρ:List (Option Nat)) (hc:X.calm=true) (hi:PI X tg iter wi)
  (hg: ∀C s H fp,PG (az X scope N' C s H fp) tg g) (ht: ∀C s H fp,PTs (az X scope N' C s H fp) ifs tt) (he: ∀C s H fp,PE (az X scope N' C s H fp) elt te)
  (ck:dr scope X.env.scope X.N N' ρ=true) (hs: ∀x,foldedSetIterable iter X.env x=pure x:=by intro _;rfl):
  PE X (.ListComp elt [⟨tg,iter,ifs,0⟩] scope pos) (eN ρ wi g tt te):=by
 intro pins s σ H Q I h
 rw [eval_ListComp]
 refine j7 (use:=none) hc hi hg ht he (j5 ck) hs I h fun l C m H' s' I' q hm hC h1 h2 h3 h4=> ?_
 refine ⟨m,hm,fun h'' sb=> ?_⟩
 refine ⟨.ref l,H',?_,rfl,q⟩
 exact I'.turned (t':=s'.toks) (it:=C) (fun b o hb e=>(sb.2 b hb).trans e) hC h1 (.inr h2) h3 h4
theorem qo {i:Nat}{x:Str}{pos' spos:Pos} (N':List Str) (ρ:List (Option Nat)) (hN:X.N.Nodup) (hx:X.N[i]?=some x) (hl:Loc X.env.scope x) (hc:X.calm=true) (hi:PI X tg iter wi)
  (hg: ∀C s H fp,PG (az X scope N' C s H fp) tg g) (ht: ∀C s H fp,PTs (az X scope N' C s H fp) ifs tt) (he: ∀C s H fp,PE (az X scope N' C s H fp) elt te)
  (ck:dr scope X.env.scope X.N N' ρ=true) (hsw:swapsWith (.ListComp elt [⟨tg,iter,ifs,0⟩] scope pos) (some (.Name x pos')) spos.line X.env=pure true:=by rfl)
  (hs: ∀x,foldedSetIterable iter X.env x=pure x:=by intro _;rfl) (hf:X.fn x=true \/X.env.scope.names.lookup x=some .local:=by first|exact .inl rfl|exact .inr rfl|assumption):
  PS X (.Assign [.Name x pos'] (.ListComp elt [⟨tg,iter,ifs,0⟩] scope pos) spos) (tAsg (eN ρ wi g tt te) (dI i)):=by
 intro pins s σ H D I h
 rw [exec_Assign_Name_used _ _ _ _ hsw]
 refine wpAny_bind (wpAny_standAt (wpAny_bind ?_))
 show wpAny _ X.A (do let _<-comprehension (.ListComp elt [⟨tg,iter,ifs,0⟩] scope pos) scope X.env _ (newList []) false (eval iter X.env) (some (assign (.Name x pos') X.env))) _ _ s
 refine wpAny_bind (wpAny_mono (j7 (use:=some (assign (.Name x pos') X.env)) (QQ:=fun _ s'=>SP X pins D .next s') (Q:=fun v H'=>D.nx (σ.set i (some v)) H') hc hi hg ht he (j5 ck) hs I h fun l C m H' s' I' q hm hC h1 h2 h3 h4=> ?_)
  (fun _ s' hq=>wpAny_pure (wpAny_pure hq)) fun _ _ e=>e)
 show wpAny _ X.A (assign (.Name x pos') X.env (.ref l)) _ _ _
 refine wpAny_assign_Name (jn I' hN hx hl (v:= .ref l) rfl (fun s2 I2 ⟨a,sb,ha⟩=> ?_) hf)
 have neC:C≠a:=by
  rcases ha with z|z
  ·rw [z];exact h1
  ·exact Ne.symm (h3 x a z)
 refine ⟨m,hm.sameBut sb neC,fun h'' sb''=> ?_⟩
 refine ⟨σ.set i (some (.ref l)),H',?_,q⟩
 exact I2.turned (t':=s2.toks) (it:=C) (fun b o hb e=>(sb''.2 b hb).trans e) hC h1 (.inr h2) h3 h4
end
end L2
set_option maxHeartbeats 4000000
namespace L2
open PySem PySem.Spec PyProof.Rows
section
variable {X:Cx}
theorem qp:bj X (.builtin "isinstance") (fun xs H Q=> ∃x T t b,xs=[x,.ty T]/\TyOf X.K H x t/\PySem.W.kitOne X.K t (.type T)=some b/\Q (.bl b) H):=by
 intro pins s σ H xs us Q I r h
 obtain ⟨x,T,t,b,rfl,ty,e,q⟩:=h
 obtain ⟨u,v,rfl,ru,rv⟩:=r.two
 have ev:v=Value.type T:=rv
 subst ev
 exact oG I ru ty e fun tk=>⟨.bl b,H,I.tok _,rfl,q⟩
noncomputable def j9 (i j:Int):Prop:=0<=j/\(Builtin.Int.intBits i:Int)*j<=2^27
theorem eO:OpR X (binaryOp .Pow) (rI j9 fun i j=> .int (i^j.toNat)):=opI fun _ _ _ _ _ _ _ hc q=>pow_int hc.1 hc.2 q
noncomputable def ka (i j:Int):Prop:=IntMulOk i j
theorem cq:OpR X (binaryOp .Mult) (rI ka fun i j=> .int (i*j)):=opI fun _ _ _ _ _ _ _ hc q=>mul_int q hc
noncomputable def Def (P:Program) (w:World) (K:PySem.W.Frag) (mg:Str->Option Value) (base:Heap) (k:Nat) (x:Str) (ps:List Str) (sp:Sp):Prop:=
 ∃f fd,FnOk P w K mg base CX0 k f fd ps sp/\mg x=some (.ref f)/\PySem.W.keepIn K (.ref f)=true/\dm K fd ps []
noncomputable def tCal (sp:Sp) (t:TA):TE:=fun σ H Q=>t σ H fun vs H1=>sp vs H1 Q E0
theorem kc {k:Nat}{x:Str}{ps:List Str}{sp:Sp}{e:Expr}{es:List Expr}{t:TA}{p pos:Pos} (D:Def X.prog X.w X.K X.mg X.base k x ps sp) (hr:Room k X.A) (ha:PA X (e::es) t) (hg:Gl X x:=by rfl)
  (hdb:(x==("__debug__":Str))=false:=by decide) (he:starEach (e::es) X.env=(false,eval e X.env)::starEach es X.env:=by rfl) (hpl:(backTo pos (starEach es X.env)).any (·.1)=false:=by rfl):
  PE X (.Call (.Name x p) (e::es) [] pos) (tCal sp t):=by
 obtain ⟨f,fd,F,hm,kp,hb⟩:=D
 intro pins s σ H Q I h
 refine oK (E:=E0) (dvs:=[]) (ds:=[]) F hr hg hm kp hb .nil pZ ha hdb he hpl pins s σ H Q I ?_
 have e:gK sp [] E0 t=tCal sp t:=by
  funext σ H Q
  unfold gK tCal
  congr 1
  funext vs H1
  rw [List.append_nil]
 rw [e]
 exact h
theorem bB {P:Program}{w:World}{K:PySem.W.Frag}{mg:Str->Option Value}{base:Heap}{k:Nat}{x:Str}{ps:List Str}{sp:Sp}{st:Stmt}{f:Addr}{fd:FuncData} (F:Fun K x x st f fd) (hm:mg x=some (.ref f))
  (G:FnOk P w K mg base CX0 k f fd ps sp) (b:dm K fd ps []):Def P w K mg base k x ps sp:=⟨f,fd,G,hm,F.kp,b⟩
end
theorem Same.upd {H:Hp}{a:Addr}{o:HO} (h:H a=none):Same H (upd H a o):=fun b u e=>by
 rw [au (bp e h)]
 exact e
theorem bX:bootBuiltins "len"=some (.builtin "len"):=by decide+kernel
theorem qt:bootBuiltins "isinstance"=some (.builtin "isinstance"):=by decide+kernel
theorem qu:bootBuiltins "sorted"=some (.builtin "sorted"):=by decide+kernel
theorem kg:bootBuiltins "sum"=some (.builtin "sum"):=by decide+kernel
theorem gX:bootBuiltins "all"=some (.builtin "all"):=by decide+kernel
theorem kh:bootBuiltins "bool"=some (.type "bool"):=by decide+kernel
theorem ki:bootBuiltins "int"=some (.type "int"):=by decide+kernel
theorem qw:bootBuiltins "str"=some (.type "str"):=by decide+kernel
theorem eP:bootBuiltins "list"=some (.type "list"):=by decide+kernel
theorem dM:bootBuiltins "tuple"=some (.type "tuple"):=by decide+kernel
end L2
set_option maxHeartbeats 4000000
namespace L2
open PySem PySem.Spec PyProof.Rows
variable {KF:PySem.W.Frag}
structure LamD where
 qual:Str
 params:Arguments
 body:Expr
 scope:Scope
noncomputable def FnG (H:Hp) (a:Addr) (L:LamD):Prop:= ∃(pm ctv:Value) (c:Addr) (oc:Obj) (vs:Array Value) (t:Tok),H a=some (.frz (PySem.W.kla_obj "<lambda>" L.qual L.params L.body L.scope [] pm c ctv) (.own 0))/\H c=some (.frz oc (.own 0))/\oc.data= .fields vs/\vs[1]?=some (.str L.qual t)
noncomputable def FnC (H:Hp) (a:Addr) (L:LamD) (x:Str) (i:Int):Prop:= ∃(pm ctv:Value) (c cl:Addr) (oc ol:Obj) (vs:Array Value) (t tk:Tok),H a=some (.frz (PySem.W.kla_obj "<lambda>" L.qual L.params L.body L.scope [(x,cl)] pm c ctv) (.own 0))/\H c=some (.frz oc (.own 0))/\H cl=some (.frz ol (.own 0))/\oc.data= .fields vs/\vs[1]?=some (.str L.qual t)/\ol.data= .cell (some (.int i tk))
inductive Dv where
 |non|bl (b:Bool)|int (i:Int)|str (x:Str)|lst (xs:List Dv)|tup (xs:List Dv)|dic (kvs:List (List Key×Dv))
 |scr (ns:List Int)
 |fn (L:LamD)
 |fc (L:LamD) (x:Str) (i:Int)
 |dik (kvs:List (Key×Dv))
 |ins (C:Addr) (fs:List (Str×Dv))
instance:Inhabited Dv:=⟨.non⟩
mutual
noncomputable def Dv.toPy:Dv->PyData
 | .non=> .none
 | .bl b=> .bool b
 | .int i=> .int i
 | .str x=> .str x
 | .lst xs=> .list (bZ xs)
 | .tup xs=> .tuple (bZ xs)
 | .dic _=> .dict []
 | .scr _=> .dict []
 | .fn _=> .dict []
 | .fc _ _ _=> .dict []
 | .dik _=> .dict []
 | .ins _ _=> .dict []
noncomputable def bZ:List Dv->List PyData
 |[]=>[]
 |x::r=>x.toPy::bZ r
end
mutual
noncomputable def Dv.imm:Dv->Bool
 | .lst _=>false
 | .dic _=>false
 | .scr _=>false
 | .fn _=>false
 | .fc _ _ _=>false
 | .dik _=>false
 | .ins _ _=>false
 | .tup xs=>imms xs
 |_=>true
noncomputable def imms:List Dv->Bool
 |[]=>true
 |x::r=>x.imm&&imms r
end
noncomputable def Scr (KF:PySem.W.Frag) (H:Hp) (a:Addr) (ns:List Int):Prop:=(∃o,H a=some (.frz o (.lst (ns.map V.int)))) \/
 ∃(o:Obj) (its:Array Value) (n:Nat),KF.lookup a=some o/\o.cls= .type "list"/\o.dict=none/\o.data= .seq its n/\its.size<=sizeLine/\Vals (ns.map V.int) its.toList
theorem Scr.sq {KF:PySem.W.Frag}{H:Hp}{a:Addr}{ns:List Int} (h:Scr KF H a ns):SqL KF H a (ns.map V.int):=by
 rcases h with ⟨o,h⟩|h
 ·exact .inl (.inr ⟨o,h⟩)
 ·exact .inr h
mutual
inductive RepF (KF:PySem.W.Frag) (S:Addr->Prop) (H:Hp):V->Dv->Prop
 |non:RepF KF S H .non .non
 |bl (b:Bool):RepF KF S H (.bl b) (.bl b)
 |int (i:Int):RepF KF S H (.int i) (.int i)
 |str (x:Str):RepF KF S H (.str x) (.str x)
 |lst {a:Addr}{xs:List V}{ds:List Dv}:S a->H a=some (.lst xs)->RepsF KF S H xs ds->RepF KF S H (.ref a) (.lst ds)
 |tup {a:Addr}{xs:List V}{ds:List Dv}:H a=some (.tup xs)->RepsF KF S H xs ds->RepF KF S H (.ref a) (.tup ds)
 |dic {a:Addr}{xs:List (List Key×V)}{ds:List (List Key×Dv)}:S a->Rd H a (.dT xs)->RepsK KF S H xs ds->RepF KF S H (.ref a) (.dic ds)
 |scr {a:Addr}{ns:List Int}:Scr KF H a ns->RepF KF S H (.ref a) (.scr ns)
 |fn {a:Addr}{L:LamD}:FnG H a L->RepF KF S H (.ref a) (.fn L)
 |fc {a:Addr}{L:LamD}{x:Str}{i:Int}:FnC H a L x i->RepF KF S H (.ref a) (.fc L x i)
 |dik {a:Addr}{xs:List (Key×V)}{ds:List (Key×Dv)}:S a->Rd H a (.dK xs)->RepsK KF S H xs ds->RepF KF S H (.ref a) (.dik ds)
 |ins {a C dx:Addr}{xs:List (Str×V)}{ds:List (Str×Dv)}:S a->H a=some (.ins C dx xs)->RepsK KF S H xs ds->RepF KF S H (.ref a) (.ins C ds)
inductive RepsF (KF:PySem.W.Frag) (S:Addr->Prop) (H:Hp):List V->List Dv->Prop
 |nil:RepsF KF S H [] []
 |cons {v:V}{vs:List V}{d:Dv}{ds:List Dv}:RepF KF S H v d->RepsF KF S H vs ds->RepsF KF S H (v::vs) (d::ds)
inductive RepsK (KF:PySem.W.Frag) (S:Addr->Prop) (H:Hp):{κ:Type}->List (κ×V)->List (κ×Dv)->Prop
 |nil {κ:Type}:RepsK KF S H ([]:List (κ×V)) []
 |cons {κ:Type}{k:κ}{v:V}{vs:List (κ×V)}{d:Dv}{ds:List (κ×Dv)}:RepF KF S H v d->RepsK KF S H vs ds->RepsK KF S H ((k,v)::vs) ((k,d)::ds)
end
noncomputable abbrev Imm:Addr->Prop:=fun _=>False
noncomputable def aD (S:Addr->Prop) (H H':Hp):Prop:= ∀a o,H a=some o->((∃xs,o= .tup xs) \/(∃b u,o= .frz b u) \/S a)->H' a=some o
theorem aD.of {S:Addr->Prop}{H H':Hp} (e:Same H H'):aD S H H':=fun a o h _=>e a o h
theorem aD.mono {S S':Addr->Prop}{H H':Hp} (e:aD S' H H') (m: ∀a,S a->S' a):aD S H H':=fun a o h c=>e a o h (c.imp id (.imp id (m a)))
structure Mv (P:Dv->Prop) (KF:PySem.W.Frag) (S S':Addr->Prop) (H H':Hp):Prop where
 lst: ∀{a:Addr}{xs:List V}{ds:List Dv},P (.lst ds)->S a->H a=some (.lst xs)->(S' a/\H' a=some (.lst xs))/\ ∀d∈ds,P d
 tup: ∀{a:Addr}{xs:List V}{ds:List Dv},P (.tup ds)->H a=some (.tup xs)->H' a=some (.tup xs)/\ ∀d∈ds,P d
 dic: ∀{a:Addr}{xs:List (List Key×V)}{ds:List (List Key×Dv)},P (.dic ds)->S a->Rd H a (.dT xs)->(S' a/\Rd H' a (.dT xs))/\ ∀p∈ds,P p.2
 scr: ∀{a:Addr}{ns:List Int},P (.scr ns)->Scr KF H a ns->Scr KF H' a ns
 fn: ∀{a:Addr}{L:LamD},P (.fn L)->FnG H a L->FnG H' a L
 fc: ∀{a:Addr}{L:LamD}{x:Str}{i:Int},P (.fc L x i)->FnC H a L x i->FnC H' a L x i
 dik: ∀{a:Addr}{xs:List (Key×V)}{ds:List (Key×Dv)},P (.dik ds)->S a->Rd H a (.dK xs)->(S' a/\Rd H' a (.dK xs))/\ ∀p∈ds,P p.2
 ins: ∀{a C dx:Addr}{xs:List (Str×V)}{ds:List (Str×Dv)},P (.ins C ds)->S a->H a=some (.ins C dx xs)->(S' a/\H' a=some (.ins C dx xs))/\ ∀p∈ds,P p.2
theorem RepF.mv {P:Dv->Prop}{S S':Addr->Prop}{H H':Hp} (m:Mv P KF S S' H H') {v:V}{d:Dv} (r:RepF KF S H v d):P d->RepF KF S' H' v d:=
 RepF.rec (motive_1:=fun v d _=>P d->RepF KF S' H' v d) (motive_2:=fun vs ds _=>(∀d∈ds,P d)->RepsF KF S' H' vs ds) (motive_3:=fun vs ds _=>(∀p∈ds,P p.2)->RepsK KF S' H' vs ds)
  (fun _=> .non) (fun b _=> .bl b) (fun i _=> .int i) (fun x _=> .str x)
  (fun s h _ f p=>have q:=m.lst p s h; .lst q.1.1 q.1.2 (f q.2))
  (fun h _ f p=>have q:=m.tup p h; .tup q.1 (f q.2))
  (fun s h _ f p=>have q:=m.dic p s h; .dic q.1.1 q.1.2 (f q.2))
  (fun h p=> .scr (m.scr p h)) (fun h p=> .fn (m.fn p h)) (fun h p=> .fc (m.fc p h))
  (fun s h _ f p=>have q:=m.dik p s h; .dik q.1.1 q.1.2 (f q.2))
  (fun s h _ f p=>have q:=m.ins p s h; .ins q.1.1 q.1.2 (f q.2))
  (fun _=> .nil) (fun _ _ f g p=> .cons (f (p _ (List.mem_cons_self ..))) (g fun d hd=>p d (List.mem_cons_of_mem _ hd)))
  (fun _=> .nil) (fun _ _ f g p=> .cons (f (p _ (List.mem_cons_self ..))) (g fun d hd=>p d (List.mem_cons_of_mem _ hd))) r
theorem RepsF.mv {P:Dv->Prop}{S S':Addr->Prop}{H H':Hp} (m:Mv P KF S S' H H'): ∀{vs:List V}{ds:List Dv},RepsF KF S H vs ds->(∀d∈ds,P d)->RepsF KF S' H' vs ds
 |_,_,.nil,_=> .nil
 |_,_,.cons h r,p=> .cons (h.mv m (p _ (List.mem_cons_self ..))) (RepsF.mv m r fun d hd=>p d (List.mem_cons_of_mem _ hd))
theorem RepsK.mv {P:Dv->Prop}{S S':Addr->Prop}{H H':Hp} (m:Mv P KF S S' H H'): ∀{κ:Type}{vs:List (κ×V)}{ds:List (κ×Dv)},RepsK KF S H vs ds->(∀p∈ds,P p.2)->RepsK KF S' H' vs ds
 |_,_,_,.nil,_=> .nil
 |_,_,_,.cons h r,p=> .cons (h.mv m (p _ (List.mem_cons_self ..))) (RepsK.mv m r fun d hd=>p d (List.mem_cons_of_mem _ hd))
noncomputable abbrev AllD:Dv->Prop:=fun _=>True
theorem Mv.of {S S':Addr->Prop}{H H':Hp} (h1: ∀{a:Addr}{xs:List V},S a->H a=some (.lst xs)->S' a/\H' a=some (.lst xs)) (h2: ∀{a:Addr}{xs:List V},H a=some (.tup xs)->H' a=some (.tup xs))
  (h3: ∀{a:Addr}{xs:List (List Key×V)},S a->Rd H a (.dT xs)->S' a/\Rd H' a (.dT xs)) (h4: ∀{a:Addr}{xs:List (Key×V)},S a->Rd H a (.dK xs)->S' a/\Rd H' a (.dK xs))
  (h5: ∀{a C dx:Addr}{xs:List (Str×V)},S a->H a=some (.ins C dx xs)->S' a/\H' a=some (.ins C dx xs)) (h6: ∀{a:Addr}{b:Obj}{u},H a=some (.frz b u)->(∀xs,u≠ .dT xs)->H' a=some (.frz b u)):Mv AllD KF S S' H H':=
 ⟨fun _ s h=>⟨h1 s h,fun _ _=>trivial⟩,fun _ h=>⟨h2 h,fun _ _=>trivial⟩,fun _ s h=>⟨h3 s h,fun _ _=>trivial⟩,fun _ h=>h.imp (fun ⟨o,q⟩=>⟨o,h6 q fun _=>nofun⟩) id,
  fun _ ⟨pm,ctv,c,oc,vs,t,q1,q2,q3⟩=>⟨pm,ctv,c,oc,vs,t,h6 q1 fun _=>nofun,h6 q2 fun _=>nofun,q3⟩,
  fun _ ⟨pm,ctv,c,cl,oc,ol,vs,t,tk,q1,q2,q3,q4⟩=>⟨pm,ctv,c,cl,oc,ol,vs,t,tk,h6 q1 fun _=>nofun,h6 q2 fun _=>nofun,h6 q3 fun _=>nofun,q4⟩,
  fun _ s h=>⟨h4 s h,fun _ _=>trivial⟩,fun _ s h=>⟨h5 s h,fun _ _=>trivial⟩⟩
theorem aD.rd {S:Addr->Prop}{H H':Hp}{a:Addr}{u} (e:aD S H H') (s:S a) (h:Rd H a u):Rd H' a u:=h.imp (fun h=>e _ _ h (.inr (.inr s))) fun ⟨o,h⟩=>⟨o,e _ _ h (.inr (.inl ⟨_,_,rfl⟩))⟩
theorem aD.mv {S:Addr->Prop}{H H':Hp} (e:aD S H H'):Mv AllD KF S S H H':=
 .of (fun s h=>⟨s,e _ _ h (.inr (.inr s))⟩) (fun h=>e _ _ h (.inl ⟨_,rfl⟩)) (fun s h=>⟨s,e.rd s h⟩) (fun s h=>⟨s,e.rd s h⟩) (fun s h=>⟨s,e _ _ h (.inr (.inr s))⟩) (fun h _=>e _ _ h (.inr (.inl ⟨_,_,rfl⟩)))
theorem RepF.keep {S:Addr->Prop}{H H':Hp} (e:aD S H H') {v:V}{d:Dv} (r:RepF KF S H v d):RepF KF S H' v d:=r.mv e.mv trivial
theorem RepsF.keep {S:Addr->Prop}{H H':Hp} (e:aD S H H') {vs:List V}{ds:List Dv} (r:RepsF KF S H vs ds):RepsF KF S H' vs ds:=r.mv e.mv fun _ _=>trivial
theorem RepsK.keep {S:Addr->Prop}{H H':Hp} (e:aD S H H') {κ:Type}{vs:List (κ×V)}{ds:List (κ×Dv)} (r:RepsK KF S H vs ds):RepsK KF S H' vs ds:=r.mv e.mv fun _ _=>trivial
theorem fG {H:Hp}{a:Addr}{o} (h:H a=some o):H a≠none:=by rw [h];exact fun z=>nomatch z
theorem Rd.ne {H:Hp}{a:Addr}{u} (h:Rd H a u):H a≠none:=h.elim fG fun ⟨_,h⟩=>fG h
theorem gY {S S':Addr->Prop}{H:Hp} (m: ∀a,H a≠none->S a->S' a):Mv AllD KF S S' H H:=
 .of (fun s h=>⟨m _ (fG h) s,h⟩) id (fun s h=>⟨m _ h.ne s,h⟩) (fun s h=>⟨m _ h.ne s,h⟩) (fun s h=>⟨m _ (fG h) s,h⟩) fun h _=>h
theorem RepF.mono {S S':Addr->Prop}{H:Hp} (m: ∀a,H a≠none->S a->S' a) {v:V}{d:Dv} (r:RepF KF S H v d):RepF KF S' H v d:=r.mv (gY m) trivial
theorem RepsF.mono {S S':Addr->Prop}{H:Hp} (m: ∀a,H a≠none->S a->S' a) {vs:List V}{ds:List Dv} (r:RepsF KF S H vs ds):RepsF KF S' H vs ds:=r.mv (gY m) fun _ _=>trivial
theorem RepsK.mono {S S':Addr->Prop}{H:Hp} (m: ∀a,H a≠none->S a->S' a) {κ:Type}{vs:List (κ×V)}{ds:List (κ×Dv)} (r:RepsK KF S H vs ds):RepsK KF S' H vs ds:=r.mv (gY m) fun _ _=>trivial
theorem g6: ∀{ds:List Dv},imms ds=true-> ∀d∈ds,d.imm=true
 |[],_,_,h=>nomatch h
 |x::r,h,d,hd=>by
  rw [imms,Bool.and_eq_true] at h
  rcases List.mem_cons.mp hd with rfl|hd
  ·exact h.1
  ·exact g6 h.2 d hd
theorem kj {S S':Addr->Prop}{H:Hp}:Mv (fun d=>d.imm=true) KF S S' H H:=
 ⟨nofun,fun p h=>⟨h,g6 p⟩,nofun,nofun,nofun,nofun,nofun,nofun⟩
theorem RepF.imm {S S':Addr->Prop}{H:Hp}{v:V}{d:Dv} (r:RepF KF S H v d) (h:d.imm=true):RepF KF S' H v d:=r.mv kj h
theorem RepsF.imm {S S':Addr->Prop}{H:Hp}{vs:List V}{ds:List Dv} (r:RepsF KF S H vs ds) (h:imms ds=true):RepsF KF S' H vs ds:=r.mv kj (g6 h)
theorem RepF.same {S:Addr->Prop}{H H':Hp} (e:Same H H') {v:V}{d:Dv} (r:RepF KF S H v d):RepF KF S H' v d:=r.keep (.of e)
theorem RepsF.same {S:Addr->Prop}{H H':Hp} (e:Same H H') {v:List V}{d:List Dv} (r:RepsF KF S H v d):RepsF KF S H' v d:=r.keep (.of e)
theorem RepsF.append {S:Addr->Prop}{H:Hp}: ∀{xs ys:List V}{ds es:List Dv},RepsF KF S H xs ds->RepsF KF S H ys es->RepsF KF S H (xs++ys) (ds++es)
 |_,_,_,_,.nil,s=>s
 |_,_,_,_,.cons h r,s=> .cons h (RepsF.append r s)
theorem RepsF.length {S:Addr->Prop}{H:Hp}: ∀{xs:List V}{ds:List Dv},RepsF KF S H xs ds->xs.length=ds.length
 |_,_,.nil=>rfl
 |_,_,.cons _ r=>congrArg (· +1) (RepsF.length r)
theorem RepsF.get {S:Addr->Prop}{H:Hp}: ∀{xs:List V}{ds:List Dv}{i:Nat}{d:Dv},RepsF KF S H xs ds->ds[i]?=some d-> ∃x,xs[i]?=some x/\RepF KF S H x d
 |_,_,_,_,.nil,e=>by simp at e
 |_,_,0,_,.cons h _,e=>by simp at e;subst e;exact ⟨_,rfl,h⟩
 |_,_,i+1,x,.cons _ r,e=>by
  obtain ⟨d,h1,h2⟩:=RepsF.get (i:=i) r (by simpa using e)
  exact ⟨d,by simpa using h1,h2⟩
theorem RepsF.get' {S:Addr->Prop}{H:Hp}: ∀{xs:List V}{ds:List Dv}{i:Nat}{x:V},RepsF KF S H xs ds->xs[i]?=some x-> ∃d,ds[i]?=some d/\RepF KF S H x d
 |_,_,_,_,.nil,e=>by simp at e
 |_,_,0,_,.cons h _,e=>by simp at e;subst e;exact ⟨_,rfl,h⟩
 |_,_,i+1,x,.cons _ r,e=>by
  obtain ⟨d,h1,h2⟩:=RepsF.get' (i:=i) r (by simpa using e)
  exact ⟨d,by simpa using h1,h2⟩
theorem RepsF.drop {S:Addr->Prop}{H:Hp}: ∀(k:Nat) {xs:List V}{ds:List Dv},RepsF KF S H xs ds->RepsF KF S H (xs.drop k) (ds.drop k)
 |0,_,_,r=>by simpa using r
 |k+1,_,_,.nil=>by simpa using RepsF.nil
 |k+1,_,_,.cons _ r=>by simpa using RepsF.drop k r
theorem RepsF.take {S:Addr->Prop}{H:Hp}: ∀(k:Nat) {xs:List V}{ds:List Dv},RepsF KF S H xs ds->RepsF KF S H (xs.take k) (ds.take k)
 |0,_,_,_=>by simpa using RepsF.nil
 |k+1,_,_,.nil=>by simpa using RepsF.nil
 |k+1,_,_,.cons h r=>by simpa using RepsF.cons h (RepsF.take k r)
theorem RepsF.reverse {S:Addr->Prop}{H:Hp}: ∀{xs:List V}{ds:List Dv},RepsF KF S H xs ds->RepsF KF S H xs.reverse ds.reverse
 |_,_,.nil=> .nil
 |_,_,.cons h r=>by
  rw [List.reverse_cons,List.reverse_cons]
  exact RepsF.append (RepsF.reverse r) (.cons h .nil)
theorem RepsF.set {S:Addr->Prop}{H:Hp}: ∀{xs:List V}{ds:List Dv} (i:Nat) {x:V}{d:Dv},RepsF KF S H xs ds->RepF KF S H x d->RepsF KF S H (xs.set i x) (ds.set i d)
 |_,_,_,_,_,.nil,_=> .nil
 |_,_,0,_,_,.cons _ r,h=> .cons h r
 |_,_,i+1,_,_,.cons a r,h=> .cons a (RepsF.set i r h)
theorem eQ {S:Addr->Prop}{H:Hp}: ∀(r:List Int),RepsF KF S H (r.map V.int) (r.map Dv.int)
 |[]=> .nil
 |i::r=> .cons (.int i) (eQ r)
theorem RepsF.ints {S:Addr->Prop}{H:Hp}: ∀{xs:List V}{r:List Int},RepsF KF S H xs (r.map Dv.int)->xs=r.map V.int
 |_,[],.nil=>rfl
 |_,i::r,.cons h q=>by
  cases h
  rw [RepsF.ints q]
  all_goals rfl
theorem RepsF.bls {S:Addr->Prop}{H:Hp}: ∀{xs:List V}{r:List Bool},RepsF KF S H xs (r.map Dv.bl)->xs=r.map V.bl
 |_,[],.nil=>rfl
 |_,i::r,.cons h q=>by
  cases h
  rw [RepsF.bls q]
  all_goals rfl
section
variable {X:Cx}{pins:List (Addr×Obj)}{σ:St}{H:Hp}{s:Shared}{S:Addr->Prop}
mutual
theorem RepF.reads (I:Inv X pins σ H s): ∀{v:V}{d:Dv}{u:Value},RepF KF S H v d->RelV v u->PyData.canLay0 d.toPy=true-> ∃as,Reads s.heap u d.toPy as
 |_,_,_,.non,r,_=>by cases r;exact ⟨_,.none⟩
 |_,_,_,.bl b,r,_=>by cases r;exact ⟨_,.bool b⟩
 |_,_,_,.int i,r,_=>by obtain ⟨t,rfl⟩:=r;exact ⟨_,.int i t⟩
 |_,_,_,.str x,r,_=>by obtain ⟨t,rfl⟩:=r;exact ⟨_,.str x t⟩
 |_,_,_,.lst _ h q,r,c=>by
  cases r
  obtain ⟨its,rv,⟨o,n,ho,hc,_,hd⟩,_⟩:=I.list (SqL.of h)
  obtain ⟨as,ra⟩:=RepsF.reads I q rv (by simpa [Dv.toPy,PyData.canLay0] using c)
  exact ⟨_,.list ho hc hd (by simpa using ra)⟩
 |_,_,_,.tup h q,r,c=>by
  cases r
  obtain ⟨its,rv,⟨o,ho,hc,n,hd⟩,_⟩:=I.tuple (SqT.of h)
  obtain ⟨as,ra⟩:=RepsF.reads I q rv (by simpa [Dv.toPy,PyData.canLay0] using c)
  exact ⟨_,.tuple ho hc hd (by simpa using ra)⟩
 |_,_,_,.dic _ _ _,_,c=>by simp [Dv.toPy,PyData.canLay0] at c
 |_,_,_,.scr _,_,c=>by simp [Dv.toPy,PyData.canLay0] at c
 |_,_,_,.fn _,_,c=>by simp [Dv.toPy,PyData.canLay0] at c
 |_,_,_,.fc _,_,c=>by simp [Dv.toPy,PyData.canLay0] at c
 |_,_,_,.dik _ _ _,_,c=>by simp [Dv.toPy,PyData.canLay0] at c
 |_,_,_,.ins _ _ _,_,c=>by simp [Dv.toPy,PyData.canLay0] at c
theorem RepsF.reads (I:Inv X pins σ H s): ∀{vs:List V}{ds:List Dv}{us:List Value},RepsF KF S H vs ds->Vals vs us->PyData.canLayAll0 (bZ ds)=true-> ∃as,ReadsAll s.heap us (bZ ds) as
 |_,_,_,.nil,r,_=>by cases r;exact ⟨_,.nil⟩
 |_,_,_,.cons h q,r,c=>by
  rw [bZ,PyData.canLayAll0,Bool.and_eq_true] at c
  cases r with
  |cons r1 r2=>
   obtain ⟨as,ra⟩:=RepF.reads I h r1 c.1
   obtain ⟨bs,rb⟩:=RepsF.reads I q r2 c.2
   exact ⟨_,.cons ra rb⟩
end
noncomputable def eqOk (x y:Dv):Bool:=x.toPy.canLay0&&y.toPy.canLay0&&decide (min x.toPy.depth y.toPy.depth<=60)
noncomputable def rEqF (KF:PySem.W.Frag):R2:=fun x y H Q=> ∃dx dy,RepF KF (fun _=>True) H x dx/\RepF KF (fun _=>True) H y dy/\eqOk dx dy=true/\Q (.bl (PyData.eqv dx.toPy dy.toPy)) H
noncomputable def rNeF (KF:PySem.W.Frag):R2:=fun x y H Q=> ∃dx dy,RepF KF (fun _=>True) H x dx/\RepF KF (fun _=>True) H y dy/\eqOk dx dy=true/\Q (.bl (!PyData.eqv dx.toPy dy.toPy)) H
theorem km {x y:Dv} (h:eqOk x y=true):x.toPy.canLay0=true/\y.toPy.canLay0=true/\min x.toPy.depth y.toPy.depth<=60:=by
 unfold eqOk at h
 rw [Bool.and_eq_true,Bool.and_eq_true] at h
 exact ⟨h.1.1,h.1.2,of_decide_eq_true h.2⟩
theorem be (hu:X.A.units+64<cLine):OpR X (compareOp .Eq) (rEqF X.K):=by
 intro pins s σ H x y v u Q I rx ry h
 obtain ⟨dx,dy,hx,hy,ok,q⟩:=h
 obtain ⟨cx,cy,dp⟩:=km ok
 obtain ⟨as,ra⟩:=hx.reads I rx cx
 obtain ⟨bs,rb⟩:=hy.reads I ry cy
 exact SeqAt.compareEq_reads ra rb cx cy (by lia) ⟨.bl _,H,I,rfl,q⟩
theorem g7 (hu:X.A.units+64<cLine):OpR X (compareOp .NotEq) (rNeF X.K):=by
 intro pins s σ H x y v u Q I rx ry h
 obtain ⟨dx,dy,hx,hy,ok,q⟩:=h
 obtain ⟨cx,cy,dp⟩:=km ok
 obtain ⟨as,ra⟩:=hx.reads I rx cx
 obtain ⟨bs,rb⟩:=hy.reads I ry cy
 exact SeqAt.compareNe_reads ra rb cx cy (by lia) ⟨.bl _,H,I,rfl,q⟩
end
end L2
set_option maxHeartbeats 4000000
namespace L2
open PySem PySem.Spec PyProof.Rows
variable {KF:PySem.W.Frag}{W W':Addr->Prop}
noncomputable abbrev Dt:=List (Option Dv)
noncomputable abbrev EM:=Dt->Option Dv
noncomputable def isOwn (ms:List Nat) (i:Nat):Bool:=decide (i∈ms)||(decide (i+1000∈ms)||decide (i+2000∈ms))
noncomputable abbrev W0:Addr->Prop:=fun _=>False
noncomputable def Cell (KF:PySem.W.Frag) (H:Hp) (a:Addr):Dv->Prop
 | .lst ds=> ∃xs,H a=some (.lst xs)/\RepsF KF Imm H xs ds
 | .dic ds=> ∃xs,H a=some (.dT xs)/\RepsK KF Imm H xs ds
 |_=>False
mutual
inductive Tree (KF:PySem.W.Frag) (H:Hp):V->Dv->List Addr->Prop
 |imm {v:V}{d:Dv}:RepF KF Imm H v d->Tree KF H v d []
 |lst {a:Addr}{xs:List V}{ds:List Dv}{F:List Addr}:H a=some (.lst xs)->aH KF H xs ds F->Tree KF H (.ref a) (.lst ds) (a::F)
 |dic {a:Addr}{xs:List (List Key×V)}{ds:List (List Key×Dv)}{F:List Addr}:H a=some (.dT xs)->aK KF H xs ds F->Tree KF H (.ref a) (.dic ds) (a::F)
 |dik {a:Addr}{xs:List (Key×V)}{ds:List (Key×Dv)}{F:List Addr}:H a=some (.dK xs)->aK KF H xs ds F->Tree KF H (.ref a) (.dik ds) (a::F)
 |ins {a C dx:Addr}{xs:List (Str×V)}{ds:List (Str×Dv)}{F:List Addr}:H a=some (.ins C dx xs)->aK KF H xs ds F->Tree KF H (.ref a) (.ins C ds) (a::F)
inductive aH (KF:PySem.W.Frag) (H:Hp):List V->List Dv->List Addr->Prop
 |nil:aH KF H [] [] []
 |cons {v:V}{vs:List V}{d:Dv}{ds:List Dv}{F G:List Addr}:Tree KF H v d F->aH KF H vs ds G->aH KF H (v::vs) (d::ds) (F++G)
inductive aK (KF:PySem.W.Frag) (H:Hp):{κ:Type}->List (κ×V)->List (κ×Dv)->List Addr->Prop
 |nil {κ:Type}:aK KF H ([]:List (κ×V)) [] []
 |cons {κ:Type}{k:κ}{v:V}{vs:List (κ×V)}{d:Dv}{ds:List (κ×Dv)}{F G:List Addr}:Tree KF H v d F->aK KF H vs ds G->aK KF H ((k,v)::vs) ((k,d)::ds) (F++G)
end
inductive Kd where
 |one|imm|frh|any|bor|dp
noncomputable def Got (KF:PySem.W.Frag) (k:Kd) (W:Addr->Prop) (H H':Hp) (v:V) (d:Dv):Prop:=match k with
 | .one=> ∃a,v= .ref a/\H a=none/\Cell KF H' a d
 | .dp=> ∃F:List Addr,F.Nodup/\(∀b∈F,H b=none)/\Tree KF H' v d F
 | .imm=>RepF KF Imm H' v d
 | .frh=>RepF KF (fun a=>H a=none) H' v d
 | .any=>RepF KF (fun a=> ¬W a) H' v d
 | .bor=>RepF KF (fun _=>True) H' v d
noncomputable def Sft (o:HO):Prop:=(∀xs,o≠ .tup xs)/\ ∀b u,o≠ .frz b u
noncomputable def AnyL (KF:PySem.W.Frag) (W:Addr->Prop) (H:Hp) (a:Addr) (d:Dv):Prop:= ∃xs ds,d= .lst ds/\H a=some (.lst xs)/\RepsF KF (fun b=> ¬W b) H xs ds
noncomputable def cc (KF:PySem.W.Frag) (ms:List Nat) (W:Addr->Prop) (H:Hp) (i:Nat) (a:Addr) (d:Dv) (F:List Addr):Prop:=(i∈ms/\F=[a]/\Cell KF H a d) \/(i∉ms/\i+1000∈ms/\Tree KF H (.ref a) d F) \/(i∉ms/\i+1000∉ms/\F=[a]/\AnyL KF W H a d)
structure Foot (KF:PySem.W.Frag) (ms:List Nat) (W:Addr->Prop) (H0:Hp) (δ:Dt) (σ:St) (H:Hp) (Φ:Nat->List Addr):Prop where
 wr: ∀i b,b∈Φ i->W b/\H0 b=none
 dj: ∀i j b,b∈Φ i->b∈Φ j->i=j
 nd: ∀i,(Φ i).Nodup
 at_: ∀i d,isOwn ms i=true->δ[i]?=some (some d)-> ∃a,σ[i]?=some (some (.ref a))/\cc KF ms W H i a d (Φ i)
structure Rel (KF:PySem.W.Frag) (ms:List Nat) (W:Addr->Prop) (H0:Hp) (δ:Dt) (σ:St) (H:Hp):Prop where
 len:σ.length=δ.length
 keep:Same H0 H
 soft: ∀a,W a-> ∃o,H a=some o/\Sft o
 get: ∀i d,isOwn ms i=false->δ[i]?=some (some d)-> ∃v,σ[i]?=some (some v)/\RepF KF (fun a=> ¬W a) H v d
 foot: ∃Φ,Foot KF ms W H0 δ σ H Φ
theorem Cell.there {H:Hp}{a:Addr}{d:Dv} (h:Cell KF H a d): ∃o,H a=some o/\Sft o:=by
 cases d with
 |lst ds=>obtain ⟨xs,h,_⟩:=h;exact ⟨_,h,fun _ z=>(nomatch z),fun _ _ z=>(nomatch z)⟩
 |dic ds=>obtain ⟨xs,h,_⟩:=h;exact ⟨_,h,fun _ z=>(nomatch z),fun _ _ z=>(nomatch z)⟩
 |_=>exact h.elim
theorem Cell.keep {H H':Hp}{a:Addr}{d:Dv} (h:Cell KF H a d) (e:aD Imm H H') (ha: ∀o,H a=some o->H' a=some o):Cell KF H' a d:=by
 cases d with
 |lst ds=>obtain ⟨xs,h,r⟩:=h;exact ⟨xs,ha _ h,r.keep e⟩
 |dic ds=>obtain ⟨xs,h,r⟩:=h;exact ⟨xs,ha _ h,r.keep e⟩
 |_=>exact h.elim
theorem Cell.same {H H':Hp}{a:Addr}{d:Dv} (h:Cell KF H a d) (e:Same H H'):Cell KF H' a d:=h.keep (.of e) fun o q=>e a o q
theorem Cell.rep {H:Hp}{a:Addr}{d:Dv}{S:Addr->Prop} (h:Cell KF H a d) (s:S a):RepF KF S H (.ref a) d:=by
 cases d with
 |lst ds=>obtain ⟨xs,h,r⟩:=h;exact .lst s h (r.mono fun _ _ z=>z.elim)
 |dic ds=>obtain ⟨xs,h,r⟩:=h;exact .dic s (.inl h) (r.mono fun _ _ z=>z.elim)
 |_=>exact h.elim
section
variable {ms:List Nat}{σ σ':St}{H0 H H1 H2:Hp}{δ:Dt}{v:V}{d:Dv}{k:Kd}
theorem Rel.own (R:Rel KF ms W H0 δ σ H) {a:Addr} (h:W a): ∃o,H a=some o/\Sft o:=R.soft a h
theorem Rel.fresh (R:Rel KF ms W H0 δ σ H) {a:Addr} (h:H a=none): ¬W a:=fun z=>by
 obtain ⟨o,e,_⟩:=R.own z
 rw [h] at e;cases e
theorem Tree.ind {m1:V->Dv->List Addr->Prop}{m2:List V->List Dv->List Addr->Prop}{m3:(κ:Type)->List (κ×V)->List (κ×Dv)->List Addr->Prop} (c1: ∀{v:V}{d:Dv},RepF KF Imm H v d->m1 v d [])
  (c2: ∀{a:Addr}{xs:List V}{ds:List Dv}{F:List Addr},H a=some (.lst xs)->m2 xs ds F->m1 (.ref a) (.lst ds) (a::F))
  (c3: ∀{a:Addr}{xs:List (List Key×V)}{ds:List (List Key×Dv)}{F:List Addr},H a=some (.dT xs)->m3 _ xs ds F->m1 (.ref a) (.dic ds) (a::F))
  (c4: ∀{a:Addr}{xs:List (Key×V)}{ds:List (Key×Dv)}{F:List Addr},H a=some (.dK xs)->m3 _ xs ds F->m1 (.ref a) (.dik ds) (a::F))
  (c5: ∀{a C dx:Addr}{xs:List (Str×V)}{ds:List (Str×Dv)}{F:List Addr},H a=some (.ins C dx xs)->m3 _ xs ds F->m1 (.ref a) (.ins C ds) (a::F))
  (c6:m2 [] [] []) (c7: ∀{v:V}{vs:List V}{d:Dv}{ds:List Dv}{F G:List Addr},m1 v d F->m2 vs ds G->m2 (v::vs) (d::ds) (F++G))
  (c8: ∀{κ:Type},m3 κ [] [] []) (c9: ∀{κ:Type}{k:κ}{v:V}{vs:List (κ×V)}{d:Dv}{ds:List (κ×Dv)}{F G:List Addr},m1 v d F->m3 κ vs ds G->m3 κ ((k,v)::vs) ((k,d)::ds) (F++G)):
  (∀{v:V}{d:Dv}{F:List Addr},Tree KF H v d F->m1 v d F)/\(∀{vs:List V}{ds:List Dv}{F:List Addr},aH KF H vs ds F->m2 vs ds F)/\ ∀{κ:Type}{vs:List (κ×V)}{ds:List (κ×Dv)}{F:List Addr},aK KF H vs ds F->m3 κ vs ds F:=
 ⟨fun t=>Tree.rec (motive_1:=fun v d F _=>m1 v d F) (motive_2:=fun v d F _=>m2 v d F) (motive_3:=fun {κ} v d F _=>m3 κ v d F) (fun r=>c1 r) (fun h _ f=>c2 h f) (fun h _ f=>c3 h f) (fun h _ f=>c4 h f) (fun h _ f=>c5 h f) c6 (fun _ _ f g=>c7 f g) c8 (fun _ _ f g=>c9 f g) t,
  fun t=>aH.rec (motive_1:=fun v d F _=>m1 v d F) (motive_2:=fun v d F _=>m2 v d F) (motive_3:=fun {κ} v d F _=>m3 κ v d F) (fun r=>c1 r) (fun h _ f=>c2 h f) (fun h _ f=>c3 h f) (fun h _ f=>c4 h f) (fun h _ f=>c5 h f) c6 (fun _ _ f g=>c7 f g) c8 (fun _ _ f g=>c9 f g) t,
  fun t=>aK.rec (motive_1:=fun v d F _=>m1 v d F) (motive_2:=fun v d F _=>m2 v d F) (motive_3:=fun {κ} v d F _=>m3 κ v d F) (fun r=>c1 r) (fun h _ f=>c2 h f) (fun h _ f=>c3 h f) (fun h _ f=>c4 h f) (fun h _ f=>c5 h f) c6 (fun _ _ f g=>c7 f g) c8 (fun _ _ f g=>c9 f g) t⟩
theorem kn {xs:List V}:Sft (.lst xs):=⟨fun _ z=>(nomatch z),fun _ _ z=>(nomatch z)⟩
theorem ko {xs:List (List Key×V)}:Sft (.dT xs):=⟨fun _ z=>(nomatch z),fun _ _ z=>(nomatch z)⟩
theorem kr {xs:List (Key×V)}:Sft (.dK xs):=⟨fun _ z=>(nomatch z),fun _ _ z=>(nomatch z)⟩
theorem ku {C dx:Addr}{xs:List (Str×V)}:Sft (.ins C dx xs):=⟨fun _ z=>(nomatch z),fun _ _ z=>(nomatch z)⟩
noncomputable abbrev dN (H H1:Hp) (F:List Addr):Prop:= ∀b∈F,∀o,H b=some o->Sft o->H1 b=some o
theorem g8 (im: ∀{v:V}{d:Dv},RepF KF Imm H v d->RepF KF Imm H1 v d):(∀{v:V}{d:Dv}{F:List Addr},Tree KF H v d F->dN H H1 F->Tree KF H1 v d F)/\(∀{vs:List V}{ds:List Dv}{F:List Addr},aH KF H vs ds F->dN H H1 F->aH KF H1 vs ds F)/\ ∀{κ:Type}{vs:List (κ×V)}{ds:List (κ×Dv)}{F:List Addr},aK KF H vs ds F->dN H H1 F->aK KF H1 vs ds F:=
 Tree.ind (m1:=fun v d F=>dN H H1 F->Tree KF H1 v d F) (m2:=fun v d F=>dN H H1 F->aH KF H1 v d F) (m3:=fun _ v d F=>dN H H1 F->aK KF H1 v d F) (fun r _=> .imm (im r))
  (fun h r f=> .lst (f _ (List.mem_cons_self ..) _ h kn) (r fun b hb=>f b (List.mem_cons_of_mem _ hb))) (fun h r f=> .dic (f _ (List.mem_cons_self ..) _ h ko) (r fun b hb=>f b (List.mem_cons_of_mem _ hb)))
  (fun h r f=> .dik (f _ (List.mem_cons_self ..) _ h kr) (r fun b hb=>f b (List.mem_cons_of_mem _ hb))) (fun h r f=> .ins (f _ (List.mem_cons_self ..) _ h ku) (r fun b hb=>f b (List.mem_cons_of_mem _ hb)))
  (fun _=> .nil) (fun h r f=> .cons (h fun b hb=>f b (List.mem_append_left _ hb)) (r fun b hb=>f b (List.mem_append_right _ hb))) (fun _=> .nil) (fun h r f=> .cons (h fun b hb=>f b (List.mem_append_left _ hb)) (r fun b hb=>f b (List.mem_append_right _ hb)))
theorem Tree.keep (e:aD Imm H H1) {v:V}{d:Dv}{F:List Addr} (t:Tree KF H v d F) (f: ∀b∈F,∀o,H b=some o->H1 b=some o):Tree KF H1 v d F:=(g8 fun r=>r.keep e).1 t fun b hb o h _=>f b hb o h
theorem aH.keep (e:aD Imm H H1) {v:List V}{d:List Dv}{F:List Addr} (t:aH KF H v d F) (f: ∀b∈F,∀o,H b=some o->H1 b=some o):aH KF H1 v d F:=(g8 fun r=>r.keep e).2.1 t fun b hb o h _=>f b hb o h
theorem aK.keep (e:aD Imm H H1) {κ:Type}{v:List (κ×V)}{d:List (κ×Dv)}{F:List Addr} (t:aK KF H v d F) (f: ∀b∈F,∀o,H b=some o->H1 b=some o):aK KF H1 v d F:=(g8 fun r=>r.keep e).2.2 t fun b hb o h _=>f b hb o h
theorem g9 {S:Addr->Prop}:(∀{v:V}{d:Dv}{F:List Addr},Tree KF H v d F->(∀b∈F,S b)->RepF KF S H v d)/\(∀{vs:List V}{ds:List Dv}{F:List Addr},aH KF H vs ds F->(∀b∈F,S b)->RepsF KF S H vs ds)/\ ∀{κ:Type}{vs:List (κ×V)}{ds:List (κ×Dv)}{F:List Addr},aK KF H vs ds F->(∀b∈F,S b)->RepsK KF S H vs ds:=
 Tree.ind (m1:=fun v d F=>(∀b∈F,S b)->RepF KF S H v d) (m2:=fun v d F=>(∀b∈F,S b)->RepsF KF S H v d) (m3:=fun _ v d F=>(∀b∈F,S b)->RepsK KF S H v d) (fun r _=>r.mono fun _ _ z=>z.elim)
  (fun h r f=> .lst (f _ (List.mem_cons_self ..)) h (r fun b hb=>f b (List.mem_cons_of_mem _ hb))) (fun h r f=> .dic (f _ (List.mem_cons_self ..)) (.inl h) (r fun b hb=>f b (List.mem_cons_of_mem _ hb)))
  (fun h r f=> .dik (f _ (List.mem_cons_self ..)) (.inl h) (r fun b hb=>f b (List.mem_cons_of_mem _ hb))) (fun h r f=> .ins (f _ (List.mem_cons_self ..)) h (r fun b hb=>f b (List.mem_cons_of_mem _ hb)))
  (fun _=> .nil) (fun h r f=> .cons (h fun b hb=>f b (List.mem_append_left _ hb)) (r fun b hb=>f b (List.mem_append_right _ hb))) (fun _=> .nil) (fun h r f=> .cons (h fun b hb=>f b (List.mem_append_left _ hb)) (r fun b hb=>f b (List.mem_append_right _ hb)))
theorem Tree.rep {S:Addr->Prop}{v:V}{d:Dv}{F:List Addr} (t:Tree KF H v d F) (f: ∀b∈F,S b):RepF KF S H v d:=g9.1 t f
theorem aH.rep {S:Addr->Prop}{v:List V}{d:List Dv}{F:List Addr} (t:aH KF H v d F) (f: ∀b∈F,S b):RepsF KF S H v d:=g9.2.1 t f
theorem aK.rep {S:Addr->Prop}{κ:Type}{v:List (κ×V)}{d:List (κ×Dv)}{F:List Addr} (t:aK KF H v d F) (f: ∀b∈F,S b):RepsK KF S H v d:=g9.2.2 t f
noncomputable abbrev bf (H:Hp) (F:List Addr):Prop:= ∀b∈F,∃o,H b=some o/\Sft o
theorem bf.cons {a:Addr}{F:List Addr}{o:HO} (h:H a=some o) (s:Sft o) (f:bf H F):bf H (a::F):=fun b hb=>(List.mem_cons.mp hb).elim (fun z=>z▸⟨o,h,s⟩) (f b)
theorem bf.app {F G:List Addr} (f:bf H F) (g:bf H G):bf H (F++G):=fun b hb=>(List.mem_append.mp hb).elim (f b) (g b)
theorem hB:(∀{v:V}{d:Dv}{F:List Addr},Tree KF H v d F->bf H F)/\(∀{vs:List V}{ds:List Dv}{F:List Addr},aH KF H vs ds F->bf H F)/\ ∀{κ:Type}{vs:List (κ×V)}{ds:List (κ×Dv)}{F:List Addr},aK KF H vs ds F->bf H F:=
 Tree.ind (m1:=fun _ _ F=>bf H F) (m2:=fun _ _ F=>bf H F) (m3:=fun _ _ _ F=>bf H F) (fun _ _ hb=>nomatch hb)
  (fun h r=>bf.cons h kn r) (fun h r=>bf.cons h ko r) (fun h r=>bf.cons h kr r) (fun h r=>bf.cons h ku r) (fun _ hb=>nomatch hb) (fun f g=>f.app g) (fun _ hb=>nomatch hb) (fun f g=>f.app g)
theorem Tree.there {v:V}{d:Dv}{F:List Addr} (t:Tree KF H v d F): ∀b∈F,∃o,H b=some o/\Sft o:=hB.1 t
theorem aH.there {v:List V}{d:List Dv}{F:List Addr} (t:aH KF H v d F): ∀b∈F,∃o,H b=some o/\Sft o:=hB.2.1 t
theorem aK.there {κ:Type}{v:List (κ×V)}{d:List (κ×Dv)}{F:List Addr} (t:aK KF H v d F): ∀b∈F,∃o,H b=some o/\Sft o:=hB.2.2 t
theorem kw: ∀{xs:List V}{ds:List Dv},RepsF KF Imm H xs ds->aH KF H xs ds []
 |_,_,.nil=> .nil
 |_,_,.cons h r=> .cons (F:=[]) (G:=[]) (.imm h) (kw r)
theorem kz: ∀{xs:List (List Key×V)}{ds:List (List Key×Dv)},RepsK KF Imm H xs ds->aK KF H xs ds []
 |_,_,.nil=> .nil
 |_,_,.cons h r=> .cons (F:=[]) (G:=[]) (.imm h) (kz r)
theorem Cell.tree {a:Addr} (c:Cell KF H a d):Tree KF H (.ref a) d [a]:=by
 cases d with
 |lst ds=>obtain ⟨xs,h,r⟩:=c;exact .lst h (kw r)
 |dic ds=>obtain ⟨xs,h,r⟩:=c;exact .dic h (kz r)
 |_=>exact c.elim
theorem cc.keep {W':Addr->Prop}{i:Nat}{a:Addr}{F:List Addr} (h:cc KF ms W H i a d F) (e:aD (fun b=> ¬W b) H H1) (f: ∀b∈F,∀o,H b=some o->H1 b=some o) (g: ∀b,¬W b->H b≠none-> ¬W' b):cc KF ms W' H1 i a d F:=by
 have ei:aD Imm H H1:=e.mono fun _ z=>z.elim
 rcases h with ⟨m,ef,c⟩|⟨n,n3,r⟩|⟨n,n2,ef,xs,ds,rfl,h,r⟩
 ·subst ef;exact .inl ⟨m,rfl,c.keep ei (f a (List.mem_cons_self ..))⟩
 ·exact .inr (.inl ⟨n,n3,r.keep ei f⟩)
 ·subst ef
  refine .inr (.inr ⟨n,n2,rfl,xs,ds,rfl,f a (List.mem_cons_self ..) _ h,?_⟩)
  exact (RepsF.keep (S:=fun b=> ¬W b/\H b≠none) (e.mono fun _ z=>z.1) (r.mono fun _ h n=>⟨n,h⟩)).mono fun b _ z=>g b z.1 z.2
theorem cc.rep {i:Nat}{a:Addr}{F:List Addr}{S:Addr->Prop} (h:cc KF ms W H i a d F) (f: ∀b∈F,S b) (g: ∀b,¬W b->S b):RepF KF S H (.ref a) d:=by
 rcases h with ⟨m,ef,c⟩|⟨n,n3,r⟩|⟨n,n2,ef,xs,ds,rfl,h,r⟩
 ·subst ef;exact c.rep (f a (List.mem_cons_self ..))
 ·exact r.rep f
 ·subst ef;exact .lst (f a (List.mem_cons_self ..)) h (r.mono fun b _ z=>g b z)
theorem cc.there {i:Nat}{a:Addr}{F:List Addr} (h:cc KF ms W H i a d F): ∀b∈F,∃o,H b=some o/\Sft o:=by
 rcases h with ⟨m,ef,c⟩|⟨n,n3,r⟩|⟨n,n2,ef,xs,ds,rfl,h,r⟩
 ·subst ef
  intro b hb
  rw [List.mem_singleton.mp hb]
  exact c.there
 ·exact r.there
 ·subst ef
  intro b hb
  rw [List.mem_singleton.mp hb]
  exact ⟨_,h,fun _ z=>(nomatch z),fun _ _ z=>(nomatch z)⟩
theorem Rel.same (R:Rel KF ms W H0 δ σ H) (e:Same H H1):Rel KF ms W H0 δ σ H1:=by
 refine ⟨R.len,fun a o h=>e a o (R.keep a o h),fun a w=> ?_,fun i d n hd=> ?_,?_⟩
 ·obtain ⟨o,ho,so⟩:=R.soft a w
  exact ⟨o,e a o ho,so⟩
 ·obtain ⟨v,hv,r⟩:=R.get i d n hd
  exact ⟨v,hv,r.same e⟩
 ·obtain ⟨Φ,f⟩:=R.foot
  refine ⟨Φ,f.wr,f.dj,f.nd,fun i d n hd=> ?_⟩
  obtain ⟨a,ha,o⟩:=f.at_ i d n hd
  exact ⟨a,ha,o.keep (.of e) (fun b _ o h=>e b o h) fun _ z _=>z⟩
theorem Rel.any (R:Rel KF ms W H0 δ σ H) {i:Nat}{d:Dv} (hd:δ[i]?=some (some d)): ∃v,σ[i]?=some (some v)/\RepF KF (fun _=>True) H v d:=by
 cases n:isOwn ms i with
 |false=>
  obtain ⟨v,hv,r⟩:=R.get i d n hd
  exact ⟨v,hv,r.mono fun _ _ _=>trivial⟩
 |true=>
  obtain ⟨Φ,f⟩:=R.foot
  obtain ⟨a,ha,o⟩:=f.at_ i d n hd
  exact ⟨_,ha,o.rep (fun _ _=>trivial) fun _ _=>trivial⟩
theorem Got.same (g:Got KF k W H H1 v d) (e:Same H1 H2):Got KF k W H H2 v d:=by
 cases k with
 |dp=>obtain ⟨F,nd,h,c⟩:=g;exact ⟨F,nd,h,c.keep (.of e) fun b _ o z=>e b o z⟩
 |one=>obtain ⟨a,ea,h,c⟩:=g;exact ⟨a,ea,h,c.same e⟩
 |imm=>exact RepF.same e g
 |frh=>exact RepF.same e g
 |any=>exact RepF.same e g
 |bor=>exact RepF.same e g
theorem bm (e:Same H H1) {a:Addr} (h:H1 a=none):H a=none:=by
 cases q:H a with
 |none=>rfl
 |some o=>rw [e a o q] at h;cases h
theorem Got.back (g:Got KF k W H1 H2 v d) (e:Same H H1):Got KF k W H H2 v d:=by
 cases k with
 |dp=>obtain ⟨F,nd,h,c⟩:=g;exact ⟨F,nd,fun b hb=>bm e (h b hb),c⟩
 |one=>obtain ⟨a,ea,h,c⟩:=g;exact ⟨a,ea,bm e h,c⟩
 |imm=>exact g
 |frh=>exact RepF.mono (fun a _ h=>bm e h) g
 |any=>exact g
 |bor=>exact g
theorem Got.bor (g:Got KF k W H H1 v d):RepF KF (fun _=>True) H1 v d:=by
 cases k with
 |dp=>obtain ⟨F,nd,h,c⟩:=g;exact c.rep fun _ _=>trivial
 |one=>obtain ⟨a,ea,h,c⟩:=g;subst ea;exact c.rep trivial
 |imm=>exact RepF.mono (fun _ _ z=>z.elim) g
 |frh=>exact RepF.mono (fun _ _ z=>trivial) g
 |any=>exact RepF.mono (fun _ _ z=>trivial) g
 |bor=>exact g
inductive Kd.le:Kd->Kd->Prop
 |refl (k:Kd):Kd.le k k
 |one_frh:Kd.le .one .frh
 |one_any:Kd.le .one .any
 |imm_frh:Kd.le .imm .frh
 |imm_any:Kd.le .imm .any
 |frh_any:Kd.le .frh .any
 |bor (k:Kd):Kd.le k .bor
 |dp_frh:Kd.le .dp .frh
 |dp_any:Kd.le .dp .any
 |one_dp:Kd.le .one .dp
 |imm_dp:Kd.le .imm .dp
theorem Got.le (R:Rel KF ms W H0 δ σ H) {k':Kd} (l:Kd.le k k') (g:Got KF k W H H1 v d):Got KF k' W H H1 v d:=by
 cases l with
 |refl=>exact g
 |one_frh=>obtain ⟨a,ea,h,c⟩:=g;subst ea;exact c.rep h
 |one_any=>obtain ⟨a,ea,h,c⟩:=g;subst ea;exact c.rep (R.fresh h)
 |imm_frh=>exact RepF.mono (fun _ _ z=>z.elim) g
 |imm_any=>exact RepF.mono (fun _ _ z=>z.elim) g
 |frh_any=>exact RepF.mono (fun _ _ z=>R.fresh z) g
 |bor=>exact g.bor
 |dp_frh=>obtain ⟨F,nd,h,c⟩:=g;exact c.rep h
 |dp_any=>obtain ⟨F,nd,h,c⟩:=g;exact c.rep fun b hb=>R.fresh (h b hb)
 |one_dp=>
  obtain ⟨a,ea,h,c⟩:=g
  subst ea
  exact ⟨[a],by simp,fun b hb=>by rw [List.mem_singleton.mp hb];exact h,c.tree⟩
 |imm_dp=>exact ⟨[],List.nodup_nil,fun b hb=>(List.not_mem_nil hb).elim,.imm g⟩
theorem Got.imm (g:Got KF k W H H1 v d) (h:d.imm=true):RepF KF Imm H1 v d:=g.bor.imm h
end
noncomputable def DE (KF:PySem.W.Frag) (ms:List Nat) (k:Kd) (te:TE) (m:EM):Prop:=
 ∀{W:Addr->Prop} (δ:Dt) (σ:St) (H0 H:Hp) (Q:VK) (d:Dv),Rel KF ms W H0 δ σ H->m δ=some d->(∀v H',Same H H'->Got KF k W H H' v d->Q v H')->te σ H Q
noncomputable def PD (X:Cx) (ms:List Nat) (k:Kd) (e:Expr) (m:EM):Prop:= ∃te,PE X e te/\DE X.K ms k te m
noncomputable def DTs (KF:PySem.W.Frag) (ms:List Nat) (tt:TT) (m:Dt->Option Bool):Prop:=
 ∀{W:Addr->Prop} (δ:Dt) (σ:St) (H0 H:Hp) (Q:Bool->Hp->Prop) (b:Bool),Rel KF ms W H0 δ σ H->m δ=some b->(∀H',Same H H'->Q b H')->tt σ H Q
noncomputable def PDt (X:Cx) (ms:List Nat) (e:Expr) (m:Dt->Option Bool):Prop:= ∃tt,PT X e tt/\DTs X.K ms tt m
noncomputable def PDw (X:Cx) (ms:List Nat) (e:Expr) (m:Dt->Option Bool):Prop:= ∃tt,PW X e tt/\DTs X.K ms tt m
noncomputable def Gots (KF:PySem.W.Frag) (k:Kd) (W:Addr->Prop) (H H':Hp):List V->List Dv->Prop
 |[],[]=>True
 |v::vs,d::ds=>Got KF k W H H' v d/\Gots KF k W H H' vs ds
 |_,_=>False
noncomputable def DA (KF:PySem.W.Frag) (ms:List Nat) (k:Kd) (ta:TA) (m:Dt->Option (List Dv)):Prop:=
 ∀{W:Addr->Prop} (δ:Dt) (σ:St) (H0 H:Hp) (Q:List V->Hp->Prop) (ds:List Dv),Rel KF ms W H0 δ σ H->m δ=some ds->(∀vs H',Same H H'->Gots KF k W H H' vs ds->Q vs H')->ta σ H Q
noncomputable def PDa (X:Cx) (ms:List Nat) (k:Kd) (es:List Expr) (m:Dt->Option (List Dv)):Prop:= ∃ta,PA X es ta/\DA X.K ms k ta m
section
variable {ms:List Nat}{σ:St}{H H1 H2:Hp}{k:Kd}
theorem Gots.back: ∀{vs:List V}{ds:List Dv},Gots KF k W H1 H2 vs ds->Same H H1->Gots KF k W H H2 vs ds
 |[],[],_,_=>trivial
 |_::_,_::_,h,e=>⟨h.1.back e,Gots.back h.2 e⟩
 |[],_::_,h,_=>h.elim
 |_::_,[],h,_=>h.elim
theorem Gots.length: ∀{vs:List V}{ds:List Dv},Gots KF k W H H1 vs ds->vs.length=ds.length
 |[],[],_=>rfl
 |_::_,_::_,h=>congrArg (· +1) (Gots.length h.2)
 |[],_::_,h=>h.elim
 |_::_,[],h=>h.elim
theorem Gots.bor: ∀{vs:List V}{ds:List Dv},Gots KF k W H H1 vs ds->RepsF KF (fun _=>True) H1 vs ds
 |[],[],_=> .nil
 |_::_,_::_,h=> .cons h.1.bor (Gots.bor h.2)
 |[],_::_,h=>h.elim
 |_::_,[],h=>h.elim
theorem Gots.anys: ∀{vs:List V}{ds:List Dv},Gots KF .any W H H1 vs ds->RepsF KF (fun a=> ¬W a) H1 vs ds
 |[],[],_=> .nil
 |_::_,_::_,h=> .cons h.1 (Gots.anys h.2)
 |[],_::_,h=>h.elim
 |_::_,[],h=>h.elim
theorem Gots.frhs: ∀{vs:List V}{ds:List Dv},Gots KF .frh W H H1 vs ds->RepsF KF (fun a=>H a=none) H1 vs ds
 |[],[],_=> .nil
 |_::_,_::_,h=> .cons h.1 (Gots.frhs h.2)
 |[],_::_,h=>h.elim
 |_::_,[],h=>h.elim
theorem Gots.imms: ∀{vs:List V}{ds:List Dv},Gots KF .imm W H H1 vs ds->RepsF KF Imm H1 vs ds
 |[],[],_=> .nil
 |_::_,_::_,h=> .cons h.1 (Gots.imms h.2)
 |[],_::_,h=>h.elim
 |_::_,[],h=>h.elim
end
noncomputable def eVar (i:Nat):EM:=fun δ=>(δ[i]?).join
noncomputable def eC (d:Dv):EM:=fun _=>some d
noncomputable def eOp (f:Dv->Dv->Option Dv) (a b:EM):EM:=fun δ=>(a δ).bind fun x=>(b δ).bind fun y=>f x y
noncomputable def eUn (f:Dv->Option Dv) (a:EM):EM:=fun δ=>(a δ).bind f
noncomputable def eImm (a:EM):EM:=fun δ=>(a δ).bind fun x=>if x.imm=true then some x else none
noncomputable def eAnd (a b:EM):EM:=fun δ=>(a δ).bind fun x=>match x with
 | .bl true=>b δ
 | .bl false=>some (.bl false)
 |_=>none
noncomputable def eOr (a b:EM):EM:=fun δ=>(a δ).bind fun x=>match x with
 | .bl true=>some (.bl true)
 | .bl false=>b δ
 |_=>none
noncomputable def eIf (c:Dt->Option Bool) (a b:EM):EM:=fun δ=>(c δ).bind fun x=>if x=true then a δ else b δ
noncomputable def kA:Dv->Option Bool
 | .bl b=>some b
 |_=>none
noncomputable def tOf (a:EM):Dt->Option Bool:=fun δ=>(a δ).bind kA
noncomputable def tyes:Dt->Option Bool:=fun _=>some true
noncomputable def tnot (a:Dt->Option Bool):Dt->Option Bool:=fun δ=>(a δ).map (!·)
noncomputable def tand (a b:Dt->Option Bool):Dt->Option Bool:=fun δ=>(a δ).bind fun x=>if x=true then b δ else some false
noncomputable def tor (a b:Dt->Option Bool):Dt->Option Bool:=fun δ=>(a δ).bind fun x=>if x=true then some true else b δ
noncomputable def aNil:Dt->Option (List Dv):=fun _=>some []
noncomputable def ab (a:EM) (r:Dt->Option (List Dv)):Dt->Option (List Dv):=fun δ=>(a δ).bind fun x=>(r δ).bind fun xs=>some (x::xs)
noncomputable def lim:Nat:=100000
theorem cT {n:Nat} (h:n<=lim):n<sizeLine:=Nat.lt_of_le_of_lt h (by decide)
noncomputable def eTup (a:Dt->Option (List Dv)):EM:=fun δ=>(a δ).bind fun xs=>if xs.length<=lim then some (.tup xs) else none
noncomputable def eLst (a:Dt->Option (List Dv)):EM:=fun δ=>(a δ).bind fun xs=>if xs.length<=lim then some (.lst xs) else none
noncomputable def dt (a:Dt->Option (List Dv)):EM:=fun δ=>(a δ).bind fun xs=>if xs.length<=lim/\imms xs=true then some (.lst xs) else none
noncomputable def dAdd:Dv->Dv->Option Dv
 | .int i,.int j=>some (.int (i+j))
 |_,_=>none
noncomputable def dSub:Dv->Dv->Option Dv
 | .int i,.int j=>some (.int (i-j))
 |_,_=>none
noncomputable def bM (i j:Int):Bool:=decide (i.natAbs<2^64)||decide (j.natAbs<2^64)||(decide (i.natAbs<2^2048)&&decide (j.natAbs<2^2048))
noncomputable def dMul:Dv->Dv->Option Dv
 | .int i,.int j=>if bM i j=true then some (.int (i*j)) else none
 |_,_=>none
noncomputable def dDiv:Dv->Dv->Option Dv
 | .int i,.int j=>if 0<j/\j<1073741824 then some (.int (i/j)) else none
 |_,_=>none
noncomputable def dMod:Dv->Dv->Option Dv
 | .int i,.int j=>if 0<j then some (.int (i%j)) else none
 |_,_=>none
noncomputable def dPow:Dv->Dv->Option Dv
 | .int i,.int j=>if 0<=j/\j<=1000/\i.natAbs<2^2048 then some (.int (i^j.toNat)) else none
 |_,_=>none
noncomputable def dNeg:Dv->Option Dv
 | .int i=>some (.int (-i))
 |_=>none
noncomputable def dNot:Dv->Option Dv
 | .bl b=>some (.bl (!b))
 |_=>none
noncomputable def dLt:Dv->Dv->Option Dv
 | .int i,.int j=>some (.bl (decide (i<j)))
 |_,_=>none
noncomputable def dLe:Dv->Dv->Option Dv
 | .int i,.int j=>some (.bl (decide (i<=j)))
 |_,_=>none
noncomputable def dGt:Dv->Dv->Option Dv
 | .int i,.int j=>some (.bl (decide (j<i)))
 |_,_=>none
noncomputable def dGe:Dv->Dv->Option Dv
 | .int i,.int j=>some (.bl (decide (j<=i)))
 |_,_=>none
noncomputable def dEq (x y:Dv):Option Dv:=if eqOk x y=true then some (.bl (PyData.eqv x.toPy y.toPy)) else none
noncomputable def dNe (x y:Dv):Option Dv:=if eqOk x y=true then some (.bl (!PyData.eqv x.toPy y.toPy)) else none
noncomputable def dIx:Dv->Dv->Option Dv
 | .lst xs,.int i=>atI xs i
 | .scr ns,.int i=>(atI ns i).map .int
 | .tup xs,.int i=>atI xs i
 |_,_=>none
noncomputable def dLen:Dv->Option Dv
 | .lst xs=>some (.int xs.length)
 | .scr xs=>some (.int xs.length)
 | .tup xs=>some (.int xs.length)
 |_=>none
section
variable {X:Cx}{ms:List Nat}{k k':Kd}{e a b:Expr}{m ma mb:EM}{pos:Pos}
theorem PD.le (h:PD X ms k e m) (l:Kd.le k k'):PD X ms k' e m:=by
 obtain ⟨te,p,q⟩:=h
 exact ⟨te,p,fun δ σ H0 H Q d R hm hq=>q δ σ H0 H Q d R hm fun v H' s g=>hq v H' s (g.le R l)⟩
theorem eR (h:PD X ms k e m):PD X ms .imm e (eImm m):=by
 obtain ⟨te,p,q⟩:=h
 refine ⟨te,p,fun δ σ H0 H Q d R hm hq=> ?_⟩
 obtain ⟨x,hx,e⟩:=Option.bind_eq_some_iff.mp hm
 split at e
 ·next h=>cases e;exact q δ σ H0 H Q _ R hx fun v H' s g=>hq v H' s (g.imm h)
 ·cases e
theorem PE.pd_c {v:V}{d:Dv} (h:PE X e (tC v)) (r: ∀H,RepF X.K Imm H v d):PD X ms .imm e (eC d):=
 ⟨_,h,fun δ σ H0 H Q d' R hm hq=>by cases hm;exact hq v H (fun _ _ z=>z) (r H)⟩
theorem ae {i j}:PD X ms .imm (.Constant (.int i) j pos) (eC (.int i)):=PE.pd_c nr fun _=> .int i
theorem bg {i j}:PD X ms .imm (.Constant (.bool i) j pos) (eC (.bl i)):=PE.pd_c nv fun _=> .bl i
theorem hE {j}:PD X ms .imm (.Constant .none j pos) (eC .non):=PE.pd_c nA fun _=> .non
theorem kB {i j}:PD X ms .imm (.Constant (.str i) j pos) (eC (.str i)):=PE.pd_c nB fun _=> .str i
theorem ce {i:Nat}{δ:Dt}{d:Dv} (h:eVar i δ=some d):δ[i]?=some (some d):=by
 unfold eVar at h
 cases e:δ[i]? with
 |none=>rw [e] at h;cases h
 |some o=>rw [e] at h;cases o with
  |none=>cases h
  |some x=>cases h;rfl
theorem aa (i:Nat) {x:Str} (hi:isOwn ms i=false) (h:PE X (.Name x pos) (tVar i)):PD X ms .any (.Name x pos) (eVar i):=by
 refine ⟨_,h,fun δ σ H0 H Q d R hm hq=> ?_⟩
 obtain ⟨v,hv,r⟩:=R.get i d hi (ce hm)
 exact ⟨v,hv,hq v H (fun _ _ z=>z) r⟩
theorem kC (i:Nat) {x:Str} (h:PE X (.Name x pos) (tVar i)):PD X ms .bor (.Name x pos) (eVar i):=by
 refine ⟨_,h,fun δ σ H0 H Q d R hm hq=> ?_⟩
 obtain ⟨v,hv,r⟩:=R.any (ce hm)
 exact ⟨v,hv,hq v H (fun _ _ z=>z) r⟩
noncomputable def OpD (KF:PySem.W.Frag) (r:R2) (f:Dv->Dv->Option Dv):Prop:=
 ∀(H:Hp) (x y:V) (dx dy d:Dv) (Q:VK),RepF KF (fun _=>True) H x dx->RepF KF (fun _=>True) H y dy->f dx dy=some d->(∀v,RepF KF Imm H v d->Q v H)->r x y H Q
theorem hJ {r:R2}{f:Dv->Dv->Option Dv}{ta tb:TE}{k1 k2:Kd} (hf:OpD KF r f) (ha:DE KF ms k1 ta ma) (hb:DE KF ms k2 tb mb):DE KF ms .imm (tOp r ta tb) (eOp f ma mb):=by
 intro W δ σ H0 H Q d R hm hq
 obtain ⟨x,hx,e⟩:=Option.bind_eq_some_iff.mp hm
 obtain ⟨y,hy,e⟩:=Option.bind_eq_some_iff.mp e
 refine ha δ σ H0 H _ x R hx fun v H1 s1 g1=> ?_
 refine hb δ σ H0 H1 _ y (R.same s1) hy fun u H2 s2 g2=> ?_
 exact hf H2 v u x y d Q (g1.same s2).bor g2.bor e fun z rz=>hq z H2 (fun a o h=>s2 a o (s1 a o h)) rz
theorem ah {op:Operator}{r:R2}{f:Dv->Dv->Option Dv}{k1 k2:Kd} (ho:OpR X (binaryOp op) r) (hf:OpD X.K r f) (ha:PD X ms k1 a ma) (hb:PD X ms k2 b mb):PD X ms .imm (.BinOp a op b pos) (eOp f ma mb):=by
 obtain ⟨ta,pa,qa⟩:=ha
 obtain ⟨tb,pb,qb⟩:=hb
 exact ⟨_,jt ho pa pb,hJ hf qa qb⟩
theorem dO {op:CmpOp}{r:R2}{f:Dv->Dv->Option Dv}{k1 k2:Kd} (ho:OpR X (compareOp op) r) (hf:OpD X.K r f) (ha:PD X ms k1 a ma) (hb:PD X ms k2 b mb) (hm:behindInMarks op b=false):PD X ms .imm (.Compare a [op] [b] pos) (eOp f ma mb):=by
 obtain ⟨ta,pa,qa⟩:=ha
 obtain ⟨tb,pb,qb⟩:=hb
 exact ⟨_,oq ho pa pb hm,hJ hf qa qb⟩
theorem aR {op:CmpOp}{r:R2}{f:Dv->Dv->Option Dv}{k1 k2:Kd} (ho:OpR X (compareOp op) r) (hf:OpD X.K r f) (ha:PD X ms k1 a ma) (hb:PD X ms k2 b mb) (hm:behindInMarks op b=false):PDt X ms (.Compare a [op] [b] pos) (tOf (eOp f ma mb)):=by
 obtain ⟨ta,pa,qa⟩:=ha
 obtain ⟨tb,pb,qb⟩:=hb
 refine ⟨_,ou ho pa pb hm,fun δ σ H0 H Q c R hm hq=> ?_⟩
 obtain ⟨x,hx,e⟩:=Option.bind_eq_some_iff.mp hm
 refine hJ hf qa qb δ σ H0 H _ x R hx fun v H' s g=> ?_
 cases x with
 |bl z=>cases e;cases g;exact ⟨_,rfl,hq H' s⟩
 |_=>cases e
theorem bu:OpD KF (rI0 fun i j=> .int (i+j)) dAdd:=by
 intro H x y dx dy d Q rx ry h hq
 unfold dAdd at h
 split at h
 ·cases h;cases rx;cases ry;exact ⟨_,_,rfl,rfl,hq _ (.int _)⟩
 ·cases h
theorem cf:OpD KF (rI0 fun i j=> .int (i-j)) dSub:=by
 intro H x y dx dy d Q rx ry h hq
 unfold dSub at h
 split at h
 ·cases h;cases rx;cases ry;exact ⟨_,_,rfl,rfl,hq _ (.int _)⟩
 ·cases h
theorem fH:OpD KF (rI0 fun i j=> .bl (decide (i<j))) dLt:=by
 intro H x y dx dy d Q rx ry h hq
 unfold dLt at h
 split at h
 ·cases h;cases rx;cases ry;exact ⟨_,_,rfl,rfl,hq _ (.bl _)⟩
 ·cases h
theorem kD:OpD KF (rI0 fun i j=> .bl (decide (j<i))) dGt:=by
 intro H x y dx dy d Q rx ry h hq
 unfold dGt at h
 split at h
 ·cases h;cases rx;cases ry;exact ⟨_,_,rfl,rfl,hq _ (.bl _)⟩
 ·cases h
theorem aS:OpD KF (rI (fun _ j=>0<j) fun i j=> .int (i%j)) dMod:=by
 intro H x y dx dy d Q rx ry h hq
 unfold dMod at h
 split at h
 rotate_left
 ·cases h
 cases rx
 cases ry
 split at h
 ·next c=>cases h;exact ⟨_,_,rfl,rfl,c,hq _ (.int _)⟩
 ·cases h
theorem cU:OpD KF (rI CDiv fun i j=> .int (i/j)) dDiv:=by
 intro H x y dx dy d Q rx ry h hq
 unfold dDiv at h
 split at h
 rotate_left
 ·cases h
 cases rx
 cases ry
 split at h
 ·next c=>cases h;exact ⟨_,_,rfl,rfl,c,hq _ (.int _)⟩
 ·cases h
theorem bh:OpD KF (rEqF KF) dEq:=by
 intro H x y dx dy d Q rx ry h hq
 unfold dEq at h
 split at h
 ·next c=>cases h;exact ⟨_,_,rx,ry,c,hq _ (.bl _)⟩
 ·cases h
theorem hU:OpD KF (rNeF KF) dNe:=by
 intro H x y dx dy d Q rx ry h hq
 unfold dNe at h
 split at h
 ·next c=>cases h;exact ⟨_,_,rx,ry,c,hq _ (.bl _)⟩
 ·cases h
theorem hV {i:Int}{n:Nat} (h:i.natAbs<2^n):Builtin.Int.intBits i<=n:=by
 unfold Builtin.Int.intBits
 split
 ·exact Nat.zero_le _
 ·next h0=>
  have hn:i.natAbs≠0:=fun z=>h0 (by simpa using z)
  exact (Nat.log2_lt hn).mpr h
theorem qz {i j:Int} (h:bM i j=true):IntMulOk i j:=by
 unfold bM at h
 rw [Bool.or_eq_true,Bool.or_eq_true,Bool.and_eq_true] at h
 rcases h with (h|h)|⟨h1,h2⟩
 ·have:=of_decide_eq_true h
  exact (CMul.ok (.inl ⟨by lia,by lia⟩))
 ·have:=of_decide_eq_true h
  exact (CMul.ok (.inr ⟨by lia,by lia⟩))
 ·have h1:=of_decide_eq_true h1
  have h2:=of_decide_eq_true h2
  have b1:=hV h1
  have b2:=hV h2
  exact IntMulOk.of_bits (Nat.le_trans b1 (by decide)) (Nat.le_trans b2 (by decide))
theorem cr:OpD KF (rI ka fun i j=> .int (i*j)) dMul:=by
 intro H x y dx dy d Q rx ry h hq
 unfold dMul at h
 split at h
 rotate_left
 ·cases h
 cases rx
 cases ry
 split at h
 ·next c=>cases h;exact ⟨_,_,rfl,rfl,qz c,hq _ (.int _)⟩
 ·cases h
theorem eS:OpD KF (rI j9 fun i j=> .int (i^j.toNat)) dPow:=by
 intro H x y dx dy d Q rx ry h hq
 unfold dPow at h
 split at h
 rotate_left
 ·cases h
 cases rx
 cases ry
 split at h
 ·next c=>
  cases h
  refine ⟨_,_,rfl,rfl,⟨c.1,?_⟩,hq _ (.int _)⟩
  have b:=hV c.2.2
  refine Int.le_trans (Int.mul_le_mul (Int.ofNat_le.mpr b) c.2.1 c.1 (by decide)) (by decide)
 ·cases h
theorem qB (ha:PD X ms k a ma):PD X ms .imm (.UnaryOp .Not a pos) (eUn dNot ma):=by
 obtain ⟨ta,pa,qa⟩:=ha
 refine ⟨_,nQ pa,fun δ σ H0 H Q d R hm hq=> ?_⟩
 obtain ⟨x,hx,e⟩:=Option.bind_eq_some_iff.mp hm
 refine qa δ σ H0 H _ x R hx fun v H1 s1 g1=> ?_
 have g:=g1.bor
 cases g<;>simp only [dNot] at e<;>first|cases e|skip
 exact ⟨_,rfl,hq _ _ s1 (RepF.bl _)⟩
theorem fI {op} (h:PD X ms k a ma):PD X ms k (.BoolOp op [a] pos) ma:=by
 obtain ⟨ta,pa,qa⟩:=h
 exact ⟨ta,nN pa,qa⟩
theorem fJ {rest:List Expr}{k2:Kd} (ha:PD X ms k a ma) (hb:PD X ms k2 (.BoolOp .And (b::rest) pos) mb):PD X ms .bor (.BoolOp .And (a::b::rest) pos) (eAnd ma mb):=by
 obtain ⟨ta,pa,qa⟩:=ha
 obtain ⟨tb,pb,qb⟩:=hb
 refine ⟨_,nO pa pb,fun δ σ H0 H Q d R hm hq=> ?_⟩
 obtain ⟨x,hx,e⟩:=Option.bind_eq_some_iff.mp hm
 refine qa δ σ H0 H _ x R hx fun v H1 s1 g1=> ?_
 have g:=g1.bor
 cases g with
 |bl c=>
  refine ⟨c,rfl,?_⟩
  cases c with
  |true=>exact qb δ σ H0 H1 _ d (R.same s1) e fun u H2 s2 g2=>hq u H2 (fun a o h=>s2 a o (s1 a o h)) g2.bor
  |false=>cases e;exact hq _ H1 s1 (.bl false)
 |_=>cases e
theorem qC {rest:List Expr}{k2:Kd} (ha:PD X ms k a ma) (hb:PD X ms k2 (.BoolOp .Or (b::rest) pos) mb):PD X ms .bor (.BoolOp .Or (a::b::rest) pos) (eOr ma mb):=by
 obtain ⟨ta,pa,qa⟩:=ha
 obtain ⟨tb,pb,qb⟩:=hb
 refine ⟨_,nP pa pb,fun δ σ H0 H Q d R hm hq=> ?_⟩
 obtain ⟨x,hx,e⟩:=Option.bind_eq_some_iff.mp hm
 refine qa δ σ H0 H _ x R hx fun v H1 s1 g1=> ?_
 have g:=g1.bor
 cases g with
 |bl c=>
  refine ⟨c,rfl,?_⟩
  cases c with
  |false=>exact qb δ σ H0 H1 _ d (R.same s1) e fun u H2 s2 g2=>hq u H2 (fun a o h=>s2 a o (s1 a o h)) g2.bor
  |true=>cases e;exact hq _ H1 s1 (.bl true)
 |_=>cases e
theorem cu (h:PD X ms k e m) (he: ∀whole,isTrue e X.env whole=(do let v<-whole;standAt e.pos;holding [v] (truthy v)):=by intro _;rfl):PDt X ms e (tOf m):=by
 obtain ⟨te,pe,qe⟩:=h
 refine ⟨_,nF pe he,fun δ σ H0 H Q c R hm hq=> ?_⟩
 obtain ⟨x,hx,e⟩:=Option.bind_eq_some_iff.mp hm
 refine qe δ σ H0 H _ x R hx fun v H' s g=> ?_
 have g:=g.bor
 cases g with
 |bl z=>cases e;exact ⟨_,rfl,hq H' s⟩
 |_=>cases e
variable {ta' tb':Dt->Option Bool}
theorem cw (h:PDt X ms a ta'):PDt X ms (.UnaryOp .Not a pos) (tnot ta'):=by
 obtain ⟨t,p,q⟩:=h
 refine ⟨_,nK p,fun δ σ H0 H Q c R hm hq=> ?_⟩
 obtain ⟨x,hx,e⟩:=Option.map_eq_some_iff.mp hm
 subst e
 exact q δ σ H0 H _ x R hx fun H' s=>hq H' s
theorem qD (h:PDt X ms a ta'):PDw X ms (.BoolOp .And [a] pos) ta':=by
 obtain ⟨t,p,q⟩:=h
 exact ⟨t,nG p,q⟩
theorem fK (h:PDt X ms a ta'):PDw X ms (.BoolOp .Or [a] pos) ta':=by
 obtain ⟨t,p,q⟩:=h
 exact ⟨t,nH p,q⟩
theorem qE {rest:List Expr} (h:PDt X ms a ta') (hb:PDw X ms (.BoolOp .And (b::rest) pos) tb'):PDw X ms (.BoolOp .And (a::b::rest) pos) (tand ta' tb'):=by
 obtain ⟨t,p,q⟩:=h
 obtain ⟨u,p2,q2⟩:=hb
 refine ⟨_,nI p p2,fun δ σ H0 H Q c R hm hq=> ?_⟩
 obtain ⟨x,hx,e⟩:=Option.bind_eq_some_iff.mp hm
 refine q δ σ H0 H _ x R hx fun H1 s1=> ?_
 cases x with
 |true=>exact q2 δ σ H0 H1 _ c (R.same s1) e fun H2 s2=>hq H2 fun a o h=>s2 a o (s1 a o h)
 |false=>cases e;exact hq H1 s1
theorem eT {rest:List Expr} (h:PDt X ms a ta') (hb:PDw X ms (.BoolOp .Or (b::rest) pos) tb'):PDw X ms (.BoolOp .Or (a::b::rest) pos) (tor ta' tb'):=by
 obtain ⟨t,p,q⟩:=h
 obtain ⟨u,p2,q2⟩:=hb
 refine ⟨_,nJ p p2,fun δ σ H0 H Q c R hm hq=> ?_⟩
 obtain ⟨x,hx,e⟩:=Option.bind_eq_some_iff.mp hm
 refine q δ σ H0 H _ x R hx fun H1 s1=> ?_
 cases x with
 |false=>exact q2 δ σ H0 H1 _ c (R.same s1) e fun H2 s2=>hq H2 fun a o h=>s2 a o (s1 a o h)
 |true=>cases e;exact hq H1 s1
theorem PDw.pt (h:PDw X ms a ta'):PDt X ms a ta':=by
 obtain ⟨t,p,q⟩:=h
 exact ⟨t,p.pt,q⟩
variable {es:List Expr}{ml:Dt->Option (List Dv)}
theorem ag:PDa X ms k [] aNil:=⟨_,dJ,fun δ σ H0 H Q ds R hm hq=>by cases hm;exact hq [] H (fun _ _ z=>z) trivial⟩
theorem ad (ha:PD X ms k a ma) (hr:PDa X ms k es ml) (hs:starEach (a::es) X.env=(false,eval a X.env)::starEach es X.env:=by rfl):PDa X ms k (a::es) (ab ma ml):=by
 obtain ⟨ta,pa,qa⟩:=ha
 obtain ⟨tr,pr,qr⟩:=hr
 refine ⟨_,cn pa pr hs,fun δ σ H0 H Q ds R hm hq=> ?_⟩
 obtain ⟨x,hx,e⟩:=Option.bind_eq_some_iff.mp hm
 obtain ⟨xs,hxs,e⟩:=Option.bind_eq_some_iff.mp e
 cases e
 refine qa δ σ H0 H _ x R hx fun v H1 s1 g1=> ?_
 refine qr δ σ H0 H1 _ xs (R.same s1) hxs fun vs H2 s2 g2=> ?_
 exact hq (v::vs) H2 (fun a o h=>s2 a o (s1 a o h)) ⟨g1.same s2,g2.back s1⟩
theorem Same.new {H:Hp}{p:Addr}{o:HO} (h:H p=none):Same H (L2.upd H p o):=Same.upd h
theorem cV {x1} (h:PDa X ms k es ml) (hk:k= .imm \/k= .frh \/k= .any \/k= .bor):PD X ms k (.Tuple es x1 pos) (eTup ml):=by
 obtain ⟨t,p,q⟩:=h
 refine ⟨_,oI p,fun δ σ H0 H Q d R hm hq=> ?_⟩
 obtain ⟨xs,hx,e⟩:=Option.bind_eq_some_iff.mp hm
 split at e
 ·next hl=>
  cases e
  refine q δ σ H0 H _ xs R hx fun vs H1 s1 g1=>⟨?_,fun p hp=> ?_⟩
  ·rw [g1.length];exact Nat.le_of_lt (cT hl)
  ·have s2:=Same.new (o:= .tup vs) hp
   refine hq _ _ (fun a o h=>s2 a o (s1 a o h)) ?_
   rcases hk with rfl|rfl|rfl|rfl
   ·exact .tup ay (g1.imms.same s2)
   ·exact .tup ay (g1.frhs.same s2)
   ·exact .tup ay (g1.anys.same s2)
   ·exact .tup ay (g1.bor.same s2)
 ·cases e
theorem hX (h:PDa X ms k es ml):PD X ms .one (.List es pos) (dt ml):=by
 obtain ⟨t,p,q⟩:=h
 refine ⟨_,jw p,fun δ σ H0 H Q d R hm hq=> ?_⟩
 obtain ⟨xs,hx,e⟩:=Option.bind_eq_some_iff.mp hm
 split at e
 ·next hl=>
  cases e
  refine q δ σ H0 H _ xs R hx fun vs H1 s1 g1=>⟨?_,fun p hp=> ?_⟩
  ·rw [g1.length];exact Nat.le_of_lt (cT hl.1)
  ·have s2:=Same.new (o:= .lst vs) hp
   exact hq _ _ (fun a o h=>s2 a o (s1 a o h)) ⟨p,rfl,bm s1 hp,vs,ay,(g1.bor.imm hl.2).same s2⟩
 ·cases e
theorem fL (h:PDa X ms .any es ml):PD X ms .any (.List es pos) (eLst ml):=by
 obtain ⟨t,p,q⟩:=h
 refine ⟨_,jw p,fun δ σ H0 H Q d R hm hq=> ?_⟩
 obtain ⟨xs,hx,e⟩:=Option.bind_eq_some_iff.mp hm
 split at e
 ·next hl=>
  cases e
  refine q δ σ H0 H _ xs R hx fun vs H1 s1 g1=>⟨?_,fun p hp=> ?_⟩
  ·rw [g1.length];exact Nat.le_of_lt (cT hl)
  ·have s2:=Same.new (o:= .lst vs) hp
   exact hq _ _ (fun a o h=>s2 a o (s1 a o h)) (.lst ((R.same s1).fresh hp) ay (g1.anys.same s2))
 ·cases e
end
end L2
set_option maxHeartbeats 4000000
namespace L2
open PySem PySem.Spec PyProof.Rows
variable {KF:PySem.W.Frag}{W W':Addr->Prop}
theorem Same.tr {H H1 H2:Hp} (a:Same H H1) (b:Same H1 H2):Same H H2:=fun x o h=>b x o (a x o h)
noncomputable def ixKd:Kd->Kd
 | .one=> .imm
 | .dp=> .frh
 |k=>k
section
variable {ms:List Nat}{σ:St}{H H1 H2:Hp}{k:Kd}
theorem RepsF.gots_imm: ∀{xs:List V}{ds:List Dv},RepsF KF Imm H1 xs ds->Gots KF .imm W H H1 xs ds
 |_,_,.nil=>trivial
 |_,_,.cons h r=>⟨h,RepsF.gots_imm r⟩
theorem RepsF.gots_frh: ∀{xs:List V}{ds:List Dv},RepsF KF (fun a=>H a=none) H1 xs ds->Gots KF .frh W H H1 xs ds
 |_,_,.nil=>trivial
 |_,_,.cons h r=>⟨h,RepsF.gots_frh r⟩
theorem RepsF.gots_any: ∀{xs:List V}{ds:List Dv},RepsF KF (fun a=> ¬W a) H1 xs ds->Gots KF .any W H H1 xs ds
 |_,_,.nil=>trivial
 |_,_,.cons h r=>⟨h,RepsF.gots_any r⟩
theorem RepsF.gots_bor: ∀{xs:List V}{ds:List Dv},RepsF KF (fun _=>True) H1 xs ds->Gots KF .bor W H H1 xs ds
 |_,_,.nil=>trivial
 |_,_,.cons h r=>⟨h,RepsF.gots_bor r⟩
theorem Got.lst {v:V}{ds:List Dv} (g:Got KF k W H H1 v (.lst ds)): ∃a xs,v= .ref a/\H1 a=some (.lst xs)/\Gots KF (ixKd k) W H H1 xs ds:=by
 cases k with
 |one=>obtain ⟨a,rfl,_,xs,e,r⟩:=g;exact ⟨a,xs,rfl,e,r.gots_imm⟩
 |dp=>
  obtain ⟨F,nd,h,c⟩:=g
  cases c.rep h with
  |lst s h r=>exact ⟨_,_,rfl,h,r.gots_frh⟩
 |imm=>cases g with|lst s h r=>exact s.elim
 |frh=>cases g with|lst s h r=>exact ⟨_,_,rfl,h,r.gots_frh⟩
 |any=>cases g with|lst s h r=>exact ⟨_,_,rfl,h,r.gots_any⟩
 |bor=>cases g with|lst s h r=>exact ⟨_,_,rfl,h,r.gots_bor⟩
theorem Got.tup {v:V}{ds:List Dv} (g:Got KF k W H H1 v (.tup ds)): ∃a xs,v= .ref a/\H1 a=some (.tup xs)/\Gots KF (ixKd k) W H H1 xs ds:=by
 cases k with
 |one=>obtain ⟨a,rfl,_,c⟩:=g;exact c.elim
 |dp=>
  obtain ⟨F,nd,h,c⟩:=g
  cases c.rep h with
  |tup h r=>exact ⟨_,_,rfl,h,r.gots_frh⟩
 |imm=>cases g with|tup h r=>exact ⟨_,_,rfl,h,r.gots_imm⟩
 |frh=>cases g with|tup h r=>exact ⟨_,_,rfl,h,r.gots_frh⟩
 |any=>cases g with|tup h r=>exact ⟨_,_,rfl,h,r.gots_any⟩
 |bor=>cases g with|tup h r=>exact ⟨_,_,rfl,h,r.gots_bor⟩
theorem qF {v:V}{d:Dv} (r:RepF KF Imm H1 v d):Got KF (ixKd k) W H H1 v d:=by
 cases k with
 |one=>exact r
 |dp=>exact r.mono fun _ _ z=>z.elim
 |imm=>exact r
 |frh=>exact r.mono fun _ _ z=>z.elim
 |any=>exact r.mono fun _ _ z=>z.elim
 |bor=>exact r.mono fun _ _ z=>z.elim
theorem Gots.get: ∀{xs:List V}{ds:List Dv}{j:Nat}{d:Dv},Gots KF k W H H1 xs ds->ds[j]?=some d-> ∃u,xs[j]?=some u/\Got KF k W H H1 u d
 |[],[],_,_,_,e=>by simp at e
 |x::_,_::_,0,_,g,e=>by simp at e;subst e;exact ⟨x,rfl,g.1⟩
 |_::_,_::_,j+1,d,g,e=>by
  obtain ⟨u,h1,h2⟩:=Gots.get (j:=j) (d:=d) g.2 (by simpa using e)
  exact ⟨u,by simpa using h1,h2⟩
 |[],_::_,_,_,g,_=>g.elim
 |_::_,[],_,_,g,_=>g.elim
theorem Gots.atI {xs:List V}{ds:List Dv}{i:Int}{d:Dv} (g:Gots KF k W H H1 xs ds) (e:L2.atI ds i=some d): ∃u,L2.atI xs i=some u/\Got KF k W H H1 u d:=by
 unfold L2.atI at e|-
 rw [g.length]
 obtain ⟨j,hj,e⟩:=Option.bind_eq_some_iff.mp e
 obtain ⟨u,hu,q⟩:=g.get e
 exact ⟨u,by rw [hj];exact hu,q⟩
end
section
variable {X:Cx}{ms:List Nat}{k k1 k2:Kd}{e a b:Expr}{m ma mb:EM}{pos:Pos}
theorem aY (ha:PD X ms k a ma) (hb:PD X ms k2 b mb) (hs:jQ b):PD X ms (ixKd k) (.Subscript a b pos) (eOp dIx ma mb):=by
 obtain ⟨ta,pa,qa⟩:=ha
 obtain ⟨tb,pb,qb⟩:=hb
 refine ⟨_,o9 pp pa pb hs,fun δ σ H0 H Q d R hm hq=> ?_⟩
 obtain ⟨x,hx,e⟩:=Option.bind_eq_some_iff.mp hm
 obtain ⟨y,hy,e⟩:=Option.bind_eq_some_iff.mp e
 refine qa δ σ H0 H _ x R hx fun v H1 s1 g1=> ?_
 refine qb δ σ H0 H1 _ y (R.same s1) hy fun u H2 s2 g2=> ?_
 have g1:=g1.same s2
 have s12:=s1.tr s2
 have g2:=g2.bor
 cases x with
 |lst ds=>
  cases g2<;>simp only [dIx] at e<;>first|cases e|skip
  obtain ⟨p,xs,rfl,h,r⟩:=g1.lst
  obtain ⟨z,hz,gz⟩:=r.atI e
  exact .inl ⟨p,xs,_,z,rfl,rfl,SqL.of h,hz,hq z H2 s12 gz⟩
 |scr ns=>
  cases g2<;>simp only [dIx] at e<;>first|cases e|skip
  have g:=g1.bor
  cases g with
  |scr h=>
   obtain ⟨z,hz,rfl⟩:=Option.map_eq_some_iff.mp e
   refine .inl ⟨_,_,_,.int z,rfl,rfl,h.sq,?_,hq _ H2 s12 (qF (.int z))⟩
   unfold atI at hz|-
   rw [List.length_map]
   obtain ⟨j,hj,e⟩:=Option.bind_eq_some_iff.mp hz
   rw [hj]
   show (ns.map V.int)[j]?=_
   rw [List.getElem?_map,e]
   rfl
 |tup ds=>
  cases g2<;>simp only [dIx] at e<;>first|cases e|skip
  obtain ⟨p,xs,rfl,h,r⟩:=g1.tup
  obtain ⟨z,hz,gz⟩:=r.atI e
  exact .inr (.inl ⟨p,xs,_,z,rfl,rfl,SqT.of h,hz,hq z H2 s12 gz⟩)
 |_=>cases g2<;>simp only [dIx] at e<;>cases e
noncomputable def PDo (X:Cx) (ms:List Nat) (e:Option Expr) (m:Dt->Option (Option Int)):Prop:= ∃t,PO X e t/\
 ∀{W:Addr->Prop} (δ:Dt) (σ:St) (H0 H:Hp) (Q:Option Int->Hp->Prop) (o:Option Int),Rel X.K ms W H0 δ σ H->m δ=some o->(∀H',Same H H'->Q o H')->t σ H Q
noncomputable def bo:Dt->Option (Option Int):=fun _=>some none
noncomputable def kE:Dv->Option Int
 | .int i=>some i
 |_=>none
noncomputable def aV (m:EM):Dt->Option (Option Int):=fun δ=>(m δ).bind fun d=>(kE d).map some
theorem dP:PDo X ms none bo:=⟨_,o2,fun δ σ H0 H Q o R hm hq=>by cases hm;exact hq H fun _ _ z=>z⟩
theorem cW (h:PD X ms k e m):PDo X ms (some e) (aV m):=by
 obtain ⟨te,p,q⟩:=h
 refine ⟨_,o3 p,fun δ σ H0 H Q o R hm hq=> ?_⟩
 obtain ⟨x,hx,e⟩:=Option.bind_eq_some_iff.mp hm
 refine q δ σ H0 H _ x R hx fun v H1 s1 g1=> ?_
 have g:=g1.bor
 cases g<;>simp only [kE] at e<;>cases e
 exact ⟨_,rfl,hq H1 s1⟩
noncomputable def cutD {α:Type} (xs:List α) (lo hi:Option Int):List α:=(xs.drop (HT.sIx xs.length 0 lo)).take (HT.sIx xs.length xs.length hi-HT.sIx xs.length 0 lo)
noncomputable def eSl (m:EM) (lo hi:Dt->Option (Option Int)):EM:=fun δ=>(m δ).bind fun x=>(lo δ).bind fun l=>(hi δ).bind fun h=>match x with
 | .lst ds=>if imms (cutD ds l h)=true then some (.lst (cutD ds l h)) else none
 | .scr ns=>some (.lst (cutD (ns.map Dv.int) l h))
 |_=>none
theorem fM {lo hi:Option Expr}{ml mh:Dt->Option (Option Int)}{p2:Pos} (he:PD X ms k e m) (hl:PDo X ms lo ml) (hh:PDo X ms hi mh):PD X ms .one (.Subscript e (.Slice lo hi none p2) pos) (eSl m ml mh):=by
 obtain ⟨te,p,q⟩:=he
 obtain ⟨tl,pl,ql⟩:=hl
 obtain ⟨th,ph,qh⟩:=hh
 refine ⟨_,jN pB p pl ph,fun δ σ H0 H Q d R hm hq=> ?_⟩
 obtain ⟨x,hx,e⟩:=Option.bind_eq_some_iff.mp hm
 obtain ⟨l,hl,e⟩:=Option.bind_eq_some_iff.mp e
 obtain ⟨h,hh,e⟩:=Option.bind_eq_some_iff.mp e
 refine q δ σ H0 H _ x R hx fun v H1 s1 g1=> ?_
 refine ql δ σ H0 H1 _ l (R.same s1) hl fun H2 s2=> ?_
 refine qh δ σ H0 H2 _ h (R.same (s1.tr s2)) hh fun H3 s3=> ?_
 have g:=(g1.same (s2.tr s3)).bor
 cases g with
 | @lst a xs ds _ hr r=>
  simp only at e
  split at e
  ·next hi=>
   cases e
   refine ⟨a,xs,rfl,SqL.of hr,fun p hp=> ?_⟩
   have s4:=Same.new (o:= .lst (cutV xs l h)) hp
   have s03:=s1.tr (s2.tr s3)
   refine hq _ _ (s03.tr s4) ⟨p,rfl,bm s03 hp,_,ay,?_⟩
   have rr:RepsF X.K (fun _=>True) H3 (cutV xs l h) (cutD ds l h):=by
    unfold cutV cutD
    rw [r.length]
    exact (r.drop _).take _
   exact (rr.imm hi).same s4
  ·cases e
 | @scr a ns hr=>
  cases e
  refine ⟨a,_,rfl,hr.sq,fun p hp=> ?_⟩
  have s4:=Same.new (o:= .lst (cutV (ns.map V.int) l h)) hp
  have s03:=s1.tr (s2.tr s3)
  refine hq _ _ (s03.tr s4) ⟨p,rfl,bm s03 hp,_,ay,?_⟩
  have r: ∀HH,RepsF X.K Imm HH (ns.map V.int) (ns.map Dv.int):=fun _=>eQ ns
  generalize L2.upd H3 p (.lst (cutV (ns.map V.int) l h))=HH
  unfold cutV cutD
  have:=((r HH).drop (HT.sIx (ns.map V.int).length 0 l)).take (HT.sIx (ns.map V.int).length (ns.map V.int).length h-HT.sIx (ns.map V.int).length 0 l)
  simpa using this
 |_=>cases e
noncomputable def bG (KF:PySem.W.Frag) (r:List V->Hp->VK->Prop) (k:Kd) (f:List Dv->Option Dv):Prop:=
 ∀(W:Addr->Prop) (H:Hp) (vs:List V) (ds:List Dv) (d:Dv) (Q:VK),RepsF KF (fun _=>True) H vs ds->f ds=some d->(∀v H',Same H H'->Got KF k W H H' v d->Q v H')->r vs H Q
noncomputable def af (f:List Dv->Option Dv) (a:Dt->Option (List Dv)):EM:=fun δ=>(a δ).bind f
variable {es:List Expr}{ml:Dt->Option (List Dv)}{r:List V->Hp->VK->Prop}{f:List Dv->Option Dv}{x:Str}{p:Pos}
theorem aZ {id:String} (hc:bj X (.builtin id) r) (hf:bG X.K r k f) (hg:Gl X x) (hm:X.mg x=none) (hv:bootBuiltins x=some (.builtin id)) (ha:PDa X ms k1 (a::es) ml) (hn:x≠"__name__":=by decide) (hdb:(x==("__debug__":Str))=false:=by decide)
  (he:starEach (a::es) X.env=(false,eval a X.env)::starEach es X.env:=by rfl) (hpl:(backTo pos (starEach es X.env)).any (·.1)=false:=by rfl):
  PD X ms k (.Call (.Name x p) (a::es) [] pos) (af f ml):=by
 obtain ⟨ta,pa,qa⟩:=ha
 refine ⟨_,jD hc hg hm hv pa hn hdb he hpl,fun δ σ H0 H Q d R hm hq=> ?_⟩
 obtain ⟨xs,hx,e⟩:=Option.bind_eq_some_iff.mp hm
 refine qa δ σ H0 H _ xs R hx fun vs H1 s1 g1=> ?_
 exact hf _ H1 vs xs d Q g1.bor e fun v H' s g=>hq v H' (s1.tr s) (g.back s1)
theorem cH {T:String} (hc:bj X (.type T) r) (hf:bG X.K r k f) (hg:Gl X x) (hm:X.mg x=none) (hv:bootBuiltins x=some (.type T)) (ha:PDa X ms k1 (a::es) ml) (hn:x≠"__name__":=by decide) (hdb:(x==("__debug__":Str))=false:=by decide)
  (he:starEach (a::es) X.env=(false,eval a X.env)::starEach es X.env:=by rfl) (hpl:(backTo pos (starEach es X.env)).any (·.1)=false:=by rfl):
  PD X ms k (.Call (.Name x p) (a::es) [] pos) (af f ml):=by
 obtain ⟨ta,pa,qa⟩:=ha
 refine ⟨_,jE hc hg hm hv pa hn hdb he hpl,fun δ σ H0 H Q d R hm hq=> ?_⟩
 obtain ⟨xs,hx,e⟩:=Option.bind_eq_some_iff.mp hm
 refine qa δ σ H0 H _ xs R hx fun vs H1 s1 g1=> ?_
 exact hf _ H1 vs xs d Q g1.bor e fun v H' s g=>hq v H' (s1.tr s) (g.back s1)
noncomputable def fLen:List Dv->Option Dv
 |[d]=>dLen d
 |_=>none
theorem cg:bG KF (fun xs H Q=> ∃p ys,xs=[.ref p]/\(SqL KF H p ys \/SqT KF H p ys)/\Q (.int ys.length) H) .imm fLen:=by
 intro W H vs ds d Q r e hq
 cases r with
 |nil=>cases e
 |cons h r=>
  cases r with
  |cons _ _=>cases e
  |nil=>
   cases h<;>simp only [fLen,dLen] at e<;>cases e
   ·next a xs ds s h q=>
    refine ⟨a,xs,rfl,.inl (SqL.of h),?_⟩
    rw [q.length]
    exact hq _ H (fun _ _ z=>z) (RepF.int _)
   ·next a xs ds h q=>
    refine ⟨a,xs,rfl,.inr (SqT.of h),?_⟩
    rw [q.length]
    exact hq _ H (fun _ _ z=>z) (RepF.int _)
   ·next a ns h=>
    refine ⟨a,_,rfl,.inl h.sq,?_⟩
    rw [List.length_map]
    exact hq _ H (fun _ _ z=>z) (RepF.int _)
noncomputable def cX:List Dv->Option Dv
 |[.scr ns]=>some (.tup (ns.map .int))
 |[.lst ds]=>if imms ds=true then some (.tup ds) else none
 |[.tup ds]=>if imms ds=true then some (.tup ds) else none
 |_=>none
theorem hZ:bG KF (fun xs H Q=> ∃p ys,xs=[.ref p]/\((SqL KF H p ys/\ ∀l,H l=none->Q (.ref l) (upd H l (.tup ys))) \/(SqT KF H p ys/\Q (.ref p) H))) .imm cX:=by
 intro W H vs ds d Q r e hq
 cases r with
 |nil=>cases e
 |cons h r=>
  cases r with
  |cons _ _=>unfold cX at e;split at e<;>first|(next z=>cases z;done)|cases e
  |nil=>
   cases h<;>simp only [cX] at e<;>first|cases e|skip
   ·next a xs ds s h q=>
    split at e
    ·next hi=>
     cases e
     refine ⟨a,xs,rfl,.inl ⟨SqL.of h,fun l hl=> ?_⟩⟩
     have s:=Same.new (o:= .tup xs) hl
     exact hq _ _ s (RepF.tup ay ((q.imm hi).same s))
    ·cases e
   ·next a xs ds h q=>
    split at e
    ·next hi=>cases e;exact ⟨a,xs,rfl,.inr ⟨SqT.of h,hq _ H (fun _ _ z=>z) (RepF.tup h (q.imm hi))⟩⟩
    ·cases e
   ·next a ns h=>
    refine ⟨a,_,rfl,.inl ⟨h.sq,fun l hl=> ?_⟩⟩
    exact hq _ _ (Same.new hl) (RepF.tup ay (eQ ns))
noncomputable def bH:List Dv->Option Dv
 |[.scr ns]=>some (.lst (ns.map .int))
 |[.lst ds]=>if imms ds=true then some (.lst ds) else none
 |[.tup ds]=>if imms ds=true then some (.lst ds) else none
 |_=>none
theorem fN:bG KF (fun xs H Q=> ∃p ys,xs=[.ref p]/\(SqL KF H p ys \/SqT KF H p ys)/\ ∀l,H l=none->Q (.ref l) (upd H l (.lst ys))) .one bH:=by
 intro W H vs ds d Q r e hq
 cases r with
 |nil=>cases e
 |cons h r=>
  cases r with
  |cons _ _=>unfold bH at e;split at e<;>first|(next z=>cases z;done)|cases e
  |nil=>
   cases h<;>simp only [bH] at e<;>first|cases e|skip
   ·next a xs ds s h q=>
    split at e
    ·next hi=>
     cases e
     refine ⟨a,xs,rfl,.inl (SqL.of h),fun l hl=> ?_⟩
     have s:=Same.new (o:= .lst xs) hl
     exact hq _ _ s ⟨l,rfl,hl,_,ay,(q.imm hi).same s⟩
    ·cases e
   ·next a xs ds h q=>
    split at e
    ·next hi=>
     cases e
     refine ⟨a,xs,rfl,.inr (SqT.of h),fun l hl=> ?_⟩
     have s:=Same.new (o:= .lst xs) hl
     exact hq _ _ s ⟨l,rfl,hl,_,ay,(q.imm hi).same s⟩
    ·cases e
   ·next a ns h=>
    refine ⟨a,_,rfl,.inl h.sq,fun l hl=> ?_⟩
    exact hq _ _ (Same.new hl) ⟨l,rfl,hl,_,ay,eQ ns⟩
end
end L2
set_option maxHeartbeats 4000000
namespace L2
open PySem PySem.Spec PyProof.Rows
variable {KF:PySem.W.Frag}{W W':Addr->Prop}
noncomputable def cI (W:Addr->Prop) (H H':Hp):Prop:= ∀a o,H a=some o-> ¬W a->H' a=some o
noncomputable def IOk (KF:PySem.W.Frag) (W:Addr->Prop) (lp:Bool) (H:Hp) (J:It) (ds:List Dv):Prop:=
 ds.length<=lim/\ ∀H',Same H H' \/(lp=true/\cI W H H')->(∀i,i<ds.length->J.go i H')/\(∀i x H'',i<ds.length->J.yld i H' x H''->H''=H'/\ ∃d,ds[i]?=some d/\RepF KF (fun a=> ¬W a/\H a≠none) H' x d)/\J.stop ds.length H'
noncomputable def PDi (X:Cx) (ms:List Nat) (lp:Bool) (tg iter:Expr) (m:Dt->Option (List Dv)):Prop:= ∃wi,PI X tg iter wi/\
 ∀{W:Addr->Prop} (δ:Dt) (σ:St) (H0 H:Hp) (R:It->Hp->Prop) (ds:List Dv),Rel X.K ms W H0 δ σ H->m δ=some ds->(∀J H',Same H H'->IOk X.K W lp H' J ds->R J H')->wi σ H R
noncomputable def iL (m:EM):Dt->Option (List Dv):=fun δ=>(m δ).bind fun x=>match x with
 | .scr ns=>if ns.length<=lim then some (ns.map .int) else none
 | .lst ds=>if ds.length<=lim then some ds else none
 |_=>none
noncomputable def iLI (m:EM):Dt->Option (List Dv):=fun δ=>(m δ).bind fun x=>match x with
 | .lst ds=>if ds.length<=lim/\imms ds=true then some ds else none
 |_=>none
noncomputable def iT (m:EM):Dt->Option (List Dv):=fun δ=>(m δ).bind fun x=>match x with
 | .tup ds=>if ds.length<=lim then some ds else none
 |_=>none
noncomputable def iTI (m:EM):Dt->Option (List Dv):=fun δ=>(m δ).bind fun x=>match x with
 | .tup ds=>if ds.length<=lim/\imms ds=true then some ds else none
 |_=>none
noncomputable def aF (lo:Int) (n:Nat):List Dv:=(List.range n).map fun (i:Nat)=> .int (lo+(i:Int))
noncomputable def iR1 (m:EM):Dt->Option (List Dv):=fun δ=>(m δ).bind fun x=>match x with
 | .int j=>if-(2^60)<=j/\j<=lim then some (aF 0 j.toNat) else none
 |_=>none
noncomputable def iR2 (m m2:EM):Dt->Option (List Dv):=fun δ=>(m δ).bind fun x=>(m2 δ).bind fun y=>match x,y with
 | .int i,.int j=>if-(2^60)<=i/\i<=2^60/\j<=i+lim/\ -(2^61)<=j then some (aF i (j-i).toNat) else none
 |_,_=>none
theorem cI.keeps {ms:List Nat}{σ:St}{H H':Hp}{H0:Hp}{δ:Dt} (R:Rel KF ms W H0 δ σ H) (s:cI W H H'):aD (fun a=> ¬W a) H H':=fun a o h c=>by
 rcases c with ⟨xs,rfl⟩|⟨b,u,rfl⟩|c
 ·exact s a _ h fun z=>by
   obtain ⟨o',e',n⟩:=R.own z
   rw [h] at e';cases e'
   exact n.1 xs rfl
 ·exact s a _ h fun z=>by
   obtain ⟨o',e',n⟩:=R.own z
   rw [h] at e';cases e'
   exact n.2 b u rfl
 ·exact s a o h c
theorem fO {lo:Int}{n i:Nat} (h:i<n):(aF lo n)[i]?=some (.int (lo+(i:Int))):=by
 unfold aF
 rw [List.getElem?_map,List.getElem?_range h]
 rfl
theorem ci (lo:Int) (n:Nat):(aF lo n).length=n:=by unfold aF;simp
section
variable {X:Cx}{ms:List Nat}{k:Kd}{lp:Bool}{tg e a b:Expr}{m ma mb:EM}{pos:Pos}
theorem qG {σ:St}{H H0:Hp}{δ:Dt}{p:Addr}{xs:List V}{ds:List Dv} (R:Rel KF ms W H0 δ σ H) (n: ¬W p) (h:H p=some (.lst xs)) (r:RepsF KF (fun a=> ¬W a) H xs ds) (hz:ds.length<=lim):IOk KF W lp H (Itl KF p) ds:=by
 refine ⟨hz,fun H' s=> ?_⟩
 have kp:aD (fun a=> ¬W a) H H':=by
  rcases s with s|⟨_,s⟩
  ·exact .of s
  ·exact cI.keeps R s
 have h':=kp _ _ h (.inr (.inr n))
 have r':=RepsF.keep (S:=fun a=> ¬W a/\H a≠none) (kp.mono fun _ z=>z.1) (r.mono fun _ h n=>⟨n,h⟩)
 refine ⟨fun i hi=> ?_,fun i x H'' hi y=> ?_,⟨xs,SqL.of h',by rw [r.length];exact Nat.le_refl _⟩⟩
 ·have hx:i<xs.length:=by rw [r.length];exact hi
  exact ⟨xs,xs[i],SqL.of h',by simp [hx]⟩
 ·obtain ⟨e1,e2⟩:=y
  obtain ⟨d,hd,rd⟩:=r'.get' (e2 xs (SqL.of h'))
  exact ⟨e1,d,hd,rd⟩
theorem qH {σ:St}{H H0:Hp}{δ:Dt}{p:Addr}{ns:List Int} (R:Rel KF ms W H0 δ σ H) (h:Scr KF H p ns) (hz:ns.length<=lim):IOk KF W lp H (Itl KF p) (ns.map .int):=by
 refine ⟨by rw [List.length_map];exact hz,fun H' s=> ?_⟩
 have kp:aD (fun a=> ¬W a) H H':=by
  rcases s with s|⟨_,s⟩
  ·exact .of s
  ·exact cI.keeps R s
 have h':Scr KF H' p ns:=h.imp (fun ⟨o,q⟩=>⟨o,kp _ _ q (.inr (.inl ⟨_,_,rfl⟩))⟩) id
 rw [List.length_map]
 refine ⟨fun i hi=> ?_,fun i x H'' hi y=> ?_,⟨_,h'.sq,by rw [List.length_map];exact Nat.le_refl _⟩⟩
 ·exact ⟨_,.int ns[i],h'.sq,by simp [hi]⟩
 ·obtain ⟨e1,e2⟩:=y
  have e3:=e2 _ h'.sq
  rw [List.getElem?_map,List.getElem?_eq_getElem hi] at e3
  cases e3
  exact ⟨e1,.int ns[i],by simp [hi],.int _⟩
theorem qI {σ:St}{H H0:Hp}{δ:Dt}{p:Addr}{xs:List V}{ds:List Dv} (R:Rel KF ms W H0 δ σ H) (h:H p=some (.tup xs)) (r:RepsF KF (fun a=> ¬W a) H xs ds) (hz:ds.length<=lim):IOk KF W lp H (Itt KF p) ds:=by
 refine ⟨hz,fun H' s=> ?_⟩
 have kp:aD (fun a=> ¬W a) H H':=by
  rcases s with s|⟨_,s⟩
  ·exact .of s
  ·exact cI.keeps R s
 have h':=kp _ _ h (.inl ⟨xs,rfl⟩)
 have r':=RepsF.keep (S:=fun a=> ¬W a/\H a≠none) (kp.mono fun _ z=>z.1) (r.mono fun _ h n=>⟨n,h⟩)
 refine ⟨fun i hi=> ?_,fun i x H'' hi y=> ?_,⟨xs,SqT.of h',by rw [r.length];exact Nat.le_refl _⟩⟩
 ·have hx:i<xs.length:=by rw [r.length];exact hi
  exact ⟨xs,xs[i],SqT.of h',by simp [hx]⟩
 ·obtain ⟨e1,e2⟩:=y
  obtain ⟨d,hd,rd⟩:=r'.get' (e2 xs (SqT.of h'))
  exact ⟨e1,d,hd,rd⟩
theorem kF {H:Hp}{lo:Int}{n:Nat} (hz:n<=lim):IOk KF W lp H (Itr lo n) (aF lo n):=by
 refine ⟨by rw [ci];exact hz,fun H' s=> ?_⟩
 rw [ci]
 refine ⟨fun i hi=>hi,fun i x H'' hi y=> ?_,Nat.le_refl n⟩
 obtain ⟨e1,e2⟩:=y
 subst e2
 exact ⟨e1,_,fO hi,.int _⟩
theorem h7 (h:PD X ms .any e m):PDi X ms lp tg e (iL m):=by
 obtain ⟨te,p,q⟩:=h
 refine ⟨_,n9 p,fun δ σ H0 H R ds L hm hq=> ?_⟩
 obtain ⟨x,hx,e⟩:=Option.bind_eq_some_iff.mp hm
 refine q δ σ H0 H _ x L hx fun v H1 s1 g=> ?_
 cases x with
 |lst zs=>
  simp only at e
  split at e
  ·next hz=>
   cases e
   cases g with
   |lst n h r=>exact ⟨_,rfl,⟨_,SqL.of h⟩,hq _ H1 s1 (qG (L.same s1) n h r hz)⟩
  ·cases e
 |scr ns=>
  simp only at e
  split at e
  ·next hz=>
   cases e
   cases g with
   |scr h=>exact ⟨_,rfl,⟨_,h.sq⟩,hq _ H1 s1 (qH (L.same s1) h hz)⟩
  ·cases e
 |_=>cases e
theorem qJ (h:PD X ms .any e m):PDi X ms lp tg e (iT m):=by
 obtain ⟨te,p,q⟩:=h
 refine ⟨_,oe p,fun δ σ H0 H R ds L hm hq=> ?_⟩
 obtain ⟨x,hx,e⟩:=Option.bind_eq_some_iff.mp hm
 refine q δ σ H0 H _ x L hx fun v H1 s1 g=> ?_
 cases x with
 |tup zs=>
  simp only at e
  split at e
  ·next hz=>
   cases e
   cases g with
   |tup h r=>exact ⟨_,rfl,⟨_,SqT.of h⟩,hq _ H1 s1 (qI (L.same s1) h r hz)⟩
  ·cases e
 |_=>cases e
theorem qK {j:Int} (h:j<=(lim:Int)):j<2^62:=Int.lt_of_le_of_lt h (by decide)
theorem du {p:Pos} (hg:Gl X "range") (hm:X.mg "range"=none) (h:PD X ms k a m) (hs:starEach [a] X.env=[(false,eval a X.env)]:=by rfl):PDi X ms lp tg (.Call (.Name "range" p) [a] [] pos) (iR1 m):=by
 obtain ⟨te,pe,q⟩:=h
 refine ⟨_,oi hg hm (cn pe dJ hs) hs,fun δ σ H0 H R ds L hm hq=> ?_⟩
 obtain ⟨x,hx,e⟩:=Option.bind_eq_some_iff.mp hm
 refine q δ σ H0 H _ x L hx fun v H1 s1 g=> ?_
 have g:=g.bor
 cases g with
 |int j=>
  simp only at e
  split at e
  ·next hl=>
   cases e
   exact ⟨j,rfl,Int.le_trans (by decide) hl.1,qK hl.2,hq _ H1 s1 (kF (by have:=hl.2;lia))⟩
  ·cases e
 |_=>cases e
theorem qL {p:Pos}{k2:Kd} (hg:Gl X "range") (hm:X.mg "range"=none) (h:PD X ms k a ma) (h2:PD X ms k2 b mb) (hs:starEach [a,b] X.env=[(false,eval a X.env),(false,eval b X.env)]:=by rfl) (hs2:starEach [b] X.env=[(false,eval b X.env)]:=by rfl):
  PDi X ms lp tg (.Call (.Name "range" p) [a,b] [] pos) (iR2 ma mb):=by
 obtain ⟨te,pe,q⟩:=h
 obtain ⟨te2,pe2,q2⟩:=h2
 refine ⟨_,oj hg hm (cn pe (cn pe2 dJ hs2) (by rw [hs,hs2])) hs hs2,fun δ σ H0 H R ds L hm hq=> ?_⟩
 obtain ⟨x,hx,e⟩:=Option.bind_eq_some_iff.mp hm
 obtain ⟨y,hy,e⟩:=Option.bind_eq_some_iff.mp e
 refine q δ σ H0 H _ x L hx fun v H1 s1 g=> ?_
 refine q2 δ σ H0 H1 _ y (L.same s1) hy fun u H2 s2 g2=> ?_
 have g:=(g.same s2).bor
 have g2:=g2.bor
 cases g with
 |int i=>
  cases g2 with
  |int j=>
   simp only at e
   split at e
   ·next c=>
    cases e
    have hl:(lim:Int)=100000:=rfl
    exact ⟨i,j,rfl,⟨by lia,by lia,by lia,by lia⟩,hq _ H2 (s1.tr s2) (kF (by lia))⟩
   ·cases e
  |_=>cases e
 |_=>cases e
end
noncomputable def bv (ms:List Nat) (σ σ':St):Prop:= ∀i,isOwn ms i=true->σ'[i]?=σ[i]?
theorem bv.refl {ms:List Nat}{σ:St}:bv ms σ σ:=fun _ _=>rfl
theorem bv.tr {ms:List Nat}{σ σ1 σ2:St} (a:bv ms σ σ1) (b:bv ms σ1 σ2):bv ms σ σ2:=fun i h=>(b i h).trans (a i h)
noncomputable def DG (KF:PySem.W.Frag) (ms:List Nat) (g:TG) (m:Dv->Dt->Option Dt):Prop:=
 ∀{W:Addr->Prop} (δ δ1:Dt) (σ:St) (H0 H:Hp) (v:V) (d:Dv) (Q:St->Hp->Prop),Rel KF ms W H0 δ σ H->RepF KF (fun a=> ¬W a) H v d->m d δ=some δ1->(∀σ1,Rel KF ms W H0 δ1 σ1 H->bv ms σ σ1->Q σ1 H)->g v σ H Q
noncomputable def PDg (X:Cx) (ms:List Nat) (tg:Expr) (m:Dv->Dt->Option Dt):Prop:= ∃g,PG X tg g/\DG X.K ms g m
noncomputable def gN (i:Nat):Dv->Dt->Option Dt:=fun d δ=>some (δ.set i (some d))
noncomputable def gZ:List Dv->Dt->Option Dt
 |[],δ=>some δ
 |_,_=>none
noncomputable def gC (g:Dv->Dt->Option Dt) (r:List Dv->Dt->Option Dt):List Dv->Dt->Option Dt
 |d::ds,δ=>(g d δ).bind (r ds)
 |_,_=>none
noncomputable def gT (n:Nat) (g:List Dv->Dt->Option Dt):Dv->Dt->Option Dt
 | .tup ds,δ=>if ds.length=n then g ds δ else none
 |_,_=>none
theorem Rel.set {ms:List Nat}{H0 H:Hp}{δ:Dt}{σ:St}{i:Nat}{v:V}{d:Dv} (R:Rel KF ms W H0 δ σ H) (hi:isOwn ms i=false) (r:RepF KF (fun a=> ¬W a) H v d):
  Rel KF ms W H0 (δ.set i (some d)) (σ.set i (some v)) H/\bv ms σ (σ.set i (some v)):=by
 refine ⟨⟨by rw [List.length_set,List.length_set];exact R.len,R.keep,R.soft,fun j d' n hd=> ?_,?_⟩,fun j hj=>List.getElem?_set_ne (fun z=>by subst z;rw [hi] at hj;cases hj)⟩
 ·by_cases hj:i=j
  ·subst hj
   have hl:i<δ.length:=by
    have:=(List.getElem?_eq_some_iff.mp hd).1
    rwa [List.length_set] at this
   rw [List.getElem?_set_self hl] at hd
   cases hd
   exact ⟨v,List.getElem?_set_self (by rw [R.len];exact hl),r⟩
  ·rw [List.getElem?_set_ne hj] at hd
   obtain ⟨u,hu,q⟩:=R.get j d' n hd
   exact ⟨u,by rw [List.getElem?_set_ne hj];exact hu,q⟩
 ·obtain ⟨Φ,f⟩:=R.foot
  refine ⟨Φ,f.wr,f.dj,f.nd,fun j d' n hd=> ?_⟩
  have hj:i≠j:=fun z=>by rw [z,n] at hi;cases hi
  rw [List.getElem?_set_ne hj] at hd|-
  exact f.at_ j d' n hd
section
variable {X:Cx}{ms:List Nat}{pos:Pos}
theorem bI {i:Nat}{x:Str} (hi:isOwn ms i=false) (h:PG X (.Name x pos) (dI i)):PDg X ms (.Name x pos) (gN i):=
 ⟨_,h,fun δ δ1 σ H0 H v d Q R r hm hq=>by
  cases hm
  obtain ⟨R',so⟩:=R.set hi r
  exact hq _ R' so⟩
end
noncomputable def aG (ρ:List (Option Nat)) (δ:Dt):Dt:=ρ.map fun o=>match o with
 |none=>none
 |some j=>(δ[j]?).join
noncomputable def ba (g:Dv->Dt->Option Dt) (c:Dt->Option Bool) (el:EM) (δ:Dt):List Dv->Option (List Dv)
 |[]=>some []
 |d::ds=>(g d δ).bind fun δ1=>(c δ1).bind fun b=>if b=true then (el δ1).bind fun x=>if x.imm=true then (ba g c el δ ds).map (x:: ·) else none else ba g c el δ ds
noncomputable def bC (ρ:List (Option Nat)) (it:Dt->Option (List Dv)) (g:Dv->Dt->Option Dt) (c:Dt->Option Bool) (el:EM):EM:=fun δ=>(it δ).bind fun ds=>(ba g c el (aG ρ δ) ds).map .lst
noncomputable def eU (ρ:List (Option Nat)) (ms ms':List Nat):Bool:=
 (List.range ρ.length).all (fun i=>match ρ[i]? with|some (some j)=>(decide (i∈ms')==decide (j∈ms))&&(decide (i+1000∈ms')==decide (j+1000∈ms))&&(decide (i+2000∈ms')==decide (j+2000∈ms))|_=>true)&&decide ((ρ.filterMap id).Nodup)
theorem fP {ρ:List (Option Nat)}{δ:Dt}{i:Nat}{d:Dv} (h:(aG ρ δ)[i]?=some (some d)): ∃j,ρ[i]?=some (some j)/\δ[j]?=some (some d):=by
 unfold aG at h
 rw [List.getElem?_map] at h
 cases e:ρ[i]? with
 |none=>rw [e] at h;cases h
 |some o=>
  rw [e] at h
  cases o with
  |none=>cases h
  |some j=>
   refine ⟨j,rfl,?_⟩
   have h':(δ[j]?).join=some d:=Option.some.inj h
   cases q:δ[j]? with
   |none=>rw [q] at h';cases h'
   |some z=>rw [q] at h';exact congrArg some h'
theorem kG {ρ:List (Option Nat)}{σ:St}{i j:Nat}{v:V} (h:ρ[i]?=some (some j)) (e:σ[j]?=some (some v)):(pull ρ σ)[i]?=some (some v):=by
 unfold pull
 rw [List.getElem?_map,h]
 show some ((σ[j]?).getD none)=_
 rw [e];rfl
theorem qM {ρ:List (Option Nat)} (h:(ρ.filterMap id).Nodup): ∀{i i' j:Nat},ρ[i]?=some (some j)->ρ[i']?=some (some j)->i=i':=by
 induction ρ with
 |nil=>intro i i' j e;simp at e
 |cons o r ih=>
  intro i i' j e e'
  have hr:(r.filterMap id).Nodup:=by
   cases o with
   |none=>simpa using h
   |some x=>simp only [List.filterMap_cons,id] at h;exact (List.nodup_cons.mp h).2
  have hm: ∀{q:Nat},r[q]?=some (some j)->j∈r.filterMap id:=fun {q} e=>by
   rw [List.mem_filterMap]
   exact ⟨some j,List.mem_of_getElem? e,rfl⟩
  cases i with
  |zero=>
   cases i' with
   |zero=>rfl
   |succ i'=>
    simp only [List.getElem?_cons_zero,Option.some.injEq] at e
    subst e
    simp only [List.filterMap_cons,id] at h
    exact absurd (hm (by simpa using e')) (List.nodup_cons.mp h).1
  |succ i=>
   cases i' with
   |zero=>
    simp only [List.getElem?_cons_zero,Option.some.injEq] at e'
    subst e'
    simp only [List.filterMap_cons,id] at h
    exact absurd (hm (by simpa using e)) (List.nodup_cons.mp h).1
   |succ i'=>exact congrArg (· +1) (ih hr (by simpa using e) (by simpa using e'))
structure dQ (ρ:List (Option Nat)) (ms ms':List Nat):Prop where
 flat: ∀(i j:Nat),ρ[i]?=some (some j)->(i∈ms'↔j∈ms)
 deep: ∀(i j:Nat),ρ[i]?=some (some j)->(i+1000∈ms'↔j+1000∈ms)
 anyl: ∀(i j:Nat),ρ[i]?=some (some j)->(i+2000∈ms'↔j+2000∈ms)
 inj: ∀(i i' j:Nat),ρ[i]?=some (some j)->ρ[i']?=some (some j)->i=i'
theorem h8 {ρ:List (Option Nat)}{ms ms':List Nat} (h:eU ρ ms ms'=true):dQ ρ ms ms':=by
 unfold eU at h
 rw [Bool.and_eq_true] at h
 obtain ⟨h2,h3⟩:=h
 have key: ∀(i j:Nat),ρ[i]?=some (some j)->((i∈ms'↔j∈ms)/\(i+1000∈ms'↔j+1000∈ms))/\(i+2000∈ms'↔j+2000∈ms):=fun i j e=>by
  have hl:=(List.getElem?_eq_some_iff.mp e).1
  have q:=List.all_eq_true.mp h2 i (List.mem_range.mpr hl)
  rw [e] at q
  simp only [Bool.and_eq_true,beq_iff_eq,decide_eq_decide] at q
  exact q
 exact ⟨fun i j e=>(key i j e).1.1,fun i j e=>(key i j e).1.2,fun i j e=>(key i j e).2,fun i i' j e e'=>qM (of_decide_eq_true h3) e e'⟩
section
variable {ρ:List (Option Nat)}{ms ms':List Nat}{δ:Dt}{σ:St}{H0 H:Hp}
theorem dQ.own (P:dQ ρ ms ms') {i j:Nat} (h:ρ[i]?=some (some j)):isOwn ms' i=isOwn ms j:=by
 unfold isOwn
 rw [decide_eq_decide.mpr (P.flat i j h),decide_eq_decide.mpr (P.deep i j h),decide_eq_decide.mpr (P.anyl i j h)]
theorem Rel.pull (R:Rel KF ms W H0 δ σ H) (P:dQ ρ ms ms'):Rel KF ms' W H0 (aG ρ δ) (L2.pull ρ σ) H:=by
 refine ⟨by unfold L2.pull aG;simp,R.keep,R.soft,fun i d n hd=> ?_,?_⟩
 ·obtain ⟨j,er,ed⟩:=fP hd
  rw [P.own er] at n
  obtain ⟨v,ev,q⟩:=R.get j d n ed
  exact ⟨v,kG er ev,q⟩
 ·obtain ⟨Φ,f⟩:=R.foot
  refine ⟨fun i=>match ρ[i]? with|some (some j)=>Φ j|_=>[],fun i b hb=> ?_,fun i i' b hb hb'=> ?_,fun i=> ?_,fun i d n hd=> ?_⟩
  ·split at hb
   ·exact f.wr _ b hb
   ·exact nomatch hb
  ·split at hb
   ·next j e=>
    split at hb'
    ·next j' e'=>
     have:=f.dj j j' b hb hb'
     subst this
     exact P.inj i i' j e e'
    ·exact nomatch hb'
   ·exact nomatch hb
  ·split
   ·exact f.nd _
   ·exact List.nodup_nil
  ·obtain ⟨j,er,ed⟩:=fP hd
   rw [P.own er] at n
   obtain ⟨a,ha,o⟩:=f.at_ j d n ed
   refine ⟨a,kG er ha,?_⟩
   rw [er]
   rcases o with ⟨m,e,c⟩|⟨m,m3,r⟩|⟨m,m2,e,c⟩
   ·exact .inl ⟨(P.flat i j er).mpr m,e,c⟩
   ·exact .inr (.inl ⟨fun z=>m ((P.flat i j er).mp z),(P.deep i j er).mpr m3,r⟩)
   ·exact .inr (.inr ⟨fun z=>m ((P.flat i j er).mp z),fun z=>m2 ((P.deep i j er).mp z),e,c⟩)
theorem Rel.forget {δ1:Dt} (R:Rel KF ms W H0 δ1 σ H) (hl:δ.length=δ1.length) (h: ∀(i:Nat) (d:Dv),δ[i]?=some (some d)->δ1[i]?=some (some d)):Rel KF ms W H0 δ σ H:=by
 refine ⟨R.len.trans hl.symm,R.keep,R.soft,fun i d n hd=>R.get i d n (h i d hd),?_⟩
 obtain ⟨Φ,f⟩:=R.foot
 exact ⟨Φ,f.wr,f.dj,f.nd,fun i d n hd=>f.at_ i d n (h i d hd)⟩
end
end L2
set_option maxHeartbeats 4000000
namespace L2
open PySem PySem.Spec PyProof.Rows
variable {KF:PySem.W.Frag}{W W':Addr->Prop}
noncomputable def tM (KF:PySem.W.Frag) (ms:List Nat) (k:Kd) (m:EM):TE:=fun σ H Q=> ∃(W:Addr->Prop) (H0:Hp) (δ:Dt) (d:Dv),Rel KF ms W H0 δ σ H/\m δ=some d/\ ∀v H',Same H H'->Got KF k W H H' v d->Q v H'
noncomputable def ttM (KF:PySem.W.Frag) (ms:List Nat) (m:Dt->Option Bool):TT:=fun σ H Q=> ∃(W:Addr->Prop) (H0:Hp) (δ:Dt) (b:Bool),Rel KF ms W H0 δ σ H/\m δ=some b/\ ∀H',Same H H'->Q b H'
noncomputable def tgM (KF:PySem.W.Frag) (ms:List Nat) (m:Dv->Dt->Option Dt):TG:=fun v σ H Q=> ∃(W:Addr->Prop) (H0:Hp) (δ:Dt) (d:Dv) (δ1:Dt),Rel KF ms W H0 δ σ H/\RepF KF (fun a=> ¬W a) H v d/\m d δ=some δ1/\ ∀σ1,Rel KF ms W H0 δ1 σ1 H->bv ms σ σ1->Q σ1 H
noncomputable def PDts (X:Cx) (ms:List Nat) (ifs:List Expr) (m:Dt->Option Bool):Prop:= ∃tt,PTs X ifs tt/\DTs X.K ms tt m
noncomputable def GExt (z:List Nat) (g:Dv->Dt->Option Dt):Prop:= ∀d δ δ1,g d δ=some δ1->δ1.length=δ.length/\ ∀i:Nat,i∉z->δ1[i]?=δ[i]?
theorem cJ (i:Nat):GExt [i] (gN i):=fun d δ δ1 h=>by
 cases h
 refine ⟨List.length_set,fun j hj=> ?_⟩
 have ne:i≠j:=fun z=>hj (by simp [z])
 exact List.getElem?_set_ne ne
section
variable {X:Cx}{ms:List Nat}{k:Kd}{e:Expr}{m:EM}{pos:Pos}
theorem PD.pe (h:PD X ms k e m):PE X e (tM X.K ms k m):=by
 obtain ⟨te,p,q⟩:=h
 intro pins s σ H Q I ⟨W,H0,δ,d,R,hm,hq⟩
 exact p pins s σ H Q I (q δ σ H0 H Q d R hm hq)
theorem cK:PDts X ms [] tyes:=⟨_,qm,fun δ σ H0 H Q b R hm hq=>by cases hm;exact hq H fun _ _ z=>z⟩
theorem PDts.pts {ifs:List Expr}{t:Dt->Option Bool} (h:PDts X ms ifs t):PTs X ifs (ttM X.K ms t):=by
 obtain ⟨te,p,q⟩:=h
 intro pins s σ H Q I ⟨W,H0,δ,d,R,hm,hq⟩
 exact p pins s σ H Q I (q δ σ H0 H Q d R hm hq)
theorem PDg.pg {g:Dv->Dt->Option Dt} (h:PDg X ms e g):PG X e (tgM X.K ms g):=by
 obtain ⟨te,p,q⟩:=h
 intro pins s σ H v u Q I r ⟨W,H0,δ,d,δ1,R,rd,hm,hq⟩
 exact p pins s σ H v u Q I r (q δ δ1 σ H0 H v d Q R rd hm hq)
end
section
variable {ms ms':List Nat}{ρ:List (Option Nat)}{k:Kd}{wi:TI}{it:Dt->Option (List Dv)}{g:Dv->Dt->Option Dt}{c:Dt->Option Bool}{el:EM}{z:List Nat}
noncomputable def kH (ρ:List (Option Nat)) (g:TG) (tt:TT) (te:TE) (J:It) (σ:St) (H1:Hp) (Q:VK):Prop:= ∃W:Nat->Nat->List V->St->Hp->Prop,(∃m,W 0 m [] (pull ρ σ) H1)/\ ∀i m acc σc Hc,W i m acc σc Hc->
 (J.stop i Hc/\acc.length<=sizeLine/\ ∀l,Hc l=none->Q (.ref l) (upd Hc l (.lst acc))) \/
 (J.go i Hc/\acc.length<sizeLine/\ ∃N:List V->St->Hp->Prop,(∀acc' σ' H',N acc' σ' H'-> ∃m',m'<m/\W (i+1) m' acc' σ' H')/\
  ∀x H',J.yld i Hc x H'->g x σc H' fun σ2 H2=>tt σ2 H2 fun b H3=>if b=true then te σ2 H3 fun v H4=>N (acc++[v]) σ2 H4 else N acc σ2 H3)
theorem qN {δ:Dt}{σ:St}{H0 H1:Hp}{J:It}{ds out:List Dv}{Q:VK} (R1:Rel KF ms' W H0 (aG ρ δ) (L2.pull ρ σ) H1) (ok:IOk KF W false H1 J ds) (ho:ba g c el (aG ρ δ) ds=some out) (hz:GExt z g) (hz':z.all (fun i=>decide (ρ[i]?=some none))=true)
  (hq: ∀(l:Addr) (acc:List V) (Hc:Hp),Same H1 Hc->Hc l=none->RepsF KF Imm Hc acc out->Q (.ref l) (upd Hc l (.lst acc))):kH ρ (tgM KF ms' g) (ttM KF ms' c) (tM KF ms' k el) J σ H1 Q:=by
 obtain ⟨hlim,ok⟩:=ok
 have notz: ∀{i:Nat}{x:Dv},(aG ρ δ)[i]?=some (some x)->i∉z:=fun {i x} e hzi=>by
  obtain ⟨j,er,_⟩:=fP e
  have:=of_decide_eq_true (List.all_eq_true.mp hz' i hzi)
  rw [er] at this;cases this
 refine ⟨fun i n acc σc Hc=>n=ds.length-i/\i<=ds.length/\Same H1 Hc/\Rel KF ms' W H0 (aG ρ δ) σc Hc/\bv ms' (pull ρ σ) σc/\acc.length<=i/\
  ∃done rest,RepsF KF Imm Hc acc done/\ba g c el (aG ρ δ) (ds.drop i)=some rest/\done++rest=out,⟨ds.length,by simp,Nat.zero_le _,Same.refl _,R1,.refl,Nat.le_refl _,[],out,.nil,by simpa using ho,by simp⟩,?_⟩
 rintro i n acc σc Hc ⟨rfl,hi',sc,Rc,so,hl,done,rest,ra,hr,hout⟩
 obtain ⟨go,yl,st⟩:=ok Hc (.inl sc)
 by_cases hlt:i<ds.length
 ·right
  refine ⟨go i hlt,?_,fun acc' σ' H'=>Same H1 H'/\Rel KF ms' W H0 (aG ρ δ) σ' H'/\bv ms' (pull ρ σ) σ'/\acc'.length<=i+1/\ ∃done rest,RepsF KF Imm H' acc' done/\ba g c el (aG ρ δ) (ds.drop (i+1))=some rest/\done++rest=out,
   fun acc' σ' H' ⟨a1,a2,a3,a4,a5⟩=>⟨ds.length-(i+1),by lia,rfl,hlt,a1,a2,a3,a4,a5⟩,fun x H' y=> ?_⟩
  ·have:=cT hlim;lia
  ·obtain ⟨rfl,d,hd,rx⟩:=yl i x H' hlt y
   have hdrop:ds.drop i=d::ds.drop (i+1):=by
    rw [List.drop_eq_getElem_cons hlt]
    congr 1
    rw [List.getElem?_eq_getElem hlt] at hd
    exact Option.some.inj hd
   rw [hdrop,ba] at hr
   obtain ⟨δ1,h1,hr⟩:=Option.bind_eq_some_iff.mp hr
   obtain ⟨b,hb,hr⟩:=Option.bind_eq_some_iff.mp hr
   obtain ⟨l1,f1⟩:=hz d _ δ1 h1
   refine ⟨W,H0,aG ρ δ,d,δ1,Rc,rx.mono fun a _ n z=>n.1 z,h1,fun σ1 R1' so1=> ?_⟩
   have forget: ∀{H2:Hp},Rel KF ms' W H0 δ1 σ1 H2->Rel KF ms' W H0 (aG ρ δ) σ1 H2:=fun {H2} R2=>by
    refine R2.forget l1.symm (fun j x e=> ?_)
    rw [f1 j (notz e)];exact e
   refine ⟨W,H0,δ1,b,R1',hb,fun H2 s2=> ?_⟩
   cases b with
   |true=>
    rw [if_pos rfl] at hr
    obtain ⟨y,hy,hr⟩:=Option.bind_eq_some_iff.mp hr
    split at hr
    ·next him=>
     obtain ⟨rest',hr',rfl⟩:=Option.map_eq_some_iff.mp hr
     rw [if_pos rfl]
     refine ⟨W,H0,δ1,y,R1'.same s2,hy,fun v H3 s3 g3=> ?_⟩
     have s23:=s2.tr s3
     refine ⟨sc.tr s23,forget (R1'.same s23),so.tr so1,by rw [List.length_append];exact Nat.add_le_add_right hl 1,done++[y],rest',(ra.same s23).append (.cons (g3.imm him) .nil),hr',by rw [<-hout,List.append_assoc];rfl⟩
    ·cases hr
   |false=>
    rw [if_neg Bool.false_ne_true] at hr
    rw [if_neg Bool.false_ne_true]
    exact ⟨sc.tr s2,forget (R1'.same s2),so.tr so1,Nat.le_succ_of_le hl,done,rest,ra.same s2,hr,hout⟩
 ·left
  have hie:i=ds.length:=by lia
  subst hie
  rw [List.drop_length,ba] at hr
  cases hr
  rw [List.append_nil] at hout
  subst hout
  have:=cT hlim
  refine ⟨st,by lia,fun l hln=> ?_⟩
  exact hq l acc Hc sc hln ra
theorem kI (hi: ∀{W:Addr->Prop} (δ:Dt) (σ:St) (H0 H:Hp) (R:It->Hp->Prop) (ds:List Dv),Rel KF ms W H0 δ σ H->it δ=some ds->(∀J H',Same H H'->IOk KF W false H' J ds->R J H')->wi σ H R)
  (P:dQ ρ ms ms') (hz:GExt z g) (hz':z.all (fun i=>decide (ρ[i]?=some none))=true):DE KF ms .one (eN ρ wi (tgM KF ms' g) (ttM KF ms' c) (tM KF ms' k el)) (bC ρ it g c el):=by
 intro W δ σ H0 H Q d R hm hq
 obtain ⟨ds,hds,e⟩:=Option.bind_eq_some_iff.mp hm
 obtain ⟨out,ho,rfl⟩:=Option.map_eq_some_iff.mp e
 refine hi δ σ H0 H _ ds R hds fun J H1 s1 ok=> ?_
 refine qN ((R.same s1).pull P) ok ho hz hz' fun l acc Hc sc hln ra=> ?_
 have s2:=Same.new (o:= .lst acc) hln
 exact hq _ _ (s1.tr (sc.tr s2)) ⟨l,rfl,bm (s1.tr sc) hln,acc,ay,ra.same s2⟩
variable {X:Cx}{scope:Scope}{tg iter elt:Expr}{ifs:List Expr}{pos:Pos}
theorem dw (N':List Str) (ρ:List (Option Nat)) (ms':List Nat) (hc:X.calm=true) (hi:PDi X ms false tg iter it) (hg: ∀C s H fp,PDg (az X scope N' C s H fp) ms' tg g)
  (ht: ∀C s H fp,PDts (az X scope N' C s H fp) ms' ifs c) (he: ∀C s H fp,PD (az X scope N' C s H fp) ms' k elt el) (hz:GExt z g)
  (ck:dr scope X.env.scope X.N N' ρ=true) (hp:eU ρ ms ms'=true) (hz':z.all (fun i=>decide (ρ[i]?=some none))=true) (hs: ∀x,foldedSetIterable iter X.env x=pure x:=by intro _;rfl):
  PD X ms .one (.ListComp elt [⟨tg,iter,ifs,0⟩] scope pos) (bC ρ it g c el):=by
 obtain ⟨wi,pi,qi⟩:=hi
 exact ⟨_,j8 N' ρ hc pi (fun C s H fp=>(hg C s H fp).pg) (fun C s H fp=>(ht C s H fp).pts) (fun C s H fp=>(he C s H fp).pe) ck hs,kI qi (h8 hp) hz hz'⟩
end
inductive Fl where
 |nx (δ:Dt)|rt (d:Dv) (δ:Dt)|bk (δ:Dt)|ct (δ:Dt)
noncomputable abbrev SM:=Dt->Option Fl
noncomputable def Stp (ms:List Nat) (H0:Hp) (W:Addr->Prop) (σ:St) (H:Hp) (W':Addr->Prop) (σ':St) (H':Hp):Prop:=cI W H H'/\(∀a,W' a->W a \/H a=none)/\(∀a,W a->W' a \/H0 a=none)/\(∀i,isOwn ms i=true->i+3000∈ms->σ'[i]?=σ[i]?)/\ ∀b o,H b=some o->Sft o-> ∃o',H' b=some o'/\Sft o'
theorem Stp.refl {ms:List Nat}{σ:St}{H0 H:Hp}:Stp ms H0 W σ H W σ H:=⟨fun _ _ h _=>h,fun _ h=> .inl h,fun _ h=> .inl h,fun _ _ _=>rfl,fun _ o h s=>⟨o,h,s⟩⟩
theorem Stp.of {ms:List Nat}{σ σ':St}{H0 H H':Hp} (s:Same H H') (so:bv ms σ σ'):Stp ms H0 W σ H W σ' H':=⟨fun a o h _=>s a o h,fun a h=> .inl h,fun _ h=> .inl h,fun i hi _=>so i hi,fun b o h q=>⟨o,s b o h,q⟩⟩
theorem Stp.sm {ms:List Nat}{σ:St}{H0 H H':Hp} (s:Same H H'):Stp ms H0 W σ H W σ H':=⟨fun a o h _=>s a o h,fun a h=> .inl h,fun _ h=> .inl h,fun _ _ _=>rfl,fun b o h q=>⟨o,s b o h,q⟩⟩
theorem Stp.tr {ms:List Nat}{σ σ1 σ2:St}{W1 W2:Addr->Prop}{H0 H H1 H2:Hp} (a:Stp ms H0 W σ H W1 σ1 H1) (b:Stp ms H0 W1 σ1 H1 W2 σ2 H2):Stp ms H0 W σ H W2 σ2 H2:=by
 refine ⟨fun x o h n=>b.1 x o (a.1 x o h n) fun z=> ?_,fun x h=> ?_,fun x h=>(a.2.2.1 x h).elim (b.2.2.1 x) .inr,fun i hi hp=>(b.2.2.2.1 i hi hp).trans (a.2.2.2.1 i hi hp),fun x o h q=>by obtain ⟨o1,h1,q1⟩:=a.2.2.2.2 x o h q;exact b.2.2.2.2 x o1 h1 q1⟩
 ·rcases a.2.1 x z with q|q
  ·exact n q
  ·rw [h] at q;cases q
 ·rcases b.2.1 x h with q|q
  ·exact a.2.1 x q
  ·by_cases n:W x
   ·exact .inl n
   ·right
    cases e:H x with
    |none=>rfl
    |some o=>rw [a.1 x o e n] at q;cases q
noncomputable def WE (W:Addr->Prop) (H0:Hp):Addr->Prop:=fun a=>W a/\H0 a≠none
noncomputable def qO (ms:List Nat) (rk:Kd) (Φ:Nat->List Addr) (v:V):Prop:=rk= .one-> ∀j a,j+3000∈ms->v= .ref a->a∉Φ j
noncomputable def fQ (KF:PySem.W.Frag) (ms:List Nat) (rk:Kd) (W:Addr->Prop) (H0:Hp) (σ:St) (H:Hp) (D:Ends):Fl->Prop
 | .nx δ=> ∀(W':Addr->Prop) (σ':St) (H':Hp),Stp ms H0 W σ H W' σ' H'->Rel KF ms W' H0 δ σ' H'->D.nx σ' H'
 | .rt d δ=> ∀(v:V) (W':Addr->Prop) (σ':St) (H':Hp) (Φ:Nat->List Addr),Stp ms H0 W σ H W' σ' H'->Rel KF ms W' H0 δ σ' H'->Foot KF ms W' H0 δ σ' H' Φ->Got KF rk (WE W' H0) H0 H' v d->qO ms rk Φ v->D.rt v H'
 | .bk δ=> ∀(W':Addr->Prop) (σ':St) (H':Hp),Stp ms H0 W σ H W' σ' H'->Rel KF ms W' H0 δ σ' H'->D.bk σ' H'
 | .ct δ=> ∀(W':Addr->Prop) (σ':St) (H':Hp),Stp ms H0 W σ H W' σ' H'->Rel KF ms W' H0 δ σ' H'->D.ct σ' H'
theorem Got.weak {rk:Kd}{W1:Addr->Prop}{H0 H':Hp}{v:V}{d:Dv} (g:Got KF rk W1 H0 H' v d) (h: ∀a,W a->W1 a):Got KF rk W H0 H' v d:=by
 cases rk with
 |any=>exact RepF.mono (fun a _ n z=>n (h a z)) g
 |_=>exact g
theorem fQ.step {ms:List Nat}{rk:Kd}{H0:Hp}{W1:Addr->Prop}{σ σ1:St}{H H1:Hp}{D:Ends}{r:Fl} (h:fQ KF ms rk W H0 σ H D r) (s:Stp ms H0 W σ H W1 σ1 H1):fQ KF ms rk W1 H0 σ1 H1 D r:=by
 cases r with
 |nx δ=>exact fun W' σ' H' s' R=>h W' σ' H' (s.tr s') R
 |rt d δ=>exact fun v W' σ' H' Φ s'=>h v W' σ' H' Φ (s.tr s')
 |bk δ=>exact fun W' σ' H' s' R=>h W' σ' H' (s.tr s') R
 |ct δ=>exact fun W' σ' H' s' R=>h W' σ' H' (s.tr s') R
noncomputable def DS (KF:PySem.W.Frag) (ms:List Nat) (rk:Kd) (ts:TS) (m:SM):Prop:=
 ∀{W:Addr->Prop} (δ:Dt) (σ:St) (H0 H:Hp) (D:Ends) (r:Fl),Rel KF ms W H0 δ σ H->m δ=some r->fQ KF ms rk W H0 σ H D r->ts D σ H
noncomputable def PDs (X:Cx) (ms:List Nat) (rk:Kd) (st:Stmt) (m:SM):Prop:= ∃ts,PS X st ts/\DS X.K ms rk ts m
noncomputable def PDss (X:Cx) (ms:List Nat) (rk:Kd) (st:List Stmt) (m:SM):Prop:= ∃ts,PSs X st ts/\DS X.K ms rk ts m
noncomputable def aO:SM:=fun δ=>some (.nx δ)
noncomputable def sSeq (a b:SM):SM:=fun δ=>(a δ).bind fun r=>match r with
 | .nx δ1=>b δ1
 |r=>some r
noncomputable def sSet (i:Nat) (m:EM):SM:=fun δ=>(m δ).map fun d=> .nx (δ.set i (some d))
noncomputable def sRet (m:EM):SM:=fun δ=>(m δ).map fun d=> .rt d δ
noncomputable def sIf (c:Dt->Option Bool) (a b:SM):SM:=fun δ=>(c δ).bind fun x=>if x=true then a δ else b δ
noncomputable def kJ (m:EM):SM:=fun δ=>(m δ).map fun _=> .nx δ
noncomputable def loopM (g:Dv->Dt->Option Dt) (body:SM):List Dv->SM
 |[],δ=>some (.nx δ)
 |d::ds,δ=>(g d δ).bind fun δ1=>(body δ1).bind fun r=>match r with
  | .nx δ2=>loopM g body ds δ2
  | .ct δ2=>loopM g body ds δ2
  | .bk δ2=>some (.nx δ2)
  | .rt d δ2=>some (.rt d δ2)
noncomputable def sFor (it:Dt->Option (List Dv)) (g:Dv->Dt->Option Dt) (body:SM):SM:=fun δ=>(it δ).bind fun ds=>loopM g body ds δ
noncomputable def sApp (i:Nat) (m:EM):SM:=fun δ=>(m δ).bind fun d=>(eVar i δ).bind fun x=>match x with
 | .lst ds=>if ds.length<lim/\d.imm=true then some (.nx (δ.set i (some (.lst (ds++[d]))))) else none
 |_=>none
section
variable {X:Cx}{ms:List Nat}{rk k:Kd}{e:Expr}{m:EM}{pos pos':Pos}{st:Stmt}{rest a b:List Stmt}{ma mb:SM}
theorem bc:PDss X ms rk [] aO:=⟨_,nS,fun δ σ H0 H D r R hm hq=>by cases hm;exact hq _ σ H .refl R⟩
theorem ar (h1:PDs X ms rk st ma) (h2:PDss X ms rk rest mb):PDss X ms rk (st::rest) (sSeq ma mb):=by
 obtain ⟨t,p,q⟩:=h1
 obtain ⟨u,p2,q2⟩:=h2
 refine ⟨_,nT p p2,fun δ σ H0 H D r R hm hq=> ?_⟩
 obtain ⟨r1,h1,e⟩:=Option.bind_eq_some_iff.mp hm
 refine q δ σ H0 H _ r1 R h1 ?_
 cases r1 with
 |nx δ1=>exact fun W' σ' H' s' R'=>q2 δ1 σ' H0 H' D r R' e (hq.step s')
 |rt d δ1=>cases e;exact hq
 |bk d=>cases e;exact hq
 |ct d=>cases e;exact hq
theorem al (h1:PDs X ms rk st ma):PDss X ms rk [st] ma:=by
 obtain ⟨t,p,q⟩:=h1
 exact ⟨_,nU p,q⟩
theorem Got.ret {H0 H H1:Hp}{v:V}{d:Dv} (g:Got KF k W H H1 v d) (s:Same H0 H) (l:Kd.le k rk) (fr: ∀a,H a=none-> ¬W a):Got KF rk (WE W H0) H0 H1 v d:=by
 cases l with
 |refl=>
  cases rk with
  |one=>obtain ⟨a,ea,h,c⟩:=g;exact ⟨a,ea,bm s h,c⟩
  |dp=>obtain ⟨F,nd,h,c⟩:=g;exact ⟨F,nd,fun b hb=>bm s (h b hb),c⟩
  |imm=>exact g
  |frh=>exact RepF.mono (fun a _ h=>bm s h) g
  |any=>exact RepF.mono (S':=fun b=> ¬WE W H0 b) (fun a _ n (z:WE W H0 a)=>n z.1) g
  |bor=>exact g
 |one_frh=>obtain ⟨a,ea,h,c⟩:=g;subst ea;exact c.rep (bm s h)
 |one_any=>obtain ⟨a,ea,h,c⟩:=g;subst ea;exact c.rep (S:=fun b=> ¬WE W H0 b) (show¬WE W H0 a from fun z=>fr _ h z.1)
 |imm_frh=>exact RepF.mono (fun _ _ z=>z.elim) g
 |imm_any=>exact RepF.mono (fun _ _ z=>z.elim) g
 |frh_any=>exact RepF.mono (S':=fun b=> ¬WE W H0 b) (fun a _ h (z:WE W H0 a)=>fr a h z.1) g
 |bor=>exact g.bor
 |dp_frh=>obtain ⟨F,nd,h,c⟩:=g;exact c.rep fun b hb=>bm s (h b hb)
 |dp_any=>obtain ⟨F,nd,h,c⟩:=g;exact c.rep (S:=fun b=> ¬WE W H0 b) (fun b hb (z:WE W H0 b)=>fr b (h b hb) z.1)
 |one_dp=>
  obtain ⟨a,ea,h,c⟩:=g
  subst ea
  exact ⟨[a],by simp,fun b hb=>by rw [List.mem_singleton.mp hb];exact bm s h,c.tree⟩
 |imm_dp=>exact ⟨[],List.nodup_nil,fun b hb=>(List.not_mem_nil hb).elim,.imm g⟩
theorem kK (h:PD X ms k e m) (l:Kd.le k rk):PDs X ms rk (.Return (some e) pos) (sRet m):=by
 obtain ⟨te,p,q⟩:=h
 refine ⟨_,jq p,fun δ σ H0 H D r R hm hq=> ?_⟩
 obtain ⟨d,hd,rfl⟩:=Option.map_eq_some_iff.mp hm
 refine q δ σ H0 H _ d R hd fun v H' s g=> ?_
 obtain ⟨Φ,f⟩:=(R.same s).foot
 refine hq v _ σ H' Φ (.sm s) (R.same s) f (g.ret R.keep l fun _ z=>R.fresh z) fun e1 j a hj ev ha=> ?_
 subst e1
 cases l with
 |refl=>
  obtain ⟨a',ea,h,_⟩:=g
  rw [ev] at ea;cases ea
  exact R.fresh h (f.wr j a ha).1
theorem aE (h:PD X ms k e m) (l:Kd.le k rk) (n:rk≠ .any):PDs X ms rk (.Return (some e) pos) (sRet m):=kK h l
theorem fR {i:Nat} (hi:i∈ms):isOwn ms i=true:=by unfold isOwn;rw [decide_eq_true hi];rfl
theorem Rel.own1 {σ:St}{H0 H:Hp}{δ:Dt}{i:Nat}{d:Dv} (R:Rel KF ms W H0 δ σ H) (hi:i∈ms) (hd:δ[i]?=some (some d)): ∃a,σ[i]?=some (some (.ref a))/\H0 a=none/\Cell KF H a d:=by
 obtain ⟨Φ,f⟩:=R.foot
 obtain ⟨a,ha,o⟩:=f.at_ i d (fR hi) hd
 rcases o with ⟨_,e,c⟩|⟨n,_⟩|⟨n,_⟩
 ·exact ⟨a,ha,(f.wr i a (by rw [e];exact List.mem_cons_self ..)).2,c⟩
 ·exact absurd hi n
 ·exact absurd hi n
theorem h9 {i:Nat} (hi:i+2000∈ms):isOwn ms i=true:=by unfold isOwn;rw [decide_eq_true hi,Bool.or_true,Bool.or_true]
theorem aI {c:Expr}{tc:Dt->Option Bool} (hc:PDt X ms c tc) (ha:PDss X ms rk a ma) (hb:PDss X ms rk b mb):PDs X ms rk (.If c a b pos) (sIf tc ma mb):=by
 obtain ⟨t,p,q⟩:=hc
 obtain ⟨ta,pa,qa⟩:=ha
 obtain ⟨tb,pb,qb⟩:=hb
 refine ⟨_,nX p pa pb,fun δ σ H0 H D r R hm hq=> ?_⟩
 obtain ⟨x,hx,e⟩:=Option.bind_eq_some_iff.mp hm
 refine q δ σ H0 H _ x R hx fun H1 s1=> ?_
 have hq':=hq.step (Stp.sm s1)
 cases x with
 |true=>exact qa δ σ H0 H1 D r (R.same s1) e hq'
 |false=>exact qb δ σ H0 H1 D r (R.same s1) e hq'
theorem kL {te:TE}{i:Nat} (hi:isOwn ms i=false) (q:DE KF ms k te m) (l:Kd.le k .any):DS KF ms rk (tAsg te (dI i)) (sSet i m):=by
 intro W δ σ H0 H D r R hm hq
 obtain ⟨d,hd,rfl⟩:=Option.map_eq_some_iff.mp hm
 refine q δ σ H0 H _ d R hd fun v H' s g=> ?_
 obtain ⟨R',so⟩:=(R.same s).set hi (g.le R l)
 exact hq _ _ H' (.of s so) R'
theorem Rel.chgF {H0 H H':Hp}{δ:Dt}{σ:St}{i:Nat}{a:Addr}{d:Dv}{F G P:List Addr}{Φ:Nat->List Addr} (R:Rel KF ms W H0 δ σ H) (f:Foot KF ms W H0 δ σ H Φ) (hi:isOwn ms i=true) (hP: ∀b∈P,b∈Φ i)
  (c1: ∀b o,H b=some o->b∉P->H' b=some o) (c2: ∀b∈P,∃o,H' b=some o/\Sft o) (c3:F.Nodup) (hG: ∀b∈F,b∈G) (c4: ∀b∈G,b∈P \/H b=none) (c7: ∀b∈G,∃o,H' b=some o/\Sft o) (c5:cc KF ms (fun b=>W b \/b∈G) H' i a d F) (c6:i+3000∈ms->σ[i]?=some (some (.ref a))):
  Rel KF ms (fun b=>W b \/b∈G) H0 (δ.set i (some d)) (σ.set i (some (.ref a))) H'/\Stp ms H0 W σ H (fun b=>W b \/b∈G) (σ.set i (some (.ref a))) H'/\Foot KF ms (fun b=>W b \/b∈G) H0 (δ.set i (some d)) (σ.set i (some (.ref a))) H' (fun j=>if j=i then F else Φ j):=by
 have wP: ∀b∈P,W b:=fun b hb=>(f.wr i b (hP b hb)).1
 have st:cI W H H':=fun b o h n=>c1 b o h fun z=>n (wP b z)
 have kp:aD (fun a=> ¬W a) H H':=cI.keeps R st
 have kpI:aD Imm H H':=kp.mono fun _ z=>z.elim
 have h0P: ∀b∈P,H0 b=none:=fun b hb=>(f.wr i b (hP b hb)).2
 have ft:Foot KF ms (fun b=>W b \/b∈G) H0 (δ.set i (some d)) (σ.set i (some (.ref a))) H' (fun j=>if j=i then F else Φ j):=by
  refine ⟨fun j b hb=> ?_,fun j j' b hb hb'=> ?_,fun j=> ?_,fun j d' n hd=> ?_⟩
  ·split at hb
   ·exact ⟨.inr (hG b hb),(c4 b (hG b hb)).elim (h0P b) (bm R.keep)⟩
   ·exact ⟨.inl (f.wr j b hb).1,(f.wr j b hb).2⟩
  ·have key: ∀{j:Nat},j≠i->b∈F->b∈Φ j->False:=fun {j} ne h1 h2=>by
    rcases c4 b (hG b h1) with z|z
    ·exact ne (f.dj j i b h2 (hP b z))
    ·obtain ⟨o,ho,_⟩:=R.own (f.wr j b h2).1
     rw [z] at ho;cases ho
   split at hb
   ·next e=>
    split at hb'
    ·next e'=>rw [e,e']
    ·next e'=>exact (key e' hb hb').elim
   ·next e=>
    split at hb'
    ·next e'=>exact (key e hb' hb).elim
    ·exact f.dj j j' b hb hb'
  ·split
   ·exact c3
   ·exact f.nd j
  ·by_cases hj:i=j
   ·subst hj
    have hl:i<δ.length:=by
     have:=(List.getElem?_eq_some_iff.mp hd).1
     rwa [List.length_set] at this
    rw [List.getElem?_set_self hl] at hd
    cases hd
    refine ⟨a,List.getElem?_set_self (by rw [R.len];exact hl),?_⟩
    rw [if_pos rfl]
    exact c5
   ·rw [List.getElem?_set_ne hj] at hd|-
    obtain ⟨a',ha',o⟩:=f.at_ j d' n hd
    refine ⟨a',ha',?_⟩
    rw [if_neg (Ne.symm hj)]
    exact o.keep kp (fun b hb ob h=>c1 b ob h fun z=>hj (f.dj i j b (hP b z) hb)) fun b n1 n2 z=>by
     rcases z with z|z
     ·exact n1 z
     ·rcases c4 b z with z|z
      ·exact n1 (wP b z)
      ·exact n2 z
 refine ⟨⟨by rw [List.length_set,List.length_set];exact R.len,fun b o h=> ?_,fun b w=> ?_,fun j d' n hd=> ?_,⟨_,ft⟩⟩,⟨st,fun b w=> ?_,fun b w=> .inl (.inl w),fun j hj hp=> ?_,fun b o h q=> ?_⟩,ft⟩
 ·exact c1 b o (R.keep b o h) fun z=>by rw [h0P b z] at h;cases h
 ·rcases w with w|w
  ·obtain ⟨o,ho,so⟩:=R.soft b w
   by_cases z:b∈P
   ·exact c2 b z
   ·exact ⟨o,c1 b o ho z,so⟩
  ·exact c7 b w
 ·have hj:i≠j:=fun z=>by rw [<-z,hi] at n;cases n
  rw [List.getElem?_set_ne hj] at hd|-
  obtain ⟨v,hv,r⟩:=R.get j d' n hd
  refine ⟨v,hv,(RepF.keep (S:=fun a=> ¬W a/\H a≠none) (kp.mono fun _ z=>z.1) (r.mono fun _ h n=>⟨n,h⟩)).mono fun b _ ⟨n1,n2⟩ z=> ?_⟩
  rcases z with z|z
  ·exact n1 z
  ·rcases c4 b z with z|z
   ·exact n1 (wP b z)
   ·exact n2 z
 ·rcases w with w|w
  ·exact .inl w
  ·rcases c4 b w with z|z
   ·exact .inl (wP b z)
   ·exact .inr z
 ·by_cases e:i=j
  ·subst e
   rw [c6 hp]
   exact List.getElem?_set_self (List.getElem?_eq_some_iff.mp (c6 hp)).1
  ·exact List.getElem?_set_ne e
 ·by_cases z:b∈P
  ·exact c2 b z
  ·exact ⟨o,c1 b o h z,q⟩
theorem Rel.chg {H0 H H':Hp}{δ:Dt}{σ:St}{i:Nat}{a:Addr}{d:Dv}{F P:List Addr}{Φ:Nat->List Addr} (R:Rel KF ms W H0 δ σ H) (f:Foot KF ms W H0 δ σ H Φ) (hi:isOwn ms i=true) (hP: ∀b∈P,b∈Φ i)
  (c1: ∀b o,H b=some o->b∉P->H' b=some o) (c2: ∀b∈P,∃o,H' b=some o/\Sft o) (c3:F.Nodup) (c4: ∀b∈F,b∈P \/H b=none) (c5:cc KF ms (fun b=>W b \/b∈F) H' i a d F) (c6:i+3000∈ms->σ[i]?=some (some (.ref a))):
  Rel KF ms (fun b=>W b \/b∈F) H0 (δ.set i (some d)) (σ.set i (some (.ref a))) H'/\Stp ms H0 W σ H (fun b=>W b \/b∈F) (σ.set i (some (.ref a))) H':=
 let q:=R.chgF f hi hP c1 c2 c3 (fun _ z=>z) c4 c5.there c5 c6;⟨q.1,q.2.1⟩
theorem Rel.setOwn {H0 H H':Hp}{δ:Dt}{σ:St}{i:Nat}{a:Addr}{d:Dv} (R:Rel KF ms W H0 δ σ H) (hi:i∈ms) (s:Same H H') (hn:H a=none) (c:Cell KF H' a d) (hz:i+3000∉ms):
  ∃W':Addr->Prop,Rel KF ms W' H0 (δ.set i (some d)) (σ.set i (some (.ref a))) H'/\Stp ms H0 W σ H W' (σ.set i (some (.ref a))) H':=by
 obtain ⟨Φ,f⟩:=R.foot
 exact ⟨_,R.chg (P:=[]) f (fR hi) (fun _ z=>nomatch z) (fun b o h _=>s b o h) (fun _ z=>nomatch z) (by simp) (fun b hb=> .inr (by rw [List.mem_singleton.mp hb];exact hn)) (.inl ⟨hi,rfl,c⟩) fun z=>absurd z hz⟩
theorem qP {te:TE}{i:Nat} (hi:decide (i∈ms)=true) (hz:decide (i+3000∈ms)=false) (q:DE KF ms .one te m):DS KF ms rk (tAsg te (dI i)) (sSet i m):=by
 intro W δ σ H0 H D r R hm hq
 obtain ⟨d,hd,rfl⟩:=Option.map_eq_some_iff.mp hm
 refine q δ σ H0 H _ d R hd fun v H' s g=> ?_
 obtain ⟨a,rfl,hn,c⟩:=g
 obtain ⟨W',R',st⟩:=R.setOwn (of_decide_eq_true hi) s hn c (of_decide_eq_false hz)
 exact hq W' _ H' st R'
theorem aU {i:Nat}{x:Str} (hi:isOwn ms i=false) (h:PD X ms k e m) (l:Kd.le k .any) (hN:X.N.Nodup) (hx:X.N[i]?=some x) (hl:Loc X.env.scope x) (hs:swapsWith e (some (.Name x pos')) pos.line X.env=pure false:=by rfl)
  (hf:X.fn x=true \/X.env.scope.names.lookup x=some .local:=by first|exact .inl rfl|exact .inr rfl|assumption):PDs X ms rk (.Assign [.Name x pos'] e pos) (sSet i m):=by
 obtain ⟨te,p,q⟩:=h
 exact ⟨_,gI hN hx hl p hs hf,kL hi q l⟩
theorem qQ {i:Nat}{x:Str} (hi:decide (i∈ms)=true) (h:PD X ms .one e m) (hN:X.N.Nodup) (hx:X.N[i]?=some x) (hl:Loc X.env.scope x) (hs:swapsWith e (some (.Name x pos')) pos.line X.env=pure false:=by rfl)
  (hf:X.fn x=true \/X.env.scope.names.lookup x=some .local:=by first|exact .inl rfl|exact .inr rfl|assumption) (hz:decide (i+3000∈ms)=false:=by rfl):PDs X ms rk (.Assign [.Name x pos'] e pos) (sSet i m):=by
 obtain ⟨te,p,q⟩:=h
 exact ⟨_,gI hN hx hl p hs hf,qP hi hz q⟩
section
variable {ms':List Nat}{ρ:List (Option Nat)}{it:Dt->Option (List Dv)}{g:Dv->Dt->Option Dt}{c:Dt->Option Bool}{el:EM}{z:List Nat}{scope:Scope}{tg iter elt:Expr}{ifs:List Expr}{spos cpos:Pos}
theorem qR {i:Nat}{x:Str} (N':List Str) (ρ:List (Option Nat)) (ms':List Nat) (hi':isOwn ms i=false) (hN:X.N.Nodup) (hx:X.N[i]?=some x) (hl:Loc X.env.scope x) (hc:X.calm=true) (hi:PDi X ms false tg iter it) (hg: ∀C s H fp,PDg (az X scope N' C s H fp) ms' tg g)
  (ht: ∀C s H fp,PDts (az X scope N' C s H fp) ms' ifs c) (he: ∀C s H fp,PD (az X scope N' C s H fp) ms' k elt el) (hz:GExt z g)
  (ck:dr scope X.env.scope X.N N' ρ=true) (hp:eU ρ ms ms'=true) (hz':z.all (fun i=>decide (ρ[i]?=some none))=true)
  (hsw:swapsWith (.ListComp elt [⟨tg,iter,ifs,0⟩] scope cpos) (some (.Name x pos')) spos.line X.env=pure true:=by rfl) (hs: ∀x,foldedSetIterable iter X.env x=pure x:=by intro _;rfl)
  (hf:X.fn x=true \/X.env.scope.names.lookup x=some .local:=by first|exact .inl rfl|exact .inr rfl|assumption):
  PDs X ms rk (.Assign [.Name x pos'] (.ListComp elt [⟨tg,iter,ifs,0⟩] scope cpos) spos) (sSet i (bC ρ it g c el)):=by
 obtain ⟨wi,pi,qi⟩:=hi
 exact ⟨_,qo N' ρ hN hx hl hc pi (fun C s H fp=>(hg C s H fp).pg) (fun C s H fp=>(ht C s H fp).pts) (fun C s H fp=>(he C s H fp).pe) ck hsw hs hf,kL hi' (kI qi (h8 hp) hz hz') .one_any⟩
end
theorem ic {iter tg:Expr}{body:List Stmt}{it:Dt->Option (List Dv)}{g:Dv->Dt->Option Dt}{mb:SM} (hp:PassesOwn (model X.prog X.w) X.A X.env X.xe) (hc:X.calm=true) (hi:PDi X ms true tg iter it) (hg:PDg X ms tg g) (hb:PDss X ms rk body mb)
  (hs: ∀x,foldedSetIterable iter X.env x=pure x:=by intro _;rfl):PDs X ms rk (.For tg iter body [] pos) (sFor it g mb):=by
 obtain ⟨wi,pi,qi⟩:=hi
 obtain ⟨tg',pg,qg⟩:=hg
 obtain ⟨tb,pb,qb⟩:=hb
 refine ⟨_,on hp hc pi pg pb hs,fun {W} δ σ H0 H D r R hm hq=> ?_⟩
 obtain ⟨ds,hds,e⟩:=Option.bind_eq_some_iff.mp hm
 refine qi δ σ H0 H _ ds R hds fun J H1 s1 ok=> ?_
 obtain ⟨hlim,ok⟩:=ok
 have hq1:=hq.step (Stp.sm s1)
 refine ⟨fun i n σc Hc=>n=ds.length-i/\i<=ds.length/\(∃Wc:Addr->Prop,Stp ms H0 W σ H1 Wc σc Hc/\ ∃δc,Rel X.K ms Wc H0 δc σc Hc/\loopM g mb (ds.drop i) δc=some r),⟨ds.length,by simp,Nat.zero_le _,W,.refl,δ,R.same s1,by simpa using e⟩,?_⟩
 rintro i n σc Hc ⟨rfl,hi',Wc,sc,δc,Rc,hr⟩
 obtain ⟨go,yl,st⟩:=ok Hc (.inr ⟨rfl,sc.1⟩)
 by_cases hlt:i<ds.length
 ·right
  refine ⟨go i hlt,fun σ' H'=> ∃Wc:Addr->Prop,Stp ms H0 W σ H1 Wc σ' H'/\ ∃δc,Rel X.K ms Wc H0 δc σ' H'/\loopM g mb (ds.drop (i+1)) δc=some r,fun σ' H' a1=>⟨ds.length-(i+1),by lia,rfl,hlt,a1⟩,fun x H' y=> ?_⟩
  obtain ⟨rfl,d,hd,rx⟩:=yl i x H' hlt y
  have hdrop:ds.drop i=d::ds.drop (i+1):=by
   rw [List.drop_eq_getElem_cons hlt]
   congr 1
   rw [List.getElem?_eq_getElem hlt] at hd
   exact Option.some.inj hd
  rw [hdrop,loopM] at hr
  obtain ⟨δ1,h1,hr⟩:=Option.bind_eq_some_iff.mp hr
  obtain ⟨r1,h2,hr⟩:=Option.bind_eq_some_iff.mp hr
  have rx':RepF X.K (fun a=> ¬Wc a) H' x d:=rx.mono fun a ha n z=>by
   rcases sc.2.1 a z with q|q
   ·exact n.1 q
   ·exact n.2 q
  refine qg δc δ1 σc H0 H' x d _ Rc rx' h1 fun σ1 R1 so1=> ?_
  have sc1:=sc.tr (Stp.of (Same.refl _) so1)
  refine qb δ1 σ1 H0 H' _ r1 R1 h2 ?_
  cases r1 with
  |nx δ2=>exact fun W2 σ2 H2 s2 R2=>⟨W2,sc1.tr s2,δ2,R2,hr⟩
  |ct δ2=>exact fun W2 σ2 H2 s2 R2=>⟨W2,sc1.tr s2,δ2,R2,hr⟩
  |bk δ2=>
   cases hr
   exact fun W2 σ2 H2 s2 R2=>hq1 W2 σ2 H2 (sc1.tr s2) R2
  |rt d' δ'=>
   cases hr
   exact hq1.step sc1
 ·left
  have hie:i=ds.length:=by lia
  subst hie
  rw [List.drop_length,loopM] at hr
  cases hr
  exact ⟨st,hq1 Wc σc Hc sc Rc⟩
end
end L2
set_option maxHeartbeats 4000000
namespace L2
open PySem PySem.Spec PyProof.Rows
variable {KF:PySem.W.Frag}{W W':Addr->Prop}
noncomputable def bO (n:Nat) (ds:List Dv):Dt:=ds.map some++List.replicate (n-ds.length) none
noncomputable def aL (n np:Nat) (body:SM) (ds:List Dv):Option Dv:=if ds.length=np then (body (bO n ds)).bind fun r=>match r with
 | .rt d _=>some d
 |_=>none
 else none
noncomputable def spD (KF:PySem.W.Frag) (rk:Kd) (m:List Dv->Option Dv):Sp:=fun vs H Q _=> ∃ds d,RepsF KF (fun _=>True) H vs ds/\m ds=some d/\ ∀v H',Same H H'->Got KF rk W0 H H' v d->Q v H'
theorem Got.call {rk:Kd}{H H1:Hp}{v:V}{d:Dv} (g:Got KF rk W0 H H1 v d) (n:rk≠ .any):Got KF rk W H H1 v d:=by
 cases rk with
 |any=>exact absurd rfl n
 |_=>exact g
theorem kM {ms:List Nat}{H:Hp}{vs:List V}{ds:List Dv}{N:List Str} (r:RepsF KF (fun a=> ¬W a) H vs ds) (hW: ∀a,W a-> ∃o,H a=some o/\Sft o) (hms: ∀i,isOwn ms i=true->ds.length<=i) (hn:ds.length<=N.length):Rel KF ms W H (bO N.length ds) (br N vs) H:=by
 have hl:=r.length
 have no: ∀{i:Nat}{d:Dv},(bO N.length ds)[i]?=some (some d)->i<ds.length/\ds[i]?=some d:=fun {i d} hd=>by
  unfold bO at hd
  by_cases hi:i<ds.length
  ·rw [List.getElem?_append_left (by rw [List.length_map];exact hi),List.getElem?_map] at hd
   obtain ⟨d',e1,e2⟩:=Option.map_eq_some_iff.mp hd
   cases e2
   exact ⟨hi,e1⟩
  ·rw [List.getElem?_append_right (by rw [List.length_map];lia)] at hd
   have:=List.mem_of_getElem? hd
   rw [List.mem_replicate] at this
   exact nomatch this.2
 refine ⟨?_,fun _ _ z=>z,hW,fun i d n hd=> ?_,fun _=>[],⟨fun _ b hb=>(List.not_mem_nil hb).elim,fun _ _ b hb=>(List.not_mem_nil hb).elim,fun _=>List.nodup_nil,fun i d n hd=> ?_⟩⟩
 ·unfold br bO
  simp only [List.length_append,List.length_map,List.length_replicate,hl]
 ·obtain ⟨hi,e1⟩:=no hd
  obtain ⟨v,hv,rv⟩:=r.get e1
  refine ⟨v,?_,rv⟩
  unfold br
  rw [List.getElem?_append_left (by rw [List.length_map];lia),List.getElem?_map,hv]
  rfl
 ·have:=(no hd).1
  have:=hms i n
  lia
theorem qS {ms:List Nat}{H:Hp}{vs:List V}{ds:List Dv}{N:List Str} (r:RepsF KF (fun _=>True) H vs ds) (hms: ∀i,isOwn ms i=true->ds.length<=i) (hn:ds.length<=N.length):Rel KF ms W0 H (bO N.length ds) (br N vs) H:=
 kM (r.mono fun _ _ _ z=>z) (fun _ w=>w.elim) hms hn
theorem kN {ms:List Nat}{n:Nat} (hms:ms.all (fun i=>decide (n<=if 2000<=i then i-2000 else if 1000<=i then i-1000 else i))=true) {i:Nat} (hi:isOwn ms i=true):n<=i:=by
 unfold isOwn at hi
 rw [Bool.or_eq_true,Bool.or_eq_true] at hi
 rcases hi with hi|hi|hi
 all_goals
  have:=of_decide_eq_true (List.all_eq_true.mp hms _ (of_decide_eq_true hi))
  split at this<;>(try split at this)<;>lia
section
variable {P:Program}{w:World}{K:PySem.W.Frag}{mg:Str->Option Value}{base:Heap}
theorem bD {x qual:Str}{st:Stmt}{f:Addr}{fd:FuncData}{N ps:List Str}{k:Nat}{rk:Kd}{body:SM} (ms:List Nat) (F:Fun K x qual st f fd) (S:aW N ps (aq st)) (hms:ms.all (fun i=>decide (ps.length<=if 2000<=i then i-2000 else if 1000<=i then i-1000 else i))=true) (hps:decide (ps.length<=N.length)=true)
  (hb: ∀(cdv:Value) (A:Around) (outer:List Env) (s:Shared) (H:Hp) (E:XK),Room k (A.deeper (envOfC qual (aq st) s.heap.objs.size f cdv))->PDss (cxOf CX0 P w K mg base N qual (aq st) f cdv A outer s H E).nox ms rk (aQ st) body):
  FnOk P w K mg base CX0 (k+1) f fd ps (spD K rk (aL N.length ps.length body)):=by
 have len: ∀{ds:List Dv}{d:Dv},aL N.length ps.length body ds=some d->ds.length=ps.length:=fun {ds d} h=>by
  unfold aL at h
  split at h
  ·assumption
  ·cases h
 refine F.ok (k:=k) S (fun vs H Q E h=> ?_) fun cdv A outer s H vs Q E hr h=> ?_
 ·obtain ⟨ds,d,r,hm,_⟩:=h
  rw [r.length]
  exact len hm
 ·obtain ⟨ds,d,r,hm,hq⟩:=h
  obtain ⟨t,p,q⟩:=hb cdv A outer s H E hr
  refine ⟨t,p,?_⟩
  have hl:=len hm
  have hps':=of_decide_eq_true hps
  have R:Rel K ms W0 H (bO N.length ds) (br N vs) H:=qS r (fun i hi=>by rw [hl];exact kN hms hi) (by lia)
  unfold aL at hm
  rw [if_pos hl] at hm
  obtain ⟨fl,hf,e⟩:=Option.bind_eq_some_iff.mp hm
  cases fl with
  |rt d' δ'=>cases e;exact q _ _ H H _ _ R hf fun v W' σ' H' Φ _ R' _ g _=>hq v H' R'.keep (g.weak fun _ z=>z.elim)
  |_=>cases e
end
section
variable {X:Cx}{ms:List Nat}{rk k1:Kd}{a:Expr}{es:List Expr}{ml:Dt->Option (List Dv)}{m:List Dv->Option Dv}{x:Str}{ps:List Str}{p pos:Pos}
theorem aB {k:Nat} (D:Def X.prog X.w X.K X.mg X.base k x ps (spD X.K rk m)) (hr:Room k X.A) (n:rk≠ .any) (ha:PDa X ms k1 (a::es) ml) (hg:Gl X x:=by rfl)
  (hdb:(x==("__debug__":Str))=false:=by decide) (he:starEach (a::es) X.env=(false,eval a X.env)::starEach es X.env:=by rfl) (hpl:(backTo pos (starEach es X.env)).any (·.1)=false:=by rfl):
  PD X ms rk (.Call (.Name x p) (a::es) [] pos) (af m ml):=by
 obtain ⟨ta,pa,qa⟩:=ha
 refine ⟨_,kc D hr pa hg hdb he hpl,fun δ σ H0 H Q d R hm hq=> ?_⟩
 obtain ⟨xs,hx,e⟩:=Option.bind_eq_some_iff.mp hm
 refine qa δ σ H0 H _ xs R hx fun vs H1 s1 g1=> ?_
 exact ⟨xs,d,g1.bor,e,fun v H' s g=>hq v H' (s1.tr s) ((g.call n).back s1)⟩
end
noncomputable def tyN:Dv->String
 | .non=>"NoneType"
 | .bl _=>"bool"
 | .int _=>"int"
 | .str _=>"str"
 | .lst _=>"list"
 | .tup _=>"tuple"
 | .dic _=>"dict"
 | .scr _=>"list"
 | .fn _=>"list"
 | .fc _ _ _=>"list"
 | .dik _=>"dict"
 | .ins _ _=>"list"
noncomputable def Dv.isScr:Dv->Bool
 | .scr _=>true
 | .fn _=>true
 | .fc _ _ _=>true
 | .ins _ _=>true
 |_=>false
theorem RepF.ty {S:Addr->Prop}{H:Hp}{v:V}{d:Dv} (r:RepF KF S H v d) (hs:d.isScr=false):TyOf KF H v (.type (tyN d)):=by
 cases r with
 |non=>exact .non
 |bl b=>exact .bl b
 |int i=>exact .int i
 |str x=>exact .str x
 |lst s h r=>exact .lst h
 |tup h r=>exact .tup h
 |dic s h r=>exact .dT h
 |scr h=>cases hs
 |fn h=>cases hs
 |fc h=>cases hs
 |dik s h r=>exact .dK h
 |ins s h r=>cases hs
noncomputable def isiN (T C:String):Bool:=T==C||(T=="bool"&&C=="int")
noncomputable def tys:List String:=["NoneType","bool","int","str","list","tuple","dict"]
theorem qT (d:Dv):tyN d∈tys:=by cases d<;>simp [tyN,tys]
noncomputable def kitB (T C:String):Option Bool:=if (Value.type T==Value.type C)=true then some true else (if PySem.W.kitMeta C=true then (fastBuiltinMro T).map (·.contains (.type C)) else none)
theorem qU:(tys.all fun T=>tys.all fun C=>decide (kitB T C=some (isiN T C)))=true:=by decide+kernel
theorem qV {K:PySem.W.Frag}{T C:String} (h:T∈tys) (h':C∈tys):PySem.W.kitOne K (.type T) (.type C)=some (isiN T C):=by
 have q:=of_decide_eq_true (List.all_eq_true.mp (List.all_eq_true.mp qU T h) C h')
 exact q
noncomputable def eIsi (C:String) (m:EM):EM:=fun δ=>(m δ).bind fun d=>if d.isScr=false then some (.bl (isiN (tyN d) C)) else none
section
variable {X:Cx}{ms:List Nat}{k:Kd}{a:Expr}{m:EM}{p p2 pos:Pos}{c:Str}
theorem dR (C:String) (ha:PD X ms k a m) (hg:Gl X "isinstance") (hm:X.mg "isinstance"=none) (hcg:Gl X c) (hcm:X.mg c=none) (hcb:bootBuiltins c=some (.type C)) (hC:C∈tys:=by decide) (hn:c≠"__name__":=by decide) (hd:(c==("__debug__":Str))=false:=by decide)
  (he:starEach [a,.Name c p2] X.env=(false,eval a X.env)::starEach [.Name c p2] X.env:=by rfl) (he2:starEach [.Name c p2] X.env=(false,eval (.Name c p2) X.env)::starEach [] X.env:=by rfl) (hpl:(backTo pos (starEach [.Name c p2] X.env)).any (·.1)=false:=by rfl):
  PD X ms .imm (.Call (.Name "isinstance" p) [a,.Name c p2] [] pos) (eIsi C m):=by
 obtain ⟨ta,pa,qa⟩:=ha
 have pc:PE X (.Name c p2) (tC (.ty C)):=nD hcg hcm hcb rfl hn hd
 refine ⟨_,jD qp hg hm qt (cn pa (cn pc dJ he2) he) (by decide) (by decide) he hpl,fun δ σ H0 H Q d R hm hq=> ?_⟩
 obtain ⟨x,hx,e⟩:=Option.bind_eq_some_iff.mp hm
 split at e
 case isFalse=>cases e
 next hsc=>
 cases e
 refine qa δ σ H0 H _ x R hx fun v H1 s1 g1=> ?_
 exact ⟨v,C,_,_,rfl,g1.bor.ty hsc,qV (qT x) hC,hq _ H1 s1 (RepF.bl _)⟩
end
section
variable {X:Cx}
theorem kO: ∀{bs:List Bool}{us:List Value},Vals (bs.map V.bl) us->us=bs.map Value.bool
 |[],us,r=>by cases r;rfl
 |b::bs,us,r=>by
  cases r with
  |cons r1 r2=>
   have e:_=Value.bool b:=r1
   rw [e,kO r2]
   all_goals rfl
theorem qW (bs:List Bool):(List.range bs.length).all (fun i=>bs.getD i true)=bs.all id:=by
 have e:(List.range bs.length).map (fun i=>bs.getD i true)=bs:=by
  apply List.ext_getElem
  ·simp
  ·intro i h1 h2
   simp [List.getD,h2]
 conv=>rhs;rw [<-e]
 rw [List.all_map]
 rfl
theorem PlainL.lt {h:Heap}{a:Addr}{its:Array Value} (p:PlainL h a its):a<h.objs.size:=by
 obtain ⟨o,n,ho,_⟩:=p
 exact Heap.lt_size ho
theorem ie (hc:X.calm=true):bj X (.builtin "all") (fun xs H Q=> ∃(a:Addr) (bs:List Bool),xs=[.ref a]/\H a=some (.lst (bs.map V.bl))/\Q (.bl (bs.all id)) H):=by
 intro pins s σ H xs us Q I r h
 obtain ⟨a,bs,rfl,hq,q⟩:=h
 obtain ⟨u,rfl,ru⟩:=r.one
 cases ru
 obtain ⟨its,rv,pl,hz⟩:=I.list (SqL.of hq)
 have ei:=kO rv
 subst ei
 have hlt:=PlainL.lt pl
 refine call_all_walk (wpAny_pyIter_list pl.isList ?_)
 refine ⟨s.heap.objs.size,_,_,_,_,_,fun i=>bs.getD i true,rfl,Walks.list (A:=X.A.in1) (I.ok.hd hc) s.heap.objs.size a (Nat.ne_of_lt hlt) (bs.map Value.bool).toArray,⟨⟨_,Heap.get?_push_size _ rfl,rfl,rfl⟩,?_⟩,?_,fun h' tk hk=> ?_⟩
 ·obtain ⟨o,n,ho,hcl,hdi,hd⟩:=pl
  exact ⟨o,Heap.get?_push_of_some _ ho,hcl,n,hd⟩
 ·intro i v s' Q' E' hv hQ
  have hv':(bs.map Value.bool)[i]?=some v:=by simpa using hv
  rw [List.getElem?_map] at hv'
  cases e:bs[i]? with
  |none=>rw [e] at hv';cases hv'
  |some b=>
   rw [e] at hv'
   have hv'':v=Value.bool b:=(Option.some.inj hv').symm
   subst hv''
   have eb:bs.getD i true=b:=by simp [List.getD,e]
   have hQ:Q' (bs.getD i true) s':=hQ
   rw [eb] at hQ
   exact wpAny_truthy_bool hQ
 ·have es:(bs.map Value.bool).toArray.size=bs.length:=by simp
  rw [es,qW]
  refine ⟨.bl (bs.all id),H,I.kept (h':=h') (t':=tk) (fun b o e=>hk b o (fun z=> ?_) (Heap.get?_push_of_some _ e)),rfl,q⟩
  have z':b=s.heap.objs.size:=by simpa using z
  rw [z'] at e
  exact absurd (Heap.lt_size e) (Nat.lt_irrefl _)
theorem kP (ns:List Int): ∀k,k<=ns.length->preSum (fun i=>ns.getD i 0) k=(ns.take k).sum
 |0,_=>by simp [preSum]
 |k+1,h=>by
  have hk:k<ns.length:=h
  rw [preSum,kP ns k (by lia),List.take_succ,List.sum_append,List.getElem?_eq_getElem hk]
  simp [List.getD,hk]
theorem qX (ns:List Int):preSum (fun i=>ns.getD i 0) ns.length=ns.sum:=by
 rw [kP ns ns.length (Nat.le_refl _),List.take_length]
theorem kQ (hc:X.calm=true):bj X (.builtin "sum") (fun xs H Q=> ∃(a:Addr) (ns:List Int),xs=[.ref a]/\SqL X.K H a (ns.map V.int)/\Q (.int ns.sum) H):=by
 intro pins s σ H xs us Q I r h
 obtain ⟨a,ns,rfl,hq,q⟩:=h
 obtain ⟨u,rfl,ru⟩:=r.one
 cases ru
 obtain ⟨its,rv,pl,hz⟩:=I.list hq
 have hlt:=PlainL.lt pl
 have hl:=rv.length
 rw [List.length_map] at hl
 refine call_sum_walkAnyS (wpAny_pyIter_list pl.isList ?_)
 refine ⟨s.heap.objs.size,_,_,_,_,_,_,fun i=>ns.getD i 0,rfl,(Walks.list (A:=X.A.in1) (I.ok.hd hc) s.heap.objs.size a (Nat.ne_of_lt hlt) its.toArray).toS,⟨⟨_,Heap.get?_push_size _ rfl,rfl,rfl⟩,?_⟩,?_,?_,fun s' t' mv=> ?_⟩
 ·obtain ⟨o,n,ho,hcl,hdi,hd⟩:=pl
  exact ⟨o,Heap.get?_push_of_some _ ho,hcl,n,hd⟩
 ·intro b hb
  have hb':b=s.heap.objs.size \/b=a:=by simpa using hb
  show b<(s.heap.push _).objs.size
  rw [Heap.size_push]
  rcases hb' with e|e
  ·rw [e];exact Nat.lt_succ_self _
  ·rw [e];exact Nat.lt_succ_of_lt hlt
 ·intro i v hv
  have hv':its[i]?=some v:=by simpa using hv
  have hi:i<its.length:=(List.getElem?_eq_some_iff.mp hv').1
  have e:(ns.map V.int)[i]?=some (.int (ns.getD i 0)):=by
   rw [List.getElem?_map,List.getElem?_eq_getElem (by lia)]
   simp [List.getD,show i<ns.length by lia]
  obtain ⟨u,hu,ru⟩:=rv.get e
  rw [hv'] at hu
  cases hu
  exact ru
 ·have es:its.toArray.size=ns.length:=by simp [hl]
  rw [es,qX]
  refine ⟨.int ns.sum,H,?_,⟨_,rfl⟩,q⟩
  obtain ⟨h',g',d',k',o'⟩:=s'
  have e1:g'=s.gens:=mv.gens
  have e2:d'=s.drawn:=mv.drawn
  have e3:o'=s.os:=mv.os
  subst e1 e2 e3
  refine I.kept (h':=h') (t':=k') fun b o e=>mv.heap b o (fun z=> ?_) (Heap.get?_push_of_some _ e)
  have z':b=s.heap.objs.size:=by simpa using z
  rw [z'] at e
  exact absurd (Heap.lt_size e) (Nat.lt_irrefl _)
end
noncomputable def dS:List Dv->Option (List Bool)
 |[]=>some []
 | .bl b::r=>(dS r).map (b:: ·)
 |_::_=>none
theorem kR: ∀{ds:List Dv}{bs:List Bool},dS ds=some bs->ds=bs.map Dv.bl
 |[],_,h=>by cases h;rfl
 |d::r,bs,h=>by
  cases d with
  |bl b=>
   obtain ⟨bs',h',rfl⟩:=Option.map_eq_some_iff.mp h
   rw [kR h']
   all_goals rfl
  |_=>cases h
noncomputable def fAll:List Dv->Option Dv
 |[.lst ds]=>(dS ds).map fun bs=> .bl (bs.all id)
 |_=>none
theorem ig:bG KF (fun xs H Q=> ∃(a:Addr) (bs:List Bool),xs=[.ref a]/\H a=some (.lst (bs.map V.bl))/\Q (.bl (bs.all id)) H) .imm fAll:=by
 intro W H vs ds d Q r e hq
 cases r with
 |nil=>cases e
 |cons h r=>
  cases r with
  |cons _ _=>cases h<;>cases e
  |nil=>
   cases h with
   |lst s h q=>
    obtain ⟨bs,hb,rfl⟩:=Option.map_eq_some_iff.mp e
    have:=kR hb
    subst this
    have:=q.bls
    subst this
    exact ⟨_,bs,rfl,h,hq _ H (fun _ _ z=>z) (RepF.bl _)⟩
   |_=>cases e
noncomputable def dU:List Dv->Option (List Int)
 |[]=>some []
 | .int b::r=>(dU r).map (b:: ·)
 |_::_=>none
theorem kS: ∀{ds:List Dv}{bs:List Int},dU ds=some bs->ds=bs.map Dv.int
 |[],_,h=>by cases h;rfl
 |d::r,bs,h=>by
  cases d with
  |int b=>
   obtain ⟨bs',h',rfl⟩:=Option.map_eq_some_iff.mp h
   rw [kS h']
   all_goals rfl
  |_=>cases h
theorem kT: ∀(bs:List Int),dU (bs.map Dv.int)=some bs
 |[]=>rfl
 |b::r=>by rw [List.map_cons,dU,kT r];rfl
noncomputable def fSum:List Dv->Option Dv
 |[.scr ns]=>some (.int ns.sum)
 |[.lst ds]=>(dU ds).map fun ns=> .int ns.sum
 |_=>none
theorem kU:bG KF (fun xs H Q=> ∃(a:Addr) (ns:List Int),xs=[.ref a]/\SqL KF H a (ns.map V.int)/\Q (.int ns.sum) H) .imm fSum:=by
 intro W H vs ds d Q r e hq
 cases r with
 |nil=>cases e
 |cons h r=>
  cases r with
  |cons _ _=>cases h<;>cases e
  |nil=>
   cases h with
   |lst s h q=>
    obtain ⟨bs,hb,rfl⟩:=Option.map_eq_some_iff.mp e
    have:=kS hb
    subst this
    have:=q.ints
    subst this
    exact ⟨_,bs,rfl,SqL.of h,hq _ H (fun _ _ z=>z) (RepF.int _)⟩
   |scr h=>cases e;exact ⟨_,_,rfl,h.sq,hq _ H (fun _ _ z=>z) (RepF.int _)⟩
   |_=>cases e
noncomputable def fAbs:List Dv->Option Dv
 |[.int i]=>some (.int (if i<0 then-i else i))
 |_=>none
noncomputable def fInt:List Dv->Option Dv
 |[.int i]=>some (.int i)
 |[.bl b]=>some (.int (if b then 1 else 0))
 |_=>none
theorem qY:bG KF (fun xs H Q=>(∃i,xs=[.int i]/\Q (.int i) H) \/ ∃k,xs=[.bl k]/\Q (.int (if k then 1 else 0)) H) .imm fInt:=by
 intro W H vs ds d Q r e hq
 cases r with
 |nil=>cases e
 |cons h r=>
  cases r with
  |cons _ _=>cases h<;>cases e
  |nil=>
   cases h with
   |int i=>cases e;exact .inl ⟨_,rfl,hq _ H (fun _ _ z=>z) (RepF.int _)⟩
   |bl b=>cases e;exact .inr ⟨_,rfl,hq _ H (fun _ _ z=>z) (RepF.int _)⟩
   |_=>cases e
noncomputable def fStr:List Dv->Option Dv
 |[.int i]=>if i.natAbs<2^1920 then some (.str (toString i)) else none
 |_=>none
theorem qZ:bG KF (fun xs H Q=> ∃i:Int,xs=[.int i]/\i.natAbs.log2<1920/\Q (.str (toString i)) H) .imm fStr:=by
 intro W H vs ds d Q r e hq
 cases r with
 |nil=>cases e
 |cons h r=>
  cases r with
  |cons _ _=>cases h<;>cases e
  |nil=>
   cases h with
   |int i=>
    simp only [fStr] at e
    split at e
    ·next hi=>
     cases e
     refine ⟨_,rfl,?_,hq _ H (fun _ _ z=>z) (RepF.str _)⟩
     by_cases h0:i.natAbs=0
     ·rw [h0];decide
     ·exact (Nat.log2_lt h0).mpr hi
    ·cases e
   |_=>cases e
theorem ii {α:Type}: ∀{l:List α}{i:Nat}{x:α},l[i]?=some x->l.set i x=l
 |[],_,_,h=>by simp at h
 |y::l,0,x,h=>by simp at h;subst h;rfl
 |y::l,i+1,x,h=>by rw [List.set_cons_succ,ii (by simpa using h)]
theorem Rel.mut {ms:List Nat}{H0 H:Hp}{δ:Dt}{σ:St}{i:Nat}{a:Addr}{d d0:Dv}{o:HO} (R:Rel KF ms W H0 δ σ H) (hi:i∈ms) (hs:σ[i]?=some (some (.ref a))) (hd:δ[i]?=some (some d0)) (ho: ∀xs,o≠ .tup xs) (hf: ∀b u,o≠ .frz b u) (c:Cell KF (L2.upd H a o) a d):
  ∃W':Addr->Prop,Rel KF ms W' H0 (δ.set i (some d)) σ (L2.upd H a o)/\Stp ms H0 W σ H W' σ (L2.upd H a o):=by
 obtain ⟨Φ,f⟩:=R.foot
 obtain ⟨a',ha',oo⟩:=f.at_ i d0 (fR hi) hd
 rw [hs] at ha';cases ha'
 have e:Φ i=[a]:=by
  rcases oo with ⟨_,e,_⟩|⟨n,_⟩|⟨n,_⟩
  ·exact e
  ·exact absurd hi n
  ·exact absurd hi n
 have:=R.chg (P:=[a]) (H':=L2.upd H a o) f (fR hi) (fun b hb=>by rw [e];exact hb) (fun b ob h n=>by rw [au (fun z=>n (by rw [z];exact List.mem_cons_self ..))];exact h)
  (fun b hb=>by rw [List.mem_singleton.mp hb];exact ⟨o,ay,ho,hf⟩) (by simp) (fun b hb=> .inl hb) (.inl ⟨hi,rfl,c⟩)
 rw [ii hs] at this
 exact ⟨_,this fun _=>hs⟩
theorem Rel.getOwn {ms:List Nat}{H0 H:Hp}{δ:Dt}{σ:St}{i:Nat}{d:Dv} (R:Rel KF ms W H0 δ σ H) (hi:i∈ms) (h:eVar i δ=some d): ∃a,σ[i]?=some (some (.ref a))/\Cell KF H a d:=by
 obtain ⟨a,ha,_,c⟩:=R.own1 hi (ce h)
 exact ⟨a,ha,c⟩
section
variable {X:Cx}{ms:List Nat}{rk k:Kd}{e:Expr}{m:EM}{i:Nat}{x:Str}{np apos cpos pos:Pos}
end
end L2
set_option maxHeartbeats 4000000
namespace L2
open PySem PySem.Spec PyProof.Rows
variable {KF:PySem.W.Frag}{W W':Addr->Prop}
theorem kW:Kd.one≠ .any:=fun z=>nomatch z
theorem am:Kd.imm≠ .any:=fun z=>nomatch z
theorem eV:Kd.frh≠ .any:=fun z=>nomatch z
theorem rc {H:Hp}{a:Addr}{ns:List Int}{m:List Dv->Option Dv}{E:XK} (hO:Only H) (hS:SqL KF H a (ns.map V.int)) (h:m [.scr ns]=some (.bl true)):spD KF .imm m [.ref a] H (fun v _=>v= .bl true) E:=by
 refine ⟨[.scr ns],_,.cons (.scr ?_) .nil,h,fun v H' s g=> ?_⟩
 ·rcases hS with (hS|⟨o,hS⟩)|hS
  ·rcases hO a with e|⟨o,xs,e⟩
   ·rw [hS] at e;cases e
   ·rw [hS] at e;cases e
  ·exact .inl ⟨o,hS⟩
  ·exact .inr hS
 ·cases g;rfl
noncomputable def opB (f:Dv->Dv->Option Dv):Option Dv->Option Dv->Option Dv
 |some x,some y=>f x y
 |_,_=>none
noncomputable def unB (f:Dv->Option Dv):Option Dv->Option Dv
 |some x=>f x
 |_=>none
noncomputable def immB:Option Dv->Option Dv
 |some x=>if x.imm=true then some x else none
 |_=>none
noncomputable def andB (a:Option Dv) (b:EM) (δ:Dt):Option Dv:=match a with
 |some (.bl true)=>b δ
 |some (.bl false)=>some (.bl false)
 |_=>none
noncomputable def orB (a:Option Dv) (b:EM) (δ:Dt):Option Dv:=match a with
 |some (.bl true)=>some (.bl true)
 |some (.bl false)=>b δ
 |_=>none
noncomputable def ifB {α:Type} (c:Option Bool) (a b:Dt->Option α) (δ:Dt):Option α:=match c with
 |some true=>a δ
 |some false=>b δ
 |none=>none
noncomputable def tofB:Option Dv->Option Bool
 |some (.bl b)=>some b
 |_=>none
noncomputable def fS (c:Option Bool) (b:Dt->Option Bool) (δ:Dt):Option Bool:=match c with
 |some true=>b δ
 |some false=>some false
 |none=>none
noncomputable def torB (c:Option Bool) (b:Dt->Option Bool) (δ:Dt):Option Bool:=match c with
 |some true=>some true
 |some false=>b δ
 |none=>none
noncomputable def kX:Option Bool->Option Bool
 |some b=>some (!b)
 |none=>none
noncomputable def kY:Option Dv->Option (List Dv)->Option (List Dv)
 |some x,some xs=>some (x::xs)
 |_,_=>none
noncomputable def tupB:Option (List Dv)->Option Dv
 |some xs=>if xs.length<=lim then some (.tup xs) else none
 |none=>none
noncomputable def lstB:Option (List Dv)->Option Dv
 |some xs=>if xs.length<=lim then some (.lst xs) else none
 |none=>none
noncomputable def kZ:Option (List Dv)->Option Dv
 |some xs=>if xs.length<=lim/\imms xs=true then some (.lst xs) else none
 |none=>none
noncomputable def la (f:List Dv->Option Dv):Option (List Dv)->Option Dv
 |some xs=>f xs
 |none=>none
noncomputable def slB:Option Dv->Option (Option Int)->Option (Option Int)->Option Dv
 |some (.lst ds),some l,some h=>if imms (cutD ds l h)=true then some (.lst (cutD ds l h)) else none
 |some (.scr ns),some l,some h=>some (.lst (cutD (ns.map Dv.int) l h))
 |_,_,_=>none
noncomputable def lb:Option Dv->Option (Option Int)
 |some (.int i)=>some (some i)
 |_=>none
noncomputable def seqB (a:Option Fl) (b:SM):Option Fl:=match a with
 |some (.nx δ)=>b δ
 |some r=>some r
 |none=>none
noncomputable def setB (i:Nat) (a:Option Dv) (δ:Dt):Option Fl:=match a with
 |some d=>some (.nx (δ.set i (some d)))
 |none=>none
noncomputable def retB (δ:Dt):Option Dv->Option Fl
 |some d=>some (.rt d δ)
 |none=>none
noncomputable def lc (a:Option Dv) (δ:Dt):Option Fl:=match a with
 |some _=>some (.nx δ)
 |none=>none
noncomputable def forB (a:Option (List Dv)) (g:Dv->Dt->Option Dt) (b:SM) (δ:Dt):Option Fl:=match a with
 |some ds=>loopM g b ds δ
 |none=>none
noncomputable def ld (a:Option (List Dv)) (g:Dv->Dt->Option Dt) (c:Dt->Option Bool) (el:EM) (δ:Dt):Option Dv:=match a with
 |some ds=>(ba g c el δ ds).map .lst
 |none=>none
noncomputable def appB (i:Nat) (a x:Option Dv) (δ:Dt):Option Fl:=match a,x with
 |some d,some (.lst ds)=>if ds.length<lim/\d.imm=true then some (.nx (δ.set i (some (.lst (ds++[d]))))) else none
 |_,_=>none
noncomputable def endB:Option Fl->Option Dv
 |some (.rt d _)=>some d
 |_=>none
theorem cj {f:Dv->Dv->Option Dv}{a b:EM}{δ:Dt}:eOp f a b δ=opB f (a δ) (b δ):=by unfold eOp;cases a δ<;>cases b δ<;>rfl
theorem rf {f:Dv->Option Dv}{a:EM}{δ:Dt}:eUn f a δ=unB f (a δ):=by unfold eUn;cases a δ<;>rfl
theorem rg {a:EM}{δ:Dt}:eImm a δ=immB (a δ):=by unfold eImm;cases a δ<;>rfl
theorem rh {a b:EM}{δ:Dt}:eAnd a b δ=andB (a δ) b δ:=by
 unfold eAnd andB
 cases a δ with
 |none=>rfl
 |some x=>cases x with
  |bl b=>cases b<;>rfl
  |_=>rfl
theorem rj {a b:EM}{δ:Dt}:eOr a b δ=orB (a δ) b δ:=by
 unfold eOr orB
 cases a δ with
 |none=>rfl
 |some x=>cases x with
  |bl b=>cases b<;>rfl
  |_=>rfl
theorem rm {c:Dt->Option Bool}{a b:EM}{δ:Dt}:eIf c a b δ=ifB (c δ) a b δ:=by
 unfold eIf ifB
 cases c δ with
 |none=>rfl
 |some x=>cases x<;>rfl
theorem rp {c:Dt->Option Bool}{a b:SM}{δ:Dt}:sIf c a b δ=ifB (c δ) a b δ:=by
 unfold sIf ifB
 cases c δ with
 |none=>rfl
 |some x=>cases x<;>rfl
theorem rq {a:EM}{δ:Dt}:tOf a δ=tofB (a δ):=by
 unfold tOf tofB kA
 cases a δ with
 |none=>rfl
 |some x=>cases x<;>rfl
theorem rA {a b:Dt->Option Bool}{δ:Dt}:tand a b δ=fS (a δ) b δ:=by
 unfold tand fS
 cases a δ with
 |none=>rfl
 |some x=>cases x<;>rfl
theorem rB {a b:Dt->Option Bool}{δ:Dt}:tor a b δ=torB (a δ) b δ:=by
 unfold tor torB
 cases a δ with
 |none=>rfl
 |some x=>cases x<;>rfl
theorem rC {a:Dt->Option Bool}{δ:Dt}:tnot a δ=kX (a δ):=by unfold tnot;cases a δ<;>rfl
theorem rD {δ:Dt}:tyes δ=some true:=rfl
theorem rE {δ:Dt}:aNil δ=some []:=rfl
theorem rF {a:EM}{r:Dt->Option (List Dv)}{δ:Dt}:ab a r δ=kY (a δ) (r δ):=by unfold ab;cases a δ<;>cases r δ<;>rfl
theorem rG {a:Dt->Option (List Dv)}{δ:Dt}:eTup a δ=tupB (a δ):=by unfold eTup;cases a δ<;>rfl
theorem rH {a:Dt->Option (List Dv)}{δ:Dt}:eLst a δ=lstB (a δ):=by unfold eLst;cases a δ<;>rfl
theorem rJ {a:Dt->Option (List Dv)}{δ:Dt}:dt a δ=kZ (a δ):=by unfold dt;cases a δ<;>rfl
theorem rK {f:List Dv->Option Dv}{a:Dt->Option (List Dv)}{δ:Dt}:af f a δ=la f (a δ):=by unfold af;cases a δ<;>rfl
theorem rL {m:EM}{lo hi:Dt->Option (Option Int)}{δ:Dt}:eSl m lo hi δ=slB (m δ) (lo δ) (hi δ):=by
 unfold eSl
 cases m δ with
 |none=>rfl
 |some x=>cases lo δ<;>cases hi δ<;>cases x<;>rfl
theorem rM {δ:Dt}:bo δ=some none:=rfl
theorem rN {m:EM}{δ:Dt}:aV m δ=lb (m δ):=by
 unfold aV
 cases m δ with
 |none=>rfl
 |some x=>cases x<;>rfl
theorem rO {a b:SM}{δ:Dt}:sSeq a b δ=seqB (a δ) b:=by
 unfold sSeq
 cases a δ with
 |none=>rfl
 |some x=>cases x<;>rfl
theorem rP {i:Nat}{m:EM}{δ:Dt}:sSet i m δ=setB i (m δ) δ:=by unfold sSet;cases m δ<;>rfl
theorem rQ {m:EM}{δ:Dt}:sRet m δ=retB δ (m δ):=by unfold sRet;cases m δ<;>rfl
theorem rR {m:EM}{δ:Dt}:kJ m δ=lc (m δ) δ:=by unfold kJ;cases m δ<;>rfl
theorem rS {δ:Dt}:aO δ=some (.nx δ):=rfl
theorem rT {it:Dt->Option (List Dv)}{g:Dv->Dt->Option Dt}{b:SM}{δ:Dt}:sFor it g b δ=forB (it δ) g b δ:=by unfold sFor;cases it δ<;>rfl
theorem rU {ρ:List (Option Nat)}{it:Dt->Option (List Dv)}{g:Dv->Dt->Option Dt}{c:Dt->Option Bool}{el:EM}{δ:Dt}:bC ρ it g c el δ=ld (it δ) g c el (aG ρ δ):=by unfold bC;cases it δ<;>rfl
theorem rV {i:Nat}{m:EM}{δ:Dt}:sApp i m δ=appB i (m δ) (eVar i δ) δ:=by
 unfold sApp
 cases m δ with
 |none=>rfl
 |some d=>
  cases eVar i δ with
  |none=>rfl
  |some x=>cases x<;>rfl
theorem eC_b {d:Dv}{δ:Dt}:eC d δ=some d:=rfl
theorem rW {n np:Nat}{body:SM}{ds:List Dv} (h:ds.length=np):aL n np body ds=endB (body (bO n ds)):=by
 unfold aL
 rw [if_pos h]
 cases body (bO n ds) with
 |none=>rfl
 |some x=>cases x<;>rfl
theorem rX {d:Option Dv}{δ:Dt}:eVar 0 (d::δ)=d:=rfl
theorem rY {i:Nat}{d:Option Dv}{δ:Dt}:eVar (i+1) (d::δ)=eVar i δ:=rfl
theorem rZ {f:Dv->Dv->Option Dv}{x y:Dv}:opB f (some x) (some y)=f x y:=rfl
theorem r8 {f:Dv->Option Dv}{x:Dv}:unB f (some x)=f x:=rfl
theorem se {x:Dv} (h:x.imm=true):immB (some x)=some x:=by show (if _ then _ else _)=_;rw [if_pos h]
theorem sf {b:EM}{δ:Dt}:andB (some (.bl true)) b δ=b δ:=rfl
theorem sg {b:EM}{δ:Dt}:andB (some (.bl false)) b δ=some (.bl false):=rfl
theorem si {b:EM}{δ:Dt}:orB (some (.bl true)) b δ=some (.bl true):=rfl
theorem sj {b:EM}{δ:Dt}:orB (some (.bl false)) b δ=b δ:=rfl
theorem sk {α:Type}{a b:Dt->Option α}{δ:Dt}:ifB (some true) a b δ=a δ:=rfl
theorem sn {α:Type}{a b:Dt->Option α}{δ:Dt}:ifB (some false) a b δ=b δ:=rfl
theorem ss {b:Bool}:tofB (some (.bl b))=some b:=rfl
theorem su {b:Dt->Option Bool}{δ:Dt}:fS (some true) b δ=b δ:=rfl
theorem sv {b:Dt->Option Bool}{δ:Dt}:fS (some false) b δ=some false:=rfl
theorem sw {b:Dt->Option Bool}{δ:Dt}:torB (some true) b δ=some true:=rfl
theorem sA {b:Dt->Option Bool}{δ:Dt}:torB (some false) b δ=b δ:=rfl
theorem sB {b:Bool}:kX (some b)=some (!b):=rfl
theorem sC {x:Dv}{xs:List Dv}:kY (some x) (some xs)=some (x::xs):=rfl
theorem sD {xs:List Dv} (h:xs.length<=lim):tupB (some xs)=some (.tup xs):=by show (if _ then _ else _)=_;rw [if_pos h]
theorem sE {xs:List Dv} (h:xs.length<=lim):lstB (some xs)=some (.lst xs):=by show (if _ then _ else _)=_;rw [if_pos h]
theorem sF {xs:List Dv} (h:xs.length<=lim) (h':imms xs=true):kZ (some xs)=some (.lst xs):=by show (if xs.length<=lim/\imms xs=true then _ else _)=_;rw [if_pos ⟨h,h'⟩]
theorem sG {f:List Dv->Option Dv}{xs:List Dv}:la f (some xs)=f xs:=rfl
theorem sH {i:Int}:lb (some (.int i))=some (some i):=rfl
theorem sI {ns:List Int}{l h:Option Int}:slB (some (.scr ns)) (some l) (some h)=some (.lst (cutD (ns.map Dv.int) l h)):=rfl
theorem sJ {ds:List Dv}{l h:Option Int} (hi:imms (cutD ds l h)=true):slB (some (.lst ds)) (some l) (some h)=some (.lst (cutD ds l h)):=by
 show (if imms (cutD ds l h)=true then _ else _)=_
 rw [if_pos hi]
theorem sK {δ:Dt}{b:SM}:seqB (some (.nx δ)) b=b δ:=rfl
theorem sL {d:Dv}{δ:Dt}{b:SM}:seqB (some (.rt d δ)) b=some (.rt d δ):=rfl
theorem sM {i:Nat}{d:Dv}{δ:Dt}:setB i (some d) δ=some (.nx (δ.set i (some d))):=rfl
theorem sN {d:Dv}{δ:Dt}:retB δ (some d)=some (.rt d δ):=rfl
theorem sO {d:Dv}{δ:Dt}:lc (some d) δ=some (.nx δ):=rfl
theorem sP {ds:List Dv}{g:Dv->Dt->Option Dt}{b:SM}{δ:Dt}:forB (some ds) g b δ=loopM g b ds δ:=rfl
theorem sQ {ds:List Dv}{g:Dv->Dt->Option Dt}{c:Dt->Option Bool}{el:EM}{δ:Dt}:ld (some ds) g c el δ=(ba g c el δ ds).map .lst:=rfl
theorem sR {d:Dv}{δ:Dt}:endB (some (.rt d δ))=some d:=rfl
theorem sS {i:Nat}{d:Dv}{ds:List Dv}{δ:Dt} (h:ds.length<lim) (h':d.imm=true):appB i (some d) (some (.lst ds)) δ=some (.nx (δ.set i (some (.lst (ds++[d]))))):=by
 show (if ds.length<lim/\d.imm=true then _ else _)=_
 rw [if_pos ⟨h,h'⟩]
theorem gN_b {i:Nat}{d:Dv}{δ:Dt}:gN i d δ=some (δ.set i (some d)):=rfl
theorem sT {i j:Int}:dAdd (.int i) (.int j)=some (.int (i+j)):=rfl
theorem sU {i j:Int}:dSub (.int i) (.int j)=some (.int (i-j)):=rfl
theorem sV {i j:Int} (h:0<j):dMod (.int i) (.int j)=some (.int (i%j)):=by show (if 0<j then _ else _)=_;rw [if_pos h]
theorem sW {i j:Int} (h:0<j/\j<1073741824):dDiv (.int i) (.int j)=some (.int (i/j)):=by show (if 0<j/\j<1073741824 then _ else _)=_;rw [if_pos h]
theorem cL {i j:Int} (h:bM i j=true):dMul (.int i) (.int j)=some (.int (i*j)):=by show (if bM i j=true then _ else _)=_;rw [if_pos h]
theorem sX {i j:Int}:dLt (.int i) (.int j)=some (.bl (decide (i<j))):=rfl
theorem sY {i j:Int}:dLe (.int i) (.int j)=some (.bl (decide (i<=j))):=rfl
theorem sZ {i j:Int}:dGt (.int i) (.int j)=some (.bl (decide (j<i))):=rfl
theorem tf {i j:Int}:dGe (.int i) (.int j)=some (.bl (decide (j<=i))):=rfl
theorem tj {i:Int}:dNeg (.int i)=some (.int (-i)):=rfl
theorem tm {b:Bool}:dNot (.bl b)=some (.bl (!b)):=rfl
theorem tq {i j:Int}:dEq (.int i) (.int j)=some (.bl (decide (i=j))):=by
 have h:eqOk (.int i) (.int j)=true:=by
  show (true&&true&&decide (min 1 1<=60))=true
  rfl
 show (if eqOk _ _=true then _ else _)=_
 rw [if_pos h]
 rfl
theorem ij {i j:Int}:dNe (.int i) (.int j)=some (.bl (!decide (i=j))):=by
 have h:eqOk (.int i) (.int j)=true:=by
  show (true&&true&&decide (min 1 1<=60))=true
  rfl
 show (if eqOk _ _=true then _ else _)=_
 rw [if_pos h]
 rfl
theorem tu {i j:Bool}:dEq (.bl i) (.bl j)=some (.bl (i==j)):=by
 have h:eqOk (.bl i) (.bl j)=true:=by
  show (true&&true&&decide (min 1 1<=60))=true
  rfl
 show (if eqOk _ _=true then _ else _)=_
 rw [if_pos h]
 rfl
theorem tw {xs:List Dv}{i:Int}:dIx (.lst xs) (.int i)=atI xs i:=rfl
theorem tD {xs:List Dv}{i:Int}:dIx (.tup xs) (.int i)=atI xs i:=rfl
theorem tE {xs:List Int}{i:Int}:dIx (.scr xs) (.int i)=(atI xs i).map .int:=rfl
theorem eW {α:Type}{xs:List α}{i:Int}{x:α} (h0:0<=i) (h:xs[i.toNat]?=some x):atI xs i=some x:=by
 have e:((i.toNat:Nat):Int)=i:=Int.toNat_of_nonneg h0
 have:=o8 h
 rwa [e] at this
theorem ik {zs:List Int}{i:Int} (h0:0<=i) (h1:i<(zs.length:Int)):atI (zs.map Dv.int) i=some (.int (zs.getD i.toNat 0)):=by
 refine eW h0 ?_
 have hlt:i.toNat<zs.length:=by lia
 rw [List.getElem?_map,List.getElem?_eq_getElem hlt]
 simp [List.getD,hlt]
theorem cm: ∀(zs:List Int),imms (zs.map Dv.int)=true
 |[]=>rfl
 |z::r=>by rw [List.map_cons,imms,cm r];rfl
theorem dW:lim=100000:=(rfl)
theorem lenc {α:Type}{a:α}{l:List α}:(a::l).length=l.length+1:=(rfl)
theorem lenn {α:Type}:([]:List α).length=0:=(rfl)
theorem lf {i:Int}:Dv.imm (.int i)=true:=(rfl)
theorem tF {i:Bool}:Dv.imm (.bl i)=true:=(rfl)
theorem tG {i:Str}:Dv.imm (.str i)=true:=(rfl)
theorem tH:Dv.imm .non=true:=(rfl)
theorem lg {ds:List Dv}:Dv.imm (.tup ds)=imms ds:=(rfl)
theorem tI:imms []=true:=(rfl)
theorem fT {d:Dv}{ds:List Dv}:imms (d::ds)=(d.imm&&imms ds):=(rfl)
theorem fU: ∀{a b:List Dv},imms (a++b)=(imms a&&imms b)
 |[],b=>rfl
 |x::a,b=>by rw [List.cons_append,imms,imms,fU,Bool.and_assoc]
theorem tJ {ds:List Dv}:fLen [.lst ds]=some (.int ds.length):=rfl
theorem tK {ds:List Dv}:fLen [.tup ds]=some (.int ds.length):=rfl
theorem tL {ds:List Int}:fLen [.scr ds]=some (.int ds.length):=rfl
theorem tN {ds:List Dv} (h:imms ds=true):cX [.lst ds]=some (.tup ds):=by show (if _ then _ else _)=_;rw [if_pos h]
theorem tO {ds:List Dv} (h:imms ds=true):cX [.tup ds]=some (.tup ds):=by show (if _ then _ else _)=_;rw [if_pos h]
theorem tP {ds:List Dv} (h:imms ds=true):bH [.lst ds]=some (.lst ds):=by show (if _ then _ else _)=_;rw [if_pos h]
theorem tQ {ds:List Dv} (h:imms ds=true):bH [.tup ds]=some (.lst ds):=by show (if _ then _ else _)=_;rw [if_pos h]
theorem tR {ds:List Int}:bH [.scr ds]=some (.lst (ds.map .int)):=rfl
theorem tS {C:String}{m:EM}{δ:Dt}:eIsi C m δ=(match m δ with|some d=>if d.isScr=false then some (.bl (isiN (tyN d) C)) else none|none=>none):=by unfold eIsi;cases m δ<;>rfl
theorem fV {m:EM}{δ:Dt}{j:Int} (h:m δ=some (.int j)) (hl:0<=j/\j<=100000):iR1 m δ=some (aF 0 j.toNat):=by
 unfold iR1;rw [h]
 show (if _ then _ else _)=_
 rw [if_pos]
 have:(lim:Int)=100000:=rfl
 lia
theorem lh {α:Type} (xs:List α) (k:Nat) (h:k<=xs.length):cutD xs (some (k:Int)) none=xs.drop k:=by
 unfold cutD
 rw [HT.jI,HT.jH,Nat.min_eq_left h]
 exact List.take_of_length_le (by rw [List.length_drop];lia)
theorem lj {α:Type} (xs:List α) (k:Nat):cutD xs none (some (k:Int))=xs.take k:=by
 unfold cutD
 rw [HT.jH,HT.jI,List.drop_zero,Nat.sub_zero]
 by_cases h:k<=xs.length
 ·rw [Nat.min_eq_left h]
 ·rw [Nat.min_eq_right (by lia),List.take_of_length_le (Nat.le_refl _),List.take_of_length_le (by lia)]
theorem fW {α β:Type} (f:α->β) (xs:List α) (l h:Option Int):cutD (xs.map f) l h=(cutD xs l h).map f:=by
 unfold cutD
 rw [List.length_map,<-List.map_drop,<-List.map_take]
theorem eX {i j:Int} (h: -(2^63)<=i/\i<=2^63):bM i j=true:=by
 unfold bM
 rw [decide_eq_true (show i.natAbs<2^64 by lia)]
 rfl
theorem ln {i j:Int} (h: -(2^63)<=j/\j<=2^63):bM i j=true:=by
 unfold bM
 rw [decide_eq_true (show j.natAbs<2^64 by lia),Bool.or_true]
 rfl
theorem fX {g:Dv->Dt->Option Dt}{body:SM}: ∀{ds:List Dv}{δ:Dt} (I:Nat->Dt->Prop),I 0 δ->(∀i d δ,ds[i]?=some d->I i δ-> ∃δ1 δ2,g d δ=some δ1/\body δ1=some (.nx δ2)/\I (i+1) δ2)-> ∃δ',loopM g body ds δ=some (.nx δ')/\I ds.length δ'
 |[],δ,I,h0,_=>⟨δ,rfl,h0⟩
 |d::ds,δ,I,h0,st=>by
  obtain ⟨δ1,δ2,h1,h2,h3⟩:=st 0 d δ rfl h0
  obtain ⟨δ',e,h⟩:=fX (ds:=ds) (δ:=δ2) (fun i=>I (i+1)) h3 fun i d δ hd hi=>st (i+1) d δ (by simpa using hd) hi
  refine ⟨δ',?_,h⟩
  rw [loopM,h1]
  show Option.bind (body δ1) _=_
  rw [h2]
  exact e
noncomputable def celM (g:Dv->Dt->Option Dt) (c:Dt->Option Bool) (el:EM) (δ:Dt) (d:Dv):Option (Option Dv):=match g d δ with
 |none=>none
 |some δ1=>match c δ1 with
  |none=>none
  |some false=>some none
  |some true=>match el δ1 with
   |none=>none
   |some x=>if x.imm=true then some (some x) else none
theorem lq {α:Type}{g:Dv->Dt->Option Dt}{c:Dt->Option Bool}{el:EM}{δ:Dt} (enc:α->Dv) (f:α->Option Dv): ∀(xs:List α),(∀x,x∈xs->celM g c el δ (enc x)=some (f x))->ba g c el δ (xs.map enc)=some (xs.filterMap f)
 |[],_=>rfl
 |x::xs,h=>by
  have h0:=h x List.mem_cons_self
  have ih:=lq enc f xs fun y hy=>h y (List.mem_cons_of_mem _ hy)
  rw [List.map_cons,ba,List.filterMap_cons]
  unfold celM at h0
  cases e1:g (enc x) δ with
  |none=>rw [e1] at h0;cases h0
  |some δ1=>
   rw [e1] at h0
   simp only at h0
   rw [Option.bind_some]
   cases e2:c δ1 with
   |none=>rw [e2] at h0;cases h0
   |some b=>
    rw [e2] at h0
    rw [Option.bind_some]
    cases b with
    |false=>
     have e4:none=f x:=Option.some.inj h0
     rw [if_neg Bool.false_ne_true,ih,<-e4]
    |true=>
     simp only at h0
     rw [if_pos rfl]
     cases e3:el δ1 with
     |none=>rw [e3] at h0;cases h0
     |some y=>
      rw [e3] at h0
      simp only at h0
      rw [Option.bind_some]
      split at h0
      ·next hi=>
       have e4:=Option.some.inj h0
       rw [if_pos hi,ih,<-e4]
       rfl
      ·cases h0
noncomputable def cel3:Option Dv->Option (Option Dv)
 |some x=>if x.imm=true then some (some x) else none
 |none=>none
noncomputable def cel2 (b:Option Bool) (el:EM) (δ:Dt):Option (Option Dv):=match b with
 |some true=>cel3 (el δ)
 |some false=>some none
 |none=>none
noncomputable def celB (o:Option Dt) (c:Dt->Option Bool) (el:EM):Option (Option Dv):=match o with
 |some δ=>cel2 (c δ) el δ
 |none=>none
theorem tT {g:Dv->Dt->Option Dt}{c:Dt->Option Bool}{el:EM}{δ:Dt}{d:Dv}:celM g c el δ d=celB (g d δ) c el:=by
 unfold celM celB cel2 cel3
 cases g d δ with
 |none=>rfl
 |some δ1=>
  simp only
  cases c δ1 with
  |none=>rfl
  |some b=>cases b<;>first|rfl|(cases el δ1<;>rfl)
theorem tU {δ:Dt}{c:Dt->Option Bool}{el:EM}:celB (some δ) c el=cel2 (c δ) el δ:=rfl
theorem tV {δ:Dt}{el:EM}:cel2 (some true) el δ=cel3 (el δ):=rfl
theorem tW {δ:Dt}{el:EM}:cel2 (some false) el δ=some none:=rfl
theorem tX {x:Dv} (h:x.imm=true):cel3 (some x)=some (some x):=by show (if _ then _ else _)=_;rw [if_pos h]
theorem eY {lo:Int}{n:Nat}{d:Dv} (h:d∈aF lo n): ∃i:Nat,i<n/\d= .int (lo+(i:Int)):=by
 unfold aF at h
 obtain ⟨i,hi,e⟩:=List.mem_map.mp h
 exact ⟨i,List.mem_range.mp hi,e.symm⟩
theorem io {i j:Int} (h:0<=j/\j<=1000/\i.natAbs<2^2048):dPow (.int i) (.int j)=some (.int (i^j.toNat)):=by show (if 0<=j/\j<=1000/\i.natAbs<2^2048 then _ else _)=_;rw [if_pos h]
theorem fY {α:Type}{xs:List α}{i:Int} (h0:0<=i) (h1:i<(xs.length:Int)): ∃x,x∈xs/\atI xs i=some x:=by
 have hlt:i.toNat<xs.length:=by lia
 exact ⟨xs[i.toNat],List.getElem_mem hlt,eW h0 (by simp [hlt])⟩
noncomputable def lp2 (r:Option Fl) (g:Dv->Dt->Option Dt) (body:SM) (ds:List Dv):Option Fl:=match r with
 |some (.nx δ)=>loopM g body ds δ
 |some (.ct δ)=>loopM g body ds δ
 |some (.bk δ)=>some (.nx δ)
 |some (.rt d δ)=>some (.rt d δ)
 |none=>none
noncomputable def lp1 (o:Option Dt) (g:Dv->Dt->Option Dt) (body:SM) (ds:List Dv):Option Fl:=match o with
 |some δ=>lp2 (body δ) g body ds
 |none=>none
theorem tY {g:Dv->Dt->Option Dt}{body:SM}{d:Dv}{ds:List Dv}{δ:Dt}:loopM g body (d::ds) δ=lp1 (g d δ) g body ds:=by
 rw [loopM]
 cases g d δ with
 |none=>rfl
 |some δ1=>
  show Option.bind (body δ1) _=lp2 (body δ1) g body ds
  unfold lp2
  cases body δ1 with
  |none=>rfl
  |some r=>cases r<;>rfl
theorem tZ {g:Dv->Dt->Option Dt}{body:SM}{δ:Dt}:loopM g body [] δ=some (.nx δ):=rfl
theorem t3 {g:Dv->Dt->Option Dt}{body:SM}{ds:List Dv}{δ:Dt}:lp1 (some δ) g body ds=lp2 (body δ) g body ds:=rfl
theorem t4 {g:Dv->Dt->Option Dt}{body:SM}{ds:List Dv}{δ:Dt}:lp2 (some (.nx δ)) g body ds=loopM g body ds δ:=rfl
theorem t5 {g:Dv->Dt->Option Dt}{body:SM}{ds:List Dv}{δ:Dt}:lp2 (some (.ct δ)) g body ds=loopM g body ds δ:=rfl
theorem t6 {g:Dv->Dt->Option Dt}{body:SM}{ds:List Dv}{δ:Dt}:lp2 (some (.bk δ)) g body ds=some (.nx δ):=rfl
theorem t7 {g:Dv->Dt->Option Dt}{body:SM}{ds:List Dv}{d:Dv}{δ:Dt}:lp2 (some (.rt d δ)) g body ds=some (.rt d δ):=rfl
theorem gT_b {n:Nat}{g:List Dv->Dt->Option Dt}{ds:List Dv}{δ:Dt} (h:ds.length=n):gT n g (.tup ds) δ=g ds δ:=by
 show (if ds.length=n then _ else _)=_
 rw [if_pos h]
noncomputable def gcB (o:Option Dt) (r:List Dv->Dt->Option Dt) (ds:List Dv):Option Dt:=match o with
 |some δ=>r ds δ
 |none=>none
theorem gC_b {g:Dv->Dt->Option Dt}{r:List Dv->Dt->Option Dt}{d:Dv}{ds:List Dv}{δ:Dt}:gC g r (d::ds) δ=gcB (g d δ) r ds:=by
 show Option.bind (g d δ) (r ds)=_
 cases g d δ<;>rfl
theorem t8 {r:List Dv->Dt->Option Dt}{ds:List Dv}{δ:Dt}:gcB (some δ) r ds=r ds δ:=rfl
theorem gZ_b {δ:Dt}:gZ [] δ=some δ:=rfl
noncomputable def ilB:Option Dv->Option (List Dv)
 |some (.lst ds)=>if ds.length<=lim then some ds else none
 |some (.scr ns)=>if ns.length<=lim then some (ns.map .int) else none
 |_=>none
noncomputable def iliB:Option Dv->Option (List Dv)
 |some (.lst ds)=>if ds.length<=lim/\imms ds=true then some ds else none
 |_=>none
noncomputable def itB:Option Dv->Option (List Dv)
 |some (.tup ds)=>if ds.length<=lim then some ds else none
 |_=>none
noncomputable def itiB:Option Dv->Option (List Dv)
 |some (.tup ds)=>if ds.length<=lim/\imms ds=true then some ds else none
 |_=>none
theorem iL_b {m:EM}{δ:Dt}:iL m δ=ilB (m δ):=by
 unfold iL
 cases m δ with
 |none=>rfl
 |some x=>cases x<;>rfl
theorem t9 {m:EM}{δ:Dt}:iLI m δ=iliB (m δ):=by
 unfold iLI
 cases m δ with
 |none=>rfl
 |some x=>cases x<;>rfl
theorem iT_b {m:EM}{δ:Dt}:iT m δ=itB (m δ):=by
 unfold iT
 cases m δ with
 |none=>rfl
 |some x=>cases x<;>rfl
theorem uc {m:EM}{δ:Dt}:iTI m δ=itiB (m δ):=by
 unfold iTI
 cases m δ with
 |none=>rfl
 |some x=>cases x<;>rfl
theorem ud {ds:List Dv} (h:ds.length<=lim):ilB (some (.lst ds))=some ds:=by show (if _ then _ else _)=_;rw [if_pos h]
theorem ue {ds:List Int} (h:ds.length<=lim):ilB (some (.scr ds))=some (ds.map .int):=by show (if _ then _ else _)=_;rw [if_pos h]
theorem uf {ds:List Dv} (h:ds.length<=lim) (h':imms ds=true):iliB (some (.lst ds))=some ds:=by show (if ds.length<=lim/\imms ds=true then _ else _)=_;rw [if_pos ⟨h,h'⟩]
theorem ug {ds:List Dv} (h:ds.length<=lim):itB (some (.tup ds))=some ds:=by show (if _ then _ else _)=_;rw [if_pos h]
theorem uh {ds:List Dv} (h:ds.length<=lim) (h':imms ds=true):itiB (some (.tup ds))=some ds:=by show (if ds.length<=lim/\imms ds=true then _ else _)=_;rw [if_pos ⟨h,h'⟩]
end L2
set_option maxHeartbeats 4000000
namespace DhSort
open PySem PyProof.Rows
structure Wk where
 lt:Keyed->Keyed->Bool
 irr: ∀p,lt p p=false
 tra: ∀p q r,lt p q=true->lt q r=true->lt p r=true
 neg: ∀p q r,lt p r=true->lt p q=true \/lt q r=true
namespace Wk
variable {W:Wk}{p q r:Keyed}
noncomputable def le (W:Wk) (p q:Keyed):Prop:=W.lt q p=false
theorem bi:W.le p p:=W.irr p
theorem av (a:W.le p q) (b:W.le q r):W.le p r:=by
 unfold le at*
 cases h:W.lt r p with
 |false=>rfl
 |true=>
  rcases W.neg r q p h with z|z
  ·rw [b] at z;cases z
  ·rw [a] at z;cases z
theorem aC (a:W.lt p q=true):W.le p q:=by
 unfold le
 cases h:W.lt q p with
 |false=>rfl
 |true=>have:=W.tra _ _ _ a h;rw [W.irr] at this;cases this
theorem bJ (a:W.lt p q=true) (b:W.le q r):W.lt p r=true:=by
 rcases W.neg p r q a with z|z
 ·exact z
 ·unfold le at b;rw [b] at z;cases z
theorem bP (a:W.le p q) (b:W.lt q r=true):W.lt p r=true:=by
 rcases W.neg q p r b with z|z
 ·unfold le at a;rw [a] at z;cases z
 ·exact z
end Wk
noncomputable def kAt (xs:Array Keyed) (i:Nat):Keyed:=(xs[i]?).getD (Value.none,Value.none)
theorem eZ {xs:Array Keyed}{i:Nat} (h:i<xs.size):xs[i]?=some (kAt xs i):=by
 unfold kAt
 rw [getElem?_pos xs i h]
 rfl
theorem e6 {xs ys:Array Keyed}{i j:Nat} (h:xs[i]?=ys[j]?):kAt xs i=kAt ys j:=by unfold kAt;rw [h]
noncomputable def ao (W:Wk) (xs:Array Keyed) (lo hi:Nat):Prop:= ∀i j,lo<=i->i<=j->j<hi->W.le (kAt xs i) (kAt xs j)
structure Cmp (W:Wk) (kd:SortKind) (good:Keyed->Prop) (prog:Program) (w:World) (A:Around) (s:Shared):Prop where
 ok: ∀p q,good p->good q-> ∀(E:Value->Shared->Prop) (Q:Bool->Shared->Prop),Q (W.lt p q) s->wpAny (model prog w) A (keyLt' kd p.1 q.1) Q E s
structure Bs (a₀:Array Keyed) (kd:SortKind) (P:Array (Nat×Nat×Nat)) (st:SortSt):Prop where
 perm:(arrOf st).Perm a₀
 kind:kindOf st=kd
 failed:failedOf st=none
 pend:pendingOf st=P
section
variable {prog:Program}{w:World}{A:Around}{E:Value->Shared->Prop}{s:Shared}{W:Wk}{kd:SortKind}{good:Keyed->Prop}{a₀:Array Keyed}{P:Array (Nat×Nat×Nat)}{st:SortSt}
theorem Bs.sz (B:Bs a₀ kd P st):(arrOf st).size=a₀.size:=B.perm.size_eq
theorem Bs.gd (B:Bs a₀ kd P st) (hg: ∀p,p∈a₀.toList->good p) {i:Nat} (h:i<a₀.size):good (kAt (arrOf st) i):=by
 have h':i<(arrOf st).size:=by rw [B.sz];exact h
 apply hg
 have e:=eZ h'
 have hm:(arrOf st)[i]∈a₀.toList:=(Array.perm_iff_toList_perm.mp B.perm).mem_iff.mp (by simp)
 rw [getElem?_pos _ i h'] at e
 rw [<-Option.some.inj e]
 exact hm
theorem Bs.set (B:Bs a₀ kd P st) {xs:Array Keyed} (hp:xs.Perm (arrOf st)):Bs a₀ kd P (setArr st xs):=⟨hp.trans B.perm,B.kind,B.failed,B.pend⟩
theorem e7 (C:Cmp W kd good prog w A s) {p q:Keyed} (hk:kindOf st=kd) (hp:good p) (hq:good q) {Q:Option Bool->SortSt->Prop} (h:Q (some (W.lt p q)) st):wpS (model prog w) A E s (lt' p q) Q st:=by
 rw [lt'_eq]
 refine wpS_bind (wpS_get ?_)
 rw [hk]
 refine wpS_bind (wpS_lift (wpAny_attempt (C.ok p q hp hq _ _ ⟨rfl,?_⟩)))
 exact wpS_pure h
theorem ak {arr:Array Keyed}{i:Nat} (hi:i<arr.size) {Q:Keyed->SortSt->Prop} (h:Q (kAt arr i) st):wpS (model prog w) A E s (elem' arr i) Q st:=by
 rw [elem'_eq,eZ hi]
 exact wpS_pure h
theorem e8 (C:Cmp W kd good prog w A s) (hg: ∀p,p∈a₀.toList->good p) (B:Bs a₀ kd P st) {i j:Nat} (hi:i<a₀.size) (hj:j<a₀.size) {Q:Option Bool->SortSt->Prop}
  (h:Q (some (W.lt (kAt (arrOf st) i) (kAt (arrOf st) j))) st):wpS (model prog w) A E s (ltAt' i j) Q st:=by
 rw [ltAt'_eq]
 refine wpS_bind (wpS_get ?_)
 refine wpS_bind (ak (by rw [B.sz];exact hi) (wpS_bind (ak (by rw [B.sz];exact hj) ?_)))
 exact e7 C B.kind (B.gd hg hi) (B.gd hg hj) h
theorem ip {xs:Array Keyed}{src d:Nat} (hs:src<xs.size) (hd:d<=src) (k:Nat):
  kAt (bubble xs src d) k=if k=src-d then kAt xs src else if src-d<k/\k<=src then kAt xs (k-1) else kAt xs k:=by
 have e:=getElem?_bubble hs d hd k
 split
 ·next h=>rw [if_pos h] at e;exact e6 e
 ·next h=>
  rw [if_neg h] at e
  split
  ·next h'=>rw [if_pos h'] at e;exact e6 e
  ·next h'=>rw [if_neg h'] at e;exact e6 e
theorem ui (C:Cmp W kd good prog w A s) (hg: ∀p,p∈a₀.toList->good p) {lo n ok:Nat}{Q:Bool->SortSt->Prop} (hn:lo+n<=a₀.size) (hok:ok<=n) (B:Bs a₀ kd P st) (hs:ao W (arrOf st) lo (lo+ok))
  (h: ∀st',Bs a₀ kd P st'->ao W (arrOf st') lo (lo+n)->(∀i,i<lo->kAt (arrOf st') i=kAt (arrOf st) i)->Q true st'):wpS (model prog w) A E s (binarySort' lo n ok) Q st:=by
 rw [binarySort'_eq]
 refine wpS_bind (wpS_mono (wpS_forRange (I:=fun k c st'=>c=(none,())/\Bs a₀ kd P st'/\ao W (arrOf st') lo (lo+min k n)/\ ∀i,i<lo->kAt (arrOf st') i=kAt (arrOf st) i)
  (Q:=fun c st'=>c=(none,())/\Bs a₀ kd P st'/\ao W (arrOf st') lo (lo+n)/\ ∀i,i<lo->kAt (arrOf st') i=kAt (arrOf st) i) ?stp ?lst ?beg) ?aft)
 case aft=>
  rintro c st' ⟨rfl,B',hs',hf⟩
  exact wpS_pure (h st' B' hs' hf)
 case beg=>
  refine ⟨rfl,B,fun i j h1 h2 h3=> ?_,fun _ _=>rfl⟩
  by_cases h0:i=j
  ·subst h0;exact Wk.bi
  ·exact hs i j h1 h2 (by lia)
 case lst=>
  rintro c st' ⟨hc,B',hs',hf⟩
  refine ⟨hc,B',?_,hf⟩
  rwa [show min (max (max ok 1) n) n=n by lia] at hs'
 case stp=>
  rintro k c st' h1 h2 ⟨rfl,B',hs',hf⟩
  rw [show min k n=k by lia] at hs'
  have hk:lo+k<a₀.size:=by lia
  refine wpS_bind (wpS_mono (wpS_forRange (I:=fun x c st2=>st2=st'/\ ∃l r,c=(none,l,r)/\l<=r/\r<=k/\r-l<=k-x/\
    (∀i,i<l->W.le (kAt (arrOf st') (lo+i)) (kAt (arrOf st') (lo+k)))/\(∀i,r<=i->i<k->W.lt (kAt (arrOf st') (lo+k)) (kAt (arrOf st') (lo+i))=true))
   (Q:=fun c st2=>st2=st'/\ ∃l r,c=(none,l,r)/\l<=k/\
    (∀i,i<l->W.le (kAt (arrOf st') (lo+i)) (kAt (arrOf st') (lo+k)))/\(∀i,l<=i->i<k->W.lt (kAt (arrOf st') (lo+k)) (kAt (arrOf st') (lo+i))=true)) ?a ?b ?c) ?d)
  case c=>exact ⟨rfl,0,k,rfl,by lia,by lia,by lia,fun i hi=>by lia,fun i h1 h2=>by lia⟩
  case b=>
   rintro c st2 ⟨rfl,l,r,rfl,q1,q2,q3,q4,q5⟩
   obtain rfl:l=r:=by lia
   exact ⟨rfl,l,l,rfl,q2,q4,q5⟩
  case a=>
   rintro x c st2 _ hx ⟨rfl,l,r,rfl,q1,q2,q3,q4,q5⟩
   dsimp only
   by_cases hge:l>=r
   ·rw [if_pos hge]
    obtain rfl:l=r:=by lia
    exact wpS_pure ⟨rfl,l,l,rfl,q2,q4,q5⟩
   ·rw [if_neg hge]
    refine wpS_bind (e8 C hg B' hk (by lia) ?_)
    cases hl:W.lt (kAt (arrOf st2) (lo+k)) (kAt (arrOf st2) (lo+(l+r)/2)) with
    |true=>
     simp only [if_true]
     refine wpS_pure ⟨rfl,l,(l+r)/2,rfl,by lia,by lia,by lia,q4,fun i z1 z2=> ?_⟩
     exact Wk.bJ hl (hs' _ _ (by lia) (by lia) (by lia))
    |false=>
     simp only [Bool.false_eq_true,if_false]
     refine wpS_pure ⟨rfl,(l+r)/2+1,r,rfl,by lia,by lia,by lia,fun i z1=> ?_,q5⟩
     exact Wk.av (hs' (lo+i) (lo+(l+r)/2) (by lia) (by lia) (by lia)) hl
  case d=>
   rintro c st2 ⟨rfl,l,r,rfl,q2,q4,q5⟩
   show wpS _ _ _ _ (do moveDown' (lo+k) (lo+l);pure (ForInStep.yield (none,()))) _ _
   rw [moveDown'_eq]
   have hks:lo+k<(arrOf st2).size:=by rw [B'.sz];exact hk
   refine wpS_bind (wpS_modify (wpS_pure ⟨rfl,B'.set (bubble_perm _ _ _),?_,?_⟩))
   ·rw [show min (k+1) n=k+1 by lia]
    intro i j z1 z2 z3
    show W.le (kAt (bubble (arrOf st2) (lo+k) (lo+k-(lo+l))) i) (kAt (bubble (arrOf st2) (lo+k) (lo+k-(lo+l))) j)
    rw [ip hks (by lia),ip hks (by lia),show lo+k-(lo+k-(lo+l))=lo+l by lia]
    have g4: ∀i,lo<=i->i<lo+l->W.le (kAt (arrOf st2) i) (kAt (arrOf st2) (lo+k)):=fun i y1 y2=>by
     have:=q4 (i-lo) (by lia)
     rwa [show lo+(i-lo)=i by lia] at this
    have g5: ∀i,lo+l<=i->i<lo+k->W.le (kAt (arrOf st2) (lo+k)) (kAt (arrOf st2) i):=fun i y1 y2=>by
     have:=q5 (i-lo) (by lia) (by lia)
     rw [show lo+(i-lo)=i by lia] at this
     exact Wk.aC this
    repeat' split
    all_goals first
     |(exfalso;lia)
     |exact Wk.bi
     |exact g4 _ (by lia) (by lia)
     |exact g5 _ (by lia) (by lia)
     |exact hs' _ _ (by lia) (by lia) (by lia)
   ·intro i hi
    show kAt (bubble (arrOf st2) (lo+k) (lo+k-(lo+l))) i=_
    rw [ip hks (by lia),if_neg (by lia),if_neg (by lia)]
    exact hf i hi
end
end DhSort
set_option maxHeartbeats 4000000
namespace DhSort
open PySem PyProof.Rows
section
variable {prog:Program}{w:World}{A:Around}{E:Value->Shared->Prop}{s:Shared}{W:Wk}{kd:SortKind}{good:Keyed->Prop}{a₀:Array Keyed}{P:Array (Nat×Nat×Nat)}{st:SortSt}
noncomputable def bQ (W:Wk) (xs:Array Keyed) (lo hi:Nat):Prop:= ∀i j,lo<=i->i<=j->j<hi->W.le (kAt xs j) (kAt xs i)
theorem bR {xs:Array Keyed}{i j:Nat} (hj:j<=xs.size) (k:Nat):kAt (mirror xs i j ((j-i)/2)) k=if i<=k/\k<j then kAt xs (i+j-1-k) else kAt xs k:=by
 have e:=getElem?_mirror_all (i:=i) hj k
 split
 ·next h=>rw [if_pos h] at e;exact e6 e
 ·next h=>rw [if_neg h] at e;exact e6 e
theorem e9 (C:Cmp W kd good prog w A s) (hg: ∀p,p∈a₀.toList->good p) {lo a nrem:Nat} (hn:lo+nrem<=a₀.size) (h1:1<=a) (h2:a<=nrem) (B:Bs a₀ kd P st) (hs:ao W (arrOf st) lo (lo+a))
  {Q:Option (Option Nat)×Nat->SortSt->Prop} (h: ∀m,a<=m->m<=nrem->ao W (arrOf st) lo (lo+m)->(m=nrem \/W.lt (kAt (arrOf st) (lo+m)) (kAt (arrOf st) (lo+m-1))=true)->Q (none,m) st):
  wpS (model prog w) A E s (forIn [a:nrem] ((none,a):Option (Option Nat)×Nat) fun _ c=>do
   let x<-ltAt' (lo+c.snd) (lo+c.snd-1)
   match x with
   |some b=>if b=true then pure (ForInStep.done (none,c.snd)) else pure (ForInStep.yield (none,c.snd+1))
   |_=>pure (ForInStep.done (some none,c.snd))) Q st:=by
 refine wpS_mono (wpS_forRange (I:=fun x c st'=>st'=st/\c=(none,x)/\a<=x/\x<=nrem/\ao W (arrOf st) lo (lo+x))
  (Q:=fun c st'=>st'=st/\ ∃m,c=(none,m)/\a<=m/\m<=nrem/\ao W (arrOf st) lo (lo+m)/\(m=nrem \/W.lt (kAt (arrOf st) (lo+m)) (kAt (arrOf st) (lo+m-1))=true)) ?_ ?_ ⟨rfl,rfl,Nat.le_refl _,h2,hs⟩) ?_
 ·rintro x c st' hx1 hx2 ⟨rfl,rfl,q1,q2,q3⟩
  refine wpS_bind (e8 C hg B (by lia) (by lia) ?_)
  cases hl:W.lt (kAt (arrOf st') (lo+x)) (kAt (arrOf st') (lo+x-1)) with
  |true=>
   dsimp only
   rw [if_pos rfl]
   exact wpS_pure ⟨rfl,x,rfl,q1,q2,q3,.inr hl⟩
  |false=>
   dsimp only
   rw [if_neg Bool.false_ne_true]
   refine wpS_pure ⟨rfl,rfl,by lia,by lia,fun i j z1 z2 z3=> ?_⟩
   by_cases hj:j<lo+x
   ·exact q3 i j z1 z2 hj
   ·obtain rfl:j=lo+x:=by lia
    by_cases hi:i=lo+x
    ·rw [hi];exact Wk.bi
    ·exact Wk.av (q3 i (lo+x-1) z1 (by lia) (by lia)) hl
 ·rintro c st' ⟨rfl,rfl,q1,q2,q3⟩
  rw [show max a nrem=nrem by lia] at*
  exact ⟨rfl,nrem,rfl,q1,q2,q3,.inl rfl⟩
 ·rintro c st' ⟨rfl,m,rfl,q1,q2,q3,q4⟩
  exact h m q1 q2 q3 q4
noncomputable def Sim (W:Wk) (xs ys:Array Keyed):Prop:= ∀k,W.le (kAt xs k) (kAt ys k)/\W.le (kAt ys k) (kAt xs k)
theorem fZ {xs:Array Keyed}{i j:Nat} (hj:j<=xs.size) (h: ∀k l,i<=k->k<j->i<=l->l<j->W.le (kAt xs k) (kAt xs l)):Sim W xs (mirror xs i j ((j-i)/2)):=by
 intro k
 rw [bR hj]
 split
 ·next q=>exact ⟨h _ _ q.1 q.2 (by lia) (by lia),h _ _ (by lia) (by lia) q.1 q.2⟩
 ·exact ⟨Wk.bi,Wk.bi⟩
theorem bQ.sim {xs ys:Array Keyed}{lo hi:Nat} (n:bQ W xs lo hi) (m:Sim W xs ys):bQ W ys lo hi:=fun i j z1 z2 z3=>Wk.av (m j).2 (Wk.av (n i j z1 z2 z3) (m i).1)
theorem cY {i j:Nat}{Q:Unit->SortSt->Prop} (h:Q () (setArr st (mirror (arrOf st) i j ((j-i)/2)))):wpS (model prog w) A E s (reverseSlice' i j) Q st:=by
 rw [reverseSlice'_eq]
 exact wpS_modify h
theorem gc {xs:Array Keyed}{lo n:Nat} (hsz:lo+n<=xs.size) (hd:bQ W xs lo (lo+n)):ao W (mirror xs lo (lo+n) ((lo+n-lo)/2)) lo (lo+n):=fun i j z1 z2 z3=>by
 rw [bR hsz,bR hsz,if_pos ⟨z1,by lia⟩,if_pos ⟨by lia,z3⟩]
 exact hd _ _ (by lia) (by lia) (by lia)
theorem lr (C:Cmp W kd good prog w A s) (hg: ∀p,p∈a₀.toList->good p) {lo m nrem:Nat} (hn:lo+nrem<=a₀.size) (h1:1<=m) (h2:m+1<=nrem) (B:Bs a₀ kd P st) (hd:bQ W (arrOf st) lo (lo+(m+1)))
  {Q:Option (Option Nat)×Nat×Nat->SortSt->Prop} (h: ∀x e st',e+1<=x->m+1<=x->x<=nrem->Bs a₀ kd P st'->bQ W (arrOf st') lo (lo+x)->
   (∀i j,lo+x-(e+1)<=i->i<lo+x->lo+x-(e+1)<=j->j<lo+x->W.le (kAt (arrOf st') i) (kAt (arrOf st') j))->(∀i,i<lo->kAt (arrOf st') i=kAt (arrOf st) i)->Q (none,x,e) st'):
  wpS (model prog w) A E s (forIn [m+1:nrem] ((none,m+1,0):Option (Option Nat)×Nat×Nat) fun _ c=>do
    let x<-ltAt' (lo+c.snd.fst) (lo+c.snd.fst-1)
    match x with
    |some b=>
     if b=true then
      if c.snd.snd>0 then do
       reverseSlice' (lo+c.snd.fst-(c.snd.snd+1)) (lo+c.snd.fst)
       pure (ForInStep.yield (none,c.snd.fst+1,0))
      else pure (ForInStep.yield (none,c.snd.fst+1,0))
     else do
      let x<-ltAt' (lo+c.snd.fst-1) (lo+c.snd.fst)
      match x with
      |some b=>if b=true then pure (ForInStep.done (none,c.snd.fst,c.snd.snd)) else pure (ForInStep.yield (none,c.snd.fst+1,c.snd.snd+1))
      |_=>pure (ForInStep.done (some none,c.snd.fst,c.snd.snd))
    |_=>pure (ForInStep.done (some none,c.snd.fst,c.snd.snd))) Q st:=by
 have blk: ∀{st':SortSt}{x e:Nat},x<=nrem->Bs a₀ kd P st'->(∀i j,lo+x-(e+1)<=i->i<lo+x->lo+x-(e+1)<=j->j<lo+x->W.le (kAt (arrOf st') i) (kAt (arrOf st') j))->
   Sim W (arrOf st') (mirror (arrOf st') (lo+x-(e+1)) (lo+x) ((lo+x-(lo+x-(e+1)))/2)):=fun {st' x e} hx B' hb=>
  fZ (by rw [B'.sz];lia) fun k l z1 z2 z3 z4=>hb k l z1 z2 z3 z4
 have far: ∀{st':SortSt}{x e i:Nat},x<=nrem->e+1<=x->Bs a₀ kd P st'->i<lo \/lo+x<=i->kAt (mirror (arrOf st') (lo+x-(e+1)) (lo+x) ((lo+x-(lo+x-(e+1)))/2)) i=kAt (arrOf st') i:=fun {st' x e i} hx he B' hi=>by
  rw [bR (by rw [B'.sz];lia),if_neg (by lia)]
 refine wpS_mono (wpS_forRange (I:=fun x c st'=> ∃e,c=(none,x,e)/\e+1<=x/\m+1<=x/\x<=nrem/\Bs a₀ kd P st'/\bQ W (arrOf st') lo (lo+x)/\
   (∀i j,lo+x-(e+1)<=i->i<lo+x->lo+x-(e+1)<=j->j<lo+x->W.le (kAt (arrOf st') i) (kAt (arrOf st') j))/\ ∀i,i<lo->kAt (arrOf st') i=kAt (arrOf st) i)
  (Q:=fun c st'=> ∃x e,c=(none,x,e)/\e+1<=x/\m+1<=x/\x<=nrem/\Bs a₀ kd P st'/\bQ W (arrOf st') lo (lo+x)/\
   (∀i j,lo+x-(e+1)<=i->i<lo+x->lo+x-(e+1)<=j->j<lo+x->W.le (kAt (arrOf st') i) (kAt (arrOf st') j))/\ ∀i,i<lo->kAt (arrOf st') i=kAt (arrOf st) i)
  ?stp ?lst ?beg) ?aft
 case beg=>
  refine ⟨0,rfl,by lia,Nat.le_refl _,h2,B,hd,fun i j z1 z2 z3 z4=> ?_,fun _ _=>rfl⟩
  obtain rfl:i=j:=by lia
  exact Wk.bi
 case lst=>
  rintro c st' ⟨e,rfl,q⟩
  exact ⟨_,e,rfl,q⟩
 case stp=>
  rintro x c st' y1 y2 ⟨e,rfl,q1,q2,q3,B',q5,q6,q7⟩
  dsimp only
  refine wpS_bind (e8 C hg B' (by lia) (by lia) ?_)
  cases hl:W.lt (kAt (arrOf st') (lo+x)) (kAt (arrOf st') (lo+x-1)) with
  |true=>
   dsimp only
   rw [if_pos rfl]
   have ext: ∀{ys:Array Keyed},Sim W (arrOf st') ys->bQ W ys lo (lo+(x+1)):=fun {ys} sm i j z1 z2 z3=>by
    by_cases hj:j<lo+x
    ·exact (q5.sim sm) i j z1 z2 hj
    ·obtain rfl:j=lo+x:=by lia
     by_cases hi:i=lo+x
     ·rw [hi];exact Wk.bi
     ·exact Wk.av (sm _).2 (Wk.av (Wk.aC hl) (Wk.av (q5 i (lo+x-1) z1 (by lia) (by lia)) (sm i).1))
   have one: ∀{ys:Array Keyed} (i j:Nat),lo+(x+1)-(0+1)<=i->i<lo+(x+1)->lo+(x+1)-(0+1)<=j->j<lo+(x+1)->W.le (kAt ys i) (kAt ys j):=fun i j z1 z2 z3 z4=>by
    obtain rfl:i=j:=by lia
    exact Wk.bi
   by_cases he:e>0
   ·rw [if_pos he]
    refine wpS_bind (cY (wpS_pure ⟨0,rfl,by lia,by lia,by lia,B'.set (mirror_perm _ _ _ _),ext (blk q3 B' q6),one,fun i hi=> ?_⟩))
    exact (far q3 q1 B' (.inl hi)).trans (q7 i hi)
   ·rw [if_neg he]
    exact wpS_pure ⟨0,rfl,by lia,by lia,by lia,B',ext fun _=>⟨Wk.bi,Wk.bi⟩,one,q7⟩
  |false=>
   dsimp only
   rw [if_neg Bool.false_ne_true]
   refine wpS_bind (e8 C hg B' (by lia) (by lia) ?_)
   cases hl2:W.lt (kAt (arrOf st') (lo+x-1)) (kAt (arrOf st') (lo+x)) with
   |true=>
    dsimp only
    rw [if_pos rfl]
    exact wpS_pure ⟨x,e,rfl,q1,q2,q3,B',q5,q6,q7⟩
   |false=>
    dsimp only
    rw [if_neg Bool.false_ne_true]
    refine wpS_pure ⟨e+1,rfl,by lia,by lia,by lia,B',fun i j z1 z2 z3=> ?_,fun i j z1 z2 z3 z4=> ?_,q7⟩
    ·by_cases hj:j<lo+x
     ·exact q5 i j z1 z2 hj
     ·obtain rfl:j=lo+x:=by lia
      by_cases hi:i=lo+x
      ·rw [hi];exact Wk.bi
      ·exact Wk.av hl2 (q5 i (lo+x-1) z1 (by lia) (by lia))
    ·by_cases hi:i=lo+x
     ·by_cases hj:j=lo+x
      ·rw [hi,hj];exact Wk.bi
      ·rw [hi];exact Wk.av hl2 (q6 (lo+x-1) j (by lia) (by lia) (by lia) (by lia))
     ·by_cases hj:j=lo+x
      ·rw [hj];exact Wk.av (q6 i (lo+x-1) (by lia) (by lia) (by lia) (by lia)) hl
      ·exact q6 i j (by lia) (by lia) (by lia) (by lia)
 case aft=>
  rintro c st' ⟨x,e,rfl,q1,q2,q3,B',q5,q6,q7⟩
  exact h x e st' q1 q2 q3 B' q5 q6 q7
theorem uj (C:Cmp W kd good prog w A s) (hg: ∀p,p∈a₀.toList->good p) {lo nrem:Nat} (hn:lo+nrem<=a₀.size) (h1:1<=nrem) (B:Bs a₀ kd P st)
  {Q:Option Nat->SortSt->Prop} (h: ∀m st',1<=m->m<=nrem->Bs a₀ kd P st'->ao W (arrOf st') lo (lo+m)->(∀i,i<lo->kAt (arrOf st') i=kAt (arrOf st) i)->Q (some m) st'):
  wpS (model prog w) A E s (countRun' lo nrem) Q st:=by
 rw [countRun'_eq]
 refine wpS_bind (e9 C hg hn (Nat.le_refl 1) h1 B (fun i j z1 z2 z3=> ?_) fun m q1 q2 q3 q4=> ?_)
 ·obtain rfl:i=j:=by lia
  exact Wk.bi
 dsimp only
 by_cases he:m=nrem
 ·rw [if_pos (by simpa using he)]
  exact wpS_pure (h m st q1 q2 B q3 fun _ _=>rfl)
 ·rw [if_neg (by simpa using he)]
  have hl:W.lt (kAt (arrOf st) (lo+m)) (kAt (arrOf st) (lo+m-1))=true:=q4.resolve_left he
  have hsz:lo+m<=(arrOf st).size:=by rw [B.sz];lia
  by_cases hm:m>1
  ·rw [if_pos hm]
   refine wpS_bind (e8 C hg B (by lia) (by lia) ?_)
   cases hr:W.lt (kAt (arrOf st) lo) (kAt (arrOf st) (lo+m-1)) with
   |true=>
    dsimp only
    rw [if_pos rfl]
    exact wpS_pure (h m st q1 q2 B q3 fun _ _=>rfl)
   |false=>
    dsimp only
    rw [if_neg Bool.false_ne_true]
    refine wpS_bind (cY ?_)
    have eq: ∀k l,lo<=k->k<lo+m->lo<=l->l<lo+m->W.le (kAt (arrOf st) k) (kAt (arrOf st) l):=fun k l z1 z2 z3 z4=>
     Wk.av (q3 k (lo+m-1) z1 (by lia) (by lia)) (Wk.av hr (q3 lo l (Nat.le_refl _) z3 z4))
    have sm:=fZ (W:=W) (i:=lo) hsz eq
    have B1:=B.set (mirror_perm (arrOf st) lo (lo+m) ((lo+m-lo)/2))
    have fr: ∀i,i<lo->kAt (mirror (arrOf st) lo (lo+m) ((lo+m-lo)/2)) i=kAt (arrOf st) i:=fun i hi=>by rw [bR hsz,if_neg (by lia)]
    have hd:bQ W (mirror (arrOf st) lo (lo+m) ((lo+m-lo)/2)) lo (lo+(m+1)):=fun i j z1 z2 z3=>by
     refine Wk.av (sm j).2 (Wk.av ?_ (sm i).1)
     by_cases hj:j<lo+m
     ·exact eq j i (by lia) hj z1 (by lia)
     ·obtain rfl:j=lo+m:=by lia
      by_cases hi:i=lo+m
      ·rw [hi];exact Wk.bi
      ·exact Wk.av (Wk.aC hl) (eq _ _ (by lia) (by lia) z1 (by lia))
    refine wpS_bind (wpS_lift (wpAny_rule ⟨rfl,?_⟩))
    refine wpS_bind (lr C hg hn q1 (by lia) B1 hd fun x e st' r1 r2 r3 B' r5 r6 r7=> ?_)
    dsimp only
    have hx:lo+x<=(arrOf st').size:=by rw [B'.sz];lia
    by_cases he:e>0
    ·rw [if_pos he]
     refine wpS_bind (cY (wpS_bind (cY ?_)))
     have sm:Sim W (arrOf st') (mirror (arrOf st') (lo+x-(e+1)) (lo+x) ((lo+x-(lo+x-(e+1)))/2)):=fZ hx fun k l z1 z2 z3 z4=>r6 k l z1 z2 z3 z4
     have nu:=r5.sim sm
     have hx2:lo+x<=(mirror (arrOf st') (lo+x-(e+1)) (lo+x) ((lo+x-(lo+x-(e+1)))/2)).size:=by rw [mirror_size];exact hx
     have B2:=(B'.set (mirror_perm (arrOf st') (lo+x-(e+1)) (lo+x) ((lo+x-(lo+x-(e+1)))/2))).set (mirror_perm _ lo (lo+x) ((lo+x-lo)/2))
     refine wpS_bind (e9 C hg hn (by lia) r3 B2 (gc hx2 nu) fun m2 u1 u2 u3 u4=>wpS_pure (h m2 _ (by lia) u2 B2 u3 fun i hi=> ?_))
     have e1:kAt (mirror (mirror (arrOf st') (lo+x-(e+1)) (lo+x) ((lo+x-(lo+x-(e+1)))/2)) lo (lo+x) ((lo+x-lo)/2)) i=kAt (arrOf st') i:=by
      rw [bR hx2,if_neg (by lia),bR hx,if_neg (by lia)]
     exact e1.trans ((r7 i hi).trans (fr i hi))
    ·rw [if_neg he]
     refine wpS_bind (cY ?_)
     have B2:=B'.set (mirror_perm (arrOf st') lo (lo+x) ((lo+x-lo)/2))
     refine wpS_bind (e9 C hg hn (by lia) r3 B2 (gc hx r5) fun m2 u1 u2 u3 u4=>wpS_pure (h m2 _ (by lia) u2 B2 u3 fun i hi=> ?_))
     have e1:kAt (mirror (arrOf st') lo (lo+x) ((lo+x-lo)/2)) i=kAt (arrOf st') i:=by
      rw [bR hx,if_neg (by lia)]
     exact e1.trans ((r7 i hi).trans (fr i hi))
  ·rw [if_neg hm]
   obtain rfl:m=1:=by lia
   have B1:=B
   have fr: ∀i,i<lo->kAt (arrOf st) i=kAt (arrOf st) i:=fun _ _=>rfl
   have hd:bQ W (arrOf st) lo (lo+(1+1)):=fun i j z1 z2 z3=>by
    by_cases hij:i=j
    ·subst hij;exact Wk.bi
    ·obtain rfl:i=lo:=by lia
     obtain rfl:j=i+1:=by lia
     exact Wk.aC hl
   refine wpS_bind (wpS_lift (wpAny_rule ⟨rfl,?_⟩))
   refine wpS_bind (lr C hg hn q1 (by lia) B1 hd fun x e st' r1 r2 r3 B' r5 r6 r7=> ?_)
   dsimp only
   have hx:lo+x<=(arrOf st').size:=by rw [B'.sz];lia
   by_cases he:e>0
   ·rw [if_pos he]
    refine wpS_bind (cY (wpS_bind (cY ?_)))
    have sm:Sim W (arrOf st') (mirror (arrOf st') (lo+x-(e+1)) (lo+x) ((lo+x-(lo+x-(e+1)))/2)):=fZ hx fun k l z1 z2 z3 z4=>r6 k l z1 z2 z3 z4
    have nu:=r5.sim sm
    have hx2:lo+x<=(mirror (arrOf st') (lo+x-(e+1)) (lo+x) ((lo+x-(lo+x-(e+1)))/2)).size:=by rw [mirror_size];exact hx
    have B2:=(B'.set (mirror_perm (arrOf st') (lo+x-(e+1)) (lo+x) ((lo+x-(lo+x-(e+1)))/2))).set (mirror_perm _ lo (lo+x) ((lo+x-lo)/2))
    refine wpS_bind (e9 C hg hn (by lia) r3 B2 (gc hx2 nu) fun m2 u1 u2 u3 u4=>wpS_pure (h m2 _ (by lia) u2 B2 u3 fun i hi=> ?_))
    have e1:kAt (mirror (mirror (arrOf st') (lo+x-(e+1)) (lo+x) ((lo+x-(lo+x-(e+1)))/2)) lo (lo+x) ((lo+x-lo)/2)) i=kAt (arrOf st') i:=by
     rw [bR hx2,if_neg (by lia),bR hx,if_neg (by lia)]
    exact e1.trans ((r7 i hi).trans (fr i hi))
   ·rw [if_neg he]
    refine wpS_bind (cY ?_)
    have B2:=B'.set (mirror_perm (arrOf st') lo (lo+x) ((lo+x-lo)/2))
    refine wpS_bind (e9 C hg hn (by lia) r3 B2 (gc hx r5) fun m2 u1 u2 u3 u4=>wpS_pure (h m2 _ (by lia) u2 B2 u3 fun i hi=> ?_))
    have e1:kAt (mirror (arrOf st') lo (lo+x) ((lo+x-lo)/2)) i=kAt (arrOf st') i:=by
     rw [bR hx,if_neg (by lia)]
    exact e1.trans ((r7 i hi).trans (fr i hi))
end
end DhSort
set_option maxHeartbeats 4000000
namespace DhSort
open PySem PyProof.Rows
noncomputable def gal:Bool->Keyed->Array Keyed->Nat->Nat->Nat->StateT SortSt Sem (Option Nat):=sortPriv%PySem.Builtin.gallop
noncomputable def byd (l:Bool) (key:Keyed) (arr:Array Keyed) (base i:Nat):StateT SortSt Sem (Option Bool):=do
 let x<-elem' arr (base+i)
 if l then lt' x key else return (<-lt' key x).map (!·)
theorem uk (l:Bool) (key:Keyed) (arr:Array Keyed) (base n h0:Nat):gal l key arr base n h0=(do
 let mut u:=0
 let mut v:=1
 let mut a:=0
 let mut b:=0
 let some rt<-byd l key arr base h0|return none
 if rt then
  let mx:=n-h0
  for _ in [0:n] do
   if v>=mx then break
   let some mo<-byd l key arr base (h0+v)|return none
   if !mo then break
   u:=v
   v:=2*v+1
  a:=h0+u+1
  b:=h0+min v mx
 else
  let mx:=h0+1
  for _ in [0:n] do
   if v>=mx then break
   let some fd<-byd l key arr base (h0-v)|return none
   if fd then break
   u:=v
   v:=2*v+1
  a:=h0+1-min v mx
  b:=h0-u
 for _ in [0:n] do
  if a>=b then break
  let mid:=a+(b-a)/2
  let some mo<-byd l key arr base mid|return none
  if mo then a:=mid+1 else b:=mid
 return some b):=rfl
section
variable {prog:Program}{w:World}{A:Around}{E:Value->Shared->Prop}{s:Shared}{W:Wk}{kd:SortKind}{good:Keyed->Prop}{st:SortSt}
noncomputable def bey (W:Wk) (l:Bool) (key:Keyed) (arr:Array Keyed) (base i:Nat):Bool:=if l then W.lt (kAt arr (base+i)) key else !W.lt key (kAt arr (base+i))
theorem gf (C:Cmp W kd good prog w A s) (hk:kindOf st=kd) {l:Bool}{key:Keyed}{arr:Array Keyed}{base i:Nat} (hi:base+i<arr.size) (g1:good key) (g2:good (kAt arr (base+i))) {Q:Option Bool->SortSt->Prop} (h:Q (some (bey W l key arr base i)) st):
  wpS (model prog w) A E s (byd l key arr base i) Q st:=by
 unfold byd
 refine wpS_bind (ak hi ?_)
 unfold bey at h
 cases l with
 |true=>rw [if_pos rfl] at h|-;exact e7 C hk g2 g1 h
 |false=>
  rw [if_neg Bool.false_ne_true] at h|-
  exact wpS_bind (e7 C hk g1 g2 (wpS_pure h))
theorem ls (C:Cmp W kd good prog w A s) (hk:kindOf st=kd) {l:Bool}{key:Keyed}{arr:Array Keyed}{base n a b:Nat} (hn:base+n<=arr.size) (g1:good key) (g2: ∀i,i<n->good (kAt arr (base+i)))
  (mono: ∀i j,i<=j->j<n->bey W l key arr base j=true->bey W l key arr base i=true) (hab:a<=b) (hbn:b<=n) (lo: ∀i,i<a->bey W l key arr base i=true) (hi: ∀i,b<=i->i<n->bey W l key arr base i=false)
  {Q:Option (Option Nat)×Nat×Nat->SortSt->Prop}
  (h: ∀k,k<=n->(∀i,i<k->bey W l key arr base i=true)->(∀i,k<=i->i<n->bey W l key arr base i=false)->Q (none,k,k) st):
  wpS (model prog w) A E s (forIn [0:n] ((none,a,b):Option (Option Nat)×Nat×Nat) fun _ c=>
   if c.snd.fst>=c.snd.snd then pure (ForInStep.done (none,c.snd.fst,c.snd.snd))
   else do
    let x<-byd l key arr base (c.snd.fst+(c.snd.snd-c.snd.fst)/2)
    match x with
    |some m=>if m=true then pure (ForInStep.yield (none,c.snd.fst+(c.snd.snd-c.snd.fst)/2+1,c.snd.snd)) else pure (ForInStep.yield (none,c.snd.fst,c.snd.fst+(c.snd.snd-c.snd.fst)/2))
    |_=>pure (ForInStep.done (some none,c.snd.fst,c.snd.snd))) Q st:=by
 refine wpS_mono (wpS_forRange (I:=fun x c st'=>st'=st/\ ∃a b,c=(none,a,b)/\a<=b/\b<=n/\b-a<=n-x/\(∀i,i<a->bey W l key arr base i=true)/\(∀i,b<=i->i<n->bey W l key arr base i=false))
  (Q:=fun c st'=>st'=st/\ ∃k,c=(none,k,k)/\k<=n/\(∀i,i<k->bey W l key arr base i=true)/\(∀i,k<=i->i<n->bey W l key arr base i=false)) ?_ ?_ ⟨rfl,a,b,rfl,hab,hbn,by lia,lo,hi⟩) ?_
 ·rintro x c st' hx1 hx2 ⟨rfl,a,b,rfl,q1,q2,q3,q4,q5⟩
  dsimp only
  by_cases hge:a>=b
  ·rw [if_pos hge]
   obtain rfl:a=b:=by lia
   exact wpS_pure ⟨rfl,a,rfl,q2,q4,q5⟩
  ·rw [if_neg hge]
   refine wpS_bind (gf C hk (by lia) g1 (g2 _ (by lia)) ?_)
   cases hb:bey W l key arr base (a+(b-a)/2) with
   |true=>
    dsimp only
    rw [if_pos rfl]
    exact wpS_pure ⟨rfl,_,_,rfl,by lia,by lia,by lia,fun i z=>mono i (a+(b-a)/2) (by lia) (by lia) hb,q5⟩
   |false=>
    dsimp only
    rw [if_neg Bool.false_ne_true]
    refine wpS_pure ⟨rfl,_,_,rfl,by lia,by lia,by lia,q4,fun i z1 z2=> ?_⟩
    cases q:bey W l key arr base i with
    |false=>rfl
    |true=>rw [mono _ i z1 z2 q] at hb;cases hb
 ·rintro c st' ⟨rfl,a,b,rfl,q1,q2,q3,q4,q5⟩
  obtain rfl:a=b:=by lia
  exact ⟨rfl,a,rfl,q2,q4,q5⟩
 ·rintro c st' ⟨rfl,k,rfl,q1,q2,q3⟩
  exact h k q1 q2 q3
theorem bz (C:Cmp W kd good prog w A s) (hk:kindOf st=kd) {l:Bool}{key:Keyed}{arr:Array Keyed}{base n h0:Nat} (hn:base+n<=arr.size) (hh:h0<n) (g1:good key) (g2: ∀i,i<n->good (kAt arr (base+i)))
  (mono: ∀i j,i<=j->j<n->bey W l key arr base j=true->bey W l key arr base i=true) {Q:Option Nat->SortSt->Prop}
  (h: ∀k,k<=n->(∀i,i<k->bey W l key arr base i=true)->(∀i,k<=i->i<n->bey W l key arr base i=false)->Q (some k) st):wpS (model prog w) A E s (gal l key arr base n h0) Q st:=by
 have nmono: ∀i j,i<=j->j<n->bey W l key arr base i=false->bey W l key arr base j=false:=fun i j z1 z2 z3=>by
  cases q:bey W l key arr base j with
  |false=>rfl
  |true=>rw [mono i j z1 z2 q] at z3;cases z3
 rw [uk]
 refine wpS_bind (gf C hk (by lia) g1 (g2 _ hh) ?_)
 cases hb:bey W l key arr base h0 with
 |true=>
  dsimp only
  rw [if_pos rfl]
  refine wpS_bind (wpS_mono (wpS_forRange (I:=fun x c st'=>st'=st/\ ∃u v,c=(none,u,v)/\u<v/\x+1<=v/\h0+u<n/\bey W l key arr base (h0+u)=true)
   (Q:=fun c st'=>st'=st/\ ∃u v,c=(none,u,v)/\u<v/\h0+u<n/\bey W l key arr base (h0+u)=true/\(v>=n-h0 \/bey W l key arr base (h0+v)=false)) ?_ ?_ ⟨rfl,0,1,rfl,by lia,by lia,by lia,hb⟩) ?_)
  ·rintro x c st' hx1 hx2 ⟨rfl,u,v,rfl,q1,q2,q3,q4⟩
   dsimp only
   by_cases hge:v>=n-h0
   ·rw [if_pos hge]
    exact wpS_pure ⟨rfl,u,v,rfl,q1,q3,q4,.inl hge⟩
   ·rw [if_neg hge]
    refine wpS_bind (gf C hk (by lia) g1 (g2 _ (by lia)) ?_)
    cases hv:bey W l key arr base (h0+v) with
    |true=>
     dsimp only
     rw [if_neg (by decide)]
     exact wpS_pure ⟨rfl,_,_,rfl,by lia,by lia,by lia,hv⟩
    |false=>
     dsimp only
     rw [if_pos (by decide)]
     exact wpS_pure ⟨rfl,u,v,rfl,q1,q3,q4,.inr hv⟩
  ·rintro c st' ⟨rfl,u,v,rfl,q1,q2,q3,q4⟩
   exact ⟨rfl,u,v,rfl,q1,q3,q4,.inl (by lia)⟩
  ·rintro c st' ⟨rfl,u,v,rfl,q1,q3,q4,q5⟩
   dsimp only
   refine wpS_bind (ls C hk hn g1 g2 mono (by lia) (by lia) (fun i z=>mono i (h0+u) (by lia) (by lia) q4) (fun i z1 z2=> ?_) fun k r1 r2 r3=>wpS_pure (h k r1 r2 r3))
   rcases q5 with q5|q5
   ·exfalso;lia
   ·exact nmono (h0+v) i (by lia) z2 q5
 |false=>
  dsimp only
  rw [if_neg Bool.false_ne_true]
  refine wpS_bind (wpS_mono (wpS_forRange (I:=fun x c st'=>st'=st/\ ∃u v,c=(none,u,v)/\u<v/\x+1<=v/\u<=h0/\bey W l key arr base (h0-u)=false)
   (Q:=fun c st'=>st'=st/\ ∃u v,c=(none,u,v)/\u<v/\u<=h0/\bey W l key arr base (h0-u)=false/\(v>=h0+1 \/(v<=h0/\bey W l key arr base (h0-v)=true))) ?_ ?_ ⟨rfl,0,1,rfl,by lia,by lia,by lia,hb⟩) ?_)
  ·rintro x c st' hx1 hx2 ⟨rfl,u,v,rfl,q1,q2,q3,q4⟩
   dsimp only
   by_cases hge:v>=h0+1
   ·rw [if_pos hge]
    exact wpS_pure ⟨rfl,u,v,rfl,q1,q3,q4,.inl hge⟩
   ·rw [if_neg hge]
    refine wpS_bind (gf C hk (by lia) g1 (g2 _ (by lia)) ?_)
    cases hv:bey W l key arr base (h0-v) with
    |true=>
     dsimp only
     rw [if_pos rfl]
     exact wpS_pure ⟨rfl,u,v,rfl,q1,q3,q4,.inr ⟨by lia,hv⟩⟩
    |false=>
     dsimp only
     rw [if_neg Bool.false_ne_true]
     exact wpS_pure ⟨rfl,_,_,rfl,by lia,by lia,by lia,hv⟩
  ·rintro c st' ⟨rfl,u,v,rfl,q1,q2,q3,q4⟩
   exact ⟨rfl,u,v,rfl,q1,q3,q4,.inl (by lia)⟩
  ·rintro c st' ⟨rfl,u,v,rfl,q1,q3,q4,q5⟩
   dsimp only
   refine wpS_bind (ls C hk hn g1 g2 mono (by lia) (by lia) (fun i z=> ?_) (fun i z1 z2=>nmono (h0-u) i z1 z2 q4) fun k r1 r2 r3=>wpS_pure (h k r1 r2 r3))
   rcases q5 with q5|⟨q5,q6⟩
   ·exfalso;lia
   ·exact mono i (h0-v) (by lia) (by lia) q6
end
end DhSort
set_option maxHeartbeats 4000000
namespace DhSort
open PySem PyProof.Rows
structure Laid (W:Wk) (a b out:Array Keyed) (ia ib:Nat):Prop where
 ha:ia<=a.size
 hb:ib<=b.size
 perm:out.toList.Perm (a.toList.take ia++b.toList.take ib)
 srt:out.toList.Pairwise W.le
 toA: ∀x,x∈out.toList-> ∀i,ia<=i->i<a.size->W.le x (kAt a i)
 toB: ∀x,x∈out.toList-> ∀i,ib<=i->i<b.size->W.le x (kAt b i)
theorem dA {a:Array Keyed}{i:Nat} (h:i<a.size):a.toList[i]?=some (kAt a i):=by
 have:=eZ h
 simpa using this
theorem lu {a:Array Keyed}{i:Nat} (h:i<a.size):a.toList.take (i+1)=a.toList.take i++[kAt a i]:=by
 rw [List.take_succ,dA h]
 rfl
section
variable {W:Wk}{a b out:Array Keyed}{ia ib:Nat}
theorem Laid.a1 (L:Laid W a b out ia ib) (h:ia<a.size) (sa:ao W a 0 a.size) (hc: ∀j,ib<=j->j<b.size->W.le (kAt a ia) (kAt b j)):Laid W a b (out.push (kAt a ia)) (ia+1) ib:=by
 refine ⟨h,L.hb,?_,?_,?_,?_⟩
 ·rw [Array.toList_push,lu h,List.append_assoc]
  refine (L.perm.append_right _).trans ?_
  rw [List.append_assoc]
  exact List.Perm.append_left _ List.perm_append_comm
 ·rw [Array.toList_push,List.pairwise_append]
  refine ⟨L.srt,List.pairwise_singleton _ _,fun x hx y hy=> ?_⟩
  rw [List.mem_singleton.mp hy]
  exact L.toA x hx ia (Nat.le_refl _) h
 ·intro x hx i z1 z2
  rw [Array.toList_push,List.mem_append] at hx
  rcases hx with hx|hx
  ·exact L.toA x hx i (by lia) z2
  ·rw [List.mem_singleton.mp hx]
   exact sa ia i (Nat.zero_le _) (by lia) z2
 ·intro x hx i z1 z2
  rw [Array.toList_push,List.mem_append] at hx
  rcases hx with hx|hx
  ·exact L.toB x hx i z1 z2
  ·rw [List.mem_singleton.mp hx]
   exact hc i z1 z2
theorem Laid.b1 (L:Laid W a b out ia ib) (h:ib<b.size) (sb:ao W b 0 b.size) (hc: ∀j,ia<=j->j<a.size->W.le (kAt b ib) (kAt a j)):Laid W a b (out.push (kAt b ib)) ia (ib+1):=by
 refine ⟨L.ha,h,?_,?_,?_,?_⟩
 ·rw [Array.toList_push,lu h,<-List.append_assoc]
  exact L.perm.append_right _
 ·rw [Array.toList_push,List.pairwise_append]
  refine ⟨L.srt,List.pairwise_singleton _ _,fun x hx y hy=> ?_⟩
  rw [List.mem_singleton.mp hy]
  exact L.toB x hx ib (Nat.le_refl _) h
 ·intro x hx i z1 z2
  rw [Array.toList_push,List.mem_append] at hx
  rcases hx with hx|hx
  ·exact L.toA x hx i z1 z2
  ·rw [List.mem_singleton.mp hx]
   exact hc i z1 z2
 ·intro x hx i z1 z2
  rw [Array.toList_push,List.mem_append] at hx
  rcases hx with hx|hx
  ·exact L.toB x hx i (by lia) z2
  ·rw [List.mem_singleton.mp hx]
   exact sb ib i (Nat.zero_le _) (by lia) z2
theorem lv {c:Array Keyed}{i k:Nat} (h:i+k<c.size):out++c.extract i (i+(k+1))=(out++c.extract i (i+k)).push (kAt c (i+k)):=by
 apply Array.ext'
 rw [Array.toList_push,Array.toList_append,Array.toList_append,Array.toList_extract,Array.toList_extract,List.append_assoc]
 congr 1
 rw [List.extract_eq_drop_take,List.extract_eq_drop_take,show i+(k+1)-i=k+1 by lia,show i+k-i=k by lia,List.take_succ]
 congr 1
 rw [List.getElem?_drop,dA h]
 rfl
theorem Laid.aN (sa:ao W a 0 a.size): ∀(k:Nat),Laid W a b out ia ib->ia+k<=a.size->(∀i,ia<=i->i<ia+k-> ∀j,ib<=j->j<b.size->W.le (kAt a i) (kAt b j))->Laid W a b (out++a.extract ia (ia+k)) (ia+k) ib
 |0,L,_,_=>by
  have e:out++a.extract ia (ia+0)=out:=by apply Array.ext';simp
  rw [e];exact L
 |k+1,L,h,hc=>by
  have L':=Laid.aN sa k L (by lia) fun i z1 z2=>hc i z1 (by lia)
  rw [lv (by lia)]
  exact L'.a1 (by lia) sa (hc (ia+k) (by lia) (by lia))
theorem Laid.bN (sb:ao W b 0 b.size): ∀(k:Nat),Laid W a b out ia ib->ib+k<=b.size->(∀i,ib<=i->i<ib+k-> ∀j,ia<=j->j<a.size->W.le (kAt b i) (kAt a j))->Laid W a b (out++b.extract ib (ib+k)) ia (ib+k)
 |0,L,_,_=>by
  have e:out++b.extract ib (ib+0)=out:=by apply Array.ext';simp
  rw [e];exact L
 |k+1,L,h,hc=>by
  have L':=Laid.bN sb k L (by lia) fun i z1 z2=>hc i z1 (by lia)
  rw [lv (by lia)]
  exact L'.b1 (by lia) sb (hc (ib+k) (by lia) (by lia))
noncomputable def One (W:Wk) (a b r:Array Keyed):Prop:=r.toList.Perm (a.toList++b.toList)/\r.toList.Pairwise W.le
theorem Laid.one (L:Laid W a b out a.size b.size):One W a b out:=by
 refine ⟨?_,L.srt⟩
 have:=L.perm
 rwa [<-Array.length_toList,<-Array.length_toList,List.take_length,List.take_length] at this
theorem Laid.endA (L:Laid W a b out ia b.size) (sa:ao W a 0 a.size):One W a b (out++a.extract ia a.size++b.extract b.size b.size):=by
 have h:=Laid.aN (b:=b) sa (a.size-ia) L (by have:=L.ha;lia) fun i _ _ j z1 z2=>by lia
 have:=L.ha
 rw [show ia+(a.size-ia)=a.size by lia] at h
 have e:out++a.extract ia a.size++b.extract b.size b.size=out++a.extract ia a.size:=by apply Array.ext';simp
 rw [e]
 exact h.one
theorem Laid.endB (L:Laid W a b out ia ib) (sa:ao W a 0 a.size) (sb:ao W b 0 b.size) (hc: ∀i,ib<=i->i<b.size-> ∀j,ia<=j->j<a.size->W.le (kAt b i) (kAt a j)):One W a b (out++b.extract ib b.size++a.extract ia a.size):=by
 have h1:=Laid.bN (a:=a) sb (b.size-ib) L (by have:=L.hb;lia) fun i z1 z2=>hc i z1 (by have:=L.hb;lia)
 have:=L.hb
 rw [show ib+(b.size-ib)=b.size by lia] at h1
 have h2:=Laid.aN (b:=b) sa (a.size-ia) h1 (by have:=L.ha;lia) fun i _ _ j z1 z2=>by lia
 have:=L.ha
 rw [show ia+(a.size-ia)=a.size by lia] at h2
 exact h2.one
theorem ul:Laid W a b #[] 0 0:=⟨Nat.zero_le _,Nat.zero_le _,by simp,.nil,fun x hx=>by simp at hx,fun x hx=>by simp at hx⟩
end
noncomputable def mLo:Array Keyed->Array Keyed->StateT SortSt Sem (Array Keyed):=sortPriv%PySem.Builtin.mergeLo
noncomputable abbrev gg (g:Nat):StateT SortSt Sem Unit:=modify fun st=>SortSt.mk' (kindOf st) (arrOf st) (pendingOf st) g (failedOf st)
theorem um (a b:Array Keyed):mLo a b=(do
 rule "list.sort.merge-lo"
 let tot:=a.size+b.size
 let fin (o:Array Keyed) (x y:Nat):=o++a.extract x a.size++b.extract y b.size
 let fla (o:Array Keyed) (x y:Nat):=o++b.extract y b.size++a.extract x a.size
 let mut o:Array Keyed:= #[<-elem' b 0]
 let mut x:=0
 let mut y:=1
 if y==b.size then return fin o x y
 if x+1==a.size then return fla o x y
 let mut mg:=gallopOf (<-get)
 for _ in [0:tot] do
  let mut ca:=0
  let mut cb:=0
  for _ in [0:tot] do
   let some bw<-lt' (<-elem' b y) (<-elem' a x)|return fin o x y
   if bw then
    o:=o.push (<-elem' b y);y:=y+1;cb:=cb+1;ca:=0
    if y==b.size then return fin o x y
    if cb>=mg then break
   else
    o:=o.push (<-elem' a x);x:=x+1;ca:=ca+1;cb:=0
    if x+1==a.size then return fla o x y
    if ca>=mg then break
  rule "list.sort.gallop"
  mg:=mg+1
  for _ in [0:tot] do
   if mg>1 then mg:=mg-1
   gg mg
   let some k<-gal false (<-elem' b y) a x (a.size-x) 0|return fin o x y
   ca:=k
   if k>0 then
    o:=o++a.extract x (x+k);x:=x+k
    if x+1==a.size then return fla o x y
    if x==a.size then return fin o x y
   o:=o.push (<-elem' b y);y:=y+1
   if y==b.size then return fin o x y
   let some k<-gal true (<-elem' a x) b y (b.size-y) 0|return fin o x y
   cb:=k
   if k>0 then
    o:=o++b.extract y (y+k);y:=y+k
    if y==b.size then return fin o x y
   o:=o.push (<-elem' a x);x:=x+1
   if x+1==a.size then return fla o x y
   if ca<7&&cb<7 then break
  mg:=mg+1
  gg mg
 unsupported "internal:list.sort.merge-bound"):=rfl
section
variable {prog:Program}{w:World}{A:Around}{E:Value->Shared->Prop}{s:Shared}{W:Wk}{kd:SortKind}{good:Keyed->Prop}{st:SortSt}
theorem uo (C:Cmp W kd good prog w A s) (hk:kindOf st=kd) {a b:Array Keyed} (ha:1<=a.size) (hb:1<=b.size) (ga: ∀i,i<a.size->good (kAt a i)) (gb: ∀i,i<b.size->good (kAt b i)) (sa:ao W a 0 a.size) (sb:ao W b 0 b.size)
  (h0:W.lt (kAt b 0) (kAt a 0)=true) (h1:W.lt (kAt b (b.size-1)) (kAt a (a.size-1))=true) {Q:Array Keyed->SortSt->Prop}
  (h: ∀r g,One W a b r->Q r (SortSt.mk' (kindOf st) (arrOf st) (pendingOf st) g (failedOf st))):wpS (model prog w) A E s (mLo a b) Q st:=by
 rw [um]
 refine wpS_bind (wpS_lift (wpAny_rule ⟨rfl,?_⟩))
 refine wpS_bind (ak (by lia) ?_)
 dsimp only
 have lastlt: ∀y,y<b.size->W.lt (kAt b y) (kAt a (a.size-1))=true:=fun y hy=>Wk.bP (sb y (b.size-1) (Nat.zero_le _) (by lia) (by lia)) h1
 have fla_ok: ∀{o:Array Keyed}{x y:Nat},Laid W a b o x y->x+1=a.size->One W a b (o++b.extract y b.size++a.extract x a.size):=fun {o x y} L hx=>L.endB sa sb fun i z1 z2 j z3 z4=>by
  obtain rfl:j=a.size-1:=by lia
  exact Wk.aC (lastlt i z2)
 have fin_ok: ∀{o:Array Keyed}{x y:Nat},Laid W a b o x y->y=b.size->One W a b (o++a.extract x a.size++b.extract y b.size):=fun {o x y} L hy=>by
  subst hy
  exact L.endA sa
 have L0:Laid W a b #[kAt b 0] 0 1:=(ul (W:=W) (a:=a) (b:=b)).b1 (by lia) sb fun j z1 z2=>Wk.aC (Wk.bJ h0 (sa 0 j (Nat.zero_le _) z1 z2))
 have same:st=SortSt.mk' (kindOf st) (arrOf st) (pendingOf st) (gallopOf st) (failedOf st):=rfl
 by_cases hb1:1=b.size
 ·rw [if_pos (by simpa using hb1)]
  exact wpS_pure (h _ (gallopOf st) (fin_ok L0 hb1))
 rw [if_neg (by simpa using hb1)]
 by_cases ha1:0+1=a.size
 ·rw [if_pos (by simpa using ha1)]
  exact wpS_pure (h _ (gallopOf st) (fla_ok L0 ha1))
 rw [if_neg (by simpa using ha1)]
 refine wpS_bind (wpS_get ?_)
 refine wpS_bind (wpS_mono (wpS_forRange (I:=fun t c st'=> ∃o x y mg g,c=(none,o,x,y,mg)/\st'=SortSt.mk' (kindOf st) (arrOf st) (pendingOf st) g (failedOf st)/\Laid W a b o x y/\x+1<a.size/\y<b.size/\t<=x+y)
  (Q:=fun c st'=> ∃r m g,c=(some r,m)/\st'=SortSt.mk' (kindOf st) (arrOf st) (pendingOf st) g (failedOf st)/\One W a b r) ?stp ?lst ⟨_,_,_,_,gallopOf st,rfl,rfl,L0,by lia,by lia,by lia⟩) ?aft)
 case aft=>
  rintro c st' ⟨r,m,g,rfl,rfl,one⟩
  exact wpS_pure (h r g one)
 case lst=>
  rintro c st' ⟨o,x,y,mg,g,rfl,rfl,L,z1,z2,z3⟩
  exfalso;lia
 case stp=>
  rintro t c st' ht1 ht2 ⟨o,x,y,mg,g,rfl,rfl,L,bx,bY,pr⟩
  dsimp only
  refine wpS_bind (wpS_mono (wpS_forRange (I:=fun t' c st'=>st'=SortSt.mk' (kindOf st) (arrOf st) (pendingOf st) g (failedOf st)/\ ∃o x y ca cb,c=(none,o,x,y,ca,cb)/\Laid W a b o x y/\x+1<a.size/\y<b.size/\t+t'<=x+y)
   (Q:=fun c st'=>st'=SortSt.mk' (kindOf st) (arrOf st) (pendingOf st) g (failedOf st)/\((∃r m,c=(some r,m)/\One W a b r) \/ ∃o x y ca cb,c=(none,o,x,y,ca,cb)/\Laid W a b o x y/\x+1<a.size/\y<b.size/\t+1<=x+y)) ?s1 ?l1 ⟨rfl,_,_,_,_,_,rfl,L,bx,bY,by lia⟩) ?a1)
  case l1=>
   rintro c st' ⟨rfl,o,x,y,ca,cb,rfl,L,z1,z2,z3⟩
   exfalso;lia
  case s1=>
   rintro t' c st' _ ht' ⟨rfl,o,x,y,ca,cb,rfl,L,bx,bY,pr⟩
   dsimp only
   refine wpS_bind (ak bY (wpS_bind (ak (by lia) ?_)))
   refine wpS_bind (e7 (st:=SortSt.mk' (kindOf st) (arrOf st) (pendingOf st) g (failedOf st)) C hk (gb y bY) (ga x (by lia)) ?_)
   cases hl:W.lt (kAt b y) (kAt a x) with
   |true=>
    dsimp only
    rw [if_pos rfl]
    refine wpS_bind (ak bY ?_)
    have L1:=L.b1 bY sb fun j z1 z2=>Wk.aC (Wk.bJ hl (sa _ _ (Nat.zero_le _) z1 z2))
    by_cases hy:y+1=b.size
    ·rw [if_pos (by simpa using hy)]
     exact wpS_pure ⟨rfl,.inl ⟨_,_,rfl,fin_ok L1 hy⟩⟩
    ·rw [if_neg (by simpa using hy)]
     by_cases hc:cb+1>=mg
     ·rw [if_pos hc]
      exact wpS_pure ⟨rfl,.inr ⟨_,_,_,_,_,rfl,L1,bx,by lia,by lia⟩⟩
     ·rw [if_neg hc]
      exact wpS_pure ⟨rfl,_,_,_,_,_,rfl,L1,bx,by lia,by lia⟩
   |false=>
    dsimp only
    rw [if_neg Bool.false_ne_true]
    refine wpS_bind (ak (by lia) ?_)
    have L1:=L.a1 (by lia) sa fun j z1 z2=>Wk.av hl (sb _ _ (Nat.zero_le _) z1 z2)
    by_cases hx:x+1+1=a.size
    ·rw [if_pos (by simpa using hx)]
     exact wpS_pure ⟨rfl,.inl ⟨_,_,rfl,fla_ok L1 hx⟩⟩
    ·rw [if_neg (by simpa using hx)]
     by_cases hc:ca+1>=mg
     ·rw [if_pos hc]
      exact wpS_pure ⟨rfl,.inr ⟨_,_,_,_,_,rfl,L1,by lia,bY,by lia⟩⟩
     ·rw [if_neg hc]
      exact wpS_pure ⟨rfl,_,_,_,_,_,rfl,L1,by lia,bY,by lia⟩
  case a1=>
   rintro c st' ⟨rfl,⟨r,m,rfl,one⟩|⟨o,x,y,ca,cb,rfl,L,bx,bY,pr⟩⟩
   ·dsimp only
    exact wpS_pure ⟨_,_,_,rfl,rfl,one⟩
   ·dsimp only
    refine wpS_bind (wpS_lift (wpAny_rule ⟨rfl,?_⟩))
    refine wpS_bind (wpS_mono (wpS_forRange (I:=fun t' c st'=> ∃o x y mg ca cb g,c=(none,o,x,y,mg,ca,cb)/\st'=SortSt.mk' (kindOf st) (arrOf st) (pendingOf st) g (failedOf st)/\Laid W a b o x y/\x+1<a.size/\y<b.size/\t+1+t'<=x+y)
     (Q:=fun c st'=>(∃r m g,c=(some r,m)/\st'=SortSt.mk' (kindOf st) (arrOf st) (pendingOf st) g (failedOf st)/\One W a b r) \/ ∃o x y mg ca cb g,c=(none,o,x,y,mg,ca,cb)/\st'=SortSt.mk' (kindOf st) (arrOf st) (pendingOf st) g (failedOf st)/\Laid W a b o x y/\x+1<a.size/\y<b.size/\t+1<=x+y) ?s2 ?l2 ⟨_,_,_,_,_,_,g,rfl,rfl,L,bx,bY,by lia⟩) ?a2)
    case l2=>
     rintro c st' ⟨o,x,y,mg,ca,cb,g,rfl,rfl,L,z1,z2,z3⟩
     exfalso;lia
    case a2=>
     rintro c st' (⟨r,m,g,rfl,rfl,one⟩|⟨o,x,y,mg,ca,cb,g,rfl,rfl,L,bx,bY,pr⟩)
     ·dsimp only
      exact wpS_pure ⟨_,_,_,rfl,rfl,one⟩
     ·dsimp only
      refine wpS_bind (wpS_modify ?_)
      exact wpS_pure ⟨_,_,_,_,_,rfl,rfl,L,bx,bY,by lia⟩
    case s2=>
     rintro t' c st' _ ht' ⟨o,x,y,mg,ca,cb,g,rfl,rfl,L,bx,bY,pr⟩
     dsimp only
     by_cases hmg:mg>1
     ·rw [if_pos hmg]
      refine wpS_bind (wpS_modify ?_)
      have hk':kindOf (SortSt.mk' (kindOf st) (arrOf st) (pendingOf st) (mg-1) (failedOf st))=kd:=hk
      refine wpS_bind (ak (by lia) ?_)
      refine wpS_bind (bz C hk' (by lia) (by lia) (gb _ (by lia)) (fun i z=>ga _ (by lia)) (fun i j z1 z2 z3=> ?_) fun k u1 u2 u3=> ?_)
      ·unfold bey at z3|-
       rw [if_neg Bool.false_ne_true] at z3|-
       have q0:W.lt (kAt b y) (kAt a (x+j))=false:=by simpa using z3
       have q1:W.le (kAt a (x+i)) (kAt b y):=Wk.av (sa _ _ (Nat.zero_le _) (by lia) (by lia)) q0
       have q2:W.lt (kAt b y) (kAt a (x+i))=false:=q1
       simpa using q2
      ·have le1: ∀j,x<=j->j<x+k->W.le (kAt a j) (kAt b y):=fun j z1 z2=>by
        have:=u2 (j-x) (by lia)
        unfold bey at this
        rw [if_neg Bool.false_ne_true,show x+(j-x)=j by lia] at this
        have q0:W.lt (kAt b y) (kAt a j)=false:=by simpa using this
        exact q0
       have gt0: ∀j,x+k<=j->j<a.size->W.lt (kAt b y) (kAt a j)=true:=fun j z1 z2=>by
        have:=u3 (j-x) (by lia) (by lia)
        unfold bey at this
        rw [if_neg Bool.false_ne_true,show x+(j-x)=j by lia] at this
        simpa using this
       have hkx:x+k<a.size:=by
        rcases Nat.lt_or_ge (x+k) a.size with z|z
        ·exact z
        ·have z1:=le1 (a.size-1) (by lia) (by lia)
         have z2:=lastlt y (by lia)
         unfold Wk.le at z1
         rw [z2] at z1
         cases z1
       dsimp only
       by_cases hk1:k>0
       ·rw [if_pos hk1]
        have L1:=Laid.aN sa k L (by lia) fun j z1 z2 i z3 z4=>Wk.av (le1 j z1 z2) (sb _ _ (Nat.zero_le _) z3 z4)
        by_cases hx1:x+k+1=a.size
        ·rw [if_pos (by simpa using hx1)]
         exact wpS_pure (.inl ⟨_,_,_,rfl,rfl,fla_ok L1 hx1⟩)
        ·rw [if_neg (by simpa using hx1),if_neg (by simp;lia)]
         have gt1:=gt0
         have bx1:x+k+1<a.size:=by lia
         have px1:x<=x+k:=by lia
         generalize o++a.extract x (x+k)=o1 at L1|-
         generalize x+k=x1 at L1 gt1 bx1 px1|-
         refine wpS_bind (ak (by lia) ?_)
         have L2:=L1.b1 (by lia) sb fun j z1 z2=>Wk.aC (gt1 j z1 z2)
         by_cases hy1:y+1=b.size
         ·rw [if_pos (by simpa using hy1)]
          exact wpS_pure (.inl ⟨_,_,_,rfl,rfl,fin_ok L2 hy1⟩)
         ·rw [if_neg (by simpa using hy1)]
          refine wpS_bind (ak (by lia) ?_)
          refine wpS_bind (bz C hk' (by lia) (by lia) (ga _ (by lia)) (fun i z=>gb _ (by lia)) (fun i j z1 z2 z3=> ?_) fun k2 u1 u2 u3=> ?_)
          ·unfold bey at z3|-
           rw [if_pos rfl] at z3|-
           exact Wk.bP (sb _ _ (Nat.zero_le _) (by lia) (by lia)) z3
          ·have lt2: ∀j,y+1<=j->j<y+1+k2->W.lt (kAt b j) (kAt a x1)=true:=fun j z1 z2=>by
            have:=u2 (j-(y+1)) (by lia)
            unfold bey at this
            rw [if_pos rfl,show y+1+(j-(y+1))=j by lia] at this
            exact this
           have ge2: ∀j,y+1+k2<=j->j<b.size->W.le (kAt a x1) (kAt b j):=fun j z1 z2=>by
            have:=u3 (j-(y+1)) (by lia) (by lia)
            unfold bey at this
            rw [if_pos rfl,show y+1+(j-(y+1))=j by lia] at this
            exact this
           dsimp only
           by_cases hk2:k2>0
           ·rw [if_pos hk2]
            have L3:=Laid.bN sb k2 L2 (by lia) fun j z1 z2 i z3 z4=>Wk.aC (Wk.bJ (lt2 j z1 z2) (sa _ _ (Nat.zero_le _) z3 z4))
            by_cases hy2:y+1+k2=b.size
            ·rw [if_pos (by simpa using hy2)]
             exact wpS_pure (.inl ⟨_,_,_,rfl,rfl,fin_ok L3 hy2⟩)
            ·rw [if_neg (by simpa using hy2)]
             have lb2:=ge2
             refine wpS_bind (ak (by lia) ?_)
             have L4:=L3.a1 (by lia) sa lb2
             by_cases hx3:x1+1+1=a.size
             ·rw [if_pos (by simpa using hx3)]
              exact wpS_pure (.inl ⟨_,_,_,rfl,rfl,fla_ok L4 hx3⟩)
             ·rw [if_neg (by simpa using hx3)]
              by_cases hcc:(decide (k<7)&&decide (k2<7))=true
              ·rw [if_pos hcc]
               exact wpS_pure (.inr ⟨_,_,_,_,_,_,_,rfl,rfl,L4,by lia,by lia,by lia⟩)
              ·rw [if_neg hcc]
               exact wpS_pure ⟨_,_,_,_,_,_,_,rfl,rfl,L4,by lia,by lia,by lia⟩
           ·rw [if_neg hk2]
            have L3:=L2
            have lb2: ∀j,y+1<=j->j<b.size->W.le (kAt a x1) (kAt b j):=fun j z1 z2=>ge2 j (by lia) z2
            refine wpS_bind (ak (by lia) ?_)
            have L4:=L3.a1 (by lia) sa lb2
            by_cases hx3:x1+1+1=a.size
            ·rw [if_pos (by simpa using hx3)]
             exact wpS_pure (.inl ⟨_,_,_,rfl,rfl,fla_ok L4 hx3⟩)
            ·rw [if_neg (by simpa using hx3)]
             by_cases hcc:(decide (k<7)&&decide (k2<7))=true
             ·rw [if_pos hcc]
              exact wpS_pure (.inr ⟨_,_,_,_,_,_,_,rfl,rfl,L4,by lia,by lia,by lia⟩)
             ·rw [if_neg hcc]
              exact wpS_pure ⟨_,_,_,_,_,_,_,rfl,rfl,L4,by lia,by lia,by lia⟩
       ·rw [if_neg hk1]
        have L1:=L
        have gt1: ∀j,x<=j->j<a.size->W.lt (kAt b y) (kAt a j)=true:=fun j z1 z2=>gt0 j (by lia) z2
        have bx1:x+1<a.size:=by lia
        have px1:x<=x:=by lia
        generalize hxx:x=x1 at L1 gt1 bx1|-
        rw [hxx] at px1
        refine wpS_bind (ak (by lia) ?_)
        have L2:=L1.b1 (by lia) sb fun j z1 z2=>Wk.aC (gt1 j z1 z2)
        by_cases hy1:y+1=b.size
        ·rw [if_pos (by simpa using hy1)]
         exact wpS_pure (.inl ⟨_,_,_,rfl,rfl,fin_ok L2 hy1⟩)
        ·rw [if_neg (by simpa using hy1)]
         refine wpS_bind (ak (by lia) ?_)
         refine wpS_bind (bz C hk' (by lia) (by lia) (ga _ (by lia)) (fun i z=>gb _ (by lia)) (fun i j z1 z2 z3=> ?_) fun k2 u1 u2 u3=> ?_)
         ·unfold bey at z3|-
          rw [if_pos rfl] at z3|-
          exact Wk.bP (sb _ _ (Nat.zero_le _) (by lia) (by lia)) z3
         ·have lt2: ∀j,y+1<=j->j<y+1+k2->W.lt (kAt b j) (kAt a x1)=true:=fun j z1 z2=>by
           have:=u2 (j-(y+1)) (by lia)
           unfold bey at this
           rw [if_pos rfl,show y+1+(j-(y+1))=j by lia] at this
           exact this
          have ge2: ∀j,y+1+k2<=j->j<b.size->W.le (kAt a x1) (kAt b j):=fun j z1 z2=>by
           have:=u3 (j-(y+1)) (by lia) (by lia)
           unfold bey at this
           rw [if_pos rfl,show y+1+(j-(y+1))=j by lia] at this
           exact this
          dsimp only
          by_cases hk2:k2>0
          ·rw [if_pos hk2]
           have L3:=Laid.bN sb k2 L2 (by lia) fun j z1 z2 i z3 z4=>Wk.aC (Wk.bJ (lt2 j z1 z2) (sa _ _ (Nat.zero_le _) z3 z4))
           by_cases hy2:y+1+k2=b.size
           ·rw [if_pos (by simpa using hy2)]
            exact wpS_pure (.inl ⟨_,_,_,rfl,rfl,fin_ok L3 hy2⟩)
           ·rw [if_neg (by simpa using hy2)]
            have lb2:=ge2
            refine wpS_bind (ak (by lia) ?_)
            have L4:=L3.a1 (by lia) sa lb2
            by_cases hx3:x1+1+1=a.size
            ·rw [if_pos (by simpa using hx3)]
             exact wpS_pure (.inl ⟨_,_,_,rfl,rfl,fla_ok L4 hx3⟩)
            ·rw [if_neg (by simpa using hx3)]
             by_cases hcc:(decide (k<7)&&decide (k2<7))=true
             ·rw [if_pos hcc]
              exact wpS_pure (.inr ⟨_,_,_,_,_,_,_,rfl,rfl,L4,by lia,by lia,by lia⟩)
             ·rw [if_neg hcc]
              exact wpS_pure ⟨_,_,_,_,_,_,_,rfl,rfl,L4,by lia,by lia,by lia⟩
          ·rw [if_neg hk2]
           have L3:=L2
           have lb2: ∀j,y+1<=j->j<b.size->W.le (kAt a x1) (kAt b j):=fun j z1 z2=>ge2 j (by lia) z2
           refine wpS_bind (ak (by lia) ?_)
           have L4:=L3.a1 (by lia) sa lb2
           by_cases hx3:x1+1+1=a.size
           ·rw [if_pos (by simpa using hx3)]
            exact wpS_pure (.inl ⟨_,_,_,rfl,rfl,fla_ok L4 hx3⟩)
           ·rw [if_neg (by simpa using hx3)]
            by_cases hcc:(decide (k<7)&&decide (k2<7))=true
            ·rw [if_pos hcc]
             exact wpS_pure (.inr ⟨_,_,_,_,_,_,_,rfl,rfl,L4,by lia,by lia,by lia⟩)
            ·rw [if_neg hcc]
             exact wpS_pure ⟨_,_,_,_,_,_,_,rfl,rfl,L4,by lia,by lia,by lia⟩
     ·rw [if_neg hmg]
      refine wpS_bind (wpS_modify ?_)
      have hk':kindOf (SortSt.mk' (kindOf st) (arrOf st) (pendingOf st) mg (failedOf st))=kd:=hk
      refine wpS_bind (ak (by lia) ?_)
      refine wpS_bind (bz C hk' (by lia) (by lia) (gb _ (by lia)) (fun i z=>ga _ (by lia)) (fun i j z1 z2 z3=> ?_) fun k u1 u2 u3=> ?_)
      ·unfold bey at z3|-
       rw [if_neg Bool.false_ne_true] at z3|-
       have q0:W.lt (kAt b y) (kAt a (x+j))=false:=by simpa using z3
       have q1:W.le (kAt a (x+i)) (kAt b y):=Wk.av (sa _ _ (Nat.zero_le _) (by lia) (by lia)) q0
       have q2:W.lt (kAt b y) (kAt a (x+i))=false:=q1
       simpa using q2
      ·have le1: ∀j,x<=j->j<x+k->W.le (kAt a j) (kAt b y):=fun j z1 z2=>by
        have:=u2 (j-x) (by lia)
        unfold bey at this
        rw [if_neg Bool.false_ne_true,show x+(j-x)=j by lia] at this
        have q0:W.lt (kAt b y) (kAt a j)=false:=by simpa using this
        exact q0
       have gt0: ∀j,x+k<=j->j<a.size->W.lt (kAt b y) (kAt a j)=true:=fun j z1 z2=>by
        have:=u3 (j-x) (by lia) (by lia)
        unfold bey at this
        rw [if_neg Bool.false_ne_true,show x+(j-x)=j by lia] at this
        simpa using this
       have hkx:x+k<a.size:=by
        rcases Nat.lt_or_ge (x+k) a.size with z|z
        ·exact z
        ·have z1:=le1 (a.size-1) (by lia) (by lia)
         have z2:=lastlt y (by lia)
         unfold Wk.le at z1
         rw [z2] at z1
         cases z1
       dsimp only
       by_cases hk1:k>0
       ·rw [if_pos hk1]
        have L1:=Laid.aN sa k L (by lia) fun j z1 z2 i z3 z4=>Wk.av (le1 j z1 z2) (sb _ _ (Nat.zero_le _) z3 z4)
        by_cases hx1:x+k+1=a.size
        ·rw [if_pos (by simpa using hx1)]
         exact wpS_pure (.inl ⟨_,_,_,rfl,rfl,fla_ok L1 hx1⟩)
        ·rw [if_neg (by simpa using hx1),if_neg (by simp;lia)]
         have gt1:=gt0
         have bx1:x+k+1<a.size:=by lia
         have px1:x<=x+k:=by lia
         generalize o++a.extract x (x+k)=o1 at L1|-
         generalize x+k=x1 at L1 gt1 bx1 px1|-
         refine wpS_bind (ak (by lia) ?_)
         have L2:=L1.b1 (by lia) sb fun j z1 z2=>Wk.aC (gt1 j z1 z2)
         by_cases hy1:y+1=b.size
         ·rw [if_pos (by simpa using hy1)]
          exact wpS_pure (.inl ⟨_,_,_,rfl,rfl,fin_ok L2 hy1⟩)
         ·rw [if_neg (by simpa using hy1)]
          refine wpS_bind (ak (by lia) ?_)
          refine wpS_bind (bz C hk' (by lia) (by lia) (ga _ (by lia)) (fun i z=>gb _ (by lia)) (fun i j z1 z2 z3=> ?_) fun k2 u1 u2 u3=> ?_)
          ·unfold bey at z3|-
           rw [if_pos rfl] at z3|-
           exact Wk.bP (sb _ _ (Nat.zero_le _) (by lia) (by lia)) z3
          ·have lt2: ∀j,y+1<=j->j<y+1+k2->W.lt (kAt b j) (kAt a x1)=true:=fun j z1 z2=>by
            have:=u2 (j-(y+1)) (by lia)
            unfold bey at this
            rw [if_pos rfl,show y+1+(j-(y+1))=j by lia] at this
            exact this
           have ge2: ∀j,y+1+k2<=j->j<b.size->W.le (kAt a x1) (kAt b j):=fun j z1 z2=>by
            have:=u3 (j-(y+1)) (by lia) (by lia)
            unfold bey at this
            rw [if_pos rfl,show y+1+(j-(y+1))=j by lia] at this
            exact this
           dsimp only
           by_cases hk2:k2>0
           ·rw [if_pos hk2]
            have L3:=Laid.bN sb k2 L2 (by lia) fun j z1 z2 i z3 z4=>Wk.aC (Wk.bJ (lt2 j z1 z2) (sa _ _ (Nat.zero_le _) z3 z4))
            by_cases hy2:y+1+k2=b.size
            ·rw [if_pos (by simpa using hy2)]
             exact wpS_pure (.inl ⟨_,_,_,rfl,rfl,fin_ok L3 hy2⟩)
            ·rw [if_neg (by simpa using hy2)]
             have lb2:=ge2
             refine wpS_bind (ak (by lia) ?_)
             have L4:=L3.a1 (by lia) sa lb2
             by_cases hx3:x1+1+1=a.size
             ·rw [if_pos (by simpa using hx3)]
              exact wpS_pure (.inl ⟨_,_,_,rfl,rfl,fla_ok L4 hx3⟩)
             ·rw [if_neg (by simpa using hx3)]
              by_cases hcc:(decide (k<7)&&decide (k2<7))=true
              ·rw [if_pos hcc]
               exact wpS_pure (.inr ⟨_,_,_,_,_,_,_,rfl,rfl,L4,by lia,by lia,by lia⟩)
              ·rw [if_neg hcc]
               exact wpS_pure ⟨_,_,_,_,_,_,_,rfl,rfl,L4,by lia,by lia,by lia⟩
           ·rw [if_neg hk2]
            have L3:=L2
            have lb2: ∀j,y+1<=j->j<b.size->W.le (kAt a x1) (kAt b j):=fun j z1 z2=>ge2 j (by lia) z2
            refine wpS_bind (ak (by lia) ?_)
            have L4:=L3.a1 (by lia) sa lb2
            by_cases hx3:x1+1+1=a.size
            ·rw [if_pos (by simpa using hx3)]
             exact wpS_pure (.inl ⟨_,_,_,rfl,rfl,fla_ok L4 hx3⟩)
            ·rw [if_neg (by simpa using hx3)]
             by_cases hcc:(decide (k<7)&&decide (k2<7))=true
             ·rw [if_pos hcc]
              exact wpS_pure (.inr ⟨_,_,_,_,_,_,_,rfl,rfl,L4,by lia,by lia,by lia⟩)
             ·rw [if_neg hcc]
              exact wpS_pure ⟨_,_,_,_,_,_,_,rfl,rfl,L4,by lia,by lia,by lia⟩
       ·rw [if_neg hk1]
        have L1:=L
        have gt1: ∀j,x<=j->j<a.size->W.lt (kAt b y) (kAt a j)=true:=fun j z1 z2=>gt0 j (by lia) z2
        have bx1:x+1<a.size:=by lia
        have px1:x<=x:=by lia
        generalize hxx:x=x1 at L1 gt1 bx1|-
        rw [hxx] at px1
        refine wpS_bind (ak (by lia) ?_)
        have L2:=L1.b1 (by lia) sb fun j z1 z2=>Wk.aC (gt1 j z1 z2)
        by_cases hy1:y+1=b.size
        ·rw [if_pos (by simpa using hy1)]
         exact wpS_pure (.inl ⟨_,_,_,rfl,rfl,fin_ok L2 hy1⟩)
        ·rw [if_neg (by simpa using hy1)]
         refine wpS_bind (ak (by lia) ?_)
         refine wpS_bind (bz C hk' (by lia) (by lia) (ga _ (by lia)) (fun i z=>gb _ (by lia)) (fun i j z1 z2 z3=> ?_) fun k2 u1 u2 u3=> ?_)
         ·unfold bey at z3|-
          rw [if_pos rfl] at z3|-
          exact Wk.bP (sb _ _ (Nat.zero_le _) (by lia) (by lia)) z3
         ·have lt2: ∀j,y+1<=j->j<y+1+k2->W.lt (kAt b j) (kAt a x1)=true:=fun j z1 z2=>by
           have:=u2 (j-(y+1)) (by lia)
           unfold bey at this
           rw [if_pos rfl,show y+1+(j-(y+1))=j by lia] at this
           exact this
          have ge2: ∀j,y+1+k2<=j->j<b.size->W.le (kAt a x1) (kAt b j):=fun j z1 z2=>by
           have:=u3 (j-(y+1)) (by lia) (by lia)
           unfold bey at this
           rw [if_pos rfl,show y+1+(j-(y+1))=j by lia] at this
           exact this
          dsimp only
          by_cases hk2:k2>0
          ·rw [if_pos hk2]
           have L3:=Laid.bN sb k2 L2 (by lia) fun j z1 z2 i z3 z4=>Wk.aC (Wk.bJ (lt2 j z1 z2) (sa _ _ (Nat.zero_le _) z3 z4))
           by_cases hy2:y+1+k2=b.size
           ·rw [if_pos (by simpa using hy2)]
            exact wpS_pure (.inl ⟨_,_,_,rfl,rfl,fin_ok L3 hy2⟩)
           ·rw [if_neg (by simpa using hy2)]
            have lb2:=ge2
            refine wpS_bind (ak (by lia) ?_)
            have L4:=L3.a1 (by lia) sa lb2
            by_cases hx3:x1+1+1=a.size
            ·rw [if_pos (by simpa using hx3)]
             exact wpS_pure (.inl ⟨_,_,_,rfl,rfl,fla_ok L4 hx3⟩)
            ·rw [if_neg (by simpa using hx3)]
             by_cases hcc:(decide (k<7)&&decide (k2<7))=true
             ·rw [if_pos hcc]
              exact wpS_pure (.inr ⟨_,_,_,_,_,_,_,rfl,rfl,L4,by lia,by lia,by lia⟩)
             ·rw [if_neg hcc]
              exact wpS_pure ⟨_,_,_,_,_,_,_,rfl,rfl,L4,by lia,by lia,by lia⟩
          ·rw [if_neg hk2]
           have L3:=L2
           have lb2: ∀j,y+1<=j->j<b.size->W.le (kAt a x1) (kAt b j):=fun j z1 z2=>ge2 j (by lia) z2
           refine wpS_bind (ak (by lia) ?_)
           have L4:=L3.a1 (by lia) sa lb2
           by_cases hx3:x1+1+1=a.size
           ·rw [if_pos (by simpa using hx3)]
            exact wpS_pure (.inl ⟨_,_,_,rfl,rfl,fla_ok L4 hx3⟩)
           ·rw [if_neg (by simpa using hx3)]
            by_cases hcc:(decide (k<7)&&decide (k2<7))=true
            ·rw [if_pos hcc]
             exact wpS_pure (.inr ⟨_,_,_,_,_,_,_,rfl,rfl,L4,by lia,by lia,by lia⟩)
            ·rw [if_neg hcc]
             exact wpS_pure ⟨_,_,_,_,_,_,_,rfl,rfl,L4,by lia,by lia,by lia⟩
end
end DhSort
set_option maxHeartbeats 4000000
namespace DhSort
open PySem PyProof.Rows
structure ai (W:Wk) (a b out:Array Keyed) (na nb:Nat):Prop where
 ha:na<=a.size
 hb:nb<=b.size
 perm:out.toList.Perm (a.toList.drop na++b.toList.drop nb)
 srt:out.toList.Pairwise fun x y=>W.le y x
 frA: ∀x,x∈out.toList-> ∀i,i<na->W.le (kAt a i) x
 frB: ∀x,x∈out.toList-> ∀i,i<nb->W.le (kAt b i) x
theorem iq {a:Array Keyed}{i:Nat} (h:i<a.size):a.toList.drop i=kAt a i::a.toList.drop (i+1):=by
 have h':i<a.toList.length:=by simpa using h
 rw [List.drop_eq_getElem_cons h']
 congr 1
 have:=dA h
 rw [List.getElem?_eq_getElem h'] at this
 exact Option.some.inj this
section
variable {W:Wk}{a b out:Array Keyed}{na nb:Nat}
theorem ai.a1 (L:ai W a b out (na+1) nb) (sa:ao W a 0 a.size) (hc: ∀j,j<nb->W.le (kAt b j) (kAt a na)):ai W a b (out.push (kAt a na)) na nb:=by
 have hl:=L.ha
 refine ⟨by lia,L.hb,?_,?_,?_,?_⟩
 ·rw [Array.toList_push,iq (show na<a.size by lia),List.cons_append]
  exact (L.perm.append_right _).trans List.perm_append_comm
 ·rw [Array.toList_push,List.pairwise_append]
  refine ⟨L.srt,List.pairwise_singleton _ _,fun x hx y hy=> ?_⟩
  rw [List.mem_singleton.mp hy]
  exact L.frA x hx na (by lia)
 ·intro x hx i z1
  rw [Array.toList_push,List.mem_append] at hx
  rcases hx with hx|hx
  ·exact L.frA x hx i (by lia)
  ·rw [List.mem_singleton.mp hx]
   exact sa i na (Nat.zero_le _) (by lia) (by lia)
 ·intro x hx i z1
  rw [Array.toList_push,List.mem_append] at hx
  rcases hx with hx|hx
  ·exact L.frB x hx i z1
  ·rw [List.mem_singleton.mp hx]
   exact hc i z1
theorem ai.b1 (L:ai W a b out na (nb+1)) (sb:ao W b 0 b.size) (hc: ∀j,j<na->W.le (kAt a j) (kAt b nb)):ai W a b (out.push (kAt b nb)) na nb:=by
 have hl:=L.hb
 refine ⟨L.ha,by lia,?_,?_,?_,?_⟩
 ·rw [Array.toList_push,iq (show nb<b.size by lia)]
  refine (L.perm.append_right _).trans ?_
  rw [List.append_assoc]
  exact List.Perm.append_left _ List.perm_append_comm
 ·rw [Array.toList_push,List.pairwise_append]
  refine ⟨L.srt,List.pairwise_singleton _ _,fun x hx y hy=> ?_⟩
  rw [List.mem_singleton.mp hy]
  exact L.frB x hx nb (by lia)
 ·intro x hx i z1
  rw [Array.toList_push,List.mem_append] at hx
  rcases hx with hx|hx
  ·exact L.frA x hx i z1
  ·rw [List.mem_singleton.mp hx]
   exact hc i z1
 ·intro x hx i z1
  rw [Array.toList_push,List.mem_append] at hx
  rcases hx with hx|hx
  ·exact L.frB x hx i (by lia)
  ·rw [List.mem_singleton.mp hx]
   exact sb i nb (Nat.zero_le _) (by lia) (by lia)
theorem lw {c:Array Keyed}{i k:Nat} (h:i+(k+1)<=c.size):out++(c.extract i (i+(k+1))).reverse=(out++(c.extract (i+1) (i+(k+1))).reverse).push (kAt c i):=by
 apply Array.ext'
 rw [Array.toList_push,Array.toList_append,Array.toList_append,Array.toList_reverse,Array.toList_reverse,Array.toList_extract,Array.toList_extract,List.append_assoc]
 congr 1
 rw [List.extract_eq_drop_take,List.extract_eq_drop_take,show i+(k+1)-i=k+1 by lia,show i+(k+1)-(i+1)=k by lia,iq (show i<c.size by lia),List.take_succ_cons,List.reverse_cons]
theorem ai.aN (sa:ao W a 0 a.size): ∀(k na:Nat),ai W a b out (na+k) nb->(∀i,na<=i->i<na+k-> ∀j,j<nb->W.le (kAt b j) (kAt a i))->ai W a b (out++(a.extract na (na+k)).reverse) na nb
 |0,na,L,_=>by
  have e:out++(a.extract na (na+0)).reverse=out:=by apply Array.ext';simp
  rw [e];exact L
 |k+1,na,L,hc=>by
  have hl:=L.ha
  have L':=ai.aN sa k (na+1) (by rw [show na+1+k=na+(k+1) by lia];exact L) fun i z1 z2=>hc i (by lia) (by lia)
  rw [show na+1+k=na+(k+1) by lia] at L'
  rw [lw (by lia)]
  exact L'.a1 sa (hc na (by lia) (by lia))
theorem ai.bN (sb:ao W b 0 b.size): ∀(k nb:Nat),ai W a b out na (nb+k)->(∀i,nb<=i->i<nb+k-> ∀j,j<na->W.le (kAt a j) (kAt b i))->ai W a b (out++(b.extract nb (nb+k)).reverse) na nb
 |0,nb,L,_=>by
  have e:out++(b.extract nb (nb+0)).reverse=out:=by apply Array.ext';simp
  rw [e];exact L
 |k+1,nb,L,hc=>by
  have hl:=L.hb
  have L':=ai.bN sb k (nb+1) (by rw [show nb+1+k=nb+(k+1) by lia];exact L) fun i z1 z2=>hc i (by lia) (by lia)
  rw [show nb+1+k=nb+(k+1) by lia] at L'
  rw [lw (by lia)]
  exact L'.b1 sb (hc nb (by lia) (by lia))
theorem ai.one (L:ai W a b out 0 0):One W a b out.reverse:=by
 refine ⟨?_,?_⟩
 ·rw [Array.toList_reverse]
  exact (List.reverse_perm _).trans (by simpa using L.perm)
 ·rw [Array.toList_reverse,List.pairwise_reverse]
  exact L.srt
theorem ir {c:Array Keyed}{n:Nat}:(out++(c.extract 0 n).reverse).reverse=c.extract 0 n++out.reverse:=by
 apply Array.ext'
 simp
theorem ai.endA (L:ai W a b out 0 nb) (sb:ao W b 0 b.size):One W a b (a.extract 0 0++b.extract 0 nb++out.reverse):=by
 have h:=ai.bN (a:=a) sb nb 0 (by rw [Nat.zero_add];exact L) fun i _ _ j z=>by lia
 rw [Nat.zero_add] at h
 have e:a.extract 0 0++b.extract 0 nb++out.reverse=(out++(b.extract 0 nb).reverse).reverse:=by
  rw [ir]
  apply Array.ext'
  simp
 rw [e]
 exact h.one
theorem ai.endB (L:ai W a b out na nb) (sa:ao W a 0 a.size) (sb:ao W b 0 b.size) (hc: ∀i,i<na-> ∀j,j<nb->W.le (kAt b j) (kAt a i)):One W a b (b.extract 0 nb++a.extract 0 na++out.reverse):=by
 have h1:=ai.aN (b:=b) sa na 0 (by rw [Nat.zero_add];exact L) fun i _ z=>hc i (by lia)
 rw [Nat.zero_add] at h1
 have h2:=ai.bN (a:=a) sb nb 0 (by rw [Nat.zero_add];exact h1) fun i _ _ j z=>by lia
 rw [Nat.zero_add] at h2
 have e:b.extract 0 nb++a.extract 0 na++out.reverse=(out++(a.extract 0 na).reverse++(b.extract 0 nb).reverse).reverse:=by
  rw [ir,ir]
  apply Array.ext'
  simp
 rw [e]
 exact h2.one
theorem up:ai W a b #[] a.size b.size:=⟨Nat.le_refl _,Nat.le_refl _,by simp,.nil,fun x hx=>by simp at hx,fun x hx=>by simp at hx⟩
end
noncomputable def mHi:Array Keyed->Array Keyed->StateT SortSt Sem (Array Keyed):=sortPriv%PySem.Builtin.mergeHi
theorem uq (a b:Array Keyed):mHi a b=(do
 rule "list.sort.merge-hi"
 let tot:=a.size+b.size
 let fin (o:Array Keyed) (x y:Nat):=a.extract 0 x++b.extract 0 y++o.reverse
 let fob (o:Array Keyed) (x y:Nat):=b.extract 0 y++a.extract 0 x++o.reverse
 let mut x:=a.size-1
 let mut y:=b.size
 let mut o:Array Keyed:= #[<-elem' a x]
 if x==0 then return fin o x y
 if y==1 then return fob o x y
 let mut mg:=gallopOf (<-get)
 for _ in [0:tot] do
  let mut ca:=0
  let mut cb:=0
  for _ in [0:tot] do
   let some aw<-lt' (<-elem' b (y-1)) (<-elem' a (x-1))|return fin o x y
   if aw then
    x:=x-1;o:=o.push (<-elem' a x);ca:=ca+1;cb:=0
    if x==0 then return fin o x y
    if ca>=mg then break
   else
    y:=y-1;o:=o.push (<-elem' b y);cb:=cb+1;ca:=0
    if y==1 then return fob o x y
    if cb>=mg then break
  rule "list.sort.gallop"
  mg:=mg+1
  for _ in [0:tot] do
   if mg>1 then mg:=mg-1
   gg mg
   let some p<-gal false (<-elem' b (y-1)) a 0 x (x-1)|return fin o x y
   let k:=x-p
   ca:=k
   if k>0 then
    o:=o++(a.extract p x).reverse;x:=p
    if x==0 then return fin o x y
   y:=y-1;o:=o.push (<-elem' b y)
   if y==1 then return fob o x y
   let some p<-gal true (<-elem' a (x-1)) b 0 y (y-1)|return fin o x y
   let k:=y-p
   cb:=k
   if k>0 then
    o:=o++(b.extract p y).reverse;y:=p
    if y==1 then return fob o x y
    if y==0 then return fin o x y
   x:=x-1;o:=o.push (<-elem' a x)
   if x==0 then return fin o x y
   if ca<7&&cb<7 then break
  mg:=mg+1
  gg mg
 unsupported "internal:list.sort.merge-bound"):=rfl
section
variable {prog:Program}{w:World}{A:Around}{E:Value->Shared->Prop}{s:Shared}{W:Wk}{kd:SortKind}{good:Keyed->Prop}{st:SortSt}
theorem ur (C:Cmp W kd good prog w A s) (hk:kindOf st=kd) {a b:Array Keyed} (ha:1<=a.size) (hb:1<=b.size) (ga: ∀i,i<a.size->good (kAt a i)) (gb: ∀i,i<b.size->good (kAt b i)) (sa:ao W a 0 a.size) (sb:ao W b 0 b.size)
  (h0:W.lt (kAt b 0) (kAt a 0)=true) (h1:W.lt (kAt b (b.size-1)) (kAt a (a.size-1))=true) {Q:Array Keyed->SortSt->Prop}
  (h: ∀r g,One W a b r->Q r (SortSt.mk' (kindOf st) (arrOf st) (pendingOf st) g (failedOf st))):wpS (model prog w) A E s (mHi a b) Q st:=by
 rw [uq]
 refine wpS_bind (wpS_lift (wpAny_rule ⟨rfl,?_⟩))
 refine wpS_bind (ak (by lia) ?_)
 dsimp only
 have fob_ok: ∀{o:Array Keyed}{x y:Nat},ai W a b o x y->y=1->One W a b (b.extract 0 y++a.extract 0 x++o.reverse):=fun {o x y} L hy=>L.endB sa sb fun i z1 j z2=>by
  have:=L.ha
  obtain rfl:j=0:=by lia
  exact Wk.aC (Wk.bJ h0 (sa 0 i (Nat.zero_le _) (Nat.zero_le _) (by lia)))
 have fin_ok: ∀{o:Array Keyed}{x y:Nat},ai W a b o x y->x=0->One W a b (a.extract 0 x++b.extract 0 y++o.reverse):=fun {o x y} L hx=>by
  subst hx
  exact L.endA sb
 have L0:ai W a b #[kAt a (a.size-1)] (a.size-1) b.size:=by
  have q:=ai.a1 (out:= #[]) (nb:=b.size) (na:=a.size-1) (by rw [show a.size-1+1=a.size by lia];exact up) sa fun j z=>Wk.aC (Wk.bP (sb j (b.size-1) (Nat.zero_le _) (by lia) (by lia)) h1)
  simpa using q
 by_cases ha1:a.size-1=0
 ·rw [if_pos (by simpa using ha1)]
  exact wpS_pure (h _ (gallopOf st) (fin_ok L0 ha1))
 rw [if_neg (by simpa using ha1)]
 by_cases hb1:b.size=1
 ·rw [if_pos (by simpa using hb1)]
  exact wpS_pure (h _ (gallopOf st) (fob_ok L0 hb1))
 rw [if_neg (by simpa using hb1)]
 refine wpS_bind (wpS_get ?_)
 refine wpS_bind (wpS_mono (wpS_forRange (I:=fun t c st'=> ∃o x y mg g,c=(none,x,y,o,mg)/\st'=SortSt.mk' (kindOf st) (arrOf st) (pendingOf st) g (failedOf st)/\ai W a b o x y/\1<=x/\2<=y/\t+x+y<=a.size+b.size)
  (Q:=fun c st'=> ∃r m g,c=(some r,m)/\st'=SortSt.mk' (kindOf st) (arrOf st) (pendingOf st) g (failedOf st)/\One W a b r) ?stp ?lst ⟨_,_,_,_,gallopOf st,rfl,rfl,L0,by lia,by lia,by lia⟩) ?aft)
 case aft=>
  rintro c st' ⟨r,m,g,rfl,rfl,one⟩
  exact wpS_pure (h r g one)
 case lst=>
  rintro c st' ⟨o,x,y,mg,g,rfl,rfl,L,z1,z2,z3⟩
  exfalso;lia
 case stp=>
  rintro t c st' ht1 ht2 ⟨o,x,y,mg,g,rfl,rfl,L,bx,bY,pr⟩
  dsimp only
  refine wpS_bind (wpS_mono (wpS_forRange (I:=fun t' c st'=>st'=SortSt.mk' (kindOf st) (arrOf st) (pendingOf st) g (failedOf st)/\ ∃o x y ca cb,c=(none,x,y,o,ca,cb)/\ai W a b o x y/\1<=x/\2<=y/\t+t'+x+y<=a.size+b.size)
   (Q:=fun c st'=>st'=SortSt.mk' (kindOf st) (arrOf st) (pendingOf st) g (failedOf st)/\((∃r m,c=(some r,m)/\One W a b r) \/ ∃o x y ca cb,c=(none,x,y,o,ca,cb)/\ai W a b o x y/\1<=x/\2<=y/\t+1+x+y<=a.size+b.size)) ?s1 ?l1 ⟨rfl,_,_,_,_,_,rfl,L,bx,bY,by lia⟩) ?a1)
  case l1=>
   rintro c st' ⟨rfl,o,x,y,ca,cb,rfl,L,z1,z2,z3⟩
   exfalso;lia
  case s1=>
   rintro t' c st' _ ht' ⟨rfl,o,x,y,ca,cb,rfl,L,bx,bY,pr⟩
   have hxa:=L.ha
   have hyb:=L.hb
   dsimp only
   refine wpS_bind (ak (by lia) (wpS_bind (ak (by lia) ?_)))
   refine wpS_bind (e7 (st:=SortSt.mk' (kindOf st) (arrOf st) (pendingOf st) g (failedOf st)) C hk (gb (y-1) (by lia)) (ga (x-1) (by lia)) ?_)
   cases hl:W.lt (kAt b (y-1)) (kAt a (x-1)) with
   |true=>
    dsimp only
    rw [if_pos rfl]
    refine wpS_bind (ak (by lia) ?_)
    have L1:ai W a b _ (x-1) y:=ai.a1 (na:=x-1) (by rw [show x-1+1=x by lia];exact L) sa fun j z=>Wk.av (sb j (y-1) (Nat.zero_le _) (by lia) (by lia)) (Wk.aC hl)
    by_cases hx:x-1=0
    ·rw [if_pos (by simpa using hx)]
     exact wpS_pure ⟨rfl,.inl ⟨_,_,rfl,fin_ok L1 hx⟩⟩
    ·rw [if_neg (by simpa using hx)]
     by_cases hc:ca+1>=mg
     ·rw [if_pos hc]
      exact wpS_pure ⟨rfl,.inr ⟨_,_,_,_,_,rfl,L1,by lia,bY,by lia⟩⟩
     ·rw [if_neg hc]
      exact wpS_pure ⟨rfl,_,_,_,_,_,rfl,L1,by lia,bY,by lia⟩
   |false=>
    dsimp only
    rw [if_neg Bool.false_ne_true]
    refine wpS_bind (ak (by lia) ?_)
    have L1:ai W a b _ x (y-1):=ai.b1 (nb:=y-1) (by rw [show y-1+1=y by lia];exact L) sb fun j z=>Wk.av (sa j (x-1) (Nat.zero_le _) (by lia) (by lia)) hl
    by_cases hy:y-1=1
    ·rw [if_pos (by simpa using hy)]
     exact wpS_pure ⟨rfl,.inl ⟨_,_,rfl,fob_ok L1 hy⟩⟩
    ·rw [if_neg (by simpa using hy)]
     by_cases hc:cb+1>=mg
     ·rw [if_pos hc]
      exact wpS_pure ⟨rfl,.inr ⟨_,_,_,_,_,rfl,L1,bx,by lia,by lia⟩⟩
     ·rw [if_neg hc]
      exact wpS_pure ⟨rfl,_,_,_,_,_,rfl,L1,bx,by lia,by lia⟩
  case a1=>
   rintro c st' ⟨rfl,⟨r,m,rfl,one⟩|⟨o,x,y,ca,cb,rfl,L,bx,bY,pr⟩⟩
   ·dsimp only
    exact wpS_pure ⟨_,_,_,rfl,rfl,one⟩
   ·dsimp only
    refine wpS_bind (wpS_lift (wpAny_rule ⟨rfl,?_⟩))
    refine wpS_bind (wpS_mono (wpS_forRange (I:=fun t' c st'=> ∃o x y mg ca cb g,c=(none,x,y,o,mg,ca,cb)/\st'=SortSt.mk' (kindOf st) (arrOf st) (pendingOf st) g (failedOf st)/\ai W a b o x y/\1<=x/\2<=y/\t+1+t'+x+y<=a.size+b.size)
     (Q:=fun c st'=>(∃r m g,c=(some r,m)/\st'=SortSt.mk' (kindOf st) (arrOf st) (pendingOf st) g (failedOf st)/\One W a b r) \/ ∃o x y mg ca cb g,c=(none,x,y,o,mg,ca,cb)/\st'=SortSt.mk' (kindOf st) (arrOf st) (pendingOf st) g (failedOf st)/\ai W a b o x y/\1<=x/\2<=y/\t+1+x+y<=a.size+b.size) ?s2 ?l2 ⟨_,_,_,_,_,_,g,rfl,rfl,L,bx,bY,by lia⟩) ?a2)
    case l2=>
     rintro c st' ⟨o,x,y,mg,ca,cb,g,rfl,rfl,L,z1,z2,z3⟩
     exfalso;lia
    case a2=>
     rintro c st' (⟨r,m,g,rfl,rfl,one⟩|⟨o,x,y,mg,ca,cb,g,rfl,rfl,L,bx,bY,pr⟩)
     ·dsimp only
      exact wpS_pure ⟨_,_,_,rfl,rfl,one⟩
     ·dsimp only
      refine wpS_bind (wpS_modify ?_)
      exact wpS_pure ⟨_,_,_,_,_,rfl,rfl,L,bx,bY,by lia⟩
    case s2=>
     rintro t' c st' _ ht' ⟨o,x,y,mg,ca,cb,g,rfl,rfl,L,bx,bY,pr⟩
     dsimp only
     by_cases hmg:mg>1
     ·rw [if_pos hmg]
      refine wpS_bind (wpS_modify ?_)
      have hk':kindOf (SortSt.mk' (kindOf st) (arrOf st) (pendingOf st) (mg-1) (failedOf st))=kd:=hk
      have hxa:=L.ha
      have hyb:=L.hb
      refine wpS_bind (ak (by lia) ?_)
      refine wpS_bind (bz C hk' (by lia) (by lia) (gb _ (by lia)) (fun i z=>ga _ (by lia)) (fun i j z1 z2 z3=> ?_) fun p u1 u2 u3=> ?_)
      ·unfold bey at z3|-
       rw [if_neg Bool.false_ne_true] at z3|-
       have q0:W.lt (kAt b (y-1)) (kAt a (0+j))=false:=by simpa using z3
       have q1:W.le (kAt a (0+i)) (kAt b (y-1)):=Wk.av (sa _ _ (Nat.zero_le _) (by lia) (by lia)) q0
       have q2:W.lt (kAt b (y-1)) (kAt a (0+i))=false:=q1
       simpa using q2
      ·have le0: ∀j,j<p->W.le (kAt a j) (kAt b (y-1)):=fun j z1=>by
        have:=u2 j z1
        unfold bey at this
        rw [if_neg Bool.false_ne_true,Nat.zero_add] at this
        have q0:W.lt (kAt b (y-1)) (kAt a j)=false:=by simpa using this
        exact q0
       have gt0: ∀j,p<=j->j<x->W.lt (kAt b (y-1)) (kAt a j)=true:=fun j z1 z2=>by
        have:=u3 j z1 z2
        unfold bey at this
        rw [if_neg Bool.false_ne_true,Nat.zero_add] at this
        simpa using this
       dsimp only
       by_cases hk1:x-p>0
       ·rw [if_pos hk1]
        have L1:=ai.aN sa (x-p) p (by rw [show p+(x-p)=x by lia];exact L) fun j z1 z2 i z3=>Wk.av (sb i (y-1) (Nat.zero_le _) (by lia) (by lia)) (Wk.aC (gt0 j z1 (by lia)))
        rw [show p+(x-p)=x by lia] at L1
        by_cases hx1:p=0
        ·rw [if_pos (by simpa using hx1)]
         exact wpS_pure (.inl ⟨_,_,_,rfl,rfl,fin_ok L1 hx1⟩)
        ·rw [if_neg (by simpa using hx1)]
         have le1:=le0
         have bx1:1<=p:=by lia
         generalize o++(a.extract p x).reverse=o1 at L1|-
         generalize hpp:p=x1 at L1 le1 bx1|-
         have px1:x1<=x:=by lia
         refine wpS_bind (ak (by lia) ?_)
         have L2:ai W a b _ x1 (y-1):=ai.b1 (nb:=y-1) (by rw [show y-1+1=y by lia];exact L1) sb le1
         by_cases hy1:y-1=1
         ·rw [if_pos (by simpa using hy1)]
          exact wpS_pure (.inl ⟨_,_,_,rfl,rfl,fob_ok L2 hy1⟩)
         ·rw [if_neg (by simpa using hy1)]
          refine wpS_bind (ak (by lia) ?_)
          refine wpS_bind (bz C hk' (by lia) (by lia) (ga _ (by lia)) (fun i z=>gb _ (by lia)) (fun i j z1 z2 z3=> ?_) fun p2 u1 u2 u3=> ?_)
          ·unfold bey at z3|-
           rw [if_pos rfl] at z3|-
           exact Wk.bP (sb _ _ (Nat.zero_le _) (by lia) (by lia)) z3
          ·have lt2: ∀j,j<p2->W.lt (kAt b j) (kAt a (x1-1))=true:=fun j z1=>by
            have:=u2 j z1
            unfold bey at this
            rw [if_pos rfl,Nat.zero_add] at this
            exact this
           have ge2: ∀j,p2<=j->j<y-1->W.le (kAt a (x1-1)) (kAt b j):=fun j z1 z2=>by
            have:=u3 j z1 z2
            unfold bey at this
            rw [if_pos rfl,Nat.zero_add] at this
            exact this
           have hp2:1<=p2:=by
            rcases Nat.eq_zero_or_pos p2 with z|z
            ·have z1:=ge2 0 (by lia) (by lia)
             have z2:W.lt (kAt b 0) (kAt a (x1-1))=true:=Wk.bJ h0 (sa 0 (x1-1) (Nat.zero_le _) (by lia) (by have:=L1.ha;lia))
             unfold Wk.le at z1
             rw [z2] at z1
             cases z1
            ·exact z
           dsimp only
           by_cases hk2:y-1-p2>0
           ·rw [if_pos hk2]
            have L3:=ai.bN (out:=_) sb (y-1-p2) p2 (by rw [show p2+(y-1-p2)=y-1 by lia];exact L2) fun j z1 z2 i z3=>Wk.av (sa i (x1-1) (Nat.zero_le _) (by lia) (by have:=L1.ha;lia)) (ge2 j z1 (by lia))
            rw [show p2+(y-1-p2)=y-1 by lia] at L3
            by_cases hy2:p2=1
            ·rw [if_pos (by simpa using hy2)]
             exact wpS_pure (.inl ⟨_,_,_,rfl,rfl,fob_ok L3 hy2⟩)
            ·rw [if_neg (by simpa using hy2),if_neg (by simp;lia)]
             have lb2: ∀j,j<p2->W.le (kAt b j) (kAt a (x1-1)):=fun j z=>Wk.aC (lt2 j z)
             refine wpS_bind (ak (by lia) ?_)
             have L4:ai W a b _ (x1-1) _:=ai.a1 (na:=x1-1) (by rw [show x1-1+1=x1 by lia];exact L3) sa lb2
             by_cases hx3:x1-1=0
             ·rw [if_pos (by simpa using hx3)]
              exact wpS_pure (.inl ⟨_,_,_,rfl,rfl,fin_ok L4 hx3⟩)
             ·rw [if_neg (by simpa using hx3)]
              split
              ·exact wpS_pure (.inr ⟨_,_,_,_,_,_,_,rfl,rfl,L4,by lia,by lia,by lia⟩)
              ·exact wpS_pure ⟨_,_,_,_,_,_,_,rfl,rfl,L4,by lia,by lia,by lia⟩
           ·rw [if_neg hk2]
            have L3:=L2
            have lb2: ∀j,j<y-1->W.le (kAt b j) (kAt a (x1-1)):=fun j z=>Wk.aC (lt2 j (by lia))
            refine wpS_bind (ak (by lia) ?_)
            have L4:ai W a b _ (x1-1) _:=ai.a1 (na:=x1-1) (by rw [show x1-1+1=x1 by lia];exact L3) sa lb2
            by_cases hx3:x1-1=0
            ·rw [if_pos (by simpa using hx3)]
             exact wpS_pure (.inl ⟨_,_,_,rfl,rfl,fin_ok L4 hx3⟩)
            ·rw [if_neg (by simpa using hx3)]
             split
             ·exact wpS_pure (.inr ⟨_,_,_,_,_,_,_,rfl,rfl,L4,by lia,by lia,by lia⟩)
             ·exact wpS_pure ⟨_,_,_,_,_,_,_,rfl,rfl,L4,by lia,by lia,by lia⟩
       ·rw [if_neg hk1]
        have L1:=L
        have le1: ∀j,j<x->W.le (kAt a j) (kAt b (y-1)):=fun j z1=>le0 j (by lia)
        have bx1:1<=x:=by lia
        generalize hxx:x=x1 at L1 le1 bx1|-
        have px1:x1<=x:=by lia
        have hxp:x1-p=x-p:=by lia
        refine wpS_bind (ak (by lia) ?_)
        have L2:ai W a b _ x1 (y-1):=ai.b1 (nb:=y-1) (by rw [show y-1+1=y by lia];exact L1) sb le1
        by_cases hy1:y-1=1
        ·rw [if_pos (by simpa using hy1)]
         exact wpS_pure (.inl ⟨_,_,_,rfl,rfl,fob_ok L2 hy1⟩)
        ·rw [if_neg (by simpa using hy1)]
         refine wpS_bind (ak (by lia) ?_)
         refine wpS_bind (bz C hk' (by lia) (by lia) (ga _ (by lia)) (fun i z=>gb _ (by lia)) (fun i j z1 z2 z3=> ?_) fun p2 u1 u2 u3=> ?_)
         ·unfold bey at z3|-
          rw [if_pos rfl] at z3|-
          exact Wk.bP (sb _ _ (Nat.zero_le _) (by lia) (by lia)) z3
         ·have lt2: ∀j,j<p2->W.lt (kAt b j) (kAt a (x1-1))=true:=fun j z1=>by
           have:=u2 j z1
           unfold bey at this
           rw [if_pos rfl,Nat.zero_add] at this
           exact this
          have ge2: ∀j,p2<=j->j<y-1->W.le (kAt a (x1-1)) (kAt b j):=fun j z1 z2=>by
           have:=u3 j z1 z2
           unfold bey at this
           rw [if_pos rfl,Nat.zero_add] at this
           exact this
          have hp2:1<=p2:=by
           rcases Nat.eq_zero_or_pos p2 with z|z
           ·have z1:=ge2 0 (by lia) (by lia)
            have z2:W.lt (kAt b 0) (kAt a (x1-1))=true:=Wk.bJ h0 (sa 0 (x1-1) (Nat.zero_le _) (by lia) (by have:=L1.ha;lia))
            unfold Wk.le at z1
            rw [z2] at z1
            cases z1
           ·exact z
          dsimp only
          by_cases hk2:y-1-p2>0
          ·rw [if_pos hk2]
           have L3:=ai.bN (out:=_) sb (y-1-p2) p2 (by rw [show p2+(y-1-p2)=y-1 by lia];exact L2) fun j z1 z2 i z3=>Wk.av (sa i (x1-1) (Nat.zero_le _) (by lia) (by have:=L1.ha;lia)) (ge2 j z1 (by lia))
           rw [show p2+(y-1-p2)=y-1 by lia] at L3
           by_cases hy2:p2=1
           ·rw [if_pos (by simpa using hy2)]
            exact wpS_pure (.inl ⟨_,_,_,rfl,rfl,fob_ok L3 hy2⟩)
           ·rw [if_neg (by simpa using hy2),if_neg (by simp;lia)]
            have lb2: ∀j,j<p2->W.le (kAt b j) (kAt a (x1-1)):=fun j z=>Wk.aC (lt2 j z)
            refine wpS_bind (ak (by lia) ?_)
            have L4:ai W a b _ (x1-1) _:=ai.a1 (na:=x1-1) (by rw [show x1-1+1=x1 by lia];exact L3) sa lb2
            by_cases hx3:x1-1=0
            ·rw [if_pos (by simpa using hx3)]
             exact wpS_pure (.inl ⟨_,_,_,rfl,rfl,fin_ok L4 hx3⟩)
            ·rw [if_neg (by simpa using hx3)]
             split
             ·exact wpS_pure (.inr ⟨_,_,_,_,_,_,_,rfl,rfl,L4,by lia,by lia,by lia⟩)
             ·exact wpS_pure ⟨_,_,_,_,_,_,_,rfl,rfl,L4,by lia,by lia,by lia⟩
          ·rw [if_neg hk2]
           have L3:=L2
           have lb2: ∀j,j<y-1->W.le (kAt b j) (kAt a (x1-1)):=fun j z=>Wk.aC (lt2 j (by lia))
           refine wpS_bind (ak (by lia) ?_)
           have L4:ai W a b _ (x1-1) _:=ai.a1 (na:=x1-1) (by rw [show x1-1+1=x1 by lia];exact L3) sa lb2
           by_cases hx3:x1-1=0
           ·rw [if_pos (by simpa using hx3)]
            exact wpS_pure (.inl ⟨_,_,_,rfl,rfl,fin_ok L4 hx3⟩)
           ·rw [if_neg (by simpa using hx3)]
            split
            ·exact wpS_pure (.inr ⟨_,_,_,_,_,_,_,rfl,rfl,L4,by lia,by lia,by lia⟩)
            ·exact wpS_pure ⟨_,_,_,_,_,_,_,rfl,rfl,L4,by lia,by lia,by lia⟩
     ·rw [if_neg hmg]
      refine wpS_bind (wpS_modify ?_)
      have hk':kindOf (SortSt.mk' (kindOf st) (arrOf st) (pendingOf st) mg (failedOf st))=kd:=hk
      have hxa:=L.ha
      have hyb:=L.hb
      refine wpS_bind (ak (by lia) ?_)
      refine wpS_bind (bz C hk' (by lia) (by lia) (gb _ (by lia)) (fun i z=>ga _ (by lia)) (fun i j z1 z2 z3=> ?_) fun p u1 u2 u3=> ?_)
      ·unfold bey at z3|-
       rw [if_neg Bool.false_ne_true] at z3|-
       have q0:W.lt (kAt b (y-1)) (kAt a (0+j))=false:=by simpa using z3
       have q1:W.le (kAt a (0+i)) (kAt b (y-1)):=Wk.av (sa _ _ (Nat.zero_le _) (by lia) (by lia)) q0
       have q2:W.lt (kAt b (y-1)) (kAt a (0+i))=false:=q1
       simpa using q2
      ·have le0: ∀j,j<p->W.le (kAt a j) (kAt b (y-1)):=fun j z1=>by
        have:=u2 j z1
        unfold bey at this
        rw [if_neg Bool.false_ne_true,Nat.zero_add] at this
        have q0:W.lt (kAt b (y-1)) (kAt a j)=false:=by simpa using this
        exact q0
       have gt0: ∀j,p<=j->j<x->W.lt (kAt b (y-1)) (kAt a j)=true:=fun j z1 z2=>by
        have:=u3 j z1 z2
        unfold bey at this
        rw [if_neg Bool.false_ne_true,Nat.zero_add] at this
        simpa using this
       dsimp only
       by_cases hk1:x-p>0
       ·rw [if_pos hk1]
        have L1:=ai.aN sa (x-p) p (by rw [show p+(x-p)=x by lia];exact L) fun j z1 z2 i z3=>Wk.av (sb i (y-1) (Nat.zero_le _) (by lia) (by lia)) (Wk.aC (gt0 j z1 (by lia)))
        rw [show p+(x-p)=x by lia] at L1
        by_cases hx1:p=0
        ·rw [if_pos (by simpa using hx1)]
         exact wpS_pure (.inl ⟨_,_,_,rfl,rfl,fin_ok L1 hx1⟩)
        ·rw [if_neg (by simpa using hx1)]
         have le1:=le0
         have bx1:1<=p:=by lia
         generalize o++(a.extract p x).reverse=o1 at L1|-
         generalize hpp:p=x1 at L1 le1 bx1|-
         have px1:x1<=x:=by lia
         refine wpS_bind (ak (by lia) ?_)
         have L2:ai W a b _ x1 (y-1):=ai.b1 (nb:=y-1) (by rw [show y-1+1=y by lia];exact L1) sb le1
         by_cases hy1:y-1=1
         ·rw [if_pos (by simpa using hy1)]
          exact wpS_pure (.inl ⟨_,_,_,rfl,rfl,fob_ok L2 hy1⟩)
         ·rw [if_neg (by simpa using hy1)]
          refine wpS_bind (ak (by lia) ?_)
          refine wpS_bind (bz C hk' (by lia) (by lia) (ga _ (by lia)) (fun i z=>gb _ (by lia)) (fun i j z1 z2 z3=> ?_) fun p2 u1 u2 u3=> ?_)
          ·unfold bey at z3|-
           rw [if_pos rfl] at z3|-
           exact Wk.bP (sb _ _ (Nat.zero_le _) (by lia) (by lia)) z3
          ·have lt2: ∀j,j<p2->W.lt (kAt b j) (kAt a (x1-1))=true:=fun j z1=>by
            have:=u2 j z1
            unfold bey at this
            rw [if_pos rfl,Nat.zero_add] at this
            exact this
           have ge2: ∀j,p2<=j->j<y-1->W.le (kAt a (x1-1)) (kAt b j):=fun j z1 z2=>by
            have:=u3 j z1 z2
            unfold bey at this
            rw [if_pos rfl,Nat.zero_add] at this
            exact this
           have hp2:1<=p2:=by
            rcases Nat.eq_zero_or_pos p2 with z|z
            ·have z1:=ge2 0 (by lia) (by lia)
             have z2:W.lt (kAt b 0) (kAt a (x1-1))=true:=Wk.bJ h0 (sa 0 (x1-1) (Nat.zero_le _) (by lia) (by have:=L1.ha;lia))
             unfold Wk.le at z1
             rw [z2] at z1
             cases z1
            ·exact z
           dsimp only
           by_cases hk2:y-1-p2>0
           ·rw [if_pos hk2]
            have L3:=ai.bN (out:=_) sb (y-1-p2) p2 (by rw [show p2+(y-1-p2)=y-1 by lia];exact L2) fun j z1 z2 i z3=>Wk.av (sa i (x1-1) (Nat.zero_le _) (by lia) (by have:=L1.ha;lia)) (ge2 j z1 (by lia))
            rw [show p2+(y-1-p2)=y-1 by lia] at L3
            by_cases hy2:p2=1
            ·rw [if_pos (by simpa using hy2)]
             exact wpS_pure (.inl ⟨_,_,_,rfl,rfl,fob_ok L3 hy2⟩)
            ·rw [if_neg (by simpa using hy2),if_neg (by simp;lia)]
             have lb2: ∀j,j<p2->W.le (kAt b j) (kAt a (x1-1)):=fun j z=>Wk.aC (lt2 j z)
             refine wpS_bind (ak (by lia) ?_)
             have L4:ai W a b _ (x1-1) _:=ai.a1 (na:=x1-1) (by rw [show x1-1+1=x1 by lia];exact L3) sa lb2
             by_cases hx3:x1-1=0
             ·rw [if_pos (by simpa using hx3)]
              exact wpS_pure (.inl ⟨_,_,_,rfl,rfl,fin_ok L4 hx3⟩)
             ·rw [if_neg (by simpa using hx3)]
              split
              ·exact wpS_pure (.inr ⟨_,_,_,_,_,_,_,rfl,rfl,L4,by lia,by lia,by lia⟩)
              ·exact wpS_pure ⟨_,_,_,_,_,_,_,rfl,rfl,L4,by lia,by lia,by lia⟩
           ·rw [if_neg hk2]
            have L3:=L2
            have lb2: ∀j,j<y-1->W.le (kAt b j) (kAt a (x1-1)):=fun j z=>Wk.aC (lt2 j (by lia))
            refine wpS_bind (ak (by lia) ?_)
            have L4:ai W a b _ (x1-1) _:=ai.a1 (na:=x1-1) (by rw [show x1-1+1=x1 by lia];exact L3) sa lb2
            by_cases hx3:x1-1=0
            ·rw [if_pos (by simpa using hx3)]
             exact wpS_pure (.inl ⟨_,_,_,rfl,rfl,fin_ok L4 hx3⟩)
            ·rw [if_neg (by simpa using hx3)]
             split
             ·exact wpS_pure (.inr ⟨_,_,_,_,_,_,_,rfl,rfl,L4,by lia,by lia,by lia⟩)
             ·exact wpS_pure ⟨_,_,_,_,_,_,_,rfl,rfl,L4,by lia,by lia,by lia⟩
       ·rw [if_neg hk1]
        have L1:=L
        have le1: ∀j,j<x->W.le (kAt a j) (kAt b (y-1)):=fun j z1=>le0 j (by lia)
        have bx1:1<=x:=by lia
        generalize hxx:x=x1 at L1 le1 bx1|-
        have px1:x1<=x:=by lia
        have hxp:x1-p=x-p:=by lia
        refine wpS_bind (ak (by lia) ?_)
        have L2:ai W a b _ x1 (y-1):=ai.b1 (nb:=y-1) (by rw [show y-1+1=y by lia];exact L1) sb le1
        by_cases hy1:y-1=1
        ·rw [if_pos (by simpa using hy1)]
         exact wpS_pure (.inl ⟨_,_,_,rfl,rfl,fob_ok L2 hy1⟩)
        ·rw [if_neg (by simpa using hy1)]
         refine wpS_bind (ak (by lia) ?_)
         refine wpS_bind (bz C hk' (by lia) (by lia) (ga _ (by lia)) (fun i z=>gb _ (by lia)) (fun i j z1 z2 z3=> ?_) fun p2 u1 u2 u3=> ?_)
         ·unfold bey at z3|-
          rw [if_pos rfl] at z3|-
          exact Wk.bP (sb _ _ (Nat.zero_le _) (by lia) (by lia)) z3
         ·have lt2: ∀j,j<p2->W.lt (kAt b j) (kAt a (x1-1))=true:=fun j z1=>by
           have:=u2 j z1
           unfold bey at this
           rw [if_pos rfl,Nat.zero_add] at this
           exact this
          have ge2: ∀j,p2<=j->j<y-1->W.le (kAt a (x1-1)) (kAt b j):=fun j z1 z2=>by
           have:=u3 j z1 z2
           unfold bey at this
           rw [if_pos rfl,Nat.zero_add] at this
           exact this
          have hp2:1<=p2:=by
           rcases Nat.eq_zero_or_pos p2 with z|z
           ·have z1:=ge2 0 (by lia) (by lia)
            have z2:W.lt (kAt b 0) (kAt a (x1-1))=true:=Wk.bJ h0 (sa 0 (x1-1) (Nat.zero_le _) (by lia) (by have:=L1.ha;lia))
            unfold Wk.le at z1
            rw [z2] at z1
            cases z1
           ·exact z
          dsimp only
          by_cases hk2:y-1-p2>0
          ·rw [if_pos hk2]
           have L3:=ai.bN (out:=_) sb (y-1-p2) p2 (by rw [show p2+(y-1-p2)=y-1 by lia];exact L2) fun j z1 z2 i z3=>Wk.av (sa i (x1-1) (Nat.zero_le _) (by lia) (by have:=L1.ha;lia)) (ge2 j z1 (by lia))
           rw [show p2+(y-1-p2)=y-1 by lia] at L3
           by_cases hy2:p2=1
           ·rw [if_pos (by simpa using hy2)]
            exact wpS_pure (.inl ⟨_,_,_,rfl,rfl,fob_ok L3 hy2⟩)
           ·rw [if_neg (by simpa using hy2),if_neg (by simp;lia)]
            have lb2: ∀j,j<p2->W.le (kAt b j) (kAt a (x1-1)):=fun j z=>Wk.aC (lt2 j z)
            refine wpS_bind (ak (by lia) ?_)
            have L4:ai W a b _ (x1-1) _:=ai.a1 (na:=x1-1) (by rw [show x1-1+1=x1 by lia];exact L3) sa lb2
            by_cases hx3:x1-1=0
            ·rw [if_pos (by simpa using hx3)]
             exact wpS_pure (.inl ⟨_,_,_,rfl,rfl,fin_ok L4 hx3⟩)
            ·rw [if_neg (by simpa using hx3)]
             split
             ·exact wpS_pure (.inr ⟨_,_,_,_,_,_,_,rfl,rfl,L4,by lia,by lia,by lia⟩)
             ·exact wpS_pure ⟨_,_,_,_,_,_,_,rfl,rfl,L4,by lia,by lia,by lia⟩
          ·rw [if_neg hk2]
           have L3:=L2
           have lb2: ∀j,j<y-1->W.le (kAt b j) (kAt a (x1-1)):=fun j z=>Wk.aC (lt2 j (by lia))
           refine wpS_bind (ak (by lia) ?_)
           have L4:ai W a b _ (x1-1) _:=ai.a1 (na:=x1-1) (by rw [show x1-1+1=x1 by lia];exact L3) sa lb2
           by_cases hx3:x1-1=0
           ·rw [if_pos (by simpa using hx3)]
            exact wpS_pure (.inl ⟨_,_,_,rfl,rfl,fin_ok L4 hx3⟩)
           ·rw [if_neg (by simpa using hx3)]
            split
            ·exact wpS_pure (.inr ⟨_,_,_,_,_,_,_,rfl,rfl,L4,by lia,by lia,by lia⟩)
            ·exact wpS_pure ⟨_,_,_,_,_,_,_,rfl,rfl,L4,by lia,by lia,by lia⟩
end
end DhSort
set_option maxHeartbeats 4000000
namespace DhSort
open PySem PyProof.Rows
noncomputable abbrev Run:=Nat×Nat×Nat
noncomputable def aj (W:Wk) (xs:Array Keyed):Nat->List Run->Nat->Prop
 |p,[],q=>p=q
 |p,(s,n,_)::r,q=>s=p/\1<=n/\ao W xs p (p+n)/\aj W xs (p+n) r q
theorem ao.same {W:Wk}{xs ys:Array Keyed}{lo hi:Nat} (h:ao W xs lo hi) (e: ∀j,lo<=j->j<hi->kAt ys j=kAt xs j):ao W ys lo hi:=fun i j z1 z2 z3=>by
 rw [e i z1 (by lia),e j (by lia) z3]
 exact h i j z1 z2 z3
section
variable {W:Wk}{xs ys:Array Keyed}
theorem aj.le: ∀{l:List Run}{p q:Nat},aj W xs p l q->p<=q
 |[],p,q,h=>Nat.le_of_eq h
 |(s,n,_)::r,p,q,h=>by
  have:=aj.le h.2.2.2
  lia
theorem aj.len: ∀{l:List Run}{p q:Nat},aj W xs p l q->p+l.length<=q
 |[],p,q,h=>Nat.le_of_eq (show p+0=q from h)
 |(s,n,_)::r,p,q,h=>by
  have:=aj.len h.2.2.2
  have:=h.2.1
  rw [List.length_cons]
  lia
theorem aj.same: ∀{l:List Run}{p q:Nat},aj W xs p l q->(∀j,p<=j->j<q->kAt ys j=kAt xs j)->aj W ys p l q
 |[],p,q,h,_=>h
 |(s,n,_)::r,p,q,h,e=>by
  have hl:=aj.le h.2.2.2
  exact ⟨h.1,h.2.1,h.2.2.1.same fun j z1 z2=>e j z1 (by lia),aj.same h.2.2.2 fun j z1 z2=>e j (by lia) z2⟩
theorem aj.snoc: ∀{l:List Run}{p q n t:Nat},aj W xs p l q->1<=n->ao W xs q (q+n)->aj W xs p (l++[(q,n,t)]) (q+n)
 |[],p,q,n,t,h,h1,hs=>by
  have h:p=q:=h
  subst h
  exact ⟨rfl,h1,hs,rfl⟩
 |(s,m,_)::r,p,q,n,t,h,h1,hs=>⟨h.1,h.2.1,h.2.2.1,aj.snoc h.2.2.2 h1 hs⟩
theorem aj.at: ∀{l:List Run}{p q i sa na pw:Nat},aj W xs p l q->l[i]?=some (sa,na,pw)->p<=sa/\1<=na/\sa+na<=q/\ao W xs sa (sa+na)
 |[],p,q,i,sa,na,pw,h,e=>by simp at e
 |(s,m,t)::r,p,q,0,sa,na,pw,h,e=>by
  simp only [List.getElem?_cons_zero,Option.some.injEq,Prod.mk.injEq] at e
  obtain ⟨rfl,rfl,rfl⟩:=e
  obtain ⟨rfl,h1,h2,h3⟩:=h
  exact ⟨Nat.le_refl _,h1,aj.le h3,h2⟩
 |(s,m,t)::r,p,q,i+1,sa,na,pw,h,e=>by
  have q:=aj.at (i:=i) h.2.2.2 (by simpa using e)
  exact ⟨by lia,q.2.1,q.2.2.1,q.2.2.2⟩
theorem aj.next: ∀{l:List Run}{p q i sa na pw sb nb pw2:Nat},aj W xs p l q->l[i]?=some (sa,na,pw)->l[i+1]?=some (sb,nb,pw2)->sb=sa+na
 |[],p,q,i,sa,na,pw,sb,nb,pw2,h,e,_=>by simp at e
 |(s,m,t)::r,p,q,0,sa,na,pw,sb,nb,pw2,h,e,e2=>by
  simp only [List.getElem?_cons_zero,Option.some.injEq,Prod.mk.injEq] at e
  obtain ⟨rfl,rfl,rfl⟩:=e
  cases r with
  |nil=>simp at e2
  |cons x r=>
   obtain ⟨s2,m2,t2⟩:=x
   simp only [List.getElem?_cons_succ,List.getElem?_cons_zero,Option.some.injEq,Prod.mk.injEq,Nat.zero_add] at e2
   obtain ⟨rfl,rfl,rfl⟩:=e2
   obtain ⟨rfl,_,_,h3⟩:=h
   exact h3.1
 |(s,m,t)::r,p,q,i+1,sa,na,pw,sb,nb,pw2,h,e,e2=>aj.next (i:=i) h.2.2.2 (by simpa using e) (by simpa using e2)
theorem aj.merge: ∀{l:List Run}{p q i sa na pw sb nb pw2:Nat},aj W xs p l q->l[i]?=some (sa,na,pw)->l[i+1]?=some (sb,nb,pw2)->(∀j,j<sa \/sb+nb<=j->kAt ys j=kAt xs j)->ao W ys sa (sb+nb)->
  aj W ys p ((l.set i (sa,na+nb,pw)).eraseIdx (i+1)) q
 |[],p,q,i,sa,na,pw,sb,nb,pw2,h,e,_,_,_=>by simp at e
 |(s,m,t)::r,p,q,0,sa,na,pw,sb,nb,pw2,h,e,e2,fr,sr=>by
  simp only [List.getElem?_cons_zero,Option.some.injEq,Prod.mk.injEq] at e
  obtain ⟨rfl,rfl,rfl⟩:=e
  cases r with
  |nil=>simp at e2
  |cons x r=>
   obtain ⟨s2,m2,t2⟩:=x
   simp only [List.getElem?_cons_succ,List.getElem?_cons_zero,Option.some.injEq,Prod.mk.injEq,Nat.zero_add] at e2
   obtain ⟨rfl,rfl,rfl⟩:=e2
   obtain ⟨rfl,h1,_,h3⟩:=h
   obtain ⟨e3,h4,_,h5⟩:=h3
   subst e3
   show aj W ys s ((s,m+m2,t)::r) q
   refine ⟨rfl,by lia,?_,?_⟩
   ·rw [<-Nat.add_assoc];exact sr
   ·rw [<-Nat.add_assoc]
    exact h5.same fun j z1 z2=>fr j (.inr z1)
 |(s,m,t)::r,p,q,i+1,sa,na,pw,sb,nb,pw2,h,e,e2,fr,sr=>by
  have e':r[i]?=some (sa,na,pw):=by simpa using e
  have e2':r[i+1]?=some (sb,nb,pw2):=by simpa using e2
  have hat:=aj.at h.2.2.2 e'
  show aj W ys p ((s,m,t)::(r.set i (sa,na+nb,pw)).eraseIdx (i+1)) q
  exact ⟨h.1,h.2.1,h.2.2.1.same fun j z1 z2=>fr j (.inl (by lia)),aj.merge h.2.2.2 e' e2' fr sr⟩
theorem aj.repow: ∀{l:List Run}{p q i:Nat}{f:Nat->Nat},aj W xs p l q->aj W xs p (l.modify i fun x=>(x.1,x.2.1,f x.2.2)) q
 |[],p,q,i,f,h=>by simpa using h
 |(s,m,t)::r,p,q,0,f,h=>by
  show aj W xs p ((s,m,f t)::r) q
  exact h
 |(s,m,t)::r,p,q,i+1,f,h=>by
  show aj W xs p ((s,m,t)::r.modify i _) q
  exact ⟨h.1,h.2.1,h.2.2.1,aj.repow h.2.2.2⟩
end
theorem aj.repowC {W:Wk}{xs:Array Keyed}{l:List Run}{p q i t:Nat} (h:aj W xs p l q):aj W xs p (l.modify i fun x=>(x.1,x.2.1,t)) q:=aj.repow (f:=fun _=>t) h
theorem lx {p:Nat}: ∀(l:List Keyed) (n:Nat) (xs:Array Keyed),p+n+l.length<=xs.size->
  ((l.zipIdx n).foldl (fun a (x:Keyed×Nat)=>a.setIfInBounds (p+x.2) x.1) xs).toList=xs.toList.take (p+n)++l++xs.toList.drop (p+n+l.length)
 |[],n,xs,h=>by simp
 |x::l,n,xs,h=>by
  rw [List.zipIdx_cons,List.foldl_cons,lx l (n+1) _ (by rw [Array.size_setIfInBounds];rw [List.length_cons] at h;lia)]
  rw [List.length_cons] at h
  have hlt:p+n<xs.toList.length:=by simp;lia
  rw [Array.toList_setIfInBounds,<-Nat.add_assoc,List.take_succ,List.length_cons]
  rw [List.drop_set_of_lt (by lia),List.getElem?_set_self hlt,List.take_set_of_le (by lia)]
  rw [show p+n+1+l.length=p+n+(l.length+1) by lia]
  simp
theorem cZ {xs:Array Keyed}{i:Nat}:kAt xs i=(xs.toList[i]?).getD (Value.none,Value.none):=by
 unfold kAt
 simp
theorem ut (i:Nat):mergeAt' i=(do
 let s0<-get
 let (some (sa,na,pw),some (sb,nb,_)):=((pendingOf s0)[i]?,(pendingOf s0)[i+1]?)|unsupported "internal:list.sort.pending"
 set (SortSt.mk' (kindOf s0) (arrOf s0) (((pendingOf s0).setIfInBounds i (sa,na+nb,pw)).eraseIdxIfInBounds (i+1)) (gallopOf s0) (failedOf s0))
 let some k<-gal false (<-elem' (arrOf s0) sb) (arrOf s0) sa na 0|return false
 let (sa,na):=(sa+k,na-k)
 if na==0 then return true
 let some nb<-gal true (<-elem' (arrOf s0) (sa+na-1)) (arrOf s0) sb nb (nb-1)|return false
 if nb==0 then return true
 let x:=(arrOf s0).extract sa sb
 let y:=(arrOf s0).extract sb (sb+nb)
 let mrg<-if na<=nb then mLo x y else mHi x y
 modify fun st=>setArr st (mrg.toList.zipIdx.foldl (fun a (p,j)=>a.setIfInBounds (sa+j) p) (arrOf st))
 return (failedOf (<-get)).isNone):=rfl
theorem lz {xs:Array Keyed}{lo hi i:Nat} (h:lo+i<hi) (h2:hi<=xs.size):kAt (xs.extract lo hi) i=kAt xs (lo+i):=by
 rw [cZ,cZ,Array.toList_extract,List.extract_eq_drop_take,List.getElem?_take,if_pos (by lia),List.getElem?_drop]
theorem uu {xs:Array Keyed}{i:Nat} (h:i<xs.size):kAt xs i∈xs.toList:=List.mem_of_getElem? (dA h)
theorem lA {xs:Array Keyed}{x:Keyed} (h:x∈xs.toList): ∃i,i<xs.size/\x=kAt xs i:=by
 obtain ⟨i,hi⟩:=List.mem_iff_getElem?.mp h
 have hl:i<xs.size:=by simpa using (List.getElem?_eq_some_iff.mp hi).1
 rw [dA hl] at hi
 exact ⟨i,hl,(Option.some.inj hi).symm⟩
theorem uv {W:Wk}{xs:Array Keyed} (h:xs.toList.Pairwise W.le) {i j:Nat} (hij:i<=j) (hj:j<xs.size):W.le (kAt xs i) (kAt xs j):=by
 by_cases e:i=j
 ·subst e;exact Wk.bi
 ·have h1:i<xs.toList.length:=by simp;lia
  have h2:j<xs.toList.length:=by simp;lia
  have q:=List.pairwise_iff_getElem.mp h i j h1 h2 (by lia)
  have e1:=dA (a:=xs) (i:=i) (by lia)
  have e2:=dA (a:=xs) (i:=j) hj
  rw [List.getElem?_eq_getElem h1] at e1
  rw [List.getElem?_eq_getElem h2] at e2
  rw [<-Option.some.inj e1,<-Option.some.inj e2]
  exact q
section
variable {prog:Program}{w:World}{A:Around}{E:Value->Shared->Prop}{s:Shared}{W:Wk}{kd:SortKind}{good:Keyed->Prop}{a₀:Array Keyed}{P:Array Run}{st:SortSt}
theorem uw {x:SortSt}{Q:PUnit->SortSt->Prop} (h:Q ⟨⟩ x):wpS (model prog w) A E s (set x:StateT SortSt Sem PUnit) Q st:=by
 unfold wpS
 exact wpAny_pure ⟨rfl,h⟩
theorem iu (C:Cmp W kd good prog w A s) (hg: ∀p,p∈a₀.toList->good p) {i sa na pw sb nb pw2:Nat} (B:Bs a₀ kd P st) (e1:P[i]?=some (sa,na,pw)) (e2:P[i+1]?=some (sb,nb,pw2)) (hsb:sb=sa+na) (h1:1<=na) (h2:1<=nb) (hz:sb+nb<=a₀.size)
  (s1:ao W (arrOf st) sa (sa+na)) (s2:ao W (arrOf st) sb (sb+nb)) {Q:Bool->SortSt->Prop}
  (h: ∀st',Bs a₀ kd ((P.setIfInBounds i (sa,na+nb,pw)).eraseIdxIfInBounds (i+1)) st'->ao W (arrOf st') sa (sb+nb)->(∀j,j<sa \/sb+nb<=j->kAt (arrOf st') j=kAt (arrOf st) j)->Q true st'):wpS (model prog w) A E s (mergeAt' i) Q st:=by
 rw [ut]
 refine wpS_bind (wpS_get ?_)
 dsimp only
 rw [B.pend,e1,e2]
 dsimp only
 refine wpS_bind (uw ?_)
 have hsz:=B.sz
 subst hsb
 refine wpS_bind (ak (by lia) ?_)
 generalize hP':(P.setIfInBounds i (sa,na+nb,pw)).eraseIdxIfInBounds (i+1)=P' at h|-
 have B1:Bs a₀ kd P' (SortSt.mk' (kindOf st) (arrOf st) P' (gallopOf st) (failedOf st)):=⟨B.perm,B.kind,B.failed,rfl⟩
 have hk':kindOf (SortSt.mk' (kindOf st) (arrOf st) P' (gallopOf st) (failedOf st))=kd:=B.kind
 have gk: ∀j,j<a₀.size->good (kAt (arrOf st) j):=fun j z=>B.gd hg z
 refine wpS_bind (bz C hk' (by lia) (by lia) (gk _ (by lia)) (fun j z=>gk _ (by lia)) (fun i j z1 z2 z3=> ?_) fun k u1 u2 u3=> ?_)
 ·unfold bey at z3|-
  rw [if_neg Bool.false_ne_true] at z3|-
  have q0:W.lt (kAt (arrOf st) (sa+na)) (kAt (arrOf st) (sa+j))=false:=by simpa using z3
  have q1:W.le (kAt (arrOf st) (sa+i)) (kAt (arrOf st) (sa+na)):=Wk.av (s1 _ _ (by lia) (by lia) (by lia)) q0
  have q2:W.lt (kAt (arrOf st) (sa+na)) (kAt (arrOf st) (sa+i))=false:=q1
  simpa using q2
 have le1: ∀j,sa<=j->j<sa+k->W.le (kAt (arrOf st) j) (kAt (arrOf st) (sa+na)):=fun j z1 z2=>by
  have:=u2 (j-sa) (by lia)
  unfold bey at this
  rw [if_neg Bool.false_ne_true,show sa+(j-sa)=j by lia] at this
  have q0:W.lt (kAt (arrOf st) (sa+na)) (kAt (arrOf st) j)=false:=by simpa using this
  exact q0
 have gt1: ∀j,sa+k<=j->j<sa+na->W.lt (kAt (arrOf st) (sa+na)) (kAt (arrOf st) j)=true:=fun j z1 z2=>by
  have:=u3 (j-sa) (by lia) (by lia)
  unfold bey at this
  rw [if_neg Bool.false_ne_true,show sa+(j-sa)=j by lia] at this
  simpa using this
 dsimp only
 by_cases hk:na-k=0
 ·rw [if_pos (by simpa using hk)]
  refine wpS_pure (h _ B1 (fun i j z1 z2 z3=> ?_) fun _ _=>rfl)
  by_cases hj:j<sa+na
  ·exact s1 i j z1 z2 hj
  ·by_cases hi:i<sa+na
   ·exact Wk.av (le1 i z1 (by lia)) (s2 _ _ (Nat.le_refl _) (by lia) z3)
   ·exact s2 i j (by lia) z2 z3
 rw [if_neg (by simpa using hk)]
 refine wpS_bind (ak (by lia) ?_)
 rw [show sa+k+(na-k)-1=sa+na-1 by lia]
 refine wpS_bind (bz C hk' (by lia) (by lia) (gk _ (by lia)) (fun j z=>gk _ (by lia)) (fun i j z1 z2 z3=> ?_) fun m v1 v2 v3=> ?_)
 ·unfold bey at z3|-
  rw [if_pos rfl] at z3|-
  exact Wk.bP (s2 _ _ (by lia) (by lia) (by lia)) z3
 have lt2: ∀j,sa+na<=j->j<sa+na+m->W.lt (kAt (arrOf st) j) (kAt (arrOf st) (sa+na-1))=true:=fun j z1 z2=>by
  have:=v2 (j-(sa+na)) (by lia)
  unfold bey at this
  rw [if_pos rfl,show sa+na+(j-(sa+na))=j by lia] at this
  exact this
 have ge2: ∀j,sa+na+m<=j->j<sa+na+nb->W.le (kAt (arrOf st) (sa+na-1)) (kAt (arrOf st) j):=fun j z1 z2=>by
  have:=v3 (j-(sa+na)) (by lia) (by lia)
  unfold bey at this
  rw [if_pos rfl,show sa+na+(j-(sa+na))=j by lia] at this
  exact this
 have key:=gt1 (sa+na-1) (by lia) (by lia)
 dsimp only
 by_cases hm:m=0
 ·exfalso
  have q:=ge2 (sa+na) (by lia) (by lia)
  unfold Wk.le at q
  rw [key] at q
  cases q
 rw [if_neg (by simpa using hm)]
 generalize hx:(arrOf st).extract (sa+k) (sa+na)=x
 generalize hy:(arrOf st).extract (sa+na) (sa+na+m)=y
 have xsz:x.size=na-k:=by rw [<-hx,Array.size_extract];lia
 have ysz:y.size=m:=by rw [<-hy,Array.size_extract];lia
 have kx: ∀j,j<na-k->kAt x j=kAt (arrOf st) (sa+k+j):=fun j z=>by rw [<-hx];exact lz (by lia) (by lia)
 have ky: ∀j,j<m->kAt y j=kAt (arrOf st) (sa+na+j):=fun j z=>by rw [<-hy];exact lz (by lia) (by lia)
 have gx: ∀j,j<x.size->good (kAt x j):=fun j z=>by rw [kx j (by lia)];exact gk _ (by lia)
 have gy: ∀j,j<y.size->good (kAt y j):=fun j z=>by rw [ky j (by lia)];exact gk _ (by lia)
 have sx:ao W x 0 x.size:=fun i j z1 z2 z3=>by rw [kx i (by lia),kx j (by lia)];exact s1 _ _ (by lia) (by lia) (by lia)
 have sy:ao W y 0 y.size:=fun i j z1 z2 z3=>by rw [ky i (by lia),ky j (by lia)];exact s2 _ _ (by lia) (by lia) (by lia)
 have p0:W.lt (kAt y 0) (kAt x 0)=true:=by rw [kx 0 (by lia),ky 0 (by lia)];exact gt1 _ (by lia) (by lia)
 have p1:W.lt (kAt y (y.size-1)) (kAt x (x.size-1))=true:=by
  rw [kx _ (by lia),ky _ (by lia),show sa+k+(x.size-1)=sa+na-1 by lia]
  exact lt2 _ (by lia) (by lia)
 have fin: ∀r g,One W x y r->wpS (model prog w) A E s (do
   modify fun st=>setArr st (r.toList.zipIdx.foldl (fun a (p,j)=>a.setIfInBounds (sa+k+j) p) (arrOf st))
   let z<-get
   pure (failedOf z).isNone) Q (SortSt.mk' (kindOf st) (arrOf st) P' g (failedOf st)):=by
  intro r g one
  obtain ⟨perm,srt⟩:=one
  have rlen:r.toList.length=na-k+m:=by
   have:=perm.length_eq
   simp only [List.length_append,Array.length_toList,xsz,ysz] at this|-
   exact this
  have rsz:r.size=na-k+m:=by simpa using rlen
  have pb:=lx (p:=sa+k) r.toList 0 (arrOf st) (by rw [rlen];lia)
  rw [Nat.add_zero,rlen] at pb
  generalize hz':(r.toList.zipIdx).foldl (fun a (x:Keyed×Nat)=>a.setIfInBounds (sa+k+x.2) x.1) (arrOf st)=zs at pb
  have hz2:(r.toList.zipIdx).foldl (fun a (p,j)=>a.setIfInBounds (sa+k+j) p) (arrOf st)=zs:=hz'
  refine wpS_bind (wpS_modify (wpS_bind (wpS_get (wpS_pure ?_))))
  show Q (failedOf st).isNone (SortSt.mk' (kindOf st) ((r.toList.zipIdx).foldl (fun a (p,j)=>a.setIfInBounds (sa+k+j) p) (arrOf st)) P' g (failedOf st))
  rw [hz2,B.failed]
  have tl:((arrOf st).toList.take (sa+k)).length=sa+k:=by rw [List.length_take];simp;lia
  have zlo: ∀j,j<sa+k->kAt zs j=kAt (arrOf st) j:=fun j z=>by
   rw [cZ,cZ,pb,List.append_assoc,List.getElem?_append_left (by lia),List.getElem?_take,if_pos z]
  have zmid: ∀j,sa+k<=j->j<sa+na+m->kAt zs j=kAt r (j-(sa+k)):=fun j z1 z2=>by
   rw [cZ,cZ,pb,List.append_assoc,List.getElem?_append_right (by lia),tl,List.getElem?_append_left (by lia)]
  have zhi: ∀j,sa+na+m<=j->kAt zs j=kAt (arrOf st) j:=fun j z=>by
   rw [cZ,cZ,pb,List.append_assoc,List.getElem?_append_right (by lia),tl,List.getElem?_append_right (by lia),rlen,List.getElem?_drop]
   congr 2
   lia
  have rin: ∀j,j<r.size-> ∃i,sa+k<=i/\i<sa+na+m/\kAt r j=kAt (arrOf st) i:=fun j z=>by
   have hm:=perm.mem_iff.mp (uu z)
   rcases List.mem_append.mp hm with q|q
   ·obtain ⟨i,hi,e⟩:=lA q
    exact ⟨sa+k+i,by lia,by lia,by rw [e,kx i (by lia)]⟩
   ·obtain ⟨i,hi,e⟩:=lA q
    exact ⟨sa+na+i,by lia,by lia,by rw [e,ky i (by lia)]⟩
  have zperm:zs.Perm (arrOf st):=by
   rw [Array.perm_iff_toList_perm,pb]
   have hx':x.toList=((arrOf st).toList.drop (sa+k)).take (na-k):=by
    rw [<-hx,Array.toList_extract,List.extract_eq_drop_take,show sa+na-(sa+k)=na-k by lia]
   have hy':y.toList=((arrOf st).toList.drop (sa+na)).take m:=by
    rw [<-hy,Array.toList_extract,List.extract_eq_drop_take,show sa+na+m-(sa+na)=m by lia]
   have hxy:x.toList++y.toList=((arrOf st).toList.drop (sa+k)).take (na-k+m):=by
    rw [hx',hy',List.take_add,List.drop_drop,show sa+k+(na-k)=sa+na by lia]
   have hall:(arrOf st).toList=(arrOf st).toList.take (sa+k)++(((arrOf st).toList.drop (sa+k)).take (na-k+m)++(arrOf st).toList.drop (sa+k+(na-k+m))):=by
    conv=>lhs;rw [<-List.take_append_drop (sa+k) (arrOf st).toList,<-List.take_append_drop (na-k+m) ((arrOf st).toList.drop (sa+k))]
    rw [List.drop_drop]
   conv=>rhs;rw [hall]
   rw [List.append_assoc]
   refine List.Perm.append_left _ (List.Perm.append_right _ ?_)
   rw [<-hxy]
   exact perm
  refine h _ ⟨zperm.trans B.perm,B.kind,rfl,rfl⟩ (fun i j z1 z2 z3=> ?_) fun j z=> ?_
  ·show W.le (kAt zs i) (kAt zs j)
   by_cases c1:j<sa+k
   ·rw [zlo i (by lia),zlo j c1]
    exact s1 i j z1 z2 (by lia)
   ·by_cases c2:j<sa+na+m
    ·rw [zmid j (by lia) c2]
     by_cases c3:i<sa+k
     ·rw [zlo i c3]
      obtain ⟨l,l1,l2,e⟩:=rin (j-(sa+k)) (by lia)
      rw [e]
      by_cases c4:l<sa+na
      ·exact s1 i l z1 (by lia) c4
      ·exact Wk.av (le1 i z1 c3) (s2 _ _ (Nat.le_refl _) (by lia) (by lia))
     ·rw [zmid i (by lia) (by lia)]
      exact uv srt (by lia) (by lia)
    ·rw [zhi j (by lia)]
     by_cases c3:i<sa+k
     ·rw [zlo i c3]
      exact Wk.av (le1 i z1 c3) (s2 _ _ (Nat.le_refl _) (by lia) z3)
     ·by_cases c4:i<sa+na+m
      ·rw [zmid i (by lia) c4]
       obtain ⟨l,l1,l2,e⟩:=rin (i-(sa+k)) (by lia)
       rw [e]
       by_cases c5:l<sa+na
       ·exact Wk.av (s1 l (sa+na-1) (by lia) (by lia) (by lia)) (ge2 j (by lia) z3)
       ·exact s2 l j (by lia) (by lia) z3
      ·rw [zhi i (by lia)]
       exact s2 i j (by lia) z2 z3
  ·show kAt zs j=_
   rcases z with z|z
   ·exact zlo j (by lia)
   ·exact zhi j (by lia)
 by_cases hnm:na-k<=m
 ·rw [if_pos hnm]
  exact wpS_bind (uo (st:=SortSt.mk' (kindOf st) (arrOf st) P' (gallopOf st) (failedOf st)) C B.kind (by lia) (by lia) gx gy sx sy p0 p1 fun r g one=>fin r g one)
 ·rw [if_neg hnm]
  exact wpS_bind (ur (st:=SortSt.mk' (kindOf st) (arrOf st) P' (gallopOf st) (failedOf st)) C B.kind (by lia) (by lia) gx gy sx sy p0 p1 fun r g one=>fin r g one)
theorem ux (C:Cmp W kd good prog w A s) (hg: ∀p,p∈a₀.toList->good p) (B:Bs a₀ kd #[] st) (h2:2<=a₀.size) {Q:Unit->SortSt->Prop}
  (h: ∀st',(arrOf st').Perm a₀->failedOf st'=none->ao W (arrOf st') 0 a₀.size->Q () st'):wpS (model prog w) A E s sortRuns' Q st:=by
 rw [sortRuns'_eq]
 refine wpS_bind (wpS_get ?_)
 try dsimp only
 rw [B.sz]
 generalize minRun' a₀.size a₀.size 0=mr
 refine wpS_bind (wpS_mono (wpS_forRange (I:=fun x c st'=> ∃lo P,c=(none,lo)/\Bs a₀ kd P st'/\aj W (arrOf st') 0 P.toList lo/\lo<=a₀.size/\(x<=lo \/lo=a₀.size))
  (Q:=fun c st'=> ∃P,c=(none,a₀.size)/\Bs a₀ kd P st'/\aj W (arrOf st') 0 P.toList a₀.size) ?stp ?lst ⟨0,#[],rfl,B,rfl,Nat.zero_le _,.inl (Nat.le_refl _)⟩) ?aft)
 case lst=>
  rintro c st' ⟨lo,P,rfl,B1,ch,z1,z2⟩
  obtain rfl:lo=a₀.size:=by lia
  exact ⟨P,rfl,B1,ch⟩
 case stp=>
  rintro x c st' _ hx ⟨lo,P,rfl,B0,ch,z1,z2⟩
  try dsimp only
  by_cases hge:lo>=a₀.size
  ·rw [if_pos hge]
   obtain rfl:lo=a₀.size:=by lia
   exact wpS_pure ⟨P,rfl,B0,ch⟩
  rw [if_neg hge]
  refine wpS_bind (uj C hg (by lia) (by lia) B0 fun m st1 m1 m2 B1 sr1 fr=> ?_)
  have ch1:aj W (arrOf st1) 0 P.toList lo:=ch.same fun j _ z=>fr j z
  try dsimp only
  by_cases hlt:m<mr
  ·rw [if_pos hlt]
   refine wpS_bind (wpS_lift (wpAny_rule ⟨rfl,?_⟩))
   refine wpS_bind (ui C hg (n:=min (a₀.size-lo) mr) (by lia) (by lia) B1 sr1 fun st4 B4 sr4 fr4=> ?_)
   have ch4:aj W (arrOf st4) 0 P.toList lo:=ch1.same fun j _ z=>fr4 j z
   try dsimp only
   rw [if_neg (by decide)]
   have n1:1<=min (a₀.size-lo) mr:=by lia
   have n2:lo+min (a₀.size-lo) mr<=a₀.size:=by lia
   generalize min (a₀.size-lo) mr=nn at n1 n2 sr4|-
   clear B1 sr1 fr ch1
   have B1:=B4
   have sr1:=sr4
   have ch1:=ch4
   clear B4 sr4 ch4 fr4
   generalize st4=st1 at B1 sr1 ch1|-
   refine wpS_bind (wpS_get ?_)
   rw [B1.pend]
   cases hbk:P.back? with
   |none=>
    try dsimp only
    refine wpS_bind (wpS_modify (wpS_pure ⟨_,P.push (lo,nn,0),rfl,⟨B1.perm,B1.kind,B1.failed,by show (pendingOf st1).push _=_;rw [B1.pend]⟩,?_,by lia,by lia⟩))
    rw [Array.toList_push]
    exact ch1.snoc n1 sr1
   |some bk=>
    obtain ⟨b1,b2,b3⟩:=bk
    try dsimp only
    refine wpS_bind (wpS_mono (wpS_forRange (I:=fun x c st'=>c=(none,())/\ ∃P',Bs a₀ kd P' st'/\aj W (arrOf st') 0 P'.toList lo/\ao W (arrOf st') lo (lo+nn))
     (Q:=fun c st'=>c=(none,())/\ ∃P',Bs a₀ kd P' st'/\aj W (arrOf st') 0 P'.toList lo/\ao W (arrOf st') lo (lo+nn)) ?_ (fun _ _ z=>z) ⟨rfl,P,B1,ch1,sr1⟩) ?_)
    ·rintro x' c' st2 _ _ ⟨rfl,P',B2,ch2,sr2⟩
     refine wpS_bind (wpS_get ?_)
     rw [B2.pend]
     by_cases hgt:P'.size>1
     ·rw [if_pos hgt]
      obtain ⟨⟨sa,na,pw⟩,e1⟩: ∃r,P'[P'.size-2]?=some r:=⟨_,getElem?_pos P' (P'.size-2) (by lia)⟩
      obtain ⟨⟨sb,nb,pw2⟩,e2⟩: ∃r,P'[P'.size-2+1]?=some r:=⟨_,getElem?_pos P' (P'.size-2+1) (by lia)⟩
      rw [e1]
      try dsimp only
      have c1:=ch2.at (i:=P'.size-2) (by simpa using e1)
      have c2:=ch2.at (i:=P'.size-2+1) (by simpa using e2)
      have c3:=ch2.next (i:=P'.size-2) (by simpa using e1) (by simpa using e2)
      split
      ·exact wpS_pure ⟨rfl,P',B2,ch2,sr2⟩
      ·refine wpS_bind (iu C hg B2 e1 e2 c3 c1.2.1 c2.2.1 (by lia) c1.2.2.2 c2.2.2.2 fun st3 B3 sr3 fr=> ?_)
       try dsimp only
       rw [if_neg (by decide)]
       refine wpS_pure ⟨rfl,_,B3,?_,sr2.same fun j z1 z2=>fr j (.inr (by lia))⟩
       rw [Array.toList_eraseIdxIfInBounds,Array.toList_setIfInBounds]
       exact ch2.merge (by simpa using e1) (by simpa using e2) fr sr3
     ·rw [if_neg hgt]
      try dsimp only
      exact wpS_pure ⟨rfl,P',B2,ch2,sr2⟩
    ·rintro c' st2 ⟨rfl,P',B2,ch2,sr2⟩
     try dsimp only
     refine wpS_bind (wpS_modify (wpS_bind (wpS_modify (wpS_pure ?_))))
     refine ⟨_,_,rfl,⟨B2.perm,B2.kind,B2.failed,rfl⟩,?_,by lia,by lia⟩
     show aj W (arrOf st2) 0 (Array.push (Array.modify (pendingOf st2) _ _) (lo,nn,0)).toList (lo+nn)
     rw [Array.toList_push,B2.pend,Array.toList_modify]
     exact aj.snoc (aj.repowC ch2) n1 sr2
  ·rw [if_neg hlt]
   have n1:=m1
   have n2:lo+m<=a₀.size:=by lia
   refine wpS_bind (wpS_get ?_)
   rw [B1.pend]
   cases hbk:P.back? with
   |none=>
    try dsimp only
    refine wpS_bind (wpS_modify (wpS_pure ⟨_,P.push (lo,m,0),rfl,⟨B1.perm,B1.kind,B1.failed,by show (pendingOf st1).push _=_;rw [B1.pend]⟩,?_,by lia,by lia⟩))
    rw [Array.toList_push]
    exact ch1.snoc n1 sr1
   |some bk=>
    obtain ⟨b1,b2,b3⟩:=bk
    try dsimp only
    refine wpS_bind (wpS_mono (wpS_forRange (I:=fun x c st'=>c=(none,())/\ ∃P',Bs a₀ kd P' st'/\aj W (arrOf st') 0 P'.toList lo/\ao W (arrOf st') lo (lo+m))
     (Q:=fun c st'=>c=(none,())/\ ∃P',Bs a₀ kd P' st'/\aj W (arrOf st') 0 P'.toList lo/\ao W (arrOf st') lo (lo+m)) ?_ (fun _ _ z=>z) ⟨rfl,P,B1,ch1,sr1⟩) ?_)
    ·rintro x' c' st2 _ _ ⟨rfl,P',B2,ch2,sr2⟩
     refine wpS_bind (wpS_get ?_)
     rw [B2.pend]
     by_cases hgt:P'.size>1
     ·rw [if_pos hgt]
      obtain ⟨⟨sa,na,pw⟩,e1⟩: ∃r,P'[P'.size-2]?=some r:=⟨_,getElem?_pos P' (P'.size-2) (by lia)⟩
      obtain ⟨⟨sb,nb,pw2⟩,e2⟩: ∃r,P'[P'.size-2+1]?=some r:=⟨_,getElem?_pos P' (P'.size-2+1) (by lia)⟩
      rw [e1]
      try dsimp only
      have c1:=ch2.at (i:=P'.size-2) (by simpa using e1)
      have c2:=ch2.at (i:=P'.size-2+1) (by simpa using e2)
      have c3:=ch2.next (i:=P'.size-2) (by simpa using e1) (by simpa using e2)
      split
      ·exact wpS_pure ⟨rfl,P',B2,ch2,sr2⟩
      ·refine wpS_bind (iu C hg B2 e1 e2 c3 c1.2.1 c2.2.1 (by lia) c1.2.2.2 c2.2.2.2 fun st3 B3 sr3 fr=> ?_)
       try dsimp only
       rw [if_neg (by decide)]
       refine wpS_pure ⟨rfl,_,B3,?_,sr2.same fun j z1 z2=>fr j (.inr (by lia))⟩
       rw [Array.toList_eraseIdxIfInBounds,Array.toList_setIfInBounds]
       exact ch2.merge (by simpa using e1) (by simpa using e2) fr sr3
     ·rw [if_neg hgt]
      try dsimp only
      exact wpS_pure ⟨rfl,P',B2,ch2,sr2⟩
    ·rintro c' st2 ⟨rfl,P',B2,ch2,sr2⟩
     try dsimp only
     refine wpS_bind (wpS_modify (wpS_bind (wpS_modify (wpS_pure ?_))))
     refine ⟨_,_,rfl,⟨B2.perm,B2.kind,B2.failed,rfl⟩,?_,by lia,by lia⟩
     show aj W (arrOf st2) 0 (Array.push (Array.modify (pendingOf st2) _ _) (lo,m,0)).toList (lo+m)
     rw [Array.toList_push,B2.pend,Array.toList_modify]
     exact aj.snoc (aj.repowC ch2) n1 sr2
 case aft=>
  rintro c st' ⟨P,rfl,B1,ch⟩
  try dsimp only
  have hlen:=ch.len
  refine wpS_bind (wpS_mono (wpS_forRange (I:=fun x c st'=>c=(none,())/\ ∃P,Bs a₀ kd P st'/\aj W (arrOf st') 0 P.toList a₀.size/\(P.size<=1 \/P.size+x<=a₀.size))
   (Q:=fun c st'=>c=(none,())/\ ∃P,Bs a₀ kd P st'/\aj W (arrOf st') 0 P.toList a₀.size/\P.size<=1) ?s2 ?l2 ⟨rfl,P,B1,ch,.inr (by rw [Array.length_toList] at hlen;lia)⟩) ?a2)
  case l2=>
   rintro c st' ⟨hc,P,B1,ch,z⟩
   exact ⟨hc,P,B1,ch,by lia⟩
  case a2=>
   rintro c st' ⟨rfl,P,B1,ch,z⟩
   try dsimp only
   refine wpS_pure (h st' B1.perm B1.failed ?_)
   have hl:P.toList.length<=1:=by rw [Array.length_toList];exact z
   match hP:P.toList,hl with
   |[],_=>
    rw [hP] at ch
    have:0=a₀.size:=ch
    lia
   |[(s0,n0,t0)],_=>
    rw [hP] at ch
    obtain ⟨_,_,c3,c4⟩:=ch
    have c4:0+n0=a₀.size:=c4
    rw [c4] at c3
    exact c3
   |_::_::_,hl=>simp at hl
  case s2=>
   rintro x c st' _ hx ⟨rfl,P,B1,ch,z⟩
   refine wpS_bind (wpS_get ?_)
   rw [B1.pend]
   try dsimp only
   by_cases hle:P.size<=1
   ·rw [if_pos hle]
    exact wpS_pure ⟨rfl,P,B1,ch,hle⟩
   rw [if_neg hle]
   have hi: ∀i,i+1<P.size-> ∀Q':Bool->SortSt->Prop,(∀st3 P3,Bs a₀ kd P3 st3->aj W (arrOf st3) 0 P3.toList a₀.size->P3.size+1=P.size->Q' true st3)->wpS (model prog w) A E s (mergeAt' i) Q' st':=by
    intro i hi Q' hQ
    obtain ⟨⟨sa,na,pw⟩,e1⟩: ∃r,P[i]?=some r:=⟨_,getElem?_pos P i (by lia)⟩
    obtain ⟨⟨sb,nb,pw2⟩,e2⟩: ∃r,P[i+1]?=some r:=⟨_,getElem?_pos P (i+1) (by lia)⟩
    have c1:=ch.at (i:=i) (by simpa using e1)
    have c2:=ch.at (i:=i+1) (by simpa using e2)
    have c3:=ch.next (i:=i) (by simpa using e1) (by simpa using e2)
    refine iu C hg B1 e1 e2 c3 c1.2.1 c2.2.1 (by lia) c1.2.2.2 c2.2.2.2 fun st3 B3 sr3 fr=>hQ st3 _ B3 ?_ ?_
    ·rw [Array.toList_eraseIdxIfInBounds,Array.toList_setIfInBounds]
     exact ch.merge (by simpa using e1) (by simpa using e2) fr sr3
    ·rw [<-Array.length_toList,Array.toList_eraseIdxIfInBounds,Array.toList_setIfInBounds,List.length_eraseIdx,if_pos (by rw [List.length_set,Array.length_toList];exact hi),List.length_set,Array.length_toList]
     lia
   refine wpS_bind (hi _ (by (repeat' split)<;>lia) _ fun st3 P3 B3 ch3 sz3=> ?_)
   rw [if_neg (by decide)]
   exact wpS_pure ⟨rfl,P3,B3,ch3,by lia⟩
end
end DhSort
set_option maxHeartbeats 4000000
namespace DhSort
open PySem PySem.Calls PyProof.Rows PySem.W L2
theorem lex_irr: ∀p:List Int,HT.ap p p=false
 |[]=>rfl
 |x::r=>by rw [HT.cp,if_pos rfl];exact lex_irr r
theorem iz: ∀p q r:List Int,HT.ap p q=true->HT.ap q r=true->HT.ap p r=true
 |[],[],_,a,_=>by cases a
 |[],_::_,[],_,b=>by cases b
 |[],_::_,_::_,_,_=>rfl
 |_::_,[],_,a,_=>by cases a
 |_::_,_::_,[],_,b=>by cases b
 |x::p,y::q,z::r,a,b=>by
  rw [HT.cp] at a b|-
  by_cases e1:x=y
  ·subst e1
   rw [if_pos rfl] at a
   by_cases e2:x=z
   ·rw [if_pos e2] at b|-;exact iz p q r a b
   ·rw [if_neg e2] at b|-;exact b
  ·rw [if_neg e1] at a
   have a':=of_decide_eq_true a
   by_cases e2:y=z
   ·subst e2;rw [if_neg e1];exact a
   ·rw [if_neg e2] at b
    have b':=of_decide_eq_true b
    rw [if_neg (by lia)]
    exact decide_eq_true (by lia)
theorem iA: ∀p q r:List Int,HT.ap p r=true->HT.ap p q=true \/HT.ap q r=true
 |[],[],_,a=> .inr a
 |[],_::_,_,_=> .inl rfl
 |_::_,_,[],a=>by cases a
 |_::_,[],_::_,_=> .inr rfl
 |x::p,y::q,z::r,a=>by
  rw [HT.cp] at a|-
  rw [HT.cp]
  by_cases e1:x=y
  ·subst e1
   rw [if_pos rfl]
   by_cases e2:x=z
   ·rw [if_pos e2] at a|-;exact iA p q r a
   ·rw [if_neg e2] at a|-;exact .inr a
  ·rw [if_neg e1]
   by_cases e2:x=z
   ·subst e2
    rw [if_neg (fun e=>e1 e.symm)]
    by_cases e3:x<y
    ·exact .inl (decide_eq_true e3)
    ·exact .inr (decide_eq_true (by lia))
   ·rw [if_neg e2] at a
    have a':=of_decide_eq_true a
    by_cases e3:x<y
    ·exact .inl (decide_eq_true e3)
    ·refine .inr ?_
     rw [if_neg (by lia)]
     exact decide_eq_true (by lia)
theorem iB: ∀p q:List Int,HT.ap p q=false->HT.ap q p=false->p=q
 |[],[],_,_=>rfl
 |[],_::_,a,_=>by cases a
 |_::_,[],_,b=>by cases b
 |x::p,y::q,a,b=>by
  rw [HT.cp] at a b
  by_cases e1:x=y
  ·subst e1
   rw [if_pos rfl] at a b
   rw [iB p q a b]
  ·rw [if_neg e1] at a
   rw [if_neg (fun e=>e1 e.symm)] at b
   have a':=of_decide_eq_false a
   have b':=of_decide_eq_false b
   lia
noncomputable def lexW (kf:Value->List Int):Wk where
 lt p q:=HT.ap (kf p.1) (kf q.1)
 irr p:=lex_irr _
 tra p q r:=iz _ _ _
 neg p q r:=iA _ _ _
noncomputable def RowAt (h:Heap) (v:Value) (ns:List Int):Prop:= ∃x ob us n,v= .ref x/\h.get? x=some ob/\ob.cls= .type "tuple"/\ob.data= .seq us n/\IntsAre us.toList ns
theorem RowAt.keep {h h':Heap}{v:Value}{ns:List Int} (r:RowAt h v ns) (k: ∀x ob,v= .ref x->h.get? x=some ob->h'.get? x=some ob):RowAt h' v ns:=by
 obtain ⟨x,ob,us,n,e,g,c,d,i⟩:=r
 exact ⟨x,ob,us,n,e,k x ob e g,c,d,i⟩
section
variable {prog:Program}{w:World}{A:Around}{E:Value->Shared->Prop}{s:Shared}
theorem lB {b fin:Bool}{Q:Bool->Shared->Prop}: ∀(us vs:List Value) (xs ys:List Int) (i:Nat),IntsAre us xs->IntsAre vs ys->(fin=decide (xs.length<ys.length))->Q (HT.ap xs ys) s->KatLex prog w A b fin Q (us.zip vs) i s
 |_,_,_,_,i,.nil,.nil,f,q=>by subst f;exact kat_nil q
 |_,_,_,_,i,.nil,.cons _ _ _,f,q=>by subst f;simp only [List.zip_nil_left];exact kat_nil (by simpa [HT.jF] using q)
 |_,_,_,_,i,.cons _ _ _,.nil,f,q=>by subst f;simp only [List.zip_nil_right];exact kat_nil (by simpa [HT.jG] using q)
 |_,_,_,_,i,.cons x _ h1,.cons y _ h2,f,q=>by
  rw [List.zip_cons_cons]
  refine kat_cons (wpAny_eqBool_int ?_)
  rw [HT.cp] at q
  by_cases e:x=y
  ·subst e
   rw [beq_self_eq_true]
   rw [if_pos rfl] at q
   exact kat_yes (lB _ _ _ _ (i+1) h1 h2 (by simpa using f) q)
  ·rw [beq_eq_false_iff_ne.mpr e]
   rw [if_neg e] at q
   refine kat_no ?_
   by_cases hb:(b&&i==0)=true
   ·rw [hb];exact oneLt_int q
   ·rw [Bool.not_eq_true] at hb
    rw [hb]
    exact kat_one _ _ (PyProof.Rows.lt_int (show PySem.W.BoolBack Q (.bool _) s from q))
theorem uy {p q:Value}{xs ys:List Int}{b:Bool}{Q:Bool->Shared->Prop} (hp:RowAt s.heap p xs) (hq:RowAt s.heap q ys) (h:Q (HT.ap xs ys) s):wpAny (model prog w) A (keyLt' (tuples' b) p q) Q E s:=by
 obtain ⟨x,ox,us,n,rfl,gx,_,dx,ix⟩:=hp
 obtain ⟨y,oy,vs,k,rfl,gy,_,dy,iy⟩:=hq
 refine kat_lt gx dx gy dy (lB _ _ _ _ 0 ix iy ?_ h)
 rw [<-ix.length,<-iy.length,Array.length_toList,Array.length_toList]
theorem uz {kf:Value->List Int}{b:Bool}:Cmp (lexW kf) (tuples' b) (fun p=>RowAt s.heap p.1 (kf p.1)) prog w A s:=⟨fun p q hp hq _ _ h=>uy hp hq h⟩
theorem lC {h:Heap}: ∀{vs:List Value},(∀v∈vs,∃x r,RowAt h v (x::r))-> ∃fs:List Value,KatTups h vs fs/\fs.length=vs.length/\ ∀f∈fs,∃i t,f= .int i t
 |[],_=>⟨[],trivial,rfl,fun _ z=>by cases z⟩
 |v::vs,g=>by
  obtain ⟨fs,k,l,a⟩:=lC (vs:=vs) fun u z=>g u (.tail _ z)
  obtain ⟨x,r,y,ob,us,n,e,g1,c,d,i⟩:=g v (.head _)
  obtain ⟨us⟩:=us
  cases i with
  |cons _ t i'=>
   refine ⟨.int x t::fs,⟨⟨y,ob,_,n,e,g1,c,d,rfl⟩,k⟩,by simp [l],fun f z=> ?_⟩
   rcases List.mem_cons.mp z with rfl|z
   ·exact ⟨_,_,rfl⟩
   ·exact a f z
theorem uA {vs:List Value}{Q:SortKind->Shared->Prop} (g: ∀v∈vs,∃x r,RowAt s.heap v (x::r)) (h1:0<vs.length) (h:Q (tuples' true) s):wpAny (model prog w) A (keyKind' vs.toArray) Q E s:=by
 obtain ⟨fs,k,l,a⟩:=lC g
 refine kat_kind (T:= .type "int") k (by lia) (fun v z=> ?_) rfl h
 obtain ⟨i,t,rfl⟩:=a v z
 exact Looks.of_pure rfl
end
end DhSort
set_option maxHeartbeats 4000000
namespace DhSort
open PySem PySem.Calls PyProof.Rows PySem.W L2
theorem iC {vs:List Value}{p:Keyed} (h:p∈(pairsOf vs).toList):p.1=p.2/\p.2∈vs:=by
 unfold pairsOf at h
 rw [Array.toList_zip] at h
 have h1:=List.mem_iff_getElem?.mp h
 obtain ⟨i,hi⟩:=h1
 rw [List.getElem?_zip_eq_some] at hi
 obtain ⟨a,b⟩:=hi
 have e:some p.1=some p.2:=a.symm.trans b
 exact ⟨Option.some.inj e,List.mem_of_getElem? b⟩
structure iD (kf:Value->List Int) (vs out:List Value):Prop where
 perm:out.Perm vs
 ord: ∀(i j:Nat) (x y:Value),i<=j->out[i]?=some x->out[j]?=some y->HT.ap (kf y) (kf x)=false
theorem uB {kf:Value->List Int}{vs:List Value}{arr:Array Keyed} (hp:arr.Perm (pairsOf vs)) (hs:ao (lexW kf) arr 0 (pairsOf vs).size):iD kf vs (arr.map (·.2)).toList:=by
 have hp':=Array.perm_iff_toList_perm.mp hp
 refine ⟨?_,fun i j x y hij hx hy=> ?_⟩
 ·rw [Array.toList_map]
  have:=hp'.map (fun p:Keyed=>p.2)
  refine this.trans ?_
  have e:(pairsOf vs).toList.map (fun p:Keyed=>p.2)=vs:=by
   unfold pairsOf
   rw [Array.toList_zip]
   simp [List.map_snd_zip]
  rw [e]
 ·rw [Array.toList_map,List.getElem?_map] at hx hy
  have hj:j<arr.size:=by
   rcases Nat.lt_or_ge j arr.size with z|z
   ·exact z
   ·rw [List.getElem?_eq_none (by simpa using z)] at hy;cases hy
  have hi:i<arr.size:=by lia
  have ex:=eZ hi
  have ey:=eZ hj
  rw [<-Array.getElem?_toList] at ex ey
  rw [ex] at hx
  rw [ey] at hy
  have q:=hs i j (Nat.zero_le _) hij (by rw [<-hp.size_eq];exact hj)
  have mx:=(iC (hp'.mem_iff.mp (List.mem_of_getElem? ex))).1
  have my:=(iC (hp'.mem_iff.mp (List.mem_of_getElem? ey))).1
  have hx':(kAt arr i).2=x:=Option.some.inj hx
  have hy':(kAt arr j).2=y:=Option.some.inj hy
  show HT.ap (kf y) (kf x)=false
  rw [<-hx',<-hy',<-mx,<-my]
  exact q
section
variable {prog:Program}{w:World}{A:Around}{E:Value->Shared->Prop}{s:Shared}
theorem uC {kf:Value->List Int}{l:Addr}{vs:List Value}{c:Nat}{P:PySem.Fin->Shared->Prop} (hl:s.heap.get? l=some (seqObj "list" vs.toArray c)) (sz:vs.length<=sizeLine)
  (rows: ∀v∈vs,v≠ .ref l/\RowAt s.heap v (kf v)/\(kf v≠[] \/vs.length<2))
  (h: ∀out:Array Value,iD kf vs out.toList->P (.done (.ret .none)) {s with heap:=sortedHeap s.heap l vs out}):
  wpAny (model prog w) A (Builtin.«list.sort» ⟨[.ref l],[]⟩) P E s:=by
 have lt:=Heap.lt_size hl
 rw [list_sort_plain]
 refine wpAny_bind (listItems_at hl rfl (wpAny_bind (listUpdate_at hl rfl ?_ (by simpa using sz) (Nat.zero_le _))))
 obtain ⟨c1,g1⟩: ∃c1,(s.heap.update l (Obj.mapSeq fun _=> #[])).get? l=some (seqObj "list" #[] c1):=⟨_,get?_update_seq hl fun _=> #[]⟩
 refine wpAny_bind (seqEpoch_at g1 rfl (wpAny_bind (wpAny_newTuple ?_ (by simpa using sz))))
 refine wpAny_bind (wpAny_newList ?_ (Nat.zero_le _))
 refine wpAny_holding ?_
 let mid:Heap:=((s.heap.update l (Obj.mapSeq fun _=> #[])).push (seqObj "tuple" vs.toArray 0)).push (seqObj "list" #[] 0)
 have kp: ∀b ob,b≠l->s.heap.get? b=some ob->mid.get? b=some ob:=fun b ob z e=>by
  refine Heap.get?_push_of_some _ (Heap.get?_push_of_some _ ?_)
  rw [Heap.get?_update_ne _ _ _ _ z]
  exact e
 have g2:mid.get? l=some (seqObj "list" #[] c1):=Heap.get?_push_of_some _ (Heap.get?_push_of_some _ g1)
 show wpAny (model prog w) A _ P E {s with heap:=mid}
 dsimp only
 have rows': ∀v∈vs,RowAt mid v (kf v):=fun v z=>(rows v z).2.1.keep fun x ob e g=>kp x ob (fun q=>(rows v z).1 (by rw [e,q])) g
 have fin: ∀st':SortSt,(arrOf st').Perm (pairsOf vs)->ao (lexW kf) (arrOf st') 0 (pairsOf vs).size->
   P (.done (.ret .none)) {s with heap:=sortedHeap s.heap l vs ((arrOf st').map (·.2))}:=fun st' a b=>h _ (uB a b)
 have szo: ∀st':SortSt,(arrOf st').Perm (pairsOf vs)->((arrOf st').map (·.2)).size<=sizeLine:=fun st' a=>by
  rw [Array.size_map,a.size_eq,pairsOf_size];exact sz
 by_cases two:vs.toArray.size<2
 ·rw [if_pos two,if_pos two]
  refine wpAny_bind (wpAny_pure ?_)
  rw [StateT.run_pure]
  refine wpAny_bind (wpAny_pure ?_)
  dsimp only
  refine wpAny_bind (seqEpoch_at g2 rfl (wpAny_bind (listUpdate_at g2 rfl ?_ (hsz2:=Nat.le_succ_of_le (szo (SortSt.mk' general' (vs.toArray.zip vs.toArray) #[] 7 none) (Array.Perm.refl _))))))
  simp only [bne_self_eq_false,Bool.false_eq_true,if_false]
  refine wpAny_pure (fin (SortSt.mk' general' (vs.toArray.zip vs.toArray) #[] 7 none) (Array.Perm.refl _) ?_)
  intro i j _ z1 z2
  have:i=j:=by rw [pairsOf_size] at z2;rw [List.size_toArray] at two;lia
  subst this
  exact Wk.bi
 ·rw [if_neg two,if_neg two]
  rw [List.size_toArray] at two
  refine wpAny_bind (uA (s:={s with heap:=mid}) (fun v z=> ?_) (by lia) ?_)
  ·have r:=rows' v z
   cases e:kf v with
   |nil=>exact absurd e ((rows v z).2.2.resolve_right (by lia))
   |cons x t=>rw [e] at r;exact ⟨x,t,r⟩
  refine wpAny_bind (wpAny_mono (ux (E:=E) (W:=lexW kf) (kd:=tuples' true) (good:=fun p=>RowAt mid p.1 (kf p.1)) (a₀:=pairsOf vs) (st:=SortSt.mk' (tuples' true) (vs.toArray.zip vs.toArray) #[] 7 none) (s:={s with heap:=mid})
   (Q:=fun _ st'=>(arrOf st').Perm (pairsOf vs)/\failedOf st'=none/\ao (lexW kf) (arrOf st') 0 (pairsOf vs).size)
   (uz (s:={s with heap:=mid}) (kf:=kf)) (fun p z=> ?_) ⟨Array.Perm.refl _,rfl,rfl,rfl⟩ (by rw [pairsOf_size];lia) fun st' a b d=>⟨a,b,d⟩) ?_ fun _ _ e=>e)
  ·obtain ⟨e,m⟩:=iC z
   rw [e]
   exact rows' _ m
  rintro ⟨⟨⟩,st'⟩ s' ⟨rfl,a,b,d⟩
  dsimp only
  refine wpAny_bind (seqEpoch_at g2 rfl (wpAny_bind (listUpdate_at g2 rfl ?_ (hsz2:=Nat.le_succ_of_le (szo st' a)))))
  rw [b]
  simp only [bne_self_eq_false,Bool.false_eq_true,if_false]
  exact wpAny_pure (fin st' a d)
end
end DhSort
set_option maxHeartbeats 4000000
namespace DhSort
open PySem PySem.Calls PyProof.Rows PySem.W L2
noncomputable def DEnt (h:Heap) (d:Addr) (es:Array DictEntry) (ep:Nat):Prop:= ∃ob,h.get? d=some ob/\ob.ExactDict/\ob.data= .dict es ep
theorem DEnt.ty {t:Shared}{d:Addr}{es:Array DictEntry}{ep:Nat} (x:DEnt t.heap d es ep):t.TypeIs (.ref d) "dict":=let ⟨ob,g,c,_⟩:=x;⟨ob,g,c.1⟩
theorem DEnt.mono {h h':Heap}{d:Addr}{es:Array DictEntry}{ep:Nat} (x:DEnt h d es ep) (k: ∀ob,h.get? d=some ob->h'.get? d=some ob):DEnt h' d es ep:=let ⟨ob,g,r⟩:=x;⟨ob,k ob g,r⟩
theorem DEnt.lt {h:Heap}{d:Addr}{es:Array DictEntry}{ep:Nat} (x:DEnt h d es ep):d<h.objs.size:=let ⟨_,g,_⟩:=x;Heap.lt_size g
noncomputable def uD (d:Addr) (n ep:Nat):Obj:={cls:= .type "dict_keyiterator",data:= .fields #[.ref d,.int 0 0,.int n 0,.int ep 0]}
section
variable {prog:Program}{w:World}{A:Around}{E:Value->Shared->Prop}{t:Shared}{d z:Addr}{es:Array DictEntry}{ep i:Nat}
theorem uE {Q:Value->Shared->Prop} (nm:(d==sysModules)=false) (x:DEnt t.heap d es ep) (q:Q (.ref t.heap.objs.size) {t with heap:=t.heap.push (uD d es.size ep)}):wpAny (model prog w) A (pyIter (.ref d)) Q E t:=by
 obtain ⟨ob,g,c,dd⟩:=id x
 refine wpAny_pyIter_slot x.ty F.slot_dict_iter (wpAny_call_entry F.slot_dict_iter x.ty F.entry_dict_iter ?_ (F.args_dict_iter_1 _))
 unfold Builtin.«dict.__iter__» Builtin.Dict.dictSlotNone
 refine wpAny_bind (wpAny_bind (wpAny_notOrdered_dict x.ty (wpAny_pure ?_)))
 show wpAny _ _ (Builtin.Dict.showsAll d>>=_) _ _ t
 unfold Builtin.Dict.showsAll
 rw [if_neg (by rw [nm];simp)]
 refine wpAny_bind (wpAny_pure (wpAny_bind (wpAny_dictEntries g dd (wpAny_bind (wpAny_dictEpoch g dd ?_)))))
 exact wpAny_bind (wpAny_newObj_type (wpAny_pure ⟨_,rfl,"dict_keyiterator",_,⟨_,Heap.get?_push_size _ rfl,rfl⟩,F.slot_dict_keyiterator_next.lookup,q⟩))
theorem uF {e:DictEntry}{Q:Option Value->Shared->Prop} (y:t.heap.IsKeyIter z d i es.size ep) (x:DEnt t.heap d es ep) (he:es[i]?=some e)
  (q: ∀h',h'.IsKeyIter z d (i+1) es.size ep->Heap.SameBut z t.heap h'->Q (some e.key) {t with heap:=h'}):wpAny (model prog w) A (pyNext (.ref z)) Q E t:=by
 obtain ⟨oz,gz,cz,dz⟩:=id y
 obtain ⟨ob,g,c,dd⟩:=id x
 have li:i<es.size:=by
  rcases Nat.lt_or_ge i es.size with l|l
  ·exact l
  ·rw [Array.getElem?_eq_none l] at he;cases he
 have hk:es[i]=e:=by rw [Array.getElem?_eq_getElem li] at he;exact Option.some.inj he
 have own0:Builtin.Dict_items.ownsTuple "dict_keyiterator"=false:=by decide
 unfold pyNext
 refine wpAny_bind (wpAny_attempt (wpAny_callSpecial?_slot (name:=Str.ofString "__next__") y.typeIs F.slot_dict_keyiterator_next
  (wpAny_call_entry F.slot_dict_keyiterator_next y.typeIs F.entry_dict_keyiterator_next ?_ (F.args_dict_keyiterator_next_1 _))))
 refine wpAny_bind (wpAny_pure (wpAny_bind (wpAny_bind ?_)))
 first|refine wpAny_bind (wpAny_typeNameOfWhole_keyiter y.typeIs (wpAny_pure ?_))|refine wpAny_bind (wpAny_typeNameOf_keyiter y.typeIs (wpAny_pure ?_))
 refine wpAny_bind (wpAny_fieldsOf gz dz ?_)
 simp only [own0,Bool.false_eq_true,if_false]
 show wpAny _ _ (if (Value.ref d==Value.none)=true then _ else _) _ _ t
 rw [if_neg (show¬((Value.ref d==Value.none)=true) by exact Bool.false_ne_true)]
 refine wpAny_bind (wpAny_pure (wpAny_bind (wpAny_dictEntries g dd ?_)))
 rw [if_neg (by simp)]
 refine wpAny_bind (wpAny_pure (wpAny_bind (wpAny_dictEpoch g dd ?_)))
 rw [if_neg (by simp)]
 refine wpAny_pure ?_
 simp only [show¬((i:Int)<0) by lia,if_false,Int.toNat_natCast,Array.getElem?_eq_getElem li]
 refine wpAny_bind ?_
 first|refine wpAny_bind (wpAny_typeNameOfWhole_keyiter y.typeIs (wpAny_pure ?_))|refine wpAny_bind (wpAny_typeNameOf_keyiter y.typeIs (wpAny_pure ?_))
 refine wpAny_bind (wpAny_isOneOf_keyiter y.typeIs ?_)
 show wpAny _ _ (setField (.ref z) 1 (rawInt ((i:Int)+1))>>=_) _ _ t
 refine wpAny_bind (wpAny_setField gz dz (by simp) ?_)
 have y':(t.heap.update z (Obj.mapFields (·.setIfInBounds 1 (rawInt ((i:Int)+1))))).IsKeyIter z d (i+1) es.size ep:=
  ⟨_,Heap.get?_update_self _ gz (Obj.isFreed_of_fields (Obj.data_mapFields dz _)),(Obj.cls_mapFields ..).trans cz,by rw [Obj.data_mapFields dz];simp [rawInt]⟩
 refine wpAny_bind (wpAny_holding (wpAny_bind (wpAny_isOneOf_keyiter (s:={t with heap:=t.heap.update z (Obj.mapFields (·.setIfInBounds 1 (rawInt ((i:Int)+1))))}) y'.typeIs ?_)))
 show wpAny _ _ (pure es[i].key) _ _ _
 rw [hk]
 exact wpAny_pure (wpAny_pure ⟨_,rfl,wpAny_pure (q _ y' (Heap.SameBut.update ..))⟩)
theorem uG {Q:Option Value->Shared->Prop} (hh:A.handled=none) (y:t.heap.IsKeyIter z d i es.size ep) (x:DEnt t.heap d es ep) (he:es[i]?=none)
  (q: ∀h',Heap.ExtBut z t.heap h'->Q none {t with heap:=h'}):wpAny (model prog w) A (pyNext (.ref z)) Q E t:=by
 obtain ⟨oz,gz,cz,dz⟩:=id y
 obtain ⟨ob,g,c,dd⟩:=id x
 have li:es.size<=i:=by simpa using he
 have own0:Builtin.Dict_items.ownsTuple "dict_keyiterator"=false:=by decide
 unfold pyNext
 refine wpAny_bind (wpAny_attempt (wpAny_callSpecial?_slot (name:=Str.ofString "__next__") y.typeIs F.slot_dict_keyiterator_next
  (wpAny_call_entry F.slot_dict_keyiterator_next y.typeIs F.entry_dict_keyiterator_next ?_ (F.args_dict_keyiterator_next_1 _))))
 refine wpAny_bind (wpAny_pure (wpAny_bind (wpAny_bind ?_)))
 first|refine wpAny_bind (wpAny_typeNameOfWhole_keyiter y.typeIs (wpAny_pure ?_))|refine wpAny_bind (wpAny_typeNameOf_keyiter y.typeIs (wpAny_pure ?_))
 refine wpAny_bind (wpAny_fieldsOf gz dz ?_)
 simp only [own0,Bool.false_eq_true,if_false]
 show wpAny _ _ (if (Value.ref d==Value.none)=true then _ else _) _ _ t
 rw [if_neg (show¬((Value.ref d==Value.none)=true) by exact Bool.false_ne_true)]
 refine wpAny_bind (wpAny_pure (wpAny_bind (wpAny_dictEntries g dd ?_)))
 rw [if_neg (by simp)]
 refine wpAny_bind (wpAny_pure (wpAny_bind (wpAny_dictEpoch g dd ?_)))
 rw [if_neg (by simp)]
 refine wpAny_pure ?_
 simp only [show¬((i:Int)<0) by lia,if_false,Int.toNat_natCast,Array.getElem?_eq_none li]
 refine wpAny_bind ?_
 first|refine wpAny_bind (wpAny_typeNameOfWhole_keyiter y.typeIs (wpAny_pure ?_))|refine wpAny_bind (wpAny_typeNameOf_keyiter y.typeIs (wpAny_pure ?_))
 show wpAny _ _ (setField (.ref z) 0 .none>>=_) _ _ t
 refine wpAny_bind (wpAny_setField gz dz (by simp) ?_)
 show wpAny _ _ (newExc (.type "StopIteration") []>>=_) _ _ _
 refine wpAny_bind ?_
 simp only [newExc,newTuple]
 refine wpAny_bind (wpAny_newObj_type ?_ (by size_fits))
 refine wpAny_bind (m:=firstArgMember _ _) (wpAny_of_eq (a:=Value.none) (by first|rfl|(simp only [firstArgMember];rfl)) ?_)
 refine wpAny_newObj_type ?_ (by size_fits)
 simp only [raiseNew]
 refine wpAny_bind (wpAny_handled ?_)
 rw [show A.in1.handled=none by exact hh]
 refine wpAny_bind (wpAny_pure (wpAny_throw ?_))
 refine wpAny_bind (wpAny_isInstance (T:="StopIteration") (b:=true) ⟨_,Heap.get?_push_size _ rfl,rfl⟩ isSubtype_stop ?_)
 exact wpAny_pure (q _ (((Heap.SameBut.update ..).extBut.push _).push _))
theorem uH (hh:A.handled=none) (nd:d≠z):Walks prog w A z [z,d] [z] es.size (fun i v=> ∃e,es[i]?=some e/\v=e.key) (fun i h=>h.IsKeyIter z d i es.size ep/\DEnt h d es ep) where
 sub:=fun b hb=>by simp at hb;simp [hb]
 frame:=fun _ _ _ st hk=>⟨st.1.at fun o e=>hk z (by simp) o e,st.2.mono fun o e=>hk d (by simp) o e⟩
 item:=fun i t' Q E hi st hQ=>by
  refine uF st.1 st.2 (Array.getElem?_eq_getElem hi) fun h' a b=> ?_
  exact hQ _ h' t'.toks ⟨_,Array.getElem?_eq_getElem hi,rfl⟩ ⟨a,st.2.mono fun o e=>b.extBut d o nd e⟩ fun c o hc e=>b.extBut c o (fun r=>hc (by simp [r])) e
 done:=fun t' Q E st hQ=>uG hh st.1 st.2 (by simp) fun h' a=>hQ h' t'.toks fun c o hc e=>a c o (fun r=>hc (by simp [r])) e
 self:=fun _ _ _ _ st hQ=>wpAny_pyIter_keyiter st.1 hQ
theorem uI (nm:(d==sysModules)=false):KdlSrc prog w "dict" d d es.size (fun i v=> ∃e,es[i]?=some e/\v=e.key) (fun h=>DEnt h d es ep) where
 type:=fun _ x=>x.ty
 there:=fun _ x=>⟨x.lt,x.lt⟩
 keep:=fun _ _ x hk=>x.mono fun o e=>hk d (.inl rfl) o e
 notList:=by decide
 notTuple:=by decide
 hint:=fun _ _ _ _ x hq=>kdl_hint_dict x.ty hq
 iter:=fun A' t' hh x=>⟨_,_,fun _ _ hq=>uE nm x hq,uH hh (Nat.ne_of_lt x.lt),⟨⟨_,Heap.get?_push_size _ rfl,rfl,rfl⟩,x.mono fun o e=>Heap.get?_push_of_some _ e⟩⟩
theorem uJ {R:List Value->Shared->Prop} (nm:(d==sysModules)=false) (hh:A.handled=none) (x:DEnt t.heap d es ep) (sz:es.size<=sizeLine)
  (h: ∀(h':Heap) (tk:Nat),(∀b o,t.heap.get? b=some o->h'.get? b=some o)->R (es.toList.map (·.key)) {t with heap:=h',toks:=tk}):wpAny (model prog w) A (collect (.ref d)) R E t:=by
 refine kdu_collect (uI nm) hh x sz fun h' tk acc hk ha=> ?_
 have e:acc.toList=es.toList.map (·.key):=by
  refine List.ext_getElem? fun j=> ?_
  rw [Array.getElem?_toList,List.getElem?_map,Array.getElem?_toList]
  by_cases hj:j<acc.size
  ·obtain ⟨en,h1,h2⟩:=ha.2 j acc[j] (Array.getElem?_eq_getElem hj)
   rw [Array.getElem?_eq_getElem hj,h1,h2]
   rfl
  ·have h2: ¬j<es.size:=by rw [<-ha.1];exact hj
   rw [Array.getElem?_eq_none (by lia),Array.getElem?_eq_none (by lia)]
   rfl
 rw [e]
 exact h h' tk hk
theorem uK {kf:Value->List Int}{it:Value}{vs:List Value}{Q:Value->Shared->Prop}
  (hc: ∀R:List Value->Shared->Prop,(∀(h':Heap) (tk:Nat),(∀b o,t.heap.get? b=some o->h'.get? b=some o)->R vs {t with heap:=h',toks:=tk})->wpAny (model prog w) A.in1 (collect it) R E t)
  (sz:vs.length<=sizeLine) (rows: ∀v∈vs,RowAt t.heap v (kf v)/\(kf v≠[] \/vs.length<2))
  (h: ∀(l:Addr) (h1 h':Heap) (tk c:Nat) (out:List Value),(∀b o,t.heap.get? b=some o->h1.get? b=some o)->h1.objs.size<=l->(∀b o,h1.get? b=some o->h'.get? b=some o)->h'.get? l=some (seqObj "list" out.toArray c)->iD kf vs out->Q (.ref l) {t with heap:=h',toks:=tk}):
  wpAny (model prog w) A (call (.builtin "sorted") [it]) Q E t:=by
 refine call_function_entry kind_sorted plain_sorted entry_sorted (args_sorted1 _) ?_
 unfold Builtin.«sorted»
 refine wpAny_bind (m:=checkCount "sorted" 1 1 _) (wpAny_pure (wpAny_bind (hc _ fun h1 k1 kp=> ?_)))
 refine wpAny_bind (wpAny_newList ?_ sz)
 have gl:(h1.push (seqObj "list" vs.toArray 0)).get? h1.objs.size=some (seqObj "list" vs.toArray 0):=Heap.get?_push_size _ rfl
 have kp2: ∀b o,t.heap.get? b=some o->(h1.push (seqObj "list" vs.toArray 0)).get? b=some o:=fun b o e=>Heap.get?_push_of_some _ (kp b o e)
 show wpAny _ _ _ _ _ {t with heap:=h1.push (seqObj "list" vs.toArray 0),toks:=k1}
 refine wpAny_bind (wpAny_holding (wpAny_call_entry slot_list_sort ⟨_,gl,rfl⟩ entry_list_sort (uC (kf:=kf) gl sz (fun v z=> ?_) fun out so=>⟨_,rfl,wpAny_pure ⟨_,rfl,?_⟩⟩) (args_list_sort _)))
 ·obtain ⟨r,ne⟩:=rows v z
  refine ⟨fun e=> ?_,r.keep fun x ob _ g=>kp2 x ob g,ne⟩
  obtain ⟨x,ob,_,_,e2,g,_⟩:=r
  rw [e] at e2
  cases e2
  exact absurd (Heap.lt_size (kp _ _ g)) (Nat.lt_irrefl _)
 ·obtain ⟨c2,g2⟩: ∃c2,(sortedHeap (h1.push (seqObj "list" vs.toArray 0)) h1.objs.size vs out).get? h1.objs.size=some (seqObj "list" out c2):=by
   obtain ⟨c1,g1⟩: ∃c1,((h1.push (seqObj "list" vs.toArray 0)).update h1.objs.size (Obj.mapSeq fun _=> #[])).get? h1.objs.size=some (seqObj "list" #[] c1):=⟨_,get?_update_seq gl fun _=> #[]⟩
   exact ⟨_,get?_update_seq (Heap.get?_push_of_some _ (Heap.get?_push_of_some _ g1)) fun _=>out⟩
  refine h _ h1 _ _ c2 out.toList kp (Nat.le_refl _) (fun b o e=> ?_) (by simpa using g2) so
  have nb:b≠h1.objs.size:=Nat.ne_of_lt (Heap.lt_size e)
  unfold sortedHeap
  rw [Heap.get?_update_ne _ _ _ _ nb]
  refine Heap.get?_push_of_some _ (Heap.get?_push_of_some _ ?_)
  rw [Heap.get?_update_ne _ _ _ _ nb]
  exact Heap.get?_push_of_some _ e
end
end DhSort
set_option maxHeartbeats 4000000
namespace L2
open PySem PySem.Spec PyProof.Rows
noncomputable def ins (x:List Int):List (List Int)->List (List Int)
 |[]=>[x]
 |y::r=>if HT.ap y x=true then y::ins x r else x::y::r
noncomputable def srt:List (List Int)->List (List Int)
 |[]=>[]
 |x::r=>ins x (srt r)
noncomputable def NoLt (x y:List Int):Prop:=HT.ap y x=false
theorem iE (x:List Int): ∀l:List (List Int),(ins x l).Perm (x::l)
 |[]=> .refl _
 |y::r=>by
  unfold ins
  split
  ·exact ((iE x r).cons y).trans (.swap x y r)
  ·exact .refl _
theorem dX: ∀l:List (List Int),(srt l).Perm l
 |[]=> .refl _
 |x::r=>(iE x _).trans ((dX r).cons x)
theorem uL {x y z:List Int} (a:NoLt x y) (b:NoLt y z):NoLt x z:=by
 unfold NoLt at*
 cases h:HT.ap z x with
 |false=>rfl
 |true=>
  rcases DhSort.iA z y x h with q|q
  ·rw [b] at q;cases q
  ·rw [a] at q;cases q
theorem uM {x y:List Int} (a:HT.ap x y=true):NoLt x y:=by
 unfold NoLt
 cases h:HT.ap y x with
 |false=>rfl
 |true=>have:=DhSort.iz _ _ _ a h;rw [DhSort.lex_irr] at this;cases this
theorem lD (x:List Int): ∀l:List (List Int),l.Pairwise NoLt->(ins x l).Pairwise NoLt
 |[],_=>List.pairwise_singleton _ _
 |y::r,h=>by
  have h':=List.pairwise_cons.mp h
  unfold ins
  split
  ·next q=>
   refine List.pairwise_cons.mpr ⟨fun z hz=> ?_,lD x r h'.2⟩
   rcases List.mem_cons.mp ((iE x r).mem_iff.mp hz) with rfl|hz
   ·exact uM q
   ·exact h'.1 z hz
  ·next q=>
   have q':NoLt x y:=by unfold NoLt;simpa using q
   refine List.pairwise_cons.mpr ⟨fun z hz=> ?_,h⟩
   rcases List.mem_cons.mp hz with rfl|hz
   ·exact q'
   ·exact uL q' (h'.1 z hz)
theorem iF: ∀l:List (List Int),(srt l).Pairwise NoLt
 |[]=> .nil
 |x::r=>lD x _ (iF r)
theorem lE: ∀{a b:List (List Int)},a.Perm b->a.Pairwise NoLt->b.Pairwise NoLt->a=b
 |[],b,p,_,_=>(List.nil_perm.mp p).symm▸rfl
 |x::a,[],p,_,_=>absurd p.length_eq (by simp)
 |x::a,y::b,p,ha,hb=>by
  have ha':=List.pairwise_cons.mp ha
  have hb':=List.pairwise_cons.mp hb
  have e:x=y:=by
   rcases List.mem_cons.mp (p.mem_iff.mp (List.mem_cons_self)) with e|hx
   ·exact e
   ·rcases List.mem_cons.mp (p.mem_iff.mpr (List.mem_cons_self)) with e|hy
    ·exact e.symm
    ·exact DhSort.iB _ _ (hb'.1 x hx) (ha'.1 y hy)|>.symm▸rfl
  subst e
  rw [lE (p.cons_inv) ha'.2 hb'.2]
noncomputable def vInt:V->Int
 | .int i=>i
 |_=>0
noncomputable def rowV (H:Hp):V->List Int
 | .ref b=>(match H b with
  |some (.tup xs)=>xs.map vInt
  |_=>[])
 |_=>[]
theorem uN (ns:List Int):(ns.map V.int).map vInt=ns:=by
 induction ns with
 |nil=>rfl
 |cons n r ih=>simp only [List.map_cons,ih];rfl
theorem gh {H:Hp}{b:Addr}{ns:List Int} (h:H b=some (.tup (ns.map V.int))):rowV H (.ref b)=ns:=by
 show (match H b with
  |some (.tup xs)=>xs.map vInt
  |_=>[])=ns
 rw [h]
 exact uN ns
noncomputable def toV:Value->V
 | .ref b=> .ref b
 |_=> .non
noncomputable def dB (H:Hp) (v:V):Prop:= ∃b ns,v= .ref b/\ns≠[]/\H b=some (.tup (ns.map V.int))
theorem lF: ∀{ys:List V}{us:List Value},Vals ys us->(∀y∈ys,∃b,y=V.ref b)->us.map toV=ys
 |_,_,.nil,_=>rfl
 |_,_,.cons (a:=y) (b:=u) r t,h=>by
  obtain ⟨b,rfl⟩:=h y (.head _)
  obtain rfl:u=Value.ref b:=r
  rw [List.map_cons,lF t fun z hz=>h z (.tail _ hz)]
  rfl
theorem lG: ∀{us:List Value},(∀u∈us,∃b,u=Value.ref b)->Vals (us.map toV) us
 |[],_=> .nil
 |u::us,h=>by
  obtain ⟨b,rfl⟩:=h u (.head _)
  exact .cons (show RelV (.ref b) (.ref b) from rfl) (lG fun z hz=>h z (.tail _ hz))
theorem iG: ∀{ys:List V}{us:List Value},Vals ys us-> ∀u∈us,∃y∈ys,RelV y u
 |_,_,.nil,_,h=>by cases h
 |_,_,.cons r t,u,h=>by
  rcases List.mem_cons.mp h with rfl|h
  ·exact ⟨_,.head _,r⟩
  ·obtain ⟨y,h1,h2⟩:=iG t u h
   exact ⟨y,.tail _ h1,h2⟩
theorem lH: ∀{ns:List Int}{us:List Value},Vals (ns.map V.int) us->IntsAre us ns
 |[],_,.nil=> .nil
 |n::ns,_,.cons r t=>by
  obtain ⟨k,rfl⟩:=r
  exact .cons _ _ (lH t)
section
variable {X:Cx}{KF:PySem.W.Frag}{pins:List (Addr×Obj)}{σ:St}{H:Hp}{s:Shared}
structure dY (H:Hp) (ys zs:List V):Prop where
 perm:zs.Perm ys
 ord:(zs.map (rowV H)).Pairwise NoLt
theorem dY.eq {ys zs:List V} (h:dY H ys zs):zs.map (rowV H)=srt (ys.map (rowV H)):=
 lE ((h.perm.map _).trans (dX _).symm) h.ord (iF _)
noncomputable def lI (n:Nat) (H:Hp) (v:V):Prop:= ∃b ns,v= .ref b/\(ns≠[] \/n<2)/\H b=some (.tup (ns.map V.int))
theorem dB.n {n:Nat}{v:V} (h:dB H v):lI n H v:=let ⟨b,ns,e,ne,q⟩:=h;⟨b,ns,e,.inl ne,q⟩
theorem uO {it:Value}{ys:List V}{us:List Value}{Q:VK} (I:Inv X pins σ H s) (r:Vals ys us) (rows: ∀y∈ys,lI ys.length H y) (sz:ys.length<=sizeLine)
  (hc: ∀R:List Value->Shared->Prop,(∀(h':Heap) (tk:Nat),(∀b o,s.heap.get? b=some o->h'.get? b=some o)->R us {s with heap:=h',toks:=tk})->wpAny (model X.prog X.w) X.A.in1 (collect it) R X.xe s)
  (q: ∀l zs,H l=none->dY H ys zs->Q (.ref l) (upd H l (.lst zs))):wpAny (model X.prog X.w) X.A (call (.builtin "sorted") [it]) (EP X pins σ Q) X.xe s:=by
 have rl:=r.length
 refine DhSort.uK (kf:=fun u=>rowV H (toV u)) hc (by lia) (fun u hu=> ?_) fun l h1 h' tk c out k1 hl k2 g so=> ?_
 ·obtain ⟨y,hy,ry⟩:=iG r u hu
  obtain ⟨b,ns,rfl,ne,e⟩:=rows y hy
  obtain rfl:u=Value.ref b:=ry
  have e2:rowV H (toV (Value.ref b))=ns:=gh e
  rw [e2]
  obtain ⟨_,its,rv,ob,g1,g2,⟨n,g3⟩,_⟩:=(show ax X.prog X.w H s.heap b (.tup (ns.map V.int)) from I.hok b _ e)
  exact ⟨⟨b,ob,its.toArray,n,rfl,g1,g2,g3,by simpa using lH rv⟩,ne.imp id fun z=>by lia⟩
 ·have back:=lF r fun y hy=>let ⟨b,_,e,_⟩:=rows y hy;⟨b,e⟩
  have refs: ∀u∈out,∃b,u=Value.ref b:=fun u hu=>by
   obtain ⟨y,hy,ry⟩:=iG r u (so.perm.mem_iff.mp hu)
   obtain ⟨b,ns,rfl,_⟩:=rows y hy
   exact ⟨b,ry⟩
  have perm:(out.map toV).Perm ys:=back▸so.perm.map toV
  have I1:Inv X pins σ H {s with heap:=h1,toks:=tk}:=I.kept k1
  have I2:Inv X pins σ (upd H l (.lst (out.map toV))) {s with heap:=h',toks:=tk}:=I1.laid (s:={s with heap:=h1,toks:=tk}) k2 hl (show ax X.prog X.w _ h' l (.lst (out.map toV)) from ⟨by rw [perm.length_eq];exact sz,out,c,lG refs,g⟩)
  refine ⟨.ref l,_,I2,rfl,q l _ (I1.hok.fresh hl) ⟨perm,?_⟩⟩
  rw [List.map_map,List.pairwise_map,List.pairwise_iff_getElem]
  intro i j hi hj hij
  exact so.ord i j _ _ (Nat.le_of_lt hij) (List.getElem?_eq_getElem hi) (List.getElem?_eq_getElem hj)
theorem uP {it:Value}{ys:List V}{us:List Value}{Q:VK} (I:Inv X pins σ H s) (r:Vals ys us) (rows: ∀y∈ys,dB H y) (sz:ys.length<=sizeLine)
  (hc: ∀R:List Value->Shared->Prop,(∀(h':Heap) (tk:Nat),(∀b o,s.heap.get? b=some o->h'.get? b=some o)->R us {s with heap:=h',toks:=tk})->wpAny (model X.prog X.w) X.A.in1 (collect it) R X.xe s)
  (q: ∀l zs,H l=none->dY H ys zs->Q (.ref l) (upd H l (.lst zs))):wpAny (model X.prog X.w) X.A (call (.builtin "sorted") [it]) (EP X pins σ Q) X.xe s:=uO I r (fun y hy=>(rows y hy).n) sz hc q
theorem uQ (hc:X.calm=true):bj X (.builtin "sorted") (fun xs H Q=> ∃a kvs,xs=[.ref a]/\Rd H a (.dT kvs)/\(∀p∈kvs,∃ns:List Int,ns≠[]/\p.1=ns.map Sum.inl)/\
  ∀l ys zs,H l=none->Paired (fun (p:List Key×V) (y:V)=> ∃b,y= .ref b/\H b=some (.tup (p.1.map kV))) kvs ys->dY H ys zs->Q (.ref l) (upd H l (.lst zs))):=by
 intro pins s σ H xs us Q I r h
 obtain ⟨a,kvs,rfl,ha,ks,q⟩:=h
 obtain ⟨u,rfl,rx⟩:=dl r
 cases rx
 obtain ⟨z,y,en,kt,ob,es,ep,h1,h2,h3,h4,h5⟩:=(show ax X.prog X.w H s.heap a (.dT kvs) from gQ I.hok ha)
 have sz:es.size=kvs.length:=by rw [<-Array.length_toList,h4,List.length_map,kt.length]
 have pr: ∀{l:List (List Key×V)}{m:List (List Key×Addr×Value)},Paired (fun (p:List Key×V) (q:List Key×Addr×Value)=>p.1=q.1/\H q.2.1=some (.tup (p.1.map kV))/\RelV p.2 q.2.2) l m->
   Paired (fun (p:List Key×V) (y:V)=> ∃b,y= .ref b/\H b=some (.tup (p.1.map kV))) l (m.map fun x=>V.ref x.2.1)/\Vals (m.map fun x=>V.ref x.2.1) (m.map fun x=>Value.ref x.2.1):=by
  intro l m q
  induction q with
  |nil=>exact ⟨.nil,.nil⟩
  |cons hq t ih=>exact ⟨.cons ⟨_,rfl,hq.2.1⟩ ih.1,.cons rfl ih.2⟩
 obtain ⟨p1,p2⟩:=pr kt
 have rows: ∀{l:List (List Key×V)}{m:List V},Paired (fun (p:List Key×V) (y:V)=> ∃b,y= .ref b/\H b=some (.tup (p.1.map kV))) l m->(∀p∈l,∃ns:List Int,ns≠[]/\p.1=ns.map Sum.inl)-> ∀y∈m,dB H y:=by
  intro l m q
  induction q with
  |nil=>intro _ y hy;cases hy
  |cons hq t ih=>
   intro hl y hy
   rcases List.mem_cons.mp hy with rfl|hy
   ·obtain ⟨b,rfl,e⟩:=hq
    obtain ⟨ns,ne,e2⟩:=hl _ (.head _)
    refine ⟨b,ns,rfl,ne,?_⟩
    rw [e,e2,List.map_map]
    rfl
   ·exact ih (fun p hp=>hl p (.tail _ hp)) y hy
 refine uP (us:=en.map fun x=>Value.ref x.2.1) I p2 (rows p1 ks) (by rw [List.length_map,<-kt.length];exact z) (fun R hR=> ?_) fun l zs hl so=>q l _ zs hl p1 so
 refine DhSort.uJ y (I.ok.hd hc) ⟨ob,h1,h2,h3⟩ (by lia) fun h' tk kp=> ?_
 have e:es.toList.map (·.key)=en.map fun x=>Value.ref x.2.1:=by rw [h4,List.map_map];rfl
 rw [e]
 exact hR h' tk kp
noncomputable def dRow:Dv->Option (List Int)
 | .tup ds=>ds.mapM fun d=>match d with| .int i=>some i|_=>none
 |_=>none
noncomputable def aT (ns:List Int):Dv:= .tup (ns.map .int)
noncomputable def c0 (rs:List (List Int)):Bool:=rs.all fun r=> !r.isEmpty
noncomputable def xD:List Dv->Option Dv
 |[.lst ds]=>(ds.mapM dRow).bind fun rs=>if c0 rs=true then some (.lst ((srt rs).map aT)) else none
 |_=>none
noncomputable def keyI:Key->Option Int
 | .inl i=>some i
 | .inr _=>none
noncomputable def fb:List Dv->Option Dv
 |[.dic kvs]=>(kvs.mapM fun p:List Key×Dv=>p.1.mapM keyI).bind fun rs=>if c0 rs=true then some (.lst ((srt rs).map aT)) else none
 |_=>none
theorem lJ {S:Addr->Prop}: ∀{zs:List V},(∀z∈zs,dB H z)->RepsF KF S H zs ((zs.map (rowV H)).map aT)
 |[],_=> .nil
 |z::zs,h=>by
  obtain ⟨b,ns,rfl,_,e⟩:=h z (.head _)
  refine .cons ?_ (lJ fun y hy=>h y (.tail _ hy))
  rw [gh e]
  exact .tup e (eQ ns)
theorem lK {S:Addr->Prop}: ∀{vs:List V}{ds:List Dv}{ns:List Int},RepsF KF S H vs ds->(ds.mapM fun d=>match d with|Dv.int i=>some i|_=>none)=some ns->vs=ns.map V.int
 |_,_,ns,.nil,h=>by rw [List.mapM_nil] at h;cases h;rfl
 |_,_,ns,.cons (d:=d) r t,h=>by
  rw [List.mapM_cons] at h
  obtain ⟨i,h1,h⟩:=Option.bind_eq_some_iff.mp h
  obtain ⟨js,h2,h⟩:=Option.bind_eq_some_iff.mp h
  cases h
  cases d<;>simp only [Option.some.injEq,reduceCtorEq] at h1
  subst h1
  cases r
  rw [lK t h2]
  rfl
theorem uR {S:Addr->Prop}: ∀{vs:List V}{ds:List Dv}{rs:List (List Int)},RepsF KF S H vs ds->ds.mapM dRow=some rs->c0 rs=true->(∀v∈vs,dB H v)/\vs.map (rowV H)=rs
 |_,_,_,.nil,h,_=>by rw [List.mapM_nil] at h;cases h;exact ⟨(fun _ z=>nomatch z),rfl⟩
 |_,_,_,.cons (d:=d) r t,h,ok=>by
  rw [List.mapM_cons] at h
  obtain ⟨ns,h1,h⟩:=Option.bind_eq_some_iff.mp h
  obtain ⟨js,h2,h⟩:=Option.bind_eq_some_iff.mp h
  cases h
  unfold c0 at ok
  rw [List.all_cons,Bool.and_eq_true] at ok
  obtain ⟨a1,a2⟩:=uR t h2 ok.2
  cases d<;>simp only [dRow,reduceCtorEq] at h1
  cases r with
  |tup e q=>
   have e2:=lK q h1
   subst e2
   refine ⟨fun v hv=> ?_,?_⟩
   ·rcases List.mem_cons.mp hv with rfl|hv
    ·refine ⟨_,ns,rfl,fun z=> ?_,e⟩
     rw [z] at ok
     exact absurd ok.1 (by simp)
    ·exact a1 v hv
   ·rw [List.map_cons,gh e,a2]
theorem lL: ∀{ks:List Key}{ns:List Int},ks.mapM keyI=some ns->ks=ns.map Sum.inl
 |[],_,h=>by rw [List.mapM_nil] at h;cases h;rfl
 |k::ks,_,h=>by
  rw [List.mapM_cons] at h
  obtain ⟨i,h1,h⟩:=Option.bind_eq_some_iff.mp h
  obtain ⟨js,h2,h⟩:=Option.bind_eq_some_iff.mp h
  cases h
  rw [lL h2]
  cases k with
  |inl j=>cases h1;rfl
  |inr _=>cases h1
theorem lM {S:Addr->Prop}: ∀{xs:List (List Key×V)}{ds:List (List Key×Dv)}{rs:List (List Int)},RepsK KF S H xs ds->(ds.mapM fun p:List Key×Dv=>p.1.mapM keyI)=some rs->c0 rs=true->
  (∀p∈xs,∃ns:List Int,ns≠[]/\p.1=ns.map Sum.inl)/\ ∀ys:List V,Paired (fun (p:List Key×V) (y:V)=> ∃b,y= .ref b/\H b=some (.tup (p.1.map kV))) xs ys->(∀y∈ys,dB H y)/\ys.map (rowV H)=rs
 |_,_,_,.nil,h,_=>by
  rw [List.mapM_nil] at h;cases h
  exact ⟨(fun _ z=>nomatch z),fun ys q=>by cases q;exact ⟨(fun _ z=>nomatch z),rfl⟩⟩
 |_,_,_,.cons (k:=k) r t,h,ok=>by
  rw [List.mapM_cons] at h
  obtain ⟨ns,h1,h⟩:=Option.bind_eq_some_iff.mp h
  obtain ⟨js,h2,h⟩:=Option.bind_eq_some_iff.mp h
  cases h
  unfold c0 at ok
  rw [List.all_cons,Bool.and_eq_true] at ok
  obtain ⟨a1,a2⟩:=lM t h2 ok.2
  have e:=lL (show k.mapM keyI=some ns from h1)
  have ne:ns≠[]:=fun z=>by rw [z] at ok;exact absurd ok.1 (by simp)
  subst e
  refine ⟨fun p hp=> ?_,fun ys q=> ?_⟩
  ·rcases List.mem_cons.mp hp with rfl|hp
   ·exact ⟨ns,ne,rfl⟩
   ·exact a1 p hp
  ·cases q with
   |cons q1 q2=>
    obtain ⟨b1,b2⟩:=a2 _ q2
    obtain ⟨b,rfl,e⟩:=q1
    have e':H b=some (.tup (ns.map V.int)):=by rw [e,List.map_map];rfl
    refine ⟨fun y hy=> ?_,?_⟩
    ·rcases List.mem_cons.mp hy with rfl|hy
     ·exact ⟨b,ns,rfl,ne,e'⟩
     ·exact b1 y hy
    ·rw [List.map_cons,gh e',b2]
theorem uS:bG KF (fun xs H Q=> ∃a kvs,xs=[.ref a]/\Rd H a (.dT kvs)/\(∀p∈kvs,∃ns:List Int,ns≠[]/\p.1=ns.map Sum.inl)/\
  ∀l ys zs,H l=none->Paired (fun (p:List Key×V) (y:V)=> ∃b,y= .ref b/\H b=some (.tup (p.1.map kV))) kvs ys->dY H ys zs->Q (.ref l) (upd H l (.lst zs))) .one fb:=by
 intro W H vs ds d Q r e hq
 cases r with
 |nil=>cases e
 |cons h r=>
  cases r with
  |cons _ _=>unfold fb at e;split at e<;>first|(next z=>cases z;done)|cases e
  |nil=>
   cases h<;>simp only [fb] at e<;>first|cases e|skip
   next a xs ds s h q=>
   obtain ⟨rs,h1,e⟩:=Option.bind_eq_some_iff.mp e
   split at e
   ·next ok=>
    cases e
    obtain ⟨a1,a2⟩:=lM q h1 ok
    refine ⟨a,xs,rfl,h,a1,fun l ys zs hl pr so=> ?_⟩
    obtain ⟨b1,b2⟩:=a2 ys pr
    have sm:=Same.new (o:= .lst zs) hl
    refine hq _ _ sm ⟨l,rfl,hl,zs,ay,?_⟩
    have:=lJ (KF:=KF) (S:=Imm) (zs:=zs) (H:=H) fun z hz=>b1 z (so.perm.mem_iff.mp hz)
    rw [so.eq,b2] at this
    exact this.same sm
   ·cases e
end
end L2
set_option maxHeartbeats 4000000
namespace L2
open PySem PySem.Spec PyProof.Rows
variable {KF:PySem.W.Frag}{W W':Addr->Prop}
noncomputable def gi:Dv->Option Key
 | .int i=>some (.inl i)
 | .str x=>some (.inr x)
 |_=>none
noncomputable def dKey:Dv->Option (List Key)
 | .tup ds=>ds.mapM gi
 |_=>none
noncomputable def valD (kvs:List (List Key×Dv)) (k:List Key):Option Dv:=(kvs.find? fun kv=>decide (kv.1=k)).map (·.2)
noncomputable def putD (kvs:List (List Key×Dv)) (k:List Key) (v:Dv):List (List Key×Dv):=
 if (kvs.any fun kv=>decide (kv.1=k))=true then kvs.map (fun kv=>if kv.1=k then (kv.1,v) else kv) else kvs++[(k,v)]
noncomputable def dGet:Dv->Dv->Option Dv
 | .dic kvs,y=>(dKey y).bind (valD kvs)
 |_,_=>none
noncomputable def xE (a b c:EM):EM:=fun δ=>(a δ).bind fun x=>(b δ).bind fun y=>(c δ).bind fun z=>match x with
 | .dic kvs=>(dKey y).bind fun k=>let r:=(valD kvs k).getD z;if r.imm=true then some r else none
 |_=>none
noncomputable def sPut (i:Nat) (mk mv:EM):SM:=fun δ=>(mv δ).bind fun v=>(mk δ).bind fun y=>(eVar i δ).bind fun x=>match x with
 | .dic kvs=>(dKey y).bind fun k=>if kvs.length<lim/\v.imm=true then some (.nx (δ.set i (some (.dic (putD kvs k v))))) else none
 |_=>none
noncomputable def lN (i:Nat):SM:=fun δ=>(eVar i δ).bind fun x=>match x with
 | .lst ds=>some (.nx (δ.set i (some (.lst []))))
 |_=>none
noncomputable def lO (i:Nat):SM:=fun δ=>(eVar i δ).bind fun x=>match x with
 | .lst ds=>some (.nx (δ.set i (some (.lst ds.reverse))))
 |_=>none
section
variable {S:Addr->Prop}{H:Hp}
theorem lP: ∀{vs:List V}{ds:List Dv}{ks:List Key},RepsF KF S H vs ds->ds.mapM gi=some ks->vs=ks.map kV
 |_,_,_,.nil,h=>by rw [List.mapM_nil] at h;cases h;rfl
 |_,_,_,.cons (d:=d) r t,h=>by
  rw [List.mapM_cons] at h
  obtain ⟨i,h1,h⟩:=Option.bind_eq_some_iff.mp h
  obtain ⟨js,h2,h⟩:=Option.bind_eq_some_iff.mp h
  cases h
  rw [lP t h2]
  cases d<;>simp only [gi,reduceCtorEq,Option.some.injEq] at h1<;>subst h1<;>cases r<;>rfl
theorem iH {v:V}{d:Dv}{k:List Key} (r:RepF KF S H v d) (h:dKey d=some k): ∃b,v= .ref b/\H b=some (.tup (k.map kV)):=by
 cases d<;>simp only [dKey,reduceCtorEq] at h
 cases r with
 |tup e q=>exact ⟨_,rfl,by rw [e,lP q h]⟩
theorem RepsK.val: ∀{xs:List (List Key×V)}{ds:List (List Key×Dv)} (k:List Key),RepsK KF S H xs ds->(valD ds k=none/\valV xs k=none) \/ ∃v d,valD ds k=some d/\valV xs k=some v/\RepF KF S H v d
 |_,_,k,.nil=> .inl ⟨rfl,rfl⟩
 |_,_,k,.cons (k:=k1) r t=>by
  by_cases e:k1=k
  ·exact .inr ⟨_,_,by simp [valD,List.find?_cons,e],fC e,r⟩
  ·rcases RepsK.val k t with ⟨a,b⟩|⟨v,d,a,b,q⟩
   ·exact .inl ⟨by simpa [valD,List.find?_cons,e] using a,by rw [eL e];exact b⟩
   ·exact .inr ⟨v,d,by simpa [valD,List.find?_cons,e] using a,by rw [eL e];exact b,q⟩
theorem RepsK.length: ∀{xs:List (List Key×V)}{ds:List (List Key×Dv)},RepsK KF S H xs ds->xs.length=ds.length
 |_,_,.nil=>rfl
 |_,_,.cons _ t=>by rw [List.length_cons,List.length_cons,RepsK.length t]
theorem RepsK.app: ∀{xs:List (List Key×V)}{ds:List (List Key×Dv)}{k:List Key}{v:V}{d:Dv},RepsK KF S H xs ds->RepF KF S H v d->RepsK KF S H (xs++[(k,v)]) (ds++[(k,d)])
 |_,_,_,_,_,.nil,r=> .cons r .nil
 |_,_,_,_,_,.cons q t,r=> .cons q (RepsK.app t r)
theorem RepsK.any: ∀{xs:List (List Key×V)}{ds:List (List Key×Dv)}{k:List Key},RepsK KF S H xs ds->(xs.any fun kv=>decide (kv.1=k))=ds.any fun kv=>decide (kv.1=k)
 |_,_,_,.nil=>rfl
 |_,_,_,.cons q t=>by rw [List.any_cons,List.any_cons,RepsK.any t]
theorem RepsK.rep: ∀{xs:List (List Key×V)}{ds:List (List Key×Dv)}{k:List Key}{v:V}{d:Dv},RepsK KF S H xs ds->RepF KF S H v d->
  RepsK KF S H (xs.map fun kv=>if kv.1=k then (kv.1,v) else kv) (ds.map fun kv=>if kv.1=k then (kv.1,d) else kv)
 |_,_,_,_,_,.nil,r=> .nil
 |_,_,k,_,_,.cons (k:=k1) q t,r=>by
  rw [List.map_cons,List.map_cons]
  by_cases e:k1=k
  ·rw [if_pos e,if_pos e];exact .cons r (RepsK.rep t r)
  ·rw [if_neg e,if_neg e];exact .cons q (RepsK.rep t r)
theorem RepsK.put {xs:List (List Key×V)}{ds:List (List Key×Dv)}{k:List Key}{v:V}{d:Dv} (q:RepsK KF S H xs ds) (r:RepF KF S H v d):RepsK KF S H (putK xs k v) (putD ds k d):=by
 unfold putK putD
 rw [q.any]
 split
 ·exact q.rep r
 ·exact q.app r
end
theorem uT {H:Hp}{a b:Addr}{kvs:List (List Key×V)}{k:List Key} (e:Rd H a (.dT kvs)) (eb:H b=some (.tup (k.map kV))):DGet H a (.ref b) (valV kvs k):= .inr ⟨kvs,k,b,e,rfl,eb,rfl⟩
section
variable {X:Cx}{ms:List Nat}{k k1 k2 k3 rk:Kd}{e a b c:Expr}{m ma mb mc:EM}{pos:Pos}
theorem uU (hu:X.A.units+1<cLine) (ha:PD X ms k1 a ma) (hb:PD X ms k2 b mb) (hs:NoSl b):PD X ms .bor (.Subscript a b pos) (eOp dGet ma mb):=by
 obtain ⟨ta,pa,qa⟩:=ha
 obtain ⟨tb,pb,qb⟩:=hb
 refine ⟨_,pN hu pa pb hs,fun δ σ H0 H Q d R hm hq=> ?_⟩
 obtain ⟨x,hx,e⟩:=Option.bind_eq_some_iff.mp hm
 obtain ⟨y,hy,e⟩:=Option.bind_eq_some_iff.mp e
 refine qa δ σ H0 H _ x R hx fun v H1 s1 g1=> ?_
 refine qb δ σ H0 H1 _ y (R.same s1) hy fun u H2 s2 g2=> ?_
 have g1:=(g1.same s2).bor
 cases x<;>simp only [dGet,reduceCtorEq] at e
 obtain ⟨kk,h1,h2⟩:=Option.bind_eq_some_iff.mp e
 obtain ⟨p,rfl,hp⟩:=iH g2.bor h1
 cases g1 with
 |dic _ hd q=>
  rcases q.val kk with ⟨n,_⟩|⟨w',d',n,n2,r⟩
  ·rw [n] at h2;cases h2
  ·rw [n] at h2;cases h2
   exact ⟨_,w',rfl,n2▸uT hd hp,hq w' H2 (s1.tr s2) r⟩
theorem uV:PD X ms .one (.Dict [] [] pos) (eC (.dic [])):=by
 refine ⟨_,pQ,fun δ σ H0 H Q d R hm hq=> ?_⟩
 cases hm
 exact fun p hp=>hq _ _ (Same.new hp) ⟨p,rfl,hp,[],ay,.nil⟩
theorem uW {i:Nat}{x:Str}{np pos':Pos}{v:Expr}{mv:EM} (hu:X.A.units+1<cLine) (hi:decide (i∈ms)=true) (hx:PE X (.Name x np) (tVar i)) (hk:PD X ms k1 b mb) (hv:PD X ms k2 v mv)
  (hs:swapsWith v (some (.Subscript (.Name x np) b pos')) pos.line X.env=pure false):PDs X ms rk (.Assign [.Subscript (.Name x np) b pos'] v pos) (sPut i mb mv):=by
 obtain ⟨tb,pb,qb⟩:=hk
 obtain ⟨tv,pv,qv⟩:=hv
 refine ⟨_,pO hu hx pb pv hs,fun δ σ H0 H D r R hm hq=> ?_⟩
 have hi:=of_decide_eq_true hi
 obtain ⟨dv,hv,e⟩:=Option.bind_eq_some_iff.mp hm
 obtain ⟨y,hy,e⟩:=Option.bind_eq_some_iff.mp e
 obtain ⟨z,hz,e⟩:=Option.bind_eq_some_iff.mp e
 cases z<;>simp only [reduceCtorEq] at e
 obtain ⟨kk,h1,e⟩:=Option.bind_eq_some_iff.mp e
 split at e
 ·next hl=>
  cases e
  refine qv δ σ H0 H _ dv R hv fun w1 H1 s1 g1=> ?_
  have R1:=R.same s1
  obtain ⟨p,hsp,xs0,hp0,q0⟩:=R1.getOwn hi hz
  refine ⟨_,hsp,?_⟩
  refine qb δ σ H0 H1 _ y R1 hy fun u H2 s2 g2=> ?_
  have R2:=R1.same s2
  obtain ⟨p',hsp',xs,hp,q⟩:=R2.getOwn hi hz
  rw [hsp] at hsp';cases hsp'
  obtain ⟨kb,rfl,hkb⟩:=iH g2.bor h1
  refine ⟨p,_,rfl,DPut.t hp hkb (by rw [q.length];exact Nat.lt_trans hl.1 (by decide)),?_⟩
  have nt: ∀ys,HO.dT (putK xs kk w1)≠ .tup ys:=fun _ z=>nomatch z
  have kp:aD Imm H2 (L2.upd H2 p (.dT (putK xs kk w1))):=fun b ob hb kq=>by
   rcases kq with ⟨ys,rfl⟩|⟨c,u,rfl⟩|kq
   ·rw [au (fun z=>by rw [z,hp] at hb;cases hb)];exact hb
   ·rw [au (fun z=>by rw [z,hp] at hb;cases hb)];exact hb
   ·exact kq.elim
  have cl:Cell X.K (L2.upd H2 p (.dT (putK xs kk w1))) p (.dic (putD _ kk dv)):=⟨_,ay,(q.put ((g1.same s2).bor.imm hl.2)).keep kp⟩
  obtain ⟨W9,R3,st⟩:=R2.mut hi hsp (ce hz) nt (fun _ _ z=>nomatch z) cl
  exact hq W9 σ _ ((Stp.sm (s1.tr s2)).tr st) R3
 ·cases e
end
end L2
set_option maxHeartbeats 4000000
namespace L2
open PySem PySem.Spec PyProof.Rows
noncomputable def putB (i:Nat) (v y x:Option Dv) (δ:Dt):Option Fl:=match v,y,x with
 |some v,some y,some (.dic kvs)=>(match dKey y with
  |some k=>if kvs.length<lim/\v.imm=true then some (.nx (δ.set i (some (.dic (putD kvs k v))))) else none
  |none=>none)
 |_,_,_=>none
theorem uX {i:Nat}{mk mv:EM}{δ:Dt}:sPut i mk mv δ=putB i (mv δ) (mk δ) (eVar i δ) δ:=by
 unfold sPut putB
 cases mv δ with
 |none=>rfl
 |some v=>
  cases mk δ with
  |none=>rfl
  |some y=>
   cases eVar i δ with
   |none=>rfl
   |some x=>
    cases x<;>try rfl
    cases h:dKey y<;>simp [h]
theorem uY {i:Nat}{v y:Dv}{kvs:List (List Key×Dv)}{k:List Key}{δ:Dt} (hk:dKey y=some k) (h:kvs.length<lim) (h':v.imm=true):putB i (some v) (some y) (some (.dic kvs)) δ=some (.nx (δ.set i (some (.dic (putD kvs k v))))):=by
 show (match dKey y with
  |some k=>if kvs.length<lim/\v.imm=true then some (Fl.nx (δ.set i (some (.dic (putD kvs k v))))) else none
  |none=>none)=_
 rw [hk]
 exact if_pos ⟨h,h'⟩
noncomputable def clrB (i:Nat) (x:Option Dv) (δ:Dt):Option Fl:=match x with
 |some (.lst _)=>some (.nx (δ.set i (some (.lst []))))
 |_=>none
theorem uZ {i:Nat}{δ:Dt}:lN i δ=clrB i (eVar i δ) δ:=by
 unfold lN clrB
 cases eVar i δ with
 |none=>rfl
 |some x=>cases x<;>rfl
theorem va {i:Nat}{ds:List Dv}{δ:Dt}:clrB i (some (.lst ds)) δ=some (.nx (δ.set i (some (.lst [])))):=rfl
noncomputable def revB (i:Nat) (x:Option Dv) (δ:Dt):Option Fl:=match x with
 |some (.lst ds)=>some (.nx (δ.set i (some (.lst ds.reverse))))
 |_=>none
theorem vb {i:Nat}{δ:Dt}:lO i δ=revB i (eVar i δ) δ:=by
 unfold lO revB
 cases eVar i δ with
 |none=>rfl
 |some x=>cases x<;>rfl
theorem vc {i:Nat}{ds:List Dv}{δ:Dt}:revB i (some (.lst ds)) δ=some (.nx (δ.set i (some (.lst ds.reverse)))):=rfl
theorem lQ {d:Dv} (c:d.toPy.canLay0=true) (h:d.toPy.depth<=60):eqOk d d=true/\PyData.eqv d.toPy d.toPy=true:=by
 refine ⟨?_,PySem.SeqAt.eqv_refl _ c⟩
 unfold eqOk
 rw [c,Nat.min_self,decide_eq_true h]
 rfl
theorem vd {d:Dv} (c:d.toPy.canLay0=true) (h:d.toPy.depth<=60):dEq d d=some (.bl true):=by
 obtain ⟨a,b⟩:=lQ c h
 unfold dEq
 rw [if_pos a,b]
theorem dZ {d:Dv} (c:d.toPy.canLay0=true) (h:d.toPy.depth<=60):dNe d d=some (.bl false):=by
 obtain ⟨a,b⟩:=lQ c h
 unfold dNe
 rw [if_pos a,b]
 rfl
theorem fe {α:Type} (f:α->Dv): ∀xs:List α,bZ (xs.map f)=xs.map fun x=>(f x).toPy
 |[]=>rfl
 |x::xs=>by rw [List.map_cons,bZ,fe f xs];rfl
theorem ff {α:Type}{f:α->PyData}: ∀{xs:List α},(∀x∈xs,(f x).canLay0=true)->PyData.canLayAll0 (xs.map f)=true
 |[],_=>rfl
 |x::xs,h=>by rw [List.map_cons,PyData.canLayAll0,h x (.head _),ff fun y hy=>h y (.tail _ hy)];rfl
theorem fg {α:Type}{f:α->PyData}{n:Nat}: ∀{xs:List α},(∀x∈xs,(f x).depth<=n)->PyData.depthAll (xs.map f)<=n
 |[],_=>Nat.zero_le _
 |x::xs,h=>by rw [List.map_cons,PyData.depthAll];exact Nat.max_le.mpr ⟨h x (.head _),fg fun y hy=>h y (.tail _ hy)⟩
theorem ve (r:List Int):(aT r).toPy.canLay0=true:=by
 unfold aT Dv.toPy
 rw [fe]
 exact ff fun _ _=>rfl
theorem vf (r:List Int):(aT r).toPy.depth<=1:=by
 unfold aT Dv.toPy
 rw [fe,PyData.depth]
 exact Nat.succ_le_succ (fg fun _ _=>Nat.le_refl _)
noncomputable def ent (p:List Int×Int):Dv:= .tup [.tup (p.1.map .int),.int p.2]
theorem vg (p:List Int×Int):(ent p).toPy.canLay0=true:=by
 have h:=ve p.1
 show (PyData.canLay0 (aT p.1).toPy&&true)=true
 rw [h];rfl
theorem vh (p:List Int×Int):(ent p).toPy.depth<=2:=by
 have h:=vf p.1
 show max (aT p.1).toPy.depth (max 0 0)+1<=2
 lia
theorem iI (h:List (List Int×Int)):(Dv.lst (h.map ent)).toPy.canLay0=true:=by
 unfold Dv.toPy
 rw [fe]
 exact ff fun p _=>vg p
theorem iJ (h:List (List Int×Int)):(Dv.lst (h.map ent)).toPy.depth<=3:=by
 unfold Dv.toPy
 rw [fe,PyData.depth]
 exact Nat.succ_le_succ (fg fun p _=>vh p)
theorem vi (h:List (List Int×Int)):dEq (.lst (h.map ent)) (.lst (h.map ent))=some (.bl true):=vd (iI h) (Nat.le_trans (iJ h) (by decide))
theorem vj (h:List (List Int×Int)):dNe (.lst (h.map ent)) (.lst (h.map ent))=some (.bl false):=dZ (iI h) (Nat.le_trans (iJ h) (by decide))
theorem vk {p:List Int×Int}:(ent p).imm=true:=by
 show imms [.tup (p.1.map .int),.int p.2]=true
 rw [fT,lg,cm]
 rfl
theorem vm {r:List Int}:(aT r).imm=true:=cm r
theorem lR {α:Type}{f:α->Dv}: ∀{xs:List α},(∀x∈xs,(f x).imm=true)->imms (xs.map f)=true
 |[],_=>rfl
 |x::xs,h=>by rw [List.map_cons,fT,h x (.head _),lR fun y hy=>h y (.tail _ hy)];rfl
theorem iK {h:List (List Int×Int)}:imms (h.map ent)=true:=lR fun _ _=>vk
noncomputable def dct (kws:List (List Int×Int)):List (List Key×Dv):=kws.map fun p=>(p.1.map Sum.inl,.int p.2)
noncomputable def getL (kws:List (List Int×Int)) (r:List Int):Option Int:=(kws.find? fun p=>decide (p.1=r)).map (·.2)
noncomputable def putL (kws:List (List Int×Int)) (r:List Int) (w:Int):List (List Int×Int):=
 if (kws.any fun p=>decide (p.1=r))=true then kws.map (fun p=>if p.1=r then (p.1,w) else p) else kws++[(r,w)]
theorem gj {a b:List Int}:(a.map (Sum.inl:Int->Key)=b.map Sum.inl)↔a=b:=
 ⟨fun h=>by
  have:=congrArg (fun l:List Key=>l.map fun k=>match k with| .inl i=>i| .inr _=>0) h
  simpa [List.map_map,Function.comp_def] using this,fun h=>by rw [h]⟩
theorem lS (r:List Int):dKey (aT r)=some (r.map Sum.inl):=by
 show (r.map Dv.int).mapM gi=_
 induction r with
 |nil=>rfl
 |cons x r ih=>rw [List.map_cons,List.mapM_cons,ih];rfl
theorem lT (r:List Int):dKey (.tup (r.map .int))=some (r.map Sum.inl):=lS r
theorem lU: ∀(kws:List (List Int×Int)) (r:List Int),valD (dct kws) (r.map Sum.inl)=(getL kws r).map .int
 |[],_=>rfl
 |p::kws,r=>by
  have ih:=lU kws r
  unfold valD dct getL at ih|-
  rw [List.map_cons,List.find?_cons,List.find?_cons]
  by_cases e:p.1=r
  ·simp [e]
  ·have e': ¬p.1.map (Sum.inl:Int->Key)=r.map Sum.inl:=fun h=>e (gj.mp h)
   simp only [decide_eq_false e,decide_eq_false e']
   exact ih
theorem vn (kws:List (List Int×Int)) (r:List Int):((dct kws).any fun kv=>decide (kv.1=r.map Sum.inl))=kws.any fun p=>decide (p.1=r):=by
 unfold dct
 rw [List.any_map]
 refine congrArg (fun f=>kws.any f) (funext fun p=> ?_)
 exact decide_eq_decide.mpr gj
theorem vo (kws:List (List Int×Int)) (r:List Int) (w:Int):putD (dct kws) (r.map Sum.inl) (.int w)=dct (putL kws r w):=by
 unfold putD putL
 rw [vn]
 split
 ·unfold dct
  rw [List.map_map,List.map_map]
  refine List.map_congr_left fun p _=> ?_
  show (if p.1.map (Sum.inl:Int->Key)=r.map Sum.inl then (p.1.map Sum.inl,Dv.int w) else (p.1.map Sum.inl,.int p.2))=_
  by_cases e:p.1=r
  ·rw [if_pos (gj.mpr e)];simp [e]
  ·rw [if_neg fun h=>e (gj.mp h)];simp [e]
 ·unfold dct
  rw [List.map_append]
  rfl
theorem vp (kws:List (List Int×Int)):(dct kws).length=kws.length:=List.length_map ..
theorem vq (kws:List (List Int×Int)) (r:List Int) (w:Int):(putL kws r w).length<=kws.length+1:=by
 unfold putL
 split
 ·rw [List.length_map];lia
 ·rw [List.length_append];exact Nat.le_refl _
theorem putL_mem {kws:List (List Int×Int)}{r:List Int}{w:Int}{p:List Int×Int} (h:p∈putL kws r w):p∈kws \/p=(r,w):=by
 unfold putL at h
 split at h
 ·obtain ⟨q,hq,e⟩:=List.mem_map.mp h
  split at e
  ·next e2=>right;rw [<-e,e2]
  ·left;rw [<-e];exact hq
 ·rcases List.mem_append.mp h with h|h
  ·exact .inl h
  ·exact .inr (List.mem_singleton.mp h)
theorem vr {kws:List (List Int×Int)}{r:List Int}{w:Int} (nd:(kws.map (·.1)).Nodup):((putL kws r w).map (·.1)).Nodup:=by
 unfold putL
 split
 ·have e:(kws.map fun p=>if p.1=r then (p.1,w) else p).map (·.1)=kws.map (·.1):=by
   rw [List.map_map]
   refine List.map_congr_left fun p _=> ?_
   show (if p.1=r then (p.1,w) else p).1=p.1
   split<;>rfl
  rw [e];exact nd
 ·next h=>
  rw [List.map_append,List.nodup_append]
  refine ⟨nd,by simp,fun a ha b hb=> ?_⟩
  obtain rfl:b=r:=by simpa using hb
  rintro rfl
  obtain ⟨p,hp,e⟩:=List.mem_map.mp ha
  exact h (List.any_eq_true.mpr ⟨p,hp,decide_eq_true e⟩)
theorem lV: ∀kws:List (List Int×Int),((dct kws).mapM fun p:List Key×Dv=>p.1.mapM keyI)=some (kws.map (·.1))
 |[]=>rfl
 |p::kws=>by
  have ih:=lV kws
  unfold dct at ih|-
  have e: ∀l:List Int,(l.map (Sum.inl:Int->Key)).mapM keyI=some l:=by
   intro l
   induction l with
   |nil=>rfl
   |cons x l il=>rw [List.map_cons,List.mapM_cons,il];rfl
  rw [List.map_cons,List.mapM_cons,ih]
  show ((p.1.map (Sum.inl:Int->Key)).mapM keyI).bind _=_
  rw [e]
  rfl
theorem vt {kws:List (List Int×Int)} (h: ∀p∈kws,p.1≠[]):fb [.dic (dct kws)]=some (.lst ((srt (kws.map (·.1))).map aT)):=by
 show (Option.bind _ _)=_
 rw [lV]
 show (if c0 _=true then _ else _)=_
 rw [if_pos]
 unfold c0
 rw [List.all_eq_true]
 intro r hr
 obtain ⟨p,hp,rfl⟩:=List.mem_map.mp hr
 have:=h p hp
 cases e:p.1 with
 |nil=>exact absurd e this
 |cons _ _=>rfl
theorem gm {kws:List (List Int×Int)}{r:List Int} (h:r∈kws.map (·.1)): ∃w,getL kws r=some w/\(r,w)∈kws:=by
 unfold getL
 cases e:kws.find? fun p=>decide (p.1=r) with
 |none=>
  obtain ⟨p,hp,e2⟩:=List.mem_map.mp h
  have:=List.find?_eq_none.mp e p hp
  exact absurd (decide_eq_true e2) this
 |some q=>
  have h1:=List.find?_some e
  have h2:=List.mem_of_find?_eq_some e
  have h3:q.1=r:=of_decide_eq_true h1
  refine ⟨q.2,rfl,?_⟩
  rw [<-h3]
  exact h2
noncomputable def wOf (kws:List (List Int×Int)) (r:List Int):Int:=(getL kws r).getD 0
theorem vv {kws:List (List Int×Int)}{r:List Int} (h:r∈kws.map (·.1)):dGet (.dic (dct kws)) (aT r)=some (.int (wOf kws r)):=by
 obtain ⟨w,e,_⟩:=gm h
 show (dKey (aT r)).bind _=_
 rw [lS]
 show valD _ _=_
 rw [lU]
 unfold wOf
 rw [e]
 rfl
theorem lW (l:List (List Int)):(srt l).length=l.length:=(dX l).length_eq
theorem gn {α:Type}{g:Dv->Dt->Option Dt}{c:Dt->Option Bool}{el:EM}{δ:Dt} (enc f:α->Dv) (xs:List α) (h: ∀x,x∈xs->celM g c el δ (enc x)=some (some (f x))):ba g c el δ (xs.map enc)=some (xs.map f):=by
 rw [lq enc (fun x=>some (f x)) xs h]
 congr 1
 clear h
 induction xs with
 |nil=>rfl
 |cons x xs ih=>rw [List.filterMap_cons,ih];rfl
theorem vw {i:Int}:fInt [.int i]=some (.int i):=rfl
theorem vx {b:Bool}:fInt [.bl b]=some (.int (if b then 1 else 0)):=rfl
theorem vy {ns:List Int}:fSum [.lst (ns.map .int)]=some (.int ns.sum):=by
 show (dU _).map _=_
 rw [kT]
 rfl
theorem at20 {a b:Dv}:atI [a,b] 0=some a:=rfl
theorem at21 {a b:Dv}:atI [a,b] 1=some b:=rfl
theorem c2:((2:Nat):Int)=2:=rfl
theorem bd (a b:Int) (h:0<b):0<=a%b/\a%b<b:=⟨Int.emod_nonneg _ (by lia),Int.emod_lt_of_pos _ h⟩
theorem lX {i j:Int} (h:i.natAbs<2^2048) (h':j.natAbs<2^2048):bM i j=true:=by
 unfold bM
 rw [decide_eq_true h,decide_eq_true h']
 simp
theorem vz {d:Dv}{zs:List Int} (h:d∈zs.map Dv.int): ∃z:Int,z∈zs/\d= .int z:=by
 obtain ⟨z,h,e⟩:=List.mem_map.mp h
 exact ⟨z,h,e.symm⟩
end L2
set_option maxHeartbeats 4000000
local macro_rules
 | `(tactic| simp_arith $cfg:optConfig [$xs,*]) => `(tactic| simp $cfg:optConfig only [$xs,*,L2.cj,L2.rf,L2.rg,L2.rh,L2.rj,L2.rm,L2.rp,L2.rq,L2.rA,L2.rB,L2.rC,L2.rD,L2.rE,L2.rF,L2.rG,L2.rH,L2.rJ,L2.rK,L2.rL,L2.rM,L2.rN,L2.rO,L2.rP,L2.rQ,L2.rR,L2.rS,L2.rT,L2.rU,L2.rV,L2.eC_b,L2.rX,L2.rY,L2.rZ,L2.r8,L2.se,L2.sf,L2.sg,L2.si,L2.sj,L2.sk,L2.sn,L2.ss,L2.su,L2.sv,L2.sw,L2.sA,L2.sB,L2.sC,L2.sD,L2.sE,L2.sF,L2.sG,L2.sH,L2.sI,L2.sJ,L2.sK,L2.sL,L2.sM,L2.sN,L2.sO,L2.sP,L2.sQ,L2.sR,L2.sS,L2.gN_b,L2.sT,L2.sU,L2.sV,L2.sW,L2.sX,L2.sY,L2.sZ,L2.tf,L2.tj,L2.tm,L2.tq,L2.ij,L2.tu,L2.tw,L2.tD,L2.tE,L2.lf,L2.tF,L2.tG,L2.tH,L2.lg,L2.tI,L2.fT,L2.cm,L2.tJ,L2.tK,L2.tL,L2.tN,L2.tO,L2.tP,L2.tQ,L2.tR,List.set_cons_zero,List.set_cons_succ,Option.map_some,L2.lenc,L2.lenn,Nat.reduceAdd,Nat.reduceLeDiff,Int.reduceLT,Int.reduceLE,List.length_map,L2.dW,Bool.and_true,Bool.and_self,Bool.not_true,Bool.not_false,L2.aG,List.map_cons,List.map_nil,List.getElem?_cons_zero,List.getElem?_cons_succ,Option.join_some,L2.bO,List.cons_append,List.nil_append,List.replicate,and_self,and_true,true_and,L2.tS,L2.Dv.isScr,L2.tyN,L2.rW,L2.tT,L2.tU,L2.tV,L2.tW,L2.tX,L2.tY,L2.tZ,L2.t3,L2.t4,L2.t5,L2.t6,L2.t7,L2.gT_b,L2.gC_b,L2.t8,L2.gZ_b,L2.iL_b,L2.t9,L2.iT_b,L2.uc,L2.ud,L2.ue,L2.uf,L2.ug,L2.uh,L2.uX,L2.uZ,L2.va,L2.vb,L2.vc,L2.vw,L2.vx,L2.vy,L2.at20,L2.at21,L2.c2])
namespace L2
open PySem PySem.Spec PyProof.Rows
end L2
set_option maxHeartbeats 4000000
namespace L2
open PySem PySem.Spec PyProof.Rows
section
variable {X:Cx}{ms:List Nat}{k k1 k2 k3 rk:Kd}{e a b c:Expr}{m ma mb mc:EM}{pos:Pos}
theorem xF (t:Tok) (l:Addr) (its:Array Value) (n:Nat) (dc:Option Addr) (sl:Array (Option Value)):
  Meets (Builtin.«tuple.__mul__» ⟨[.ref l,.int 1 t],[]⟩) (fun _ R s=>s.heap.get? l=some ⟨.type "tuple",dc,.seq its n,sl⟩/\R (.ok (.ret (.ref l))) s):=
 .of_wp fun prog w A R s h=>by obtain ⟨hp,g,d,tk,os⟩:=s;obtain ⟨hl,h⟩:=h;wp_walk;exact ⟨_,rfl,h⟩
theorem RepsF.rep {KF:PySem.W.Frag}{S:Addr->Prop}{H:Hp}{xs:List V}{ds:List Dv} (r:RepsF KF S H xs ds): ∀n:Nat,RepsF KF S H (List.replicate n xs).flatten (List.replicate n ds).flatten
 |0=> .nil
 |n+1=>by rw [List.replicate_succ,List.replicate_succ,List.flatten_cons,List.flatten_cons];exact r.append (RepsF.rep r n)
end
end L2
set_option maxHeartbeats 4000000
namespace L2
open PySem PySem.Spec PyProof.Rows
theorem vA {p:List Int×Int}{h:List (List Int×Int)}:dNe (.lst ((p::h).map ent)) (.lst [])=some (.bl true):=by
 have a:eqOk (.lst ((p::h).map ent)) (.lst [])=true:=by
  unfold eqOk
  rw [iI (p::h),decide_eq_true (Nat.le_trans (Nat.min_le_left _ _) (Nat.le_trans (iJ (p::h)) (by decide)))]
  rfl
 unfold dNe
 rw [if_pos a]
 rfl
theorem d3 (p:List Int×Int) (h:List (List Int×Int)) (r:List Int):getL (p::h) r=if p.1=r then some p.2 else getL h r:=by
 unfold getL
 rw [List.find?_cons]
 by_cases e:p.1=r
 ·rw [decide_eq_true e,if_pos e];rfl
 ·rw [decide_eq_false e,if_neg e]
theorem iM: ∀{h:List (List Int×Int)}{r:List Int},r∉h.map (·.1)->getL h r=none
 |[],_,_=>rfl
 |p::h,r,n=>by
  rw [List.map_cons,List.mem_cons] at n
  rw [d3,if_neg fun e=>n (.inl e.symm)]
  exact iM fun z=>n (.inr z)
noncomputable def hOf (kws:List (List Int×Int)):List (List Int×Int):=(srt (kws.map (·.1))).map fun r=>(r,wOf kws r)
theorem lY (kws:List (List Int×Int)):(hOf kws).length=kws.length:=by unfold hOf;rw [List.length_map,lW,List.length_map]
theorem lZ {kws:List (List Int×Int)}{p:List Int×Int} (h:p∈hOf kws):p∈kws:=by
 unfold hOf at h
 obtain ⟨r,h1,rfl⟩:=List.mem_map.mp h
 obtain ⟨w,e,m⟩:=gm ((dX _).mem_iff.mp h1)
 unfold wOf
 rw [e]
 exact m
end L2
set_option maxHeartbeats 4000000
namespace L2
open PySem PySem.Spec PyProof.Rows
section
variable {X:Cx}{pins:List (Addr×Obj)}{σ:St}{H:Hp}{s:Shared}{h':Heap}
end
end L2
set_option maxHeartbeats 4000000
namespace L2
open PySem PySem.Spec PyProof.Rows
section
variable {X:Cx}
variable {ms:List Nat}{rk:Kd}
end
end L2
set_option maxHeartbeats 4000000
namespace L2
open PySem PySem.Spec PyProof.Rows
noncomputable def sUnp (m:EM) (g:Dv->Dt->Option Dt):SM:=fun δ=>(m δ).bind fun d=>(g d δ).map .nx
section
variable {X:Cx}{ms:List Nat}{k k1 rk:Kd}{e tg:Expr}{m:EM}{g:Dv->Dt->Option Dt}{pos:Pos}
end
end L2
set_option maxHeartbeats 4000000
namespace HT
open PySem PyProof.Rows
section
open PySem.SeqAt
open PySem.AutoSeq1 (wpAny_loadPart')
open PySem.MeetsSeq PySem.MeetsSeq2 PySem.MeetsSeq3
end
section
variable {prog:Program}{w:World}{A:Around}{E:Value->Shared->Prop}{s:Shared}
end
end HT
namespace L2
open PySem PySem.Spec PyProof.Rows
variable {KF:PySem.W.Frag}{W W':Addr->Prop}
section
variable {X:Cx}
noncomputable def dC:List Dv->Option (List Int)
 |[]=>some []
 | .int i::r=>(dC r).map (i:: ·)
 |_=>none
noncomputable def dLtT:Dv->Dv->Option Dv
 | .tup xs,.tup ys=>(dC xs).bind fun a=>(dC ys).map fun b=> .bl (HT.ap a b)
 |_,_=>none
theorem iN: ∀{ds:List Dv}{ns:List Int},dC ds=some ns->ds=ns.map .int
 |[],ns,h=>by cases h;rfl
 | .int i::r,ns,h=>by
  obtain ⟨m,hm,rfl⟩:=Option.map_eq_some_iff.mp h
  rw [List.map_cons,iN hm]
 | .non::_,_,h=>nomatch h
 | .bl _::_,_,h=>nomatch h
 | .str _::_,_,h=>nomatch h
 | .lst _::_,_,h=>nomatch h
 | .tup _::_,_,h=>nomatch h
 | .dic _::_,_,h=>nomatch h
 | .scr _::_,_,h=>nomatch h
 | .fn _::_,_,h=>nomatch h
 | .fc _ _ _::_,_,h=>nomatch h
 | .dik _::_,_,h=>nomatch h
 | .ins _ _::_,_,h=>nomatch h
theorem iO: ∀(ns:List Int),dC (ns.map .int)=some ns
 |[]=>rfl
 |i::r=>by rw [List.map_cons,dC,iO r];rfl
theorem vB:OpD KF (rLtT KF) dLtT:=by
 intro H x y dx dy d Q rx ry h hq
 unfold dLtT at h
 split at h
 rotate_left
 ·cases h
 cases rx
 next hx qx=>
 cases ry
 next hy qy=>
 obtain ⟨a,ha,h⟩:=Option.bind_eq_some_iff.mp h
 obtain ⟨b,hb,rfl⟩:=Option.map_eq_some_iff.mp h
 have ea:=iN ha
 have eb:=iN hb
 subst ea eb
 rw [qx.ints] at hx
 rw [qy.ints] at hy
 exact ⟨_,_,a,b,rfl,rfl,SqT.of hx,SqT.of hy,hq _ (.bl _)⟩
theorem vC {a b:List Int}:dLtT (.tup (a.map .int)) (.tup (b.map .int))=some (.bl (HT.ap a b)):=by show ((dC _).bind _)=_;rw [iO,iO];rfl
end
section
variable {X:Cx}{ms:List Nat}{k k1 k2 k3 rk:Kd}{e a b c:Expr}{m ma mb mc:EM}{pos:Pos}
noncomputable def tOf2 (f:Dv->Dv->Option Dv) (ma mb:EM):Dt->Option Bool:=tOf (eOp f ma mb)
end
end L2
set_option maxHeartbeats 4000000
namespace L2
open PySem PySem.Spec PyProof.Rows
variable {KF:PySem.W.Frag}{W W':Addr->Prop}
section
variable {X:Cx}{ms:List Nat}{rk k:Kd}{e:Expr}{m:EM}{pos pos':Pos}{st:Stmt}{rest a b:List Stmt}{ma mb:SM}
end
section
variable {X:Cx}
end
section
variable {X:Cx}{ms:List Nat}{k k1 k2 k3 rk:Kd}{e a b c:Expr}{m ma mb mc:EM}{pos:Pos}
theorem RepsF.pick {S:Addr->Prop}{H:Hp}{xs:List V}{ds:List Dv} (r:RepsF KF S H xs ds): ∀(l:List Nat),RepsF KF S H (l.filterMap fun i=>xs[i]?) (l.filterMap fun i=>ds[i]?)
 |[]=> .nil
 |i::l=>by
  rw [List.filterMap_cons,List.filterMap_cons]
  cases hx:xs[i]? with
  |none=>
   have:ds[i]?=none:=by rw [List.getElem?_eq_none_iff] at hx|-;rw [<-r.length];exact hx
   rw [this]
   exact r.pick l
  |some x=>
   obtain ⟨d,hd,rd⟩:=r.get' hx
   rw [hd]
   exact .cons rd (r.pick l)
theorem Vals.pick {xs:List V}{us:List Value} (r:Vals xs us): ∀(l:List Nat),Vals (l.filterMap fun i=>xs[i]?) (l.filterMap fun i=>us[i]?)
 |[]=> .nil
 |i::l=>by
  rw [List.filterMap_cons,List.filterMap_cons]
  cases hx:xs[i]? with
  |none=>
   have:us[i]?=none:=by rw [List.getElem?_eq_none_iff] at hx|-;rw [<-r.length];exact hx
   rw [this]
   exact Vals.pick r l
  |some x=>
   obtain ⟨d,hd,rd⟩:=r.get hx
   rw [hd]
   exact .cons rd (Vals.pick r l)
end
end L2
set_option maxHeartbeats 4000000
namespace L2
open PySem PySem.Spec PyProof.Rows
noncomputable abbrev Hl:=List (List Int×Int)
noncomputable def tot:Hl->List Int->Int
 |[],_=>0
 |p::ps,r=>(if p.1=r then p.2 else 0)+tot ps r
theorem vD (kws:Hl) (r q:List Int) (w:Int):getL (putL kws r w) q=if r=q then some w else getL kws q:=by
 unfold putL
 split
 ·next h=>
  have key: ∀l:Hl,getL (l.map fun p=>if p.1=r then (p.1,w) else p) q=if r=q then (getL l q).map fun _=>w else getL l q:=by
   intro l
   induction l with
   |nil=>simp [getL]
   |cons p l ih=>
    rw [List.map_cons,d3,d3,ih]
    by_cases e:p.1=r
    ·rw [if_pos e]
     by_cases e2:r=q
     ·rw [if_pos (by rw [e,e2]),if_pos e2,if_pos (by rw [e,e2])];rfl
     ·rw [if_neg (fun z=>e2 (e▸z)),if_neg e2,if_neg e2,if_neg (fun z=>e2 (e▸z))]
    ·rw [if_neg e]
     by_cases e2:r=q
     ·rw [if_neg (fun z=>e (by rw [z,e2])),if_pos e2,if_pos e2,if_neg (fun z=>e (by rw [z,e2]))]
     ·by_cases e3:p.1=q
      ·rw [if_pos e3,if_neg e2,if_pos e3]
      ·rw [if_neg e3,if_neg e2,if_neg e2,if_neg e3]
  rw [key]
  split
  ·next e=>
   subst e
   obtain ⟨p,hp,e⟩:=List.any_eq_true.mp h
   have hm:r∈kws.map (·.1):=List.mem_map.mpr ⟨p,hp,of_decide_eq_true e⟩
   obtain ⟨v,hv,_⟩:=gm hm
   rw [hv];rfl
  ·rfl
 ·next h=>
  have hn:r∉kws.map (·.1):=fun z=>by
   obtain ⟨p,hp,e⟩:=List.mem_map.mp z
   exact h (List.any_eq_true.mpr ⟨p,hp,decide_eq_true e⟩)
  have key: ∀l:Hl,getL (l++[(r,w)]) q=(getL l q).or (if r=q then some w else none):=by
   intro l
   induction l with
   |nil=>rw [List.nil_append,d3];simp [getL]
   |cons p l ih=>
    rw [List.cons_append,d3,d3,ih]
    split<;>simp
  rw [key]
  by_cases e:r=q
  ·subst e
   rw [iM hn,if_pos rfl];rfl
  ·rw [if_neg e,if_neg e]
   cases getL kws q<;>rfl
theorem vE {kws:Hl}{r q:List Int}{w:Int}:q∈(putL kws r w).map (·.1)↔q=r \/q∈kws.map (·.1):=by
 constructor
 ·intro h
  obtain ⟨p,hp,rfl⟩:=List.mem_map.mp h
  rcases putL_mem hp with h|rfl
  ·exact .inr (List.mem_map.mpr ⟨p,h,rfl⟩)
  ·exact .inl rfl
 ·intro h
  refine Classical.byContradiction fun n=> ?_
  have e:=iM n
  rw [vD] at e
  rcases h with rfl|h
  ·rw [if_pos rfl] at e;cases e
  ·by_cases c:r=q
   ·rw [if_pos c] at e;cases e
   ·rw [if_neg c] at e
    obtain ⟨v,hv,_⟩:=gm h
    rw [hv] at e;cases e
noncomputable def Rise (h:Hl):Prop:=h.Pairwise fun p q=>HT.ap p.1 q.1=true
theorem Rise.filter {h:Hl} (r:Rise h) (f:List Int×Int->Bool):Rise (h.filter f):=List.Pairwise.filter f r
theorem vF {kws:Hl} (nd:(kws.map (·.1)).Nodup):Rise (hOf kws):=by
 have h1:=iF (kws.map (·.1))
 have h2:(srt (kws.map (·.1))).Nodup:=(dX _).nodup_iff.mpr nd
 unfold Rise hOf
 rw [List.pairwise_map]
 refine (h1.and h2).imp fun {a b} h=> ?_
 obtain ⟨h1,h2⟩:=h
 show HT.ap a b=true
 cases e:HT.ap a b with
 |true=>rfl
 |false=>exact absurd (DhSort.iB a b e h1) h2
structure IsH (h:Hl):Prop where
 rise:Rise h
 nz: ∀p∈h,p.2≠0
end L2
set_option maxHeartbeats 4000000
namespace DhRev
open PySem PySem.Calls PyProof.Rows PySem.W
section
variable {prog:Program}{w:World}{A:Around}{E:Value->Shared->Prop}{s:Shared}{r:Addr}
end
end DhRev
namespace L2
open PySem PySem.Spec PyProof.Rows
variable {KF:PySem.W.Frag}{W W':Addr->Prop}
section
variable {X:Cx}{ms:List Nat}{k k1 k2 k3 rk:Kd}{e a b c:Expr}{m ma mb mc:EM}{pos:Pos}{te:TE}
end
end L2
set_option maxHeartbeats 4000000
namespace L2
open PySem PySem.Spec PyProof.Rows
variable {KF:PySem.W.Frag}{W W':Addr->Prop}
theorem aH.length {H:Hp}: ∀{vs:List V}{ds:List Dv}{F:List Addr},aH KF H vs ds F->vs.length=ds.length
 |_,_,_,.nil=>rfl
 |_,_,_,.cons _ r=>congrArg (· +1) (aH.length r)
section
variable {X:Cx}{ms:List Nat}{k k' rk:Kd}{e a b:Expr}{m ma mb:EM}{pos pos':Pos}{es:List Expr}{ml:Dt->Option (List Dv)}
noncomputable def l0 (i:Nat) (m:EM):SM:=fun δ=>(m δ).bind fun d=>match d with
 | .lst _=>some (.nx (δ.set i (some d)))
 | .dic _=>some (.nx (δ.set i (some d)))
 |_=>none
end
theorem aH.get {H:Hp}: ∀{xs:List V}{ds:List Dv}{F:List Addr}{j:Nat}{d:Dv},aH KF H xs ds F->ds[j]?=some d-> ∃v,xs[j]?=some v
 |_,_,_,_,_,.nil,h=>by simp at h
 |_,_,_,0,_,.cons t r,h=>⟨_,rfl⟩
 |_,_,_,j+1,_,.cons t r,h=>by
  obtain ⟨v,hv⟩:=aH.get (j:=j) r (by simpa using h)
  exact ⟨v,by simpa using hv⟩
section
variable {X:Cx}{ms:List Nat}{k k2 rk:Kd}{ix:Expr}{m mi:EM}{pos:Pos}{i:Nat}{x:Str}{np apos cpos ipos:Pos}
noncomputable def gp (i:Nat) (j:Option Dv) (f:List Dv->Option (List Dv)):SM:=fun δ=>j.bind fun y=>(eVar i δ).bind fun z=>match z,y with
 | .lst ds,.int q=>(ixN ds.length q).bind fun j=>match ds[j]? with
  |some (.lst es)=>(f es).map fun es'=> .nx (δ.set i (some (.lst (ds.set j (.lst es')))))
  |_=>none
 |_,_=>none
noncomputable def vG (i:Nat) (mi:EM):SM:=fun δ=>gp i (mi δ) (fun _=>some []) δ
noncomputable def md (i:Nat) (mi m:EM):SM:=fun δ=>gp i (mi δ) (fun es=>(m δ).bind fun d=>if es.length<lim/\d.imm=true then some (es++[d]) else none) δ
end
end L2
set_option maxHeartbeats 4000000
namespace PySem
section
variable {prog:Program}{w:World}{K:Type} [DecidableEq K] {knd:HeapKind prog w K}{A:Around}{E:Value->Shared->Prop}{s:Shared}{d a:Addr}{k:K}{xs:List (K×Addr×Value)}
end
end PySem
namespace L2
open PySem PySem.Spec PyProof.Rows
variable {KF:PySem.W.Frag}{W W':Addr->Prop}
section
variable {X:Cx}{pins:List (Addr×Obj)}{σ:St}{H:Hp}{s:Shared}{a b:Addr}{v:V}{r:Value}{A:Around}{E:Value->Shared->Prop}
end
section
variable {X:Cx}{o e f:Expr}{td ty tz:TE}{apos cpos:Pos}
end
theorem aK.length {H:Hp}: ∀{vs:List (List Key×V)}{ds:List (List Key×Dv)}{F:List Addr},aK KF H vs ds F->vs.length=ds.length
 |_,_,_,.nil=>rfl
 |_,_,_,.cons _ r=>congrArg (· +1) (aK.length r)
section
variable {X:Cx}{ms:List Nat}{k1 k2 rk:Kd}{ke e:Expr}{mk mv:EM}{pos:Pos}{i:Nat}{x:Str}{np apos1 cpos1 lpos apos cpos:Pos}
end
end L2
set_option maxHeartbeats 4000000
namespace L2
open PySem PySem.Spec PyProof.Rows
noncomputable def unpB (o:Option Dv) (g:Dv->Dt->Option Dt) (δ:Dt):Option Fl:=match o with
 |some d=>nxB (g d δ)
 |none=>none
where nxB:Option Dt->Option Fl
 |some δ=>some (.nx δ)
 |none=>none
theorem vH {m:EM}{g:Dv->Dt->Option Dt}{δ:Dt}:sUnp m g δ=unpB (m δ) g δ:=by
 unfold sUnp unpB
 cases m δ with
 |none=>rfl
 |some d=>
  show (g d δ).map Fl.nx=unpB.nxB (g d δ)
  cases g d δ<;>rfl
theorem vI {d:Dv}{g:Dv->Dt->Option Dt}{δ:Dt}:unpB (some d) g δ=unpB.nxB (g d δ):=rfl
theorem vJ {δ:Dt}:unpB.nxB (some δ)=some (.nx δ):=rfl
noncomputable def gq (i:Nat) (o:Option Dv) (δ:Dt):Option Fl:=match o with
 |some (.lst ds)=>some (.nx (δ.set i (some (.lst ds))))
 |some (.dic ds)=>some (.nx (δ.set i (some (.dic ds))))
 |_=>none
theorem vK {i:Nat}{m:EM}{δ:Dt}:l0 i m δ=gq i (m δ) δ:=by
 unfold l0 gq
 cases m δ with
 |none=>rfl
 |some d=>cases d<;>rfl
theorem vL {i:Nat}{ds:List Dv}{δ:Dt}:gq i (some (.lst ds)) δ=some (.nx (δ.set i (some (.lst ds)))):=rfl
theorem vM {i:Nat}{ds:List (List Key×Dv)}{δ:Dt}:gq i (some (.dic ds)) δ=some (.nx (δ.set i (some (.dic ds)))):=rfl
noncomputable def subB (i:Nat) (o z:Option Dv) (f:List Dv->Option (List Dv)) (δ:Dt):Option Fl:=match o,z with
 |some (.int q),some (.lst ds)=>(ixN ds.length q).bind fun j=>match ds[j]? with
  |some (.lst es)=>(f es).map fun es'=> .nx (δ.set i (some (.lst (ds.set j (.lst es')))))
  |_=>none
 |_,_=>none
theorem mf {i:Nat}{o:Option Dv}{f:List Dv->Option (List Dv)}{δ:Dt}:gp i o f δ=subB i o (eVar i δ) f δ:=by
 unfold gp subB
 cases o with
 |none=>rfl
 |some y=>
  show (eVar i δ).bind _=_
  cases eVar i δ with
  |none=>cases y<;>rfl
  |some z=>cases z<;>cases y<;>rfl
theorem vN {i:Nat}{mi:EM}{δ:Dt}:vG i mi δ=subB i (mi δ) (eVar i δ) (fun _=>some []) δ:=mf
noncomputable def appE (o:Option Dv) (es:List Dv):Option (List Dv):=match o with
 |some d=>if es.length<lim/\d.imm=true then some (es++[d]) else none
 |none=>none
theorem vO {i:Nat}{mi m:EM}{δ:Dt}:md i mi m δ=subB i (mi δ) (eVar i δ) (appE (m δ)) δ:=by
 unfold md
 rw [mf]
 congr 1
 funext es
 cases m δ<;>rfl
theorem vP {i:Nat}{es:List Dv}{r:List Dv}{f:List Dv->Option (List Dv)}{δ:Dt}:subB i (some (.int 0)) (some (.lst (.lst es::r))) f δ=(f es).map fun es'=> .nx (δ.set i (some (.lst (.lst es'::r)))):=by
 unfold subB
 have:ixN ((.lst es::r:List Dv).length) 0=some 0:=by
  unfold ixN
  rw [if_pos (by decide),if_pos (by simp only [List.length_cons];lia)]
  rfl
 dsimp only
 rw [this]
 rfl
theorem vQ {i:Nat}{a:Dv}{es:List Dv}{r:List Dv}{f:List Dv->Option (List Dv)}{δ:Dt}:subB i (some (.int 1)) (some (.lst (a:: .lst es::r))) f δ=(f es).map fun es'=> .nx (δ.set i (some (.lst (a:: .lst es'::r)))):=by
 unfold subB
 have:ixN ((a:: .lst es::r).length) 1=some 1:=by
  unfold ixN
  rw [if_pos (by decide),if_pos (by simp only [List.length_cons];lia)]
  rfl
 dsimp only
 rw [this]
 rfl
theorem vR {d:Dv}{es:List Dv} (h:es.length<lim) (h':d.imm=true):appE (some d) es=some (es++[d]):=by show (if _ then _ else _)=_;rw [if_pos ⟨h,h'⟩]
theorem vS {f:Dv->Dv->Option Dv}{a b:EM}{δ:Dt}:tOf2 f a b δ=tOf (eOp f a b) δ:=rfl
end L2
set_option maxHeartbeats 4000000
local macro_rules
 | `(tactic| simp_arith $cfg:optConfig only [$xs,*]) => `(tactic| simp_arith $cfg:optConfig [$xs,*,L2.vH,L2.vI,L2.vJ,L2.vK,L2.vL,L2.vM,L2.vN,L2.vO,L2.vP,L2.vQ,L2.vR,L2.vS])
namespace L2
open PySem PySem.Spec PyProof.Rows
noncomputable def cutR (pl r:List Int):List Int:=pl.map fun a=>r.getD a.toNat 0
noncomputable def pos (h:Hl):List (List Int):=(h.filter fun p=>decide (0<p.2)).map (·.1)
end L2
set_option maxHeartbeats 4000000
namespace L2
open PySem PySem.Spec PyProof.Rows
variable {KF:PySem.W.Frag}{W W':Addr->Prop}
section
variable {X:Cx}{pins:List (Addr×Obj)}{σ:St}{H:Hp}{s:Shared}{a:Addr}{ob:Obj}{kvs:List (List Key×V)}
end
section
variable {X:Cx}{tg:Expr}
end
section
variable {H:Hp}{a:Addr}{ob:Obj}{xs:List (List Key×V)}{S:Addr->Prop}
end
section
variable {X:Cx}{scope:Scope}{tg iter elt:Expr}{ifs:List Expr}{pos:Pos}{ms:List Nat}{k:Kd}{m:EM}{g:Dv->Dt->Option Dt}{c:Dt->Option Bool}{el:EM}{z:List Nat}
end
end L2
set_option maxHeartbeats 4000000
namespace L2
open PySem PySem.Spec PyProof.Rows
variable {KF:PySem.W.Frag}{W W':Addr->Prop}
section
variable {X:Cx}{ms:List Nat}{rk k k2 k3:Kd}{st:Stmt}{rest a b:List Stmt}{ma mb:SM}{pos:Pos}{e:Expr}{m:EM}{pos':Pos}
variable {i:Nat}{x:Str}{np ipos:Pos}{ix jx v:Expr}{mi mj mv:EM}
end
section
variable {P:Program}{w:World}{K:PySem.W.Frag}{mg:Str->Option Value}{base:Heap}
end
section
variable {X:Cx}{ms:List Nat}{rk:Kd}{i:Nat}{x y:Str}{ps:List Str}{np p pos spos:Pos}{es:List Expr}{ml:Dt->Option (List Dv)}{m:List Dv->Option Dv}
theorem Gots.reps_any {H H1:Hp}: ∀{vs:List V}{ds:List Dv},Gots KF .any W H H1 vs ds->RepsF KF (fun a=> ¬W a) H1 vs ds
 |[],[],_=> .nil
 |v::vs,d::ds,⟨g,r⟩=> .cons g (Gots.reps_any r)
 |[],_::_,g=>g.elim
 |_::_,[],g=>g.elim
end
end L2
set_option maxHeartbeats 4000000
namespace L2
open PySem PySem.Spec PyProof.Rows
section
variable {prog:Program}{w:World}{A:Around}{E:Value->Shared->Prop}{s:Shared}
end
section
variable {X:Cx}{ms:List Nat}{k rk:Kd}{e st:Expr}{m:EM}{mst:Dt->Option (Option Int)}{pos p2:Pos}
end
end L2
set_option maxHeartbeats 4000000
namespace HT
open PySem PySem.Spec PyProof.Rows
section
variable {prog:Program}{w:World}{A:Around}{E:Value->Shared->Prop}{s:Shared}
theorem vT {t b:Addr}{vs ws:List Value}{Q:Value->Shared->Prop} (ht:IsTup s.heap t vs.toArray) (hb:IsTup s.heap b ws.toArray) (hv:vs=[]) (h:Q (.ref b) s):wpAny (model prog w) A (binaryOp .Add (.ref t) (.ref b)) Q E s:=by
 obtain ⟨⟨cls,dd,data,sl⟩,ho,hc,n,hd⟩:=id ht
 obtain ⟨⟨cls2,dd2,data2,sl2⟩,ho2,hc2,n2,hd2⟩:=id hb
 simp only at hc hd hc2 hd2
 subst hc hd hc2 hd2
 exact concat_meets ⟨_,ho,rfl⟩ ⟨_,ho2,rfl⟩ noFill_tuple_add seq_tuple_add PySem.F.slot_tuple_add PySem.F.entry_tuple_add (PySem.F.args_tuple_add_2 _ _)
  (tuple_addW0 t b vs.toArray ws.toArray n n2 dd dd2 sl sl2 (by simp [hv])) ⟨ho,ho2,h⟩
theorem vU {t sl:Addr}{items:Array Value}{vl vu:Value}{lo hi:Option Int}{Q:Value->Shared->Prop} (ht:IsTup s.heap t items) (hs:s.heap.IsSliceOf sl vl vu .none) (pl:IsPart vl lo) (pu:IsPart vu hi)
  (hw:sIx items.size 0 lo=0/\sIx items.size items.size hi=items.size) (h:Q (.ref t) s):wpAny (model prog w) A (getItem (.ref t) (.ref sl)) Q E s:=by
 obtain ⟨os,hos,hcs,hds⟩:=id hs
 have hTs:s.TypeIs (.ref sl) "slice":=⟨os,hos,hcs⟩
 unfold getItem
 try with_reducible refine wpAny_holding ?_
 first|refine wpAny_bind (wpAny_pure ?_)|skip
 refine wpAny_bind (wpAny_sequenceKey ht.typeIs (by decide) ?_)
 refine wpAny_bind (wpAny_callSpecial?_slot (name:=Str.ofString "__getitem__") ht.typeIs PyProof.Rows.slot_tuple_getitem
  (wpAny_call_entry PyProof.Rows.slot_tuple_getitem ht.typeIs entry_tuple_getitem ?_ (args_tuple_getitem _ _)))
 show wpAny _ _ (Builtin.Tuple.tupleItemsOf (.ref t)>>=_) _ _ s
 refine wpAny_bind (tupleItemsOf_ ht ?_)
 refine wpAny_bind (wpAny_typeOf hTs ?_)
 rw [if_pos (by decide)]
 refine wpAny_bind (jL hs pl pu ?_)
 have hyes:(((sIx items.size 0 lo:Nat):Int)==0&&(1:Int)==1&&(sIx items.size items.size hi-sIx items.size 0 lo)==items.size)=true:=by
  rw [hw.1,hw.2]
  simp
 show wpAny _ _ (if (((sIx items.size 0 lo:Nat):Int)==0&&(1:Int)==1&&(sIx items.size items.size hi-sIx items.size 0 lo)==items.size)=true then _ else _) _ _ s
 rw [if_pos hyes]
 refine wpAny_bind (m:=Builtin.Tuple.tupleIsExact (.ref t)) ?_
 unfold Builtin.Tuple.tupleIsExact
 refine wpAny_bind (wpAny_typeOf ht.typeIs (wpAny_pure ?_))
 rw [if_pos (by decide)]
 refine wpAny_bind (wpAny_rule ?_)
 first
  |exact wpAny_pure ⟨_,rfl,wpAny_pure h⟩
  |exact ⟨_,rfl,wpAny_pure h⟩
end
end HT
namespace L2
open PySem PySem.Spec PyProof.Rows
section
variable {X:Cx}{ms:List Nat}{k k1 k2:Kd}{e a b:Expr}{m ma mb:EM}{pos:Pos}
noncomputable def vV (K:PySem.W.Frag):R2:=fun x y H Q=> ∃a b xs ys,x= .ref a/\y= .ref b/\SqT K H a xs/\SqT K H b ys/\xs.length+ys.length<=sizeLine/\
 (xs=[]->Q (.ref b) H)/\(xs≠[]->ys=[]->Q (.ref a) H)/\(xs≠[]->ys≠[]-> ∀p,H p=none->Q (.ref p) (upd H p (.tup (xs++ys))))
theorem vW:OpR X (binaryOp .Add) (vV X.K):=by
 intro pins s σ H x y v u Q I rx ry h
 obtain ⟨a,b,xs,ys,rfl,rfl,ha,hb,hz,q0,q1,q2⟩:=h
 by_cases hx:xs=[]
 ·cases rx
  cases ry
  obtain ⟨its,r1,p1,_⟩:=I.tuple ha
  obtain ⟨its2,r2,p2,_⟩:=I.tuple hb
  exact HT.vT p1 p2 (r1.nil_iff.mpr hx) ⟨.ref b,H,I,rfl,q0 hx⟩
 ·exact o7 pins s σ H _ _ v u Q I rx ry ⟨a,b,xs,ys,rfl,rfl,ha,hb,hx,hz,q1 hx,q2 hx⟩
noncomputable def df:Dv->Dv->Option Dv
 | .tup xs,.tup ys=>if xs.length+ys.length<=lim/\imms (xs++ys)=true then some (.tup (xs++ys)) else none
 |_,_=>none
theorem iP (ha:PD X ms k1 a ma) (hb:PD X ms k2 b mb):PD X ms .imm (.BinOp a .Add b pos) (eOp df ma mb):=by
 obtain ⟨ta,pa,qa⟩:=ha
 obtain ⟨tb,pb,qb⟩:=hb
 refine ⟨_,jt vW pa pb,fun δ σ H0 H Q d R hm hq=> ?_⟩
 obtain ⟨x,hx,e⟩:=Option.bind_eq_some_iff.mp hm
 obtain ⟨y,hy,e⟩:=Option.bind_eq_some_iff.mp e
 refine qa δ σ H0 H _ x R hx fun v H1 s1 g1=> ?_
 refine qb δ σ H0 H1 _ y (R.same s1) hy fun u H2 s2 g2=> ?_
 have g1:=(g1.same s2).bor
 have g2:=g2.bor
 cases g1 with
 | @tup p1 vs xs e1 r1=>
  cases g2 with
  | @tup p2 us ys e2 r2=>
   simp only [df] at e
   split at e
   ·next hl=>
    cases e
    have im:RepsF X.K Imm H2 (vs++us) (xs++ys):=(r1.append r2).imm hl.2
    have i12:=RepsF.append r1 r2
    refine ⟨p1,p2,vs,us,rfl,rfl,.inl (.inl e1),.inl (.inl e2),?_,fun hv=> ?_,fun hv hu=> ?_,fun hv hu p hp=> ?_⟩
    ·rw [r1.length,r2.length]
     exact Nat.le_of_lt (cT hl.1)
    ·subst hv
     cases r1
     exact hq _ _ (s1.tr s2) (RepF.tup e2 im)
    ·subst hu
     cases r2
     rw [List.append_nil] at im hq
     rw [List.append_nil] at im
     exact hq _ _ (s1.tr s2) (RepF.tup e1 im)
    ·have s3:=Same.new (o:= .tup (vs++us)) hp
     exact hq _ _ (s1.tr (s2.tr s3)) (RepF.tup ay (im.same s3))
   ·cases e
  |_=>cases e
 |_=>cases e
noncomputable def rSlU (K:PySem.W.Frag):V->Option Int->Option Int->Hp->VK->Prop:=fun x lo hi H Q=> ∃a xs,x= .ref a/\SqT K H a xs/\
 (HT.sIx xs.length 0 lo=0/\HT.sIx xs.length xs.length hi=xs.length->Q (.ref a) H)/\(¬(HT.sIx xs.length 0 lo=0/\HT.sIx xs.length xs.length hi=xs.length)-> ∀p,H p=none->Q (.ref p) (upd H p (.tup (cutV xs lo hi))))
theorem vX:SlR X (rSlU X.K):=by
 intro pins s σ H x v vl vu lo hi sl Q I rx hs pl pu h
 obtain ⟨a,xs,rfl,hx,q1,q2⟩:=h
 by_cases hw:HT.sIx xs.length 0 lo=0/\HT.sIx xs.length xs.length hi=xs.length
 ·cases rx
  obtain ⟨its,r,ht,hz⟩:=I.tuple hx
  have hlen:its.toArray.size=xs.length:=by rw [List.size_toArray];exact r.length.symm
  exact ⟨"tuple",_,PyProof.Rows.slot_tuple_getitem.lookup,ht.typeIs,HT.vU ht hs pl pu (by rw [hlen];exact hw) ⟨.ref a,H,I,rfl,q1 hw⟩⟩
 ·exact o4 pins s σ H _ v vl vu lo hi sl Q I rx hs pl pu ⟨a,xs,rfl,hx,hw,q2 hw⟩
noncomputable def eSlT (m:EM) (lo hi:Dt->Option (Option Int)):EM:=fun δ=>(m δ).bind fun x=>(lo δ).bind fun l=>(hi δ).bind fun h=>match x with
 | .tup ds=>if imms (cutD ds l h)=true then some (.tup (cutD ds l h)) else none
 |_=>none
theorem iQ {lo hi:Option Expr}{ml mh:Dt->Option (Option Int)}{p2:Pos} (he:PD X ms k e m) (hl:PDo X ms lo ml) (hh:PDo X ms hi mh):PD X ms .imm (.Subscript e (.Slice lo hi none p2) pos) (eSlT m ml mh):=by
 obtain ⟨te,p,q⟩:=he
 obtain ⟨tl,pl,ql⟩:=hl
 obtain ⟨th,ph,qh⟩:=hh
 refine ⟨_,jN vX p pl ph,fun δ σ H0 H Q d R hm hq=> ?_⟩
 obtain ⟨x,hx,e⟩:=Option.bind_eq_some_iff.mp hm
 obtain ⟨l,hl,e⟩:=Option.bind_eq_some_iff.mp e
 obtain ⟨h,hh,e⟩:=Option.bind_eq_some_iff.mp e
 refine q δ σ H0 H _ x R hx fun v H1 s1 g1=> ?_
 refine ql δ σ H0 H1 _ l (R.same s1) hl fun H2 s2=> ?_
 refine qh δ σ H0 H2 _ h (R.same (s1.tr s2)) hh fun H3 s3=> ?_
 have g:=(g1.same (s2.tr s3)).bor
 cases g with
 | @tup a xs ds hr r=>
  simp only at e
  split at e
  ·next hi=>
   cases e
   have s03:=s1.tr (s2.tr s3)
   have rr:RepsF X.K (fun _=>True) H3 (cutV xs l h) (cutD ds l h):=by
    unfold cutV cutD
    rw [r.length]
    exact (r.drop _).take _
   have ri:RepsF X.K Imm H3 (cutV xs l h) (cutD ds l h):=rr.imm hi
   refine ⟨a,xs,rfl,.inl (.inl hr),fun hw=> ?_,fun _ p hp=> ?_⟩
   ·have ew:cutV xs l h=xs:=by
     unfold cutV
     rw [hw.1,hw.2,List.drop_zero,Nat.sub_zero,List.take_length]
    rw [ew] at ri
    exact hq _ _ s03 (RepF.tup hr ri)
   ·have s4:=Same.new (o:= .tup (cutV xs l h)) hp
    exact hq _ _ (s03.tr s4) (RepF.tup ay (ri.same s4))
  ·cases e
 |_=>cases e
end
end L2
set_option maxHeartbeats 4000000
namespace L2
open PySem PySem.Spec PyProof.Rows
section
variable {X:Cx}{ms:List Nat}{k1 k2 k3:Kd}{a b c:Expr}{ma mb mc:EM}{pos:Pos}
end
end L2
set_option maxHeartbeats 4000000
namespace L2
open PySem PySem.Spec PyProof.Rows
section
variable {X:Cx}{ms:List Nat}{k k1 k2:Kd}{a b:Expr}{ma mb:EM}{pos:Pos}
end
end L2
set_option maxHeartbeats 4000000
namespace L2
open PySem PySem.Spec PyProof.Rows
variable {KF:PySem.W.Frag}{W W':Addr->Prop}
section
variable {X:Cx}{k:Kd}{st:Stmt}{rest a b:List Stmt}{ma mb:SM}{pos pos':Pos}{e:Expr}{m:EM}
end
noncomputable def NSf (H:Hp) (a:Addr):Prop:= ∀o,H a=some o-> ¬Sft o
theorem NSf.none {H:Hp}{a:Addr} (h:H a=none):NSf H a:=fun o e=>by rw [h] at e;cases e
noncomputable def spA (KF:PySem.W.Frag) (m:List Dv->Option Dv):Sp:=fun vs H Q _=> ∃(S:Addr->Prop) (ds:List Dv) (d:Dv),RepsF KF S H vs ds/\m ds=some d/\ ∀v H',Same H H'->RepF KF (fun a=>S a \/NSf H a) H' v d->Q v H'
section
variable {P:Program}{w:World}{K:PySem.W.Frag}{mg:Str->Option Value}{base:Heap}
theorem vY {x qual:Str}{st:Stmt}{f:Addr}{fd:FuncData}{N ps:List Str}{k:Nat}{body:SM} (ms:List Nat) (F:Fun K x qual st f fd) (S:aW N ps (aq st)) (hms:ms.all (fun i=>decide (ps.length<=if 2000<=i then i-2000 else if 1000<=i then i-1000 else i))=true) (hps:decide (ps.length<=N.length)=true)
  (hb: ∀(cdv:Value) (A:Around) (outer:List Env) (s:Shared) (H:Hp) (E:XK),Room k (A.deeper (envOfC qual (aq st) s.heap.objs.size f cdv))->PDss (cxOf CX0 P w K mg base N qual (aq st) f cdv A outer s H E).nox ms .any (aQ st) body):
  FnOk P w K mg base CX0 (k+1) f fd ps (spA K (aL N.length ps.length body)):=by
 have len: ∀{ds:List Dv}{d:Dv},aL N.length ps.length body ds=some d->ds.length=ps.length:=fun {ds d} h=>by
  unfold aL at h
  split at h
  ·assumption
  ·cases h
 refine F.ok (k:=k) S (fun vs H Q E h=> ?_) fun cdv A outer s H vs Q E hr h=> ?_
 ·obtain ⟨S,ds,d,r,hm,_⟩:=h
  rw [r.length]
  exact len hm
 ·obtain ⟨S,ds,d,r,hm,hq⟩:=h
  obtain ⟨t,p,q⟩:=hb cdv A outer s H E hr
  refine ⟨t,p,?_⟩
  have hl:=len hm
  have hps':=of_decide_eq_true hps
  have R:Rel K ms (fun a=>(∃o,H a=some o/\Sft o)/\ ¬S a) H (bO N.length ds) (br N vs) H:=kM (r.mono fun _ _ s z=>z.2 s) (fun _ w=>w.1) (fun i hi=>by rw [hl];exact kN hms hi) (by lia)
  unfold aL at hm
  rw [if_pos hl] at hm
  obtain ⟨fl,hf,e⟩:=Option.bind_eq_some_iff.mp hm
  cases fl with
  |rt d' δ'=>
   cases e
   refine q _ _ H H _ _ R hf fun v W' σ' H' Φ st R' _ g _=>hq v H' R'.keep ?_
   refine RepF.mono (fun a _ n=> ?_) g
   have n: ¬WE (fun a=>(∃o,H a=some o/\Sft o)/\ ¬S a) H a:=fun z=>n ⟨(st.2.2.1 a z.1).elim id fun q=>absurd q z.2,z.2⟩
   by_cases hS:S a
   ·exact .inl hS
   ·exact .inr fun o ho so=>n ⟨⟨⟨o,ho,so⟩,hS⟩,fun z=>by rw [z] at ho;cases ho⟩
  |_=>cases e
end
section
variable {X:Cx}{ms:List Nat}{a:Expr}{es:List Expr}{ml:Dt->Option (List Dv)}{m:List Dv->Option Dv}{x:Str}{ps:List Str}{p pos:Pos}
theorem mm {k:Nat} (D:Def X.prog X.w X.K X.mg X.base k x ps (spA X.K m)) (hr:Room k X.A) (ha:PDa X ms .any (a::es) ml) (hg:Gl X x:=by rfl)
  (hdb:(x==("__debug__":Str))=false:=by decide) (he:starEach (a::es) X.env=(false,eval a X.env)::starEach es X.env:=by rfl) (hpl:(backTo pos (starEach es X.env)).any (·.1)=false:=by rfl):
  PD X ms .any (.Call (.Name x p) (a::es) [] pos) (af m ml):=by
 obtain ⟨ta,pa,qa⟩:=ha
 refine ⟨_,kc D hr pa hg hdb he hpl,fun {W} δ σ H0 H Q d R hm hq=> ?_⟩
 obtain ⟨xs,hx,e⟩:=Option.bind_eq_some_iff.mp hm
 refine qa δ σ H0 H _ xs R hx fun vs H1 s1 g1=> ?_
 refine ⟨fun a=> ¬W a,xs,d,g1.reps_any,e,fun v H' s g=>hq v H' (s1.tr s) ?_⟩
 show RepF X.K (fun a=> ¬W a) H' v d
 refine g.mono fun a _ q=> ?_
 rcases q with q|q
 ·exact q
 ·intro wa
  obtain ⟨o,ho,so⟩:=R.soft a wa
  exact q o (s1 a o ho) so
end
end L2
set_option maxHeartbeats 4000000
namespace L2
open PySem PySem.Spec PyProof.Rows
theorem vZ {r t:List Int} (h:r.length+t.length<=100000):df (.tup (r.map .int)) (.tup (t.map .int))=some (.tup ((r++t).map .int)):=by
 show (if _ then _ else _)=_
 rw [if_pos ⟨by rw [List.length_map,List.length_map,dW];exact h,by rw [fU,cm,cm];rfl⟩,List.map_append]
end L2
set_option maxHeartbeats 4000000
namespace L2
open PySem PySem.Spec PyProof.Rows
end L2
set_option maxHeartbeats 4000000
namespace L2
open PySem PySem.Spec PyProof.Rows
noncomputable def rng (lo:Int) (n:Nat):List Int:=(List.range n).map fun (i:Nat)=>lo+(i:Int)
end L2
set_option maxHeartbeats 4000000
namespace L2
open PySem PySem.Spec PyProof.Rows
variable {KF:PySem.W.Frag}{W W':Addr->Prop}
section
variable {X:Cx}{ms:List Nat}{k k1 k2 k3 rk:Kd}{e a b c:Expr}{m ma mb mc:EM}{pos:Pos}
end
end L2
set_option maxHeartbeats 4000000
namespace DhDct
open PySem PySem.Calls PyProof.Rows PySem.W
section
variable {prog:Program}{w:World}{A:Around}{E:Value->Shared->Prop}{s:Shared}
section
variable {K:Type} [DecidableEq K] {knd:HeapKind prog w K}
variable {I:Addr}{fp wr:List Addr}{n:Nat}{P:Nat->Value->Prop}{St:Nat->Shared->Prop}{R:Result->Shared->Prop}
end
end
end DhDct
namespace L2
open PySem PySem.Spec PyProof.Rows
variable {KF:PySem.W.Frag}{W W':Addr->Prop}
section
variable {X:Cx}
end
end L2
set_option maxHeartbeats 4000000
namespace DhUnp
open PySem PySem.Calls PyProof.Rows PySem.W
section
variable {prog:Program}{w:World}{A:Around}{E:Value->Shared->Prop}{s:Shared}
end
end DhUnp
namespace L2
open PySem PySem.Spec PyProof.Rows
variable {KF:PySem.W.Frag}{W W':Addr->Prop}
section
variable {X:Cx}{pos:Pos}{ms:List Nat}
end
end L2
set_option maxHeartbeats 4000000
namespace DhExt
open PySem PySem.Calls PyProof.Rows PySem.W Sem
open Builtin
end DhExt
namespace L2
open PySem PySem.Spec PyProof.Rows
variable {KF:PySem.W.Frag}{W W':Addr->Prop}
section
variable {X:Cx}{ms:List Nat}{k k1 k2 k3 rk:Kd}{e a b c:Expr}{m ma mb mc:EM}{pos:Pos}
theorem wb:bootBuiltins "min"=some (.builtin "min"):=by decide+kernel
end
end L2
set_option maxHeartbeats 4000000
namespace L2
open PySem PySem.Spec PyProof.Rows
variable {KF:PySem.W.Frag}{W W':Addr->Prop}
noncomputable def bS (g:Dv->Dt->Option Dt) (c:Dt->Option Bool) (el:EM) (δ:Dt):List Dv->Option (List Dv)
 |[]=>some []
 |d::ds=>(g d δ).bind fun δ1=>(c δ1).bind fun b=>if b=true then (el δ1).bind fun x=>(bS g c el δ ds).map (x:: ·) else bS g c el δ ds
noncomputable def fh (ρ:List (Option Nat)) (it:Dt->Option (List Dv)) (g:Dv->Dt->Option Dt) (c:Dt->Option Bool) (el:EM):EM:=fun δ=>(it δ).bind fun ds=>(bS g c el (aG ρ δ) ds).map .lst
section
variable {ms ms':List Nat}{ρ:List (Option Nat)}{k:Kd}{wi:TI}{it:Dt->Option (List Dv)}{g:Dv->Dt->Option Dt}{c:Dt->Option Bool}{el:EM}{z:List Nat}
variable {X:Cx}{scope:Scope}{tg iter elt:Expr}{ifs:List Expr}{pos:Pos}
end
section
variable {X:Cx}{ms:List Nat}{k:Kd}{e:Expr}{m:EM}{pos:Pos}
end
end L2
set_option maxHeartbeats 4000000
namespace L2
open PySem PySem.Spec PyProof.Rows
variable {KF:PySem.W.Frag}{W W':Addr->Prop}
section
variable {X:Cx}{params:Arguments}{body:Expr}{scope:Scope}{pos:Pos}{T c:Addr}{q:Str}
end
section
variable {CX:CXT}{P:Program}{w:World}{K:PySem.W.Frag}{mg:Str->Option Value}{base:Heap}{k:Nat}{f:Addr}{L:LamD}{N ps:List Str}{A:Around}{outer:List Env}{s:Shared}{H:Hp}{us:List Value}{vs:List V}{Q:VK}{E:XK}
end
section
variable {X:Cx}{ms:List Nat}{rk k1:Kd}{a:Expr}{es:List Expr}{ml:Dt->Option (List Dv)}{m:List Dv->Option Dv}{x:Str}{p pos:Pos}{i:Nat}{L:LamD}
end
end L2
set_option maxHeartbeats 4000000
namespace L2
open PySem PySem.Spec PyProof.Rows
variable {KF:PySem.W.Frag}{W W':Addr->Prop}
section
variable {P:Program}{w:World}{K:PySem.W.Frag}{mg:Str->Option Value}{base:Heap}{T:Addr}{q:Str}
end
section
variable {X:Cx}{ms:List Nat}{rk k1:Kd}{a:Expr}{es:List Expr}{ml:Dt->Option (List Dv)}{m:List Dv->Option Dv}{x:Str}{ps:List Str}{p pos:Pos}{T:Addr}{q:Str}
end
end L2
set_option maxHeartbeats 4000000
namespace L2
open PySem PySem.Spec PyProof.Rows
variable {KF:PySem.W.Frag}{W W':Addr->Prop}
section
variable {X:Cx}{ms:List Nat}{rk k:Kd}{e:Expr}{m:EM}{pos pos':Pos}{st:Stmt}{rest a b:List Stmt}{ma mb:SM}
section
variable {ms':List Nat}{ρ:List (Option Nat)}{it:Dt->Option (List Dv)}{g:Dv->Dt->Option Dt}{c:Dt->Option Bool}{el:EM}{z:List Nat}{scope:Scope}{tg iter elt:Expr}{ifs:List Expr}{spos cpos:Pos}
end
end
end L2
set_option maxHeartbeats 4000000
namespace L2
open PySem PySem.Spec PyProof.Rows
variable {KF:PySem.W.Frag}{W W':Addr->Prop}
section
variable {X:Cx}
end
section
variable {H:Hp}
end
end L2
set_option maxHeartbeats 4000000
namespace L2
open PySem PySem.Spec PyProof.Rows
variable {KF:PySem.W.Frag}{W W':Addr->Prop}
section
variable {H:Hp}{c:Addr}{ol:Obj}{S:Addr->Prop}
end
section
variable {X:Cx}{params:Arguments}{body:Expr}{scope:Scope}{pos:Pos}{T c:Addr}{q:Str}{clos:List (Str×Addr)}
end
section
variable {P:Program}{w:World}{K:PySem.W.Frag}{mg:Str->Option Value}{base:Heap}{k:Nat}{f:Addr}{L:LamD}{p x:Str}{A:Around}{outer:List Env}{s:Shared}{H:Hp}{u:Value}{v:V}{Q:VK}{E:XK}{iv:Int}
end
section
variable {X:Cx}{ms:List Nat}{k1:Kd}{a:Expr}{es:List Expr}{ml:Dt->Option (List Dv)}{m:Int->List Dv->Option Dv}{y x:Str}{p pos:Pos}{i:Nat}{L:LamD}
end
end L2
set_option maxHeartbeats 4000000
namespace L2
open PySem PySem.Spec PyProof.Rows
variable {KF:PySem.W.Frag}{W W':Addr->Prop}
section
variable {X:Cx}
end
end L2
set_option maxHeartbeats 4000000
namespace L2
open PySem PySem.Spec PyProof.Rows
variable {KF:PySem.W.Frag}{W W':Addr->Prop}
noncomputable abbrev Tbs:=List (Addr×Str)
section
variable {P:Program}{w:World}{K:PySem.W.Frag}{mg:Str->Option Value}{base:Heap}{ts:Tbs}
end
section
variable {X:Cx}{ms:List Nat}{rk k1:Kd}{a:Expr}{es:List Expr}{ml:Dt->Option (List Dv)}{m:List Dv->Option Dv}{x:Str}{ps:List Str}{p pos:Pos}{ts:Tbs}
end
end L2
set_option maxHeartbeats 4000000
namespace L2
open PySem PySem.Spec PyProof.Rows
variable {KF:PySem.W.Frag}{W W':Addr->Prop}
section
variable {X:Cx}
end
section
variable {X:Cx}{ms:List Nat}{rk k k1 k2:Kd}{e b:Expr}{m mb:EM}{pos pos':Pos}
end
section
variable {prog:Program}{w:World}{A:Around}{E:Value->Shared->Prop}{s:Shared}
end
section
variable {X:Cx}{ms:List Nat}{k1 k2:Kd}{o e:Expr}{mo me:EM}{apos cpos:Pos}
end
end L2
set_option maxHeartbeats 4000000
namespace DhSort
open PySem PySem.Calls PyProof.Rows PySem.W L2
noncomputable def iR (l:Addr) (len:Nat) (h:Heap) (v:Value) (ns:List Int):Prop:= ∃(x y:Addr) (ob:Obj) (us:Array Value) (n:Nat) (w:Int) (t:Tok) (r:List Int),v= .ref x/\h.get? x=some ob/\ob.cls= .type "tuple"/\ob.data= .seq us n/\us.toList=[.ref y,.int w t]/\RowAt h (.ref y) r/\y≠l/\r.length=len/\ns=r++[w]
theorem iR.keep {l:Addr}{len:Nat}{h h':Heap}{v:Value}{ns:List Int} (e:iR l len h v ns) (n1: ∀x,v= .ref x->x≠l) (k: ∀x ob,x≠l->h.get? x=some ob->h'.get? x=some ob):iR l len h' v ns:=by
 obtain ⟨x,y,ob,us,n,w,t,r,e1,g,c,d,u,rr,ny,rl,en⟩:=e
 exact ⟨x,y,ob,us,n,w,t,r,e1,k x ob (n1 x e1) g,c,d,u,rr.keep fun z oz ez gz=>k z oz (by cases ez;exact ny) gz,ny,rl,en⟩
section
variable {prog:Program}{w:World}{A:Around}{E:Value->Shared->Prop}{s:Shared}
end
section
variable {prog:Program}{w:World}{A:Around}{E:Value->Shared->Prop}{t:Shared}
end
end DhSort
namespace L2
open PySem PySem.Spec PyProof.Rows
variable {KF:PySem.W.Frag}{W W':Addr->Prop}
section
variable {X:Cx}
end
end L2
set_option maxHeartbeats 4000000
namespace L2
open PySem PySem.Spec PyProof.Rows
variable {KF:PySem.W.Frag}{W W':Addr->Prop}
section
variable {X:Cx}
end
end L2
set_option maxHeartbeats 4000000
namespace L2
open PySem PySem.Spec PyProof.Rows
section
variable {X:Cx}{ms:List Nat}{k1 k2:Kd}{o e:Expr}{mo me:EM}{apos cpos:Pos}{td ty:TE}
end
end L2
set_option maxHeartbeats 4000000
namespace L2
open PySem PySem.Spec PyProof.Rows
variable {KF:PySem.W.Frag}
section
variable {X:Cx}
end
end L2
set_option maxHeartbeats 4000000
namespace L2
open PySem PySem.Spec PyProof.Rows
variable {KF:PySem.W.Frag}
section
variable {X:Cx}{ms:List Nat}{k k1 k2 rk:Kd}{o e:Expr}{mo me:EM}{apos cpos pos:Pos}{name:Str}{id:String}{r:V->List V->Hp->VK->Prop}{f:Dv->Dv->Option Dv}
end
end L2
set_option maxHeartbeats 4000000
namespace L2
open PySem PySem.Spec PyProof.Rows
variable {KF:PySem.W.Frag}
section
variable {X:Cx}{ms:List Nat}{k:Kd}{e:Expr}{m:EM}{p p2 pos pos2:Pos}
end
end L2
set_option maxHeartbeats 4000000
namespace L2
open PySem PySem.Spec PyProof.Rows
variable {KF:PySem.W.Frag}{W W':Addr->Prop}
section
variable {ms ms':List Nat}{ρ:List (Option Nat)}{k:Kd}{wi:TI}{it:Dt->Option (List Dv)}{g:Dv->Dt->Option Dt}{c:Dt->Option Bool}{el:EM}{z:List Nat}
theorem wc {δ:Dt}{σ:St}{H0 H1:Hp}{J:It}{ds out:List Dv}{Q:VK} (R1:Rel KF ms' W H0 (aG ρ δ) (L2.pull ρ σ) H1) (ok:IOk KF W false H1 J ds) (ho:bS g c el (aG ρ δ) ds=some out) (hz:GExt z g) (hz':z.all (fun i=>decide (ρ[i]?=some none))=true)
  (hq: ∀(l:Addr) (acc:List V) (Hc:Hp),Same H1 Hc->Hc l=none->RepsF KF (fun a=> ¬W a) Hc acc out->Q (.ref l) (upd Hc l (.lst acc))):kH ρ (tgM KF ms' g) (ttM KF ms' c) (tM KF ms' .any el) J σ H1 Q:=by
 obtain ⟨hlim,ok⟩:=ok
 have notz: ∀{i:Nat}{x:Dv},(aG ρ δ)[i]?=some (some x)->i∉z:=fun {i x} e hzi=>by
  obtain ⟨j,er,_⟩:=fP e
  have:=of_decide_eq_true (List.all_eq_true.mp hz' i hzi)
  rw [er] at this;cases this
 refine ⟨fun i n acc σc Hc=>n=ds.length-i/\i<=ds.length/\Same H1 Hc/\Rel KF ms' W H0 (aG ρ δ) σc Hc/\bv ms' (pull ρ σ) σc/\acc.length<=i/\
  ∃done rest,RepsF KF (fun a=> ¬W a) Hc acc done/\bS g c el (aG ρ δ) (ds.drop i)=some rest/\done++rest=out,⟨ds.length,by simp,Nat.zero_le _,Same.refl _,R1,.refl,Nat.le_refl _,[],out,.nil,by simpa using ho,by simp⟩,?_⟩
 rintro i n acc σc Hc ⟨rfl,hi',sc,Rc,so,hl,done,rest,ra,hr,hout⟩
 obtain ⟨go,yl,st⟩:=ok Hc (.inl sc)
 by_cases hlt:i<ds.length
 ·right
  refine ⟨go i hlt,?_,fun acc' σ' H'=>Same H1 H'/\Rel KF ms' W H0 (aG ρ δ) σ' H'/\bv ms' (pull ρ σ) σ'/\acc'.length<=i+1/\ ∃done rest,RepsF KF (fun a=> ¬W a) H' acc' done/\bS g c el (aG ρ δ) (ds.drop (i+1))=some rest/\done++rest=out,
   fun acc' σ' H' ⟨a1,a2,a3,a4,a5⟩=>⟨ds.length-(i+1),by lia,rfl,hlt,a1,a2,a3,a4,a5⟩,fun x H' y=> ?_⟩
  ·have:=cT hlim;lia
  ·obtain ⟨rfl,d,hd,rx⟩:=yl i x H' hlt y
   have hdrop:ds.drop i=d::ds.drop (i+1):=by
    rw [List.drop_eq_getElem_cons hlt]
    congr 1
    rw [List.getElem?_eq_getElem hlt] at hd
    exact Option.some.inj hd
   rw [hdrop,bS] at hr
   obtain ⟨δ1,h1,hr⟩:=Option.bind_eq_some_iff.mp hr
   obtain ⟨b,hb,hr⟩:=Option.bind_eq_some_iff.mp hr
   obtain ⟨l1,f1⟩:=hz d _ δ1 h1
   refine ⟨W,H0,aG ρ δ,d,δ1,Rc,rx.mono fun a _ n z=>n.1 z,h1,fun σ1 R1' so1=> ?_⟩
   have forget: ∀{H2:Hp},Rel KF ms' W H0 δ1 σ1 H2->Rel KF ms' W H0 (aG ρ δ) σ1 H2:=fun {H2} R2=>by
    refine R2.forget l1.symm (fun j x e=> ?_)
    rw [f1 j (notz e)];exact e
   refine ⟨W,H0,δ1,b,R1',hb,fun H2 s2=> ?_⟩
   cases b with
   |true=>
    rw [if_pos rfl] at hr
    obtain ⟨y,hy,hr⟩:=Option.bind_eq_some_iff.mp hr
    obtain ⟨rest',hr',rfl⟩:=Option.map_eq_some_iff.mp hr
    rw [if_pos rfl]
    refine ⟨W,H0,δ1,y,R1'.same s2,hy,fun v H3 s3 g3=> ?_⟩
    have s23:=s2.tr s3
    have g3':RepF KF (fun a=> ¬W a) H3 v y:=g3
    refine ⟨sc.tr s23,forget (R1'.same s23),so.tr so1,by rw [List.length_append];exact Nat.add_le_add_right hl 1,done++[y],rest',(ra.same s23).append (.cons g3' .nil),hr',by rw [<-hout,List.append_assoc];rfl⟩
   |false=>
    rw [if_neg Bool.false_ne_true] at hr
    rw [if_neg Bool.false_ne_true]
    exact ⟨sc.tr s2,forget (R1'.same s2),so.tr so1,Nat.le_succ_of_le hl,done,rest,ra.same s2,hr,hout⟩
 ·left
  have hie:i=ds.length:=by lia
  subst hie
  rw [List.drop_length,bS] at hr
  cases hr
  rw [List.append_nil] at hout
  subst hout
  have:=cT hlim
  refine ⟨st,by lia,fun l hln=> ?_⟩
  exact hq l acc Hc sc hln ra
theorem we (hi: ∀{W:Addr->Prop} (δ:Dt) (σ:St) (H0 H:Hp) (R:It->Hp->Prop) (ds:List Dv),Rel KF ms W H0 δ σ H->it δ=some ds->(∀J H',Same H H'->IOk KF W false H' J ds->R J H')->wi σ H R)
  (P:dQ ρ ms ms') (hz:GExt z g) (hz':z.all (fun i=>decide (ρ[i]?=some none))=true):DE KF ms .any (eN ρ wi (tgM KF ms' g) (ttM KF ms' c) (tM KF ms' .any el)) (fh ρ it g c el):=by
 intro W δ σ H0 H Q d R hm hq
 obtain ⟨ds,hds,e⟩:=Option.bind_eq_some_iff.mp hm
 obtain ⟨out,ho,rfl⟩:=Option.map_eq_some_iff.mp e
 refine hi δ σ H0 H _ ds R hds fun J H1 s1 ok=> ?_
 refine wc ((R.same s1).pull P) ok ho hz hz' fun l acc Hc sc hln ra=> ?_
 have s2:=Same.new (o:= .lst acc) hln
 refine hq _ _ (s1.tr (sc.tr s2)) ?_
 show RepF KF (fun a=> ¬W a) (upd Hc l (.lst acc)) (.ref l) (.lst out)
 exact RepF.lst (R.fresh (bm (s1.tr sc) hln)) ay (ra.same s2)
variable {X:Cx}{scope:Scope}{tg iter elt:Expr}{ifs:List Expr}{pos:Pos}
theorem wf (N':List Str) (ρ:List (Option Nat)) (ms':List Nat) (hc:X.calm=true) (hi:PDi X ms false tg iter it) (hg: ∀C s H fp,PDg (az X scope N' C s H fp) ms' tg g)
  (ht: ∀C s H fp,PDts (az X scope N' C s H fp) ms' ifs c) (he: ∀C s H fp,PD (az X scope N' C s H fp) ms' .any elt el) (hz:GExt z g)
  (ck:dr scope X.env.scope X.N N' ρ=true) (hp:eU ρ ms ms'=true) (hz':z.all (fun i=>decide (ρ[i]?=some none))=true) (hs: ∀x,foldedSetIterable iter X.env x=pure x:=by intro _;rfl):
  PD X ms .any (.ListComp elt [⟨tg,iter,ifs,0⟩] scope pos) (fh ρ it g c el):=by
 obtain ⟨wi,pi,qi⟩:=hi
 exact ⟨_,j8 N' ρ hc pi (fun C s H fp=>(hg C s H fp).pg) (fun C s H fp=>(ht C s H fp).pts) (fun C s H fp=>(he C s H fp).pe) ck hs,we qi (h8 hp) hz hz'⟩
end
noncomputable def isA (ms:List Nat) (i:Nat):Bool:=decide (i+2000∈ms)&&(decide (i∉ms)&&decide (i+1000∉ms))
theorem iS {ms:List Nat}{i:Nat} (h:isA ms i=true):i+2000∈ms/\i∉ms/\i+1000∉ms:=by
 unfold isA at h
 rw [Bool.and_eq_true,Bool.and_eq_true] at h
 exact ⟨of_decide_eq_true h.1,of_decide_eq_true h.2.1,of_decide_eq_true h.2.2⟩
theorem Rel.anyl {ms:List Nat}{σ:St}{H0 H:Hp}{δ:Dt}{i:Nat}{d:Dv}{Φ:Nat->List Addr} (f:Foot KF ms W H0 δ σ H Φ) (hi:isA ms i=true) (hd:δ[i]?=some (some d)): ∃a xs ds,d= .lst ds/\σ[i]?=some (some (.ref a))/\Φ i=[a]/\H a=some (.lst xs)/\RepsF KF (fun b=> ¬W b) H xs ds:=by
 obtain ⟨h1,h2,h3⟩:=iS hi
 obtain ⟨a,ha,o⟩:=f.at_ i d (h9 h1) hd
 rcases o with ⟨n,_⟩|⟨_,n,_⟩|⟨_,_,e,xs,ds,rfl,h,r⟩
 ·exact absurd n h2
 ·exact absurd n h3
 ·exact ⟨a,xs,ds,rfl,ha,e,h,r⟩
section
variable {X:Cx}{ms:List Nat}{k rk:Kd}{e:Expr}{m:EM}{i:Nat}{x:Str}{np apos cpos pos pos':Pos}{tg:Expr}
noncomputable def sSetL (i:Nat) (m:EM):SM:=fun δ=>(m δ).bind fun d=>match d with
 | .lst ds=>some (.nx (δ.set i (some (.lst ds))))
 |_=>none
theorem wg (hi:isA ms i=true) (h:PD X ms .one e m) (hN:X.N.Nodup) (hx:X.N[i]?=some x) (hl:Loc X.env.scope x) (hs:swapsWith e (some (.Name x pos')) pos.line X.env=pure false:=by rfl)
  (hf:X.fn x=true \/X.env.scope.names.lookup x=some .local:=by first|exact .inl rfl|exact .inr rfl|assumption) (hz:decide (i+3000∈ms)=false:=by rfl):PDs X ms rk (.Assign [.Name x pos'] e pos) (sSetL i m):=by
 obtain ⟨te,p,q⟩:=h
 refine ⟨_,gI hN hx hl p hs hf,fun {W} δ σ H0 H D r R hm hq=> ?_⟩
 obtain ⟨h1,h2,h3⟩:=iS hi
 obtain ⟨d,hd,e⟩:=Option.bind_eq_some_iff.mp hm
 refine q δ σ H0 H _ d R hd fun v H' s g=> ?_
 obtain ⟨a,rfl,hn,c⟩:=g
 cases d<;>simp only [reduceCtorEq,Option.some.injEq] at e
 subst e
 obtain ⟨xs,h,rr⟩:=c
 obtain ⟨Φ,f⟩:=R.foot
 obtain ⟨R',st⟩:=R.chg (P:=[]) (F:=[a]) (H':=H') f (h9 h1) (fun _ z=>nomatch z) (fun b o h _=>s b o h) (fun _ z=>nomatch z) (by simp) (fun b hb=> .inr (by rw [List.mem_singleton.mp hb];exact hn)) (.inr (.inr ⟨h2,h3,rfl,xs,_,rfl,h,rr.mono fun _ _ z=>z.elim⟩)) (fun z=>absurd z (of_decide_eq_false hz))
 exact hq _ _ H' st R'
end
end L2
set_option maxHeartbeats 4000000
namespace L2
open PySem PySem.Spec PyProof.Rows
variable {KF:PySem.W.Frag}{W W':Addr->Prop}
section
variable {X:Cx}
end
section
variable {H H0 H0':Hp}{a:Addr}{ob:Obj}{xs:List (List Key×V)}
end
section
variable {X:Cx}{ms:List Nat}{rk:Kd}{pos:Pos}
end
end L2
set_option maxHeartbeats 4000000
namespace L2
noncomputable def gN' (pl:List Int) (o:Hl) (pc:Nat) (k:List Int):List Int:=(o.filter fun p=>decide (cutR pl p.1=k)).map fun p=>p.1.getD pc 0
end L2
set_option maxHeartbeats 4000000
namespace L2
noncomputable abbrev Sel:=List Int->Option Int
noncomputable def sl (sel:Sel) (pl:List Int) (o:Hl) (pc:Nat) (k:List Int):Int:=(sel (gN' pl o pc k)).getD 0
section
variable {keys few:List Int}{parts:List Hl}{h X:Hl}{pc:Nat}
end
section
variable {co:List Int}{parts:List Hl}{h:Hl}{pc:Nat}
end
end L2
set_option maxHeartbeats 4000000
namespace L2
open PySem PySem.Spec PyProof.Rows
variable {KF:PySem.W.Frag}{W W':Addr->Prop}
theorem mn {ms:List Nat}{σ:St}{H0 H:Hp}{δ:Dt}{i:Nat}{a:Addr}{xs ys:List V}{es:List Dv}{Φ:Nat->List Addr} (R:Rel KF ms W H0 δ σ H) (f:Foot KF ms W H0 δ σ H Φ) (hi:isA ms i=true) (hs:σ[i]?=some (some (.ref a))) (eF:Φ i=[a]) (hx:H a=some (.lst xs))
  (re:RepsF KF (fun b=> ¬W b) H ys es): ∃W':Addr->Prop,Rel KF ms W' H0 (δ.set i (some (.lst es))) σ (L2.upd H a (.lst ys))/\Stp ms H0 W σ H W' σ (L2.upd H a (.lst ys)):=by
 obtain ⟨h1,h2,h3⟩:=iS hi
 have wa:W a:=(f.wr i a (by rw [eF];exact List.mem_cons_self ..)).1
 have kp:aD (fun b=> ¬W b) H (L2.upd H a (.lst ys)):=fun b ob hb k=>by
  rcases k with ⟨ys,rfl⟩|⟨c,u,rfl⟩|k
  ·rw [au (fun z=>by rw [z,hx] at hb;cases hb)];exact hb
  ·rw [au (fun z=>by rw [z,hx] at hb;cases hb)];exact hb
  ·rw [au (fun z=>k (by rw [z];exact wa))];exact hb
 have nw: ∀b,¬W b-> ¬(W b \/b∈[a]):=fun b n z=>by
  rcases z with z|z
  ·exact n z
  ·rw [List.mem_singleton.mp z] at n;exact n wa
 have rn:RepsF KF (fun b=> ¬(W b \/b∈[a])) (L2.upd H a (.lst ys)) ys es:=(re.keep kp).mono fun b _ n=>nw b n
 obtain ⟨R2,st⟩:=R.chg (P:=[a]) (F:=[a]) (H':=L2.upd H a (.lst ys)) f (h9 h1) (fun b hb=>by rw [eF];exact hb) (fun b ob h n=>by rw [au (fun z=>n (by rw [z];exact List.mem_cons_self ..))];exact h)
  (fun b hb=>by rw [List.mem_singleton.mp hb];exact ⟨_,ay,fun _ z=>(nomatch z),fun _ _ z=>(nomatch z)⟩) (by simp) (fun b hb=> .inl hb) (.inr (.inr ⟨h2,h3,rfl,_,_,rfl,ay,rn⟩)) (fun _=>hs)
 rw [ii hs] at R2 st
 exact ⟨_,R2,st⟩
section
variable {X:Cx}{ms:List Nat}{k k1 rk:Kd}{e b v:Expr}{m mb mv:EM}{i:Nat}{x:Str}{np apos cpos pos pos':Pos}
noncomputable def bT (i:Nat) (mk mv:EM):SM:=fun δ=>(mv δ).bind fun v=>(mk δ).bind fun y=>(eVar i δ).bind fun x=>match x,y with
 | .lst ds,.int k=>(ixN ds.length k).bind fun j=>some (.nx (δ.set i (some (.lst (ds.set j v)))))
 |_,_=>none
theorem dD (hi:isA ms i=true) (hx:PE X (.Name x np) (tVar i)) (hk:PD X ms k1 b mb) (hv:PD X ms .any v mv)
  (hs:swapsWithSole [.Subscript (.Name x np) b pos'] v pos.line X.env=pure false:=by rfl) (hw:swappedStores [.Subscript (.Name x np) b pos'] v X.env=pure none:=by rfl)
  (h1:(assignEach [.Subscript (.Name x np) b pos'] X.env).map (·.2)=[assign (.Subscript (.Name x np) b pos') X.env]:=by rfl)
  (ha: ∀v,assign (.Subscript (.Name x np) b pos') X.env v=(do
   let ow<-holding [v] (eval (.Name x np) X.env)
   let iw<-holding [v,ow] (eval b X.env)
   standAt pos'
   holding [v,ow,iw] (setItem ow iw v)
   release [v,ow,iw] []):=by intro _;rfl):PDs X ms rk (.Assign [.Subscript (.Name x np) b pos'] v pos) (bT i mb mv):=by
 obtain ⟨tb,pb,qb⟩:=hk
 obtain ⟨tv,pv,qv⟩:=hv
 refine ⟨_,nZ pv (nY hx pb py ha) hs hw h1,fun {W} δ σ H0 H D r R hm hq=> ?_⟩
 obtain ⟨dv,hv,e⟩:=Option.bind_eq_some_iff.mp hm
 obtain ⟨y,hy,e⟩:=Option.bind_eq_some_iff.mp e
 obtain ⟨z,hz,e⟩:=Option.bind_eq_some_iff.mp e
 have sh: ∃ds kk,z= .lst ds/\y= .int kk:=by
  cases z<;>first|(cases e;done)|(cases y<;>first|(cases e;done)|exact ⟨_,_,rfl,rfl⟩)
 obtain ⟨ds,kk,rfl,rfl⟩:=sh
 obtain ⟨j,hj,e⟩:=Option.bind_eq_some_iff.mp e
 cases e
 refine qv δ σ H0 H _ dv R hv fun w1 H1 s1 g1=> ?_
 have R1:=R.same s1
 obtain ⟨Φ0,f0⟩:=R1.foot
 obtain ⟨a,xs0,ds0,e0,hsa,_,hxs0,_⟩:=Rel.anyl f0 hi (ce hz)
 refine ⟨_,hsa,?_⟩
 refine qb δ σ H0 H1 _ _ R1 hy fun u H2 s2 g2=> ?_
 have R2:=R1.same s2
 obtain ⟨Φ,f⟩:=R2.foot
 obtain ⟨a',xs,ds',e',hsa',eF,hxs,rx⟩:=Rel.anyl f hi (ce hz)
 rw [hsa] at hsa';cases hsa'
 cases e'
 have g2:=g2.bor
 cases g2
 have g1':RepF X.K (fun a=> ¬W a) H2 w1 dv:=RepF.same s2 g1
 refine ⟨a,xs,kk,j,rfl,rfl,hxs,by rw [rx.length];exact hj,?_⟩
 obtain ⟨W9,R3,st⟩:=mn R2 f hi hsa eF hxs (rx.set j g1')
 exact hq W9 σ _ ((Stp.sm (s1.tr s2)).tr st) R3
theorem wj (i:Nat) (hi:isA ms i=true) (h:PE X (.Name x pos') (tVar i)):PDs X ms .any (.Return (some (.Name x pos')) pos) (sRet (eVar i)):=by
 refine ⟨_,jq h,fun {W} δ σ H0 H D r R hm hq=> ?_⟩
 obtain ⟨d,hd,rfl⟩:=Option.map_eq_some_iff.mp hm
 obtain ⟨Φ,f⟩:=R.foot
 obtain ⟨a,xs,ds,rfl,ha,eF,h,r⟩:=Rel.anyl f hi (ce hd)
 refine ⟨_,ha,hq _ _ σ H Φ .refl R f ?_ fun z=>nomatch z⟩
 exact RepF.lst (fun z=>z.2 (f.wr i a (by rw [eF];exact List.mem_cons_self ..)).2) h (r.mono fun _ _ n z=>n z.1)
noncomputable def iU (i:Nat):EM:=fun δ=>(eVar i δ).bind fun x=>match x with
 | .lst ds=>some (.tup ds)
 |_=>none
theorem wk {p:Pos} (hi:isA ms i=true) (hx:PE X (.Name x np) (tVar i)) (hg:Gl X "tuple") (hm:X.mg "tuple"=none) (he:starEach [.Name x np] X.env=(false,eval (.Name x np) X.env)::starEach [] X.env:=by rfl) (hpl:(backTo pos (starEach [] X.env)).any (·.1)=false:=by rfl):
  PD X ms .any (.Call (.Name "tuple" p) [.Name x np] [] pos) (iU i):=by
 refine ⟨_,jE fB hg hm dM (cn hx dJ he) (by decide) (by decide) he hpl,fun {W} δ σ H0 H Q d R hm hq=> ?_⟩
 obtain ⟨z,hz,e⟩:=Option.bind_eq_some_iff.mp hm
 obtain ⟨Φ,f⟩:=R.foot
 obtain ⟨a,xs,ds,rfl,hsa,eF,hxs,rx⟩:=Rel.anyl f hi (ce hz)
 cases e
 refine ⟨_,hsa,a,xs,rfl,.inl ⟨SqL.of hxs,fun l hl=> ?_⟩⟩
 have s2:=Same.new (o:= .tup xs) hl
 exact hq _ _ s2 (RepF.tup ay (rx.same s2))
end
end L2
set_option maxHeartbeats 4000000
namespace L2
open PySem PySem.Spec PyProof.Rows
variable {KF:PySem.W.Frag}{W W':Addr->Prop}
section
variable {X:Cx}{ms:List Nat}{k1 k2:Kd}{a b:Expr}{ma mb:EM}{pos:Pos}
end
noncomputable def valI (b:List (Key×Int)) (k:Key):Option Int:=(b.find? fun kv=>decide (kv.1=k)).map (·.2)
noncomputable def eqKI (a b:List (Key×Int)):Bool:=a.length==b.length&&a.all fun p=>decide (valI b p.1=some p.2)
noncomputable def kvI (a:List (Key×Int)):List (Key×V):=a.map fun p=>(p.1,V.int p.2)
theorem wl (b:List (Key×Int)) (k:Key):valV (kvI b) k=(valI b k).map V.int:=by
 unfold valV valI kvI
 induction b with
 |nil=>rfl
 |cons p r ih=>
  simp only [List.map_cons,List.find?_cons]
  by_cases h:p.1=k
  ·rw [decide_eq_true h];rfl
  ·rw [decide_eq_false h];exact ih
theorem mq {a:List (Key×Int)}{vs:List (Key×Value)} (r:KV (kvI a) vs):vs.length=a.length:=by
 have:=Paired.length r
 rw [<-this];exact List.length_map ..
theorem mt {A:Around}{s:Shared}{b:List (Key×Int)}{ub:List (Key×Value)} (rb:KV (kvI b) ub): ∀{a:List (Key×Int)}{ua:List (Key×Value)},KV (kvI a) ua->PySem.W.KeqHits A s ub ua (a.all fun p=>decide (valI b p.1=some p.2))
 |[],_,r=>by
  cases r
  exact .nil
 |(k,i)::a,ua,r=>by
  cases r with
  | @cons _ q _ qs h t=>
   obtain ⟨q1,q2⟩:=q
   obtain ⟨e1,t1,e2⟩:=h
   simp only at e1 e2
   subst e1 e2
   have rv:=rb.val k
   rw [wl] at rv
   rw [List.all_cons]
   cases hv:valI b k with
   |none=>
    rw [hv] at rv
    have e:valueAt ub k=none:=RelO.none_of rv
    show PySem.W.KeqHits A s ub _ (false&&_)
    rw [Bool.false_and]
    exact .miss e
   |some j=>
    rw [hv] at rv
    obtain ⟨w',hw,t2,e⟩:=RelO.some_of rv
    subst e
    have ih:=mt (A:=A) (s:=s) rb t
    have e2:decide (some j=some i)=(i==j):=by
     by_cases h:i=j
     ·subst h;simp
     ·have h2: ¬(some j=some i):=fun z=>h (Option.some.inj z).symm
      rw [decide_eq_false h2]
      exact (beq_eq_false_iff_ne.mpr h).symm
    show PySem.W.KeqHits A s ub _ (decide (some j=some i)&&_)
    rw [e2]
    exact .hit hw (SeqAt.EqAt.int_int i t1 j t2) ih
noncomputable def rNeK:R2:=fun x y H Q=> ∃p q a b,x= .ref p/\y= .ref q/\Rd H p (.dK (kvI a))/\Rd H q (.dK (kvI b))/\Q (.bl (!eqKI a b)) H
theorem wm {X:Cx} (hu:X.A.units+64<cLine):OpR X (compareOp .NotEq) rNeK:=by
 intro pins s σ H x y v u Q I rx ry h
 obtain ⟨p,q,a,b,rfl,rfl,hp,hq,hQ⟩:=h
 cases rx
 cases ry
 obtain ⟨_,z1,vs,r1,d1⟩:=hp.ok I.hok
 obtain ⟨_,z2,us,r2,d2⟩:=hq.ok I.hok
 refine PySem.W.keq_ne z1 z2 d1 d2 (by lia) (fun _=>mt r2 r1) ⟨.bl (!eqKI a b),H,I,?_,hQ⟩
 show Value.bool _=Value.bool _
 rw [mq r1,mq r2]
 rfl
noncomputable def kvOf:List (Key×Dv)->Option (List (Key×Int))
 |[]=>some []
 |(k,.int i)::r=>(kvOf r).map ((k,i):: ·)
 |_=>none
theorem iV {S:Addr->Prop}{H:Hp}: ∀{xs:List (Key×V)}{ds:List (Key×Dv)}{a:List (Key×Int)},RepsK KF S H xs ds->kvOf ds=some a->xs=kvI a
 |_,_,_,.nil,h=>by cases h;rfl
 |_,_,_,.cons q t,h=>by
  cases q<;>simp only [kvOf,reduceCtorEq] at h
  obtain ⟨r,hr,rfl⟩:=Option.map_eq_some_iff.mp h
  rw [iV t hr]
  rfl
noncomputable def dNeX:Dv->Dv->Option Dv
 | .dik a,.dik b=>(kvOf a).bind fun a=>(kvOf b).bind fun b=>some (.bl (!eqKI a b))
 |x,y=>dNe x y
noncomputable def rNeX (KF:PySem.W.Frag):R2:=fun x y H Q=>rNeF KF x y H Q \/rNeK x y H Q
theorem wn {X:Cx} (hu:X.A.units+64<cLine):OpR X (compareOp .NotEq) (rNeX X.K):=(g7 hu).or (wm hu)
theorem wo:OpD KF (rNeX KF) dNeX:=by
 intro H x y dx dy d Q rx ry h hq
 by_cases hd: ∃a b,dx= .dik a/\dy= .dik b
 ·obtain ⟨a,b,rfl,rfl⟩:=hd
  obtain ⟨a',ha,h⟩:=Option.bind_eq_some_iff.mp h
  obtain ⟨b',hb,h⟩:=Option.bind_eq_some_iff.mp h
  cases h
  cases rx with
  |dik _ h1 q1=>
   cases ry with
   |dik _ h2 q2=>
    rw [iV q1 ha] at h1
    rw [iV q2 hb] at h2
    exact .inr ⟨_,_,a',b',rfl,rfl,h1,h2,hq _ (.bl _)⟩
 ·refine .inl (hU H x y dx dy d Q rx ry ?_ hq)
  unfold dNeX at h
  split at h
  ·next a b=>exact absurd ⟨a,b,rfl,rfl⟩ hd
  ·exact h
end L2
set_option maxHeartbeats 4000000
namespace L2
open PySem PySem.Spec PyProof.Rows
variable {KF:PySem.W.Frag}{W W':Addr->Prop}
noncomputable def wp (tk tv:TE):TE:=fun σ H Q=> ∀p,H p=none->tk σ (upd H p (.dT [])) fun x H1=>tv σ H1 fun y H2=> ∃(k:List Key) (b:Addr),x= .ref b/\H2 b=some (.tup (k.map kV))/\H2 p=some (.dT [])/\Q (.ref p) (upd H2 p (.dT [(k,y)]))
theorem wq {X:Cx}{pos:Pos}{a b:Expr}{ta tb:TE} (hu:X.A.units+1<cLine) (hk:PE X a ta) (hv:PE X b tb):PE X (.Dict [some a] [b] pos) (wp ta tb):=by
 intro pins s σ H Q I q
 have hn:=I.hok.fresh (Nat.le_refl s.heap.objs.size)
 have I1:=I.laid (a:=s.heap.objs.size) (o:= .dT []) (h':=s.heap.push {cls:= .type "dict",data:= .dict #[]}) (t':=s.toks) (fun _ _ q=>Heap.get?_push_of_some _ q) (Nat.le_refl _) (jV s.heap I.big)
 have hp:=pS (pos:=pos) hk hv pR
 rw [arm_eval_Dict,zip_pairTrees [some a] [b] X.env pos rfl rfl,dictDisplay_pairs (pairTrees [some a] [b] X.env pos) (fun z=>nomatch z) (show (pairTrees [some a] [b] X.env pos).length<17 from (by decide:1<17))]
 refine wpAny_bind (wpAny_standAt (wpAny_bind ?_))
 unfold subDict
 refine wpAny_bind (wpAny_alloc ?_)
 refine wpAny_bind (wpAny_holding ?_)
 rw [if_pos (show (pairTrees [some a] [b] X.env pos).length<=15 from (by decide:1<=15))]
 refine wpAny_bind (thn (hp pins _ σ _ (fun ps H2=>match ps with
  |[(x,y)]=> ∃(k:List Key) (b:Addr),x= .ref b/\H2 b=some (.tup (k.map kV))/\H2 s.heap.objs.size=some (.dT [])/\Q (.ref s.heap.objs.size) (upd H2 s.heap.objs.size (.dT [(k,y)]))
  |_=>False) I1 (q _ hn)) fun ws s2 ⟨ps,H2,I2,rel,q2⟩=> ?_)
 match ps,rel,q2 with
 |[(x,y)],.cons (b:=wr) r0 .nil,q2=>
  obtain ⟨k,c,rfl,eb,ep,q2⟩:=q2
  obtain ⟨u,r⟩:=wr
  cases (show u=Value.ref c from r0.1)
  obtain ⟨z,hd,xs,rx,dd⟩:=jU I2.hok ep
  cases rx
  refine wpAny_holding ?_
  rw [List.forIn_cons]
  refine wpAny_bind (wpAny_bind (wpAny_bind (wpAny_dictSet_heap (show X.A.units<cLine by lia) (fD I2.hok eb) dd (fun h' dd' hs=>wpAny_pure ?_))))
  show wpAny _ _ (forIn ([]:List (Value×Value)) PUnit.unit _) _ _ _
  rw [List.forIn_nil]
  refine wpAny_pure (wpAny_pure (wpAny_pure (wpAny_pure ⟨.ref s.heap.objs.size,_,?_,rfl,q2⟩)))
  obtain ⟨q,es,ep',hq,h2,h3,h4,_,h5⟩:=dd'
  have hl:(putK ([]:List (List Key×V)) k y).length<=sizeLine:=by have:=gO ([]:List (List Key×V)) k y;rw [sizeLine_eq];simp at this;lia
  refine gS I2 (by rw [ep];exact True.intro) hs ⟨q,hq⟩ ⟨hl,hd,_,(KT.put (kvs:=[]) .nil k eb r0.2).keeps fun c ys ec=> ?_,q,es,ep',hq,h2,h3,h4,h5⟩
  rw [au (jl ec ep (fun z=>nomatch z))]
  exact ec
noncomputable def gr (mk mv:EM):EM:=fun δ=>(mk δ).bind fun x=>(mv δ).bind fun y=>(dKey x).bind fun k=>if y.imm=true then some (.dic [(k,y)]) else none
section
variable {X:Cx}{ms:List Nat}{k1 k2:Kd}{a b:Expr}{ma mb:EM}{pos:Pos}
theorem wt (hu:X.A.units+1<cLine) (ha:PD X ms k1 a ma) (hb:PD X ms k2 b mb):PD X ms .one (.Dict [some a] [b] pos) (gr ma mb):=by
 obtain ⟨ta,pa,qa⟩:=ha
 obtain ⟨tb,pb,qb⟩:=hb
 refine ⟨_,wq hu pa pb,fun {W} δ σ H0 H Q d R hm hq p hp=> ?_⟩
 obtain ⟨x,hx,e⟩:=Option.bind_eq_some_iff.mp hm
 obtain ⟨y,hy,e⟩:=Option.bind_eq_some_iff.mp e
 obtain ⟨k,hk,e⟩:=Option.bind_eq_some_iff.mp e
 split at e
 ·next im=>
  cases e
  have s0:=Same.new (o:= .dT []) hp
  have R0:=R.same s0
  refine qa δ σ H0 _ _ x R0 hx fun v H1 s1 g1=> ?_
  refine qb δ σ H0 H1 _ y (R0.same s1) hy fun u H2 s2 g2=> ?_
  have hp2:H2 p=some (.dT []):=s2 p _ (s1 p _ ay)
  obtain ⟨c,rfl,hc⟩:=iH g1.bor hk
  refine ⟨k,c,rfl,s2 _ _ hc,hp2,?_⟩
  have st:Same H (L2.upd H2 p (.dT [(k,u)])):=fun c o hc=>by
   rw [au (bp hc hp)]
   exact s2 c o (s1 c o (s0 c o hc))
  refine hq _ _ st ⟨p,rfl,hp,_,ay,?_⟩
  have kp:aD Imm H2 (L2.upd H2 p (.dT [(k,u)])):=fun c o hc z=>by
   rcases z with ⟨xs,rfl⟩|⟨c',u',rfl⟩|z
   ·rw [au (fun z=>by rw [z,hp2] at hc;cases hc)];exact hc
   ·rw [au (fun z=>by rw [z,hp2] at hc;cases hc)];exact hc
   ·exact z.elim
  exact .cons ((g2.bor.imm im:RepF X.K Imm H2 u y).keep kp) .nil
 ·cases e
end
end L2
set_option maxHeartbeats 4000000
namespace L2
open PySem PySem.Spec PyProof.Rows
variable {KF:PySem.W.Frag}{W W':Addr->Prop}
section
variable {X:Cx}{tg:Expr}{ms:List Nat}{k:Kd}{e:Expr}{m:EM}{pos:Pos}{lp:Bool}
end
end L2
set_option maxHeartbeats 4000000
namespace L2
open PySem PySem.Spec PyProof.Rows
variable {KF:PySem.W.Frag}{W W':Addr->Prop}
section
variable {X:Cx}{ms:List Nat}{k:Kd}{e:Expr}{m:EM}{pos:Pos}
end
end L2
set_option maxHeartbeats 4000000
namespace L2
open PySem PySem.Spec PyProof.Rows
variable {KF:PySem.W.Frag}{W W':Addr->Prop}
section
variable {ms:List Nat}{i:Nat}
end
section
variable {X:Cx}{ms ms':List Nat}{k rk:Kd}{e a b:Expr}{m ma mb:EM}{pos pos':Pos}{i:Nat}{x:Str}{st:List Stmt}{sm:SM}
end
end L2
set_option maxHeartbeats 4000000
namespace L2
open PySem PySem.Spec PyProof.Rows
variable {KF:PySem.W.Frag}{W W':Addr->Prop}
section
variable {X:Cx}{ms:List Nat}{k k2 k3 rk:Kd}{ix:Expr}{m mi:EM}{pos:Pos}{i:Nat}{x:Str}{np apos cpos ipos:Pos}
end
end L2
set_option maxHeartbeats 4000000
namespace L2
open PySem PySem.Spec PyProof.Rows
variable {KF:PySem.W.Frag}{W W':Addr->Prop}
theorem wu {prog:Program}{w:World}{A:Around}{E:Value->Shared->Prop}{s:Shared}{nm:String}{a b:Addr}{k:List Key}{pa pb:Addr}{i:Int}{t u:Tok}{Q:Bool->Shared->Prop} (hu:(tupleKind (aM prog w)).room A) (ha:(a==sysModules)=false) (hb:(b==sysModules)=false)
  (da:s.heap.DictOfH (tupleKind (aM prog w)) a [(k,pa,.int i t)]) (db:s.heap.DictOfH (tupleKind (aM prog w)) b [(k,pb,.int i u)]) (h:Q true s):
  wpAny (model prog w) A (Builtin.Dict.samePairs nm a b) Q E s:=by
 obtain ⟨oa,es,ep,hoa,_,hda,hea,hia,hna⟩:=da
 obtain ⟨ob,es',ep',hob,_,hdb,heb,hib,hnb⟩:=db
 have e1:es= #[entryOfKey (tupleKind (aM prog w)) (k,pa,.int i t)]:=by apply Array.ext';rw [hea];rfl
 have e2:es'= #[entryOfKey (tupleKind (aM prog w)) (k,pb,.int i u)]:=by apply Array.ext';rw [heb];rfl
 unfold Builtin.Dict.samePairs Builtin.Dict.showsAll
 rw [if_neg (show¬(a==sysModules)=true by rw [ha];exact Bool.false_ne_true),if_neg (show¬(b==sysModules)=true by rw [hb];exact Bool.false_ne_true)]
 refine wpAny_bind (wpAny_pure (wpAny_bind (wpAny_pure ?_)))
 refine wpAny_bind (wpAny_dictEntries hoa hda ?_)
 dsimp only
 refine wpAny_bind (wpAny_dictEntries hob hdb ?_)
 have sz:es.size=es'.size:=by rw [e1,e2];rfl
 rw [if_neg (by rw [sz];simp)]
 refine wpAny_bind (wpAny_dictEpoch hoa hda ?_)
 refine wpAny_bind ?_
 rw [Std.Legacy.Range.forIn_eq_forIn_range']
 simp only [Std.Legacy.Range.size,Nat.sub_zero,Nat.add_sub_cancel,Nat.div_one]
 have s1:es.size=1:=by rw [e1];rfl
 rw [s1]
 refine wpAny_forIn_list _ (fun rest q s'=>s'=s/\q=(none,())/\(rest=[0] \/rest=[])) _ ?_ ?_ _ _ ⟨rfl,rfl,.inl rfl⟩
 ·rintro x rest q s' ⟨rfl,rfl,hr⟩
  rcases hr with hr|hr
  rotate_left
  ·cases hr
  cases hr
  refine wpAny_bind (wpAny_dictEntries hoa hda ?_)
  have g0:es[0]?=some (entryOfKey (tupleKind (aM prog w)) (k,pa,.int i t)):=by rw [e1];rfl
  rw [g0]
  show wpAny _ _ (holding [Value.ref pa,Value.int i t] _>>=_) _ _ _
  refine wpAny_bind (wpAny_holding (wpAny_bind (wpAny_dictFind_heap (knd:=tupleKind (aM prog w)) (a:=pa) (k:=k) hu (hia _ (List.mem_cons_self ..)) hob hdb heb hib hnb (fun n=>absurd rfl (n 0 (pb,.int i u))) fun j p hj=> ?_)))
  have j0:j=0:=by
   cases j with
   |zero=>rfl
   |succ j=>simp at hj
  subst j0
  refine wpAny_bind (wpAny_dictEntries hob hdb ?_)
  have g1:es'[0]?=some (entryOfKey (tupleKind (aM prog w)) (k,pb,.int i u)):=by rw [e2];rfl
  rw [g1]
  have eq:=SeqAt.EqAt.int_int (A:=A) (s:=s') i t i u
  refine wpAny_holding (eq prog w _ _ ?_)
  rw [beq_self_eq_true]
  show wpAny _ _ (if (!true)=true then _ else _) _ _ _
  rw [if_neg (by decide)]
  refine wpAny_bind (wpAny_dictEpoch hoa hda ?_)
  rw [if_neg (by simp)]
  exact wpAny_pure ⟨rfl,rfl,.inr rfl⟩
 ·rintro q s' ⟨rfl,rfl,_⟩
  exact wpAny_pure h
theorem ne1 {prog:Program}{w:World}{A:Around}{E:Value->Shared->Prop}{s:Shared}{a b:Addr}{k:List Key}{pa pb:Addr}{i:Int}{t u:Tok}{Q:Value->Shared->Prop} (hu:A.units+1<cLine) (ha:(a==sysModules)=false) (hb:(b==sysModules)=false)
  (ta:s.TypeIs (.ref a) "dict") (tb:s.TypeIs (.ref b) "dict") (da:s.heap.DictOfH (tupleKind (aM prog w)) a [(k,pa,.int i t)]) (db:s.heap.DictOfH (tupleKind (aM prog w)) b [(k,pb,.int i u)]) (h:Q (.bool false) s):
  wpAny (model prog w) A (compareOp .NotEq (.ref a) (.ref b)) Q E s:=by
 refine wpAny_richCompare_same_room (op:= .NotEq) ta tb PySem.F.slot_dict_ne (wpAny_call_entry PySem.F.slot_dict_ne ta PySem.F.entry_dict_ne ?_ (PySem.F.args_dict_ne_2 _ _)) (by lia)
 show wpAny _ _ (Builtin.Dict.dictSlotArgs "__ne__" ⟨[.ref a,.ref b],[]⟩>>=_) _ _ s
 refine wpAny_bind ?_
 unfold Builtin.Dict.dictSlotArgs
 refine wpAny_bind (wpAny_notOrdered_dict ta ?_)
 show wpAny _ _ (pure (Value.ref a,Value.ref b)) _ _ s
 refine wpAny_pure ?_
 refine wpAny_bind (wpAny_isInstance (T:="dict") tb PySem.F.sub_dict_dict ?_)
 simp only [Bool.not_true,Bool.false_eq_true,if_false]
 refine wpAny_bind (wpAny_pure (wpAny_bind (wpAny_pure ?_)))
 refine wpAny_bind (wu (tupleKind_room_in1 hu) ha hb da db ?_)
 refine wpAny_pure ⟨_,rfl,?_,?_⟩
 ·exact fun x=>nomatch x
 ·simpa using h
noncomputable def rNeT:R2:=fun x y H Q=> ∃p q k i,x= .ref p/\y= .ref q/\Rd H p (.dT [(k,.int i)])/\Rd H q (.dT [(k,.int i)])/\Q (.bl false) H
theorem mw {H:Hp}{k:List Key}{i:Int}{xs:List (List Key×Addr×Value)} (r:KT H [(k,.int i)] xs): ∃p t,xs=[(k,p,.int i t)]:=by
 cases r with
 | @cons _ q _ qs h t=>
  cases t
  obtain ⟨k',p,v⟩:=q
  obtain ⟨e,_,t,e2⟩:=h
  simp only at e e2
  subst e e2
  exact ⟨p,t,rfl⟩
theorem wv {X:Cx} (hu:X.A.units+64<cLine):OpR X (compareOp .NotEq) rNeT:=by
 intro pins s σ H x y v u Q I rx ry h
 obtain ⟨p,q,k,i,rfl,rfl,hp,hq,hQ⟩:=h
 cases rx
 cases ry
 obtain ⟨_,z1,xs,r1,d1⟩:=eM I.hok hp
 obtain ⟨_,z2,ys,r2,d2⟩:=eM I.hok hq
 obtain ⟨p1,t1,rfl⟩:=mw r1
 obtain ⟨p2,t2,rfl⟩:=mw r2
 exact ne1 (by lia) z1 z2 d1.typeIs d2.typeIs d1 d2 ⟨.bl false,H,I,rfl,hQ⟩
noncomputable def dNeY:Dv->Dv->Option Dv
 | .dic [(k,.int i)],.dic [(k',.int i')]=>if k=k'/\i=i' then some (.bl false) else none
 |x,y=>dNeX x y
noncomputable def rNeY (KF:PySem.W.Frag):R2:=fun x y H Q=>rNeX KF x y H Q \/rNeT x y H Q
theorem mz {X:Cx} (hu:X.A.units+64<cLine):OpR X (compareOp .NotEq) (rNeY X.K):=(wn hu).or (wv hu)
theorem mB {S:Addr->Prop}{H:Hp}{v:V}{k:List Key}{i:Int} (r:RepF KF S H v (.dic [(k,.int i)])): ∃p,v= .ref p/\Rd H p (.dT [(k,.int i)]):=by
 cases r with
 | @dic a xs _ _ hr q=>
  cases q with
  |cons h t=>
   cases t
   cases h
   exact ⟨_,rfl,hr⟩
theorem mC:OpD KF (rNeY KF) dNeY:=by
 intro H x y dx dy d Q rx ry h hq
 by_cases hd: ∃k i k' i',dx= .dic [(k,.int i)]/\dy= .dic [(k',.int i')]
 ·obtain ⟨k,i,k',i',rfl,rfl⟩:=hd
  have h:(if k=k'/\i=i' then some (Dv.bl false) else none)=some d:=h
  split at h
  ·next c=>
   cases h
   obtain ⟨rfl,rfl⟩:=c
   obtain ⟨p,rfl,hp⟩:=mB rx
   obtain ⟨q,rfl,hq2⟩:=mB ry
   exact .inr ⟨p,q,k,i,rfl,rfl,hp,hq2,hq _ (.bl _)⟩
  ·cases h
 ·have e:dNeX dx dy=some d:=by
   unfold dNeY at h
   split at h
   ·exact absurd ⟨_,_,_,_,rfl,rfl⟩ hd
   ·exact h
  exact .inl (wo H x y dx dy d Q rx ry e hq)
section
variable {X:Cx}{ms:List Nat}{k k1 rk:Kd}{e b v:Expr}{m mb mv:EM}{i:Nat}{x:Str}{np apos cpos pos pos':Pos}
noncomputable def gs:List Dv->Option Dv
 |[.int i,.int j]=>some (.int (if j<i then j else i))
 |_=>none
noncomputable def gt:List Dv->Option Dv
 |[.int i,.int j]=>some (.int (if j>i then j else i))
 |_=>none
theorem ww:bG KF (fun xs H Q=> ∃i j,xs=[.int i,.int j]/\Q (.int (if j<i then j else i)) H) .imm gs:=by
 intro W H vs ds d Q r e hq
 unfold gs at e
 split at e
 ·cases e
  cases r with
  |cons r1 r=>
   cases r with
   |cons r2 r=>
    cases r
    cases r1
    cases r2
    exact ⟨_,_,rfl,hq _ H (fun _ _ z=>z) (RepF.int _)⟩
 ·cases e
theorem wx:bG KF (fun xs H Q=> ∃i j,xs=[.int i,.int j]/\Q (.int (if j>i then j else i)) H) .imm gt:=by
 intro W H vs ds d Q r e hq
 unfold gt at e
 split at e
 ·cases e
  cases r with
  |cons r1 r=>
   cases r with
   |cons r2 r=>
    cases r
    cases r1
    cases r2
    exact ⟨_,_,rfl,hq _ H (fun _ _ z=>z) (RepF.int _)⟩
 ·cases e
theorem mD {i j:Int}:gs [.int i,.int j]=some (.int (if j<i then j else i)):=rfl
theorem wy:bootBuiltins "max"=some (.builtin "max"):=by decide+kernel
noncomputable def wz:V->List V->Hp->VK->Prop:=fun x vs H Q=> ∃l xs y,∃q:Int,x= .ref l/\vs=[.int q,y]/\H l=some (.lst xs)/\(0<=q/\q<=xs.length)/\xs.length<1000000/\Q .non (upd H l (.lst (xs.take q.toNat++y::xs.drop q.toNat)))
theorem fits {q:Int} (h0:0<=q) (h1:q<1000000): ¬(!Builtin.List.listFitsIndex q)=true:=by
 unfold Builtin.List.listFitsIndex
 rw [decide_eq_true (show (-(2^63:Int))<=q by lia),decide_eq_true (show q<2^63 by lia)]
 exact Bool.false_ne_true
theorem wA {its:List Value}{q:Int}{u:Value} (h0:0<=q) (h1:q<=its.length):(its.toArray.extract 0 (if q<0 then (q+(its.toArray.size:Int)).toNat else min q.toNat its.toArray.size)).push u++its.toArray.extract (if q<0 then (q+(its.toArray.size:Int)).toNat else min q.toNat its.toArray.size)=(its.take q.toNat++u::its.drop q.toNat).toArray:=by
 rw [if_neg (by lia),List.size_toArray,Nat.min_eq_left (by lia)]
 simp
 exact List.take_of_length_le (by rw [List.length_drop];exact Nat.le_refl _)
theorem wB:MtM X "list.insert" wz:=by
 intro pins s σ H x vs v us Q I rx rv h
 obtain ⟨l,xs,y,q,rfl,rfl,hH,hz1,hz,qq⟩:=h
 cases rx
 cases rv with
 |cons r1 r2=>
  cases r2 with
  | @cons _ u _ _ ru r4=>
   cases r4
   obtain ⟨t,rfl⟩:=r1
   obtain ⟨z,its,n,r,hl,e⟩:=I.lstM hH
   have hz2:its.toArray.size<=sizeLine:=by rw [List.size_toArray,<-hl];exact z
   have q1:q<=its.length:=by rw [<-hl];exact hz1.2
   refine call_meets PySem.F.slot_list_insert ⟨_,e,rfl⟩ PySem.F.entry_list_insert (PySem.F.args_list_insert_3 _ _ _) (PySem.AutoSeq1.list_insert_list_int_val_1 l its.toArray n q t u (fits hz1.1 (by lia)) hz2) ⟨e,?_⟩
   refine ⟨.non,_,I.lset (its':=its.take q.toNat++u::its.drop q.toNat) hH e (wA hz1.1 q1) ((r.take q.toNat).append (.cons ru (r.drop q.toNat))) ?_,rfl,qq⟩
   rw [List.length_append,List.length_cons,List.length_take,List.length_drop]
   have:sizeLine>=1000001:=by decide
   lia
noncomputable def gu (i:Nat) (mi m:EM):SM:=fun δ=>(mi δ).bind fun y=>(m δ).bind fun d=>(eVar i δ).bind fun x=>match x,y with
 | .lst ds,.int q=>if 0<=q/\q<=ds.length/\ds.length<lim then some (.nx (δ.set i (some (.lst (ds.take q.toNat++d::ds.drop q.toNat))))) else none
 |_,_=>none
theorem wC {a:Expr} (hi:isA ms i=true) (hx:PE X (.Name x np) (tVar i)) (ha:PD X ms k a mb) (h:PD X ms .any e m) (he:starEach [a,e] X.env=(false,eval a X.env)::starEach [e] X.env:=by rfl) (he1:starEach [e] X.env=(false,eval e X.env)::starEach [] X.env:=by rfl)
  (hbase:attributeBase (.Name x np) "insert" X.env (eval (.Name x np) X.env)=eval (.Name x np) X.env:=by rfl) (hline:(apos.endLine==cpos.line)=true:=by rfl)
  (hfew:((backTo cpos (starEach [a,e] X.env)).all (fun x=> !x.1)&&(backToKw cpos (keywordEach [] X.env)).all (fun x=>x.1.isSome)
   &&decide (([a,e]:List Expr).length+([]:List Keyword).length+(if ([]:List Keyword).isEmpty then 0 else 1)<30))=true:=by rfl)
  (hplain:(backTo cpos (starEach [e] X.env)).any (·.1)=false:=by rfl)
  (hs:swapsWith (.Call (.Attribute (.Name x np) "insert" apos) [a,e] [] cpos) none pos.line X.env=pure false:=by rfl):
  PDs X ms rk (.Expr (.Call (.Attribute (.Name x np) "insert" apos) [a,e] [] cpos) pos) (gu i mb m):=by
 obtain ⟨ta,pa,qa⟩:=ha
 obtain ⟨te,p,q⟩:=h
 refine ⟨_,nW (pD PySem.F.plainAttrs_list PySem.F.slot_list_insert PySem.F.type_list_insert wB hx (cn pa (cn p dJ he1) he) hbase hfew hline he hplain) hs,fun {W} δ σ H0 H D r R hm hq=> ?_⟩
 obtain ⟨y,hy,e1⟩:=Option.bind_eq_some_iff.mp hm
 obtain ⟨d,hd,e1⟩:=Option.bind_eq_some_iff.mp e1
 obtain ⟨z,hz,e2⟩:=Option.bind_eq_some_iff.mp e1
 have sh: ∃ds kk,z= .lst ds/\y= .int kk:=by
  cases z<;>first|(cases e2;done)|(cases y<;>first|(cases e2;done)|exact ⟨_,_,rfl,rfl⟩)
 obtain ⟨ds,kk,rfl,rfl⟩:=sh
 simp only at e2
 split at e2
 rotate_left
 ·cases e2
 next hl=>
 cases e2
 obtain ⟨Φ0,f0⟩:=R.foot
 obtain ⟨a,xs,ds0,e0,hsa,_,hxs,_⟩:=Rel.anyl f0 hi (ce hz)
 refine ⟨_,hsa,.inl ⟨rfl,xs,SqL.of hxs⟩,?_⟩
 refine qa δ σ H0 H _ _ R hy fun u H1 s1 g1=> ?_
 have R1:=R.same s1
 refine q δ σ H0 H1 _ d R1 hd fun w H2 s2 g2=> ?_
 have g2:RepF X.K (fun a=> ¬W a) H2 w d:=g2
 have R2:=R1.same s2
 obtain ⟨Φ,f⟩:=R2.foot
 obtain ⟨a',xs',ds',e',hsa',eF,hxs',rx'⟩:=Rel.anyl f hi (ce hz)
 rw [hsa] at hsa';cases hsa'
 cases e'
 cases g1.bor
 have l3:(lim:Nat)<=1000000:=by decide
 refine ⟨a,xs',w,kk,rfl,rfl,hxs',⟨hl.1,by rw [rx'.length];exact hl.2.1⟩,by rw [rx'.length];exact Nat.lt_of_lt_of_le hl.2.2 l3,?_⟩
 obtain ⟨W9,R9,st⟩:=mn R2 f hi hsa eF hxs' ((rx'.take kk.toNat).append (.cons g2 (rx'.drop kk.toNat)))
 exact hq W9 σ _ ((Stp.sm (s1.tr s2)).tr st) R9
end
end L2
set_option maxHeartbeats 4000000
namespace K02
open PySem L2
noncomputable def top (i:Nat):Stmt:=PySem.Challenge.pw_deltahouse_k02_a_heap.main.body.getD i (.Pass ⟨0,0,0,0⟩)
structure Blt (mg:Str->Option Value):Prop where
 all_:mg "all"=none
 bool_:mg "bool"=none
 int_:mg "int"=none
 isinstance_:mg "isinstance"=none
 len_:mg "len"=none
 list_:mg "list"=none
 max_:mg "max"=none
 min_:mg "min"=none
 range_:mg "range"=none
 sorted_:mg "sorted"=none
 str_:mg "str"=none
 sum_:mg "sum"=none
 tuple_:mg "tuple"=none
noncomputable abbrev d4:Stmt:=top 2
theorem wD:aW ["thing"] ["thing"] (aq d4):=⟨rfl,rfl,rfl,by decide+kernel,rfl,by decide+kernel,by decide+kernel⟩
noncomputable abbrev d5:Stmt:=top 5
theorem wE:aW ["rows"] ["rows"] (aq d5):=⟨rfl,rfl,rfl,by decide+kernel,rfl,by decide+kernel,by decide+kernel⟩
noncomputable abbrev d6:Stmt:=top 8
theorem mE:aW ["_law_cell","_law_k","_law_number_here"] ["_law_cell","_law_k"] (aq d6):=⟨rfl,rfl,rfl,by decide+kernel,rfl,by decide+kernel,by decide+kernel⟩
noncomputable abbrev d7:Stmt:=top 9
theorem mF:aW ["_law_cell","_law_scale"] ["_law_cell"] (aq d7):=⟨rfl,rfl,rfl,by decide+kernel,rfl,by decide+kernel,by decide+kernel⟩
noncomputable abbrev d8:Stmt:=top 13
theorem mG:aW ["_law_row_here","_law_way","_law_cell","_law_place"] ["_law_row_here","_law_way","_law_cell"] (aq d8):=⟨rfl,rfl,rfl,by decide+kernel,rfl,by decide+kernel,by decide+kernel⟩
noncomputable abbrev d9:Stmt:=top 15
theorem wF:aW ["_law_found","_law_due"] ["_law_found","_law_due"] (aq d9):=⟨rfl,rfl,rfl,by decide+kernel,rfl,by decide+kernel,by decide+kernel⟩
noncomputable abbrev ee:Stmt:=top 3
theorem wG:aW ["thing","width"] ["thing","width"] (aq ee):=⟨rfl,rfl,rfl,by decide+kernel,rfl,by decide+kernel,by decide+kernel⟩
noncomputable abbrev eg:Stmt:=top 10
theorem mH:aW ["_law_cell","_law_width","_law_way","_law_base","_law_place"] ["_law_cell","_law_width","_law_way","_law_base"] (aq eg):=⟨rfl,rfl,rfl,by decide+kernel,rfl,by decide+kernel,by decide+kernel⟩
noncomputable abbrev ej:Stmt:=top 11
theorem gv:aW ["_law_cell","_law_weight_here"] ["_law_cell"] (aq ej):=⟨rfl,rfl,rfl,by decide+kernel,rfl,by decide+kernel,by decide+kernel⟩
noncomputable abbrev em:Stmt:=top 14
theorem gw:aW ["_law_heap","_law_at","_law_way","_law_cell","_law_made","_law_row_here","_law_weight_here"] ["_law_heap","_law_at","_law_way","_law_cell"] (aq em):=⟨rfl,rfl,rfl,by decide+kernel,rfl,by decide+kernel,by decide+kernel⟩
noncomputable abbrev eu:Stmt:=top 4
theorem wH:aW ["thing","width"] ["thing","width"] (aq eu):=⟨rfl,rfl,rfl,by decide+kernel,rfl,by decide+kernel,by decide+kernel⟩
noncomputable abbrev eA:Stmt:=top 12
theorem fi:aW ["_law_script","_law_width","_law_way","_law_base","_law_weights","_law_k","_law_cell"] ["_law_script","_law_width","_law_way"] (aq eA):=⟨rfl,rfl,rfl,by decide+kernel,rfl,by decide+kernel,by decide+kernel⟩
noncomputable abbrev eB:Stmt:=top 6
theorem wI:aW ["thing","width"] ["thing","width"] (aq eB):=⟨rfl,rfl,rfl,by decide+kernel,rfl,by decide+kernel,by decide+kernel⟩
noncomputable abbrev cM:Stmt:=top 16
theorem bA:aW ["_law_script","_law_cells","_law_width","_law_heap","_law_asked","_law_k","_law_cell","_law_at","_law_few","_law_here","_law_way","_law_thing"] ["_law_script"] (aq cM):=⟨rfl,rfl,rfl,by decide+kernel,rfl,by decide+kernel,by decide+kernel⟩
noncomputable def mI:SM:=
 (sRet (eImm (eAnd (eIsi "int" (eVar 0)) (eUn dNot (eIsi "bool" (eVar 0))))))
noncomputable def dE:List Dv->Option Dv:=aL 1 1 mI
noncomputable def iW:EM:=
 (eOp dLtT (eOp dIx (eVar 1) (eVar 0)) (eOp dIx (eVar 1) (eOp dAdd (eVar 0) (eC (.int 1)))))
noncomputable def mJ:SM:=
 (sRet (af fAll (ab (bC [none,some 0] (iR1 (eOp dSub (af fLen (ab (eVar 0) aNil)) (eC (.int 1)))) (gN 0) tyes iW) aNil)))
noncomputable def fj:List Dv->Option Dv:=aL 1 1 mJ
noncomputable def mK:SM:=
 (sSeq (sSet 2 (eOp dMod (eOp dMul (eOp dAdd (eOp dAdd (eVar 0) (eVar 1)) (eC (.int 1))) (eOp dAdd (eC (.int 48271)) (eOp dMul (eOp dMul (eC (.int 2)) (eVar 1)) (eVar 1)))) (eC (.int 2147483647))))
  (sRet (eOp dMod (eOp dMul (eVar 2) (eVar 2)) (eC (.int 2147483629)))))
noncomputable def bK:List Dv->Option Dv:=aL 3 2 mK
noncomputable def mL:SM:=
 (sSeq (sSet 1 (eOp dIx (dt (ab (eC (.int 1)) (ab (eC (.int 1)) (ab (eC (.int 1)) (ab (eOp dPow (eC (.int 10)) (eC (.int 9))) (ab (eOp dPow (eC (.int 10)) (eC (.int 54))) (ab (eOp dMul (eOp dMul (eOp dPow (eC (.int 10)) (eC (.int 64))) (eOp dPow (eC (.int 10)) (eC (.int 64)))) (eOp dPow (eC (.int 10)) (eC (.int 64)))) aNil))))))) (eOp dMod (eOp dDiv (eVar 0) (eC (.int 2000003))) (eC (.int 6)))))
  (sRet (eOp dAdd (eOp dMul (eOp dSub (eOp dMod (eVar 0) (eC (.int 2000003))) (eC (.int 1000001))) (eVar 1)) (eOp dMod (eOp dMod (eVar 0) (eC (.int 11))) (eC (.int 2))))))
noncomputable def cN:List Dv->Option Dv:=aL 2 1 mL
noncomputable def fk:SM:=
 (sSeq (sIf (tOf (eOp dEq (eVar 1) (eC (.int 0))))
   (sRet (af bH (ab (eVar 0) aNil)))
   aO)
  (sSeq (sIf (tOf (eOp dEq (eVar 1) (eC (.int 1))))
   (sRet (eOp df (eVar 0) (eTup (ab (eC (.int 0)) aNil))))
   aO)
  (sSeq (sIf (tOf (eOp dEq (eVar 1) (eC (.int 2))))
   (sRet (eSlT (eVar 0) (aV (eC (.int 1))) bo))
   aO)
  (sSeq (sSet 3 (eOp dMod (eVar 2) (af fLen (ab (eVar 0) aNil))))
  (sRet (eOp df (eOp df (eSlT (eVar 0) bo (aV (eVar 3))) (eTup (ab (eOp dIx (eLst (ab (eC (.bl true)) (ab (eC (.bl false)) (ab (eC .non) (ab (eC (.str "1")) (ab (eTup (ab (eC (.int 1)) aNil)) aNil)))))) (eOp dMod (eOp dDiv (eVar 2) (eC (.int 8))) (eC (.int 5)))) aNil))) (eSlT (eVar 0) (aV (eOp dAdd (eVar 3) (eC (.int 1)))) bo)))))))
noncomputable def M_w_row_spoiled:List Dv->Option Dv:=aL 4 3 fk
noncomputable def mM:SM:=
 (sRet (eImm (eAnd (eIsi "bool" (eVar 0)) (eOp dEq (eVar 0) (eVar 1)))))
noncomputable def bL:List Dv->Option Dv:=aL 2 2 mM
noncomputable def iX:EM:=
 (af dE (ab (eVar 0) aNil))
noncomputable def fm:SM:=
 (sSeq (sIf (tnot (tOf (eIsi "tuple" (eVar 0))))
   (sRet (eC (.bl false)))
   aO)
  (sSeq (sIf (tor (tOf (eOp dNe (af fLen (ab (eVar 0) aNil)) (eVar 1))) (tor (tOf (eOp dLt (af fLen (ab (eVar 0) aNil)) (eC (.int 1)))) (tOf (eOp dGt (af fLen (ab (eVar 0) aNil)) (eC (.int 8))))))
   (sRet (eC (.bl false)))
   aO)
  (sRet (af fAll (ab (bC [none] (iT (eVar 0)) (gN 0) tyes iX) aNil)))))
noncomputable def bE:List Dv->Option Dv:=aL 2 2 fm
noncomputable def iY:EM:=
 (eOp dSub (eOp dMod (eOp dMul (eOp dMod (eVar 1) (eC (.int 30))) (eOp dAdd (eVar 0) (eC (.int 2)))) (eC (.int 5))) (eC (.int 2)))
noncomputable def iZ:EM:=
 (eOp dAdd (eOp dIx (eVar 1) (eVar 0)) (eOp dMul (eOp dSub (eOp dMod (eOp dDiv (eVar 2) (eC (.int 8))) (eC (.int 9))) (eC (.int 4))) (af fInt (ab (eOp dEq (eVar 0) (eVar 3)) aNil))))
noncomputable def i0:EM:=
 (af cN (ab (af bK (ab (eVar 1) (ab (eVar 0) aNil))) aNil))
noncomputable def gA:SM:=
 (sSeq (sIf (tOf (eOp dEq (eVar 2) (eC (.int 0))))
   (sRet (af cX (ab (bC [none,some 0] (iR1 (eVar 1)) (gN 0) tyes iY) aNil)))
   aO)
  (sSeq (sIf (tOf (eOp dEq (eVar 2) (eC (.int 1))))
   (sSeq (sSet 4 (eOp dMod (eVar 0) (eVar 1)))
  (sRet (af cX (ab (bC [none,some 3,some 0,some 4] (iR1 (eVar 1)) (gN 0) tyes iZ) aNil))))
   aO)
  (sRet (af cX (ab (bC [none,some 0] (iR1 (eVar 1)) (gN 0) tyes i0) aNil)))))
noncomputable def dF:List Dv->Option Dv:=aL 5 4 gA
noncomputable def fo:SM:=
 (sSeq (sSet 1 (eOp dSub (eOp dMod (eVar 0) (eC (.int 5))) (eC (.int 2))))
  (sSeq (sIf (tOf (eOp dEq (eOp dMod (eVar 0) (eC (.int 7))) (eC (.int 3))))
   (sSet 1 (af cN (ab (eVar 0) aNil)))
   aO)
  (sSeq (sIf (tOf (eOp dEq (eVar 1) (eC (.int 0))))
   (sSet 1 (eC (.int 1)))
   aO)
  (sRet (eImm (eVar 1))))))
noncomputable def dg:List Dv->Option Dv:=aL 2 1 fo
noncomputable def cO:SM:=
 (sSeq (sSetL 4 (af bH (ab (eVar 0) aNil)))
  (sSeq (sSet 5 (eOp dIx (eOp dIx (eVar 0) (eVar 1)) (eC (.int 0))))
  (sSeq (sSet 6 (eOp dIx (eOp dIx (eVar 0) (eVar 1)) (eC (.int 1))))
  (sSeq (sIf (tand (tOf (eOp dEq (eVar 2) (eC (.int 0)))) (tOf (eOp dGt (eVar 1) (eC (.int 0)))))
   (sSeq (bT 4 (eOp dSub (eVar 1) (eC (.int 1))) (eOp dIx (eVar 0) (eVar 1)))
  (bT 4 (eVar 1) (eOp dIx (eVar 0) (eOp dSub (eVar 1) (eC (.int 1))))))
   (sIf (tOf (eOp dLt (eVar 2) (eC (.int 3))))
   (gu 4 (eOp dAdd (eVar 1) (eOp dMod (eVar 2) (eC (.int 2)))) (eTup (ab (eVar 5) (ab (eOp dAdd (eVar 6) (eVar 2)) aNil))))
   (sIf (tOf (eOp dLt (eVar 2) (eC (.int 7))))
   (bT 4 (eVar 1) (eTup (ab (eVar 5) (ab (eOp dIx (eLst (ab (eC (.int 0)) (ab (eC (.bl true)) (ab (eC .non) (ab (eC (.str "1")) aNil))))) (eOp dSub (eVar 2) (eC (.int 3)))) aNil))))
   (sIf (tOf (eOp dLt (eVar 2) (eC (.int 11))))
   (bT 4 (eVar 1) (eTup (ab (af M_w_row_spoiled (ab (eVar 5) (ab (eOp dSub (eVar 2) (eC (.int 7))) (ab (eVar 3) aNil)))) (ab (eVar 6) aNil))))
   (sIf (tOf (eOp dEq (eVar 2) (eC (.int 11))))
   (bT 4 (eVar 1) (eTup (ab (eVar 5) (ab (eVar 6) (ab (eVar 6) aNil)))))
   (sIf (tOf (eOp dEq (eVar 2) (eC (.int 12))))
   (bT 4 (eVar 1) (eLst (ab (eVar 5) (ab (eVar 6) aNil))))
   (sIf (tOf (eOp dEq (eVar 2) (eC (.int 13))))
   (bT 4 (eVar 1) (eVar 5))
   (sRet (eOp dIx (eLst (ab (iU 4) (ab (eC .non) (ab (eVar 6) (ab (af fStr (ab (eVar 6) aNil)) (ab (gr (eVar 5) (eVar 6)) aNil)))))) (eOp dMod (eOp dAdd (eVar 2) (eVar 1)) (eC (.int 5))))))))))))
  (sRet (eVar 4))))))
noncomputable def M_w_spoiled:List Dv->Option Dv:=aL 7 4 cO
noncomputable def eD:SM:=
 (sSeq (sIf (tor (tnot (tOf (eIsi "tuple" (eVar 0)))) (tOf (eOp dNe (af fLen (ab (eVar 0) aNil)) (eC (.int 2)))))
   (sRet (eC (.bl false)))
   aO)
  (sRet (eImm (eAnd (af bE (ab (eOp dIx (eVar 0) (eC (.int 0))) (ab (eVar 1) aNil))) (eAnd (af dE (ab (eOp dIx (eVar 0) (eC (.int 1))) aNil)) (eOp dNeY (eOp dIx (eVar 0) (eC (.int 1))) (eC (.int 0))))))))
noncomputable def M_is_entry:List Dv->Option Dv:=aL 2 2 eD
noncomputable def i3:EM:=
 (af cN (ab (af bK (ab (af fLen (ab (eVar 1) aNil)) (ab (eVar 0) aNil))) aNil))
noncomputable def i4:SM:=
 (sSeq (sSet 6 (af bK (ab (eOp dIx (eVar 0) (eVar 5)) (ab (eVar 5) aNil))))
  (sPut 4 (af dF (ab (eVar 6) (ab (eVar 1) (ab (eVar 2) (ab (eVar 3) aNil))))) (af dg (ab (eOp dDiv (eVar 6) (eC (.int 11))) aNil))))
noncomputable def i5:EM:=
 (eTup (ab (eVar 0) (ab (eImm (eOp dGet (eVar 1) (eVar 0))) aNil)))
noncomputable def mN:SM:=
 (sSeq (sSet 3 (bC [none,some 0] (iR1 (eVar 1)) (gN 0) tyes i3))
  (sSeq (sSet 4 (eC (.dic [])))
  (sSeq (sFor (iR1 (af fLen (ab (eVar 0) aNil))) (gN 5) i4)
  (sRet (bC [none,some 4] (iL (af fb (ab (eVar 4) aNil))) (gN 0) tyes i5)))))
noncomputable def fq:List Dv->Option Dv:=aL 7 3 mN
noncomputable def dh:EM:=
 (af M_is_entry (ab (eVar 0) (ab (eVar 1) aNil)))
noncomputable def fu:EM:=
 (eOp dIx (eVar 0) (eC (.int 0)))
noncomputable def di:SM:=
 (sSeq (sIf (tnot (tOf (eIsi "list" (eVar 0))))
   (sRet (eC (.bl false)))
   aO)
  (sSeq (sIf (tnot (tOf (af fAll (ab (bC [none,some 1] (iL (eVar 0)) (gN 0) tyes dh) aNil))))
   (sRet (eC (.bl false)))
   aO)
  (sRet (af fj (ab (fh [none] (iL (eVar 0)) (gN 0) tyes fu) aNil)))))
noncomputable def aJ:List Dv->Option Dv:=aL 2 2 di
noncomputable def gB:SM:=
 (sSeq (sIf (tnot (tOf (af bL (ab (af aJ (ab (af bH (ab (eVar 3) aNil)) (ab (eVar 4) aNil))) (ab (eOr (eOp dEq (eVar 4) (eVar 2)) (eOp dEq (eVar 3) (dt aNil))) aNil)))))
   (sRet (eC (.bl false)))
   aO)
  (sIf (tnot (tOf (af bL (ab (af aJ (ab (dt aNil) (ab (eVar 4) aNil))) (ab (eC (.bl true)) aNil)))))
   (sRet (eC (.bl false)))
   aO))
noncomputable def fv:SM:=
 (sSeq (sSet 6 (af bK (ab (eOp dIx (eVar 1) (eVar 5)) (ab (eOp dAdd (eVar 5) (eC (.int 70))) aNil))))
  (sSeq (sSet 7 (eOp dMod (eVar 6) (af fLen (ab (eVar 3) aNil))))
  (sSeq (sIf (tOf (eOp dEq (eOp dMod (eVar 5) (eC (.int 9))) (eC (.int 0))))
   (sIf (tor (tnot (tOf (af bL (ab (af aJ (ab (eSl (eVar 3) (aV (eVar 7)) bo) (ab (eVar 2) aNil))) (ab (eC (.bl true)) aNil))))) (tnot (tOf (af bL (ab (af aJ (ab (eSl (eVar 3) bo (aV (eVar 7))) (ab (eVar 2) aNil))) (ab (eC (.bl true)) aNil))))))
   (sRet (eC (.bl false)))
   aO)
   aO)
  (sSeq (sSet 8 (eSl (eVar 3) (aV (af gt (ab (eC (.int 0)) (ab (eOp dSub (eVar 7) (eC (.int 2))) aNil)))) (aV (eOp dAdd (eVar 7) (eC (.int 3))))))
  (sSeq (sSet 9 (af gs (ab (eVar 7) (ab (eC (.int 2)) aNil))))
  (sSeq (sIf (tOf (eOp dEq (eOp dMod (eOp dDiv (eVar 6) (eC (.int 2048))) (eC (.int 16))) (eC (.int 0))))
   (sSeq (sSet 8 (eVar 3))
  (sSet 9 (eVar 7)))
   aO)
  (sSeq (sSet 10 (eOp dMod (eOp dDiv (eVar 6) (eC (.int 64))) (eC (.int 19))))
  (sSeq (sSet 11 (af M_w_spoiled (ab (eVar 8) (ab (eVar 9) (ab (eVar 10) (ab (eOp dDiv (eVar 6) (eC (.int 40000))) aNil))))))
  (sIf (tor (tnot (tOf (af bL (ab (af aJ (ab (eVar 11) (ab (eVar 2) aNil))) (ab (eC (.bl false)) aNil))))) (tOf (eOp dNeY (eVar 11) (af M_w_spoiled (ab (eVar 8) (ab (eVar 9) (ab (eVar 10) (ab (eOp dDiv (eVar 6) (eC (.int 40000))) aNil))))))))
   (sRet (eC (.bl false)))
   aO)))))))))
noncomputable def mO:SM:=
 (sSeq (sSet 1 (af bH (ab (eSl (eVar 0) bo (aV (eC (.int 63)))) aNil)))
  (sSeq (sSet 2 (eOp dAdd (eC (.int 1)) (eOp dMod (af bK (ab (af fSum (ab (eVar 1) aNil)) (ab (eC (.int 1)) aNil))) (eC (.int 8)))))
  (sSeq (sSet 3 (af fq (ab (eVar 1) (ab (eVar 2) (ab (eOp dMod (af bK (ab (af fSum (ab (eVar 1) aNil)) (ab (eC (.int 2)) aNil))) (eC (.int 3))) aNil)))))
  (sSeq (sFor (iR2 (eC (.int 1)) (eC (.int 9))) (gN 4) gB)
  (sSeq (sFor (iR1 (af fLen (ab (eVar 1) aNil))) (gN 5) fv)
  (sRet (eC (.bl true))))))))
noncomputable def eE:List Dv->Option Dv:=aL 12 1 mO
section
variable {P:Program}{w:World}{K:PySem.W.Frag}{mg:Str->Option Value}{base:Heap}
theorem wJ {f:Addr}{fd:FuncData}{t_WIDEST:Tok} (F:Fun K "is_whole" "is_whole" d4 f fd) (B:Blt mg) (G_WIDEST:mg "WIDEST"=some (.int 8 t_WIDEST)):
  FnOk P w K mg base CX0 1 f fd ["thing"] (spD K .imm dE):=
 bD (rk:= .imm) (k:=0) [] F wD rfl rfl fun cdv A outer s H E hr=>
   (al (aE (eR (fJ (dR "int" (aa 0 rfl (pv 0)) rfl B.isinstance_ rfl B.int_ ki) (fI (qB (dR "bool" (aa 0 rfl (pv 0)) rfl B.isinstance_ rfl B.bool_ kh))))) (Kd.le.refl _) am))
theorem wK {f:Addr}{fd:FuncData}{t_WIDEST:Tok} (F:Fun K "is_rising" "is_rising" d5 f fd) (B:Blt mg) (G_WIDEST:mg "WIDEST"=some (.int 8 t_WIDEST)):
  FnOk P w K mg base CX0 1 f fd ["rows"] (spD K .imm fj):=
 bD (rk:= .imm) (k:=0) [] F wE rfl rfl fun cdv A outer s H E hr=>
   (al (aE (aZ (k1:= .bor) (ie rfl) ig rfl B.all_ gX (ad (PD.le (dw ["k","rows"] [none,some 0] [] (hc:=rfl) (hi:=(du rfl B.range_ (ah bU cf (aZ (k1:= .bor) bV cg rfl B.len_ bX (ad (PD.le (aa 0 rfl (pv 0)) (Kd.le.bor _)) ag)) ae))) (hg:=fun _ _ _ _=>(bI rfl (bF (i:=0) (show (["k","rows"]:List Str).Nodup by decide+kernel) rfl (Or.inl rfl)))) (ht:=fun _ _ _ _=>cK) (he:=fun _ _ _ _=>(dO (o5 hr.units0) vB (aY (aa 1 rfl (pv 1)) (aa 0 rfl (pv 0)) (fun _ _=>rfl)) (aY (aa 1 rfl (pv 1)) (ah bq bu (aa 0 rfl (pv 0)) ae) (fun _ _=>rfl)) (aA _))) (hz:=(cJ 0)) (ck:=rfl) (hp:=rfl) (hz':=rfl)) (Kd.le.bor _)) ag)) (Kd.le.refl _) am))
theorem wL {f:Addr}{fd:FuncData}{t_WIDEST:Tok} (F:Fun K "_law_mixed" "_law_mixed" d6 f fd) (B:Blt mg) (G_WIDEST:mg "WIDEST"=some (.int 8 t_WIDEST)):
  FnOk P w K mg base CX0 1 f fd ["_law_cell","_law_k"] (spD K .imm bK):=
 bD (rk:= .imm) (k:=0) [] F mE rfl rfl fun cdv A outer s H E hr=>
   (ar (aU (i:=2) rfl (PD.le (ah aP aS (ah cq cr (ah bq bu (ah bq bu (aa 0 rfl (pv 0)) (aa 1 rfl (pv 1))) ae) (ah bq bu ae (ah cq cr (ah cq cr ae (aa 1 rfl (pv 1))) (aa 1 rfl (pv 1))))) ae) Kd.le.imm_any) (Kd.le.refl _) mE.nd rfl (Or.inl rfl))
   (al (aE (ah aP aS (ah cq cr (aa 2 rfl (pv 2)) (aa 2 rfl (pv 2))) ae) (Kd.le.refl _) am)))
theorem wM {f:Addr}{fd:FuncData}{t_WIDEST:Tok} (F:Fun K "_law_number" "_law_number" d7 f fd) (B:Blt mg) (G_WIDEST:mg "WIDEST"=some (.int 8 t_WIDEST)):
  FnOk P w K mg base CX0 1 f fd ["_law_cell"] (spD K .imm cN):=
 bD (rk:= .imm) (k:=0) [] F mF rfl rfl fun cdv A outer s H E hr=>
   (ar (aU (i:=1) rfl (PD.le (aY (hX (k:= .bor) (ad (PD.le ae (Kd.le.bor _)) (ad (PD.le ae (Kd.le.bor _)) (ad (PD.le ae (Kd.le.bor _)) (ad (PD.le (ah eO eS ae ae) (Kd.le.bor _)) (ad (PD.le (ah eO eS ae ae) (Kd.le.bor _)) (ad (PD.le (ah cq cr (ah cq cr (ah eO eS ae ae) (ah eO eS ae ae)) (ah eO eS ae ae)) (Kd.le.bor _)) ag))))))) (ah aP aS (ah cS cU (aa 0 rfl (pv 0)) ae) ae) (fun _ _=>rfl)) Kd.le.imm_any) (Kd.le.refl _) mF.nd rfl (Or.inl rfl))
   (al (aE (ah bq bu (ah cq cr (ah bU cf (ah aP aS (aa 0 rfl (pv 0)) ae) ae) (aa 1 rfl (pv 1))) (ah aP aS (ah aP aS (aa 0 rfl (pv 0)) ae) ae)) (Kd.le.refl _) am)))
theorem wN {f:Addr}{fd:FuncData}{t_WIDEST:Tok} (F:Fun K "_law_row_spoiled" "_law_row_spoiled" d8 f fd) (B:Blt mg) (G_WIDEST:mg "WIDEST"=some (.int 8 t_WIDEST)):
  FnOk P w K mg base CX0 1 f fd ["_law_row_here","_law_way","_law_cell"] (spD K .frh M_w_row_spoiled):=
 bD (rk:= .frh) (k:=0) [] F mG rfl rfl fun cdv A outer s H E hr=>
   (ar (aI (aR (be hr.units) bh (aa 1 rfl (pv 1)) ae (aA _))
    (al (aE (PD.le (cH (k1:= .bor) fA fN rfl B.list_ eP (ad (PD.le (aa 0 rfl (pv 0)) (Kd.le.bor _)) ag)) Kd.le.one_frh) (Kd.le.refl _) eV))
    bc)
   (ar (aI (aR (be hr.units) bh (aa 1 rfl (pv 1)) ae (aA _))
    (al (aE (PD.le (iP (aa 0 rfl (pv 0)) (cV (ad ae ag) (.inl rfl))) Kd.le.imm_frh) (Kd.le.refl _) eV))
    bc)
   (ar (aI (aR (be hr.units) bh (aa 1 rfl (pv 1)) ae (aA _))
    (al (aE (PD.le (iQ (aa 0 rfl (pv 0)) (cW ae) dP) Kd.le.imm_frh) (Kd.le.refl _) eV))
    bc)
   (ar (aU (i:=3) rfl (PD.le (ah aP aS (aa 2 rfl (pv 2)) (aZ (k1:= .bor) bV cg rfl B.len_ bX (ad (PD.le (aa 0 rfl (pv 0)) (Kd.le.bor _)) ag))) Kd.le.imm_any) (Kd.le.refl _) mG.nd rfl (Or.inl rfl))
   (al (aE (PD.le (iP (iP (iQ (aa 0 rfl (pv 0)) dP (cW (aa 3 rfl (pv 3)))) (cV (ad (aY (fL (ad (PD.le bg Kd.le.imm_any) (ad (PD.le bg Kd.le.imm_any) (ad (PD.le hE Kd.le.imm_any) (ad (PD.le kB Kd.le.imm_any) (ad (PD.le (cV (ad ae ag) (.inl rfl)) Kd.le.imm_any) ag)))))) (ah aP aS (ah cS cU (aa 2 rfl (pv 2)) ae) ae) (fun _ _=>rfl)) ag) (.inr (.inr (.inl rfl))))) (iQ (aa 0 rfl (pv 0)) (cW (ah bq bu (aa 3 rfl (pv 3)) ae)) dP)) Kd.le.imm_frh) (Kd.le.refl _) eV))))))
theorem wO {f:Addr}{fd:FuncData}{t_WIDEST:Tok} (F:Fun K "_law_said" "_law_said" d9 f fd) (B:Blt mg) (G_WIDEST:mg "WIDEST"=some (.int 8 t_WIDEST)):
  FnOk P w K mg base CX0 1 f fd ["_law_found","_law_due"] (spD K .imm bL):=
 bD (rk:= .imm) (k:=0) [] F wF rfl rfl fun cdv A outer s H E hr=>
   (al (aE (eR (fJ (dR "bool" (aa 0 rfl (pv 0)) rfl B.isinstance_ rfl B.bool_ kh) (fI (dO (be hr.units) bh (aa 0 rfl (pv 0)) (aa 1 rfl (pv 1)) (aA _))))) (Kd.le.refl _) am))
theorem wQ {f:Addr}{fd:FuncData}{t_WIDEST:Tok} (F:Fun K "is_row" "is_row" ee f fd) (B:Blt mg) (G_WIDEST:mg "WIDEST"=some (.int 8 t_WIDEST)) (D_is_whole:Def P w K mg base 1 "is_whole" ["thing"] (spD K .imm dE)):
  FnOk P w K mg base CX0 2 f fd ["thing","width"] (spD K .imm bE):=
 bD (rk:= .imm) (k:=1) [] F wG rfl rfl fun cdv A outer s H E hr=>
   (ar (aI (cw (cu (dR "tuple" (aa 0 rfl (pv 0)) rfl B.isinstance_ rfl B.tuple_ dM)))
    (al (aE bg (Kd.le.refl _) am))
    bc)
   (ar (aI (PDw.pt (eT (aR (g7 hr.units) hU (aZ (k1:= .bor) bV cg rfl B.len_ bX (ad (PD.le (aa 0 rfl (pv 0)) (Kd.le.bor _)) ag)) (aa 1 rfl (pv 1)) (aA _)) (eT (aR fz fH (aZ (k1:= .bor) bV cg rfl B.len_ bX (ad (PD.le (aa 0 rfl (pv 0)) (Kd.le.bor _)) ag)) ae (aA _)) (fK (aR ju kD (aZ (k1:= .bor) bV cg rfl B.len_ bX (ad (PD.le (aa 0 rfl (pv 0)) (Kd.le.bor _)) ag)) (PE.pd_c (nC (v:= .int 8) rfl G_WIDEST ⟨_,rfl⟩) fun _=> .int _) (aA _))))))
    (al (aE bg (Kd.le.refl _) am))
    bc)
   (al (aE (aZ (k1:= .bor) (ie rfl) ig rfl B.all_ gX (ad (PD.le (dw ["number"] [none] [] (hc:=rfl) (hi:=(qJ (aa 0 rfl (pv 0)))) (hg:=fun _ _ _ _=>(bI rfl (bF (i:=0) (show (["number"]:List Str).Nodup by decide+kernel) rfl (Or.inl rfl)))) (ht:=fun _ _ _ _=>cK) (he:=fun _ _ _ _=>(aB (k1:= .bor) D_is_whole (hr.mono (by decide)) am (ad (PD.le (aa 0 rfl (pv 0)) (Kd.le.bor _)) ag))) (hz:=(cJ 0)) (ck:=rfl) (hp:=rfl) (hz':=rfl)) (Kd.le.bor _)) ag)) (Kd.le.refl _) am))))
theorem wR {f:Addr}{fd:FuncData}{t_WIDEST:Tok} (F:Fun K "_law_row" "_law_row" eg f fd) (B:Blt mg) (G_WIDEST:mg "WIDEST"=some (.int 8 t_WIDEST)) (D_w_number:Def P w K mg base 1 "_law_number" ["_law_cell"] (spD K .imm cN)) (D_w_mixed:Def P w K mg base 1 "_law_mixed" ["_law_cell","_law_k"] (spD K .imm bK)):
  FnOk P w K mg base CX0 2 f fd ["_law_cell","_law_width","_law_way","_law_base"] (spD K .imm dF):=
 bD (rk:= .imm) (k:=1) [] F mH rfl rfl fun cdv A outer s H E hr=>
   (ar (aI (aR (be hr.units) bh (aa 2 rfl (pv 2)) ae (aA _))
    (al (aE (cH (k1:= .bor) fB hZ rfl B.tuple_ dM (ad (PD.le (dw ["_law_j","_law_cell"] [none,some 0] [] (hc:=rfl) (hi:=(du rfl B.range_ (aa 1 rfl (pv 1)))) (hg:=fun _ _ _ _=>(bI rfl (bF (i:=0) (show (["_law_j","_law_cell"]:List Str).Nodup by decide+kernel) rfl (Or.inl rfl)))) (ht:=fun _ _ _ _=>cK) (he:=fun _ _ _ _=>(ah bU cf (ah aP aS (ah cq cr (ah aP aS (aa 1 rfl (pv 1)) ae) (ah bq bu (aa 0 rfl (pv 0)) ae)) ae) ae)) (hz:=(cJ 0)) (ck:=rfl) (hp:=rfl) (hz':=rfl)) (Kd.le.bor _)) ag)) (Kd.le.refl _) am))
    bc)
   (ar (aI (aR (be hr.units) bh (aa 2 rfl (pv 2)) ae (aA _))
    (ar (aU (i:=4) rfl (PD.le (ah aP aS (aa 0 rfl (pv 0)) (aa 1 rfl (pv 1))) Kd.le.imm_any) (Kd.le.refl _) mH.nd rfl (Or.inr rfl))
   (al (aE (cH (k1:= .bor) fB hZ rfl B.tuple_ dM (ad (PD.le (dw ["_law_j","_law_base","_law_cell","_law_place"] [none,some 3,some 0,some 4] [] (hc:=rfl) (hi:=(du rfl B.range_ (aa 1 rfl (pv 1)))) (hg:=fun _ _ _ _=>(bI rfl (bF (i:=0) (show (["_law_j","_law_base","_law_cell","_law_place"]:List Str).Nodup by decide+kernel) rfl (Or.inl rfl)))) (ht:=fun _ _ _ _=>cK) (he:=fun _ _ _ _=>(ah bq bu (aY (aa 1 rfl (pv 1)) (aa 0 rfl (pv 0)) (fun _ _=>rfl)) (ah cq cr (ah bU cf (ah aP aS (ah cS cU (aa 2 rfl (pv 2)) ae) ae) ae) (cH (k1:= .bor) oC qY rfl B.int_ ki (ad (PD.le (dO (be hr.units) bh (aa 0 rfl (pv 0)) (aa 3 rfl (pv 3)) (aA _)) (Kd.le.bor _)) ag))))) (hz:=(cJ 0)) (ck:=rfl) (hp:=rfl) (hz':=rfl)) (Kd.le.bor _)) ag)) (Kd.le.refl _) am)))
    bc)
   (al (aE (cH (k1:= .bor) fB hZ rfl B.tuple_ dM (ad (PD.le (dw ["_law_j","_law_cell"] [none,some 0] [] (hc:=rfl) (hi:=(du rfl B.range_ (aa 1 rfl (pv 1)))) (hg:=fun _ _ _ _=>(bI rfl (bF (i:=0) (show (["_law_j","_law_cell"]:List Str).Nodup by decide+kernel) rfl (Or.inl rfl)))) (ht:=fun _ _ _ _=>cK) (he:=fun _ _ _ _=>(aB (k1:= .bor) D_w_number (hr.mono (by decide)) am (ad (PD.le (aB (k1:= .bor) D_w_mixed (hr.mono (by decide)) am (ad (PD.le (aa 1 rfl (pv 1)) (Kd.le.bor _)) (ad (PD.le (aa 0 rfl (pv 0)) (Kd.le.bor _)) ag))) (Kd.le.bor _)) ag))) (hz:=(cJ 0)) (ck:=rfl) (hp:=rfl) (hz':=rfl)) (Kd.le.bor _)) ag)) (Kd.le.refl _) am))))
theorem wS {f:Addr}{fd:FuncData}{t_WIDEST:Tok} (F:Fun K "_law_weight" "_law_weight" ej f fd) (B:Blt mg) (G_WIDEST:mg "WIDEST"=some (.int 8 t_WIDEST)) (D_w_number:Def P w K mg base 1 "_law_number" ["_law_cell"] (spD K .imm cN)):
  FnOk P w K mg base CX0 2 f fd ["_law_cell"] (spD K .imm dg):=
 bD (rk:= .imm) (k:=1) [] F gv rfl rfl fun cdv A outer s H E hr=>
   (ar (aU (i:=1) rfl (PD.le (ah bU cf (ah aP aS (aa 0 rfl (pv 0)) ae) ae) Kd.le.imm_any) (Kd.le.refl _) gv.nd rfl (Or.inl rfl))
   (ar (aI (aR (be hr.units) bh (ah aP aS (aa 0 rfl (pv 0)) ae) ae (aA _))
    (al (aU (i:=1) rfl (PD.le (aB (k1:= .bor) D_w_number (hr.mono (by decide)) am (ad (PD.le (aa 0 rfl (pv 0)) (Kd.le.bor _)) ag)) Kd.le.imm_any) (Kd.le.refl _) gv.nd rfl (Or.inl rfl)))
    bc)
   (ar (aI (aR (be hr.units) bh (aa 1 rfl (pv 1)) ae (aA _))
    (al (aU (i:=1) rfl (PD.le ae Kd.le.imm_any) (Kd.le.refl _) gv.nd rfl (Or.inl rfl)))
    bc)
   (al (aE (eR (aa 1 rfl (pv 1))) (Kd.le.refl _) am)))))
theorem wT {f:Addr}{fd:FuncData}{t_WIDEST:Tok} (F:Fun K "_law_spoiled" "_law_spoiled" em f fd) (B:Blt mg) (G_WIDEST:mg "WIDEST"=some (.int 8 t_WIDEST)) (D_w_row_spoiled:Def P w K mg base 1 "_law_row_spoiled" ["_law_row_here","_law_way","_law_cell"] (spD K .frh M_w_row_spoiled)):
  FnOk P w K mg base CX0 2 f fd ["_law_heap","_law_at","_law_way","_law_cell"] (spA K M_w_spoiled):=
 vY (k:=1) [2004] F gw rfl rfl fun cdv A outer s H E hr=>
   (ar (wg (i:=4) rfl (cH (k1:= .bor) fA fN rfl B.list_ eP (ad (PD.le (aa 0 rfl (pv 0)) (Kd.le.bor _)) ag)) gw.nd rfl (Or.inl rfl))
   (ar (aU (i:=5) rfl (aY (aY (aa 0 rfl (pv 0)) (aa 1 rfl (pv 1)) (fun _ _=>rfl)) ae (fun _ _=>rfl)) (Kd.le.refl _) gw.nd rfl (Or.inl rfl))
   (ar (aU (i:=6) rfl (aY (aY (aa 0 rfl (pv 0)) (aa 1 rfl (pv 1)) (fun _ _=>rfl)) ae (fun _ _=>rfl)) (Kd.le.refl _) gw.nd rfl (Or.inl rfl))
   (ar (aI (PDw.pt (qE (aR (be hr.units) bh (aa 2 rfl (pv 2)) ae (aA _)) (qD (aR ju kD (aa 1 rfl (pv 1)) ae (aA _)))))
    (ar (dD rfl (pv 4) (ah bU cf (aa 1 rfl (pv 1)) ae) (aY (aa 0 rfl (pv 0)) (aa 1 rfl (pv 1)) (fun _ _=>rfl)))
   (al (dD rfl (pv 4) (aa 1 rfl (pv 1)) (aY (aa 0 rfl (pv 0)) (ah bU cf (aa 1 rfl (pv 1)) ae) (fun _ _=>rfl)))))
    (al (aI (aR fz fH (aa 2 rfl (pv 2)) ae (aA _))
    (al (wC rfl (pv 4) (ah bq bu (aa 1 rfl (pv 1)) (ah aP aS (aa 2 rfl (pv 2)) ae)) (cV (ad (aa 5 rfl (pv 5)) (ad (PD.le (ah bq bu (aa 6 rfl (pv 6)) (aa 2 rfl (pv 2))) Kd.le.imm_any) ag)) (.inr (.inr (.inl rfl))))))
    (al (aI (aR fz fH (aa 2 rfl (pv 2)) ae (aA _))
    (al (dD rfl (pv 4) (aa 1 rfl (pv 1)) (cV (ad (aa 5 rfl (pv 5)) (ad (aY (fL (ad (PD.le ae Kd.le.imm_any) (ad (PD.le bg Kd.le.imm_any) (ad (PD.le hE Kd.le.imm_any) (ad (PD.le kB Kd.le.imm_any) ag))))) (ah bU cf (aa 2 rfl (pv 2)) ae) (fun _ _=>rfl)) ag)) (.inr (.inr (.inl rfl))))))
    (al (aI (aR fz fH (aa 2 rfl (pv 2)) ae (aA _))
    (al (dD rfl (pv 4) (aa 1 rfl (pv 1)) (cV (ad (PD.le (aB (k1:= .bor) D_w_row_spoiled (hr.mono (by decide)) eV (ad (PD.le (aa 5 rfl (pv 5)) (Kd.le.bor _)) (ad (PD.le (ah bU cf (aa 2 rfl (pv 2)) ae) (Kd.le.bor _)) (ad (PD.le (aa 3 rfl (pv 3)) (Kd.le.bor _)) ag)))) Kd.le.frh_any) (ad (aa 6 rfl (pv 6)) ag)) (.inr (.inr (.inl rfl))))))
    (al (aI (aR (be hr.units) bh (aa 2 rfl (pv 2)) ae (aA _))
    (al (dD rfl (pv 4) (aa 1 rfl (pv 1)) (cV (ad (aa 5 rfl (pv 5)) (ad (aa 6 rfl (pv 6)) (ad (aa 6 rfl (pv 6)) ag))) (.inr (.inr (.inl rfl))))))
    (al (aI (aR (be hr.units) bh (aa 2 rfl (pv 2)) ae (aA _))
    (al (dD rfl (pv 4) (aa 1 rfl (pv 1)) (fL (ad (aa 5 rfl (pv 5)) (ad (aa 6 rfl (pv 6)) ag)))))
    (al (aI (aR (be hr.units) bh (aa 2 rfl (pv 2)) ae (aA _))
    (al (dD rfl (pv 4) (aa 1 rfl (pv 1)) (aa 5 rfl (pv 5))))
    (al (kK (aY (fL (ad (wk rfl (pv 4) rfl B.tuple_) (ad (PD.le hE Kd.le.imm_any) (ad (aa 6 rfl (pv 6)) (ad (PD.le (cH (k1:= .bor) oD qZ rfl B.str_ qw (ad (PD.le (aa 6 rfl (pv 6)) (Kd.le.bor _)) ag)) Kd.le.imm_any) (ad (PD.le (wt (gU hr) (aa 5 rfl (pv 5)) (aa 6 rfl (pv 6))) Kd.le.one_any) ag)))))) (ah aP aS (ah bq bu (aa 2 rfl (pv 2)) (aa 1 rfl (pv 1))) ae) (fun _ _=>rfl)) (Kd.le.refl _))))))))))))))))
   (al (wj 4 rfl (pv 4)))))))
theorem wU {f:Addr}{fd:FuncData}{t_WIDEST:Tok} (F:Fun K "is_entry" "is_entry" eu f fd) (B:Blt mg) (G_WIDEST:mg "WIDEST"=some (.int 8 t_WIDEST)) (D_is_row:Def P w K mg base 2 "is_row" ["thing","width"] (spD K .imm bE)) (D_is_whole:Def P w K mg base 1 "is_whole" ["thing"] (spD K .imm dE)):
  FnOk P w K mg base CX0 3 f fd ["thing","width"] (spD K .imm M_is_entry):=
 bD (rk:= .imm) (k:=2) [] F wH rfl rfl fun cdv A outer s H E hr=>
   (ar (aI (PDw.pt (eT (cw (cu (dR "tuple" (aa 0 rfl (pv 0)) rfl B.isinstance_ rfl B.tuple_ dM))) (fK (aR (g7 hr.units) hU (aZ (k1:= .bor) bV cg rfl B.len_ bX (ad (PD.le (aa 0 rfl (pv 0)) (Kd.le.bor _)) ag)) ae (aA _)))))
    (al (aE bg (Kd.le.refl _) am))
    bc)
   (al (aE (eR (fJ (aB (k1:= .bor) D_is_row (hr.mono (by decide)) am (ad (PD.le (aY (aa 0 rfl (pv 0)) ae (fun _ _=>rfl)) (Kd.le.bor _)) (ad (PD.le (aa 1 rfl (pv 1)) (Kd.le.bor _)) ag))) (fJ (aB (k1:= .bor) D_is_whole (hr.mono (by decide)) am (ad (PD.le (aY (aa 0 rfl (pv 0)) ae (fun _ _=>rfl)) (Kd.le.bor _)) ag)) (fI (dO (mz hr.units) mC (aY (aa 0 rfl (pv 0)) ae (fun _ _=>rfl)) ae (aA _)))))) (Kd.le.refl _) am)))
theorem wV {f:Addr}{fd:FuncData}{t_WIDEST:Tok} (F:Fun K "_law_heap_by" "_law_heap_by" eA f fd) (B:Blt mg) (G_WIDEST:mg "WIDEST"=some (.int 8 t_WIDEST)) (D_w_number:Def P w K mg base 1 "_law_number" ["_law_cell"] (spD K .imm cN)) (D_w_mixed:Def P w K mg base 1 "_law_mixed" ["_law_cell","_law_k"] (spD K .imm bK)) (D_w_row:Def P w K mg base 2 "_law_row" ["_law_cell","_law_width","_law_way","_law_base"] (spD K .imm dF)) (D_w_weight:Def P w K mg base 2 "_law_weight" ["_law_cell"] (spD K .imm dg)):
  FnOk P w K mg base CX0 3 f fd ["_law_script","_law_width","_law_way"] (spD K .one fq):=
 bD (rk:= .one) (k:=2) [4] F fi rfl rfl fun cdv A outer s H E hr=>
   (ar (qR (i:=3) (hi':=rfl) (hN:=fi.nd) (hx:=rfl) (hl:=Or.inl rfl) ["_law_j","_law_script"] [none,some 0] [] (hc:=rfl) (hi:=(du rfl B.range_ (aa 1 rfl (pv 1)))) (hg:=fun _ _ _ _=>(bI rfl (bF (i:=0) (show (["_law_j","_law_script"]:List Str).Nodup by decide+kernel) rfl (Or.inl rfl)))) (ht:=fun _ _ _ _=>cK) (he:=fun _ _ _ _=>(aB (k1:= .bor) D_w_number (hr.mono (by decide)) am (ad (PD.le (aB (k1:= .bor) D_w_mixed (hr.mono (by decide)) am (ad (PD.le (aZ (k1:= .bor) bV cg rfl B.len_ bX (ad (PD.le (aa 1 rfl (pv 1)) (Kd.le.bor _)) ag)) (Kd.le.bor _)) (ad (PD.le (aa 0 rfl (pv 0)) (Kd.le.bor _)) ag))) (Kd.le.bor _)) ag))) (hz:=(cJ 0)) (ck:=rfl) (hp:=rfl) (hz':=rfl))
   (ar (qQ (i:=4) rfl uV fi.nd rfl (Or.inr rfl))
   (ar (ic PassesOwn.never rfl (du rfl B.range_ (aZ (k1:= .bor) bV cg rfl B.len_ bX (ad (PD.le (aa 0 rfl (pv 0)) (Kd.le.bor _)) ag))) (bI rfl (bF (i:=5) fi.nd rfl (Or.inl rfl)))
   (ar (aU (i:=6) rfl (PD.le (aB (k1:= .bor) D_w_mixed (hr.mono (by decide)) am (ad (PD.le (aY (aa 0 rfl (pv 0)) (aa 5 rfl (pv 5)) (fun _ _=>rfl)) (Kd.le.bor _)) (ad (PD.le (aa 5 rfl (pv 5)) (Kd.le.bor _)) ag))) Kd.le.imm_any) (Kd.le.refl _) fi.nd rfl (Or.inl rfl))
   (al (uW (gU hr) rfl (pv 4) (aB (k1:= .bor) D_w_row (hr.mono (by decide)) am (ad (PD.le (aa 6 rfl (pv 6)) (Kd.le.bor _)) (ad (PD.le (aa 1 rfl (pv 1)) (Kd.le.bor _)) (ad (PD.le (aa 2 rfl (pv 2)) (Kd.le.bor _)) (ad (PD.le (aa 3 rfl (pv 3)) (Kd.le.bor _)) ag))))) (aB (k1:= .bor) D_w_weight (hr.mono (by decide)) am (ad (PD.le (ah cS cU (aa 6 rfl (pv 6)) ae) (Kd.le.bor _)) ag)) rfl))))
   (al (aE (dw ["_law_row_here","_law_weights"] [none,some 4] [1] (hc:=rfl) (hi:=(h7 (PD.le (aZ (k1:= .bor) (uQ rfl) uS rfl B.sorted_ qu (ad (kC 4 (pv 4)) ag)) Kd.le.one_any))) (hg:=fun _ _ _ _=>(bI rfl (bF (i:=0) (show (["_law_row_here","_law_weights"]:List Str).Nodup by decide+kernel) rfl (Or.inl rfl)))) (ht:=fun _ _ _ _=>cK) (he:=fun _ _ _ _=>(cV (ad (aa 0 rfl (pv 0)) (ad (PD.le (eR (uU (gU hr) (kC 1 (pv 1)) (aa 0 rfl (pv 0)) (fun _ _=>rfl))) Kd.le.imm_any) ag)) (.inr (.inr (.inl rfl))))) (hz:=(cJ 0)) (ck:=rfl) (hp:=rfl) (hz':=rfl)) (Kd.le.refl _) kW)))))
theorem wW {f:Addr}{fd:FuncData}{t_WIDEST:Tok} (F:Fun K "is_heap" "is_heap" eB f fd) (B:Blt mg) (G_WIDEST:mg "WIDEST"=some (.int 8 t_WIDEST)) (D_is_entry:Def P w K mg base 3 "is_entry" ["thing","width"] (spD K .imm M_is_entry)) (D_is_rising:Def P w K mg base 1 "is_rising" ["rows"] (spD K .imm fj)):
  FnOk P w K mg base CX0 4 f fd ["thing","width"] (spD K .imm aJ):=
 bD (rk:= .imm) (k:=3) [] F wI rfl rfl fun cdv A outer s H E hr=>
   (ar (aI (cw (cu (dR "list" (aa 0 rfl (pv 0)) rfl B.isinstance_ rfl B.list_ eP)))
    (al (aE bg (Kd.le.refl _) am))
    bc)
   (ar (aI (cw (cu (aZ (k1:= .bor) (ie rfl) ig rfl B.all_ gX (ad (PD.le (dw ["entry","width"] [none,some 1] [] (hc:=rfl) (hi:=(h7 (aa 0 rfl (pv 0)))) (hg:=fun _ _ _ _=>(bI rfl (bF (i:=0) (show (["entry","width"]:List Str).Nodup by decide+kernel) rfl (Or.inl rfl)))) (ht:=fun _ _ _ _=>cK) (he:=fun _ _ _ _=>(aB (k1:= .bor) D_is_entry (hr.mono (by decide)) am (ad (PD.le (aa 0 rfl (pv 0)) (Kd.le.bor _)) (ad (PD.le (aa 1 rfl (pv 1)) (Kd.le.bor _)) ag)))) (hz:=(cJ 0)) (ck:=rfl) (hp:=rfl) (hz':=rfl)) (Kd.le.bor _)) ag))))
    (al (aE bg (Kd.le.refl _) am))
    bc)
   (al (aE (aB (k1:= .bor) D_is_rising (hr.mono (by decide)) am (ad (PD.le (wf ["entry"] [none] [] (hc:=rfl) (hi:=(h7 (aa 0 rfl (pv 0)))) (hg:=fun _ _ _ _=>(bI rfl (bF (i:=0) (show (["entry"]:List Str).Nodup by decide+kernel) rfl (Or.inl rfl)))) (ht:=fun _ _ _ _=>cK) (he:=fun _ _ _ _=>(aY (aa 0 rfl (pv 0)) ae (fun _ _=>rfl))) (hz:=(cJ 0)) (ck:=rfl) (hp:=rfl) (hz':=rfl)) (Kd.le.bor _)) ag)) (Kd.le.refl _) am))))
theorem wX {f:Addr}{fd:FuncData}{t_WIDEST:Tok} (F:Fun K "law" "law" cM f fd) (B:Blt mg) (G_WIDEST:mg "WIDEST"=some (.int 8 t_WIDEST)) (D_w_mixed:Def P w K mg base 1 "_law_mixed" ["_law_cell","_law_k"] (spD K .imm bK)) (D_w_heap_by:Def P w K mg base 3 "_law_heap_by" ["_law_script","_law_width","_law_way"] (spD K .one fq)) (D_w_said:Def P w K mg base 1 "_law_said" ["_law_found","_law_due"] (spD K .imm bL)) (D_is_heap:Def P w K mg base 4 "is_heap" ["thing","width"] (spD K .imm aJ)) (D_w_spoiled:Def P w K mg base 2 "_law_spoiled" ["_law_heap","_law_at","_law_way","_law_cell"] (spA K M_w_spoiled)):
  FnOk P w K mg base CX0 5 f fd ["_law_script"] (spD K .imm eE):=
 bD (rk:= .imm) (k:=4) [] F bA rfl rfl fun cdv A outer s H E hr=>
   (ar (aU (i:=1) rfl (PD.le (cH (k1:= .bor) fA fN rfl B.list_ eP (ad (PD.le (fM (aa 0 rfl (pv 0)) dP (cW ae)) (Kd.le.bor _)) ag)) Kd.le.one_any) (Kd.le.refl _) bA.nd rfl (Or.inl rfl))
   (ar (aU (i:=2) rfl (PD.le (ah bq bu ae (ah aP aS (aB (k1:= .bor) D_w_mixed (hr.mono (by decide)) am (ad (PD.le (aZ (k1:= .bor) (kQ rfl) kU rfl B.sum_ kg (ad (PD.le (aa 1 rfl (pv 1)) (Kd.le.bor _)) ag)) (Kd.le.bor _)) (ad (PD.le ae (Kd.le.bor _)) ag))) ae)) Kd.le.imm_any) (Kd.le.refl _) bA.nd rfl (Or.inl rfl))
   (ar (aU (i:=3) rfl (PD.le (aB (k1:= .bor) D_w_heap_by (hr.mono (by decide)) kW (ad (PD.le (aa 1 rfl (pv 1)) (Kd.le.bor _)) (ad (PD.le (aa 2 rfl (pv 2)) (Kd.le.bor _)) (ad (PD.le (ah aP aS (aB (k1:= .bor) D_w_mixed (hr.mono (by decide)) am (ad (PD.le (aZ (k1:= .bor) (kQ rfl) kU rfl B.sum_ kg (ad (PD.le (aa 1 rfl (pv 1)) (Kd.le.bor _)) ag)) (Kd.le.bor _)) (ad (PD.le ae (Kd.le.bor _)) ag))) ae) (Kd.le.bor _)) ag)))) Kd.le.one_any) (Kd.le.refl _) bA.nd rfl (Or.inl rfl))
   (ar (ic PassesOwn.never rfl (qL rfl B.range_ ae ae) (bI rfl (bF (i:=4) bA.nd rfl (Or.inl rfl)))
   (ar (aI (cw (cu (aB (k1:= .bor) D_w_said (hr.mono (by decide)) am (ad (PD.le (aB (k1:= .bor) D_is_heap (hr.mono (by decide)) am (ad (PD.le (cH (k1:= .bor) fA fN rfl B.list_ eP (ad (PD.le (aa 3 rfl (pv 3)) (Kd.le.bor _)) ag)) (Kd.le.bor _)) (ad (PD.le (aa 4 rfl (pv 4)) (Kd.le.bor _)) ag))) (Kd.le.bor _)) (ad (qC (dO (be hr.units) bh (aa 4 rfl (pv 4)) (aa 2 rfl (pv 2)) (aA _)) (fI (dO (be hr.units) bh (aa 3 rfl (pv 3)) (hX (k:= .bor) ag) (aA _)))) ag)))))
    (al (aE bg (Kd.le.refl _) am))
    bc)
   (al (aI (cw (cu (aB (k1:= .bor) D_w_said (hr.mono (by decide)) am (ad (PD.le (aB (k1:= .bor) D_is_heap (hr.mono (by decide)) am (ad (PD.le (hX (k:= .bor) ag) (Kd.le.bor _)) (ad (PD.le (aa 4 rfl (pv 4)) (Kd.le.bor _)) ag))) (Kd.le.bor _)) (ad (PD.le bg (Kd.le.bor _)) ag)))))
    (al (aE bg (Kd.le.refl _) am))
    bc))))
   (ar (ic PassesOwn.never rfl (du rfl B.range_ (aZ (k1:= .bor) bV cg rfl B.len_ bX (ad (PD.le (aa 1 rfl (pv 1)) (Kd.le.bor _)) ag))) (bI rfl (bF (i:=5) bA.nd rfl (Or.inl rfl)))
   (ar (aU (i:=6) rfl (PD.le (aB (k1:= .bor) D_w_mixed (hr.mono (by decide)) am (ad (PD.le (aY (aa 1 rfl (pv 1)) (aa 5 rfl (pv 5)) (fun _ _=>rfl)) (Kd.le.bor _)) (ad (PD.le (ah bq bu (aa 5 rfl (pv 5)) ae) (Kd.le.bor _)) ag))) Kd.le.imm_any) (Kd.le.refl _) bA.nd rfl (Or.inl rfl))
   (ar (aU (i:=7) rfl (PD.le (ah aP aS (aa 6 rfl (pv 6)) (aZ (k1:= .bor) bV cg rfl B.len_ bX (ad (PD.le (aa 3 rfl (pv 3)) (Kd.le.bor _)) ag))) Kd.le.imm_any) (Kd.le.refl _) bA.nd rfl (Or.inl rfl))
   (ar (aI (aR (be hr.units) bh (ah aP aS (aa 5 rfl (pv 5)) ae) ae (aA _))
    (al (aI (PDw.pt (eT (cw (cu (aB (k1:= .bor) D_w_said (hr.mono (by decide)) am (ad (PD.le (aB (k1:= .bor) D_is_heap (hr.mono (by decide)) am (ad (PD.le (fM (aa 3 rfl (pv 3)) (cW (aa 7 rfl (pv 7))) dP) (Kd.le.bor _)) (ad (PD.le (aa 2 rfl (pv 2)) (Kd.le.bor _)) ag))) (Kd.le.bor _)) (ad (PD.le bg (Kd.le.bor _)) ag))))) (fK (cw (cu (aB (k1:= .bor) D_w_said (hr.mono (by decide)) am (ad (PD.le (aB (k1:= .bor) D_is_heap (hr.mono (by decide)) am (ad (PD.le (fM (aa 3 rfl (pv 3)) dP (cW (aa 7 rfl (pv 7)))) (Kd.le.bor _)) (ad (PD.le (aa 2 rfl (pv 2)) (Kd.le.bor _)) ag))) (Kd.le.bor _)) (ad (PD.le bg (Kd.le.bor _)) ag))))))))
    (al (aE bg (Kd.le.refl _) am))
    bc))
    bc)
   (ar (aU (i:=8) rfl (PD.le (fM (aa 3 rfl (pv 3)) (cW (aZ (k1:= .bor) (oA rfl) wx rfl B.max_ wy (ad (PD.le ae (Kd.le.bor _)) (ad (PD.le (ah bU cf (aa 7 rfl (pv 7)) ae) (Kd.le.bor _)) ag)))) (cW (ah bq bu (aa 7 rfl (pv 7)) ae))) Kd.le.one_any) (Kd.le.refl _) bA.nd rfl (Or.inl rfl))
   (ar (aU (i:=9) rfl (PD.le (aZ (k1:= .bor) (oB rfl) ww rfl B.min_ wb (ad (PD.le (aa 7 rfl (pv 7)) (Kd.le.bor _)) (ad (PD.le ae (Kd.le.bor _)) ag))) Kd.le.imm_any) (Kd.le.refl _) bA.nd rfl (Or.inl rfl))
   (ar (aI (aR (be hr.units) bh (ah aP aS (ah cS cU (aa 6 rfl (pv 6)) ae) ae) ae (aA _))
    (ar (aU (i:=8) rfl (aa 3 rfl (pv 3)) (Kd.le.refl _) bA.nd rfl (Or.inl rfl))
   (al (aU (i:=9) rfl (aa 7 rfl (pv 7)) (Kd.le.refl _) bA.nd rfl (Or.inl rfl))))
    bc)
   (ar (aU (i:=10) rfl (PD.le (ah aP aS (ah cS cU (aa 6 rfl (pv 6)) ae) ae) Kd.le.imm_any) (Kd.le.refl _) bA.nd rfl (Or.inl rfl))
   (ar (aU (i:=11) rfl (mm D_w_spoiled (hr.mono (by decide)) (ad (aa 8 rfl (pv 8)) (ad (aa 9 rfl (pv 9)) (ad (aa 10 rfl (pv 10)) (ad (PD.le (ah cS cU (aa 6 rfl (pv 6)) ae) Kd.le.imm_any) ag))))) (Kd.le.refl _) bA.nd rfl (Or.inl rfl))
   (al (aI (PDw.pt (eT (cw (cu (aB (k1:= .bor) D_w_said (hr.mono (by decide)) am (ad (PD.le (aB (k1:= .bor) D_is_heap (hr.mono (by decide)) am (ad (PD.le (aa 11 rfl (pv 11)) (Kd.le.bor _)) (ad (PD.le (aa 2 rfl (pv 2)) (Kd.le.bor _)) ag))) (Kd.le.bor _)) (ad (PD.le bg (Kd.le.bor _)) ag))))) (fK (aR (mz hr.units) mC (aa 11 rfl (pv 11)) (mm D_w_spoiled (hr.mono (by decide)) (ad (aa 8 rfl (pv 8)) (ad (aa 9 rfl (pv 9)) (ad (aa 10 rfl (pv 10)) (ad (PD.le (ah cS cU (aa 6 rfl (pv 6)) ae) Kd.le.imm_any) ag))))) (aA _)))))
    (al (aE bg (Kd.le.refl _) am))
    bc)))))))))))
   (al (aE bg (Kd.le.refl _) am)))))))
end
end K02
set_option maxHeartbeats 1000000
namespace K02
open PySem L2
theorem eG (c k:Int) (k0:0<=k) (k1:k<=1000): ∃x:Int,bK [.int c,.int k]=some (.int x)/\0<=x/\x<2147483629:=by
 have a:0<=2*k*k:=Int.mul_nonneg (by lia) k0
 have b:2*k*k<=2000*1000:=Int.mul_le_mul (by lia) k1 k0 (by lia)
 obtain ⟨y0,y1⟩:=bd ((c+k+1)*(48271+2*k*k)) 2147483647 (by decide)
 refine ⟨_,?_,bd ((c+k+1)*(48271+2*k*k)%2147483647*((c+k+1)*(48271+2*k*k)%2147483647)) 2147483629 (by decide)⟩
 simp_arith only [bK,mK,cL (ln (i:=c+k+1) (j:=48271+2*k*k) ⟨by lia,by lia⟩),cL (eX (i:=2) (j:=k) ⟨by decide,by decide⟩),cL (ln (i:=2*k) (j:=k) ⟨by lia,by lia⟩),cL (eX (i:=(c+k+1)*(48271+2*k*k)%2147483647) (j:=(c+k+1)*(48271+2*k*k)%2147483647) ⟨by lia,by lia⟩)]
noncomputable def Bn (z:Int):Prop:=z.natAbs<=1000002*10^192
noncomputable def Bz (z:Int):Prop:=z.natAbs<2*10^198
theorem wY {a s b:Int} (ha:a.natAbs<=1000001) (hs:s.natAbs<=10^192) (hb:b.natAbs<=10):Bn (a*s+b):=by
 unfold Bn
 have h1:(a*s+b).natAbs<=(a*s).natAbs+b.natAbs:=Int.natAbs_add_le _ _
 have h2:(a*s).natAbs<=1000001*10^192:=by rw [Int.natAbs_mul];exact Nat.mul_le_mul ha hs
 have h3:1000001*10^192+10<=1000002*10^192:=by decide+kernel
 lia
theorem bn_z {a b:Int} (ha:Bn a) (hb:b.natAbs<=100):Bz (a+b):=by
 unfold Bn at ha
 unfold Bz
 have h1:(a+b).natAbs<=a.natAbs+b.natAbs:=Int.natAbs_add_le _ _
 have h3:1000002*10^192+100<2*10^198:=by decide+kernel
 lia
theorem wZ {a:Int} (ha:a.natAbs<=1000):Bz a:=by
 unfold Bz
 have h3:1000<2*10^198:=by decide+kernel
 lia
theorem i6 (c:Int): ∃n:Int,cN [.int c]=some (.int n)/\Bn n:=by
 obtain ⟨p1,e1,b1⟩: ∃p,dPow (.int 10) (.int 9)=some (.int p)/\p.natAbs<=10^192:=⟨_,io (by decide+kernel),by decide+kernel⟩
 obtain ⟨p2,e2,b2⟩: ∃p,dPow (.int 10) (.int 54)=some (.int p)/\p.natAbs<=10^192:=⟨_,io (by decide+kernel),by decide+kernel⟩
 obtain ⟨p3,p4,p5,e3,e4,e5,b5⟩: ∃p q r,dPow (.int 10) (.int 64)=some (.int p)/\dMul (.int p) (.int p)=some (.int q)/\dMul (.int q) (.int p)=some (.int r)/\r.natAbs<=10^192:=⟨_,_,_,io (by decide+kernel),cL (lX (by decide+kernel) (by decide+kernel)),cL (lX (by decide+kernel) (by decide+kernel)),by decide+kernel⟩
 obtain ⟨t0,t1⟩:=bd (c/2000003) 6 (by decide)
 obtain ⟨u0,u1⟩:=bd c 2000003 (by decide)
 obtain ⟨v0,v1⟩:=bd (c%11) 2 (by decide)
 obtain ⟨d,hd,ef⟩:=fY (xs:=[Dv.int 1,.int 1,.int 1,.int p1,.int p2,.int p5]) t0 t1
 obtain ⟨s,hs,rfl⟩:=vz (zs:=[1,1,1,p1,p2,p5]) hd
 have bs:s.natAbs<=10^192:=by
  simp only [List.mem_cons,List.not_mem_nil,or_false] at hs
  rcases hs with rfl|rfl|rfl|rfl|rfl|rfl
  ·decide+kernel
  ·decide+kernel
  ·decide+kernel
  ·exact b1
  ·exact b2
  ·exact b5
 refine ⟨_,?_,wY (a:=c%2000003-1000001) (s:=s) (b:=c%11%2) (by lia) bs (by lia)⟩
 simp_arith only [cN,mL,e1,e2,e3,e4,e5,ef,cL (eX (i:=c%2000003-1000001) (j:=s) ⟨by lia,by lia⟩)]
theorem fw {g:Dv->Dt->Option Dt}{c:Dt->Option Bool}{el:EM}{δ:Dt}{P:Int->Prop}: ∀(ds:List Dv),(∀d,d∈ds-> ∃z:Int,celM g c el δ d=some (some (.int z))/\P z)-> ∃zs:List Int,zs.length=ds.length/\ba g c el δ ds=some (zs.map .int)/\ ∀z∈zs,P z
 |[],_=>⟨[],rfl,rfl,fun _ z=>nomatch z⟩
 |d::ds,h=>by
  obtain ⟨z,e,p⟩:=h d (List.mem_cons_self ..)
  obtain ⟨zs,hl,hc,hp⟩:=fw ds fun d hd=>h d (List.mem_cons_of_mem _ hd)
  refine ⟨z::zs,by rw [List.length_cons,List.length_cons,hl],?_,fun y hy=> ?_⟩
  ·rw [ba]
   unfold celM at e
   revert e
   cases g d δ with
   |none=>intro e;cases e
   |some δ1=>
    dsimp only [Option.bind_some]
    cases c δ1 with
    |none=>intro e;cases e
    |some b=>
     dsimp only [Option.bind_some]
     cases b with
     |false=>intro e;cases e
     |true=>
      rw [if_pos rfl]
      cases el δ1 with
      |none=>intro e;cases e
      |some x=>
       dsimp only [Option.bind_some]
       intro e
       have ex:x= .int z:=by
        revert e
        split
        ·intro e;exact Option.some.inj (Option.some.inj e)
        ·intro e;cases e
       subst ex
       rw [if_pos (show (Dv.int z).imm=true from rfl),hc]
       rfl
  ·rcases List.mem_cons.mp hy with rfl|hy
   ·exact p
   ·exact hp y hy
noncomputable def Rw8 (wd:Int) (r:List Int):Prop:=(r.length:Int)=wd/\ ∀x∈r,Bz x
theorem w5 (c wd way:Int) (base:List Int) (w0:1<=wd) (w1:wd<=8) (y0:0<=way) (y1:way<3) (hb:(base.length:Int)=wd) (bb: ∀x∈base,Bn x):
  ∃r:List Int,dF [.int c,.int wd,.int way,.lst (base.map .int)]=some (.tup (r.map .int))/\Rw8 wd r:=by
 have hr: ∀v,iR1 (eVar 1) [some (.int c),some (.int wd),some (.int way),some (.lst (base.map .int)),v]=some (aF 0 wd.toNat):=fun v=>fV (by simp_arith only [cj]) (by lia)
 by_cases h0:way=0
 ·subst h0
  obtain ⟨zs,hz,hc,hp⟩:=fw (P:=Bz) (g:=gN 0) (c:=tyes) (el:=iY) (δ:=[none,some (.int c)]) (aF 0 wd.toNat) (by
   intro d hd
   obtain ⟨i,hi,rfl⟩:=eY hd
   obtain ⟨q0,q1⟩:=bd c 30 (by decide)
   obtain ⟨s0,s1⟩:=bd (c%30*(0+(i:Int)+2)) 5 (by decide)
   refine ⟨c%30*(0+(i:Int)+2)%5-2,?_,wZ (by lia)⟩
   simp_arith only [iY,cL (eX (i:=c%30) (j:=0+(i:Int)+2) ⟨by lia,by lia⟩)])
  rw [ci] at hz
  exact ⟨zs,by simp_arith only [dF,gA,decide_true,hr,hc],by lia,hp⟩
 ·by_cases h1:way=1
  ·subst h1
   obtain ⟨t0,t1⟩:=bd c wd (by lia)
   obtain ⟨zs,hz,hc,hp⟩:=fw (P:=Bz) (g:=gN 0) (c:=tyes) (el:=iZ) (δ:=[none,some (.lst (base.map .int)),some (.int c),some (.int (c%wd))]) (aF 0 wd.toNat) (by
    intro d hd
    obtain ⟨i,hi,rfl⟩:=eY hd
    obtain ⟨q0,q1⟩:=bd (c/8) 9 (by decide)
    have hx:base.getD (0+(i:Int)).toNat 0∈base:=by
     rw [List.getD_eq_getElem?_getD,List.getElem?_eq_getElem (by lia)]
     exact List.getElem_mem _
    refine ⟨base.getD (0+(i:Int)).toNat 0+(c/8%9-4)*(if decide (0+(i:Int)=c%wd)=true then 1 else 0),?_,bn_z (bb _ hx) (by split<;>lia)⟩
    simp_arith only [iZ,ik (zs:=base) (i:=0+(i:Int)) (by lia) (by lia),cL (eX (i:=c/8%9-4) (j:=if decide (0+(i:Int)=c%wd)=true then 1 else 0) ⟨by lia,by lia⟩)])
   rw [ci] at hz
   exact ⟨zs,by simp_arith only [dF,gA,decide_eq_false h0,decide_true,hr,hc,show (0:Int)<wd by lia],by lia,hp⟩
  ·obtain ⟨zs,hz,hc,hp⟩:=fw (P:=Bz) (g:=gN 0) (c:=tyes) (el:=i0) (δ:=[none,some (.int c)]) (aF 0 wd.toNat) (by
    intro d hd
    obtain ⟨i,hi,rfl⟩:=eY hd
    obtain ⟨x,ex,_⟩:=eG c (0+(i:Int)) (by lia) (by lia)
    obtain ⟨n,en,bn⟩:=i6 x
    exact ⟨n,by simp_arith only [i0,ex,en],by have:=bn_z (b:=0) bn (by decide);rwa [Int.add_zero] at this⟩)
   rw [ci] at hz
   exact ⟨zs,by simp_arith only [dF,gA,decide_eq_false h0,decide_eq_false h1,hr,hc],by lia,hp⟩
noncomputable def Bs (z:Int):Prop:=z.natAbs<2^1920
theorem bs_n {a:Int} (h:Bn a):Bs a:=by
 unfold Bn at h
 unfold Bs
 have:1000002*10^192<2^1920:=by decide+kernel
 lia
theorem bs_s {a:Int} (h:a.natAbs<=100):Bs a:=by
 unfold Bs
 have:100<2^1920:=by decide+kernel
 lia
theorem w6 (c:Int): ∃n:Int,dg [.int c]=some (.int n)/\n≠0/\Bs n:=by
 obtain ⟨a0,a1⟩:=bd c 5 (by decide)
 by_cases h:c%7=3
 ·obtain ⟨n,en,bn⟩:=i6 c
  by_cases h2:n=0
  ·exact ⟨1,by simp_arith only [dg,fo,h,en,h2,decide_true],by decide,bs_s (by decide)⟩
  ·exact ⟨n,by simp_arith only [dg,fo,h,en,decide_eq_false h2,decide_true],h2,bs_n bn⟩
 ·by_cases h2:c%5-2=0
  ·exact ⟨1,by simp_arith only [dg,fo,decide_eq_false h,h2,decide_true],by decide,bs_s (by decide)⟩
  ·exact ⟨c%5-2,by simp_arith only [dg,fo,decide_eq_false h,decide_eq_false h2],h2,bs_s (by lia)⟩
noncomputable abbrev encH (h:Hl):Dv:= .lst (h.map ent)
noncomputable def Ok (wd:Int) (h:Hl):Prop:=IsH h/\h.length<=63/\ ∀p∈h,(p.1.length:Int)=wd/\Bs p.2
theorem xa (cells:List Int) (wd way:Int) (hl:cells.length<=63) (w0:1<=wd) (w1:wd<=8) (y0:0<=way) (y1:way<3):
  ∃h:Hl,Ok wd h/\(cells≠[]->h≠[])/\fq [.lst (cells.map .int),.int wd,.int way]=some (encH h):=by
 have hr: ∀v3 v4 v5 v6,iR1 (eVar 1) [some (.lst (cells.map .int)),some (.int wd),some (.int way),v3,v4,v5,v6]=some (aF 0 wd.toNat):=fun _ _ _ _=>fV (by simp_arith only [cj]) (by lia)
 have hr2: ∀v3 v4 v5 v6,iR1 (af fLen (ab (eVar 0) aNil)) [some (.lst (cells.map .int)),some (.int wd),some (.int way),v3,v4,v5,v6]=some (aF 0 cells.length):=fun _ _ _ _=>fV (j:=(cells.length:Int)) (by simp_arith only [cj]) (by lia)
 obtain ⟨base,hz,hc,bb⟩:=fw (P:=Bn) (g:=gN 0) (c:=tyes) (el:=i3) (δ:=[none,some (.lst (cells.map .int))]) (aF 0 wd.toNat) (by
  intro d hd
  obtain ⟨i,hi,rfl⟩:=eY hd
  obtain ⟨x,ex,_⟩:=eG (cells.length:Int) (0+(i:Int)) (by lia) (by lia)
  obtain ⟨n,en,bn⟩:=i6 x
  exact ⟨n,by simp_arith only [i3,ex,en],bn⟩)
 rw [ci] at hz
 have hb:(base.length:Int)=wd:=by lia
 obtain ⟨δ',e,kws,v5,v6,rfl,nd,ok,le,ge⟩:=fX (g:=gN 5) (body:=i4) (ds:=aF 0 cells.length) (δ:=[some (.lst (cells.map .int)),some (.int wd),some (.int way),some (.lst (base.map .int)),some (.dic []),none,none])
  (fun i δ=> ∃(kws:Hl) (v5 v6:Option Dv),δ=[some (.lst (cells.map .int)),some (.int wd),some (.int way),some (.lst (base.map .int)),some (.dic (dct kws)),v5,v6]/\(kws.map (·.1)).Nodup/\(∀p∈kws,((p.1.length:Int)=wd/\Bs p.2)/\p.2≠0)/\kws.length<=i/\(0<i->kws≠[])) ⟨[],none,none,rfl,List.nodup_nil,(fun _ z=>nomatch z),Nat.le_refl _,fun z=>absurd z (Nat.lt_irrefl _)⟩ (by
  rintro i d δ hd ⟨kws,v5,v6,rfl,nd,ok,le,ge⟩
  have hi:i<cells.length:=by
   have:=(List.getElem?_eq_some_iff.mp hd).1
   rwa [ci] at this
  rw [fO hi] at hd
  cases hd
  have ac:=ik (zs:=cells) (i:=0+(i:Int)) (by lia) (by lia)
  obtain ⟨x,ex,_⟩:=eG (cells.getD (0+(i:Int)).toNat 0) (0+(i:Int)) (by lia) (by lia)
  obtain ⟨r,er,hr1⟩:=w5 x wd way base w0 w1 y0 y1 hb bb
  obtain ⟨n,en,n0,nb⟩:=w6 (x/11)
  have hl2:(dct kws).length<lim:=by rw [vp,dW];lia
  have pd:=vo kws r n
  have kl:=vq kws r n
  refine ⟨_,_,rfl,?_,⟨putL kws r n,some (.int (0+(i:Int))),some (.int x),rfl,vr nd,fun p hp=> ?_,by lia,fun _ z=> ?_⟩⟩
  ·simp_arith only [i4,ac,ex,er,en,uY (lT r) hl2 lf,pd]
  ·rcases putL_mem hp with h|rfl
   ·exact ok p h
   ·exact ⟨⟨hr1.1,nb⟩,n0⟩
  ·have:r∈(putL kws r n).map (·.1):=vE.mpr (.inl rfl)
   rw [z] at this
   exact nomatch this)
 rw [ci] at le ge
 have ne: ∀p∈kws,p.1≠[]:=fun p hp z=>by have:=(ok p hp).1.1;rw [z] at this;simp at this;lia
 have mem: ∀r∈srt (kws.map (·.1)),r∈kws.map (·.1):=fun r h=>(dX _).mem_iff.mp h
 have hc2:=gn (g:=gN 0) (c:=tyes) (el:=i5) (δ:=[none,some (.dic (dct kws))]) aT (fun r=>ent (r,wOf kws r)) (srt (kws.map (·.1))) (fun r h=>by
  simp_arith only [i5,vv (mem r h),vm]
  rfl)
 have hh:(srt (kws.map (·.1))).map (fun r=>ent (r,wOf kws r))=(hOf kws).map ent:=by unfold hOf;rw [List.map_map];rfl
 rw [hh] at hc2
 have sd:=vt ne
 have sl:(srt (kws.map (·.1))).length<=100000:=by rw [lW,List.length_map];lia
 refine ⟨hOf kws,⟨⟨vF nd,fun p hp=>(ok p (lZ hp)).2⟩,by rw [lY];lia,fun p hp=>(ok p (lZ hp)).1⟩,fun hne z=> ?_,?_⟩
 ·have:=lY kws
  rw [z] at this
  have hpos:0<cells.length:=List.length_pos_iff.mpr hne
  exact ge hpos (List.length_eq_zero_iff.mp this.symm)
 ·simp_arith only [fq,mN,show List.replicate (7-3) (none:Option Dv)=[none,none,none,none] from rfl,hr,hc,hr2,e,sd,sl,hc2]
end K02
set_option maxHeartbeats 1000000
namespace K02
open PySem L2
noncomputable def isI:Dv->Bool
 | .int _=>true
 |_=>false
theorem i7 (d:Dv) (h:d.isScr=false):dE [d]=some (.bl (isI d)):=by
 cases d<;>first|(cases h;done)|skip
 all_goals simp_arith only [dE,mI,show isiN "NoneType" "int"=false from by decide+kernel,show isiN "bool" "int"=true from by decide+kernel,show isiN "bool" "bool"=true from by decide+kernel,show isiN "int" "int"=true from by decide+kernel,show isiN "int" "bool"=false from by decide+kernel,show isiN "str" "int"=false from by decide+kernel,show isiN "list" "int"=false from by decide+kernel,show isiN "tuple" "int"=false from by decide+kernel,show isiN "dict" "int"=false from by decide+kernel,isI,if_true]
theorem gD (bs:List Bool):fAll [.lst (bs.map .bl)]=some (.bl (bs.all id)):=by
 unfold fAll
 have:dS (bs.map .bl)=some bs:=by
  induction bs with
  |nil=>rfl
  |cons b bs ih=>show (dS (bs.map .bl)).map _=_;rw [ih];rfl
 show (dS (bs.map .bl)).map _=_
 rw [this]
 rfl
theorem mP (ds:List Dv) (w:Int) (h: ∀d∈ds,d.isScr=false) (hl:ds.length<=100) (w1:1<=w) (w8:w<=8):bE [.tup ds,.int w]=some (.bl (decide ((ds.length:Int)=w)&&ds.all isI)):=by
 have hc:=gn (g:=gN 0) (c:=tyes) (el:=iX) (δ:=[none]) (fun d:Dv=>d) (fun d=> .bl (isI d)) ds (fun d hd=>by
  simp_arith only [iX,i7 d (h d hd)])
 rw [List.map_id'] at hc
 have hl':ds.length<=100000:=by lia
 by_cases e:(ds.length:Int)=w
 ·subst e
  have a:decide ((ds.length:Int)<1)=false:=decide_eq_false (by lia)
  have b:decide (8<(ds.length:Int))=false:=decide_eq_false (by lia)
  have hall:fAll [.lst (ds.map fun d=>Dv.bl (isI d))]=some (.bl (ds.all isI)):=by
   have e1:ds.map (fun d=>Dv.bl (isI d))=(ds.map isI).map .bl:=by rw [List.map_map];rfl
   rw [e1,gD]
   rw [List.all_map]
   rfl
  have n1:dNe (.int (ds.length:Int)) (.int (ds.length:Int))=some (.bl false):=by rw [ij,decide_eq_true rfl];rfl
  simp_arith only [bE,fm,show isiN "tuple" "tuple"=true from by decide+kernel,n1,a,b,hl',hc,hall,decide_true,Bool.true_and,if_true]
 ·simp_arith only [bE,fm,show isiN "tuple" "tuple"=true from by decide+kernel,decide_eq_false e,Bool.false_and,if_true]
theorem gE {d x:Dv}{w:Int} (h:bE [d,.int w]=some (.bl false)):M_is_entry [.tup [d,x],.int w]=some (.bl false):=by
 simp_arith only [M_is_entry,eD,show isiN "tuple" "tuple"=true from by decide+kernel,Nat.sub_self,List.replicate_zero,h,decide_true,if_true]
theorem xb (z w:Int):bE [.int z,.int w]=some (.bl false):=by
 simp_arith only [bE,fm,show isiN "int" "tuple"=false from by decide+kernel,Nat.sub_self,List.replicate_zero,if_true]
theorem xc (ds:List Dv) (w:Int):bE [.lst ds,.int w]=some (.bl false):=by
 simp_arith only [bE,fm,show isiN "list" "tuple"=false from by decide+kernel,Nat.sub_self,List.replicate_zero,if_true]
theorem gF (r:List Int) (w:Int) (hr:r.length<=100) (w1:1<=w) (w8:w<=8):bE [.tup (r.map .int),.int w]=some (.bl (decide ((r.length:Int)=w))):=by
 rw [mP (r.map .int) w (fun d hd=>by obtain ⟨z,_,rfl⟩:=List.mem_map.mp hd;rfl) (by rw [List.length_map];lia) w1 w8,List.length_map,List.all_map]
 rw [show (r.all (isI∘Dv.int))=true from List.all_eq_true.mpr fun _ _=>rfl,Bool.and_true]
theorem xg {a b:Int}:dNeY (.int a) (.int b)=some (.bl (!decide (a=b))):=ij
noncomputable def gd (w:Int) (p:List Int×Int):Bool:=decide ((p.1.length:Int)=w)&& !decide (p.2=0)
theorem i8 (p:List Int×Int) (w:Int) (hr:p.1.length<=100) (w1:1<=w) (w8:w<=8):M_is_entry [ent p,.int w]=some (.bl (gd w p)):=by
 have e1:=gF p.1 w hr w1 w8
 have e2:=i7 (.int p.2) rfl
 unfold gd
 by_cases h:(p.1.length:Int)=w
 ·rw [decide_eq_true h] at e1|-
  simp_arith only [ent,M_is_entry,eD,show isiN "tuple" "tuple"=true from by decide+kernel,Nat.sub_self,List.replicate_zero,e1,e2,isI,xg,decide_true,Bool.true_and,if_true]
 ·rw [decide_eq_false h] at e1|-
  rw [Bool.false_and]
  exact gE e1
theorem i9 (r:List Int) (x:Dv) (w:Int) (hx:isI x=false) (hs:x.isScr=false) (hr:r.length<=100) (w1:1<=w) (w8:w<=8):M_is_entry [.tup [.tup (r.map .int),x],.int w]=some (.bl false):=by
 have e1:=gF r w hr w1 w8
 have e2:=i7 x hs
 rw [hx] at e2
 by_cases h:(r.length:Int)=w
 ·rw [decide_eq_true h] at e1
  simp_arith only [M_is_entry,eD,show isiN "tuple" "tuple"=true from by decide+kernel,Nat.sub_self,List.replicate_zero,e1,e2,decide_true,if_true]
 ·rw [decide_eq_false h] at e1
  exact gE e1
theorem mQ (ds:List Dv) (w:Int) (h:(ds.length:Int)≠2):M_is_entry [.tup ds,.int w]=some (.bl false):=by
 simp_arith only [M_is_entry,eD,show isiN "tuple" "tuple"=true from by decide+kernel,Nat.sub_self,List.replicate_zero,decide_eq_false h,Bool.not_false,if_true]
theorem xh (ds:List Dv) (w:Int):M_is_entry [.lst ds,.int w]=some (.bl false):=by
 simp_arith only [M_is_entry,eD,show isiN "list" "tuple"=false from by decide+kernel,Nat.sub_self,List.replicate_zero,if_true]
theorem mR {w:Int}: ∀ds:List Dv,(∀d∈ds,∃b,M_is_entry [d,.int w]=some (.bl b))-> ∃bs:List Bool,ba (gN 0) tyes dh [none,some (.int w)] ds=some (bs.map .bl)/\bs.length=ds.length/\ ∀(i:Nat) (d:Dv) (b:Bool),ds[i]?=some d->M_is_entry [d,.int w]=some (.bl b)->bs[i]?=some b
 |[],_=>⟨[],rfl,rfl,fun i d b h=>by simp at h⟩
 |d::ds,h=>by
  obtain ⟨b,e⟩:=h d (.head _)
  obtain ⟨bs,hc,hl,hg⟩:=mR ds fun y hy=>h y (.tail _ hy)
  refine ⟨b::bs,?_,by rw [List.length_cons,List.length_cons,hl],fun i d' b' h1 h2=> ?_⟩
  ·have:dh [some d,some (.int w)]=some (.bl b):=by simp_arith only [dh,e]
   rw [ba]
   show ((dh [some d,some (.int w)]).bind _)=_
   rw [this]
   show (Option.map _ (ba (gN 0) tyes dh [none,some (.int w)] ds))=_
   rw [hc]
   rfl
  ·cases i with
   |zero=>
    cases h1
    rw [e] at h2
    cases h2
    rfl
   |succ i=>exact hg i d' b' (by simpa using h1) h2
theorem mS {w:Int} (ds:List Dv) (hl:ds.length<=1000) (h: ∀d∈ds,∃b,M_is_entry [d,.int w]=some (.bl b)) (i:Nat) (d:Dv) (hd:ds[i]?=some d) (hf:M_is_entry [d,.int w]=some (.bl false)):aJ [.lst ds,.int w]=some (.bl false):=by
 obtain ⟨bs,hc,_,hg⟩:=mR ds h
 have hb:=hg i d false hd hf
 have ha:bs.all id=false:=by
  rw [List.all_eq_false]
  exact ⟨false,List.mem_of_getElem? hb,fun z=>nomatch z⟩
 have fa:=gD bs
 rw [ha] at fa
 have hl':ds.length<=100000:=by lia
 simp_arith only [aJ,di,show isiN "list" "list"=true from by decide+kernel,Nat.sub_self,List.replicate_zero,hl',hc,fa,if_true]
noncomputable def at2 (L:Hl) (k:Nat):Bool:=HT.ap ((L.map (·.1)).getD k []) ((L.map (·.1)).getD (k+1) [])
noncomputable def ris (L:Hl):Bool:=(List.range (L.length-1)).all (at2 L)
theorem xi (n:Nat):aF 0 n=(List.range n).map fun k=> .int (0+(k:Int)):=by
 apply List.ext_getElem?
 intro i
 by_cases h:i<n
 ·rw [fO h,List.getElem?_map,List.getElem?_range h]
  rfl
 ·rw [List.getElem?_eq_none (by rw [ci];lia),List.getElem?_eq_none (by rw [List.length_map,List.length_range];lia)]
theorem xj (L:Hl) (hl:L.length<=10000):fj [.lst (L.map fun p=>aT p.1)]=some (.bl (ris L)):=by
 have hrg:iR1 (eOp dSub (af fLen (ab (eVar 0) aNil)) (eC (.int 1))) [some (.lst (L.map fun p=>aT p.1))]=some (aF 0 (L.length-1)):=by
  have e0:eOp dSub (af fLen (ab (eVar 0) aNil)) (eC (.int 1)) [some (.lst (L.map fun p=>aT p.1))]=some (.int ((L.length:Int)-1)):=by simp_arith only [cj]
  unfold iR1
  rw [e0]
  show (if _ then _ else _)=_
  rw [if_pos (by rw [dW];lia)]
  congr 2
  lia
 have at_: ∀i:Nat,(hi:i<L.length)->atI (L.map fun p=>aT p.1) (0+(i:Int))=some (.tup (((L.map (·.1)).getD i []).map .int)):=fun i hi=>by
  refine eW (by lia) ?_
  rw [show (0+(i:Int)).toNat=i by lia,List.getElem?_map,List.getElem?_eq_getElem hi,List.getD_eq_getElem?_getD,List.getElem?_map,List.getElem?_eq_getElem hi]
  rfl
 have hc:=gn (g:=gN 0) (c:=tyes) (el:=iW) (δ:=[none,some (.lst (L.map fun p=>aT p.1))]) (fun k:Nat=> .int (0+(k:Int))) (fun k=> .bl (at2 L k)) (List.range (L.length-1)) (fun k hk=>by
  have hk:=List.mem_range.mp hk
  have a0:=at_ k (by lia)
  have a1:=at_ (k+1) (by lia)
  rw [show (0:Int)+((k+1:Nat):Int)=0+(k:Int)+1 by lia] at a1
  unfold at2
  generalize (L.map (·.1)).getD k []=p at a0
  generalize (L.map (·.1)).getD (k+1) []=q at a1
  simp_arith only [iW,a0,a1,vC])
 rw [<-xi] at hc
 have hall:fAll [.lst ((List.range (L.length-1)).map fun k=>Dv.bl (at2 L k))]=some (.bl (ris L)):=by
  have e1:(List.range (L.length-1)).map (fun k=>Dv.bl (at2 L k))=((List.range (L.length-1)).map (at2 L)).map .bl:=by rw [List.map_map];rfl
  rw [e1,gD,List.all_map]
  rfl
 simp_arith only [fj,mJ,Nat.sub_self,List.replicate_zero,hrg,hc,hall]
theorem mT {i:Nat}{el:EM}{δ:Dt}{α:Type} (enc F:α->Dv): ∀xs:List α,(∀x∈xs,el (δ.set i (some (enc x)))=some (F x))->bS (gN i) tyes el δ (xs.map enc)=some (xs.map F)
 |[],_=>rfl
 |x::xs,h=>by
  show (el (δ.set i (some (enc x)))).bind (fun y=>(bS (gN i) tyes el δ (xs.map enc)).map (y:: ·))=_
  rw [h x (.head _),mT enc F xs fun y hy=>h y (.tail _ hy)]
  rfl
theorem mU (L:Hl) (w:Int) (hl:L.length<=1000) (hr: ∀p∈L,p.1.length<=100) (w1:1<=w) (w8:w<=8):aJ [encH L,.int w]=some (.bl (L.all (gd w)&&ris L)):=by
 have hen: ∀p∈L,M_is_entry [ent p,.int w]=some (.bl (gd w p)):=fun p hp=>i8 p w (hr p hp) w1 w8
 by_cases ha:L.all (gd w)=true
 ·have hc:=gn (g:=gN 0) (c:=tyes) (el:=dh) (δ:=[none,some (.int w)]) ent (fun p:List Int×Int=> .bl true) L (fun p hp=>by
   have:=hen p hp
   rw [List.all_eq_true.mp ha p hp] at this
   simp_arith only [dh,this])
  have hd:=mT (i:=0) (el:=fu) (δ:=[none]) ent (fun p:List Int×Int=>aT p.1) L (fun p hp=>by
   simp_arith only [ent,fu]
   rfl)
  have hall:fAll [.lst (L.map fun _=>Dv.bl true)]=some (.bl true):=by
   have e1:L.map (fun _=>Dv.bl true)=(L.map fun _=>true).map .bl:=by rw [List.map_map];rfl
   rw [e1,gD,List.all_map]
   rw [show L.all (id∘fun _=>true)=true from List.all_eq_true.mpr fun _ _=>rfl]
  have hrs:=xj L (by lia)
  have hl':L.length<=100000:=by lia
  have hcA:fh [none] (iL (eVar 0)) (gN 0) tyes fu [some (encH L),some (.int w)]=some (.lst (L.map fun p=>aT p.1)):=by
   have hi:iL (eVar 0) [some (encH L),some (.int w)]=some (L.map ent):=by simp_arith only [hl']
   unfold fh
   rw [hi]
   show ((bS (gN 0) tyes fu [none] (L.map ent)).map _)=_
   rw [hd]
   rfl
  rw [ha,Bool.true_and]
  simp_arith only [aJ,di,show isiN "list" "list"=true from by decide+kernel,Nat.sub_self,List.replicate_zero,hl',hc,hall,hcA,hrs,decide_true,if_true]
 ·have ha':L.all (gd w)=false:=by simpa using ha
  rw [ha',Bool.false_and]
  obtain ⟨p,hp,hg⟩:=List.all_eq_false.mp ha'
  have hg:gd w p=false:=by simpa using hg
  obtain ⟨i,hi⟩:=List.mem_iff_getElem?.mp hp
  refine mS (L.map ent) (by rw [List.length_map];lia) (fun d hd=> ?_) i (ent p) (by rw [List.getElem?_map,hi];rfl) (by rw [hen p hp,hg])
  obtain ⟨q,hq,rfl⟩:=List.mem_map.mp hd
  exact ⟨_,hen q hq⟩
theorem xk {L:Hl} (h:Rise L):ris L=true:=by
 unfold ris
 rw [List.all_eq_true]
 intro k hk
 have hk:=List.mem_range.mp hk
 unfold at2
 rw [List.getD_eq_getElem?_getD,List.getElem?_map,List.getElem?_eq_getElem (show k<L.length by lia),List.getD_eq_getElem?_getD,List.getElem?_map,List.getElem?_eq_getElem (show k+1<L.length by lia)]
 exact List.pairwise_iff_getElem.mp h k (k+1) (by lia) (by lia) (by lia)
theorem ja {L:Hl}{k:Nat}{p q:List Int×Int} (hp:L[k]?=some p) (hq:L[k+1]?=some q) (h:HT.ap p.1 q.1=false):ris L=false:=by
 unfold ris
 rw [List.all_eq_false]
 have:=(List.getElem?_eq_some_iff.mp hq).1
 refine ⟨k,List.mem_range.mpr (by lia),?_⟩
 unfold at2
 rw [List.getD_eq_getElem?_getD,List.getElem?_map,hp,List.getD_eq_getElem?_getD,List.getElem?_map,hq]
 show¬HT.ap p.1 q.1=true
 rw [h]
 exact Bool.false_ne_true
theorem lex_irr: ∀a:List Int,HT.ap a a=false
 |[]=>rfl
 |x::a=>by rw [HT.cp,if_pos rfl,lex_irr a]
theorem mV: ∀a b:List Int,HT.ap a b=true->HT.ap b a=false
 |[],[],_=>rfl
 |[],_::_,_=>rfl
 |_::_,[],h=>nomatch h
 |x::a,y::b,h=>by
  rw [HT.cp] at h|-
  by_cases e:x=y
  ·subst e
   rw [if_pos rfl] at h|-
   exact mV a b h
  ·rw [if_neg e] at h
   rw [if_neg (Ne.symm e)]
   have:=of_decide_eq_true h
   exact decide_eq_false (by lia)
end K02
set_option maxHeartbeats 1000000
namespace K02
open PySem L2
noncomputable def Lay (n:Nat) (d:Dv):Prop:=d.toPy.canLay0=true/\d.toPy.depth<=n
theorem jb: ∀ds:List Dv,bZ ds=ds.map fun d=>d.toPy
 |[]=>rfl
 |d::ds=>by rw [bZ,jb ds];rfl
theorem jc {n:Nat}{ds:List Dv} (h: ∀d∈ds,Lay n d):Lay (n+1) (.lst ds):=by
 unfold Lay Dv.toPy
 rw [jb]
 refine ⟨ff fun d hd=>(h d hd).1,?_⟩
 rw [PyData.depth]
 exact Nat.succ_le_succ (fg fun d hd=>(h d hd).2)
theorem dG {n:Nat}{ds:List Dv} (h: ∀d∈ds,Lay n d):Lay (n+1) (.tup ds):=by
 unfold Lay Dv.toPy
 rw [jb]
 refine ⟨ff fun d hd=>(h d hd).1,?_⟩
 rw [PyData.depth]
 exact Nat.succ_le_succ (fg fun d hd=>(h d hd).2)
theorem Lay.le {n m:Nat}{d:Dv} (h:Lay n d) (l:n<=m):Lay m d:=⟨h.1,Nat.le_trans h.2 l⟩
theorem cP (z:Int):Lay 0 (.int z):=⟨rfl,Nat.le_refl _⟩
theorem jd (z:Bool):Lay 0 (.bl z):=⟨rfl,Nat.le_refl _⟩
theorem je:Lay 0 .non:=⟨rfl,Nat.le_refl _⟩
theorem xl (s:String):PyData.strOk (Str.ofString s)=true:=by
 unfold PyData.strOk
 rw [<-Array.all_toList,PyProof.Rows.signs_ofString,List.all_map,List.all_eq_true]
 intro c _
 show decide (c.toNat<0x110000)=true
 apply decide_eq_true
 have h:c.val.toNat<0xd800 \/(0xdfff<c.val.toNat/\c.val.toNat<0x110000):=c.valid
 have e:c.toNat=c.val.toNat:=rfl
 lia
theorem gG (s:String):Lay 0 (.str (Str.ofString s)):=⟨xl s,Nat.le_refl _⟩
theorem gH (r:List Int): ∀d∈r.map Dv.int,Lay 1 d:=fun d hd=>by
 obtain ⟨z,_,rfl⟩:=List.mem_map.mp hd
 exact (cP z).le (by decide)
theorem cQ (r:List Int):Lay 2 (.tup (r.map .int)):=dG (gH r)
theorem jf (p:List Int×Int):Lay 3 (ent p):=dG fun d hd=>by
 simp only [List.mem_cons,List.not_mem_nil,or_false] at hd
 rcases hd with rfl|rfl
 ·exact cQ _
 ·exact (cP _).le (by decide)
theorem xm {n:Nat}{ds:List Dv} (h:Lay n (.lst ds)) (l:n<=60):dNeY (.lst ds) (.lst ds)=some (.bl false):=dZ h.1 (Nat.le_trans h.2 l)
theorem xn {n:Nat}{ds:List Dv} (h:Lay n (.tup ds)) (l:n<=60):dNeY (.tup ds) (.tup ds)=some (.bl false):=dZ h.1 (Nat.le_trans h.2 l)
theorem xo {k:List Key}{i:Int}:dNeY (.dic [(k,.int i)]) (.dic [(k,.int i)])=some (.bl false):=by
 show (if k=k/\i=i then _ else _)=_
 rw [if_pos ⟨rfl,rfl⟩]
theorem jg {m:EM}{lo hi:Dt->Option (Option Int)}{δ:Dt}{r:List Int}{l h:Option Int}{q:List Int} (h1:m δ=some (.tup (r.map .int))) (h2:lo δ=some l) (h3:hi δ=some h) (e:cutD r l h=q):eSlT m lo hi δ=some (.tup (q.map .int)):=by
 subst e
 unfold eSlT
 rw [h1,h2,h3]
 show (if _ then _ else _)=_
 rw [fW,if_pos (cm _)]
theorem mW {xs ys:List Dv} (h:xs.length+ys.length<=100000) (hi:imms (xs++ys)=true):df (.tup xs) (.tup ys)=some (.tup (xs++ys)):=by
 show (if _ then _ else _)=_
 rw [if_pos ⟨by rw [dW];exact h,hi⟩]
theorem xp (r:List Int) (way c wd:Int) (hr:(r.length:Int)=wd) (w1:1<=wd) (w8:wd<=8) (y0:0<=way) (y1:way<4):
  ∃d,M_w_row_spoiled [.tup (r.map .int),.int way,.int c]=some d/\bE [d,.int wd]=some (.bl false)/\Lay 4 d:=by
 by_cases h0:way=0
 ·subst h0
  refine ⟨.lst (r.map .int),?_,xc _ _,(jc (gH r)).le (by decide)⟩
  simp_arith only [M_w_row_spoiled,fk,cm,decide_true]
 by_cases h1:way=1
 ·subst h1
  refine ⟨.tup ((r++[0]).map .int),?_,?_,(cQ _).le (by decide)⟩
  ·have ct:df (.tup (r.map .int)) (.tup [.int 0])=some (.tup ((r++[0]).map .int)):=vZ (t:=[0]) (by simp;lia)
   simp_arith only [M_w_row_spoiled,fk,decide_eq_false h0,decide_true,ct]
  ·rw [gF _ wd (by rw [List.length_append];simp;lia) w1 w8,decide_eq_false (by rw [List.length_append];simp;lia)]
 by_cases h2:way=2
 ·subst h2
  refine ⟨.tup ((r.drop 1).map .int),?_,?_,(cQ _).le (by decide)⟩
  ·have sl: ∀v1 v2 v3,eSlT (eVar 0) (aV (eC (.int 1))) bo [some (.tup (r.map .int)),v1,v2,v3]=some (.tup ((r.drop 1).map .int)):=fun _ _ _=>jg rfl rfl rfl (lh r 1 (by lia))
   simp_arith only [M_w_row_spoiled,fk,decide_eq_false h0,decide_eq_false h1,decide_true,sl]
  ·rw [gF _ wd (by rw [List.length_drop];lia) w1 w8,decide_eq_false (by rw [List.length_drop];lia)]
 ·obtain ⟨p0,p1⟩:=bd c (r.length:Int) (by lia)
  obtain ⟨q0,q1⟩:=bd (c/8) 5 (by decide)
  obtain ⟨x,hx,ex⟩:=fY (xs:=[Dv.bl true,.bl false,.non,.str "1",.tup [.int 1]]) (i:=c/8%5) q0 q1
  have hp:0<(r.length:Int):=by lia
  obtain ⟨n,hn⟩:=Int.eq_ofNat_of_zero_le p0
  have xf:isI x=false/\x.isScr=false/\x.imm=true/\Lay 1 x:=by
   simp only [List.mem_cons,List.not_mem_nil,or_false] at hx
   rcases hx with rfl|rfl|rfl|rfl|rfl
   ·exact ⟨rfl,rfl,rfl,(jd _).le (by decide)⟩
   ·exact ⟨rfl,rfl,rfl,(jd _).le (by decide)⟩
   ·exact ⟨rfl,rfl,rfl,je.le (by decide)⟩
   ·exact ⟨rfl,rfl,rfl,(gG _).le (by decide)⟩
   ·exact ⟨rfl,rfl,rfl,dG (n:=0) fun d hd=>by rw [List.mem_singleton.mp hd];exact cP _⟩
  have sa:eSlT (eVar 0) bo (aV (eVar 3)) [some (.tup (r.map .int)),some (.int way),some (.int c),some (.int (c%(r.length:Int)))]=some (.tup ((r.take n).map .int)):=by
   rw [hn]
   exact jg rfl rfl rfl (lj r n)
  have sb:eSlT (eVar 0) (aV (eOp dAdd (eVar 3) (eC (.int 1)))) bo [some (.tup (r.map .int)),some (.int way),some (.int c),some (.int (c%(r.length:Int)))]=some (.tup ((r.drop (n+1)).map .int)):=by
   rw [hn]
   exact jg rfl rfl rfl (lh r (n+1) (by lia))
  have i1:imms ((r.take n).map Dv.int++[x])=true:=by rw [fU,cm,fT,xf.2.2.1];rfl
  have c1:=mW (xs:=(r.take n).map Dv.int) (ys:=[x]) (by rw [List.length_map,List.length_take];simp;lia) i1
  have c2:=mW (xs:=(r.take n).map Dv.int++[x]) (ys:=(r.drop (n+1)).map .int) (by rw [List.length_append,List.length_map,List.length_take,List.length_map,List.length_drop];simp;lia) (by rw [fU,i1,cm];rfl)
  have ll:((r.take n).map Dv.int++[x]++(r.drop (n+1)).map Dv.int).length=r.length:=by
   rw [List.length_append,List.length_append,List.length_map,List.length_take,List.length_map,List.length_drop]
   simp
   lia
  refine ⟨.tup ((r.take n).map Dv.int++[x]++(r.drop (n+1)).map Dv.int),?_,?_,(dG (n:=1) fun d hd=> ?_).le (by decide)⟩
  ·simp_arith only [M_w_row_spoiled,fk,decide_eq_false h0,decide_eq_false h1,decide_eq_false h2,hp,sa,sb,ex,xf.2.2.1,c1,c2]
  ·rw [mP _ wd (fun d hd=> ?_) (by rw [ll];lia) w1 w8]
   ·rw [show (((r.take n).map Dv.int++[x]++(r.drop (n+1)).map Dv.int).all isI)=false from List.all_eq_false.mpr ⟨x,by simp,by rw [xf.1];exact Bool.false_ne_true⟩,Bool.and_false]
   ·rcases List.mem_append.mp hd with hd|hd
    ·rcases List.mem_append.mp hd with hd|hd
     ·obtain ⟨z,_,rfl⟩:=List.mem_map.mp hd;rfl
     ·rw [List.mem_singleton.mp hd];exact xf.2.1
    ·obtain ⟨z,_,rfl⟩:=List.mem_map.mp hd;rfl
  ·rcases List.mem_append.mp hd with hd|hd
   ·rcases List.mem_append.mp hd with hd|hd
    ·exact gH _ d hd
    ·rw [List.mem_singleton.mp hd];exact xf.2.2.2
   ·exact gH _ d hd
theorem jh {i:Nat}{mk mv:EM}{δ:Dt}{ds:List Dv}{v:Dv}{n:Nat} (h1:mv δ=some v) (h2:mk δ=some (.int (n:Int))) (h3:eVar i δ=some (.lst ds)) (hl:n<ds.length):bT i mk mv δ=some (.nx (δ.set i (some (.lst (ds.set n v))))):=by
 unfold bT
 rw [h1,h2,h3]
 show ((ixN ds.length (n:Int)).bind _)=_
 unfold ixN
 rw [if_pos (Int.natCast_nonneg n),if_pos (by lia)]
 rfl
theorem xq {i:Nat}{mi m:EM}{δ:Dt}{ds:List Dv}{v:Dv}{n:Nat} (h1:mi δ=some (.int (n:Int))) (h2:m δ=some v) (h3:eVar i δ=some (.lst ds)) (hl:n<=ds.length) (hz:ds.length<100000):gu i mi m δ=some (.nx (δ.set i (some (.lst (ds.take n++v::ds.drop n))))):=by
 unfold gu
 rw [h1,h2,h3]
 show (if _ then _ else _)=_
 rw [if_pos ⟨Int.natCast_nonneg n,by lia,by rw [dW];exact hz⟩]
 rfl
theorem xr {w:Int} (h:Hl) (a:Nat) (bad:Dv) (ha:a<h.length) (hl:h.length<=63) (hr: ∀p∈h,p.1.length<=100) (w1:1<=w) (w8:w<=8) (hb:M_is_entry [bad,.int w]=some (.bl false)):aJ [.lst ((h.map ent).set a bad),.int w]=some (.bl false):=by
 refine mS _ (by rw [List.length_set,List.length_map];lia) (fun d hd=> ?_) a bad (List.getElem?_set_self (by rw [List.length_map];exact ha)) hb
 rcases List.mem_or_eq_of_mem_set hd with z|rfl
 ·obtain ⟨q,hq,rfl⟩:=List.mem_map.mp z
  exact ⟨_,i8 q w (hr q hq) w1 w8⟩
 ·exact ⟨_,hb⟩
theorem xt {n:Nat} (h:Hl) (a:Nat) (bad:Dv) (hb:Lay n bad) (hn:3<=n):Lay (n+1) (.lst ((h.map ent).set a bad)):=jc fun d hd=>by
 rcases List.mem_or_eq_of_mem_set hd with z|rfl
 ·obtain ⟨q,hq,rfl⟩:=List.mem_map.mp z
  exact (jf q).le hn
 ·exact hb
end K02
set_option maxHeartbeats 1000000
namespace K02
open PySem L2
theorem fx (d:Dv) (w:Int) (h:(∃ds,d= .tup ds) \/d= .non \/(∃z,d= .int z) \/(∃s,d= .str s) \/ ∃ks,d= .dic ks):aJ [d,.int w]=some (.bl false):=by
 rcases h with ⟨ds,rfl⟩|rfl|⟨z,rfl⟩|⟨s,rfl⟩|⟨ks,rfl⟩
 ·simp_arith only [aJ,di,show isiN "tuple" "list"=false from by decide+kernel,Nat.sub_self,List.replicate_zero,if_true]
 ·simp_arith only [aJ,di,show isiN "NoneType" "list"=false from by decide+kernel,Nat.sub_self,List.replicate_zero,if_true]
 ·simp_arith only [aJ,di,show isiN "int" "list"=false from by decide+kernel,Nat.sub_self,List.replicate_zero,if_true]
 ·simp_arith only [aJ,di,show isiN "str" "list"=false from by decide+kernel,Nat.sub_self,List.replicate_zero,if_true]
 ·simp_arith only [aJ,di,show isiN "dict" "list"=false from by decide+kernel,Nat.sub_self,List.replicate_zero,if_true]
noncomputable def Sp (wd:Int) (d:Dv):Prop:=aJ [d,.int wd]=some (.bl false)/\dNeY d d=some (.bl false)
theorem dk {wd:Int}{n:Nat} (h:Hl) (a:Nat) (bad:Dv) (ha:a<h.length) (hl:h.length<=63) (hr: ∀p∈h,p.1.length<=100) (w1:1<=wd) (w8:wd<=8) (hb:M_is_entry [bad,.int wd]=some (.bl false)) (ly:Lay n bad) (h3:3<=n) (hn:n<=50):Sp wd (.lst ((h.map ent).set a bad)):=
 ⟨xr h a bad ha hl hr w1 w8 hb,xm (xt h a bad ly h3) (by lia)⟩
theorem mX {wd:Int} (L:Hl) (hl:L.length<=1000) (hr: ∀p∈L,p.1.length<=100) (w1:1<=wd) (w8:wd<=8) (h:ris L=false):Sp wd (encH L):=by
 refine ⟨?_,vj L⟩
 rw [mU L wd hl hr w1 w8,h,Bool.and_false]
theorem lay2 {n:Nat}{a b:Dv} (ha:Lay n a) (hb:Lay n b):Lay (n+1) (.tup [a,b]):=dG fun d hd=>by
 simp only [List.mem_cons,List.not_mem_nil,or_false] at hd
 rcases hd with rfl|rfl
 ·exact ha
 ·exact hb
section
variable (h:Hl) (a:Nat) (r:List Int) (w way c wd:Int) (hp:h[a]?=some (r,w)) (rise:Rise h) (hl:h.length<=63) (hr: ∀p∈h,(p.1.length:Int)=wd) (bs:Bs w) (w1:1<=wd) (w8:wd<=8)
include hp rise hl hr bs w1 w8
theorem xu (y0:0<=way) (y1:way<19): ∃d,M_w_spoiled [encH h,.int (a:Int),.int way,.int c]=some d/\Sp wd d:=by
 have ha:a<h.length:=(List.getElem?_eq_some_iff.mp hp).1
 have hr100: ∀p∈h,p.1.length<=100:=fun p q=>by have:=hr p q;lia
 have hrl:(r.length:Int)=wd:=hr _ (List.mem_of_getElem? hp)
 have a0:atI (h.map ent) (a:Int)=some (.tup [.tup (r.map .int),.int w]):=by
  refine eW (by lia) ?_
  rw [Int.toNat_natCast,List.getElem?_map,hp]
  rfl
 have sl: ∀v1 v2 v3,sSetL 4 (af bH (ab (eVar 0) aNil)) [some (encH h),v1,v2,v3,none,none,none]=some (.nx [some (encH h),v1,v2,v3,some (encH h),none,none]):=fun v1 v2 v3=>by
  have:af bH (ab (eVar 0) aNil) [some (encH h),v1,v2,v3,none,none,none]=some (encH h):=by simp_arith only [iK]
  unfold sSetL
  rw [this]
  rfl
 have rep:List.replicate (7-4) (none:Option Dv)=[none,none,none]:=rfl
 have lm:(h.map ent).length=h.length:=List.length_map ..
 have put: ∀(mv:EM) (v:Dv),mv [some (encH h),some (.int (a:Int)),some (.int way),some (.int c),some (encH h),some (.tup (r.map .int)),some (.int w)]=some v->bT 4 (eVar 1) mv [some (encH h),some (.int (a:Int)),some (.int way),some (.int c),some (encH h),some (.tup (r.map .int)),some (.int w)]=some (.nx [some (encH h),some (.int (a:Int)),some (.int way),some (.int c),some (.lst ((h.map ent).set a v)),some (.tup (r.map .int)),some (.int w)]):=fun mv v e=>jh (i:=4) (mk:=eVar 1) e rfl rfl (by rw [lm];exact ha)
 by_cases cA:way=0/\0<(a:Int)
 ·obtain ⟨h0,h1⟩:=cA
  subst h0
  obtain ⟨b,rfl⟩: ∃b,a=b+1:=⟨a-1,by lia⟩
  obtain ⟨q,hq⟩: ∃q,h[b]?=some q:=⟨_,List.getElem?_eq_getElem (by lia)⟩
  have a1:atI (h.map ent) (((b+1:Nat):Int)-1)=some (ent q):=by
   rw [show ((b+1:Nat):Int)-1=(b:Int) by lia]
   refine eW (by lia) ?_
   rw [Int.toNat_natCast,List.getElem?_map,hq]
   rfl
  have p1:=jh (i:=4) (mk:=eOp dSub (eVar 1) (eC (.int 1))) (mv:=eOp dIx (eVar 0) (eVar 1)) (δ:=[some (encH h),some (.int ((b+1:Nat):Int)),some (.int 0),some (.int c),some (encH h),some (.tup (r.map .int)),some (.int w)]) (ds:=h.map ent) (v:=ent (r,w)) (n:=b) (by simp_arith only [a0];rfl) (by simp_arith only [cj];congr 2;lia) rfl (by rw [lm];lia)
  have p2:=jh (i:=4) (mk:=eVar 1) (mv:=eOp dIx (eVar 0) (eOp dSub (eVar 1) (eC (.int 1)))) (δ:=[some (encH h),some (.int ((b+1:Nat):Int)),some (.int 0),some (.int c),some (.lst ((h.map ent).set b (ent (r,w)))),some (.tup (r.map .int)),some (.int w)]) (ds:=(h.map ent).set b (ent (r,w))) (v:=ent q) (n:=b+1) (by simp_arith only [a1]) rfl rfl (by rw [List.length_set,lm];lia)
  refine ⟨encH ((h.set b (r,w)).set (b+1) q),?_,?_⟩
  ·rw [show encH ((h.set b (r,w)).set (b+1) q)= .lst (((h.map ent).set b (ent (r,w))).set (b+1) (ent q)) by rw [<-List.map_set,<-List.map_set]]
   simp_arith only [M_w_spoiled,cO,rep,sl,a0,decide_eq_true h1,p1,p2,decide_true]
  ·refine mX _ (by rw [List.length_set,List.length_set];lia) (fun p hp=> ?_) w1 w8 (ja (k:=b) (p:=(r,w)) (q:=q) ?_ ?_ ?_)
   ·rcases List.mem_or_eq_of_mem_set hp with z|rfl
    ·rcases List.mem_or_eq_of_mem_set z with z|rfl
     ·exact hr100 p z
     ·show r.length<=100;lia
    ·exact hr100 _ (List.mem_of_getElem? hq)
   ·rw [List.getElem?_set_ne (by lia),List.getElem?_set_self (by lia)]
   ·rw [List.getElem?_set_self (by rw [List.length_set];lia)]
   ·refine mV _ _ ?_
    have e1:=(List.getElem?_eq_some_iff.mp hq).2
    have e2:=(List.getElem?_eq_some_iff.mp hp).2
    have:=List.pairwise_iff_getElem.mp rise b (b+1) (by lia) ha (by lia)
    rw [e1,e2] at this
    exact this
 have qA:tand (tOf (eOp dEq (eVar 2) (eC (.int 0)))) (tOf (eOp dGt (eVar 1) (eC (.int 0)))) [some (encH h),some (.int (a:Int)),some (.int way),some (.int c),some (encH h),some (.tup (r.map .int)),some (.int w)]=some false:=by
  by_cases c1:way=0
  ·simp_arith only [decide_eq_true c1,decide_eq_false (fun z=>cA ⟨c1,z⟩)]
  ·simp_arith only [decide_eq_false c1]
 by_cases cB:way<3
 ·obtain ⟨m0,m1⟩:=bd way 2 (by decide)
  obtain ⟨n,hn⟩:=Int.eq_ofNat_of_zero_le m0
  have p1:=xq (i:=4) (mi:=eOp dAdd (eVar 1) (eOp dMod (eVar 2) (eC (.int 2)))) (m:=eTup (ab (eVar 5) (ab (eOp dAdd (eVar 6) (eVar 2)) aNil))) (δ:=[some (encH h),some (.int (a:Int)),some (.int way),some (.int c),some (encH h),some (.tup (r.map .int)),some (.int w)]) (ds:=h.map ent) (v:=ent (r,w+way)) (n:=a+n) (by simp_arith only [hn];rfl) (by simp_arith only [cj];rfl) rfl (by rw [lm];lia) (by rw [lm];lia)
  refine ⟨encH (h.take (a+n)++(r,w+way)::h.drop (a+n)),?_,?_⟩
  ·rw [show encH (h.take (a+n)++(r,w+way)::h.drop (a+n))= .lst ((h.map ent).take (a+n)++ent (r,w+way)::(h.map ent).drop (a+n)) by rw [<-List.map_take,<-List.map_drop,<-List.map_cons,<-List.map_append]]
   simp_arith only [M_w_spoiled,cO,rep,sl,a0,↓qA,decide_eq_true cB,p1]
  ·refine mX _ (by rw [List.length_append,List.length_cons,List.length_take,List.length_drop];lia) (fun p hp=> ?_) w1 w8 ?_
   ·rcases List.mem_append.mp hp with z|z
    ·exact hr100 p (List.mem_of_mem_take z)
    ·rcases List.mem_cons.mp z with rfl|z
     ·show r.length<=100;lia
     ·exact hr100 p (List.mem_of_mem_drop z)
   ·have n01:n=0 \/n=1:=by lia
    rcases n01 with rfl|rfl
    ·refine ja (k:=a) (p:=(r,w+way)) (q:=(r,w)) ?_ ?_ (lex_irr r)
     ·rw [List.getElem?_append_right (by rw [List.length_take];lia),List.length_take,Nat.add_zero,Nat.min_eq_left (by lia),Nat.sub_self]
      rfl
     ·rw [List.getElem?_append_right (by rw [List.length_take];lia),List.length_take,Nat.add_zero,Nat.min_eq_left (by lia),show a+1-a=1 by lia,List.getElem?_cons_succ,List.getElem?_drop,Nat.add_zero]
      exact hp
    ·refine ja (k:=a) (p:=(r,w)) (q:=(r,w+way)) ?_ ?_ (lex_irr r)
     ·rw [List.getElem?_append_left (by rw [List.length_take];lia),List.getElem?_take,if_pos (by lia)]
      exact hp
     ·rw [List.getElem?_append_right (by rw [List.length_take];lia),List.length_take,Nat.min_eq_left (by lia),Nat.sub_self]
      rfl
 by_cases cC:way<7
 ·obtain ⟨x,hx,ex⟩:=fY (xs:=[Dv.int 0,.bl true,.non,.str "1"]) (i:=way-3) (by lia) (by show way-3<4;lia)
  have p1:=put (eTup (ab (eVar 5) (ab (eOp dIx (eLst (ab (eC (.int 0)) (ab (eC (.bl true)) (ab (eC .non) (ab (eC (.str "1")) aNil))))) (eOp dSub (eVar 2) (eC (.int 3)))) aNil))) (.tup [.tup (r.map .int),x]) (by simp_arith only [ex])
  refine ⟨_,by simp_arith only [M_w_spoiled,cO,rep,sl,a0,↓qA,decide_eq_false cB,decide_eq_true cC,p1];rfl,?_⟩
  simp only [List.mem_cons,List.not_mem_nil,or_false] at hx
  rcases hx with rfl|rfl|rfl|rfl
  ·refine dk (n:=3) h a _ ha hl hr100 w1 w8 ?_ (jf (r,0)) (by decide) (by decide)
   have:=i8 (r,0) wd (by show r.length<=100;lia) w1 w8
   have g0:gd wd (r,0)=false:=by unfold gd;rw [decide_eq_true (show ((r,(0:Int)).2=0) from rfl),Bool.not_true,Bool.and_false]
   rw [g0] at this
   exact this
  ·exact dk (n:=3) h a _ ha hl hr100 w1 w8 (i9 r _ wd rfl rfl (by lia) w1 w8) (lay2 (cQ r) ((jd _).le (by decide))) (by decide) (by decide)
  ·exact dk (n:=3) h a _ ha hl hr100 w1 w8 (i9 r _ wd rfl rfl (by lia) w1 w8) (lay2 (cQ r) (je.le (by decide))) (by decide) (by decide)
  ·exact dk (n:=3) h a _ ha hl hr100 w1 w8 (i9 r _ wd rfl rfl (by lia) w1 w8) (lay2 (cQ r) ((gG _).le (by decide))) (by decide) (by decide)
 by_cases cD:way<11
 ·obtain ⟨d,hd,hf,ly⟩:=xp r (way-7) c wd hrl w1 w8 (by lia) (by lia)
  have p1:=put (eTup (ab (af M_w_row_spoiled (ab (eVar 5) (ab (eOp dSub (eVar 2) (eC (.int 7))) (ab (eVar 3) aNil)))) (ab (eVar 6) aNil))) (.tup [d,.int w]) (by simp_arith only [hd])
  exact ⟨_,by simp_arith only [M_w_spoiled,cO,rep,sl,a0,↓qA,decide_eq_false cB,decide_eq_false cC,decide_eq_true cD,p1],dk (n:=5) h a _ ha hl hr100 w1 w8 (gE hf) (lay2 ly ((cP w).le (by decide))) (by decide) (by decide)⟩
 by_cases cE:way=11
 ·have p1:=put (eTup (ab (eVar 5) (ab (eVar 6) (ab (eVar 6) aNil)))) (.tup [.tup (r.map .int),.int w,.int w]) (by simp_arith only [cj])
  refine ⟨_,by simp_arith only [M_w_spoiled,cO,rep,sl,a0,↓qA,decide_eq_false cB,decide_eq_false cC,decide_eq_false cD,decide_eq_true cE,p1];rfl,dk (n:=3) h a _ ha hl hr100 w1 w8 (mQ _ wd (by show ((3:Nat):Int)≠2;decide)) (dG fun d hd=> ?_) (by decide) (by decide)⟩
  simp only [List.mem_cons,List.not_mem_nil,or_false] at hd
  rcases hd with rfl|rfl|rfl
  ·exact cQ _
  ·exact (cP _).le (by decide)
  ·exact (cP _).le (by decide)
 by_cases cF:way=12
 ·have p1:=put (eLst (ab (eVar 5) (ab (eVar 6) aNil))) (.lst [.tup (r.map .int),.int w]) (by simp_arith only [cj])
  refine ⟨_,by simp_arith only [M_w_spoiled,cO,rep,sl,a0,↓qA,decide_eq_false cB,decide_eq_false cC,decide_eq_false cD,decide_eq_false cE,decide_eq_true cF,p1];rfl,dk (n:=3) h a _ ha hl hr100 w1 w8 (xh _ wd) (jc fun d hd=> ?_) (by decide) (by decide)⟩
  simp only [List.mem_cons,List.not_mem_nil,or_false] at hd
  rcases hd with rfl|rfl
  ·exact cQ _
  ·exact (cP _).le (by decide)
 by_cases cG:way=13
 ·have p1:=put (eVar 5) (.tup (r.map .int)) rfl
  refine ⟨_,by simp_arith only [M_w_spoiled,cO,rep,sl,a0,↓qA,decide_eq_false cB,decide_eq_false cC,decide_eq_false cD,decide_eq_false cE,decide_eq_false cF,decide_eq_true cG,p1],dk (n:=3) h a _ ha hl hr100 w1 w8 ?_ ((cQ r).le (by decide)) (by decide) (by decide)⟩
  by_cases l2:(r.length:Int)=2
  ·obtain ⟨x,y,rfl⟩: ∃x y,r=[x,y]:=by
    match r,l2 with
    |[x,y],_=>exact ⟨x,y,rfl⟩
    |[],z=>simp at z
    |[_],z=>simp at z
    |_::_::_::_,z=>simp at z;lia
   exact gE (xb x wd)
  ·exact mQ _ wd (by rw [List.length_map];exact l2)
 ·obtain ⟨q0,q1⟩:=bd (way+(a:Int)) 5 (by decide)
  have fs:fStr [.int w]=some (.str (Str.ofString (toString w))):=by
   unfold fStr
   exact if_pos bs
  have kd:gr (eVar 5) (eVar 6) [some (encH h),some (.int (a:Int)),some (.int way),some (.int c),some (encH h),some (.tup (r.map .int)),some (.int w)]=some (.dic [(r.map Sum.inl,.int w)]):=by
   unfold gr
   show ((dKey (.tup (r.map .int))).bind _)=_
   rw [lT]
   rfl
  have tp:iU 4 [some (encH h),some (.int (a:Int)),some (.int way),some (.int c),some (encH h),some (.tup (r.map .int)),some (.int w)]=some (.tup (h.map ent)):=rfl
  obtain ⟨x,hx,ex⟩:=fY (xs:=[Dv.tup (h.map ent),.non,.int w,.str (Str.ofString (toString w)),.dic [(r.map Sum.inl,.int w)]]) (i:=(way+(a:Int))%5) q0 q1
  refine ⟨x,by simp_arith only [M_w_spoiled,cO,rep,sl,a0,↓qA,decide_eq_false cB,decide_eq_false cC,decide_eq_false cD,decide_eq_false cE,decide_eq_false cF,decide_eq_false cG,fs,kd,tp,ex],?_⟩
  simp only [List.mem_cons,List.not_mem_nil,or_false] at hx
  rcases hx with rfl|rfl|rfl|rfl|rfl
  ·exact ⟨fx _ _ (.inl ⟨_,rfl⟩),xn (dG (n:=3) fun d hd=>by obtain ⟨p,_,rfl⟩:=List.mem_map.mp hd;exact jf p) (by decide)⟩
  ·exact ⟨fx _ _ (.inr (.inl rfl)),dZ (d:= .non) je.1 (by decide)⟩
  ·exact ⟨fx _ _ (.inr (.inr (.inl ⟨_,rfl⟩))),dZ (d:= .int w) (cP w).1 (Nat.le_trans (cP w).2 (by decide))⟩
  ·exact ⟨fx _ _ (.inr (.inr (.inr (.inl ⟨_,rfl⟩)))),dZ (d:= .str (Str.ofString (toString w))) (gG _).1 (Nat.le_trans (gG _).2 (by decide))⟩
  ·exact ⟨fx _ _ (.inr (.inr (.inr (.inr ⟨_,rfl⟩)))),xo⟩
end
end K02
set_option maxHeartbeats 1000000
namespace K02
open PySem L2
theorem said (a b:Bool):bL [.bl a,.bl b]=some (.bl (decide (a=b))):=by
 have:dEq (.bl a) (.bl b)=some (.bl (decide (a=b))):=by cases a<;>cases b<;>rfl
 simp_arith only [bL,mM,show isiN "bool" "bool"=true from by decide+kernel,Nat.sub_self,List.replicate_zero,if_true,this]
theorem Ok.sub {wd:Int}{h g:Hl} (o:Ok wd h) (s:g.Sublist h):Ok wd g:=⟨⟨List.Pairwise.sublist s o.1.rise,fun p hp=>o.1.nz p (s.subset hp)⟩,Nat.le_trans s.length_le o.2.1,fun p hp=>o.2.2 p (s.subset hp)⟩
theorem ji {wd asked:Int}{h:Hl} (o:Ok wd h) (w8:wd<=8) (a1:1<=asked) (a8:asked<=8):aJ [encH h,.int asked]=some (.bl (decide (asked=wd)||decide (h=[]))):=by
 rw [mU h asked (by have:=o.2.1;lia) (fun p hp=>by have:=(o.2.2 p hp).1;lia) a1 a8,xk o.1.rise,Bool.and_true]
 congr 2
 by_cases e:h=[]
 ·subst e
  rw [decide_eq_true rfl,Bool.or_true]
  rfl
 ·rw [decide_eq_false e,Bool.or_false]
  by_cases e2:asked=wd
  ·subst e2
   rw [decide_eq_true rfl,List.all_eq_true]
   intro p hp
   unfold gd
   rw [decide_eq_true (o.2.2 p hp).1,decide_eq_false (o.1.nz p hp)]
   rfl
  ·rw [decide_eq_false e2,List.all_eq_false]
   obtain ⟨p,hp⟩:=List.exists_mem_of_ne_nil h e
   refine ⟨p,hp,?_⟩
   unfold gd
   rw [decide_eq_false (fun z=>e2 (z.symm.trans (o.2.2 p hp).1)),Bool.false_and]
   exact Bool.false_ne_true
theorem mY {wd:Int}{h:Hl} (o:Ok wd h) (w1:1<=wd) (w8:wd<=8):aJ [encH h,.int wd]=some (.bl true):=by
 rw [ji o w8 w1 w8,decide_eq_true rfl,Bool.true_or]
theorem xv (h:Hl):dEq (encH h) (.lst [])=some (.bl (decide (h=[]))):=by
 cases h with
 |nil=>exact vi []
 |cons p h=>
  have hn:=vA (p:=p) (h:=h)
  rw [decide_eq_false (List.cons_ne_nil p h)]
  unfold dNe at hn
  unfold dEq
  split at hn
  ·next c=>
   rw [if_pos c]
   have:=Dv.bl.inj (Option.some.inj hn)
   congr 2
  ·cases hn
theorem xw (wd:Int) (h:Hl) (o:Ok wd h) (w1:1<=wd) (w8:wd<=8) (v0 v1 v5 v6 v7 v8 v9 v10 v11:Option Dv):
  ∃u4,loopM (gN 4) gB (aF 1 8) [v0,v1,some (.int wd),some (encH h),none,v5,v6,v7,v8,v9,v10,v11]=some (.nx [v0,v1,some (.int wd),some (encH h),u4,v5,v6,v7,v8,v9,v10,v11]):=by
 obtain ⟨δ',e,u4,rfl⟩:=fX (g:=gN 4) (body:=gB) (ds:=aF 1 8) (δ:=[v0,v1,some (.int wd),some (encH h),none,v5,v6,v7,v8,v9,v10,v11])
  (fun i δ=> ∃u4:Option Dv,δ=[v0,v1,some (.int wd),some (encH h),u4,v5,v6,v7,v8,v9,v10,v11]) ⟨none,rfl⟩ (by
  rintro i d δ hd ⟨u4,rfl⟩
  obtain ⟨k,hk,rfl⟩:=eY (List.mem_of_getElem? hd)
  have e1:=ji (asked:=1+(k:Int)) o w8 (by lia) (by lia)
  have e2:=ji (wd:=wd) (asked:=1+(k:Int)) (h:=[]) ⟨⟨List.Pairwise.nil,fun _ z=>nomatch z⟩,Nat.zero_le _,fun _ z=>nomatch z⟩ w8 (by lia) (by lia)
  rw [decide_eq_true (rfl:([]:Hl)=[]),Bool.or_true] at e2
  replace e2:aJ [.lst [],.int (1+(k:Int))]=some (.bl true):=e2
  have dq:eOr (eOp dEq (eVar 4) (eVar 2)) (eOp dEq (eVar 3) (dt aNil)) [v0,v1,some (.int wd),some (encH h),some (.int (1+(k:Int))),v5,v6,v7,v8,v9,v10,v11]=some (.bl (decide (1+(k:Int)=wd)||decide (h=[]))):=by
   have de:=xv h
   by_cases c:1+(k:Int)=wd
   ·simp_arith only [decide_eq_true c,Bool.true_or]
   ·simp_arith only [decide_eq_false c,Bool.false_or,de]
  have s1:=said (decide (1+(k:Int)=wd)||decide (h=[])) (decide (1+(k:Int)=wd)||decide (h=[]))
  have s2:=said true true
  rw [decide_eq_true rfl] at s1 s2
  generalize (decide (1+(k:Int)=wd)||decide (h=[]))=B at*
  exact ⟨_,_,rfl,by simp_arith only [gB,iK,e1,dq,s1,e2,s2];rfl,⟨_,rfl⟩⟩)
 exact ⟨u4,e⟩
theorem jj {wd:Int}{h:Hl} (o:Ok wd h) (l u:Option Int):Ok wd (cutD h l u):=o.sub (by
 unfold cutD
 exact (List.take_sublist ..).trans (List.drop_sublist ..))
theorem jk {m:EM}{lo hi:Dt->Option (Option Int)}{δ:Dt}{h:Hl}{l u:Option Int} (h1:m δ=some (encH h)) (h2:lo δ=some l) (h3:hi δ=some u):eSl m lo hi δ=some (encH (cutD h l u)):=by
 unfold eSl
 rw [h1,h2,h3]
 show (if _ then _ else _)=_
 rw [encH,<-fW,if_pos (by rw [fW];exact iK)]
end K02
set_option maxHeartbeats 1000000
namespace K02
open PySem L2
theorem xx {h:Hl}{a b:Int}{j:Nat}{p:List Int×Int} (a0:0<=a) (b0:0<=b) (hj:a+j<b) (hp:h[a.toNat+j]?=some p):(cutD h (some a) (some b))[j]?=some p:=by
 have hl:=(List.getElem?_eq_some_iff.mp hp).1
 unfold cutD
 have e1:HT.sIx h.length 0 (some a)=a.toNat:=by
  unfold HT.sIx
  simp only
  rw [if_neg (by lia)]
  lia
 have e2:j<HT.sIx h.length h.length (some b)-a.toNat:=by
  unfold HT.sIx
  simp only
  rw [if_neg (by lia)]
  lia
 rw [e1,List.getElem?_take,if_pos e2,List.getElem?_drop]
 exact hp
theorem mZ (wd:Int) (few:Hl) (b:Nat) (r:List Int) (w x:Int) (o:Ok wd few) (hb:few[b]?=some (r,w)) (w1:1<=wd) (w8:wd<=8) (v0 v1 v3 v4 v5 v7 v10 v11:Option Dv):
  ∃u10 u11,(sSeq (sSet 10 (eOp dMod (eOp dDiv (eVar 6) (eC (.int 64))) (eC (.int 19))))
  (sSeq (sSet 11 (af M_w_spoiled (ab (eVar 8) (ab (eVar 9) (ab (eVar 10) (ab (eOp dDiv (eVar 6) (eC (.int 40000))) aNil))))))
  (sIf (tor (tnot (tOf (af bL (ab (af aJ (ab (eVar 11) (ab (eVar 2) aNil))) (ab (eC (.bl false)) aNil))))) (tOf (eOp dNeY (eVar 11) (af M_w_spoiled (ab (eVar 8) (ab (eVar 9) (ab (eVar 10) (ab (eOp dDiv (eVar 6) (eC (.int 40000))) aNil))))))))
   (sRet (eC (.bl false)))
   aO))) [v0,v1,some (.int wd),v3,v4,v5,some (.int x),v7,some (encH few),some (.int (b:Int)),v10,v11]=some (.nx [v0,v1,some (.int wd),v3,v4,v5,some (.int x),v7,some (encH few),some (.int (b:Int)),u10,u11]):=by
 obtain ⟨q0,q1⟩:=bd (x/64) 19 (by decide)
 obtain ⟨d,hd,s1,s2⟩:=xu few b r w (x/64%19) (x/40000) wd hb o.1.rise o.2.1 (fun p hp=>(o.2.2 p hp).1) ((o.2.2 _ (List.mem_of_getElem? hb)).2) w1 w8 q0 q1
 have sd:=said false false
 rw [decide_eq_true rfl] at sd
 exact ⟨_,_,by simp_arith only [hd,s1,sd,s2];rfl⟩
theorem xy (cs:List Int) (wd:Int) (h:Hl) (o:Ok wd h) (hne:cs≠[]->h≠[]) (hcl:cs.length<=63) (w1:1<=wd) (w8:wd<=8) (v0 v4:Option Dv):
  ∃u5 u6 u7 u8 u9 u10 u11,loopM (gN 5) fv (aF 0 cs.length) [v0,some (.lst (cs.map .int)),some (.int wd),some (encH h),v4,none,none,none,none,none,none,none]=some (.nx [v0,some (.lst (cs.map .int)),some (.int wd),some (encH h),v4,u5,u6,u7,u8,u9,u10,u11]):=by
 obtain ⟨δ',e,u5,u6,u7,u8,u9,u10,u11,rfl⟩:=fX (g:=gN 5) (body:=fv) (ds:=aF 0 cs.length) (δ:=[v0,some (.lst (cs.map .int)),some (.int wd),some (encH h),v4,none,none,none,none,none,none,none])
  (fun i δ=> ∃u5 u6 u7 u8 u9 u10 u11:Option Dv,δ=[v0,some (.lst (cs.map .int)),some (.int wd),some (encH h),v4,u5,u6,u7,u8,u9,u10,u11]) ⟨_,_,_,_,_,_,_,rfl⟩ (by
  rintro i d δ hd ⟨u5,u6,u7,u8,u9,u10,u11,rfl⟩
  have hi:i<cs.length:=by
   have:=(List.getElem?_eq_some_iff.mp hd).1
   rwa [ci] at this
  rw [fO hi] at hd
  cases hd
  have hpos:0<h.length:=List.length_pos_iff.mpr (hne (List.length_pos_iff.mp (by lia)))
  have ac:=ik (zs:=cs) (i:=0+(i:Int)) (by lia) (by lia)
  obtain ⟨x,ex,_⟩:=eG (cs.getD (0+(i:Int)).toNat 0) (0+(i:Int)+70) (by lia) (by lia)
  have hp2:0<(h.length:Int):=by lia
  obtain ⟨a0,a1⟩:=bd x (h.length:Int) hp2
  obtain ⟨⟨r,w⟩,hrw⟩: ∃p,h[(x%(h.length:Int)).toNat]?=some p:=⟨_,List.getElem?_eq_getElem (by lia)⟩
  have qif:(sIf (tOf (eOp dEq (eOp dMod (eVar 5) (eC (.int 9))) (eC (.int 0))))
   (sIf (tor (tnot (tOf (af bL (ab (af aJ (ab (eSl (eVar 3) (aV (eVar 7)) bo) (ab (eVar 2) aNil))) (ab (eC (.bl true)) aNil))))) (tnot (tOf (af bL (ab (af aJ (ab (eSl (eVar 3) bo (aV (eVar 7))) (ab (eVar 2) aNil))) (ab (eC (.bl true)) aNil))))))
   (sRet (eC (.bl false)))
   aO)
   aO) [v0,some (.lst (cs.map .int)),some (.int wd),some (encH h),v4,some (.int (0+(i:Int))),some (.int x),some (.int (x%(h.length:Int))),u8,u9,u10,u11]=some (.nx [v0,some (.lst (cs.map .int)),some (.int wd),some (encH h),v4,some (.int (0+(i:Int))),some (.int x),some (.int (x%(h.length:Int))),u8,u9,u10,u11]):=by
   by_cases c9:(0+(i:Int))%9=0
   ·have s1:=jk (m:=eVar 3) (lo:=aV (eVar 7)) (hi:=bo) (δ:=[v0,some (.lst (cs.map .int)),some (.int wd),some (encH h),v4,some (.int (0+(i:Int))),some (.int x),some (.int (x%(h.length:Int))),u8,u9,u10,u11]) rfl rfl rfl
    have s2:=jk (m:=eVar 3) (lo:=bo) (hi:=aV (eVar 7)) (δ:=[v0,some (.lst (cs.map .int)),some (.int wd),some (encH h),v4,some (.int (0+(i:Int))),some (.int x),some (.int (x%(h.length:Int))),u8,u9,u10,u11]) rfl rfl rfl
    have k1:=mY (jj o (some (x%(h.length:Int))) none) w1 w8
    have k2:=mY (jj o none (some (x%(h.length:Int)))) w1 w8
    have sd:=said true true
    rw [decide_eq_true rfl] at sd
    generalize cutD h (some (x%(h.length:Int))) none=A at s1 k1
    generalize cutD h none (some (x%(h.length:Int)))=B at s2 k2
    simp_arith only [decide_eq_true c9,s1,s2,k1,k2,sd]
   ·simp_arith only [decide_eq_false c9]
  have s3:=jk (m:=eVar 3) (lo:=aV (af gt (ab (eC (.int 0)) (ab (eOp dSub (eVar 7) (eC (.int 2))) aNil)))) (hi:=aV (eOp dAdd (eVar 7) (eC (.int 3)))) (δ:=[v0,some (.lst (cs.map .int)),some (.int wd),some (encH h),v4,some (.int (0+(i:Int))),some (.int x),some (.int (x%(h.length:Int))),u8,u9,u10,u11]) rfl rfl rfl
  by_cases c16:x/2048%16=0
  ·obtain ⟨n,hn⟩:=Int.eq_ofNat_of_zero_le a0
   rw [hn,Int.toNat_natCast] at hrw
   obtain ⟨w10,w11,et⟩:=mZ wd h n r w x o hrw w1 w8 v0 (some (.lst (cs.map .int))) (some (encH h)) v4 (some (.int (0+(i:Int)))) (some (.int (x%(h.length:Int)))) u10 u11
   rw [<-hn] at et
   exact ⟨_,_,rfl,by simp_arith only [fv,ac,ex,hp2,↓qif,↓s3,mD,decide_eq_true c16,↓et];rfl,⟨_,_,_,_,_,_,_,rfl⟩⟩
  ·have of:=jj o (some (if x%(h.length:Int)-2>0 then x%(h.length:Int)-2 else 0)) (some (x%(h.length:Int)+3))
   obtain ⟨n,hn⟩: ∃n:Nat,(if 2<x%(h.length:Int) then (2:Int) else x%(h.length:Int))=(n:Int):=Int.eq_ofNat_of_zero_le (by split<;>lia)
   have hb:=xx (h:=h) (a:=if x%(h.length:Int)-2>0 then x%(h.length:Int)-2 else 0) (b:=x%(h.length:Int)+3) (j:=n) (p:=(r,w)) (by split<;>lia) (by lia) (by split<;>split at hn<;>lia) (by
    rw [<-hrw]
    congr 1
    split<;>split at hn<;>lia)
   obtain ⟨w10,w11,et⟩:=mZ wd _ n r w x of hb w1 w8 v0 (some (.lst (cs.map .int))) (some (encH h)) v4 (some (.int (0+(i:Int)))) (some (.int (x%(h.length:Int)))) u10 u11
   rw [<-hn] at et
   generalize cutD h (some (if x%(h.length:Int)-2>0 then x%(h.length:Int)-2 else 0)) (some (x%(h.length:Int)+3))=few at*
   exact ⟨_,_,rfl,by simp_arith only [fv,ac,ex,hp2,↓qif,↓s3,mD,decide_eq_false c16,↓et];rfl,⟨_,_,_,_,_,_,_,rfl⟩⟩)
 exact ⟨u5,u6,u7,u8,u9,u10,u11,e⟩
theorem xz (ns:List Int) (hl:ns.length<=63):eE [.scr ns]=some (.bl true):=by
 have hc:cutD (ns.map Dv.int) none (some 63)=(ns.take 63).map .int:=by
  rw [fW]
  exact congrArg _ (lj ns 63)
 have hcl:(ns.take 63).length<=63:=by rw [List.length_take];lia
 generalize ns.take 63=cs at hc hcl
 obtain ⟨x,ex,x0,x1⟩:=eG cs.sum 1 (by decide) (by decide)
 obtain ⟨y,ey,y0,y1⟩:=eG cs.sum 2 (by decide) (by decide)
 obtain ⟨a0,a1⟩:=bd x 8 (by decide)
 obtain ⟨b0,b1⟩:=bd y 3 (by decide)
 obtain ⟨h,o,hne,eh⟩:=xa cs (1+x%8) (y%3) hcl (by lia) (by lia) b0 b1
 obtain ⟨u4,e1⟩:=xw (1+x%8) h o (by lia) (by lia) (some (.scr ns)) (some (.lst (cs.map .int))) none none none none none none none
 obtain ⟨u5,u6,u7,u8,u9,u10,u11,e2⟩:=xy cs (1+x%8) h o hne hcl (by lia) (by lia) (some (.scr ns)) u4
 have hr1: ∀v3 v4 v5 v6 v7 v8 v9 v10 v11,iR2 (eC (.int 1)) (eC (.int 9)) [some (.scr ns),some (.lst (cs.map .int)),some (.int (1+x%8)),v3,v4,v5,v6,v7,v8,v9,v10,v11]=some (aF 1 8):=fun _ _ _ _ _ _ _ _ _=>rfl
 have hr2: ∀v3 v4 v5 v6 v7 v8 v9 v10 v11,iR1 (af fLen (ab (eVar 1) aNil)) [some (.scr ns),some (.lst (cs.map .int)),some (.int (1+x%8)),v3,v4,v5,v6,v7,v8,v9,v10,v11]=some (aF 0 cs.length):=fun _ _ _ _ _ _ _ _ _=>fV (j:=(cs.length:Int)) (by simp_arith only [cj]) (by lia)
 simp_arith-implicitDefEqProofs only [eE,mO,hc,ex,ey,eh,hr1,e1,hr2,e2]
end K02
set_option maxHeartbeats 4000000
namespace K02
open PySem L2
theorem xA {l:PySem.W.OpenLaw}{w:World}{K:PySem.W.Frag}{h:Heap}{mg:Str->Option Value}{fa f1 f2 f3 f4 f5 f6 f7 f8 f9 f10 f11 f12 f13 f14:Addr} (X:K.In h) (G:h.Ns mainGlobals mg) (hfa:mg "law"=some (.ref fa))
  {od1 an1 od2 an2 od3 an3 od4 an4 od5 an5 od6 an6 od7 an7 od8 an8 od9 an9 od10 an10 od11 an11 od12 an12 od13 an13 od14 an14:Option Addr}{sl1 sl2 sl3 sl4 sl5 sl6 sl7 sl8 sl9 sl10 sl11 sl12 sl13 sl14:Array (Option Value)}{oc1 kV1 dc1 pm1 cd1 ct1 oc2 kV2 dc2 pm2 cd2 ct2 oc3 kV3 dc3 pm3 cd3 ct3 oc4 kV4 dc4 pm4 cd4 ct4 oc5 kV5 dc5 pm5 cd5 ct5 oc6 kV6 dc6 pm6 cd6 ct6 oc7 kV7 dc7 pm7 cd7 ct7 oc8 kV8 dc8 pm8 cd8 ct8 oc9 kV9 dc9 pm9 cd9 ct9 oc10 kV10 dc10 pm10 cd10 ct10 oc11 kV11 dc11 pm11 cd11 ct11 oc12 kV12 dc12 pm12 cd12 ct12 oc13 kV13 dc13 pm13 cd13 ct13 oc14 kV14 dc14 pm14 cd14 ct14:Value}
  {tWIDEST:Tok}
  (a1:PySem.W.nsIn K mainGlobals "is_whole"=some (some (.ref f1))) (l1:K.lookup f1=some ⟨oc1,od1,.func (PySem.W.fnOf "is_whole" "is_whole" (aX d4) (aQ d4) (aq d4) .none kV1 dc1 pm1 an1 cd1 ct1),sl1⟩) (c1:PySem.W.codeIn K cd1 "is_whole"=true) (k1:PySem.W.keepIn K (.ref f1)=true)
  (a2:PySem.W.nsIn K mainGlobals "is_rising"=some (some (.ref f2))) (l2:K.lookup f2=some ⟨oc2,od2,.func (PySem.W.fnOf "is_rising" "is_rising" (aX d5) (aQ d5) (aq d5) .none kV2 dc2 pm2 an2 cd2 ct2),sl2⟩) (c2:PySem.W.codeIn K cd2 "is_rising"=true) (k2:PySem.W.keepIn K (.ref f2)=true)
  (a3:PySem.W.nsIn K mainGlobals "_law_mixed"=some (some (.ref f3))) (l3:K.lookup f3=some ⟨oc3,od3,.func (PySem.W.fnOf "_law_mixed" "_law_mixed" (aX d6) (aQ d6) (aq d6) .none kV3 dc3 pm3 an3 cd3 ct3),sl3⟩) (c3:PySem.W.codeIn K cd3 "_law_mixed"=true) (k3:PySem.W.keepIn K (.ref f3)=true)
  (a4:PySem.W.nsIn K mainGlobals "_law_number"=some (some (.ref f4))) (l4:K.lookup f4=some ⟨oc4,od4,.func (PySem.W.fnOf "_law_number" "_law_number" (aX d7) (aQ d7) (aq d7) .none kV4 dc4 pm4 an4 cd4 ct4),sl4⟩) (c4:PySem.W.codeIn K cd4 "_law_number"=true) (k4:PySem.W.keepIn K (.ref f4)=true)
  (a5:PySem.W.nsIn K mainGlobals "_law_row_spoiled"=some (some (.ref f5))) (l5:K.lookup f5=some ⟨oc5,od5,.func (PySem.W.fnOf "_law_row_spoiled" "_law_row_spoiled" (aX d8) (aQ d8) (aq d8) .none kV5 dc5 pm5 an5 cd5 ct5),sl5⟩) (c5:PySem.W.codeIn K cd5 "_law_row_spoiled"=true) (k5:PySem.W.keepIn K (.ref f5)=true)
  (a6:PySem.W.nsIn K mainGlobals "_law_said"=some (some (.ref f6))) (l6:K.lookup f6=some ⟨oc6,od6,.func (PySem.W.fnOf "_law_said" "_law_said" (aX d9) (aQ d9) (aq d9) .none kV6 dc6 pm6 an6 cd6 ct6),sl6⟩) (c6:PySem.W.codeIn K cd6 "_law_said"=true) (k6:PySem.W.keepIn K (.ref f6)=true)
  (a7:PySem.W.nsIn K mainGlobals "is_row"=some (some (.ref f7))) (l7:K.lookup f7=some ⟨oc7,od7,.func (PySem.W.fnOf "is_row" "is_row" (aX ee) (aQ ee) (aq ee) .none kV7 dc7 pm7 an7 cd7 ct7),sl7⟩) (c7:PySem.W.codeIn K cd7 "is_row"=true) (k7:PySem.W.keepIn K (.ref f7)=true)
  (a8:PySem.W.nsIn K mainGlobals "_law_row"=some (some (.ref f8))) (l8:K.lookup f8=some ⟨oc8,od8,.func (PySem.W.fnOf "_law_row" "_law_row" (aX eg) (aQ eg) (aq eg) .none kV8 dc8 pm8 an8 cd8 ct8),sl8⟩) (c8:PySem.W.codeIn K cd8 "_law_row"=true) (k8:PySem.W.keepIn K (.ref f8)=true)
  (a9:PySem.W.nsIn K mainGlobals "_law_weight"=some (some (.ref f9))) (l9:K.lookup f9=some ⟨oc9,od9,.func (PySem.W.fnOf "_law_weight" "_law_weight" (aX ej) (aQ ej) (aq ej) .none kV9 dc9 pm9 an9 cd9 ct9),sl9⟩) (c9:PySem.W.codeIn K cd9 "_law_weight"=true) (k9:PySem.W.keepIn K (.ref f9)=true)
  (a10:PySem.W.nsIn K mainGlobals "_law_spoiled"=some (some (.ref f10))) (l10:K.lookup f10=some ⟨oc10,od10,.func (PySem.W.fnOf "_law_spoiled" "_law_spoiled" (aX em) (aQ em) (aq em) .none kV10 dc10 pm10 an10 cd10 ct10),sl10⟩) (c10:PySem.W.codeIn K cd10 "_law_spoiled"=true) (k10:PySem.W.keepIn K (.ref f10)=true)
  (a11:PySem.W.nsIn K mainGlobals "is_entry"=some (some (.ref f11))) (l11:K.lookup f11=some ⟨oc11,od11,.func (PySem.W.fnOf "is_entry" "is_entry" (aX eu) (aQ eu) (aq eu) .none kV11 dc11 pm11 an11 cd11 ct11),sl11⟩) (c11:PySem.W.codeIn K cd11 "is_entry"=true) (k11:PySem.W.keepIn K (.ref f11)=true)
  (a12:PySem.W.nsIn K mainGlobals "_law_heap_by"=some (some (.ref f12))) (l12:K.lookup f12=some ⟨oc12,od12,.func (PySem.W.fnOf "_law_heap_by" "_law_heap_by" (aX eA) (aQ eA) (aq eA) .none kV12 dc12 pm12 an12 cd12 ct12),sl12⟩) (c12:PySem.W.codeIn K cd12 "_law_heap_by"=true) (k12:PySem.W.keepIn K (.ref f12)=true)
  (a13:PySem.W.nsIn K mainGlobals "is_heap"=some (some (.ref f13))) (l13:K.lookup f13=some ⟨oc13,od13,.func (PySem.W.fnOf "is_heap" "is_heap" (aX eB) (aQ eB) (aq eB) .none kV13 dc13 pm13 an13 cd13 ct13),sl13⟩) (c13:PySem.W.codeIn K cd13 "is_heap"=true) (k13:PySem.W.keepIn K (.ref f13)=true)
  (a14:PySem.W.nsIn K mainGlobals "law"=some (some (.ref f14))) (l14:K.lookup f14=some ⟨oc14,od14,.func (PySem.W.fnOf "law" "law" (aX cM) (aQ cM) (aq cM) .none kV14 dc14 pm14 an14 cd14 ct14),sl14⟩) (c14:PySem.W.codeIn K cd14 "law"=true) (k14:PySem.W.keepIn K (.ref f14)=true)
  (z1:PySem.W.nsIn K mainGlobals "all"=some none)
  (z2:PySem.W.nsIn K mainGlobals "bool"=some none)
  (z3:PySem.W.nsIn K mainGlobals "int"=some none)
  (z4:PySem.W.nsIn K mainGlobals "isinstance"=some none)
  (z5:PySem.W.nsIn K mainGlobals "len"=some none)
  (z6:PySem.W.nsIn K mainGlobals "list"=some none)
  (z7:PySem.W.nsIn K mainGlobals "max"=some none)
  (z8:PySem.W.nsIn K mainGlobals "min"=some none)
  (z9:PySem.W.nsIn K mainGlobals "range"=some none)
  (z10:PySem.W.nsIn K mainGlobals "sorted"=some none)
  (z11:PySem.W.nsIn K mainGlobals "str"=some none)
  (z12:PySem.W.nsIn K mainGlobals "sum"=some none)
  (z13:PySem.W.nsIn K mainGlobals "tuple"=some none)
  (g1:PySem.W.nsIn K mainGlobals "WIDEST"=some (some (.int 8 tWIDEST)))
  : ∃fd:FuncData,(∀(s:Shared) (v:Value),BindsTo s fd ⟨[v],[]⟩ [("_law_script",v)])/\ ∀base:Heap,K.In base->base.Ns mainGlobals mg->FnOk l.prog w K mg base CX0 5 fa fd ["_law_script"] (spD K .imm eE):=by
 have e:=hfa.symm.trans (PySem.W.mg_of X G a14)
 cases e
 have B:Blt mg:=⟨PySem.W.mg_none_of X G z1,PySem.W.mg_none_of X G z2,PySem.W.mg_none_of X G z3,PySem.W.mg_none_of X G z4,PySem.W.mg_none_of X G z5,PySem.W.mg_none_of X G z6,PySem.W.mg_none_of X G z7,PySem.W.mg_none_of X G z8,PySem.W.mg_none_of X G z9,PySem.W.mg_none_of X G z10,PySem.W.mg_none_of X G z11,PySem.W.mg_none_of X G z12,PySem.W.mg_none_of X G z13⟩
 have G_WIDEST:=PySem.W.mg_of X G g1
 have F1:=bt (st:=d4) l1 c1 k1
 have b1:=F1.binds (ps:=["thing"]) fun _ _ _ _ _ _ us hl=>match us,hl with|[_],_=>rfl
 have F2:=bt (st:=d5) l2 c2 k2
 have b2:=F2.binds (ps:=["rows"]) fun _ _ _ _ _ _ us hl=>match us,hl with|[_],_=>rfl
 have F3:=bt (st:=d6) l3 c3 k3
 have b3:=F3.binds (ps:=["_law_cell","_law_k"]) fun _ _ _ _ _ _ us hl=>match us,hl with|[_,_],_=>rfl
 have F4:=bt (st:=d7) l4 c4 k4
 have b4:=F4.binds (ps:=["_law_cell"]) fun _ _ _ _ _ _ us hl=>match us,hl with|[_],_=>rfl
 have F5:=bt (st:=d8) l5 c5 k5
 have b5:=F5.binds (ps:=["_law_row_here","_law_way","_law_cell"]) fun _ _ _ _ _ _ us hl=>match us,hl with|[_,_,_],_=>rfl
 have F6:=bt (st:=d9) l6 c6 k6
 have b6:=F6.binds (ps:=["_law_found","_law_due"]) fun _ _ _ _ _ _ us hl=>match us,hl with|[_,_],_=>rfl
 have F7:=bt (st:=ee) l7 c7 k7
 have b7:=F7.binds (ps:=["thing","width"]) fun _ _ _ _ _ _ us hl=>match us,hl with|[_,_],_=>rfl
 have F8:=bt (st:=eg) l8 c8 k8
 have b8:=F8.binds (ps:=["_law_cell","_law_width","_law_way","_law_base"]) fun _ _ _ _ _ _ us hl=>match us,hl with|[_,_,_,_],_=>rfl
 have F9:=bt (st:=ej) l9 c9 k9
 have b9:=F9.binds (ps:=["_law_cell"]) fun _ _ _ _ _ _ us hl=>match us,hl with|[_],_=>rfl
 have F10:=bt (st:=em) l10 c10 k10
 have b10:=F10.binds (ps:=["_law_heap","_law_at","_law_way","_law_cell"]) fun _ _ _ _ _ _ us hl=>match us,hl with|[_,_,_,_],_=>rfl
 have F11:=bt (st:=eu) l11 c11 k11
 have b11:=F11.binds (ps:=["thing","width"]) fun _ _ _ _ _ _ us hl=>match us,hl with|[_,_],_=>rfl
 have F12:=bt (st:=eA) l12 c12 k12
 have b12:=F12.binds (ps:=["_law_script","_law_width","_law_way"]) fun _ _ _ _ _ _ us hl=>match us,hl with|[_,_,_],_=>rfl
 have F13:=bt (st:=eB) l13 c13 k13
 have b13:=F13.binds (ps:=["thing","width"]) fun _ _ _ _ _ _ us hl=>match us,hl with|[_,_],_=>rfl
 have F14:=bt (st:=cM) l14 c14 k14
 refine ⟨PySem.W.fnOf "law" "law" (aX cM) (aQ cM) (aq cM) .none kV14 dc14 pm14 an14 cd14 ct14,fun s v=> .of_eq rfl,fun base _ _=> ?_⟩
 have D_is_whole:=bB (P:=l.prog) (w:=w) (base:=base) F1 (PySem.W.mg_of X G a1) (wJ F1 B G_WIDEST) b1
 have D_is_rising:=bB (P:=l.prog) (w:=w) (base:=base) F2 (PySem.W.mg_of X G a2) (wK F2 B G_WIDEST) b2
 have D_w_mixed:=bB (P:=l.prog) (w:=w) (base:=base) F3 (PySem.W.mg_of X G a3) (wL F3 B G_WIDEST) b3
 have D_w_number:=bB (P:=l.prog) (w:=w) (base:=base) F4 (PySem.W.mg_of X G a4) (wM F4 B G_WIDEST) b4
 have D_w_row_spoiled:=bB (P:=l.prog) (w:=w) (base:=base) F5 (PySem.W.mg_of X G a5) (wN F5 B G_WIDEST) b5
 have D_w_said:=bB (P:=l.prog) (w:=w) (base:=base) F6 (PySem.W.mg_of X G a6) (wO F6 B G_WIDEST) b6
 have D_is_row:=bB (P:=l.prog) (w:=w) (base:=base) F7 (PySem.W.mg_of X G a7) (wQ F7 B G_WIDEST D_is_whole) b7
 have D_w_row:=bB (P:=l.prog) (w:=w) (base:=base) F8 (PySem.W.mg_of X G a8) (wR F8 B G_WIDEST D_w_number D_w_mixed) b8
 have D_w_weight:=bB (P:=l.prog) (w:=w) (base:=base) F9 (PySem.W.mg_of X G a9) (wS F9 B G_WIDEST D_w_number) b9
 have D_w_spoiled:=bB (P:=l.prog) (w:=w) (base:=base) F10 (PySem.W.mg_of X G a10) (wT F10 B G_WIDEST D_w_row_spoiled) b10
 have D_is_entry:=bB (P:=l.prog) (w:=w) (base:=base) F11 (PySem.W.mg_of X G a11) (wU F11 B G_WIDEST D_is_row D_is_whole) b11
 have D_w_heap_by:=bB (P:=l.prog) (w:=w) (base:=base) F12 (PySem.W.mg_of X G a12) (wV F12 B G_WIDEST D_w_number D_w_mixed D_w_row D_w_weight) b12
 have D_is_heap:=bB (P:=l.prog) (w:=w) (base:=base) F13 (PySem.W.mg_of X G a13) (wW F13 B G_WIDEST D_is_entry D_is_rising) b13
 exact wX F14 B G_WIDEST D_w_mixed D_w_heap_by D_w_said D_is_heap D_w_spoiled
theorem walk {l:PySem.W.OpenLaw}{q:Program}{loose:List Str}{XP:(Str->Option Value)->Heap->Prop}{YP:World->Heap->Prop}{d:DefRec}{K:Params->PySem.W.Frag} (hn:l.most=some 63) (hdf:d.params.defaults=[])
  (hY: ∀(w:World) (h:Heap),YP w h->(K w.params).In h)
  (F: ∀(w:World) (mg:Str->Option Value) (fa:Addr) (h:Heap),(K w.params).In h->h.Ns mainGlobals mg->mg d.name=some (.ref fa)->
   ∃fd:FuncData,(∀(s:Shared) (u:Value),BindsTo s fd ⟨[u],[]⟩ [("_law_script",u)])/\ ∀base:Heap,(K w.params).In base->base.Ns mainGlobals mg->FnOk l.prog w (K w.params) mg base CX0 5 fa fd ["_law_script"] (spD (K w.params) .imm eE)):
  PySem.W.WalkO q loose XP YP l.row.toRowW d [] (fun f vs=>PySem.call f vs):=
 L2.pY (n:=63) (k:=5) (x:="_law_script") (CX:=fun _=>CX0) (sp:=fun w=>spD (K w.params) .imm eE) hn (by decide) hdf ⟨rfl,by decide,by decide⟩ hY F (fun _ _ a ns hl hO hS=>rc hO hS (xz ns hl)) fun _ _ _ _ _ z=>z
end K02
open PySem PySem.W PyProof.Rows
set_option maxRecDepth 100000 in
set_option maxHeartbeats 0 in
theorem PySem.Challenge.cw_deltahouse_k02_a_heap_holds : PySem.Challenge.rw_deltahouse_k02_a_heap.Holds := by
 w_on;o_law;k_head;(case hw=>w_witness2)
 k_fill
 refine K02.walk (l:=PySem.Challenge.rw_deltahouse_k02_a_heap) rfl rfl (fun w h Y=>PySem.W.kIn_of Y) ?F
 case F=>
  intro w mg fa h KX G hmg
  refine' K02.xA KX G hmg ?a1 ?l1 ?c1 ?k1 ?a2 ?l2 ?c2 ?k2 ?a3 ?l3 ?c3 ?k3 ?a4 ?l4 ?c4 ?k4 ?a5 ?l5 ?c5 ?k5 ?a6 ?l6 ?c6 ?k6 ?a7 ?l7 ?c7 ?k7 ?a8 ?l8 ?c8 ?k8 ?a9 ?l9 ?c9 ?k9 ?a10 ?l10 ?c10 ?k10 ?a11 ?l11 ?c11 ?k11 ?a12 ?l12 ?c12 ?k12 ?a13 ?l13 ?c13 ?k13 ?a14 ?l14 ?c14 ?k14 ?z1 ?z2 ?z3 ?z4 ?z5 ?z6 ?z7 ?z8 ?z9 ?z10 ?z11 ?z12 ?z13 ?g1
  (case a1=>k_is);(case l1=>k_is);(case c1=>k_is);(case k1=>k_is)
  (case a2=>k_is);(case l2=>k_is);(case c2=>k_is);(case k2=>k_is)
  (case a3=>k_is);(case l3=>k_is);(case c3=>k_is);(case k3=>k_is)
  (case a4=>k_is);(case l4=>k_is);(case c4=>k_is);(case k4=>k_is)
  (case a5=>k_is);(case l5=>k_is);(case c5=>k_is);(case k5=>k_is)
  (case a6=>k_is);(case l6=>k_is);(case c6=>k_is);(case k6=>k_is)
  (case a7=>k_is);(case l7=>k_is);(case c7=>k_is);(case k7=>k_is)
  (case a8=>k_is);(case l8=>k_is);(case c8=>k_is);(case k8=>k_is)
  (case a9=>k_is);(case l9=>k_is);(case c9=>k_is);(case k9=>k_is)
  (case a10=>k_is);(case l10=>k_is);(case c10=>k_is);(case k10=>k_is)
  (case a11=>k_is);(case l11=>k_is);(case c11=>k_is);(case k11=>k_is)
  (case a12=>k_is);(case l12=>k_is);(case c12=>k_is);(case k12=>k_is)
  (case a13=>k_is);(case l13=>k_is);(case c13=>k_is);(case k13=>k_is)
  (case a14=>k_is);(case l14=>k_is);(case c14=>k_is);(case k14=>k_is)
  (case z1=>k_is);(case z2=>k_is);(case z3=>k_is);(case z4=>k_is)
  (case z5=>k_is);(case z6=>k_is);(case z7=>k_is);(case z8=>k_is)
  (case z9=>k_is);(case z10=>k_is);(case z11=>k_is);(case z12=>k_is)
  (case z13=>k_is);(case g1=>k_is)
