import PyProof.Rows.All
import Wide.All
import OpenK.AllK
import Wide.FinOn
import Lean
import PyProof.EqAt
import PyProof.EqKinds
import PyProof.TupleCall
import KE.KLam
import KE.KNestM
import PyProof.P3Eq
import PyProof.NeData
import KE.KIsAll
import PyProof.SumAny
import PyProof.Rows.SortShell
import PyProof.Rows.SortRuns
import KE.KSortTup
import KE.KDictSum
import PyProof.ZipIter
import KE.KRevIter
import PyProof.P3In
import KE.KDictList
import PyProof.DictFindH
import PyProof.DictRoadsH
import PyProof.Rows.ListMulArg
import PyProof.AttrMissHeap
import KE.KDictOf
import PyProof.CollectWalk
import PyProof.MaxThree
import PyProof.AutoSeq1
import PyProof.Rows.MinMaxN
import KE.KIntText
import PyProof.Rows.StrJoin2
import PyProof.Rows.StrSplitAre
import PyProof.StrOps2
import PyProof.Rows.SetFrom
import PyProof.SetRoads
import KE.KEqDict
import PyProof.Rows.Range3
import PySem.Challenge.RW_deltahouse_k25_once_kept
set_option Elab.async false
set_option linter.all false
set_option maxRecDepth 100000
set_option maxHeartbeats 4000000
namespace L2
open PySem PySem.Spec PyProof.Rows
noncomputable abbrev Key:=Sum Int Str
noncomputable def eG:Key->Value->Bool
 | .inl k,v=>Value.isInt k v
 | .inr x,v=>Value.isStrOf x v
noncomputable def keyH (w:World):Key->Int
 | .inl k=>hashInt k
 | .inr x=>hashStr w x
theorem keyIs_shape: ∀{k:Key}{v:Value},eG k v=true->(∃i t,k=Sum.inl i/\v=Value.int i t) \/(∃x t,k=Sum.inr x/\v=Value.str x t)
 | .inl i,v,h=>by
  obtain ⟨t,e⟩:=Value.isInt_shape (k:=i) (v:=v) h
  exact .inl ⟨i,t,rfl,e⟩
 | .inr x,v,h=>by
  obtain ⟨t,e⟩:=Value.isStrOf_shape (x:=x) (v:=v) h
  exact .inr ⟨x,t,rfl,e⟩
theorem qL (i:Int) (t:Tok):eG (.inl i) (.int i t)=true:=by simp [eG,Value.isInt]
theorem qM (x:Str) (t:Tok):eG (.inr x) (.str x t)=true:=by simp [eG,Value.isStrOf]
theorem qN (a b:Int):decide ((Sum.inl a:Key)=Sum.inl b)=(a==b):=by
 by_cases e:a=b
 ·subst e;simp
 ·have h: ¬(Sum.inl a:Key)=Sum.inl b:=fun q=>e (Sum.inl.inj q)
  rw [decide_eq_false h]
  exact (beq_eq_false_iff_ne.mpr e).symm
theorem qO (a b:Str):decide ((Sum.inr a:Key)=Sum.inr b)=decide (a=b):=by
 by_cases e:a=b
 ·subst e;simp
 ·have h: ¬(Sum.inr a:Key)=Sum.inr b:=fun q=>e (Sum.inr.inj q)
  rw [decide_eq_false h,decide_eq_false e]
theorem qP (a:Int) (b:Str):decide ((Sum.inl a:Key)=Sum.inr b)=false:=decide_eq_false (fun q=>nomatch q)
theorem qQ (a:Str) (b:Int):decide ((Sum.inr a:Key)=Sum.inl b)=false:=decide_eq_false (fun q=>nomatch q)
noncomputable def bm (prog:Program) (w:World):PySem.KeyKind prog w Key where
 is:=eG
 hash:=keyH w
 inj:=fun v a b ha hb=>by
  rcases keyIs_shape ha with ⟨i,t,rfl,rfl⟩|⟨x,t,rfl,rfl⟩
  ·rcases keyIs_shape hb with ⟨j,u,rfl,e⟩|⟨y,u,rfl,e⟩
   ·injection e with e1 _;rw [e1]
   ·exact nomatch e
  ·rcases keyIs_shape hb with ⟨j,u,rfl,e⟩|⟨y,u,rfl,e⟩
   ·exact nomatch e
   ·injection e with e1 _;rw [e1]
 byValue:=fun k v h=>by
  rcases keyIs_shape h with ⟨i,t,rfl,rfl⟩|⟨x,t,rfl,rfl⟩<;>rfl
 pyHash:=fun hv h=>by
  rcases keyIs_shape hv with ⟨i,t,rfl,rfl⟩|⟨x,t,rfl,rfl⟩
  ·exact wpAny_pyHash_int h
  ·exact wpAny_pyHash_str h
 eqBool:=fun hu hv h=>by
  rcases keyIs_shape hu with ⟨i,t,rfl,rfl⟩|⟨x,t,rfl,rfl⟩
  ·rcases keyIs_shape hv with ⟨j,u,rfl,rfl⟩|⟨y,u,rfl,rfl⟩
   ·rw [qN] at h;exact wpAny_eqBool_int h
   ·rw [qP] at h;exact SeqAt.EqAt.int_str i t y u _ _ _ _ h
  ·rcases keyIs_shape hv with ⟨j,u,rfl,rfl⟩|⟨y,u,rfl,rfl⟩
   ·rw [qQ] at h;exact SeqAt.EqAt.str_int x t j u _ _ _ _ h
   ·rw [qO] at h;exact wpAny_eqBool_str h
 «strs»:=fun k x t v h=>by
  rcases keyIs_shape h with ⟨i,u,rfl,e⟩|⟨y,u,rfl,e⟩
  ·exact nomatch e
  ·injection e with e1 _
   subst e1
   cases v<;>rfl
theorem qR (prog:Program) (w:World) (i:Int) (t:Tok):(bm prog w).is (.inl i) (.int i t)=true:=qL i t
theorem qS (prog:Program) (w:World) (x:Str) (t:Tok):(bm prog w).is (.inr x) (.str x t)=true:=qM x t
end L2
namespace L2
open PySem PySem.Spec PyProof.Rows
inductive V where
 |non|bl (b:Bool)|int (i:Int)|str (x:Str)|byt (b:Array UInt8)|flt (b:UInt64)|ref (a:Addr)|ty (n:String)
 deriving DecidableEq
noncomputable def RelV:V->Value->Prop
 | .non,u=>u=Value.none
 | .bl b,u=>u=Value.bool b
 | .int i,u=> ∃t,u=Value.int i t
 | .str x,u=> ∃t,u=Value.str x t
 | .byt b,u=> ∃t,u=Value.bytes b t
 | .flt b,u=> ∃t,u=Value.float b t
 | .ref a,u=>u=Value.ref a
 | .ty n,u=>u=Value.type n
noncomputable abbrev Vals:List V->List Value->Prop:=Paired RelV
theorem Vals.length {xs:List V}{us:List Value} (r:Vals xs us):xs.length=us.length:=Paired.length r
theorem Vals.get: ∀{xs:List V}{us:List Value}{i:Nat}{x:V},Vals xs us->xs[i]?=some x-> ∃u,us[i]?=some u/\RelV x u
 |_,_,_,_,.nil,e=>by simp at e
 |_,_,0,_,.cons r _,e=>by simp at e;subst e;exact ⟨_,rfl,r⟩
 |_,_,i+1,x,.cons _ t,e=>by
  obtain ⟨u,h1,h2⟩:=Vals.get (i:=i) (x:=x) t (by simpa using e)
  exact ⟨u,by simpa using h1,h2⟩
theorem Vals.set {x:V}{u:Value} (r:RelV x u): ∀{xs:List V}{us:List Value} (i:Nat),Vals xs us->Vals (xs.set i x) (us.set i u)
 |_,_,_,.nil=> .nil
 |_,_,0,.cons _ t=> .cons r t
 |_,_,i+1,.cons q t=> .cons q (Vals.set r i t)
theorem Vals.append: ∀{xs ys:List V}{us ws:List Value},Vals xs us->Vals ys ws->Vals (xs++ys) (us++ws)
 |_,_,_,_,.nil,s=>s
 |_,_,_,_,.cons r t,s=> .cons r (Vals.append t s)
theorem Vals.take: ∀{xs:List V}{us:List Value} (n:Nat),Vals xs us->Vals (xs.take n) (us.take n)
 |_,_,0,_=> .nil
 |_,_,_+1,.nil=> .nil
 |_,_,n+1,.cons r t=> .cons r (Vals.take n t)
theorem Vals.drop: ∀{xs:List V}{us:List Value} (n:Nat),Vals xs us->Vals (xs.drop n) (us.drop n)
 |_,_,0,r=>r
 |_,_,_+1,.nil=> .nil
 |_,_,n+1,.cons _ t=>Vals.drop n t
theorem Vals.none_of: ∀{xs:List V}{us:List Value}{i:Nat},Vals xs us->xs[i]?=none->us[i]?=none:=fun {xs us i} r e=>by
 have h1:=r.length
 have h2:xs.length<=i:=List.getElem?_eq_none_iff.mp e
 exact List.getElem?_eq_none_iff.mpr (by lia)
noncomputable def RelO:Option V->Option Value->Prop
 |some v,some u=>RelV v u
 |none,none=>True
 |_,_=>False
noncomputable def KV {κ:Type}:List (κ×V)->List (κ×Value)->Prop:=Paired fun (p:κ×V) (q:κ×Value)=>p.1=q.1/\RelV p.2 q.2
noncomputable def kV:Key->V
 | .inl i=> .int i
 | .inr x=> .str x
inductive HO where
 |lst (xs:List V)
 |tup (xs:List V)
 |dK (kvs:List (Key×V))|dT (kvs:List (List Key×V))
 |set (S:Int->Bool) (n:Nat)
 |ins (C dx:Addr) (fs:List (Str×V))
 |own (x:Addr)
 |xd (fs:List (Str×V))
 |met (f x:Addr)
 |rng (lo hi:Int)
 |frz (o:Obj) (u:HO)
 |tbl (q:Str)
 |ext (φ:Heap->Prop)
noncomputable abbrev Hp:=Addr->Option HO
noncomputable def upd (H:Hp) (a:Addr) (o:HO):Hp:=fun b=>if b=a then some o else H b
theorem ay {H:Hp}{a:Addr}{o:HO}:upd H a o a=some o:=by unfold upd;rw [if_pos rfl]
theorem ag {H:Hp}{a b:Addr}{o:HO} (h:b≠a):upd H a o b=H b:=by unfold upd;rw [if_neg h]
theorem lG {H:Hp}{a b:Addr}{o u:HO} (h:H a=some o) (h':H b=some u) (d:o≠u):a≠b:=by
 intro e;subst e;rw [h] at h';exact d (Option.some.inj h')
theorem bT {H:Hp}{a b:Addr}{o:HO} (h:H a=some o) (h':H b=none):a≠b:=by
 intro e;subst e;rw [h] at h';cases h'
noncomputable def eI (h:Heap) (a:Addr) (items:Array Value):Prop:= ∃o,h.get? a=some o/\o.cls= .type "tuple"/\(∃n,o.data= .seq items n)/\o.dict=none
theorem eI.tup {h:Heap}{a:Addr}{items:Array Value} (x:eI h a items):IsTup h a items:=let ⟨o,h1,h2,h3,_⟩:=x;⟨o,h1,h2,h3⟩
theorem eI.new (h:Heap) (items:Array Value):eI (h.push {cls:= .type "tuple",data:= .seq items}) h.objs.size items:=⟨_,Heap.get?_push_size _ rfl,rfl,⟨_,rfl⟩,rfl⟩
section
variable (P:Program) (w:World)
noncomputable def az (H:Hp) (h:Heap) (a:Addr):HO->Prop
 | .lst xs=>xs.length<=sizeLine/\ ∃(its:List Value) (n:Nat),Vals xs its/\h.get? a=some {cls:= .type "list",data:= .seq its.toArray n}
 | .tup xs=>xs.length<=sizeLine/\ ∃its:List Value,Vals xs its/\eI h a its.toArray
 | .dK kvs=>kvs.length<=sizeLine/\(a==sysModules)=false/\ ∃vs,KV kvs vs/\h.DictOf (bm P w) a vs
 | .dT kvs=>kvs.length<=sizeLine/\(a==sysModules)=false/\ ∃xs:List (List Key×Addr×Value),
   Paired (fun (p:List Key×V) (q:List Key×Addr×Value)=>p.1=q.1/\H q.2.1=some (.tup (p.1.map kV))/\RelV p.2 q.2.2) kvs xs/\
   ∃o es ep,h.get? a=some o/\o.ExactDict/\o.data= .dict es ep/\es.toList=xs.map (entryOfKey (tupleKind (bm P w)))/\(xs.map (·.1)).Nodup
 | .set S n=>h.SetOf (intKind P w) a S n
 | .ins C dx fs=>H dx=some (.own a)/\fs.length<=1000/\dx≠a/\h.get? a=some (PySem.W.instObj C dx)/\
   ∃mA,h.Ns1 dx mA/\(∀f,RelO (fs.lookup f) (mA f))/\PySem.Within mA (fs.map (·.1))
 | .own _=> ∃o,h.get? a=some o
 | .xd fs=> ∃mA,h.Ns1 a mA/\ ∀f,RelO (fs.lookup f) (mA f)
 | .rng lo hi=> ∃t u v,h.get? a=some {cls:= .type "range",data:= .fields #[.int lo t,.int hi u,.int 1 v]}
 | .frz o u=>h.get? a=some o/\az H h a u
 | .tbl q=> ∃ps:Array Value,h.get? a=some {cls:= .none,data:= .fields ps}/\TriplesOk ps.toList/\ ∀pos cv,codeAmong pos ps.toList=some cv-> ∃(c:Addr) (oc:Obj) (vs:Array Value) (t:Tok),cv= .ref c/\H c=some (.frz oc (.own 0))/\oc.data= .fields vs/\vs[1]?=some (.str q t)
 | .met f x=>h.get? a=some (PySem.W.methodObj (.ref f) (.ref x))
 | .ext φ=>φ h/\(∃o,h.get? a=some o)/\ ∀h1 h2:Heap,φ h1->(∀o,h1.get? a=some o->h2.get? a=some o)->φ h2
noncomputable def HOk (H:Hp) (h:Heap):Prop:= ∀a o,H a=some o->az P w H h a o
end
section
variable {P:Program}{w:World}{H H':Hp}{h h':Heap}{a:Addr}{o:HO}
theorem az.lt (x:az P w H h a o):a<h.objs.size:=by
 cases o with
 |lst xs=>obtain ⟨_,_,_,_,e⟩:=x;exact Heap.lt_size e
 |tup xs=>obtain ⟨_,_,_,p⟩:=x;exact p.tup.lt
 |dK kvs=>obtain ⟨_,_,_,_,o,_,_,e,_⟩:=x;exact Heap.lt_size e
 |dT kvs=>obtain ⟨_,_,_,_,o,_,_,e,_⟩:=x;exact Heap.lt_size e
 |set S n=>obtain ⟨o,_,_,_,e,_⟩:=x;exact Heap.lt_size e
 |ins C dx fs=>obtain ⟨_,_,_,e,_⟩:=x;exact Heap.lt_size e
 |own y=>obtain ⟨_,e⟩:=x;exact Heap.lt_size e
 |xd fs=>obtain ⟨_,⟨_,_,_,e,_⟩,_⟩:=x;exact Heap.lt_size e
 |rng lo hi=>obtain ⟨_,_,_,e⟩:=x;exact Heap.lt_size e
 |frz ob u=>obtain ⟨e,_⟩:=x;exact Heap.lt_size e
 |tbl q=>obtain ⟨_,e,_⟩:=x;exact Heap.lt_size e
 |met f y=>exact Heap.lt_size (show h.get? a=some _ from x)
 |ext φ=>obtain ⟨_,⟨_,e⟩,_⟩:=x;exact Heap.lt_size e
theorem Paired.mapP {α β:Type}{F G:α->β->Prop}: ∀{l₁:List α}{l₂:List β},Paired F l₁ l₂->(∀a b,F a b->G a b)->Paired G l₁ l₂
 |_,_,.nil,_=> .nil
 |_,_,.cons r t,f=> .cons (f _ _ r) (Paired.mapP t f)
theorem Paired.imp' {α β:Type}{F G:α->β->Prop} (f: ∀a b,F a b->G a b) {l₁:List α}{l₂:List β} (r:Paired F l₁ l₂):Paired G l₁ l₂:=Paired.mapP r f
theorem az.stay (x:az P w H h a o) (k: ∀b u,(b=a \/H b=some (.own a))->h.get? b=some u->h'.get? b=some u)
  (ho: ∀b,H b=some (.own a)->H' b=some (.own a)) (ht: ∀b xs,H b=some (.tup xs)->H' b=some (.tup xs)) (hc: ∀b ob u,(∃vs,ob.data= .fields vs)->H b=some (.frz ob u)->H' b=some (.frz ob u):=by exact fun _ _ _ _ q=>q):az P w H' h' a o:=by
 induction o with
 |lst xs=>obtain ⟨z,its,n,r,e⟩:=x;exact ⟨z,its,n,r,k _ _ (.inl rfl) e⟩
 |tup xs=>obtain ⟨z,its,r,ob,e,c⟩:=x;exact ⟨z,its,r,ob,k _ _ (.inl rfl) e,c⟩
 |dK kvs=>obtain ⟨z,y,vs,r,ob,es,ep,e,c⟩:=x;exact ⟨z,y,vs,r,ob,es,ep,k _ _ (.inl rfl) e,c⟩
 |dT kvs=>
  obtain ⟨z,y,xs,r,ob,es,ep,e,c⟩:=x
  exact ⟨z,y,xs,Paired.mapP r fun p q z=>⟨z.1,ht _ _ z.2.1,z.2.2⟩,ob,es,ep,k _ _ (.inl rfl) e,c⟩
 |set S n=>obtain ⟨ob,es,ep,t,e,c⟩:=x;exact ⟨ob,es,ep,t,k _ _ (.inl rfl) e,c⟩
 |ins C dx fs=>
  obtain ⟨d,z,ne,e,mA,⟨od,es,ep,e2,c⟩,r⟩:=x
  exact ⟨ho _ d,z,ne,k _ _ (.inl rfl) e,mA,⟨od,es,ep,k _ _ (.inr d) e2,c⟩,r⟩
 |own y=>obtain ⟨ob,e⟩:=x;exact ⟨ob,k _ _ (.inl rfl) e⟩
 |xd fs=>obtain ⟨mA,⟨od,es,ep,e,c⟩,r⟩:=x;exact ⟨mA,⟨od,es,ep,k _ _ (.inl rfl) e,c⟩,r⟩
 |rng lo hi=>obtain ⟨t,u,v,e⟩:=x;exact ⟨t,u,v,k _ _ (.inl rfl) e⟩
 |frz ob u ih=>obtain ⟨e,q⟩:=x;exact ⟨k _ _ (.inl rfl) e,ih q⟩
 |tbl q=>
  obtain ⟨ps,e,t,l⟩:=x
  exact ⟨ps,k _ _ (.inl rfl) e,t,fun pos cv ec=>by obtain ⟨c,oc,vs,t,r,z,d,g⟩:=l pos cv ec;exact ⟨c,oc,vs,t,r,hc c oc (.own 0) ⟨vs,d⟩ z,d,g⟩⟩
 |met f y=>
  have e:h.get? a=some (PySem.W.methodObj (.ref f) (.ref y)):=x
  show h'.get? a=some (PySem.W.methodObj (.ref f) (.ref y))
  exact k a _ (.inl rfl) e
 |ext φ=>obtain ⟨p,⟨o,e⟩,st⟩:=x;exact ⟨st _ _ p fun o q=>k _ _ (.inl rfl) q,⟨o,k _ _ (.inl rfl) e⟩,st⟩
theorem HOk.lt (x:HOk P w H h) (e:H a=some o):a<h.objs.size:=(x a o e).lt
theorem HOk.fresh (x:HOk P w H h) (e:h.objs.size<=a):H a=none:=by
 cases q:H a with
 |none=>rfl
 |some u=>exact absurd (Nat.lt_of_lt_of_le (x.lt q) e) (Nat.lt_irrefl _)
theorem HOk.kept (x:HOk P w H h) (k: ∀b u,h.get? b=some u->h'.get? b=some u):HOk P w H h':=fun a o e=>
 (x a o e).stay (fun b u _ q=>k b u q) (fun _ q=>q) fun _ _ q=>q
theorem HOk.laid (x:HOk P w H h) (k: ∀b u,h.get? b=some u->h'.get? b=some u) (hp:h.objs.size<=a) (new:az P w (upd H a o) h' a o):HOk P w (upd H a o) h':=fun b u e=>by
 have hn:=x.fresh hp
 by_cases hb:b=a
 ·subst hb;rw [ay] at e;cases e;exact new
 ·rw [ag hb] at e
  exact (x b u e).stay (fun c v _ q=>k c v q) (fun c q=>by rw [ag (bT q hn)];exact q) (fun c xs q=>by rw [ag (bT q hn)];exact q) fun c _ _ _ q=>by rw [ag (bT q hn)];exact q
end
noncomputable def Rd (H:Hp) (a:Addr) (u:HO):Prop:=H a=some u \/ ∃o,H a=some (.frz o u)
theorem Rd.of {H:Hp}{a:Addr}{u:HO} (h:H a=some u):Rd H a u:= .inl h
theorem Rd.ok {P:Program}{w:World}{H:Hp}{h:Heap}{a:Addr}{u:HO} (r:Rd H a u) (x:HOk P w H h):az P w H h a u:=by
 rcases r with r|⟨o,r⟩
 ·exact x a u r
 ·obtain ⟨_,q⟩:=x a _ r
  exact q
noncomputable def Mut:Option HO->Prop
 |some (.lst _)=>True
 |some (.dK _)=>True
 |some (.dT _)=>True
 |some (.set _ _)=>True
 |some (.ins _ _ _)=>True
 |some (.ext _)=>True
 |_=>False
section
variable {P:Program}{w:World}{H:Hp}{h h':Heap}{x e:Addr}{o':HO}
theorem HOk.write (ok:HOk P w H h) (mu:Mut (H x)) (he:e=x \/H e=some (.own x)) (k: ∀b u,b≠e->h.get? b=some u->h'.get? b=some u) (heo: ∃u,h'.get? e=some u)
  (new:az P w (upd H x o') h' x o'):HOk P w (upd H x o') h':=fun b u q=>by
 have nown: ∀c y,H c=some (.own y)->c≠x:=fun c y r z=>by subst z;rw [r] at mu;exact mu
 have ntup: ∀c xs,H c=some (.tup xs)->c≠x:=fun c xs r z=>by subst z;rw [r] at mu;exact mu
 have nfrz: ∀c ob u,H c=some (.frz ob u)->c≠x:=fun c ob u r z=>by subst z;rw [r] at mu;exact mu
 by_cases hb:b=x
 ·subst hb;rw [ay] at q;cases q;exact new
 ·rw [ag hb] at q
  by_cases hbe:b=e
  ·have q':H b=some (.own x):=by
    rcases he with z|z
    ·exact absurd (hbe.trans z) hb
    ·rw [hbe];exact z
   rw [q] at q';cases q'
   obtain ⟨v,hv⟩:=heo
   exact ⟨v,by rw [hbe];exact hv⟩
  ·refine (ok b u q).stay (fun c v hc r=>k c v ?_ r) (fun c r=>by rw [ag (nown c b r)];exact r) (fun c xs r=>by rw [ag (ntup c xs r)];exact r) fun c _ _ _ r=>by rw [ag (nfrz c _ _ r)];exact r
   rcases hc with rfl|hc
   ·exact hbe
   ·rintro rfl
    rcases he with z|z
    ·exact nown c b hc z
    ·rw [hc] at z;cases z;exact hb rfl
end
structure Un (fs ex:List Addr) (H H':Hp) (h h':Heap):Prop where
 keep: ∀b o,h.get? b=some o->H b=none->b∉fs->b∉ex->h'.get? b=some o
 slot: ∀b o,h.get? b=some o->H b=none->b∈fs->b∉ex-> ∃sl,h'.get? b=some {o with slots:=sl}
 free: ∀b o,h.get? b=some o->H b=none->b∉ex->H' b=none
 there: ∀b o,h.get? b=some o->b∉ex-> ∃o',h'.get? b=some o'
 tups: ∀b xs,H b=some (.tup xs)->H' b=some (.tup xs)
 frzs: ∀b o u,H b=some (.frz o u)->H' b=some (.frz o u)
 tbls: ∀b q,H b=some (.tbl q)->H' b=some (.tbl q)
section
variable {fs fs' ex ex':List Addr}{H H1 H2:Hp}{h h1 h2 h':Heap}{a x e:Addr}{o:HO}
theorem Un.any (u:Un fs ex H H1 h h1) {b:Addr}{ob:Obj} (q:h.get? b=some ob) (n:H b=none) (hx:b∉ex): ∃sl,h1.get? b=some {ob with slots:=sl}:=by
 by_cases hb:b∈fs
 ·exact u.slot b ob q n hb hx
 ·exact ⟨ob.slots,u.keep b ob q n hb hx⟩
theorem Un.trans (a:Un fs ex H H1 h h1) (b:Un fs ex H1 H2 h1 h2):Un fs ex H H2 h h2 where
 keep:=fun c ob q n hc hx=>b.keep c ob (a.keep c ob q n hc hx) (a.free c ob q n hx) hc hx
 slot:=fun c ob q n hc hx=>by
  obtain ⟨sl,e1⟩:=a.slot c ob q n hc hx
  obtain ⟨sl',e2⟩:=b.slot c _ e1 (a.free c ob q n hx) hc hx
  exact ⟨sl',e2⟩
 free:=fun c ob q n hx=>by
  obtain ⟨o',e1⟩:=a.there c ob q hx
  exact b.free c o' e1 (a.free c ob q n hx) hx
 there:=fun c ob q hx=>by
  obtain ⟨o',e1⟩:=a.there c ob q hx
  exact b.there c o' e1 hx
 tups:=fun c xs q=>b.tups c xs (a.tups c xs q)
 frzs:=fun c ob xs q=>b.frzs c ob xs (a.frzs c ob xs q)
 tbls:=fun c ps q=>b.tbls c ps (a.tbls c ps q)
theorem Un.kept (k: ∀b u,h.get? b=some u->h'.get? b=some u):Un fs ex H H h h':=
 ⟨fun b ob q _ _ _=>k b ob q,fun b ob q _ _ _=>⟨ob.slots,k b ob q⟩,fun _ _ _ n _=>n,fun b ob q _=>⟨ob,k b ob q⟩,fun _ _ q=>q,fun _ _ _ q=>q,fun _ _ q=>q⟩
theorem Un.refl:Un fs ex H H h h:=Un.kept fun _ _ q=>q
theorem Un.laid (k: ∀b u,h.get? b=some u->h'.get? b=some u) (hp:h.objs.size<=a) (hn:H a=none):Un fs ex H (upd H a o) h h' where
 keep:=fun b u q _ _ _=>k b u q
 slot:=fun b u q _ _ _=>⟨u.slots,k b u q⟩
 free:=fun b u q n _=>by rw [ag (Nat.ne_of_lt (Nat.lt_of_lt_of_le (Heap.lt_size q) hp))];exact n
 there:=fun b u q _=>⟨u,k b u q⟩
 tups:=fun b xs q=>by rw [ag (bT q hn)];exact q
 frzs:=fun b u xs q=>by rw [ag (bT q hn)];exact q
 tbls:=fun b ps q=>by rw [ag (bT q hn)];exact q
theorem Un.write (mu:Mut (H x)) (he:e=x \/H e=some (.own x)) (k: ∀b u,b≠e->h.get? b=some u->h'.get? b=some u) (heo: ∃u,h'.get? e=some u):Un fs ex H (upd H x o) h h':=by
 have hx: ∀b,H b=none->b≠x:=fun b n z=>by subst z;rw [n] at mu;exact mu
 have hb: ∀b,H b=none->b≠e:=fun b n z=>by
  subst z
  rcases he with r|r
  ·exact hx b n r
  ·rw [n] at r;cases r
 have hm: ∀b u,H b=some u-> ¬Mut (some u)->b≠x:=fun b u q nm z=>by subst z;rw [q] at mu;exact nm mu
 refine ⟨fun b u q n _ _=>k b u (hb b n) q,fun b u q n _ _=>⟨u.slots,k b u (hb b n) q⟩,fun b u q n _=>by rw [ag (hx b n)];exact n,fun b u q _=> ?_,
  fun b xs q=>by rw [ag (hm b _ q fun z=>z)];exact q,fun b u xs q=>by rw [ag (hm b _ q fun z=>z)];exact q,fun b ps q=>by rw [ag (hm b _ q fun z=>z)];exact q⟩
 by_cases hbe:b=e
 ·subst hbe;exact heo
 ·exact ⟨u,k b u hbe q⟩
end
noncomputable def trk (h:Heap) (H:Hp):List Addr:=(List.range h.objs.size).filter fun a=>(H a).isSome
noncomputable def hidT (h:Heap) (H:Hp):Heap:=PySem.W.hideAll h (trk h H)
theorem qT (h:Heap) (H:Hp):(hidT h H).objs.size=h.objs.size:=PySem.W.hideAll_size _ _
theorem qU {h:Heap}{H:Hp}{b:Addr}{o:Obj} (e:h.get? b=some o) (n:H b=none):(hidT h H).get? b=some o:=
 PySem.W.hideAll_get _ e fun hm=>by
  have q:(H b).isSome=true:=(List.mem_filter.mp hm).2
  rw [n] at q;simp at q
theorem qV {h:Heap}{H:Hp}{b:Addr}{o:Obj} (e:(hidT h H).get? b=some o):h.get? b=some o/\H b=none:=by
 have e':h.get? b=some o:=PySem.W.of_hideAll (trk h H) e
 refine ⟨e',?_⟩
 cases q:H b with
 |none=>rfl
 |some x=>
  have hm:b∈trk h H:=List.mem_filter.mpr ⟨List.mem_range.mpr (Heap.lt_size e'),by simp [q]⟩
  have z:(hidT h H).get? b=none:=PySem.W.hideAll_none (trk h H) hm
  rw [z] at e;cases e
noncomputable def qW (g h:Heap) (L:Addr):List (Addr×Obj):=(List.range h.objs.size).filterMap fun a=>if a=L \/(g.get? a).isSome=true then none else (h.get? a).map fun o=>(a,o)
noncomputable def rest (g h:Heap) (L d:Addr):List (Addr×Obj):=(qW g h L).filter fun p=>decide (p.1≠d)
end L2
namespace L2
open PySem PySem.Spec PyProof.Rows
structure Mod (K:PySem.W.Frag) (mg:Str->Option Value) (base:Heap):Prop where
 kin:K.In base
 glob:base.Ns mainGlobals mg
 blt: ∃mb,base.Ns builtinsNs mb/\ ∀x:Str,x≠"__name__"->mb x=bootBuiltins x
 nolimit:base.NoLimit
structure Cx where
 prog:Program
 w:World
 K:PySem.W.Frag
 mg:Str->Option Value
 base:Heap
 A:Around
 N:List Str
 s₀:Shared
 H₀:Hp
 env:Env
 outer:List Env
 stack:List Env
 ex:List Addr
 fn:Str->Bool
 calm:Bool
 pn:List (Addr×Obj)
 xe:Value->Shared->Prop
noncomputable def frs (l:List Env):List Addr:=l.filterMap (·.frame)
noncomputable abbrev Cx.fs (X:Cx):List Addr:=frs X.outer
noncomputable def Vis (sc:Scope) (x:Str):Prop:=sc.names.lookup x=some .local \/sc.names.lookup x=some .cell \/sc.names.lookup x=some .free
noncomputable def Loc (sc:Scope) (x:Str):Prop:=sc.names.lookup x=some .local \/sc.names.lookup x=some .cell
noncomputable def Look (env:Env) (h:Heap) (m:Str->Option Value) (x:Str) (u:Value):Prop:=
 (env.kindOf x=some .local/\m x=some u) \/((env.kindOf x=some .cell \/env.kindOf x=some .free)/\ ∃c,env.cells.lookup x=some c/\h.IsCell c (some u))
structure Cx.Ok (X:Cx):Prop where
 mod:Mod X.K X.mg X.base
 kind:X.env.scope.kind= .function
 glob:X.env.globals=mainGlobals
 blt:X.env.builtins=builtinsNs
 above:X.s₀.heap.objs.size<=X.env.locals
 inj: ∀x y c,X.env.cells.lookup x=some c->X.env.cells.lookup y=some c->x=y
 has: ∀x,(X.env.kindOf x=some .cell \/X.env.kindOf x=some .free)-> ∃c,X.env.cells.lookup x=some c
 cab: ∀x c,X.fn x=true->X.env.cells.lookup x=some c->X.s₀.heap.objs.size<=c
 hd:X.calm=true->X.A.handled=none
 frames:X.A.frames=some X.stack
 stk:X.stack=X.outer \/(X.stack=X.env::X.outer/\X.env.frame=some X.env.locals)
 exf: ∀b∈X.ex,b≠X.env.locals/\ ∀x c,X.env.cells.lookup x=some c->c≠b
 bs: ∀b o,X.base.get? b=some o->X.s₀.heap.get? b=some o/\X.H₀ b=none
 bsz:X.base.objs.size<=X.s₀.heap.objs.size
 noex: ∀b o,X.base.get? b=some o->b∉X.ex
 exfs: ∀b∈X.ex,b∉X.fs
 funs:X.s₀.heap.FunFrames X.base X.outer
 frf: ∀b∈X.fs,X.H₀ b=none
structure Inv (X:Cx) (pins:List (Addr×Obj)) (σ:List (Option V)) (H:Hp) (s:Shared):Prop where
 ok:X.Ok
 os:s.os=X.s₀.os
 bare:AllBare s.gens
 base:Un X.fs X.ex X.H₀ H X.s₀.heap s.heap
 loc: ∃m,s.heap.Ns X.env.locals m/\ ∀(i:Nat) (x:Str) (v:V),X.N[i]?=some x->σ[i]?=some (some v)->Vis X.env.scope x-> ∃u,RelV v u/\Look X.env s.heap m x u
 cell: ∀x c,X.env.cells.lookup x=some c-> ∃v,s.heap.IsCell c v
 free:H X.env.locals=none
 freeC: ∀x c,X.env.cells.lookup x=some c->H c=none
 pin: ∀p∈X.pn++pins,s.heap.get? p.1=some p.2/\H p.1=none/\p.1≠X.env.locals/\p.1∉X.fs/\ ∀v,p.2.data≠ .cell v
 hok:HOk X.prog X.w H s.heap
 len:σ.length=X.N.length
section
variable {X:Cx}{pins:List (Addr×Obj)}{σ:List (Option V)}{H H':Hp}{s:Shared}{h':Heap}
theorem Cx.Ok.nofr (ok:X.Ok) {b:Addr}{o:Obj} (e:X.base.get? b=some o):b∉X.fs:=fun hb=>by
 have:=(ok.funs.mem hb).1
 rw [e] at this;cases this
theorem Inv.bs (I:Inv X pins σ H s): ∀b o,X.base.get? b=some o->s.heap.get? b=some o/\H b=none:=fun b o e=>
 ⟨I.base.keep b o (I.ok.bs b o e).1 (I.ok.bs b o e).2 (I.ok.nofr e) (I.ok.noex b o e),I.base.free b o (I.ok.bs b o e).1 (I.ok.bs b o e).2 (I.ok.noex b o e)⟩
theorem Inv.bk (I:Inv X pins σ H s): ∀b o,X.base.get? b=some o->s.heap.get? b=some o:=fun b o e=>(I.bs b o e).1
theorem Inv.mod (I:Inv X pins σ H s):Mod X.K X.mg X.base:=I.ok.mod
theorem Inv.kIn (I:Inv X pins σ H s):X.K.In s.heap:=I.ok.mod.kin.keeps I.bk
theorem Inv.lt (I:Inv X pins σ H s):X.env.locals<s.heap.objs.size:=let ⟨_,hn,_⟩:=I.loc;hn.lt
theorem Inv.sz (I:Inv X pins σ H s):X.s₀.heap.objs.size<=s.heap.objs.size:=Nat.le_trans I.ok.above (Nat.le_of_lt I.lt)
theorem Inv.nofs (I:Inv X pins σ H s) {a:Addr} (h:s.heap.objs.size<=a):a∉X.fs:=fun hb=>by
 obtain ⟨_,o,ho,_⟩:=I.ok.funs.mem hb
 exact absurd (Nat.lt_of_lt_of_le (Heap.lt_size ho) (Nat.le_trans I.sz h)) (Nat.lt_irrefl _)
theorem Inv.cne (I:Inv X pins σ H s): ∀x c,X.env.cells.lookup x=some c->c≠X.env.locals:=fun x c e z=>by
 obtain ⟨v,o,ho,hd⟩:=I.cell x c e
 obtain ⟨m,⟨o',es,ep,ho',hd',_⟩,_⟩:=I.loc
 rw [z,ho'] at ho;cases ho;rw [hd'] at hd;cases hd
theorem Inv.funs (I:Inv X pins σ H s):s.heap.FunFrames X.base X.outer:=by
 have all: ∀(l:List Env),(∀b∈frs l,b∈X.fs)->X.s₀.heap.FunFrames X.base l->s.heap.FunFrames X.base l:=by
  intro l
  induction l with
  |nil=>intro _ _;trivial
  |cons env r ih=>
   intro hs hl
   obtain ⟨hk,⟨L,o,hf,hn,ho,hd⟩,hr⟩:=hl
   have hL:L∈X.fs:=hs L (by unfold frs;rw [List.filterMap_cons,hf];exact List.mem_cons_self)
   obtain ⟨sl,e⟩:=I.base.slot L o ho (I.ok.frf L hL) hL fun z=>I.ok.exfs L z hL
   exact ⟨hk,⟨L,_,hf,hn,e,hd⟩,ih (fun b hb=>hs b (by unfold frs;rw [List.filterMap_cons,hf];exact List.mem_cons_of_mem _ hb)) hr⟩
 exact all X.outer (fun _ hb=>hb) I.ok.funs
theorem Inv.stack (I:Inv X pins σ H s):s.heap.FunFrames X.base X.stack:=by
 rcases I.ok.stk with e|⟨e,hf⟩
 ·rw [e];exact I.funs
 ·rw [e]
  obtain ⟨m,hn,_⟩:=I.loc
  refine .cons (by rw [I.ok.kind];decide) hf hn ?_ I.funs
  exact Heap.get?_none_of_le (Nat.le_trans I.ok.bsz I.ok.above)
theorem Inv.stkSub (I:Inv X pins σ H s): ∀b∈frs X.stack,b∈X.env.locals::X.fs:=fun b hb=>by
 rcases I.ok.stk with e|⟨e,hf⟩
 ·rw [e] at hb;exact List.mem_cons_of_mem _ hb
 ·rw [e] at hb
  unfold frs at hb
  rw [List.filterMap_cons,hf] at hb
  exact hb
theorem Inv.stkFree (I:Inv X pins σ H s): ∀b∈frs X.stack,H b=none:=fun b hb=>by
 rcases List.mem_cons.mp (I.stkSub b hb) with e|hb
 ·rw [e];exact I.free
 ·obtain ⟨_,o,ho,_⟩:=I.ok.funs.mem hb
  exact I.base.free b o ho (I.ok.frf b hb) fun z=>I.ok.exfs b z hb
theorem Inv.step {g':Array GenState}{t':Nat}{d':Drawn}{ch:List Addr} (I:Inv X pins σ H s)
  (hch: ∀b∈ch,(b∈X.ex \/X.s₀.heap.objs.size<=b)/\b≠X.env.locals/\(∀x c,X.env.cells.lookup x=some c->c≠b)/\ ∀p∈X.pn++pins,p.1≠b)
  (keep: ∀b o,b≠X.env.locals->b∉X.fs->b∉ch->s.heap.get? b=some o->H b=none->h'.get? b=some o)
  (slot: ∀b o,b≠X.env.locals->b∈X.fs->b∉ch->s.heap.get? b=some o->H b=none-> ∃sl,h'.get? b=some {o with slots:=sl}) (free: ∀b o,b∉ch->s.heap.get? b=some o->H b=none->H' b=none)
  (there: ∀b o,b∉ch->s.heap.get? b=some o-> ∃o',h'.get? b=some o')
  (tups: ∀b xs,H b=some (.tup xs)->H' b=some (.tup xs)) (frzs: ∀b o u,H b=some (.frz o u)->H' b=some (.frz o u)) (tbls: ∀b q,H b=some (.tbl q)->H' b=some (.tbl q))
  (ns: ∀m,s.heap.Ns X.env.locals m->h'.Ns X.env.locals m) (hok:HOk X.prog X.w H' h') (hg:AllBare g'):
  Inv X pins σ H' {s with heap:=h',gens:=g',drawn:=d',toks:=t'}:=by
 have neL: ∀b o,X.s₀.heap.get? b=some o->b≠X.env.locals:=fun b o e=>Nat.ne_of_lt (Nat.lt_of_lt_of_le (Heap.lt_size e) I.ok.above)
 have neC: ∀b o,X.s₀.heap.get? b=some o->b∉X.ex->b∉ch:=fun b o e hx hb=>by
  rcases (hch b hb).1 with z|z
  ·exact hx z
  ·exact absurd (Nat.lt_of_lt_of_le (Heap.lt_size e) z) (Nat.lt_irrefl _)
 have cellK: ∀x c,X.env.cells.lookup x=some c-> ∀v,s.heap.IsCell c v->h'.IsCell c v:=fun x c e v ⟨o,ho,hd⟩=>by
  have nch:c∉ch:=fun z=>(hch c z).2.2.1 x c e rfl
  by_cases hc:c∈X.fs
  ·obtain ⟨sl,q⟩:=slot c o (I.cne x c e) hc nch ho (I.freeC x c e)
   exact ⟨_,q,hd⟩
  ·exact ⟨o,keep c o (I.cne x c e) hc nch ho (I.freeC x c e),hd⟩
 refine ⟨I.ok,I.os,hg,⟨fun b o e n hb hx=> ?_,fun b o e n hb hx=> ?_,fun b o e n hx=> ?_,fun b o e hx=> ?_,fun b xs e=>tups b xs (I.base.tups b xs e),fun b o xs e=>frzs b o xs (I.base.frzs b o xs e),fun b ps e=> ?_⟩,?_,fun x c e=> ?_,?_,fun x c e=> ?_,fun p hp=> ?_,hok,I.len⟩
 ·exact keep b o (neL b o e) hb (neC b o e hx) (I.base.keep b o e n hb hx) (I.base.free b o e n hx)
 ·obtain ⟨sl,e1⟩:=I.base.slot b o e n hb hx
  obtain ⟨sl',e2⟩:=slot b _ (neL b o e) hb (neC b o e hx) e1 (I.base.free b o e n hx)
  exact ⟨sl',e2⟩
 ·obtain ⟨o',e1⟩:=I.base.there b o e hx
  exact free b o' (neC b o e hx) e1 (I.base.free b o e n hx)
 ·obtain ⟨o',e1⟩:=I.base.there b o e hx
  exact there b o' (neC b o e hx) e1
 ·exact tbls b _ (I.base.tbls b ps e)
 ·obtain ⟨m,hn,hl⟩:=I.loc
  refine ⟨m,ns m hn,fun i x v e1 e2 e3=> ?_⟩
  obtain ⟨u,r,l⟩:=hl i x v e1 e2 e3
  refine ⟨u,r,?_⟩
  rcases l with l|⟨k,c,e,z⟩
  ·exact .inl l
  ·exact .inr ⟨k,c,e,cellK x c e _ z⟩
 ·obtain ⟨v,z⟩:=I.cell x c e
  exact ⟨v,cellK x c e v z⟩
 ·obtain ⟨m,⟨o,_,_,ho,_⟩,_⟩:=I.loc
  exact free _ o (fun z=>(hch _ z).2.1 rfl) ho I.free
 ·obtain ⟨v,o,ho,hd⟩:=I.cell x c e
  exact free c o (fun z=>(hch c z).2.2.1 x c e rfl) ho (I.freeC x c e)
 ·obtain ⟨e,n,ne,nf,d⟩:=I.pin p hp
  have nch:p.1∉ch:=fun z=>(hch p.1 z).2.2.2 p hp rfl
  exact ⟨keep p.1 p.2 ne nf nch e n,free p.1 p.2 nch e n,ne,nf,d⟩
theorem Inv.un {t':Nat} (I:Inv X pins σ H s) (u:Un X.fs [] H H' s.heap h') (hok:HOk X.prog X.w H' h'):Inv X pins σ H' {s with heap:=h',toks:=t'}:=by
 obtain ⟨m,⟨o,es,ep,ho,r⟩,_⟩:=id I.loc
 obtain ⟨sl,hL⟩:=u.any ho I.free (by simp)
 exact I.step (g':=s.gens) (d':=s.drawn) (ch:=[]) (fun _ z=>nomatch z) (fun b o _ hb _ e n=>u.keep b o e n hb (by simp)) (fun b o _ hb _ e n=>u.slot b o e n hb (by simp)) (fun b o _ e n=>u.free b o e n (by simp)) (fun b o _ e=>u.there b o e (by simp)) u.tups u.frzs u.tbls (fun m' hm=>by
  obtain ⟨o',es',ep',ho',r'⟩:=hm
  rw [ho] at ho';cases ho'
  exact ⟨_,es',ep',hL,r'⟩) hok I.bare
theorem Inv.call {g':Array GenState}{t':Nat}{d':Drawn}{ch:List Addr} (I:Inv X pins σ H s) (u:Un (frs X.stack) ch H H' s.heap h') (hok:HOk X.prog X.w H' h') (hg:AllBare g')
  (hch: ∀b∈ch,(b∈X.ex \/X.s₀.heap.objs.size<=b)/\b≠X.env.locals/\(∀x c,X.env.cells.lookup x=some c->c≠b)/\ ∀p∈X.pn++pins,p.1≠b):
  Inv X pins σ H' {s with heap:=h',gens:=g',drawn:=d',toks:=t'}:=by
 obtain ⟨m,⟨o,es,ep,ho,r⟩,_⟩:=id I.loc
 obtain ⟨sl,hL⟩:=u.any ho I.free fun z=>(hch _ z).2.1 rfl
 exact I.step (ch:=ch) hch (fun b o hL hb hc e n=>u.keep b o e n (fun z=>(List.mem_cons.mp (I.stkSub b z)).elim hL hb) hc) (fun b o _ _ hc e n=>u.any e n hc) (fun b o hc e n=>u.free b o e n hc) (fun b o hc e=>u.there b o e hc) u.tups u.frzs u.tbls (fun m' hm=>by
  obtain ⟨o',es',ep',ho',r'⟩:=hm
  rw [ho] at ho';cases ho'
  exact ⟨_,es',ep',hL,r'⟩) hok hg
theorem Inv.turned {t':Nat}{it:Addr} (I:Inv X pins σ H s) (k: ∀b o,b≠it->s.heap.get? b=some o->h'.get? b=some o) (hn:H it=none) (hL:it≠X.env.locals)
  (h1:it∈X.ex \/X.s₀.heap.objs.size<=it) (h2: ∀x c,X.env.cells.lookup x=some c->c≠it) (h3: ∀p∈X.pn++pins,p.1≠it):Inv X pins σ H {s with heap:=h',toks:=t'}:=by
 have nit: ∀b u,H b=some u->b≠it:=fun b u e z=>by rw [z,hn] at e;cases e
 refine I.step (g':=s.gens) (d':=s.drawn) (ch:=[it]) (fun b hb=> ?_) (fun b o _ _ hc e _=>k b o (fun z=>hc (by simp [z])) e) (fun b o _ _ hc e _=>⟨o.slots,k b o (fun z=>hc (by simp [z])) e⟩) (fun _ _ _ _ n=>n)
  (fun b o hc e=>⟨o,k b o (fun z=>hc (by simp [z])) e⟩) (fun _ _ e=>e) (fun _ _ _ e=>e) (fun _ _ e=>e) (fun m hm=> ?_) (fun b u e=> ?_) I.bare
 ·have e:b=it:=by simpa using hb
  subst e
  exact ⟨h1,hL,h2,h3⟩
 ·obtain ⟨o,es,ep,ho,r⟩:=hm
  exact ⟨o,es,ep,k _ o (Ne.symm hL) ho,r⟩
 ·refine (I.hok b u e).stay (fun c v hc q=>k c v ?_ q) (fun _ q=>q) fun _ _ q=>q
  rcases hc with z|z
  ·rw [z];exact nit b u e
  ·exact nit c _ z
theorem Inv.tok (I:Inv X pins σ H s) (t:Nat):Inv X pins σ H {s with toks:=t}:=I.un (h':=s.heap) (t':=t) Un.refl I.hok
theorem Inv.kept {t':Nat} (I:Inv X pins σ H s) (k: ∀b u,s.heap.get? b=some u->h'.get? b=some u):Inv X pins σ H {s with heap:=h',toks:=t'}:=I.un (Un.kept k) (I.hok.kept k)
theorem Inv.laid {a:Addr}{o:HO}{t':Nat} (I:Inv X pins σ H s) (k: ∀b u,s.heap.get? b=some u->h'.get? b=some u) (hp:s.heap.objs.size<=a) (new:az X.prog X.w (upd H a o) h' a o):
  Inv X pins σ (upd H a o) {s with heap:=h',toks:=t'}:=I.un (Un.laid k hp (I.hok.fresh hp)) (I.hok.laid k hp new)
theorem Inv.write {x e:Addr}{o:HO}{t':Nat} (I:Inv X pins σ H s) (mu:Mut (H x)) (he:e=x \/H e=some (.own x)) (k: ∀b u,b≠e->s.heap.get? b=some u->h'.get? b=some u) (heo: ∃u,h'.get? e=some u)
  (new:az X.prog X.w (upd H x o) h' x o):Inv X pins σ (upd H x o) {s with heap:=h',toks:=t'}:=I.un (Un.write mu he k heo) (I.hok.write mu he k heo new)
theorem Inv.pins_of {pins':List (Addr×Obj)} (I:Inv X pins σ H s) (h: ∀p∈pins',s.heap.get? p.1=some p.2/\H p.1=none/\p.1≠X.env.locals/\p.1∉X.fs/\ ∀v,p.2.data≠ .cell v):Inv X pins' σ H s:=
 ⟨I.ok,I.os,I.bare,I.base,I.loc,I.cell,I.free,I.freeC,fun p hp=>(List.mem_append.mp hp).elim (fun z=>I.pin p (List.mem_append_left _ z)) (h p),I.hok,I.len⟩
theorem lH {N:List Str} (hN:N.Nodup) {i j:Nat}{x:Str} (a:N[i]?=some x) (b:N[j]?=some x):i=j:=by
 obtain ⟨h1,e1⟩:=List.getElem?_eq_some_iff.mp a
 obtain ⟨h2,e2⟩:=List.getElem?_eq_some_iff.mp b
 exact (List.getElem_inj hN).mp (e1.trans e2.symm)
theorem lI {M:Model}{A:Around}{E:Value->Shared->Prop}{i:Nat}{x:Str}{v:V}{u:Value}{Q:Unit->Shared->Prop} (I:Inv X pins σ H s) (hN:X.N.Nodup) (hi:X.N[i]?=some x) (hx:Loc X.env.scope x) (r:RelV v u)
  (h: ∀s',Inv X pins (σ.set i (some v)) H s'->(∃a,Heap.SameBut a s.heap s'.heap/\(a=X.env.locals \/X.env.cells.lookup x=some a))->Q () s') (hf:X.fn x=true \/X.env.scope.names.lookup x=some .local:=by first|exact .inl rfl|exact .inr rfl|assumption):wpAny M A (storeName X.env x u) Q E s:=by
 obtain ⟨m,hn,hl⟩:=id I.loc
 have hcls:(X.env.scope.kind== .class||(X.env.scope.kind== .module&&X.env.locals !=X.env.globals))=false:=by rw [I.ok.kind];rfl
 have hiσ:i<σ.length:=by rw [I.len];exact (List.getElem?_eq_some_iff.mp hi).1
 have cne:=I.cne
 have tracked: ∀{a:Addr}{h':Heap},(∃o,s.heap.get? a=some o/\H a=none)->Heap.SameBut a s.heap h'->HOk X.prog X.w H h':=fun {a h'} ha hs b ob e=>by
  obtain ⟨_,_,hfree⟩:=ha
  refine (I.hok b ob e).stay (fun c w' hc q=>(hs.2 c ?_).trans q) (fun _ q=>q) fun _ _ q=>q
  rintro rfl
  rcases hc with rfl|hc
  ·rw [hfree] at e;cases e
  ·rw [hfree] at hc;cases hc
 rcases hx with hk|hk
 ·refine wpAny_storeName_local hk hn (fun h' hn' hs=> ?_) hcls
  obtain ⟨oL,_,_,hoL,_⟩:=id hn
  refine h _ ⟨I.ok,I.os,I.bare,⟨fun b o e n hb hx=> ?_,fun b o e n hb hx=> ?_,I.base.free,fun b o e hx=> ?_,I.base.tups,I.base.frzs,I.base.tbls⟩,⟨_,hn',fun j y v' e1 e2 e3=> ?_⟩,fun y c e=> ?_,I.free,I.freeC,fun p hp=> ?_,tracked ⟨oL,hoL,I.free⟩ hs,by simpa using I.len⟩ ⟨_,hs,.inl rfl⟩
  ·exact (hs.2 b (Nat.ne_of_lt (Nat.lt_of_lt_of_le (Heap.lt_size e) I.ok.above))).trans (I.base.keep b o e n hb hx)
  ·obtain ⟨sl,e1⟩:=I.base.slot b o e n hb hx
   exact ⟨sl,(hs.2 b (Nat.ne_of_lt (Nat.lt_of_lt_of_le (Heap.lt_size e) I.ok.above))).trans e1⟩
  ·obtain ⟨o',e1⟩:=I.base.there b o e hx
   exact ⟨o',(hs.2 b (Nat.ne_of_lt (Nat.lt_of_lt_of_le (Heap.lt_size e) I.ok.above))).trans e1⟩
  ·by_cases hj:j=i
   ·subst hj
    rw [hi] at e1;cases e1
    rw [List.getElem?_set_self hiσ] at e2
    cases e2
    exact ⟨u,r,.inl ⟨hk,by simp⟩⟩
   ·rw [List.getElem?_set_ne (Ne.symm hj)] at e2
    obtain ⟨u',r',q⟩:=hl j y v' e1 e2 e3
    refine ⟨u',r',?_⟩
    rcases q with ⟨k,e⟩|⟨k,c,e,z⟩
    ·refine .inl ⟨k,?_⟩
     have:y≠x:=fun e=>hj (lH hN e1 (e▸hi))
     simp [this,e]
    ·exact .inr ⟨k,c,e,z.sameBut hs (cne y c e)⟩
  ·obtain ⟨w',z⟩:=I.cell y c e
   exact ⟨w',z.sameBut hs (cne y c e)⟩
  ·obtain ⟨e,n,ne,nf,d⟩:=I.pin p hp
   exact ⟨(hs.2 p.1 ne).trans e,n,ne,nf,d⟩
 ·have hfn:X.fn x=true:=by
   rcases hf with z|z
   ·exact z
   ·rw [z] at hk;cases hk
  obtain ⟨c,hc⟩:=I.ok.has x (.inl hk)
  obtain ⟨w',z⟩:=I.cell x c hc
  refine wpAny_storeName_cell I.ok.kind hk hc z (fun h' hc' hs=> ?_)
  obtain ⟨oc,hoc,hocd⟩:=id z
  refine h {s with heap:=h'} ⟨I.ok,I.os,I.bare,⟨fun b o e n hb hx=> ?_,fun b o e n hb hx=> ?_,I.base.free,fun b o e hx=> ?_,I.base.tups,I.base.frzs,I.base.tbls⟩,⟨m,hn.sameBut hs (Ne.symm (cne x c hc)),fun j y v' e1 e2 e3=> ?_⟩,fun y c' e=> ?_,I.free,I.freeC,fun p hp=> ?_,tracked ⟨oc,hoc,I.freeC x c hc⟩ hs,by simpa using I.len⟩ ⟨c,hs,.inr hc⟩
  ·exact (hs.2 b (Nat.ne_of_lt (Nat.lt_of_lt_of_le (Heap.lt_size e) (I.ok.cab x c hfn hc)))).trans (I.base.keep b o e n hb hx)
  ·obtain ⟨sl,e1⟩:=I.base.slot b o e n hb hx
   exact ⟨sl,(hs.2 b (Nat.ne_of_lt (Nat.lt_of_lt_of_le (Heap.lt_size e) (I.ok.cab x c hfn hc)))).trans e1⟩
  ·obtain ⟨o',e1⟩:=I.base.there b o e hx
   exact ⟨o',(hs.2 b (Nat.ne_of_lt (Nat.lt_of_lt_of_le (Heap.lt_size e) (I.ok.cab x c hfn hc)))).trans e1⟩
  ·by_cases hj:j=i
   ·subst hj
    rw [hi] at e1;cases e1
    rw [List.getElem?_set_self hiσ] at e2
    cases e2
    exact ⟨u,r,.inr ⟨.inl hk,c,hc,hc'⟩⟩
   ·rw [List.getElem?_set_ne (Ne.symm hj)] at e2
    obtain ⟨u',r',q⟩:=hl j y v' e1 e2 e3
    refine ⟨u',r',?_⟩
    rcases q with q|⟨k,c',e,z'⟩
    ·exact .inl q
    ·refine .inr ⟨k,c',e,z'.sameBut hs ?_⟩
     rintro rfl
     exact hj (lH hN e1 (I.ok.inj _ _ _ e hc▸hi))
  ·by_cases hcc:c'=c
   ·subst hcc;exact ⟨_,hc'⟩
   ·obtain ⟨w2,z2⟩:=I.cell y c' e
    exact ⟨w2,z2.sameBut hs hcc⟩
  ·obtain ⟨e,n,ne,nf,d⟩:=I.pin p hp
   refine ⟨(hs.2 p.1 ?_).trans e,n,ne,nf,d⟩
   intro q
   rw [q,hoc] at e
   have q':oc=p.2:=Option.some.inj e
   exact d w' (by rw [<-q'];exact hocd)
theorem lJ {M:Model}{A:Around}{E:Value->Shared->Prop}{i:Nat}{x:Str}{v:V}{u:Value}{Q:Unit->Shared->Prop} (I:Inv X pins σ H s) (hN:X.N.Nodup) (hi:X.N[i]?=some x) (hx:Loc X.env.scope x) (r:RelV v u)
  (h: ∀s',Inv X pins (σ.set i (some v)) H s'->Q () s') (hf:X.fn x=true \/X.env.scope.names.lookup x=some .local:=by first|exact .inl rfl|exact .inr rfl|assumption):wpAny M A (storeName X.env x u) Q E s:=
 lI I hN hi hx r (fun s' I' _=>h s' I') hf
theorem Inv.call' {s':Shared}{ch:List Addr} (I:Inv X pins σ H s) (ho:s'.os=s.os) (u:Un (frs X.stack) ch H H' s.heap s'.heap) (hok:HOk X.prog X.w H' s'.heap) (hg:AllBare s'.gens)
  (hch: ∀b∈ch,(b∈X.ex \/X.s₀.heap.objs.size<=b)/\b≠X.env.locals/\(∀x c,X.env.cells.lookup x=some c->c≠b)/\ ∀p∈X.pn++pins,p.1≠b):Inv X pins σ H' s':=by
 obtain ⟨h',g',d',t',o'⟩:=s'
 have e:o'=s.os:=ho
 subst e
 exact I.call (g':=g') (t':=t') (d':=d') u hok hg hch
end
noncomputable abbrev XK:=Value->Option Addr->Hp->Prop
noncomputable abbrev St:=List (Option V)
noncomputable abbrev VK:=V->Hp->Prop
noncomputable abbrev TE:=St->Hp->VK->Prop
noncomputable abbrev TT:=St->Hp->(Bool->Hp->Prop)->Prop
noncomputable abbrev TA:=St->Hp->(List V->Hp->Prop)->Prop
structure Ends where
 nx:St->Hp->Prop
 rt:VK
 bk:St->Hp->Prop:=fun _ _=>False
 ct:St->Hp->Prop:=fun _ _=>False
noncomputable abbrev TS:=Ends->St->Hp->Prop
noncomputable def EP (X:Cx) (pins:List (Addr×Obj)) (σ:St) (Q:VK) (u:Value) (s':Shared):Prop:= ∃v H',Inv X pins σ H' s'/\RelV v u/\Q v H'
noncomputable def TP (X:Cx) (pins:List (Addr×Obj)) (σ:St) (Q:Bool->Hp->Prop) (b:Bool) (s':Shared):Prop:= ∃H',Inv X pins σ H' s'/\Q b H'
noncomputable def AP (X:Cx) (pins:List (Addr×Obj)) (σ:St) (Q:List V->Hp->Prop) (us:List Value) (s':Shared):Prop:= ∃vs H',Inv X pins σ H' s'/\Vals vs us/\Q vs H'
noncomputable def SP (X:Cx) (pins:List (Addr×Obj)) (D:Ends) (f:Flow) (s':Shared):Prop:=
 match f with
 | .next=> ∃σ' H',Inv X pins σ' H' s'/\D.nx σ' H'
 | .brk=> ∃σ' H',Inv X pins σ' H' s'/\D.bk σ' H'
 | .cont=> ∃σ' H',Inv X pins σ' H' s'/\D.ct σ' H'
 | .ret u=> ∃v σ' H',Inv X pins σ' H' s'/\RelV v u/\D.rt v H'
noncomputable def PE (X:Cx) (e:Expr) (t:TE):Prop:=
 ∀(pins:List (Addr×Obj)) (s:Shared) (σ:St) (H:Hp) (Q:VK),Inv X pins σ H s->t σ H Q->wpAny (model X.prog X.w) X.A (eval e X.env) (EP X pins σ Q) X.xe s
noncomputable def PT (X:Cx) (e:Expr) (t:TT):Prop:=
 ∀(pins:List (Addr×Obj)) (s:Shared) (σ:St) (H:Hp) (Q:Bool->Hp->Prop),Inv X pins σ H s->t σ H Q->wpAny (model X.prog X.w) X.A (isTrue e X.env (eval e X.env)) (TP X pins σ Q) X.xe s
noncomputable def PW (X:Cx) (e:Expr) (t:TT):Prop:=
 ∀(whole:Sem Value) (pins:List (Addr×Obj)) (s:Shared) (σ:St) (H:Hp) (Q:Bool->Hp->Prop),Inv X pins σ H s->t σ H Q->wpAny (model X.prog X.w) X.A (isTrue e X.env whole) (TP X pins σ Q) X.xe s
theorem PW.pt {X:Cx}{e:Expr}{t:TT} (h:PW X e t):PT X e t:=h _
noncomputable def PA (X:Cx) (es:List Expr) (t:TA):Prop:=
 ∀(pos:Pos) (pins:List (Addr×Obj)) (s:Shared) (σ:St) (H:Hp) (Q:List V->Hp->Prop),Inv X pins σ H s->t σ H Q->wpAny (model X.prog X.w) X.A (spliced (backTo pos (starEach es X.env))) (AP X pins σ Q) X.xe s
noncomputable def PS (X:Cx) (st:Stmt) (t:TS):Prop:=
 ∀(pins:List (Addr×Obj)) (s:Shared) (σ:St) (H:Hp) (D:Ends),Inv X pins σ H s->t D σ H->wpAny (model X.prog X.w) X.A (exec st X.env) (SP X pins D) X.xe s
noncomputable def PSs (X:Cx) (st:List Stmt) (t:TS):Prop:=
 ∀(pins:List (Addr×Obj)) (s:Shared) (σ:St) (H:Hp) (D:Ends),Inv X pins σ H s->t D σ H->wpAny (model X.prog X.w) X.A (execs st X.env) (SP X pins D) X.xe s
theorem thn {α:Type}{t:Sem α}{Q Q':α->Shared->Prop}{M:Model}{A:Around}{E:Value->Shared->Prop}{s:Shared} (h:wpAny M A t Q E s) (hQ: ∀a s,Q a s->Q' a s):wpAny M A t Q' E s:=wpAny_mono h hQ fun _ _ x=>x
end L2
namespace L2
open PySem PySem.Spec PyProof.Rows
section
variable {X:Cx}
theorem bin {a b:Expr}{ta tb:TE} (ha:PE X a ta) (hb:PE X b tb) {pins:List (Addr×Obj)}{s:Shared}{σ:St}{H:Hp}{R:V->V->Hp->Prop} (I:Inv X pins σ H s) (h:ta σ H fun x H1=>tb σ H1 fun y H2=>R x y H2)
  {α:Type}{Q:α->Shared->Prop}{f:Value->Value->Sem α}
  (hf: ∀v u s2 x y H2,Inv X pins σ H2 s2->RelV x v->RelV y u->R x y H2->wpAny (model X.prog X.w) X.A (f v u) Q X.xe s2):
  wpAny (model X.prog X.w) X.A (eval a X.env) (fun v s₁=>wpAny (model X.prog X.w) X.A (eval b X.env) (fun u s₂=>wpAny (model X.prog X.w) X.A (f v u) Q X.xe s₂) X.xe s₁) X.xe s:=by
 refine thn (ha pins s σ H _ I h) fun v s1 ⟨x,H1,I1,r1,q1⟩=> ?_
 refine thn (hb pins s1 σ H1 _ I1 q1) fun u s2 ⟨y,H2,I2,r2,q2⟩=> ?_
 exact hf v u s2 x y H2 I2 r1 r2 q2
noncomputable def tVar (i:Nat):TE:=fun σ H Q=> ∃v,σ[i]?=some (some v)/\Q v H
noncomputable def tC (v:V):TE:=fun _ H Q=>Q v H
theorem qX {i:Nat}{x:Str}{pos:Pos} (hN:X.N[i]?=some x) (hv:Vis X.env.scope x) (hd:(x==("__debug__":Str))=false:=by decide) (hcd:(x==("__classdict__":Str))=false:=by decide):PE X (.Name x pos) (tVar i):=by
 intro pins s σ H Q I h
 obtain ⟨v,e,h⟩:=h
 obtain ⟨m,hn,hl⟩:=I.loc
 obtain ⟨u,r,l⟩:=hl i x v hN e hv
 have fin:EP X pins σ Q u s:=⟨v,H,I,r,h⟩
 rcases l with ⟨hk,hm⟩|⟨hk,c,hc,hcell⟩
 ·exact wpAny_Name (wpAny_loadName_local I.ok.kind hk hn hm fin) hd
 ·rcases hk with hk|hk
  ·exact wpAny_Name (wpAny_loadName_cell I.ok.kind hk hc hcell fin) hd
  ·exact wpAny_Name (wpAny_loadName_free I.ok.kind hk hc hcell fin hcd) hd
theorem qY {i j pos}:PE X (.Constant (.int i) j pos) (tC (.int i)):=fun _ _ _ H _ I h=>wpAny_Constant_int ⟨.int i,H,I.tok _,⟨_,rfl⟩,h⟩
theorem qZ {b j pos}:PE X (.Constant (.bool b) j pos) (tC (.bl b)):=fun _ _ _ H _ I h=>Constant_bool ⟨.bl b,H,I,rfl,h⟩
noncomputable def Gl (X:Cx) (x:Str):Prop:=X.env.kindOf x=some .globalImplicit
theorem lK {E:Value->Shared->Prop}{pins:List (Addr×Obj)}{s:Shared}{σ:St}{H:Hp}{x:Str}{u:Value}{pos:Pos}{Q:Value->Shared->Prop} (I:Inv X pins σ H s) (hg:Gl X x) (hm:X.mg x=some u) (h:Q u s)
  (hd:(x==("__debug__":Str))=false:=by decide):wpAny (model X.prog X.w) X.A (eval (.Name x pos) X.env) Q E s:=
 Calls.Name_function_global I.ok.kind hg (Calls.loadGlobal_global (by rw [I.ok.glob];exact I.mod.glob.keeps I.bk) hm h) hd
theorem eJ {E:Value->Shared->Prop}{pins:List (Addr×Obj)}{s:Shared}{σ:St}{H:Hp}{x:Str}{u:Value}{pos:Pos}{Q:Value->Shared->Prop} (I:Inv X pins σ H s) (hg:Gl X x) (hm:X.mg x=none) (hv:bootBuiltins x=some u) (h:Q u s)
  (hn:x≠"__name__":=by decide) (hd:(x==("__debug__":Str))=false:=by decide):wpAny (model X.prog X.w) X.A (eval (.Name x pos) X.env) Q E s:=by
 obtain ⟨mb,h1,h2⟩:=I.mod.blt
 exact Calls.Name_function_global I.ok.kind hg (Calls.loadGlobal_builtin (by rw [I.ok.glob];exact I.mod.glob.keeps I.bk) hm (by rw [I.ok.blt];exact h1.keeps I.bk) ((h2 x hn).trans hv) h) hd
theorem rc {x:Str}{v:V}{u:Value}{pos:Pos} (hg:Gl X x) (hm:X.mg x=none) (hv:bootBuiltins x=some u) (r:RelV v u) (hn:x≠"__name__":=by decide) (hd:(x==("__debug__":Str))=false:=by decide):PE X (.Name x pos) (tC v):=
 fun _ _ _ H _ I h=>eJ I hg hm hv ⟨v,H,I,r,h⟩ hn hd
variable {a b:Expr}{ta tb:TE}{pos:Pos}
noncomputable def PC (X:Cx) (op:CmpOp) (a b:Expr) (t:TE):Prop:=
 ∀(pins:List (Addr×Obj)) (s:Shared) (σ:St) (H:Hp) (Q:VK),Inv X pins σ H s->t σ H Q->
  wpAny (model X.prog X.w) X.A (eval a X.env) (fun v s₁=>wpAny (model X.prog X.w) X.A (eval b X.env) (fun u s₂=>wpAny (model X.prog X.w) X.A (compareOp op v u) (EP X pins σ Q) X.xe s₂) X.xe s₁) X.xe s
theorem re (b:Expr) {op:CmpOp} (h:op≠ .In) (h2:op≠ .NotIn):behindInMarks op b=false:=by
 have e1:(op==CmpOp.In)=false:=by cases op<;>first|rfl|exact absurd rfl h
 have e2:(op==CmpOp.NotIn)=false:=by cases op<;>first|rfl|exact absurd rfl h2
 cases b<;>simp [behindInMarks,e1,e2]
noncomputable def tB (t:TE):TT:=fun σ H Q=>t σ H fun x H1=> ∃c,x= .bl c/\Q c H1
theorem rf {op:CmpOp}{t:TE} (h:PC X op a b t) (h1:behindInMarks op b=false:=by first|exact re _ (by decide) (by decide)|rfl):PT X (.Compare a [op] [b] pos) (tB t):=by
 intro pins s σ H Q I hw
 refine wpAny_isTrue_Compare1 (thn (h pins s σ H _ I hw) fun v s1 h1=>thn h1 fun u s2 h2=>thn h2 fun c s3 ⟨x,H1,I1,r1,q1⟩=> ?_) h1
 obtain ⟨d,rfl,q⟩:=q1
 cases r1
 exact wpAny_truthy_bool ⟨H1,I1,q⟩
theorem lL {e:Expr}{t:TE} (h:PE X e t) (he: ∀whole,isTrue e X.env whole=(do let v<-whole;standAt e.pos;holding [v] (truthy v)):=by intro _;rfl):PT X e (tB t):=by
 intro pins s σ H Q I hw
 refine isTrue_plain (thn (h pins s σ H _ I hw) fun v s1 ⟨x,H1,I1,r1,q1⟩=> ?_) (he _)
 obtain ⟨d,rfl,q⟩:=q1
 cases r1
 exact wpAny_truthy_bool ⟨H1,I1,q⟩
variable {tA tB':TT}{rest:List Expr}
noncomputable def tAnd (t u:TT):TT:=fun σ H Q=>t σ H fun c H1=>if c=true then u σ H1 Q else Q false H1
noncomputable def tOr (t u:TT):TT:=fun σ H Q=>t σ H fun c H1=>if c=true then Q true H1 else u σ H1 Q
noncomputable def tNot (t:TT):TT:=fun σ H Q=>t σ H fun c H1=>Q (!c) H1
theorem rg (ha:PT X a tA):PW X (.BoolOp .And [a] pos) tA:=by
 intro wh pins s σ H Q I h
 refine isTrue_and (thn (ha pins s σ H Q I h) fun c s1 e=> ?_)
 cases c with
 |true=>exact isTrue_and_nil e
 |false=>exact e
theorem lM (ha:PT X a tA):PW X (.BoolOp .Or [a] pos) tA:=by
 intro wh pins s σ H Q I h
 refine isTrue_or (thn (ha pins s σ H Q I h) fun c s1 e=> ?_)
 cases c with
 |false=>exact isTrue_or_nil e
 |true=>exact e
theorem rh (ha:PT X a tA) (hb:PW X (.BoolOp .And (b::rest) pos) tB'):PW X (.BoolOp .And (a::b::rest) pos) (tAnd tA tB'):=by
 intro wh pins s σ H Q I h
 refine isTrue_and (thn (ha pins s σ H _ I h) fun c s1 ⟨H1,I1,q1⟩=> ?_)
 cases c with
 |true=>exact hb wh pins s1 σ H1 Q I1 q1
 |false=>exact ⟨H1,I1,q1⟩
theorem lO (ha:PT X a tA) (hb:PW X (.BoolOp .Or (b::rest) pos) tB'):PW X (.BoolOp .Or (a::b::rest) pos) (tOr tA tB'):=by
 intro wh pins s σ H Q I h
 refine isTrue_or (thn (ha pins s σ H _ I h) fun c s1 ⟨H1,I1,q1⟩=> ?_)
 cases c with
 |true=>exact ⟨H1,I1,q1⟩
 |false=>exact hb wh pins s1 σ H1 Q I1 q1
theorem lP (ha:PT X a tA):PT X (.UnaryOp .Not a pos) (tNot tA):=by
 intro pins s σ H Q I h
 exact isTrue_not (ha pins s σ H (fun c H1=>Q (!c) H1) I h)
noncomputable def ri (ta tb:TE):TE:=fun σ H Q=>ta σ H fun x H1=> ∃c,x= .bl c/\if c=true then tb σ H1 Q else Q (.bl false) H1
noncomputable def rj (ta:TE):TE:=fun σ H Q=>ta σ H fun x H1=> ∃c,x= .bl c/\Q (.bl (!c)) H1
theorem rm {op}{t:TE} (h:PE X a t):PE X (.BoolOp op [a] pos) t:=fun pins s σ H Q I hw=>BoolOp_one (h pins s σ H Q I hw)
theorem ro (ha:PE X a ta) (hb:PE X (.BoolOp .And (b::rest) pos) tb):PE X (.BoolOp .And (a::b::rest) pos) (ri ta tb):=by
 intro pins s σ H Q I h
 refine BoolOp_and (thn (ha pins s σ H _ I h) fun v s1 ⟨x,H1,I1,r1,q1⟩=> ?_)
 obtain ⟨c,rfl,q1⟩:=q1
 cases r1
 refine wpAny_truthy_bool ?_
 cases c with
 |true=>exact hb pins s1 σ H1 Q I1 q1
 |false=>exact ⟨.bl false,H1,I1,rfl,q1⟩
theorem rp (ha:PE X a ta):PE X (.UnaryOp .Not a pos) (rj ta):=by
 intro pins s σ H Q I h
 refine UnaryOp_ (thn (ha pins s σ H _ I h) fun v s1 ⟨x,H1,I1,r1,q1⟩=> ?_)
 obtain ⟨c,rfl,q1⟩:=q1
 cases r1
 exact not_of (wpAny_truthy_bool ⟨.bl (!c),H1,I1,rfl,q1⟩)
end
end L2
namespace L2
open PySem PySem.Spec PyProof.Rows
noncomputable def SqL (K:PySem.W.Frag) (H:Hp) (a:Addr) (xs:List V):Prop:=
 Rd H a (.lst xs) \/
  ∃(o:Obj) (its:Array Value) (n:Nat),K.lookup a=some o/\o.cls= .type "list"/\o.dict=none/\o.data= .seq its n/\its.size<=sizeLine/\Vals xs its.toList
noncomputable def SqT (K:PySem.W.Frag) (H:Hp) (a:Addr) (xs:List V):Prop:=
 Rd H a (.tup xs) \/
  ∃(o:Obj) (its:Array Value) (n:Nat),K.lookup a=some o/\o.cls= .type "tuple"/\o.data= .seq its n/\its.size<=sizeLine/\Vals xs its.toList
noncomputable def absV:Value->Option V
 | .none=>some .non
 | .bool b=>some (.bl b)
 | .int i _=>some (.int i)
 | .str x _=>some (.str x)
 | .bytes b _=>some (.byt b)
 | .float b _=>some (.flt b)
 | .ref a=>some (.ref a)
 | .type n=>some (.ty n)
 |_=>none
theorem RelV.abs {x:V}{u:Value} (r:RelV x u):absV u=some x:=by
 cases x with
 |non=>cases r;rfl
 |bl _=>cases r;rfl
 |int _=>obtain ⟨t,rfl⟩:=r;rfl
 |str _=>obtain ⟨t,rfl⟩:=r;rfl
 |byt _=>obtain ⟨t,rfl⟩:=r;rfl
 |flt _=>obtain ⟨t,rfl⟩:=r;rfl
 |ref _=>cases r;rfl
 |ty _=>cases r;rfl
theorem RelV.inj {x y:V}{u:Value} (r:RelV x u) (q:RelV y u):x=y:=Option.some.inj (r.abs.symm.trans q.abs)
theorem Vals.inj: ∀{xs ys:List V}{us:List Value},Vals xs us->Vals ys us->xs=ys
 |_,_,_,.nil,.nil=>rfl
 |_,_,_,.cons r t,.cons r' t'=>by rw [r.inj r',Vals.inj t t']
section
variable {X:Cx}{pins:List (Addr×Obj)}{σ:St}{H:Hp}{s:Shared}{a:Addr}{xs ys:List V}
theorem SqL.of {K:PySem.W.Frag} (h:H a=some (.lst xs)):SqL K H a xs:= .inl (.inl h)
theorem SqT.of {K:PySem.W.Frag} (h:H a=some (.tup xs)):SqT K H a xs:= .inl (.inl h)
theorem Inv.list (I:Inv X pins σ H s) (h:SqL X.K H a xs): ∃its:List Value,Vals xs its/\PlainL s.heap a its.toArray/\xs.length<=sizeLine:=by
 rcases h with h|⟨o,its,n,hk,hc,hd,hs,hz,r⟩
 ·obtain ⟨z,its,n,r,e⟩:=h.ok I.hok
  exact ⟨its,r,⟨_,n,e,rfl,rfl,rfl⟩,z⟩
 ·refine ⟨its.toList,r,⟨o,n,I.kIn a o hk,hc,hd,by simpa using hs⟩,?_⟩
  have e:=r.length
  simp only [Array.length_toList] at e
  lia
theorem Inv.tuple (I:Inv X pins σ H s) (h:SqT X.K H a xs): ∃its:List Value,Vals xs its/\IsTup s.heap a its.toArray/\xs.length<=sizeLine:=by
 rcases h with h|⟨o,its,n,hk,hc,hs,hz,r⟩
 ·obtain ⟨z,its,r,p⟩:=h.ok I.hok
  exact ⟨its,r,p.tup,z⟩
 ·refine ⟨its.toList,r,⟨o,I.kIn a o hk,hc,n,by simpa using hs⟩,?_⟩
  have e:=r.length
  simp only [Array.length_toList] at e
  lia
theorem Inv.list_inj (I:Inv X pins σ H s) (h:SqL X.K H a xs) (h':SqL X.K H a ys):xs=ys:=by
 obtain ⟨its,r,⟨o,n,e,_,_,d⟩,_⟩:=I.list h
 obtain ⟨its',r',⟨o',n',e',_,_,d'⟩,_⟩:=I.list h'
 rw [e] at e';cases e'
 rw [d] at d'
 injection d' with d1 _
 have:its=its':=by simpa using congrArg Array.toList d1
 subst this
 exact r.inj r'
theorem Inv.tuple_inj (I:Inv X pins σ H s) (h:SqT X.K H a xs) (h':SqT X.K H a ys):xs=ys:=by
 obtain ⟨its,r,⟨o,e,_,n,d⟩,_⟩:=I.tuple h
 obtain ⟨its',r',⟨o',e',_,n',d'⟩,_⟩:=I.tuple h'
 rw [e] at e';cases e'
 rw [d] at d'
 injection d' with d1 _
 have:its=its':=by simpa using congrArg Array.toList d1
 subst this
 exact r.inj r'
end
noncomputable abbrev Cx.wish (X:Cx) (E:Value->Shared->Prop):Cx:={X with xe:=E}
noncomputable abbrev Cx.nox (X:Cx):Cx:=X.wish fun _ _=>False
theorem Cx.Ok.wish {X:Cx} (ok:X.Ok) (E:Value->Shared->Prop):(X.wish E).Ok:=
 ⟨ok.mod,ok.kind,ok.glob,ok.blt,ok.above,ok.inj,ok.has,ok.cab,ok.hd,ok.frames,ok.stk,ok.exf,ok.bs,ok.bsz,ok.noex,ok.exfs,ok.funs,ok.frf⟩
theorem Cx.Ok.unwish {X:Cx}{E:Value->Shared->Prop} (ok:(X.wish E).Ok):X.Ok:=
 ⟨ok.mod,ok.kind,ok.glob,ok.blt,ok.above,ok.inj,ok.has,ok.cab,ok.hd,ok.frames,ok.stk,ok.exf,ok.bs,ok.bsz,ok.noex,ok.exfs,ok.funs,ok.frf⟩
section
variable {X:Cx}{pins:List (Addr×Obj)}{σ:St}{H:Hp}{s:Shared}{E:Value->Shared->Prop}
theorem Inv.wish (I:Inv X pins σ H s) (E:Value->Shared->Prop):Inv (X.wish E) pins σ H s:=⟨I.ok.wish E,I.os,I.bare,I.base,I.loc,I.cell,I.free,I.freeC,I.pin,I.hok,I.len⟩
theorem Inv.unwish (I:Inv (X.wish E) pins σ H s):Inv X pins σ H s:=⟨I.ok.unwish,I.os,I.bare,I.base,I.loc,I.cell,I.free,I.freeC,I.pin,I.hok,I.len⟩
theorem SP.unwish {D:Ends}{f:Flow}{s':Shared} (h:SP (X.wish E) pins D f s'):SP X pins D f s':=by
 cases f with
 |next=>obtain ⟨σ',H',I,q⟩:=h;exact ⟨σ',H',I.unwish,q⟩
 |brk=>obtain ⟨σ',H',I,q⟩:=h;exact ⟨σ',H',I.unwish,q⟩
 |cont=>obtain ⟨σ',H',I,q⟩:=h;exact ⟨σ',H',I.unwish,q⟩
 |ret u=>obtain ⟨v,σ',H',I,r,q⟩:=h;exact ⟨v,σ',H',I.unwish,r,q⟩
theorem PSs.nox {st:List Stmt}{t:TS} (h:PSs X.nox st t):PSs X st t:=fun pins s σ H D I hw=>
 wpAny_mono (h pins s σ H D (I.wish _) hw) (fun _ _ q=>q.unwish) fun _ _ z=>False.elim z
end
section
variable {X:Cx}{st:Stmt}{rest:List Stmt}{t u:TS}{e:Expr}{te:TE}{pos:Pos}
noncomputable def rq:TS:=fun D σ H=>D.nx σ H
noncomputable def tSeq (t u:TS):TS:=fun D σ H=>t {D with nx:=u D} σ H
theorem rA:PSs X [] rq:=fun _ _ σ H _ I h=>wpAny_execs_nil ⟨σ,H,I,h⟩
theorem rB (h1:PS X st t) (h2:PSs X rest u):PSs X (st::rest) (tSeq t u):=by
 intro pins s σ H D I h
 refine wpAny_execs_cons (thn (h1 pins s σ H {D with nx:=u D} I h) fun f s1 q=> ?_)
 cases f with
 |next=>
  obtain ⟨σ',H',I',q⟩:=q
  exact h2 pins s1 σ' H' D I' q
 |ret v=>exact q
 |brk=>exact q
 |cont=>exact q
theorem rC (h1:PS X st t):PSs X [st] t:=by
 intro pins s σ H D I h
 refine wpAny_execs_cons (thn (h1 pins s σ H D I h) fun f s1 q=> ?_)
 cases f with
 |next=>exact wpAny_execs_nil q
 |ret v=>exact q
 |brk=>exact q
 |cont=>exact q
theorem Inv.quiet {pins:List (Addr×Obj)}{σ:St}{H:Hp}{s:Shared} (I:Inv X pins σ H s):interactive X.env=false:=by simp [interactive,I.ok.kind]
noncomputable def rD (te:TE):TS:=fun D σ H=>te σ H fun _ H1=>D.nx σ H1
theorem ii (he:PE X e te) (hs:swapsWith e none pos.line X.env=pure false:=by rfl):PS X (.Expr e pos) (rD te):=by
 intro pins s σ H D I h
 exact wpAny_Expr_any (thn (he pins s σ H _ I h) fun v s1 ⟨x,H1,I1,r1,q1⟩=>⟨σ,H1,I1,q1⟩) I.quiet hs
noncomputable def tRet (te:TE):TS:=fun D σ H=>te σ H D.rt
theorem jD (he:PE X e te):PS X (.Return (some e) pos) (tRet te):=by
 intro pins s σ H D I h
 exact wpAny_Return_some (thn (he pins s σ H _ I h) fun v s1 ⟨x,H1,I1,r1,q1⟩=>⟨x,σ,H1,I1,r1,q1⟩)
noncomputable def tIfS (c:TT) (t u:TS):TS:=fun D σ H=>c σ H fun b H1=>if b=true then t D σ H1 else u D σ H1
theorem lQ {c:Expr}{a b:List Stmt}{tc:TT} (hc:PT X c tc) (ha:PSs X a t) (hb:PSs X b u):PS X (.If c a b pos) (tIfS tc t u):=by
 intro pins s σ H D I h
 refine wpAny_If (thn (hc pins s σ H _ I h) fun d s1 ⟨H1,I1,q1⟩=> ?_)
 cases d with
 |true=>exact ha pins s1 σ H1 D I1 q1
 |false=>exact hb pins s1 σ H1 D I1 q1
end
noncomputable abbrev TG:=V->St->Hp->(St->Hp->Prop)->Prop
noncomputable abbrev TGs:=List V->St->Hp->(St->Hp->Prop)->Prop
noncomputable def PG (X:Cx) (target:Expr) (t:TG):Prop:=
 ∀(pins:List (Addr×Obj)) (s:Shared) (σ:St) (H:Hp) (v:V) (u:Value) (Q:St->Hp->Prop),Inv X pins σ H s->RelV v u->t v σ H Q->
  wpAny (model X.prog X.w) X.A (assign target X.env u) (fun _ s'=> ∃σ' H',Inv X pins σ' H' s'/\Q σ' H') X.xe s
noncomputable def PGs (X:Cx) (ts:List Expr) (t:TGs):Prop:=
 ∀(pins:List (Addr×Obj)) (s:Shared) (σ:St) (H:Hp) (vs:List V) (us:List Value) (Q:St->Hp->Prop),Inv X pins σ H s->Vals vs us->t vs σ H Q->
  wpAny (model X.prog X.w) X.A (assignInOrder ((assignEach ts X.env).map (·.2)) us) (fun _ s'=> ∃σ' H',Inv X pins σ' H' s'/\Q σ' H') X.xe s
section
variable {X:Cx}{pos:Pos}
noncomputable def eK (i:Nat):TG:=fun v σ H Q=>Q (σ.set i (some v)) H
theorem aA {i:Nat}{x:Str} (hN:X.N.Nodup) (hi:X.N[i]?=some x) (hx:Loc X.env.scope x) (hf:X.fn x=true \/X.env.scope.names.lookup x=some .local:=by first|exact .inl rfl|exact .inr rfl|assumption):PG X (.Name x pos) (eK i):=by
 intro pins s σ H v u Q I r h
 exact wpAny_assign_Name (lJ I hN hi hx r (fun s' I'=>⟨_,H,I',h⟩) hf)
noncomputable def gNil:TGs:=fun vs σ H Q=>vs=[]/\Q σ H
noncomputable def rE (t:TG) (u:TGs):TGs:=fun vs σ H Q=> ∃v r,vs=v::r/\t v σ H fun σ' H'=>u r σ' H' Q
theorem rF:PGs X [] gNil:=by
 intro pins s σ H vs us Q I r h
 obtain ⟨e,h⟩:=h
 subst e
 cases r
 exact assignInOrder_nil ⟨σ,H,I,h⟩
theorem rG {e:Expr}{es:List Expr}{t:TG}{u:TGs} (h1:PG X e t) (h2:PGs X es u)
  (hs:(assignEach (e::es) X.env).map (·.2)=assign e X.env::(assignEach es X.env).map (·.2):=by rfl):PGs X (e::es) (rE t u):=by
 intro pins s σ H vs us Q I r h
 obtain ⟨v,vr,e1,h⟩:=h
 subst e1
 cases r with
 |cons r rr=>
  rw [hs]
  refine assignInOrder_cons (thn (h1 pins s σ H _ _ _ I r h) fun _ s1 ⟨σ1,H1,I1,q1⟩=> ?_)
  exact h2 pins s1 σ1 H1 _ _ Q I1 rr q1
noncomputable def gTup (K:PySem.W.Frag) (n:Nat) (t:TGs):TG:=fun v σ H Q=> ∃a xs,v= .ref a/\SqT K H a xs/\xs.length=n/\t xs σ H Q
theorem rH {es:List Expr}{k:Nat}{t:TGs}{n:Nat} (hc:X.calm=true) (h:PGs X es t)
  (hn:(assignEach es X.env).length=n:=by rfl) (hst:(assignEach es X.env).findIdx? (·.1)=none:=by rfl):PG X (.Tuple es k pos) (gTup X.K n t):=by
 intro pins s σ H v u Q I r hw
 obtain ⟨a,xs,e1,hq,hl,hw⟩:=hw
 subst e1
 cases r
 obtain ⟨its,rv,ht,hz⟩:=I.tuple hq
 refine assign_Tuple_tuple (I.ok.hd hc) ht (by simp [hn,<-hl,rv.length]) hst fun h' hx=> ?_
 have I1:Inv X pins σ H {s with heap:=h'}:=I.kept (t':=s.toks) fun b o e=>hx b o (Nat.ne_of_lt (Heap.lt_size e)) e
 exact h pins _ σ H xs _ Q I1 (by simpa using rv) hw
noncomputable def tAsg (te:TE) (g:TG):TS:=fun D σ H=>te σ H fun x H1=>g x σ H1 D.nx
theorem eL {i:Nat}{x:Str}{e:Expr}{te:TE}{pos':Pos} (hN:X.N.Nodup) (hi:X.N[i]?=some x) (hx:Loc X.env.scope x) (he:PE X e te) (hs:swapsWith e (some (.Name x pos')) pos.line X.env=pure false:=by rfl) (hf:X.fn x=true \/X.env.scope.names.lookup x=some .local:=by first|exact .inl rfl|exact .inr rfl|assumption):
  PS X (.Assign [.Name x pos'] e pos) (tAsg te (eK i)):=by
 intro pins s σ H D I h
 refine wpAny_Assign_Name (thn (he pins s σ H _ I h) fun v s1 ⟨y,H1,I1,r1,q1⟩=> ?_) hs
 exact lJ I1 hN hi hx r1 (fun s2 I2=>⟨_,H1,I2,q1⟩) hf
end
section
variable {X:Cx}{pos:Pos}
end
structure It where
 go:Nat->Hp->Prop
 yld:Nat->Hp->V->Hp->Prop
 stop:Nat->Hp->Prop
noncomputable def FpOk (X:Cx) (pins:List (Addr×Obj)) (H:Hp) (b:Addr):Prop:=
 H b=none/\b≠X.env.locals/\b∉X.fs/\(b∈X.ex \/X.s₀.heap.objs.size<=b)/\(∀x c,X.env.cells.lookup x=some c->c≠b)/\ ∀p∈X.pn++pins,p.1≠b
theorem Inv.fpOk {X:Cx}{pins:List (Addr×Obj)}{σ:St}{H H':Hp}{s:Shared}{b:Addr} (I:Inv X pins σ H s) (hb:s.heap.objs.size<=b) (hn:H' b=none):FpOk X pins H' b:=by
 refine ⟨hn,Nat.ne_of_gt (Nat.lt_of_lt_of_le I.lt hb),I.nofs hb,.inr (Nat.le_trans I.sz hb),fun x c e z=> ?_,fun p hp z=> ?_⟩
 ·obtain ⟨v,q⟩:=I.cell x c e
  exact absurd (Nat.lt_of_lt_of_le q.lt (by rw [z];exact hb)) (Nat.lt_irrefl _)
 ·exact absurd (Nat.lt_of_lt_of_le (Heap.lt_size (I.pin p hp).1) (by rw [z];exact hb)) (Nat.lt_irrefl _)
structure Turn (P:Program) (w:World) (K:PySem.W.Frag) (tg:Expr) (J:It) (fp:List Addr) (it:Addr) (tn:Nat->Heap->Prop):Prop where
 mem:it∈fp
 obj: ∀i h,tn i h-> ∀b∈fp,∃o,h.get? b=some o/\ ∀v,o.data≠ .cell v
 keep: ∀i h h',tn i h->(∀b∈fp,∀o,h.get? b=some o->h'.get? b=some o)->tn i h'
 item: ∀(X:Cx),X.prog=P->X.w=w->X.K=K->X.calm=true-> ∀(i:Nat) (pins:List (Addr×Obj)) (s:Shared) (σ:St) (H:Hp) (E:Value->Shared->Prop),Inv X pins σ H s->(∀b∈fp,FpOk X pins H b)->tn i s.heap->J.go i H->
  wpAny (model P w) X.A (pyNext (.ref it)) (fun r s1=> ∃u,r=some u/\
   wpAny (model P w) X.A (letOwnedTupleGo tg (.ref it) u) (fun _ s2=> ∃x H',Inv X pins σ H' s2/\RelV x u/\J.yld i H x H'/\tn (i+1) s2.heap/\ ∀b∈fp,H' b=none) E s1) E s
 done: ∀(X:Cx),X.prog=P->X.w=w->X.K=K->X.calm=true-> ∀(i:Nat) (pins:List (Addr×Obj)) (s:Shared) (σ:St) (H:Hp) (E:Value->Shared->Prop),Inv X pins σ H s->(∀b∈fp,FpOk X pins H b)->tn i s.heap->J.stop i H->
  wpAny (model P w) X.A (pyNext (.ref it)) (fun r s1=>r=none/\Inv X pins σ H s1) E s
 self: ∀(A:Around) (i:Nat) (s:Shared) (Q:Value->Shared->Prop) (E:Value->Shared->Prop),tn i s.heap->Q (.ref it) s->wpAny (model P w) A (pyIter (.ref it)) Q E s
noncomputable abbrev TI:=St->Hp->(It->Hp->Prop)->Prop
noncomputable def PIE (X:Cx) (pins:List (Addr×Obj)) (σ:St) (tg:Expr) (R:It->Hp->Prop) (itv:Value) (s2:Shared):Prop:=
 ∃(it:Addr) (fp:List Addr) (tn:Nat->Heap->Prop) (J:It) (H':Hp),itv= .ref it/\Inv X pins σ H' s2/\Turn X.prog X.w X.K tg J fp it tn/\tn 0 s2.heap/\(∀b∈fp,FpOk X pins H' b)/\R J H'
noncomputable def PI (X:Cx) (tg iter:Expr) (wi:TI):Prop:=
 ∀(pins:List (Addr×Obj)) (s:Shared) (σ:St) (H:Hp) (R:It->Hp->Prop),Inv X pins σ H s->wi σ H R->
  wpAny (model X.prog X.w) X.A (eval iter X.env) (fun v s1=>wpAny (model X.prog X.w) X.A (pyIter v) (PIE X pins σ tg R) X.xe s1) X.xe s
theorem fU {M:Model}{A:Around}{E:Value->Shared->Prop}{s:Shared}{tg:Expr}{it:Addr}{u:Value}{o:Obj}{n:String}{vs:Array Value}{Q:Unit->Shared->Prop} (ho:s.heap.get? it=some o) (hc:o.cls= .type n) (hd:o.data= .fields vs)
  (hn:["enumerate","zip","dict_itemiterator","dict_reverseitemiterator","odict_iterator","itertools.zip_longest","itertools.pairwise"].contains n=false) (hQ:Q () s):wpAny M A (letOwnedTupleGo tg (.ref it) u) Q E s:=by
 unfold letOwnedTupleGo
 cases tg<;>first
  |exact wpAny_pure hQ
  |(cases u<;>first
    |exact wpAny_pure hQ
    |(refine wpAny_bind (wpAny_load ho ?_);rw [hc,hd];show wpAny M A (if (["enumerate","zip","dict_itemiterator","dict_reverseitemiterator","odict_iterator","itertools.zip_longest","itertools.pairwise"].contains n&&vs[0]?==some (rawInt _))=true then _ else _) Q E s;rw [if_neg (by intro h;rw [hn,Bool.false_and] at h;cases h)];exact wpAny_pure hQ))
noncomputable def Itl (K:PySem.W.Frag) (a:Addr):It:=
 ⟨fun i H=> ∃xs x,SqL K H a xs/\xs[i]?=some x,fun i H x H'=>H'=H/\ ∀xs,SqL K H a xs->xs[i]?=some x,fun i H=> ∃xs,SqL K H a xs/\xs.length<=i⟩
noncomputable def Itt (K:PySem.W.Frag) (a:Addr):It:=
 ⟨fun i H=> ∃xs x,SqT K H a xs/\xs[i]?=some x,fun i H x H'=>H'=H/\ ∀xs,SqT K H a xs->xs[i]?=some x,fun i H=> ∃xs,SqT K H a xs/\xs.length<=i⟩
noncomputable def Itr (lo:Int) (n:Nat):It:=⟨fun i _=>i<n,fun i H x H'=>H'=H/\x= .int (lo+i),fun i _=>n<=i⟩
theorem rJ {P:Program}{w:World}{K:PySem.W.Frag}{tg:Expr} (a it:Addr):Turn P w K tg (Itl K a) [it] it (fun i h=>h.IsListIter it a i) where
 mem:=by simp
 obj:=fun i h st b hb=>by
  have e:b=it:=by simpa using hb
  subst e
  obtain ⟨o,e,c,d⟩:=st
  exact ⟨o,e,fun v z=>by rw [d] at z;cases z⟩
 keep:=fun i h h' st k=>st.at fun o e=>k it (by simp) o e
 item:=by
  intro X hP hw hK hc i pins s σ H E I hf st hg
  subst hP hw hK
  obtain ⟨xs,x,hq,hx⟩:=hg
  obtain ⟨its,rv,p,hz⟩:=I.list hq
  obtain ⟨u,hu,ru⟩:=rv.get hx
  obtain ⟨f0,f1,f2,f3,f4,f5⟩:=hf it (by simp)
  refine wpAny_pyNext_list_item st p.isList (x:=u) (by simpa using hu) fun h' st' sb=> ?_
  have I1:Inv X pins σ H {s with heap:=h'}:=I.turned (t':=s.toks) (fun b o hb e=>(sb.2 b hb).trans e) f0 f1 f3 f4 f5
  obtain ⟨o,e,c,d⟩:=id st'
  exact ⟨u,rfl,fU (s:={s with heap:=h'}) e c d (by decide) ⟨x,H,I1,ru,⟨rfl,fun ys hy=>by rw [I.list_inj hy hq];exact hx⟩,st',fun b hb=>(hf b hb).1⟩⟩
 done:=by
  intro X hP hw hK hc i pins s σ H E I hf st hg
  subst hP hw hK
  obtain ⟨xs,hq,hx⟩:=hg
  obtain ⟨its,rv,p,hz⟩:=I.list hq
  obtain ⟨f0,f1,f2,f3,f4,f5⟩:=hf it (by simp)
  have hl:=rv.length
  exact wpAny_pyNext_list_end (I.ok.hd hc) st p.isList (by simp;lia) fun h' eb=>⟨rfl,I.turned (t':=s.toks) (fun b o hb e=>eb b o hb e) f0 f1 f3 f4 f5⟩
 self:=fun _ _ _ _ _ st h=>wpAny_pyIter_listiter st h
theorem rK {P:Program}{w:World}{K:PySem.W.Frag}{tg:Expr} (a it:Addr):Turn P w K tg (Itt K a) [it] it (fun i h=>h.IsTupleIter it a i) where
 mem:=by simp
 obj:=fun i h st b hb=>by
  have e:b=it:=by simpa using hb
  subst e
  obtain ⟨o,e,c,d⟩:=st
  exact ⟨o,e,fun v z=>by rw [d] at z;cases z⟩
 keep:=fun i h h' st k=>st.at fun o e=>k it (by simp) o e
 item:=by
  intro X hP hw hK hc i pins s σ H E I hf st hg
  subst hP hw hK
  obtain ⟨xs,x,hq,hx⟩:=hg
  obtain ⟨its,rv,p,hz⟩:=I.tuple hq
  obtain ⟨u,hu,ru⟩:=rv.get hx
  obtain ⟨f0,f1,f2,f3,f4,f5⟩:=hf it (by simp)
  refine wpAny_pyNext_tuple_item st (show s.heap.IsTuple a its.toArray from p) (x:=u) (by simpa using hu) fun h' st' sb=> ?_
  have I1:Inv X pins σ H {s with heap:=h'}:=I.turned (t':=s.toks) (fun b o hb e=>(sb.2 b hb).trans e) f0 f1 f3 f4 f5
  obtain ⟨o,e,c,d⟩:=id st'
  exact ⟨u,rfl,fU (s:={s with heap:=h'}) e c d (by decide) ⟨x,H,I1,ru,⟨rfl,fun ys hy=>by rw [I.tuple_inj hy hq];exact hx⟩,st',fun b hb=>(hf b hb).1⟩⟩
 done:=by
  intro X hP hw hK hc i pins s σ H E I hf st hg
  subst hP hw hK
  obtain ⟨xs,hq,hx⟩:=hg
  obtain ⟨its,rv,p,hz⟩:=I.tuple hq
  obtain ⟨f0,f1,f2,f3,f4,f5⟩:=hf it (by simp)
  have hl:=rv.length
  exact wpAny_pyNext_tuple_end (I.ok.hd hc) st (show s.heap.IsTuple a its.toArray from p) (by simp;lia) fun h' eb=>⟨rfl,I.turned (t':=s.toks) (fun b o hb e=>eb b o hb e) f0 f1 f3 f4 f5⟩
 self:=fun _ _ _ _ _ st h=>wpAny_pyIter_tupleiter st h
theorem rL {P:Program}{w:World}{K:PySem.W.Frag}{tg:Expr} (it:Addr) (lo:Int) (n:Nat):Turn P w K tg (Itr lo n) [it] it (fun i h=>IsRangeIter h it (lo+(i:Nat)*1) ((n:Int)-(i:Nat)) 1) where
 mem:=by simp
 obj:=fun i h st b hb=>by
  have e:b=it:=by simpa using hb
  subst e
  exact ⟨_,st,fun v z=>by
   have z':Data.fields _=Data.cell v:=z
   cases z'⟩
 keep:=fun i h h' st k=>k it (by simp) _ st
 item:=by
  intro X hP hw hK hc i pins s σ H E I hf st hg
  subst hP hw hK
  obtain ⟨f0,f1,f2,f3,f4,f5⟩:=hf it (by simp)
  have W:=Walks.range (prog:=X.prog) (w:=X.w) (I.ok.hd hc) it lo 1 n
  refine W.item i s _ _ hg st fun v h' tk hv st' kk=> ?_
  obtain ⟨t,rfl⟩:=hv
  have I1:Inv X pins σ H {s with heap:=h',toks:=tk}:=I.turned (fun b o hb e=>kk b o (by simpa using hb) e) f0 f1 f3 f4 f5
  refine ⟨_,rfl,fU (s:={s with heap:=h',toks:=tk}) (n:="range_iterator") st' rfl rfl (by decide) ⟨.int (lo+i),H,I1,⟨t,?_⟩,⟨rfl,rfl⟩,st',fun b hb=>(hf b hb).1⟩⟩
  rw [Int.mul_one]
 done:=by
  intro X hP hw hK hc i pins s σ H E I hf st hg
  subst hP hw hK
  obtain ⟨f0,f1,f2,f3,f4,f5⟩:=hf it (by simp)
  exact wpAny_pyNext_range_end (I.ok.hd hc) st (by have:n<=i:=hg;lia) fun h' eb=>⟨rfl,I.turned (t':=s.toks) (fun b o hb e=>eb b o hb e) f0 f1 f3 f4 f5⟩
 self:=fun _ _ _ _ _ st h=>wpAny_pyIter_rangeiter st h
end L2
namespace L2
open PySem PySem.Spec PyProof.Rows
section
variable {X:Cx}{tg:Expr}
noncomputable def rM (K:PySem.W.Frag) (tl:TE):TI:=fun σ H R=>tl σ H fun x H1=> ∃a,x= .ref a/\(∃xs,SqL K H1 a xs)/\R (Itl K a) H1
noncomputable def iTup (K:PySem.W.Frag) (tl:TE):TI:=fun σ H R=>tl σ H fun x H1=> ∃a,x= .ref a/\(∃xs,SqT K H1 a xs)/\R (Itt K a) H1
theorem rN {l:Expr}{tl:TE} (hl:PE X l tl):PI X tg l (rM X.K tl):=by
 intro pins s σ H R I h
 refine thn (hl pins s σ H _ I h) fun v s1 ⟨x,H1,I1,r1,q1⟩=> ?_
 obtain ⟨a,e,⟨xs,hq⟩,q⟩:=q1
 subst e
 cases r1
 obtain ⟨its,rv,p,hz⟩:=I1.list hq
 refine wpAny_pyIter_list p.isList ?_
 refine ⟨s1.heap.objs.size,[s1.heap.objs.size],_,_,H1,rfl,I1.kept (t':=s1.toks) fun b o e=>Heap.get?_push_of_some _ e,rJ a _,⟨_,Heap.get?_push_size _ rfl,rfl,rfl⟩,fun b hb=> ?_,q⟩
 have e:b=s1.heap.objs.size:=by simpa using hb
 subst e
 exact I1.fpOk (Nat.le_refl _) (I1.hok.fresh (Nat.le_refl _))
theorem rO {l:Expr}{tl:TE} (hl:PE X l tl):PI X tg l (iTup X.K tl):=by
 intro pins s σ H R I h
 refine thn (hl pins s σ H _ I h) fun v s1 ⟨x,H1,I1,r1,q1⟩=> ?_
 obtain ⟨a,e,⟨xs,hq⟩,q⟩:=q1
 subst e
 cases r1
 obtain ⟨its,rv,p,hz⟩:=I1.tuple hq
 refine wpAny_pyIter_tuple (show s1.heap.IsTuple a its.toArray from p) ?_
 refine ⟨s1.heap.objs.size,[s1.heap.objs.size],_,_,H1,rfl,I1.kept (t':=s1.toks) fun b o e=>Heap.get?_push_of_some _ e,rK a _,⟨_,Heap.get?_push_size _ rfl,rfl,rfl⟩,fun b hb=> ?_,q⟩
 have e:b=s1.heap.objs.size:=by simpa using hb
 subst e
 exact I1.fpOk (Nat.le_refl _) (I1.hok.fresh (Nat.le_refl _))
theorem lR {pins:List (Addr×Obj)}{σ:St}{H:Hp}{s:Shared}{R:It->Hp->Prop}{E:Value->Shared->Prop}{lo hi:Int}{t u v:Tok}{tk:Nat} (I:Inv X pins σ H s) (h1: -(2^62)<=lo) (h2:lo<2^62) (h3: -(2^62)<=hi) (h4:hi<2^62)
  (q:R (Itr lo (hi-lo).toNat) H):wpAny (model X.prog X.w) X.A (pyIter (.ref s.heap.objs.size)) (PIE X pins σ tg R) E {s with heap:=s.heap.push {cls:= .type "range",data:= .fields #[.int lo t,.int hi u,.int 1 v]},toks:=tk}:=by
 refine wpAny_pyIter_range (IsRange.new ..) (small_one h1 h2 h3 h4) ?_
 have I1:Inv X pins σ H {s with heap:=s.heap.push {cls:= .type "range",data:= .fields #[.int lo t,.int hi u,.int 1 v]},toks:=tk}:=I.kept fun b o e=>Heap.get?_push_of_some _ e
 refine ⟨(s.heap.push {cls:= .type "range",data:= .fields #[.int lo t,.int hi u,.int 1 v]}).objs.size,[(s.heap.push {cls:= .type "range",data:= .fields #[.int lo t,.int hi u,.int 1 v]}).objs.size],_,_,H,rfl,
  I1.kept (t':=tk) fun b o e=>Heap.get?_push_of_some _ e,rL _ lo (hi-lo).toNat,?_,fun b hb=> ?_,q⟩
 ·have e1:lo+((0:Nat):Int)*1=lo:=by simp
  have e2:(((hi-lo).toNat:Nat):Int)-((0:Nat):Int)=Builtin.Range.rangeSize lo hi 1:=by rw [rangeSize_one];split<;>lia
  show IsRangeIter _ _ (lo+((0:Nat):Int)*1) ((((hi-lo).toNat:Nat):Int)-((0:Nat):Int)) 1
  rw [e1,e2]
  exact Heap.get?_push_size _ rfl
 ·have e:b=(s.heap.push {cls:= .type "range",data:= .fields #[.int lo t,.int hi u,.int 1 v]}).objs.size:=by simpa using hb
  subst e
  exact I1.fpOk (Nat.le_refl _) (I1.hok.fresh (Nat.le_refl _))
noncomputable def rP (ta:TA):TI:=fun σ H R=>ta σ H fun vs H1=> ∃j:Int,vs=[.int j]/\ -(2^62)<=j/\j<2^62/\R (Itr 0 j.toNat) H1
noncomputable def rQ (ta:TA):TI:=fun σ H R=>ta σ H fun vs H1=> ∃i j:Int,vs=[.int i,.int j]/\(-(2^62)<=i/\i<2^62/\ -(2^62)<=j/\j<2^62)/\R (Itr i (j-i).toNat) H1
theorem rR {a:Expr}{ta:TA}{p pos:Pos} (hg:Gl X "range") (hm:X.mg "range"=none) (ha:PA X [a] ta) (hs:starEach [a] X.env=[(false,eval a X.env)]:=by rfl):PI X tg (.Call (.Name "range" p) [a] [] pos) (rP ta):=by
 intro pins s σ H R I h
 refine Call_ (eJ I hg hm boot_range (PyProof.Rows.callWith_type1 (thn (ha pos pins s σ H _ I h) fun us s1 ⟨vs,H1,I1,r1,q1⟩=> ?_) hs rfl))
 obtain ⟨j,e,q1,q2,q⟩:=q1
 subst e
 cases r1 with
 |cons r rr=>
  cases rr
  obtain ⟨t,rfl⟩:=r
  exact call_range_1 (lR I1 (by lia) (by lia) q1 q2 (by simpa using q))
theorem rS {a b:Expr}{ta:TA}{p pos:Pos} (hg:Gl X "range") (hm:X.mg "range"=none) (ha:PA X [a,b] ta) (hs:starEach [a,b] X.env=[(false,eval a X.env),(false,eval b X.env)]:=by rfl) (hs2:starEach [b] X.env=[(false,eval b X.env)]:=by rfl):
  PI X tg (.Call (.Name "range" p) [a,b] [] pos) (rQ ta):=by
 intro pins s σ H R I h
 refine Call_ (eJ I hg hm boot_range (PyProof.Rows.callWith_type1 (thn (ha pos pins s σ H _ I h) fun us s1 ⟨vs,H1,I1,r1,q1⟩=> ?_) (by rw [hs,hs2]) (by rw [hs2];rfl)))
 obtain ⟨i,j,e,⟨q1,q2,q3,q4⟩,q⟩:=q1
 subst e
 cases r1 with
 |cons r rr=>
  cases rr with
  |cons r' rr=>
   cases rr
   obtain ⟨t,rfl⟩:=r
   obtain ⟨t',rfl⟩:=r'
   exact call_range_2 (lR I1 q1 q2 q3 q4 q)
noncomputable def tFor (wi:TI) (g:TG) (tb:TS):TS:=fun D σ H=>wi σ H fun J H1=> ∃W:Nat->Nat->St->Hp->Prop,(∃m,W 0 m σ H1)/\ ∀i m σ H,W i m σ H->
 (J.stop i H/\D.nx σ H) \/(J.go i H/\ ∃N:St->Hp->Prop,(∀σ' H',N σ' H'-> ∃m',m'<m/\W (i+1) m' σ' H')/\ ∀x H',J.yld i H x H'->g x σ H' fun σ2 H2=>tb {D with nx:=N,ct:=N,bk:=D.nx} σ2 H2)
noncomputable def fV (fp:List Addr) (h:Heap):List (Addr×Obj):=fp.filterMap fun b=>(h.get? b).map fun o=>(b,o)
theorem ij {fp:List Addr}{h:Heap}{b:Addr}{o:Obj} (hb:b∈fp) (e:h.get? b=some o):(b,o)∈fV fp h:=List.mem_filterMap.mpr ⟨b,hb,by rw [e];rfl⟩
theorem rT {fp:List Addr}{h:Heap}{p:Addr×Obj} (hp:p∈fV fp h):p.1∈fp/\h.get? p.1=some p.2:=by
 obtain ⟨b,hb,e⟩:=List.mem_filterMap.mp hp
 cases q:h.get? b with
 |none=>rw [q] at e;cases e
 |some o=>
  rw [q] at e
  have e':(b,o)=p:=Option.some.inj e
  subst e'
  exact ⟨hb,q⟩
theorem Inv.pinned {pins:List (Addr×Obj)}{σ:St}{H:Hp}{s:Shared}{fp:List Addr} (I:Inv X pins σ H s) (hf: ∀b∈fp,FpOk X pins H b) (ho: ∀b∈fp,∃o,s.heap.get? b=some o/\ ∀v,o.data≠ .cell v):Inv X (pins++fV fp s.heap) σ H s:=
 I.pins_of fun p hp=>(List.mem_append.mp hp).elim (fun z=>I.pin p (List.mem_append_right _ z)) fun z=>by
  obtain ⟨hb,e⟩:=rT z
  obtain ⟨f0,f1,f2,_⟩:=hf p.1 hb
  obtain ⟨o,e',d⟩:=ho p.1 hb
  rw [e] at e';cases e'
  exact ⟨e,f0,f1,f2,d⟩
theorem Inv.unpinned {pins pl:List (Addr×Obj)}{σ:St}{H:Hp}{s:Shared} (I:Inv X (pins++pl) σ H s):Inv X pins σ H s:=I.pins_of fun p hp=>I.pin p (List.mem_append_right _ (List.mem_append_left _ hp))
theorem lS {iter:Expr}{body:List Stmt}{wi:TI}{g:TG}{tb:TS}{pos:Pos} (hp:PassesOwn (model X.prog X.w) X.A X.env X.xe) (hc:X.calm=true) (hi:PI X tg iter wi) (hg:PG X tg g) (hb:PSs X body tb)
  (hs: ∀x,foldedSetIterable iter X.env x=pure x:=by intro _;rfl):PS X (.For tg iter body [] pos) (tFor wi g tb):=by
 intro pins s σ H D I h
 refine wpAny_For (thn (hi pins s σ H _ I h) fun v s1 h1=>thn h1 fun itv s2 h2=> ?_) hs
 obtain ⟨it,fp,tn,J,H2,e,I2,T,st2,f2,W,⟨m0,w0⟩,turn⟩:=h2
 subst e
 have stat: ∀{H':Hp},(∀b∈fp,H' b=none)-> ∀b∈fp,FpOk X pins H' b:=fun hn b hb=>⟨hn b hb,(f2 b hb).2⟩
 refine codeAny_forLoop_any (fun n s'=> ∃i σ' H',Inv X pins σ' H' s'/\tn i s'.heap/\(∀b∈fp,H' b=none)/\W i n σ' H') ?_ m0 ⟨0,σ,H2,I2,st2,fun b hb=>(f2 b hb).1,w0⟩
 rintro n s3 ⟨i,σ3,H3,I3,st3,fr3,w3⟩
 rcases turn i n σ3 H3 w3 with ⟨stop,qn⟩|⟨go,N,hN,step⟩
 ·refine wpAny_passesOwn hp (thn (T.done X rfl rfl rfl hc i pins s3 σ3 H3 X.xe I3 (stat fr3) st3 stop) fun r s4 ⟨hr,I4⟩=> ?_)
  subst hr
  exact wpAny_execs_nil ⟨σ3,H3,I4,qn⟩
 ·refine wpAny_passesOwn hp (thn (T.item X rfl rfl rfl hc i pins s3 σ3 H3 X.xe I3 (stat fr3) st3 go) fun r s4 ⟨u,hr,h4⟩=> ?_)
  subst hr
  refine wpAny_passesOwn hp (thn h4 fun _ s5 ⟨x,H5,I5,r5,y5,st5,fr5⟩=> ?_)
  have I5':=I5.pinned (stat fr5) (T.obj _ _ st5)
  refine wpAny_passesOwn hp (thn (hg _ s5 σ3 H5 x u _ I5' r5 (step x H5 y5)) fun _ s6 ⟨σ6,H6,I6,q6⟩=> ?_)
  refine wpAny_passesOwn hp (thn (hb _ s6 σ6 H6 _ I6 q6) fun f s7 q7=> ?_)
  have again: ∀{σ7:St}{H7:Hp},Inv X (pins++fV fp s5.heap) σ7 H7 s7->N σ7 H7-> ∃m,m<n/\ ∃i σ' H',Inv X pins σ' H' s7/\tn i s7.heap/\(∀b∈fp,H' b=none)/\W i m σ' H':=fun {σ7 H7} I7 n7=>by
   obtain ⟨m',hm,w7⟩:=hN σ7 H7 n7
   refine ⟨m',hm,i+1,σ7,H7,I7.unpinned,T.keep _ _ _ st5 fun b hb o e=>(I7.pin (b,o) (List.mem_append_right _ (List.mem_append_right _ (ij hb e)))).1,fun b hb=> ?_,w7⟩
   obtain ⟨o,e,d⟩:=T.obj _ _ st5 b hb
   exact (I7.pin (b,o) (List.mem_append_right _ (List.mem_append_right _ (ij hb e)))).2.1
  cases f with
  |next=>obtain ⟨σ7,H7,I7,n7⟩:=q7;exact again I7 n7
  |cont=>obtain ⟨σ7,H7,I7,n7⟩:=q7;exact again I7 n7
  |brk=>obtain ⟨σ7,H7,I7,q7⟩:=q7;exact ⟨σ7,H7,I7.unpinned,q7⟩
  |ret v=>obtain ⟨x7,σ7,H7,I7,r7,q7⟩:=q7;exact ⟨x7,σ7,H7,I7.unpinned,r7,q7⟩
end
end L2
namespace L2
open PySem PySem.Spec PyProof.Rows
noncomputable abbrev R2:=V->V->Hp->VK->Prop
noncomputable def OpR (X:Cx) (f:Value->Value->Sem Value) (r:R2):Prop:=
 ∀(pins:List (Addr×Obj)) (s:Shared) (σ:St) (H:Hp) (x y:V) (v u:Value) (Q:VK),Inv X pins σ H s->RelV x v->RelV y u->r x y H Q->
  wpAny (model X.prog X.w) X.A (f v u) (EP X pins σ Q) X.xe s
noncomputable def UnR (X:Cx) (f:Value->Sem Value) (r:V->Hp->VK->Prop):Prop:=
 ∀(pins:List (Addr×Obj)) (s:Shared) (σ:St) (H:Hp) (x:V) (v:Value) (Q:VK),Inv X pins σ H s->RelV x v->r x H Q->
  wpAny (model X.prog X.w) X.A (f v) (EP X pins σ Q) X.xe s
noncomputable def cj (X:Cx) (f:Value) (r:List V->Hp->VK->Prop):Prop:=
 ∀(pins:List (Addr×Obj)) (s:Shared) (σ:St) (H:Hp) (xs:List V) (us:List Value) (Q:VK),Inv X pins σ H s->Vals xs us->r xs H Q->
  wpAny (model X.prog X.w) X.A (call f us) (EP X pins σ Q) X.xe s
noncomputable def tOp (r:R2) (ta tb:TE):TE:=fun σ H Q=>ta σ H fun x H1=>tb σ H1 fun y H2=>r x y H2 Q
noncomputable def tUn (r:V->Hp->VK->Prop) (ta:TE):TE:=fun σ H Q=>ta σ H fun x H1=>r x H1 Q
noncomputable def rI (C:Int->Int->Prop) (g:Int->Int->V):R2:=fun x y H Q=> ∃i j,x= .int i/\y= .int j/\C i j/\Q (g i j) H
noncomputable def rI0 (g:Int->Int->V):R2:=fun x y H Q=> ∃i j,x= .int i/\y= .int j/\Q (g i j) H
noncomputable def rU (g:Int->V):V->Hp->VK->Prop:=fun x H Q=> ∃i,x= .int i/\Q (g i) H
section
variable {X:Cx}{a b c:Expr}{ta tb tc:TE}{pos:Pos}
theorem binT (ha:PE X a ta) (hb:PE X b tb) {pins:List (Addr×Obj)}{s:Shared}{σ:St}{H:Hp}{R:V->V->Hp->Prop} (I:Inv X pins σ H s)
  (h:ta σ H fun x H1=>tb σ H1 fun y H2=>R x y H2) {Q:Value->Shared->Prop}{f:Value->Value->Sem Value}
  (hf: ∀v u s2 x y H2,Inv X pins σ H2 s2->RelV x v->RelV y u->R x y H2->wpAny (model X.prog X.w) X.A (f v u) Q X.xe s2):
  wpAny (model X.prog X.w) X.A (eval a X.env) (fun v s₁=>wpAny (model X.prog X.w) X.A (eval b X.env) (fun u s₂=>wpAny (model X.prog X.w) X.A (f v u) Q X.xe s₂) X.xe s₁) X.xe s:=by
 refine thn (ha pins s σ H _ I h) fun v s1 ⟨x,H1,I1,r1,q1⟩=> ?_
 refine thn (hb pins s1 σ H1 _ I1 q1) fun u s2 ⟨y,H2,I2,r2,q2⟩=> ?_
 exact hf v u s2 x y H2 I2 r1 r2 q2
theorem jE {op:Operator}{r:R2} (ho:OpR X (binaryOp op) r) (ha:PE X a ta) (hb:PE X b tb):PE X (.BinOp a op b pos) (tOp r ta tb):=by
 intro pins s σ H Q I h
 exact wpAny_BinOp (binT ha hb I h fun v u s2 x y H2 I2 rx ry q=>ho pins s2 σ H2 x y v u Q I2 rx ry q)
theorem rV {op:UnaryOp}{r:V->Hp->VK->Prop} (ho:UnR X (unaryOp op) r) (ha:PE X a ta):PE X (.UnaryOp op a pos) (tUn r ta):=by
 intro pins s σ H Q I h
 exact UnaryOp_ (thn (ha pins s σ H _ I h) fun v s1 ⟨x,H1,I1,r1,q1⟩=>ho pins s1 σ H1 x v Q I1 r1 q1)
theorem opI {f:Value->Value->Sem Value}{C:Int->Int->Prop}{g:Int->Int->Int}
  (rule: ∀(i j:Int) (t u:Tok) (s:Shared) (Q:Value->Shared->Prop) (E:Value->Shared->Prop),C i j->Q (.int (g i j) s.toks) {s with toks:=s.toks+1}->wpAny (model X.prog X.w) X.A (f (.int i t) (.int j u)) Q E s):
  OpR X f (rI C fun i j=> .int (g i j)):=by
 intro pins s σ H x y v u Q I rx ry h
 obtain ⟨i,j,rfl,rfl,hc,q⟩:=h
 obtain ⟨t,rfl⟩:=rx
 obtain ⟨t',rfl⟩:=ry
 exact rule i j t t' s _ _ hc ⟨.int (g i j),H,I.tok _,⟨_,rfl⟩,q⟩
theorem opI0 {f:Value->Value->Sem Value}{g:Int->Int->Int}
  (rule: ∀(i j:Int) (t u:Tok) (s:Shared) (Q:Value->Shared->Prop) (E:Value->Shared->Prop),Q (.int (g i j) s.toks) {s with toks:=s.toks+1}->wpAny (model X.prog X.w) X.A (f (.int i t) (.int j u)) Q E s):
  OpR X f (rI0 fun i j=> .int (g i j)):=by
 intro pins s σ H x y v u Q I rx ry h
 obtain ⟨i,j,rfl,rfl,q⟩:=h
 obtain ⟨t,rfl⟩:=rx
 obtain ⟨t',rfl⟩:=ry
 exact rule i j t t' s _ _ ⟨.int (g i j),H,I.tok _,⟨_,rfl⟩,q⟩
theorem opB0 {f:Value->Value->Sem Value}{g:Int->Int->Bool}
  (rule: ∀(i j:Int) (t u:Tok) (s:Shared) (Q:Value->Shared->Prop) (E:Value->Shared->Prop),Q (.bool (g i j)) s->wpAny (model X.prog X.w) X.A (f (.int i t) (.int j u)) Q E s):
  OpR X f (rI0 fun i j=> .bl (g i j)):=by
 intro pins s σ H x y v u Q I rx ry h
 obtain ⟨i,j,rfl,rfl,q⟩:=h
 obtain ⟨t,rfl⟩:=rx
 obtain ⟨t',rfl⟩:=ry
 exact rule i j t t' s _ _ ⟨.bl (g i j),H,I,rfl,q⟩
noncomputable def CDiv (i j:Int):Prop:=0<j/\j<1073741824
noncomputable def CMul (i j:Int):Prop:=(-(2^64)<i/\i<2^64) \/(-(2^64)<j/\j<2^64)
theorem CMul.ok {i j:Int} (h:CMul i j):IntMulOk i j:=by
 rcases h with ⟨h1,h2⟩|⟨h1,h2⟩
 ·exact .of_left (intBits_le_64 h1 h2)
 ·exact .of_right (intBits_le_64 h1 h2)
theorem cr:OpR X (binaryOp .Add) (rI0 fun i j=> .int (i+j)):=opI0 fun _ _ _ _ _ _ _ q=>add_int q
theorem fW:OpR X (binaryOp .Sub) (rI0 fun i j=> .int (i-j)):=opI0 fun _ _ _ _ _ _ _ q=>sub_int q
theorem fX:OpR X (binaryOp .FloorDiv) (rI CDiv fun i j=> .int (i/j)):=opI fun i j _ _ _ _ _ hc q=>by
 have h1:(0:Int)<j:=hc.1
 have h2:j<1073741824:=hc.2
 exact floordiv_int (by lia) (by rw [Int.fdiv_eq_ediv_of_nonneg i (by lia)];exact q) (.inl (PyProof.noPylong_small (by lia)))
theorem bo:OpR X (binaryOp .Mod) (rI (fun _ j=>0<j) fun i j=> .int (i%j)):=opI fun i j _ _ _ _ _ hc q=>by
 have h1:(0:Int)<j:=hc
 exact mod_int' (by lia) (by rw [Int.fmod_eq_emod_of_nonneg i (by lia)];exact q)
theorem unI {f:Value->Sem Value}{g:Int->Int}
  (rule: ∀(i:Int) (t:Tok) (s:Shared) (Q:Value->Shared->Prop) (E:Value->Shared->Prop),Q (.int (g i) s.toks) {s with toks:=s.toks+1}->wpAny (model X.prog X.w) X.A (f (.int i t)) Q E s):
  UnR X f (rU fun i=> .int (g i)):=by
 intro pins s σ H x v Q I rx h
 obtain ⟨i,rfl,q⟩:=h
 obtain ⟨t,rfl⟩:=rx
 exact rule i t s _ _ ⟨.int (g i),H,I.tok _,⟨_,rfl⟩,q⟩
theorem rW:UnR X (unaryOp .USub) (rU fun i=> .int (-i)):=unI fun _ _ _ _ _ q=>neg_int q
end
section
variable {X:Cx}{a b c:Expr}{ta tb tc:TE}{pos:Pos}
theorem lT:OpR X (compareOp .LtE) (rI0 fun i j=> .bl (decide (i<=j))):=opB0 fun _ _ _ _ _ _ _ q=>le_int q
theorem ik:OpR X (compareOp .Gt) (rI0 fun i j=> .bl (decide (j<i))):=opB0 fun _ _ _ _ _ _ _ q=>gt_int q
theorem aS (b:Expr) {op:CmpOp} (h:op≠ .In:=by decide) (h2:op≠ .NotIn:=by decide):behindInMarks op b=false:=by
 have e1:(op==CmpOp.In)=false:=by cases op<;>first|rfl|exact absurd rfl h
 have e2:(op==CmpOp.NotIn)=false:=by cases op<;>first|rfl|exact absurd rfl h2
 cases b<;>simp [behindInMarks,e1,e2]
theorem rX {op:CmpOp}{r:R2} (ho:OpR X (compareOp op) r) (ha:PE X a ta) (hb:PE X b tb) (hm:behindInMarks op b=false):PE X (.Compare a [op] [b] pos) (tOp r ta tb):=by
 intro pins s σ H Q I h
 exact wpAny_Compare1 (binT ha hb I h fun v u s2 x y H2 I2 rx ry q=>ho pins s2 σ H2 x y v u Q I2 rx ry q) hm
noncomputable def rY (t:TE):TT:=fun σ H Q=>t σ H fun x H'=> ∃k,x= .bl k/\Q k H'
theorem rZ {op:CmpOp}{r:R2} (ho:OpR X (compareOp op) r) (ha:PE X a ta) (hb:PE X b tb) (hm:behindInMarks op b=false):PT X (.Compare a [op] [b] pos) (rY (tOp r ta tb)):=by
 intro pins s σ H Q I h
 refine wpAny_isTrue_Compare1 (thn (ha pins s σ H _ I h) fun v s1 ⟨x,H1,I1,r1,q1⟩=>thn (hb pins s1 σ H1 _ I1 q1) fun u s2 ⟨y,H2,I2,r2,q2⟩=>
  thn (ho pins s2 σ H2 x y v u _ I2 r1 r2 q2) fun c s3 ⟨z,H3,I3,r3,k,e,q3⟩=> ?_) hm
 subst e
 cases r3
 exact wpAny_truthy_bool ⟨H3,I3,q3⟩
theorem io:(sizeLine:Nat)<2^63:=by rw [sizeLine_eq];decide
theorem eM {x:V}{us:List Value} (r:Vals [x] us): ∃u,us=[u]/\RelV x u:=by
 cases r with
 |cons r1 r2=>cases r2;exact ⟨_,rfl,r1⟩
theorem r0 {x y:V}{us:List Value} (r:Vals [x,y] us): ∃u w',us=[u,w']/\RelV x u/\RelV y w':=by
 cases r with
 |cons r1 r2=>
  cases r2 with
  |cons r3 r4=>cases r4;exact ⟨_,_,rfl,r1,r3⟩
theorem r8 (hc:X.calm=true):cj X (.builtin "min") (fun xs H Q=> ∃i j,xs=[.int i,.int j]/\Q (.int (if j<i then j else i)) H):=by
 intro pins s σ H xs us Q I r h
 obtain ⟨i,j,rfl,q⟩:=h
 obtain ⟨u,w',rfl,⟨t,rfl⟩,⟨t',rfl⟩⟩:=r0 r
 refine min_two_ints (I.ok.hd hc) fun h' tk k=>⟨_,H,I.kept k,?_,q⟩
 by_cases hj:j<i
 ·rw [if_pos hj,if_pos hj];exact ⟨_,rfl⟩
 ·rw [if_neg hj,if_neg hj];exact ⟨_,rfl⟩
theorem se:cj X (.type "int") (fun xs H Q=>(∃i,xs=[.int i]/\Q (.int i) H) \/ ∃k,xs=[.bl k]/\Q (.int (if k then 1 else 0)) H):=by
 intro pins s σ H xs us Q I r h
 rcases h with ⟨i,rfl,q⟩|⟨k,rfl,q⟩
 ·obtain ⟨u,rfl,t,rfl⟩:=eM r
  exact call_int_int ⟨.int i,H,I,⟨_,rfl⟩,q⟩
 ·obtain ⟨u,rfl,r1⟩:=eM r
  cases r1
  exact call_int_bool ⟨.int (if k then 1 else 0),H,I.tok _,⟨_,rfl⟩,q⟩
end
end L2
namespace L2
open PySem PySem.Spec PyProof.Rows
structure ObjM (h:Heap) (x dx C:Addr) (mA:Str->Option Value):Prop where
 obj:h.get? x=some (PySem.W.instObj C dx)
 ns:h.Ns1 dx mA
 ne:dx≠x
theorem sf {h:Heap}{dx:Addr}{mA:Str->Option Value} (n:h.Ns1 dx mA): ∃od,h.get? dx=some od/\ ∀name,PySem.W.lookIn name od=some (mA name):=by
 obtain ⟨o,es,ep,ho,hd,hk,_,hm⟩:=n
 refine ⟨o,ho,fun name=> ?_⟩
 have e:=hm name
 unfold nsFind findBy at e
 rw [<-Array.find?_toList] at e
 unfold PySem.W.lookIn
 rw [hd]
 dsimp only
 split
 ·rename_i y q
  rw [q] at e
  exact congrArg some e
 ·rename_i q
  rw [q] at e
  have a:es.toList.any (·.refKey)=false:=by
   rw [List.any_eq_false]
   intro y hy
   obtain ⟨z,t,hkey⟩:=hk y (Array.mem_toList_iff.mp hy)
   simp [DictEntry.refKey,hkey]
  have a': ¬es.toList.any (·.refKey)=true:=by rw [a];exact Bool.false_ne_true
  rw [if_neg a']
  exact congrArg some e
theorem ObjM.look {h:Heap}{x dx C:Addr}{mA:Str->Option Value} (I:ObjM h x dx C mA): ∃od,PySem.W.InstAt h x (PySem.W.instObj C dx) C (some od)/\ ∀name,PySem.W.lookIn name od=some (mA name):=
 let ⟨od,ho,hl⟩:=sf I.ns
 ⟨od,⟨I.obj,rfl,rfl,ho⟩,hl⟩
section
variable {prog:Program}{w:World}{A:Around}{E:Value->Shared->Prop}{s:Shared}{K:PySem.W.Frag}{x dx C f:Addr}{mA:Str->Option Value}{name:Str}{v:Value}
theorem sg {expr:Bool}{Q:Value->Shared->Prop} (X:K.In s.heap) (I:ObjM s.heap x dx C mA) (hg:PySem.W.plainGet K C name=true) (hh:PySem.W.hasDictIn K C=true)
  (ha:PySem.W.findIn K (.ref C) name=some none) (hv:mA name=some v) (hv':PySem.W.handedIn v=true) (h:Q v {s with toks:=s.toks+1}):
  wpAny (model prog w) A (getAttr (.ref x) name expr) Q E s:=by
 obtain ⟨od,J,hl⟩:=I.look
 exact PySem.W.get_value X J (PySem.W.plainGet_of hg).1 (PySem.W.findObj_own hh ha rfl (by rw [hl,hv])) hv' h
theorem si {pl:Sem Bool}{Q:Value×List Value->Shared->Prop} (X:K.In s.heap) (I:ObjM s.heap x dx C mA) (hg:PySem.W.plainGet K C name=true)
  (hf:PySem.W.findIn K (.ref C) name=some (some (.ref f))) (ht:PySem.W.isFn K (.ref f)=true) (hv:mA name=none) (h:Q (.ref f,[.ref x]) s):
  wpAny (model prog w) A (getMethod (.ref x) name pl) Q E s:=by
 obtain ⟨od,J,hl⟩:=I.look
 exact PySem.W.method_fn X J (PySem.W.plainGet_of hg).1 (PySem.W.plainGet_of hg).2 hf (beq_iff_eq.mp ht) (by show (PySem.W.lookIn name od).map (·.isSome)=some false;rw [hl,hv];rfl) h
theorem sj {ns:List Str}{Q:Unit->Shared->Prop} (X:K.In s.heap) (I:ObjM s.heap x dx C mA)
  (hs:PySem.W.findIn K (.ref C) "__setattr__"=some (some (.builtin "object.__setattr__"))) (hp:PySem.W.plainOver K C=true) (ht:PySem.W.takerIn K C name=some none) (hh:PySem.W.hasDictIn K C=true)
  (hw:PySem.Within mA ns) (hsz:ns.length<=sizeLine)
  (h: ∀h',ObjM h' x dx C (fun y=>if y=name then some v else mA y)->Heap.SameBut dx s.heap h'->Q () {s with heap:=h',toks:=s.toks+2}):
  wpAny (model prog w) A (setAttr (.ref x) name v) Q E s:=by
 obtain ⟨od,J,hl⟩:=I.look
 refine PySem.W.set_plain X J hs (PySem.W.osa_open (s:={s with toks:=s.toks+1}) (r:=none) X J hp ht fun b=> ?_)
 obtain ⟨cd,hc,hd'⟩:=PySem.W.any_some hh
 have hx:s.heap.get? x=some ⟨.ref C,some dx,.plain,#[]⟩:=I.obj
 refine wpAny_bind (wpAny_pure (wpAny_bind (wpAny_bind (wpAny_loadPart hx (wpAny_bind (PySem.W.Looks.here (s:={s with toks:=s.toks+1}) (PySem.W.looks_clsIn X hc) ?_))))))
 rw [hd']
 refine wpAny_pure (a:=some dx) (wpAny_bind (wpAny_pure (wpAny_bind ?_)))
 refine wpAny_nsSet1 (s:={s with toks:=s.toks+1}) I.ns fun h' hn2 hs2=> ?_
 obtain ⟨oD,esD,epD,hoD,hdD,hcD⟩:=hn2.count (PySem.Within.cons name v hw)
 refine wpAny_bind (wpAny_lookBehind hoD (by rw [hdD];exact pastItsLine_dict (Nat.le_trans hcD (by rw [List.length_cons];lia))) ?_)
 exact wpAny_pure (h _ ⟨(hs2.2 _ (Ne.symm I.ne)).trans I.obj,hn2,I.ne⟩ hs2)
theorem sk {R:Result->Shared->Prop}{vs:List Value}{kw:List (Str×Value)} (X:K.In s.heap) (hm:PySem.W.makesIn K C=true)
  (hi:PySem.W.findIn K (.ref C) "__init__"=some (some (.ref f))) (hf:PySem.W.typeIn K (.ref f)=some (.type "function"))
  (h:codeAny (model prog w) (A.under (.builtin "type.__call__" ⟨.ref C::vs,kw⟩)) (.call (.ref f) ⟨.ref (s.heap.objs.size+1)::vs,kw⟩) (PySem.W.InitBack (s.heap.objs.size+1) R)
   {s with heap:=(s.heap.push PySem.W.emptyDict).push (PySem.W.instObj C s.heap.objs.size)}):
  codeAny (model prog w) A (.call (.ref C) ⟨vs,kw⟩) R s:=by
 obtain ⟨hh,g,d,t,os⟩:=s
 exact PySem.W.make_core (PySem.W.makes_of X hm) (PySem.W.looks_findIn X hi) (fun self=>PySem.W.bind_fn X self hf) (.inl rfl) h
end
noncomputable def putF (f:Str) (v:V):List (Str×V)->List (Str×V)
 |[]=>[(f,v)]
 |(g,x)::r=>if g=f then (g,v)::r else (g,x)::putF f v r
theorem lU (f g:Str) (v:V): ∀fs:List (Str×V),(putF f v fs).lookup g=if g=f then some v else fs.lookup g
 |[]=>by
  show List.lookup g [(f,v)]=_
  by_cases h:g=f
  ·have hb:(g==f)=true:=beq_iff_eq.mpr h
   simp only [List.lookup,hb,if_pos h]
  ·have hb:(g==f)=false:=beq_eq_false_iff_ne.mpr h
   simp only [List.lookup,hb,if_neg h]
 |(k,x)::r=>by
  have ih:=lU f g v r
  rw [show putF f v ((k,x)::r)=(if k=f then (k,v)::r else (k,x)::putF f v r) from rfl]
  by_cases hk:k=f
  ·rw [if_pos hk]
   by_cases h:g=k
   ·have hb:(g==k)=true:=beq_iff_eq.mpr h
    simp only [List.lookup,hb,if_pos (h.trans hk)]
   ·have hb:(g==k)=false:=beq_eq_false_iff_ne.mpr h
    simp only [List.lookup,hb,if_neg (fun e:g=f=>h (e.trans hk.symm))]
  ·rw [if_neg hk]
   by_cases h:g=k
   ·have hb:(g==k)=true:=beq_iff_eq.mpr h
    simp only [List.lookup,hb,if_neg (fun e:g=f=>hk (h.symm.trans e))]
   ·have hb:(g==k)=false:=beq_eq_false_iff_ne.mpr h
    simp only [List.lookup,hb]
    exact ih
theorem jF (f:Str) (v:V): ∀fs:List (Str×V),f∈(putF f v fs).map (·.1)/\ ∀g,g∈fs.map (·.1)->g∈(putF f v fs).map (·.1)
 |[]=>⟨by simp [putF],fun g h=>by simp at h⟩
 |(k,x)::r=>by
  obtain ⟨i1,i2⟩:=jF f v r
  rw [show putF f v ((k,x)::r)=(if k=f then (k,v)::r else (k,x)::putF f v r) from rfl]
  by_cases hk:k=f
  ·rw [if_pos hk]
   subst hk
   exact ⟨by simp,fun g h=>by simpa using h⟩
  ·rw [if_neg hk]
   refine ⟨?_,fun g h=> ?_⟩
   ·rw [List.map_cons]
    exact List.mem_cons_of_mem _ i1
   ·rw [List.map_cons] at h|-
    rcases List.mem_cons.mp h with e|e
    ·exact List.mem_cons.mpr (.inl e)
    ·exact List.mem_cons_of_mem _ (i2 g e)
theorem lV (f:Str) (v:V): ∀fs:List (Str×V),(putF f v fs).length<=fs.length+1
 |[]=>by simp [putF]
 |(k,x)::r=>by
  have ih:=lV f v r
  rw [show putF f v ((k,x)::r)=(if k=f then (k,v)::r else (k,x)::putF f v r) from rfl]
  by_cases hk:k=f
  ·rw [if_pos hk,List.length_cons,List.length_cons];lia
  ·rw [if_neg hk,List.length_cons,List.length_cons];lia
theorem RelO.some_of {v:V}{o:Option Value} (r:RelO (some v) o): ∃u,o=some u/\RelV v u:=by
 cases o with
 |none=>exact (show False from r).elim
 |some u=>exact ⟨u,rfl,r⟩
theorem RelO.none_of {o:Option Value} (r:RelO none o):o=none:=by
 cases o with
 |none=>rfl
 |some u=>exact (show False from r).elim
theorem sn {v:V}{u:Value} (r:RelV v u):PySem.W.handedIn u=true:=by
 cases v with
 |non=>cases (show u=Value.none from r);rfl
 |bl b=>cases (show u=Value.bool b from r);rfl
 |int i=>obtain ⟨t,e⟩:=(show∃t,u=Value.int i t from r);cases e;rfl
 |str x=>obtain ⟨t,e⟩:=(show∃t,u=Value.str x t from r);cases e;rfl
 |byt b=>obtain ⟨t,e⟩:=(show∃t,u=Value.bytes b t from r);cases e;rfl
 |flt b=>obtain ⟨t,e⟩:=(show∃t,u=Value.float b t from r);cases e;rfl
 |ref a=>cases (show u=Value.ref a from r);rfl
 |ty n=>cases (show u=Value.type n from r);rfl
section
variable {P:Program}{w:World}{H H':Hp}{h h':Heap}{a C dx:Addr}{fs fs':List (Str×V)}
theorem ip (hok:HOk P w H h) (e:H a=some (.ins C dx fs)): ∃mA,ObjM h a dx C mA/\(∀f,RelO (fs.lookup f) (mA f))/\PySem.Within mA (fs.map (·.1))/\fs.length<=1000/\H dx=some (.own a):=by
 obtain ⟨d,z,ne,ob,mA,n,r,q⟩:=(show az P w H h a (.ins C dx fs) from hok a _ e)
 exact ⟨mA,⟨ob,n,ne⟩,r,q,z,d⟩
end
structure Cls (K:PySem.W.Frag) (C:Addr):Prop where
 pg:PySem.W.plainGet K C Str.empty=true
 hd:PySem.W.hasDictIn K C=true
 po:PySem.W.plainOver K C=true
 sa:PySem.W.findIn K (.ref C) "__setattr__"=some (some (.builtin "object.__setattr__"))
theorem Cls.get {K:PySem.W.Frag}{C:Addr} (c:Cls K C) (f:Str):PySem.W.plainGet K C f=true:=c.pg
noncomputable def cu (K:PySem.W.Frag) (C:Addr) (f:Str):Prop:=PySem.W.findIn K (.ref C) f=some none
theorem cu.taker {K:PySem.W.Frag}{C:Addr}{f:Str} (n:cu K C f):PySem.W.takerIn K C f=some none:=by
 unfold PySem.W.takerIn
 rw [show PySem.W.findIn K (.ref C) f=some none from n]
 rfl
structure Meth (K:PySem.W.Frag) (C:Addr) (m:Str) (f:Addr):Prop where
 at_:PySem.W.findIn K (.ref C) m=some (some (.ref f))
 fn:PySem.W.isFn K (.ref f)=true
 kp:PySem.W.keepIn K (.ref f)=true
section
variable {X:Cx}{pins:List (Addr×Obj)}{σ:St}{H:Hp}{s:Shared}{a C dx:Addr}{fs:List (Str×V)}{f:Str}{v:V}{A:Around}{E:Value->Shared->Prop}
theorem ss {b:Bool}{Q:Value->Shared->Prop} (I:Inv X pins σ H s) (e:H a=some (.ins C dx fs)) (c:Cls X.K C) (n:cu X.K C f) (l:fs.lookup f=some v)
  (h: ∀u s',Inv X pins σ H s'->RelV v u->Q u s'):wpAny (model X.prog X.w) A (getAttr (.ref a) f b) Q E s:=by
 obtain ⟨mA,O,r,_,_,_⟩:=ip I.hok e
 obtain ⟨u,hu,ru⟩:=RelO.some_of (v:=v) (o:=mA f) (by rw [<-l];exact r f)
 exact sg I.kIn O (c.get f) c.hd n hu (sn ru) (h u _ (I.tok _) ru)
theorem lX {m:Str}{g:Addr}{pl:Sem Bool}{Q:Value×List Value->Shared->Prop} (I:Inv X pins σ H s) (e:H a=some (.ins C dx fs)) (c:Cls X.K C) (k:Meth X.K C m g) (l:fs.lookup m=none)
  (h:Q (.ref g,[.ref a]) s):wpAny (model X.prog X.w) A (getMethod (.ref a) m pl) Q E s:=by
 obtain ⟨mA,O,r,_,_,_⟩:=ip I.hok e
 have hn:mA m=none:=RelO.none_of (by rw [<-l];exact r m)
 exact si I.kIn O (c.get m) k.at_ k.fn hn h
theorem su {y:V}{u:Value}{Q:Unit->Shared->Prop} (I:Inv X pins σ H s) (e:H a=some (.ins C dx fs)) (c:Cls X.K C) (n:cu X.K C f) (hl:fs.length<1000) (ry:RelV y u)
  (h: ∀s',Inv X pins σ (upd H a (.ins C dx (putF f y fs))) s'->Q () s'):wpAny (model X.prog X.w) A (setAttr (.ref a) f u) Q E s:=by
 obtain ⟨mA,O,r,wi,_,ho⟩:=ip I.hok e
 have hz:(fs.map (·.1)).length<=sizeLine:=by rw [List.length_map,sizeLine_eq];lia
 refine sj I.kIn O c.sa c.po n.taker c.hd wi hz fun h' O' sb=>h _ ?_
 have hd: ∃o,h'.get? dx=some o:=let ⟨o,_,_,e',_⟩:=O'.ns;⟨o,e'⟩
 refine I.write (x:=a) (e:=dx) (by rw [e];exact True.intro) (.inr ho) (fun b q hb z=>(sb.2 b hb).trans z) hd ?_
 refine ⟨by rw [ag O.ne];exact ho,?_,O.ne,O'.obj,_,O'.ns,fun g=> ?_,fun g hg=> ?_⟩
 ·have:=lV f y fs;lia
 ·show RelO ((putF f y fs).lookup g) (if g=f then some u else mA g)
  rw [lU]
  by_cases q:g=f
  ·rw [if_pos q,if_pos q];exact ry
  ·rw [if_neg q,if_neg q];exact r g
 ·by_cases q:g=f
  ·rw [q];exact (jF f y fs).1
  ·refine (jF f y fs).2 g (wi g fun z=>hg ?_)
   show (if g=f then some u else mA g)=none
   rw [if_neg q];exact z
theorem Inv.made (I:Inv X pins σ H s):Inv X pins σ (upd (upd H s.heap.objs.size (.own (s.heap.objs.size+1))) (s.heap.objs.size+1) (.ins C s.heap.objs.size []))
  {s with heap:=(s.heap.push PySem.W.emptyDict).push (PySem.W.instObj C s.heap.objs.size)}:=by
 have e1:(s.heap.push PySem.W.emptyDict).get? s.heap.objs.size=some PySem.W.emptyDict:=Heap.get?_push_size s.heap rfl
 have e2:((s.heap.push PySem.W.emptyDict).push (PySem.W.instObj C s.heap.objs.size)).get? (s.heap.objs.size+1)=some (PySem.W.instObj C s.heap.objs.size):=by
  have:=Heap.get?_push_size (s.heap.push PySem.W.emptyDict) (o:=PySem.W.instObj C s.heap.objs.size) rfl
  rwa [Heap.size_push] at this
 have e3:(s.heap.push PySem.W.emptyDict).Ns s.heap.objs.size (fun _=>none):=⟨PySem.W.emptyDict,#[],_,e1,rfl,(fun e he=>absurd he (by simp)),fun _=>rfl⟩
 have I1:=I.laid (a:=s.heap.objs.size) (o:= .own (s.heap.objs.size+1)) (h':=s.heap.push PySem.W.emptyDict) (t':=s.toks) (fun b u q=>Heap.get?_push_of_some _ q) (Nat.le_refl _) ⟨_,e1⟩
 refine I1.laid (a:=s.heap.objs.size+1) (o:= .ins C s.heap.objs.size []) (t':=s.toks) (fun b u q=>Heap.get?_push_of_some _ q) (Nat.le_of_eq (Heap.size_push _ _)) ?_
 have ne:s.heap.objs.size≠s.heap.objs.size+1:=Nat.ne_of_lt (Nat.lt_succ_self _)
 refine ⟨by rw [ag ne,ay],Nat.zero_le _,ne,e2,fun _=>none,(Heap.Ns1.of_empty e3).at fun o q=>Heap.get?_push_of_some _ q,fun _=>True.intro,fun y hy=>absurd rfl hy⟩
theorem sv {prog:Program}{w:World}{env:Env}{e:Expr}{f:Str}{pos:Pos}{s:Shared}{Q:Value->Shared->Prop} (hb:attributeBase e f env (eval e env)=eval e env)
  (h:wpAny (model prog w) A (eval e env) (fun o s₁=>wpAny (model prog w) A (getAttr o f true) Q E s₁) E s):wpAny (model prog w) A (eval (.Attribute e f pos) env) Q E s:=
 Attribute_any_ h (by rw [arm_eval_Attribute,hb])
end
noncomputable def tFld (K:PySem.W.Frag) (ta:TE) (f:Str):TE:=fun σ H Q=>ta σ H fun x H1=> ∃a C dx fs v,x= .ref a/\H1 a=some (.ins C dx fs)/\Cls K C/\cu K C f/\fs.lookup f=some v/\Q v H1
noncomputable def sFld (K:PySem.W.Frag) (ta tv:TE) (f:Str):TS:=fun D σ H=>tv σ H fun y H1=>ta σ H1 fun x H2=> ∃a C dx fs,x= .ref a/\H2 a=some (.ins C dx fs)/\Cls K C/\cu K C f/\fs.length<1000/\
 D.nx σ (upd H2 a (.ins C dx (putF f y fs)))
section
variable {X:Cx}{o e value:Expr}{f:Str}{pos pos' tpos:Pos}{ta tv:TE}
theorem jG (he:PE X e ta) (hb:attributeBase e f X.env (eval e X.env)=eval e X.env):PE X (.Attribute e f pos) (tFld X.K ta f):=by
 intro pins s σ H Q I h
 refine sv hb (thn (he pins s σ H _ I h) fun u s1 ⟨x,H1,I1,rx,a,C,dx,fs,v,ex,ea,c,n,l,q⟩=> ?_)
 subst ex
 obtain rfl:u=Value.ref a:=rx
 exact ss I1 ea c n l fun u' s2 I2 ru=>⟨v,H1,I2,ru,q⟩
theorem sw (ha:PE X o ta) (hv:PE X value tv) (hs:swapsWith value (some (.Attribute o f pos')) pos.line X.env=pure false):PS X (.Assign [.Attribute o f pos'] value pos) (sFld X.K ta tv f):=by
 intro pins s σ H D I h
 refine plainObj_wpAny_Assign_Attribute (thn (hv pins s σ H _ I h) fun u s1 ⟨y,H1,I1,ry,q⟩=>thn (ha pins s1 σ H1 _ I1 q) fun ov s2 ⟨x,H2,I2,rx,a,C,dx,fs,ex,ea,c,n,l,q2⟩=> ?_) hs
 subst ex
 obtain rfl:ov=Value.ref a:=rx
 exact su I2 ea c n l ry fun s3 I3=>⟨σ,_,I3,q2⟩
theorem A4 {pl:Sem Bool}{m:Str}{apos:Pos}{args:List Expr}{pins:List (Addr×Obj)}{s:Shared}{σ:St}{H:Hp}{Q:Value->Shared->Prop}{te:TE} (he:PE X e te) (I:Inv X pins σ H s)
  (h:te σ H fun x H1=> ∃a C dx fs g,x= .ref a/\H1 a=some (.ins C dx fs)/\Cls X.K C/\Meth X.K C m g/\fs.lookup m=none/\
   ∀s1,Inv X pins σ H1 s1->wpAny (model X.prog X.w) X.A (callWith pos (.ref g) [.ref a] (backTo pos (starEach args X.env)) (backToKw pos (keywordEach [] X.env))) Q X.xe s1)
  (ht:eval (.Call (.Attribute e m apos) args [] pos) X.env=(do
   let ov<-eval e X.env
   standAt apos.atName
   let (f,first)<-holding [ov] (getMethod ov m pl)
   callWith pos f first (backTo pos (starEach args X.env)) (backToKw pos (keywordEach [] X.env)))):
  wpAny (model X.prog X.w) X.A (eval (.Call (.Attribute e m apos) args [] pos) X.env) Q X.xe s:=by
 refine PySem.W.methodCall_KW (pl:=pl) (thn (he pins s σ H _ I h) fun u s1 ⟨x,H1,I1,rx,a,C,dx,fs,g,ex,ea,c,k,l,q⟩=> ?_) ht
 subst ex
 obtain rfl:u=Value.ref a:=rx
 exact lX I1 ea c k l (q s1 I1)
end
section
variable {X:Cx}{pins:List (Addr×Obj)}{σ:St}{H:Hp}{s:Shared}{A:Around}{E:Value->Shared->Prop}{Q:Value->Shared->Prop}{c:Value}{b:Bool}
inductive TyOf (K:PySem.W.Frag) (H:Hp):V->Value->Prop where
 |non:TyOf K H .non (.type "NoneType")
 |bl (x:Bool):TyOf K H (.bl x) (.type "bool")
 |int (i:Int):TyOf K H (.int i) (.type "int")
 |str (x:Str):TyOf K H (.str x) (.type "str")
 |flt (x:UInt64):TyOf K H (.flt x) (.type "float")
 |lst {a:Addr}{xs:List V} (e:H a=some (.lst xs)):TyOf K H (.ref a) (.type "list")
 |frz {a:Addr}{o:Obj}{xs:List V} (e:H a=some (.frz o (.lst xs))):TyOf K H (.ref a) (.type "list")
 |tup {a:Addr}{xs:List V} (e:H a=some (.tup xs)):TyOf K H (.ref a) (.type "tuple")
 |dK {a:Addr}{kvs:List (Key×V)} (e:Rd H a (.dK kvs)):TyOf K H (.ref a) (.type "dict")
 |dT {a:Addr}{kvs:List (List Key×V)} (e:Rd H a (.dT kvs)):TyOf K H (.ref a) (.type "dict")
 |ins {a C dx:Addr}{fs:List (Str×V)} (e:H a=some (.ins C dx fs)) (cl:Cls K C) (ha:PySem.W.findIn K (.ref C) "__class__"=some (some (.builtin "object.__class__")))
   (hn:PySem.W.specialIn K (.builtin "object.__class__") "__get__"=some (some (.builtin "getset_descriptor.__get__"))) (htk:PySem.W.takesIn K (.builtin "object.__class__")=some true)
   (hm:PySem.W.mroIn K C (.type "object")=some true):TyOf K H (.ref a) (.ref C)
theorem sA {x:V}{u t:Value} (I:Inv X pins σ H s) (rx:RelV x u) (ty:TyOf X.K H x t) (e:PySem.W.kitOne X.K t c=some b) (h: ∀tk,Q (.bool b) {s with toks:=tk}):
  wpAny (model X.prog X.w) A (call (.builtin "isinstance") [u,c]) Q E s:=by
 cases ty with
 |non=>cases (show u=Value.none from rx);exact PySem.W.kia_one PySem.W.kitx_none I.kIn True.intro e (fun z=>nomatch z) h
 |bl y=>cases (show u=Value.bool y from rx);exact PySem.W.kia_one PySem.W.kitx_bool I.kIn True.intro e (fun z=>nomatch z) h
 |int i=>obtain ⟨t,q⟩:=(show∃t,u=Value.int i t from rx);cases q;exact PySem.W.kia_one PySem.W.kitx_int I.kIn True.intro e (fun z=>nomatch z) h
 |str y=>obtain ⟨t,q⟩:=(show∃t,u=Value.str y t from rx);cases q;exact PySem.W.kia_one PySem.W.kitx_str I.kIn True.intro e (fun z=>nomatch z) h
 |flt y=>obtain ⟨t,q⟩:=(show∃t,u=Value.float y t from rx);cases q;exact PySem.W.kia_one PySem.W.kitx_float I.kIn True.intro e (fun z=>nomatch z) h
 | @lst a xs ea=>
  cases (show u=Value.ref a from rx)
  obtain ⟨_,_,n,_,h1⟩:=(show az X.prog X.w H s.heap a (.lst xs) from I.hok a _ ea)
  exact PySem.W.kia_one PySem.W.kitx_list I.kIn ⟨_,h1,rfl⟩ e (fun z=>nomatch z) h
 | @frz a ob xs ea=>
  cases (show u=Value.ref a from rx)
  obtain ⟨_,_,_,n,_,h1⟩:=(show az X.prog X.w H s.heap a (.frz ob (.lst xs)) from I.hok a _ ea)
  exact PySem.W.kia_one PySem.W.kitx_list I.kIn ⟨_,h1,rfl⟩ e (fun z=>nomatch z) h
 | @tup a xs ea=>
  cases (show u=Value.ref a from rx)
  obtain ⟨_,_,_,p⟩:=(show az X.prog X.w H s.heap a (.tup xs) from I.hok a _ ea)
  obtain ⟨o,h1,h2,_⟩:=p
  exact PySem.W.kia_one PySem.W.kitx_tuple I.kIn ⟨o,h1,h2⟩ e (fun z=>nomatch z) h
 | @dK a kvs ea=>
  cases (show u=Value.ref a from rx)
  obtain ⟨_,_,vs,_,p⟩:=(show az X.prog X.w H s.heap a (.dK kvs) from ea.ok I.hok)
  obtain ⟨o,es,ep,h1,h2,_⟩:=p
  exact PySem.W.kia_one PySem.W.kitx_dict I.kIn ⟨o,h1,h2.1⟩ e (fun z=>nomatch z) h
 | @dT a kvs ea=>
  cases (show u=Value.ref a from rx)
  obtain ⟨_,_,xs,_,o,es,ep,h1,h2,_⟩:=(show az X.prog X.w H s.heap a (.dT kvs) from ea.ok I.hok)
  exact PySem.W.kia_one PySem.W.kitx_dict I.kIn ⟨o,h1,h2.1⟩ e (fun z=>nomatch z) h
 | @ins a C dx fs ea cl ha hn htk hm=>
  cases (show u=Value.ref a from rx)
  obtain ⟨mA,O,_⟩:=ip I.hok ea
  obtain ⟨od,J,_⟩:=O.look
  exact PySem.W.kia_one (PySem.W.kitx_own (cl.get _) cl.hd ha hn htk hm) I.kIn J e (fun z=>nomatch z) h
end
end L2
namespace L2
open PySem PySem.Spec PyProof.Rows
structure Room (k:Nat) (A:Around):Prop where
 hd:A.handled=none
 dp:A.depth+3*k+5<recursionLimit
 un:A.units+16*k+200<cLine
theorem Room.mono {j k:Nat}{A:Around} (r:Room k A) (h:j<=k):Room j A:=⟨r.hd,by have:=r.dp;lia,by have:=r.un;lia⟩
theorem Room.deeper {k:Nat}{A:Around} (r:Room (k+1) A) (env:Env):Room k (A.deeper env):=
 ⟨r.hd,by have:=r.dp;show A.depth+1+3*k+5<_;lia,by have:=r.un;show A.units+3+16*k+200<_;lia⟩
theorem sB {A:Around}{C:Addr}{us:List Value}{kw:List (Str×Value)}:(A.under (.builtin "type.__call__" ⟨.ref C::us,kw⟩)).depth=A.depth+1:=by
 first|rfl|simp [Around.under,Code.weight,Code.isCreation,Code.isGuard,Code.isCaller,Code.frames,Code.isFrame,guardIds]
theorem sC {A:Around}{C:Addr}{us:List Value}{kw:List (Str×Value)}:(A.under (.builtin "type.__call__" ⟨.ref C::us,kw⟩)).units=A.units+1:=by
 first|rfl|simp [Around.under,Code.cUnits,Code.frames,Code.isFrame]
theorem Room.make {k:Nat}{A:Around} (r:Room (k+1) A) (C:Addr) (us:List Value) (kw:List (Str×Value)):Room k (A.under (.builtin "type.__call__" ⟨.ref C::us,kw⟩)):=
 ⟨r.hd,by have:=r.dp;rw [sB];lia,by have:=r.un;rw [sC];lia⟩
theorem Room.depth {k:Nat}{A:Around} (r:Room k A):A.depth<recursionLimit:=by have:=r.dp;lia
theorem Room.units {k:Nat}{A:Around} (r:Room k A):A.units+64<cLine:=by have:=r.un;lia
noncomputable def tNil:TA:=fun _ H Q=>Q [] H
noncomputable def sD (ta:TE) (tr:TA):TA:=fun σ H Q=>ta σ H fun x H1=>tr σ H1 fun xs H2=>Q (x::xs) H2
section
variable {X:Cx}{e:Expr}{es:List Expr}{te:TE}{t:TA}{pos:Pos}
theorem cY:PA X [] tNil:=fun _ _ _ _ H Q I h=>Calls.spliced_nil ⟨[],H,I,.nil,h⟩
theorem bK (ha:PE X e te) (hr:PA X es t) (hs:starEach (e::es) X.env=(false,eval e X.env)::starEach es X.env:=by rfl):PA X (e::es) (sD te t):=by
 intro pos pins s σ H Q I h
 rw [hs]
 show wpAny _ _ (spliced ((false,eval e X.env)::backTo pos (starEach es X.env))) _ _ s
 refine Calls.spliced_cons (thn (ha pins s σ H _ I h) fun u s1 ⟨x,H1,I1,r1,q1⟩=> ?_)
 exact thn (hr pos pins s1 σ H1 _ I1 q1) fun us s2 ⟨xs,H2,I2,r2,q2⟩=>⟨x::xs,H2,I2,.cons r1 r2,q2⟩
noncomputable def tTup (t:TA):TE:=fun σ H Q=>t σ H fun xs H1=>xs.length<=sizeLine/\ ∀p,H1 p=none->Q (.ref p) (upd H1 p (.tup xs))
noncomputable def tLst (t:TA):TE:=fun σ H Q=>t σ H fun xs H1=>xs.length<=sizeLine/\ ∀p,H1 p=none->Q (.ref p) (upd H1 p (.lst xs))
theorem sE {x1} (h:PA X es t):PE X (.Tuple es x1 pos) (tTup t):=by
 intro pins s σ H Q I hq
 refine wpAny_Tuple_spliced (thn (h pos pins s σ H _ I hq) fun us s1 ⟨xs,H1,I1,r,z,q⟩=>⟨by rw [<-r.length];exact z,?_⟩)
 have hf:H1 s1.heap.objs.size=none:=I1.hok.fresh (Nat.le_refl _)
 refine ⟨.ref s1.heap.objs.size,upd H1 s1.heap.objs.size (.tup xs),I1.laid (t':=s1.toks) (fun b u e=>Heap.get?_push_of_some _ e) (Nat.le_refl _) ?_,rfl,q _ hf⟩
 exact ⟨z,us,r,⟨_,Heap.get?_push_size _ rfl,rfl,⟨_,rfl⟩,rfl⟩⟩
theorem sF (h:PA X es t):PE X (.List es pos) (tLst t):=by
 intro pins s σ H Q I hq
 refine wpAny_List_spliced (thn (h pos pins s σ H _ I hq) fun us s1 ⟨xs,H1,I1,r,z,q⟩=>⟨by rw [<-r.length];exact z,?_⟩)
 have hf:H1 s1.heap.objs.size=none:=I1.hok.fresh (Nat.le_refl _)
 refine ⟨.ref s1.heap.objs.size,upd H1 s1.heap.objs.size (.lst xs),I1.laid (t':=s1.toks) (fun b u e=>Heap.get?_push_of_some _ e) (Nat.le_refl _) ?_,rfl,q _ hf⟩
 exact ⟨z,us,0,r,Heap.get?_push_size _ rfl⟩
end
noncomputable abbrev Sp:=List V->Hp->VK->XK->Prop
noncomputable abbrev CXT:=List Env->Hp->Shared->XK->Value->Shared->Prop
structure Env0 (P:Program) (w:World) (K:PySem.W.Frag) (mg:Str->Option Value) (base:Heap) (A:Around) (outer:List Env) (s:Shared) (H:Hp):Prop where
 frames:A.frames=some outer
 mod:Mod K mg base
 bs: ∀b o,base.get? b=some o->s.heap.get? b=some o/\H b=none
 bsz:base.objs.size<=s.heap.objs.size
 funs:s.heap.FunFrames base outer
 frf: ∀b∈frs outer,H b=none
 hok:HOk P w H s.heap
 bare:AllBare s.gens
noncomputable def CE (outer:List Env) (P:Program) (w:World) (H:Hp) (s:Shared) (Q:VK) (u:Value) (s':Shared):Prop:=
 ∃v H',s'.os=s.os/\AllBare s'.gens/\Un (frs outer) [] H H' s.heap s'.heap/\HOk P w H' s'.heap/\RelV v u/\Q v H'
noncomputable def CR (CX:CXT) (outer:List Env) (P:Program) (w:World) (H:Hp) (s:Shared) (Q:VK) (E:XK) (r:Result) (s':Shared):Prop:=
 match r with
 | .ok (.ret u)=>CE outer P w H s Q u s'
 | .ok _=>False
 | .error e=>CX outer H s E e s'
structure FnOk (P:Program) (w:World) (K:PySem.W.Frag) (mg:Str->Option Value) (base:Heap) (CX:CXT) (k:Nat) (f:Addr) (fd:FuncData) (ps:List Str) (sp:Sp):Prop where
 len: ∀vs H Q E,sp vs H Q E->vs.length=ps.length
 run: ∀(A:Around) (outer:List Env) (s:Shared) (H:Hp) (args:Args) (us:List Value) (vs:List V) (Q:VK) (E:XK),Room k A->Env0 P w K mg base A outer s H->BindsTo s fd args (ps.zip us)->Vals vs us->sp vs H Q E->
  codeAny (model P w) A (.call (.ref f) args) (CR CX outer P w H s Q E) s
theorem Env0.make {P:Program}{w:World}{K:PySem.W.Frag}{mg:Str->Option Value}{base:Heap}{A:Around}{outer:List Env}{s:Shared}{H:Hp} (e:Env0 P w K mg base A outer s H) (C:Addr) (us:List Value) (kw:List (Str×Value)):
  Env0 P w K mg base (A.under (.builtin "type.__call__" ⟨.ref C::us,kw⟩)) outer s H:=⟨by first|exact e.frames|(simpa [Around.under,Code.envs,Code.isFrame,pushEnvs] using e.frames),e.mod,e.bs,e.bsz,e.funs,e.frf,e.hok,e.bare⟩
section
variable {X:Cx}{pins:List (Addr×Obj)}{σ:St}{H:Hp}{s s':Shared}
theorem Inv.env0 (I:Inv X pins σ H s):Env0 X.prog X.w X.K X.mg X.base X.A X.stack s H:=
 ⟨I.ok.frames,I.ok.mod,I.bs,Nat.le_trans I.ok.bsz I.sz,I.stack,I.stkFree,I.hok,I.bare⟩
theorem Inv.after {Q:VK}{u:Value} (I:Inv X pins σ H s) (h:CE X.stack X.prog X.w H s Q u s'):EP X pins σ Q u s':=by
 obtain ⟨v,H',os,bare,un,hok,r,q⟩:=h
 obtain ⟨hh,g,d,t,os'⟩:=s'
 obtain rfl:os'=s.os:=os
 exact ⟨v,H',I.call (h':=hh) (g':=g) (d':=d) (t':=t) (ch:=[]) un hok bare (fun b z=>absurd z (by simp)),r,q⟩
end
noncomputable def jH (sp:Sp) (dvs:List V) (E:XK) (t:TA):TE:=fun σ H Q=>t σ H fun vs H1=>sp (vs++dvs) H1 Q E
noncomputable def sG (C:Addr) (m:Str) (sp:Sp) (dvs:List V) (E:XK) (ta:TE) (t:TA):TE:=fun σ H Q=>ta σ H fun x H1=> ∃a dx fs,x= .ref a/\H1 a=some (.ins C dx fs)/\fs.lookup m=none/\
 t σ H1 fun vs H2=>sp (x::(vs++dvs)) H2 Q E
noncomputable def sH (C:Addr) (sp:Sp) (dvs:List V) (E:XK) (t:TA):TE:=fun σ H Q=>t σ H fun vs H1=> ∀x dx,H1 x=none->H1 dx=none->dx≠x->
 sp (.ref x::(vs++dvs)) (upd (upd H1 dx (.own x)) x (.ins C dx [])) (fun v H2=>v= .non/\Q (.ref x) H2) E
noncomputable def cm (K:PySem.W.Frag) (fd:FuncData) (ps:List Str) (ds:List Value):Prop:=
 ∀(s:Shared) (us:List Value),K.In s.heap->(us++ds).length=ps.length->BindsTo s fd ⟨us,[]⟩ (ps.zip (us++ds))
theorem cm.all {K:PySem.W.Frag}{fd:FuncData}{ps:List Str} (h: ∀us:List Value,us.length=ps.length->bindArgs fd ⟨us,[]⟩=pure (ps.zip us)):cm K fd ps []:=fun s us _ hl=>by
 rw [List.append_nil] at hl|-
 exact .of_eq (h us hl)
noncomputable def eN (CX:CXT) (X:Cx) (E:XK):Prop:= ∀(pins:List (Addr×Obj)) (σ:St) (H:Hp) (s:Shared) (e:Value) (s':Shared),Inv X pins σ H s->CX X.stack H s E e s'->X.xe e s'
section
variable {X:Cx}{CX:CXT}{k:Nat}{f C:Addr}{fd:FuncData}{ps:List Str}{sp:Sp}{dvs:List V}{ds:List Value}{E:XK}{x m:Str}{p pos apos:Pos}{e o:Expr}{es:List Expr}{ta:TE}{t:TA}
theorem lY {pins:List (Addr×Obj)}{σ:St}{H:Hp}{s:Shared}{Q:VK}{us:List Value}{vs:List V} (F:FnOk X.prog X.w X.K X.mg X.base CX k f fd ps sp) (hr:Room k X.A) (hb:cm X.K fd ps ds) (hd:Vals dvs ds) (hx:eN CX X E)
  (I:Inv X pins σ H s) (r:Vals vs us) (h:sp (vs++dvs) H Q E):wpAny (model X.prog X.w) X.A (call (.ref f) us) (EP X pins σ Q) X.xe s:=by
 have r2:Vals (vs++dvs) (us++ds):=r.append hd
 have hl:(us++ds).length=ps.length:=by rw [<-r2.length];exact F.len _ _ _ _ h
 refine wpAny_call (codeAny_mono (F.run X.A X.stack s H ⟨us,[]⟩ (us++ds) (vs++dvs) Q E hr I.env0 (hb s us I.kIn hl) r2 h) fun r s' hq=> ?_)
 cases r with
 |error e=>exact hx pins σ H s e s' I hq
 |ok fl=>
  cases fl with
  |ret u=>exact I.after hq
  |next=>exact False.elim hq
  |brk=>exact False.elim hq
  |cont=>exact False.elim hq
theorem sI (F:FnOk X.prog X.w X.K X.mg X.base CX k f fd ps sp) (hr:Room k X.A) (hg:Gl X x) (hm:X.mg x=some (.ref f)) (hk:PySem.W.keepIn X.K (.ref f)=true) (hb:cm X.K fd ps ds) (hd:Vals dvs ds) (hx:eN CX X E)
  (ha:PA X (e::es) t) (hdb:(x==("__debug__":Str))=false:=by decide) (he:starEach (e::es) X.env=(false,eval e X.env)::starEach es X.env:=by rfl) (hpl:(backTo pos (starEach es X.env)).any (·.1)=false:=by rfl):
  PE X (.Call (.Name x p) (e::es) [] pos) (jH sp dvs E t):=by
 intro pins s σ H Q I h
 refine wpAny_Call_Name_kw (lK I hg hm ?_ hdb)
 refine PySem.W.callWith_K (h₀:=X.base) I.ok.mod.kin hk (thn (ha pos pins s σ H _ I h) fun us s1 ⟨vs,H1,I1,r,q⟩=>⟨I1.kIn,?_⟩) he hpl
 exact lY F hr hb hd hx I1 r q
theorem sJ {pl:Sem Bool} (he:PE X o ta) (c:Cls X.K C) (hm:Meth X.K C m f) (F:FnOk X.prog X.w X.K X.mg X.base CX k f fd ps sp) (hr:Room k X.A) (hb:cm X.K fd ps ds) (hd:Vals dvs ds) (hx:eN CX X E) (ha:PA X (e::es) t)
  (hst:starEach (e::es) X.env=(false,eval e X.env)::starEach es X.env:=by rfl) (hpl:(backTo pos (starEach es X.env)).any (·.1)=false:=by rfl)
  (ht:eval (.Call (.Attribute o m apos) (e::es) [] pos) X.env=(do
   let ov<-eval o X.env
   standAt apos.atName
   let (f,first)<-holding [ov] (getMethod ov m pl)
   callWith pos f first (backTo pos (starEach (e::es) X.env)) (backToKw pos (keywordEach [] X.env))):=by rfl):
  PE X (.Call (.Attribute o m apos) (e::es) [] pos) (sG C m sp dvs E ta t):=by
 intro pins s σ H Q I h
 refine PySem.W.methodCall_KW (pl:=pl) (thn (he pins s σ H _ I h) fun u s1 ⟨x,H1,I1,rx,a,dx,fs,ex,ea,l,q⟩=> ?_) ht
 subst ex
 obtain rfl:u=Value.ref a:=rx
 refine lX I1 ea c hm l ?_
 refine PySem.W.callWith_K (first:=[.ref a]) (h₀:=X.base) I.ok.mod.kin hm.kp (thn (ha pos pins s1 σ H1 _ I1 q) fun us s2 ⟨vs,H2,I2,r,q2⟩=>⟨I2.kIn,?_⟩) hst hpl
 exact lY (us:= .ref a::us) (vs:= .ref a::vs) F hr hb hd hx I2 (.cons rfl r) q2
structure Mk (K:PySem.W.Frag) (C f:Addr):Prop where
 makes:PySem.W.makesIn K C=true
 init:PySem.W.findIn K (.ref C) "__init__"=some (some (.ref f))
 fn:PySem.W.isFn K (.ref f)=true
 kp:PySem.W.keepIn K (.ref C)=true
theorem sK {pins:List (Addr×Obj)}{σ:St}{H:Hp}{s:Shared}{Q:VK}{us:List Value}{vs:List V} (M:Mk X.K C f) (F:FnOk X.prog X.w X.K X.mg X.base CX k f fd ps sp) (hr:Room (k+1) X.A) (hb:cm X.K fd ps ds) (hd:Vals dvs ds)
  (hx:eN CX X E) (I:Inv X pins σ H s) (r:Vals vs us)
  (h: ∀x dx,H x=none->H dx=none->dx≠x->sp (.ref x::(vs++dvs)) (upd (upd H dx (.own x)) x (.ins C dx [])) (fun v H2=>v= .non/\Q (.ref x) H2) E):
  wpAny (model X.prog X.w) X.A (call (.ref C) us) (EP X pins σ Q) X.xe s:=by
 have hq:=h (s.heap.objs.size+1) s.heap.objs.size (I.hok.fresh (Nat.le_succ _)) (I.hok.fresh (Nat.le_refl _)) (Nat.ne_of_lt (Nat.lt_succ_self _))
 have I2:=Inv.made (C:=C) I
 have r2:Vals (V.ref (s.heap.objs.size+1)::(vs++dvs)) (Value.ref (s.heap.objs.size+1)::(us++ds)):= .cons rfl (r.append hd)
 have hl:(Value.ref (s.heap.objs.size+1)::us++ds).length=ps.length:=by
  have e:=r2.length
  rw [F.len _ _ _ _ hq] at e
  exact e.symm
 refine wpAny_call (sk (f:=f) I.kIn M.makes M.init (beq_iff_eq.mp M.fn) (codeAny_mono (F.run _ X.stack _ _ ⟨Value.ref (s.heap.objs.size+1)::us,[]⟩ (Value.ref (s.heap.objs.size+1)::(us++ds)) _ _ E (hr.make C us [])
  (I2.env0.make C us []) (hb _ (Value.ref (s.heap.objs.size+1)::us) I2.kIn hl) r2 hq) fun r s' hq'=> ?_))
 cases r with
 |error e=>exact hx pins σ _ _ e s' I2 hq'
 |ok fl=>
  cases fl with
  |ret u=>
   obtain ⟨v,H',I3,rv,ev,q3⟩:=I2.after hq'
   subst ev
   exact ⟨rv,⟨V.ref (s.heap.objs.size+1),H',I3,rfl,q3⟩⟩
  |next=>exact False.elim hq'
  |brk=>exact False.elim hq'
  |cont=>exact False.elim hq'
theorem sL (M:Mk X.K C f) (F:FnOk X.prog X.w X.K X.mg X.base CX k f fd ps sp) (hr:Room (k+1) X.A) (hg:Gl X x) (hm:X.mg x=some (.ref C)) (hb:cm X.K fd ps ds) (hd:Vals dvs ds) (hx:eN CX X E)
  (hdb:(x==("__debug__":Str))=false:=by decide):PE X (.Call (.Name x p) [] [] pos) (sH C sp dvs E tNil):=by
 intro pins s σ H Q I h
 refine wpAny_Call_Name_kw (lK I hg hm ?_ hdb)
 exact PySem.W.callWith_K0 I.kIn M.kp (sK (us:=[]) M F hr hb hd hx I .nil h)
end
section
variable {X:Cx}{CX:CXT}{k:Nat}{f C:Addr}{fd:FuncData}{ps ks:List Str}{sp:Sp}{E:XK}{x m:Str}{p pos apos kpos:Pos}{e o:Expr}{es:List Expr}{kws:List Keyword}{te ta:TE}{t tk:TA}{nm:Option Str}
variable {g:List Value->List Value->List Value}{gV:List V->List V->List V}
end
structure aP (N P:List Str) (sc:Scope):Prop where
 kind:sc.kind= .function
 co:sc.isCoroutine=false
 gen:sc.isGenerator=false
 nd:N.Nodup
 pre:N.take P.length=P
 par: ∀x∈P,sc.names.lookup x=some .local \/sc.names.lookup x=some .cell
 nofree: ∀y∈sc.names,y.2≠ .free
theorem lZ {kindOf:Str->Option NameKind}{x:Str}: ∀{binds:List (Str×Value)}{m:Str->Option Value},(∀v,(x,v)∉binds)->bindL kindOf binds m x=m x
 |[],_,_=>rfl
 |(n,v)::r,m,h=>by
  unfold bindL
  rw [lZ fun w hw=>h w (List.mem_cons_of_mem _ hw)]
  split
  ·have:x≠n:=by rintro rfl;exact h v List.mem_cons_self
   simp [this]
  ·rfl
theorem l0 {kindOf:Str->Option NameKind}{x:Str}: ∀{binds:List (Str×Value)}{m:Str->Option Value},(∀v,(x,v)∉binds)->bindC kindOf binds m x=m x
 |[],_,_=>rfl
 |(n,v)::r,m,h=>by
  unfold bindC
  rw [l0 fun w hw=>h w (List.mem_cons_of_mem _ hw)]
  split
  ·rfl
  ·have:x≠n:=by rintro rfl;exact h v List.mem_cons_self
   simp [this]
theorem md {kindOf:Str->Option NameKind}{x:Str}{v:Value}: ∀{P:List Str}{vs:List Value}{i:Nat}{m:Str->Option Value},P.Nodup->P[i]?=some x->vs[i]?=some v->kindOf x=some .local->
  bindL kindOf (P.zip vs) m x=some v
 |[],_,_,_,_,h,_,_=>by simp at h
 |_::_,[],_,_,_,_,h,_=>by simp at h
 |p::P,w::vs,0,m,nd,h1,h2,hk=>by
  simp at h1 h2;subst h1;subst h2
  show bindL kindOf ((p,w)::P.zip vs) m p=_
  unfold bindL
  rw [lZ fun v hv=>(List.nodup_cons.mp nd).1 (List.of_mem_zip hv).1,if_pos hk]
  simp
 |p::P,w::vs,i+1,m,nd,h1,h2,hk=>by
  show bindL kindOf ((p,w)::P.zip vs) m x=_
  unfold bindL
  exact md (i:=i) (List.nodup_cons.mp nd).2 (by simpa using h1) (by simpa using h2) hk
theorem mf {kindOf:Str->Option NameKind}{x:Str}{v:Value}: ∀{P:List Str}{vs:List Value}{i:Nat}{m:Str->Option Value},P.Nodup->P[i]?=some x->vs[i]?=some v->kindOf x≠some .local->
  bindC kindOf (P.zip vs) m x=some v
 |[],_,_,_,_,h,_,_=>by simp at h
 |_::_,[],_,_,_,_,h,_=>by simp at h
 |p::P,w::vs,0,m,nd,h1,h2,hk=>by
  simp at h1 h2;subst h1;subst h2
  show bindC kindOf ((p,w)::P.zip vs) m p=_
  unfold bindC
  rw [l0 fun v hv=>(List.nodup_cons.mp nd).1 (List.of_mem_zip hv).1,if_neg hk]
  simp
 |p::P,w::vs,i+1,m,nd,h1,h2,hk=>by
  show bindC kindOf ((p,w)::P.zip vs) m x=_
  unfold bindC
  exact mf (i:=i) (List.nodup_cons.mp nd).2 (by simpa using h1) (by simpa using h2) hk
noncomputable def bp (N:List Str) (vs:List V):St:=vs.map some++List.replicate (N.length-vs.length) none
noncomputable def cxOf (CX:CXT) (P:Program) (w:World) (K:PySem.W.Frag) (mg:Str->Option Value) (base:Heap) (N:List Str) (qual:Str) (scope:Scope) (f:Addr) (cd:Value) (A:Around) (outer:List Env) (s:Shared) (H:Hp) (E:XK):Cx where
 prog:=P
 w:=w
 K:=K
 mg:=mg
 base:=base
 A:=A.deeper (envOfC qual scope s.heap.objs.size f cd)
 N:=N
 s₀:=s
 H₀:=H
 env:=envOfC qual scope s.heap.objs.size f cd
 outer:=outer
 stack:=envOfC qual scope s.heap.objs.size f cd::outer
 ex:=[]
 calm:=true
 fn:=fun _=>true
 pn:=[]
 xe:=fun e s'=>wpAny (model P w) (A.deeper (envOfC qual scope s.heap.objs.size f cd)) (leaving (envOfC qual scope s.heap.objs.size f cd) e) (fun _ s''=>CX outer H s E e s'') (fun e' s''=>CX outer H s E e' s'') s'
theorem mn {sc:Scope}{n:Nat}{x:Str} (h:sc.names.lookup x=some .cell): ∃c,(cellsFrom n sc.names []).lookup x=some c:=by
 have q:=PySem.W.cellsFrom_some sc.names n [] (.inl h)
 exact Option.isSome_iff_exists.mp q
theorem sM {CX:CXT}{P:Program}{w:World}{K:PySem.W.Frag}{mg:Str->Option Value}{base:Heap}{N ps:List Str}{qual:Str}{scope:Scope}{f:Addr}{cd:Value}{A:Around}{outer:List Env}{s s1:Shared}{H:Hp}{E:XK}{us:List Value}{vs:List V}
  (S:aP N ps scope) (hd:A.handled=none) (e0:Env0 P w K mg base A outer s H) (hl:vs.length=ps.length) (r:Vals vs us)
  (x:InCallC s s.heap.objs.size (bindL (envOfC qual scope s.heap.objs.size f cd).kindOf (ps.zip us) fun _=>none) (cellsFrom (s.heap.objs.size+1) scope.names []) (bindC (envOfC qual scope s.heap.objs.size f cd).kindOf (ps.zip us) fun _=>none) s1):
  Inv (cxOf CX P w K mg base N qual scope f cd A outer s H E) [] (bp N vs) H s1:=by
 have hpl:ps.length<=N.length:=by have:=congrArg List.length S.pre;rw [List.length_take] at this;lia
 obtain ⟨h1,tk,rfl,hk⟩:=x.done
 have noA: ∀b:Addr,b∉(cxOf CX P w K mg base N qual scope f cd A outer s H E).ex:=fun b z=>absurd (show b∈([]:List Addr) from z) (by simp)
 refine ⟨⟨e0.mod,S.kind,rfl,rfl,Nat.le_refl _,fun y z c h1 h2=> ?_,fun y hy=> ?_,fun y c _ h=> ?_,fun _=>hd,Around.frames_deeper e0.frames,.inr ⟨rfl,rfl⟩,fun b z=>absurd z (noA b),e0.bs,e0.bsz,fun b _ _=>noA b,fun b z=>absurd z (noA b),e0.funs,e0.frf⟩,
  rfl,e0.bare,Un.kept hk,⟨_,x.toInCall.ns,fun i y v h1 h2 h3=> ?_⟩,fun y c h=>⟨_,x.cell y c h⟩,e0.hok.fresh (Nat.le_refl _),fun y c h=> ?_,fun p hp=>absurd (show p∈([]:List (Addr×Obj)) from hp) (by simp),e0.hok.kept hk,?_⟩
 ·exact name_of_addr x.apart (PySem.mem_of_lookup h1) (PySem.mem_of_lookup h2)
 ·have hy:scope.names.lookup y=some .cell \/scope.names.lookup y=some .free:=hy
  rcases hy with hy|hy
  ·exact mn hy
  ·exact absurd rfl (S.nofree _ (PySem.mem_of_lookup hy))
 ·exact Nat.le_of_lt (x.above y c (PySem.mem_of_lookup h))
 ·have hi:i<vs.length:=by
   unfold bp at h2
   by_cases hi:i<vs.length
   ·exact hi
   ·rw [List.getElem?_append_right (by simpa using hi)] at h2
    rw [List.getElem?_replicate] at h2
    split at h2<;>cases h2
  have ha:vs[i]?=some v:=by
   unfold bp at h2
   rw [List.getElem?_append_left (by simpa using hi),List.getElem?_map] at h2
   cases e:vs[i]? with
   |none=>rw [e] at h2;cases h2
   |some a=>rw [e] at h2;cases h2;rfl
  obtain ⟨u,hu,rv⟩:=r.get ha
  have hp:ps[i]?=some y:=by
   rw [<-S.pre,List.getElem?_take_of_lt (by lia)];exact h1
  have ndP:ps.Nodup:=by rw [<-S.pre];exact S.nd.sublist (List.take_sublist _ _)
  refine ⟨u,rv,?_⟩
  rcases S.par y (List.mem_of_getElem? hp) with k|k
  ·exact .inl ⟨k,md ndP hp hu k⟩
  ·obtain ⟨c,e⟩:=mn (n:=s.heap.objs.size+1) k
   refine .inr ⟨.inl k,c,e,?_⟩
   have q:=x.cell y c e
   rw [mf ndP hp hu (by show scope.names.lookup y≠_;rw [k];decide)] at q
   exact q
 ·exact e0.hok.fresh (Nat.le_of_lt (x.above y c (PySem.mem_of_lookup h)))
 ·unfold bp
  show _=N.length
  rw [List.length_append,List.length_map,List.length_replicate]
  lia
theorem sN {CX:CXT}{P:Program}{w:World}{K:PySem.W.Frag}{mg:Str->Option Value}{base:Heap}{k:Nat}{f:Addr}{name qual:Str}{params:Arguments}{body:List Stmt}{scope:Scope}{dV kV doc pm cdv ct oc:Value}{an od:Option Addr}
  {osl:Array (Option Value)}{N ps:List Str}{sp:Sp} (lk:K.lookup f=some ⟨oc,od,.func (PySem.W.fnOf name qual params body scope dV kV doc pm an cdv ct),osl⟩) (hcd:PySem.W.codeIn K cdv qual=true) (S:aP N ps scope)
  (len: ∀vs H Q E,sp vs H Q E->vs.length=ps.length)
  (hbody: ∀(A:Around) (outer:List Env) (s:Shared) (H:Hp) (vs:List V) (Q:VK) (E:XK),Room k (A.deeper (envOfC qual scope s.heap.objs.size f cdv))->sp vs H Q E->
   ∃t,PSs (cxOf CX P w K mg base N qual scope f cdv A outer s H E) body t/\t {nx:=fun _ H'=>Q .non H',rt:=Q} (bp N vs) H):
  FnOk P w K mg base CX (k+1) f (PySem.W.fnOf name qual params body scope dV kV doc pm an cdv ct) ps sp:=by
 refine ⟨len,fun A outer s H args us vs Q E hr e0 hb r hsp=> ?_⟩
 have hl:=len _ _ _ _ hsp
 have KX:K.In s.heap:=e0.mod.kin.keeps fun b o e=>(e0.bs b o e).1
 have lim:s.heap.NoLimit:=e0.mod.nolimit.keeps fun b o e=>(e0.bs b o e).1
 have hkind: ∀y∈ps.zip us,scope.names.lookup y.1=some .local \/(scope.names.lookup y.1=some .cell/\((cellsFrom (s.heap.objs.size+1) scope.names []).lookup y.1).isSome=true):=fun ⟨n,v⟩ hy=>by
  rcases S.par n (List.of_mem_zip hy).1 with q|q
  ·exact .inl q
  ·exact .inr ⟨q,PySem.W.cellsFrom_some _ _ _ (.inl q)⟩
 refine codeAny_call_function hr.depth (KX _ _ lk) rfl S.co S.gen rfl (PySem.W.codeRec_of KX hcd) (hb _ _ _ _ ?_)
 refine wpAny_newFunctionEnv_cells S.kind hkind fun env he s1 x=> ?_
 subst he
 refine ⟨lim.keeps x.toInCall.keep,codeAny_func ?_⟩
 obtain ⟨t,ht,hq⟩:=hbody A outer s H vs Q E (hr.deeper _) hsp
 have I:Inv (cxOf CX P w K mg base N qual scope f cdv A outer s H E) [] (bp N vs) H s1:=sM S hr.hd e0 hl r x
 refine wpAny_mono (ht [] s1 (bp N vs) H _ I hq) (fun fl s' hs=> ?_) fun e s' hs=>hs
 have fin: ∀{σ':St}{H':Hp}{v:V}{u:Value},Inv (cxOf CX P w K mg base N qual scope f cdv A outer s H E) [] σ' H' s'->RelV v u->Q v H'->CE outer P w H s Q u s':=
  fun {σ' H' v u} J rv q=>⟨v,H',J.os,J.bare,J.base,J.hok,rv,q⟩
 cases fl with
 |ret u=>
  obtain ⟨v,σ',H',J,rv,q⟩:=hs
  exact fin J rv q
 |next=>
  obtain ⟨σ',H',J,q⟩:=hs
  exact fin (v:=V.non) (u:=Value.none) J rfl q
 |brk=>
  obtain ⟨_,_,_,q⟩:=hs
  exact False.elim q
 |cont=>
  obtain ⟨_,_,_,q⟩:=hs
  exact False.elim q
end L2
namespace L2
open PySem PySem.Spec PyProof.Rows
section
variable {X:Cx}{x:Str}{p pos:Pos}{e:Expr}{es:List Expr}{t:TA}{id T:String}{r:List V->Hp->VK->Prop}
noncomputable def tCB (r:List V->Hp->VK->Prop) (t:TA):TE:=fun σ H Q=>t σ H fun vs H1=>r vs H1 Q
theorem mq (hc:cj X (.builtin id) r) (hg:Gl X x) (hm:X.mg x=none) (hv:bootBuiltins x=some (.builtin id)) (ha:PA X (e::es) t) (hn:x≠"__name__":=by decide) (hdb:(x==("__debug__":Str))=false:=by decide)
  (he:starEach (e::es) X.env=(false,eval e X.env)::starEach es X.env:=by rfl) (hpl:(backTo pos (starEach es X.env)).any (·.1)=false:=by rfl):PE X (.Call (.Name x p) (e::es) [] pos) (tCB r t):=by
 intro pins s σ H Q I h
 refine wpAny_Call_Name_kw (eJ I hg hm hv ?_ hn hdb)
 exact PyProof.Rows.callWith_builtin1 (thn (ha pos pins s σ H _ I h) fun us s1 ⟨vs,H1,I1,r1,q1⟩=>hc pins s1 σ H1 vs us Q I1 r1 q1) he hpl
theorem sO (hc:cj X (.type T) r) (hg:Gl X x) (hm:X.mg x=none) (hv:bootBuiltins x=some (.type T)) (ha:PA X (e::es) t) (hn:x≠"__name__":=by decide) (hdb:(x==("__debug__":Str))=false:=by decide)
  (he:starEach (e::es) X.env=(false,eval e X.env)::starEach es X.env:=by rfl) (hpl:(backTo pos (starEach es X.env)).any (·.1)=false:=by rfl):PE X (.Call (.Name x p) (e::es) [] pos) (tCB r t):=by
 intro pins s σ H Q I h
 refine wpAny_Call_Name_kw (eJ I hg hm hv ?_ hn hdb)
 exact PyProof.Rows.callWith_type1 (thn (ha pos pins s σ H _ I h) fun us s1 ⟨vs,H1,I1,r1,q1⟩=>hc pins s1 σ H1 vs us Q I1 r1 q1) he hpl
end
end L2
namespace HT
open PySem PyProof.Rows
noncomputable def aD:List Int->List Int->Bool
 |[],[]=>false
 |[],_::_=>true
 |_::_,[]=>false
 |x::xs,y::ys=>if x=y then aD xs ys else decide (x<y)
theorem dZ (x y:Int) (xs ys:List Int):aD (x::xs) (y::ys)=if x=y then aD xs ys else decide (x<y):=rfl
theorem sP (y:Int) (ys:List Int):aD [] (y::ys)=true:=rfl
theorem sQ (x:Int) (xs:List Int):aD (x::xs) []=false:=rfl
section
open PySem.SeqAt
open PySem.AutoSeq1 (wpAny_loadPart')
open PySem.MeetsSeq PySem.MeetsSeq2 PySem.MeetsSeq3
end
section
variable {prog:Program}{w:World}{A:Around}{E:Value->Shared->Prop}{s:Shared}
noncomputable def sIx (n d:Nat):Option Int->Nat
 |none=>d
 |some v=>if v<0 then (v+(n:Int)).toNat else min v.toNat n
theorem sR (n d:Nat):sIx n d none=d:=rfl
theorem sS (n d k:Nat):sIx n d (some (k:Int))=min k n:=by
 show (if (k:Int)<0 then ((k:Int)+(n:Int)).toNat else min (k:Int).toNat n)=min k n
 rw [if_neg (by lia),Int.toNat_natCast]
end
end HT
namespace L2
open PySem PySem.Spec PyProof.Rows
noncomputable abbrev TO:=St->Hp->(Option Int->Hp->Prop)->Prop
noncomputable def PO (X:Cx) (e:Option Expr) (t:TO):Prop:=
 ∀(pins:List (Addr×Obj)) (s:Shared) (σ:St) (H:Hp) (Q:Option Int->Hp->Prop),Inv X pins σ H s->t σ H Q->
  wpAny (model X.prog X.w) X.A (evalPart e X.env) (fun u s'=> ∃o H',Inv X pins σ H' s'/\IsPart u o/\Q o H') X.xe s
noncomputable def sT:TO:=fun _ H Q=>Q none H
noncomputable def sU (t:TE):TO:=fun σ H Q=>t σ H fun x H1=> ∃i,x= .int i/\Q (some i) H1
section
variable {X:Cx}{e:Expr}{te:TE}{lo hi:Option Expr}{tl th:TO}{pos p2:Pos}
theorem sV:PO X none sT:=by
 intro pins s σ H Q I h
 rw [evalPart_none]
 exact wpAny_pure ⟨none,H,I,.none,h⟩
theorem sW (h:PE X e te):PO X (some e) (sU te):=by
 intro pins s σ H Q I hw
 rw [evalPart_some]
 refine thn (h pins s σ H _ I hw) fun u s1 ⟨x,H1,I1,r1,q1⟩=> ?_
 obtain ⟨i,rfl,q⟩:=q1
 obtain ⟨t,rfl⟩:=r1
 exact ⟨some i,H1,I1,.int i t,q⟩
noncomputable def SlR (X:Cx) (r:V->Option Int->Option Int->Hp->VK->Prop):Prop:=
 ∀(pins:List (Addr×Obj)) (s:Shared) (σ:St) (H:Hp) (x:V) (v vl vu:Value) (lo hi:Option Int) (sl:Addr) (Q:VK),Inv X pins σ H s->RelV x v->s.heap.IsSliceOf sl vl vu .none->IsPart vl lo->IsPart vu hi->r x lo hi H Q->
  ∃T id,typeLookup (.type T) "__getitem__"=pure (some (.builtin id))/\s.TypeIs v T/\wpAny (model X.prog X.w) X.A (getItem v (.ref sl)) (EP X pins σ Q) X.xe s
noncomputable def tSl (r:V->Option Int->Option Int->Hp->VK->Prop) (te:TE) (tl th:TO):TE:=fun σ H Q=>te σ H fun x H1=>tl σ H1 fun l H2=>th σ H2 fun u H3=>r x l u H3 Q
theorem sX {r:V->Option Int->Option Int->Hp->VK->Prop} (hr:SlR X r) (he:PE X e te) (hl:PO X lo tl) (hu:PO X hi th):PE X (.Subscript e (.Slice lo hi none p2) pos) (tSl r te tl th):=by
 intro pins s σ H Q I h
 refine Subscript_ (thn (he pins s σ H _ I h) fun v s1 ⟨x,H1,I1,r1,q1⟩=> ?_)
 refine wpAny_Slice (thn (hl pins s1 σ H1 _ I1 q1) fun vl s2 ⟨l,H2,I2,pl,q2⟩=>thn (hu pins s2 σ H2 _ I2 q2) fun vu s3 ⟨u,H3,I3,pu,q3⟩=> ?_)
 rw [evalPart_none]
 refine wpAny_pure ?_
 have I4:Inv X pins σ H3 {s3 with heap:=s3.heap.push {cls:= .type "slice",data:= .fields #[vl,vu,.none]}}:=I3.kept (t':=s3.toks) fun b ob q=>Heap.get?_push_of_some _ q
 obtain ⟨T,id,hT,ht,hg⟩:=hr pins {s3 with heap:=s3.heap.push {cls:= .type "slice",data:= .fields #[vl,vu,.none]}} σ H3 x v vl vu l u s3.heap.objs.size Q I4 r1 (Heap.IsSliceOf.new ..) pl pu q3
 show wpAny (model X.prog X.w) X.A (subscriptTail e (.Slice lo hi none p2) v (.ref s3.heap.objs.size)) (EP X pins σ Q) X.xe {s3 with heap:=s3.heap.push {cls:= .type "slice",data:= .fields #[vl,vu,.none]}}
 exact tail_any (ops:=[.ref s3.heap.objs.size,v]) ht hT hg (by with_unfolding_all rfl)
noncomputable def cutV (xs:List V) (lo hi:Option Int):List V:=(xs.drop (HT.sIx xs.length 0 lo)).take (HT.sIx xs.length xs.length hi-HT.sIx xs.length 0 lo)
theorem sY (xs:List V) (lo hi:Option Int):(cutV xs lo hi).length<=xs.length:=by
 unfold cutV
 rw [List.length_take,List.length_drop]
 lia
theorem Vals.nil_iff {xs:List V}{us:List Value} (r:Vals xs us):us=[]↔xs=[]:=by
 cases r with
 |nil=>simp
 |cons _ _=>simp
end
end L2
namespace L2
open PySem PySem.Spec PyProof.Rows
noncomputable def ixN (n:Nat) (i:Int):Option Nat:=if 0<=i then (if i<n then some i.toNat else none) else if-(n:Int)<=i then some (i+n).toNat else none
noncomputable def atI {α:Type} (xs:List α) (i:Int):Option α:=(ixN xs.length i).bind fun j=>xs[j]?
theorem sZ {n:Nat}{i:Int}{j:Nat} (h:ixN n i=some j):seqIndex? i n=some j/\j<n/\ -(n:Int)<=i/\i<n:=by
 unfold ixN at h
 by_cases h0:0<=i
 ·rw [if_pos h0] at h
  by_cases h1:i<n
  ·rw [if_pos h1] at h
   have e:i.toNat=j:=Option.some.inj h
   exact ⟨by rw [seqIndex_of h0 h1,e],by lia,by lia,h1⟩
  ·rw [if_neg h1] at h;cases h
 ·rw [if_neg h0] at h
  by_cases h1: -(n:Int)<=i
  ·rw [if_pos h1] at h
   have e:(i+n).toNat=j:=Option.some.inj h
   exact ⟨by rw [seqIndex_neg (by lia) h1,e],by lia,h1,by lia⟩
  ·rw [if_neg h1] at h;cases h
theorem jI {α:Type}{xs:List α}{i:Int}{v:α} (h:atI xs i=some v): ∃j,seqIndex? i xs.length=some j/\xs[j]?=some v/\j<xs.length/\ -(xs.length:Int)<=i/\i<xs.length:=by
 unfold atI at h
 cases e:ixN xs.length i with
 |none=>rw [e] at h;cases h
 |some j=>
  rw [e] at h
  obtain ⟨h1,h2,h3,h4⟩:=sZ e
  exact ⟨j,h1,h,h2,h3,h4⟩
theorem tf {α:Type}{xs:List α}{j:Nat}{v:α} (h:xs[j]?=some v):atI xs (j:Int)=some v:=by
 have hj:j<xs.length:=(List.getElem?_eq_some_iff.mp h).1
 have e:ixN xs.length (j:Int)=some j:=by
  unfold ixN
  rw [if_pos (by lia),if_pos (by lia)];simp
 unfold atI;rw [e];exact h
noncomputable def jJ (b:Expr):Prop:= ∀o i,subscripted b false o i=operate [o,i] (getItem o i)
noncomputable def IxR (X:Cx) (r:R2):Prop:=
 ∀(value slice:Expr) (pins:List (Addr×Obj)) (s:Shared) (σ:St) (H:Hp) (x y:V) (v u:Value) (Q:VK),Inv X pins σ H s->RelV x v->RelV y u->r x y H Q->
  subscripted slice false v u=operate [v,u] (getItem v u)->wpAny (model X.prog X.w) X.A (subscriptTail value slice v u) (EP X pins σ Q) X.xe s
noncomputable def MtR (X:Cx) (id:String) (r:V->List V->Hp->VK->Prop):Prop:=
 ∀(pins:List (Addr×Obj)) (s:Shared) (σ:St) (H:Hp) (x:V) (xs:List V) (v:Value) (us:List Value) (Q:VK),Inv X pins σ H s->RelV x v->Vals xs us->r x xs H Q->
  wpAny (model X.prog X.w) X.A (call (.builtin id) (v::us)) (EP X pins σ Q) X.xe s
section
variable {X:Cx}{a b:Expr}{ta tb:TE}{pos:Pos}
theorem IxR.or {r r':R2} (h:IxR X r) (h':IxR X r'):IxR X (fun x y H Q=>r x y H Q \/r' x y H Q):=by
 intro value slice pins s σ H x y v u Q I rx ry q hs
 rcases q with q|q
 ·exact h value slice pins s σ H x y v u Q I rx ry q hs
 ·exact h' value slice pins s σ H x y v u Q I rx ry q hs
theorem mt {r:R2} (hr:IxR X r) (ha:PE X a ta) (hb:PE X b tb) (hs:jJ b):PE X (.Subscript a b pos) (tOp r ta tb):=by
 intro pins s σ H Q I h
 exact Subscript_ (binT ha hb I h fun v u s2 x y H2 I2 rx ry q=>hr a b pins s2 σ H2 x y v u Q I2 rx ry q (hs _ _))
noncomputable def rIxL (K:PySem.W.Frag):R2:=fun x y H Q=> ∃p xs i v,x= .ref p/\y= .int i/\SqL K H p xs/\atI xs i=some v/\Q v H
noncomputable def rIxT (K:PySem.W.Frag):R2:=fun x y H Q=> ∃p xs i v,x= .ref p/\y= .int i/\SqT K H p xs/\atI xs i=some v/\Q v H
noncomputable def rIxS:R2:=fun x y H Q=> ∃z i c,x= .str z/\y= .int i/\z.length<=sizeLine/\atI z.cps.toList i=some c/\Q (.str ⟨#[c]⟩) H
theorem ti:IxR X (rIxL X.K):=by
 intro value slice pins s σ H x y v u Q I rx ry h hs
 obtain ⟨p,xs,i,z,rfl,rfl,hq,he,q⟩:=h
 cases rx
 obtain ⟨t,rfl⟩:=ry
 obtain ⟨its,r,pl,hz⟩:=I.list hq
 obtain ⟨j,h1,h2,h3,h4,h5⟩:=jI he
 obtain ⟨w,ew,rw'⟩:=r.get h2
 have hl:=r.length
 have hn:=io
 have fin:EP X pins σ Q w s:=⟨z,H,I,rw',q⟩
 by_cases h0:0<=i
 ·have hj:i.toNat=j:=by
   rw [seqIndex_of h0 h5] at h1
   exact Option.some.inj h1
  exact item_listR pl.isList h0 (by lia) (by rw [hj];simpa using ew) fin hs
 ·have hj:(i+(its.toArray.size:Int)).toNat=j:=by
   rw [seqIndex_neg (by lia) h4] at h1
   rw [List.size_toArray,<-hl]
   exact Option.some.inj h1
  exact subscriptTail_builtinR (x:=w) pl.isList.typeIs slot_list_getitem.lookup
   (wpAny_getItem_list_neg (Q:=fun r s'=>r=w/\EP X pins σ Q r s') pl.isList (by lia) (by rw [List.size_toArray]<;>lia) (by lia) (by rw [hj];simpa using ew) ⟨rfl,fin⟩) hs
theorem tm:IxR X (rIxT X.K):=by
 intro value slice pins s σ H x y v u Q I rx ry h hs
 obtain ⟨p,xs,i,z,rfl,rfl,hq,he,q⟩:=h
 cases rx
 obtain ⟨t,rfl⟩:=ry
 obtain ⟨its,r,pl,hz⟩:=I.tuple hq
 obtain ⟨j,h1,h2,h3,h4,h5⟩:=jI he
 obtain ⟨w,ew,rw'⟩:=r.get h2
 have hl:=r.length
 have hn:=io
 have fin:EP X pins σ Q w s:=⟨z,H,I,rw',q⟩
 exact subscriptTail_builtinR (x:=w) pl.typeIs slot_tuple_getitem.lookup
  (getItem_tuple (j:=j) (Q:=fun r s'=>r=w/\EP X pins σ Q r s') pl (by lia) (by lia) (by rw [List.size_toArray,<-hl];exact h1) (by simpa using ew) ⟨rfl,fin⟩) hs
theorem tp:IxR X rIxS:=by
 intro value slice pins s σ H x y v u Q I rx ry h hs
 obtain ⟨z,i,c,rfl,rfl,hz,he,q⟩:=h
 obtain ⟨t,rfl⟩:=rx
 obtain ⟨t',rfl⟩:=ry
 obtain ⟨j,h1,h2,h3,h4,h5⟩:=jI he
 have hl:z.cps.toList.length=z.length:=by simp [Str.length]
 rw [hl] at h1 h4 h5
 have hn:=io
 exact tail_any (typeIs_str s z t) slot_str_getitem.lookup (getItem_str (c:=c) (by
  have e1:decide (i< -(2^63:Int))=false:=decide_eq_false (by lia)
  have e2:decide (i>=2^63)=false:=decide_eq_false (by lia)
  rw [e1,e2,Bool.or_false]) (by rw [h1];simpa using h2) ⟨.str ⟨#[c]⟩,H,I.tok _,⟨_,rfl⟩,q⟩) hs
noncomputable def rIx (K:PySem.W.Frag):R2:=fun x y H Q=>rIxL K x y H Q \/rIxT K x y H Q \/rIxS x y H Q
theorem mw:IxR X (rIx X.K):=ti.or (tm.or tp)
theorem tq (lo hi:Option Int) (n:Nat):(sliceBounds lo hi none n).1=((HT.sIx n 0 lo:Nat):Int)/\(sliceBounds lo hi none n).2.1=((HT.sIx n n hi:Nat):Int)/\(sliceBounds lo hi none n).2.2=1:=by
 refine ⟨?_,?_,rfl⟩
 ·cases lo with
  |none=>simp [sliceBounds,HT.sIx]
  |some i=>
   simp only [sliceBounds,HT.sIx,Option.getD_none,show (1:Int)>0 by decide,if_true]
   by_cases h:i<0
   ·simp only [h,if_true]<;>lia
   ·simp only [h,if_false]<;>lia
 ·cases hi with
  |none=>simp [sliceBounds,HT.sIx]
  |some i=>
   simp only [sliceBounds,HT.sIx,Option.getD_none,show (1:Int)>0 by decide,if_true]
   by_cases h:i<0
   ·simp only [h,if_true]<;>lia
   ·simp only [h,if_false]<;>lia
theorem tu (its:List Value) (lo hi:Option Int):slicePick its.toArray lo hi none=((its.drop (HT.sIx its.length 0 lo)).take (HT.sIx its.length its.length hi-HT.sIx its.length 0 lo)).toArray:=by
 obtain ⟨h1,h2,h3⟩:=tq lo hi its.toArray.size
 unfold slicePick
 rw [h1,h2,h3]
 simp only [sliceRange_one,pick_run,List.size_toArray]<;>rfl
noncomputable def rSlL (K:PySem.W.Frag):V->Option Int->Option Int->Hp->VK->Prop:=fun x lo hi H Q=> ∃a xs,x= .ref a/\SqL K H a xs/\ ∀p,H p=none->Q (.ref p) (upd H p (.lst (cutV xs lo hi)))
theorem tw:SlR X (rSlL X.K):=by
 intro pins s σ H x v vl vu lo hi sl Q I rx hs pl pu h
 obtain ⟨a,xs,rfl,hx,q⟩:=h
 cases rx
 obtain ⟨its,r,ht,hz⟩:=I.list hx
 have hlen:=r.length
 refine ⟨"list",_,slot_list_getitem.lookup,ht.isList.typeIs,?_⟩
 refine wpAny_getItem_list_slice ht.isList hs pl pu .none (by simp) ?_ (by rw [List.size_toArray]<;>lia)
 rw [tu,<-hlen]
 refine ⟨.ref s.heap.objs.size,_,I.laid (t':=s.toks) (o:= .lst (cutV xs lo hi)) (fun b ob q=>Heap.get?_push_of_some _ q) (Nat.le_refl _) ?_,rfl,q _ (I.hok.fresh (Nat.le_refl _))⟩
 exact ⟨Nat.le_trans (sY xs lo hi) hz,_,0,(r.drop (HT.sIx xs.length 0 lo)).take (HT.sIx xs.length xs.length hi-HT.sIx xs.length 0 lo),Heap.get?_push_size _ rfl⟩
theorem cZ:cj X (.builtin "len") (fun xs H Q=> ∃p ys,xs=[.ref p]/\(SqL X.K H p ys \/SqT X.K H p ys)/\Q (.int ys.length) H):=by
 intro pins s σ H xs us Q I r h
 obtain ⟨p,ys,rfl,hq,q⟩:=h
 obtain ⟨u,rfl,rx⟩:=eM r
 cases rx
 have hn:=io
 rcases hq with hq|hq
 ·obtain ⟨its,r',pl,hz⟩:=I.list hq
  have hlen:=r'.length
  exact Calls.call_len_list pl.isList (by simp only [List.size_toArray]<;>lia) ⟨.int ys.length,H,I.tok _,⟨s.toks+1,by rw [List.size_toArray,hlen]⟩,q⟩
 ·obtain ⟨its,r',pl,hz⟩:=I.tuple hq
  have hlen:=r'.length
  exact len_tuple pl (by simp only [List.size_toArray]<;>lia) ⟨.int ys.length,H,I.tok _,⟨s.toks+1,by rw [List.size_toArray,hlen]⟩,q⟩
theorem jK:cj X (.type "list") (fun xs H Q=> ∃p ys,xs=[.ref p]/\(SqL X.K H p ys \/SqT X.K H p ys)/\ ∀l,H l=none->Q (.ref l) (upd H l (.lst ys))):=by
 intro pins s σ H xs us Q I r h
 obtain ⟨p,ys,rfl,hq,q⟩:=h
 obtain ⟨u,rfl,rx⟩:=eM r
 cases rx
 have fin: ∀(its:List Value),Vals ys its->ys.length<=sizeLine-> ∀(h':Heap) (c':Nat),(∀b o',s.heap.get? b=some o'->h'.get? b=some o')->
   h'.get? s.heap.objs.size=some {cls:= .type "list",dict:=none,data:= .seq its.toArray c',slots:= #[]}->EP X pins σ Q (.ref s.heap.objs.size) {s with heap:=h'}:=fun its r' hz h' c' kp e=>
  ⟨.ref s.heap.objs.size,_,I.laid (t':=s.toks) kp (Nat.le_refl _) (show az X.prog X.w _ h' _ (.lst ys) from ⟨hz,its,c',r',e⟩),rfl,q _ (I.hok.fresh (Nat.le_refl _))⟩
 rcases hq with hq|hq
 ·obtain ⟨its,r',pl,hz⟩:=I.list hq
  have hlen:=r'.length
  obtain ⟨o,ho,hc,n,hd⟩:=pl.isList
  exact call_list_seq p (.inl rfl) ho hc hd (fun h' c' kp e=>fin its r' hz h' c' kp e) (by simp only [List.size_toArray]<;>lia)
 ·obtain ⟨its,r',pl,hz⟩:=I.tuple hq
  have hlen:=r'.length
  obtain ⟨o,ho,hc,n,hd⟩:=pl
  exact call_list_seq p (.inr rfl) ho hc hd (fun h' c' kp e=>fin its r' hz h' c' kp e) (by simp only [List.size_toArray]<;>lia)
theorem jL:cj X (.type "tuple") (fun xs H Q=> ∃p ys,xs=[.ref p]/\((SqL X.K H p ys/\ ∀l,H l=none->Q (.ref l) (upd H l (.tup ys))) \/(SqT X.K H p ys/\Q (.ref p) H))):=by
 intro pins s σ H xs us Q I r h
 obtain ⟨p,ys,rfl,h⟩:=h
 obtain ⟨u,rfl,rx⟩:=eM r
 cases rx
 rcases h with ⟨hq,q⟩|⟨hq,q⟩
 ·obtain ⟨its,r',pl,hz⟩:=I.list hq
  have hlen:=r'.length
  refine call_tuple_list pl.isList (fun h' kp=> ?_) (by simp only [List.size_toArray]<;>lia)
  have I1:Inv X pins σ H {s with heap:=h'}:=I.kept (t':=s.toks) kp
  have I2:Inv X pins σ (upd H h'.objs.size (.tup ys)) {s with heap:=h'.push {cls:= .type "tuple",data:= .seq its.toArray}}:=
   I1.laid (t':=s.toks) (fun b o e=>Heap.get?_push_of_some _ e) (Nat.le_refl _) (show az X.prog X.w _ _ _ (.tup ys) from ⟨hz,its,r',eI.new _ _⟩)
  exact ⟨.ref h'.objs.size,_,I2,rfl,q _ (I1.hok.fresh (Nat.le_refl _))⟩
 ·obtain ⟨its,r',pl,hz⟩:=I.tuple hq
  exact call_tuple_same pl ⟨.ref p,H,I,rfl,q⟩
noncomputable def tyV (K:PySem.W.Frag) (T:String) (x:V) (H:Hp):Prop:=match x with
 | .str _=>T="str"
 | .int _=>T="int"
 | .ref p=>(T="list"/\ ∃xs,SqL K H p xs) \/(T="tuple"/\ ∃o,K.lookup p=some o/\o.cls= .type "tuple"/\o.dict=none) \/
   (T="dict"/\((∃kvs,H p=some (.dK kvs)) \/ ∃kvs,H p=some (.dT kvs))) \/(T="set"/\ ∃S n,H p=some (.set S n))
 |_=>False
theorem mz {pins:List (Addr×Obj)}{σ:St}{H:Hp}{s:Shared}{T:String}{x:V}{v:Value} (I:Inv X pins σ H s) (r:RelV x v) (ty:tyV X.K T x H):
  s.TypeIs v T/\ ∀a,v= .ref a-> ∃ob,s.heap.get? a=some ob/\ob.dict=none:=by
 cases x with
 |str z=>
  obtain ⟨t,rfl⟩:=r
  cases (show T="str" from ty)
  exact ⟨typeIs_str s z t,fun _ e=>nomatch e⟩
 |int i=>
  obtain ⟨t,rfl⟩:=r
  cases (show T="int" from ty)
  exact ⟨typeIs_int s i t,fun _ e=>nomatch e⟩
 |ref p=>
  cases r
  rcases ty with ⟨rfl,xs,hq⟩|⟨rfl,o,hk,hc,hd⟩|⟨rfl,hk⟩|⟨rfl,S,n,hk⟩
  ·obtain ⟨its,_,pl,_⟩:=I.list hq
   refine ⟨pl.isList.typeIs,fun a e=> ?_⟩
   cases e
   obtain ⟨o,n,e,c,hd,_⟩:=pl
   exact ⟨o,e,hd⟩
  ·refine ⟨⟨o,I.kIn p o hk,hc⟩,fun a e=> ?_⟩
   cases e
   exact ⟨o,I.kIn _ o hk,hd⟩
  ·have z: ∃o,s.heap.get? p=some o/\o.ExactDict:=by
    rcases hk with ⟨kvs,hk⟩|⟨kvs,hk⟩
    ·obtain ⟨_,_,_,_,o,_,_,e,ex,_⟩:=I.hok p _ hk
     exact ⟨o,e,ex⟩
    ·obtain ⟨_,_,_,_,o,_,_,e,ex,_⟩:=I.hok p _ hk
     exact ⟨o,e,ex⟩
   obtain ⟨o,e,ex⟩:=z
   refine ⟨⟨o,e,ex.1⟩,fun a e2=> ?_⟩
   cases e2
   exact ⟨o,e,ex.2.1⟩
  ·obtain ⟨o,_,_,_,e,ex,_⟩:=I.hok p _ hk
   refine ⟨⟨o,e,ex.1⟩,fun a e2=> ?_⟩
   cases e2
   exact ⟨o,e,ex.2.1⟩
 |_=>exact False.elim ty
noncomputable def tBM0 (K:PySem.W.Frag) (T:String) (r:V->List V->Hp->VK->Prop) (to:TE):TE:=fun σ H Q=>to σ H fun x H1=>tyV K T x H1/\r x [] H1 Q
noncomputable def tBM (K:PySem.W.Frag) (T:String) (r:V->List V->Hp->VK->Prop) (to:TE) (t:TA):TE:=fun σ H Q=>to σ H fun x H1=>tyV K T x H1/\t σ H1 fun xs H2=>r x xs H2 Q
variable {o e:Expr}{es:List Expr}{to:TE}{t:TA}{name:Str}{apos cpos:Pos}{T id:String}{r:V->List V->Hp->VK->Prop}
theorem tE (pa:PlainAttrs T) (slot:Slot T name id) (hty:typeOf (.builtin id)=pure (.type "method_descriptor")) (hm:MtR X id r) (ho:PE X o to)
  (hbase:attributeBase o name X.env (eval o X.env)=eval o X.env:=by rfl) (hline:(apos.endLine==cpos.line)=true:=by rfl):PE X (.Call (.Attribute o name apos) [] [] cpos) (tBM0 X.K T r to):=by
 intro pins s σ H Q I h
 refine wpAny_Call_method0_late hbase hline (thn (ho pins s σ H _ I h) fun v s1 ⟨x,H1,I1,r1,ty,q1⟩=> ?_)
 obtain ⟨h1,h2⟩:=mz I1 r1 ty
 exact ⟨T,id,pa,slot,hty,h1,h2,Calls.callWith_builtin rfl (PySem.evalArgs_none (hm pins s1 σ H1 x [] v [] Q I1 r1 .nil q1))⟩
theorem mB (pa:PlainAttrs T) (slot:Slot T name id) (hty:typeOf (.builtin id)=pure (.type "method_descriptor")) (hm:MtR X id r) (ho:PE X o to) (ha:PA X (e::es) t)
  (hbase:attributeBase o name X.env (eval o X.env)=eval o X.env:=by rfl)
  (hfew:((backTo cpos (starEach (e::es) X.env)).all (fun x=> !x.1)&&(backToKw cpos (keywordEach [] X.env)).all (fun x=>x.1.isSome)
   &&decide ((e::es).length+([]:List Keyword).length+(if ([]:List Keyword).isEmpty then 0 else 1)<30))=true:=by rfl)
  (hline:(apos.endLine==cpos.line)=true:=by rfl) (hs:starEach (e::es) X.env=(false,eval e X.env)::starEach es X.env:=by rfl) (hplain:(backTo cpos (starEach es X.env)).any (·.1)=false:=by rfl):
  PE X (.Call (.Attribute o name apos) (e::es) [] cpos) (tBM X.K T r to t):=by
 intro pins s σ H Q I h
 refine wpAny_Call_method_late hbase hfew hline rfl (thn (ho pins s σ H _ I h) fun v s1 ⟨x,H1,I1,r1,ty,q1⟩=> ?_)
 obtain ⟨h1,h2⟩:=mz I1 r1 ty
 refine ⟨T,id,pa,slot,hty,h1,h2,?_⟩
 have hA:=ha cpos pins s1 σ H1 _ I1 q1
 rw [hs] at hA|-
 refine Calls.callWith_builtin (by show (false||(backTo cpos (starEach es X.env)).any (·.1))=false;rw [hplain]<;>rfl) (Calls.evalArgs_plain ?_)
 exact thn hA fun us s2 ⟨vs,H2,I2,r2,q2⟩=>hm pins s2 σ H2 x vs v us Q I2 r1 r2 q2
end
end L2
namespace L2
open PySem PySem.Spec PyProof.Rows
noncomputable def MtM (X:Cx) (id:String) (r:V->List V->Hp->VK->Prop):Prop:=
 ∀(pins:List (Addr×Obj)) (s:Shared) (σ:St) (H:Hp) (x:V) (xs:List V) (v:Value) (us:List Value) (Q:VK),Inv X pins σ H s->RelV x v->Vals xs us->r x xs H Q->
  wpAny (model X.prog X.w) X.A (call (.builtin id) (v::us)) (EP X pins σ Q) X.xe s
theorem Vals.one: ∀{x:V}{us:List Value},Vals [x] us-> ∃u,us=[u]/\RelV x u
 |_,_,.cons r .nil=>⟨_,rfl,r⟩
theorem Vals.two: ∀{x y:V}{us:List Value},Vals [x,y] us-> ∃u v,us=[u,v]/\RelV x u/\RelV y v
 |_,_,_,.cons r (.cons q .nil)=>⟨_,_,rfl,r,q⟩
theorem Vals.zero: ∀{us:List Value},Vals [] us->us=[]
 |_,.nil=>rfl
theorem Vals.dropLast {xs:List V}{us:List Value} (h:Vals xs us):Vals xs.dropLast us.dropLast:=by
 induction h with
 |nil=>exact .nil
 |cons r t ih=>
  cases t with
  |nil=>exact .nil
  |cons q t'=>exact .cons r ih
theorem Vals.eraseIdx: ∀{xs:List V}{us:List Value} (i:Nat),Vals xs us->Vals (xs.eraseIdx i) (us.eraseIdx i)
 |_,_,_,.nil=> .nil
 |_,_,0,.cons _ t=>t
 |_,_,i+1,.cons r t=> .cons r (Vals.eraseIdx i t)
theorem Vals.reverse {xs:List V}{us:List Value} (h:Vals xs us):Vals xs.reverse us.reverse:=by
 induction h with
 |nil=>exact .nil
 |cons r t ih=>rw [List.reverse_cons,List.reverse_cons];exact Vals.append ih (.cons r .nil)
theorem Vals.rep {xs:List V}{us:List Value} (h:Vals xs us): ∀k:Nat,Vals (List.replicate k xs).flatten (List.replicate k us).flatten
 |0=> .nil
 |k+1=>by
  rw [List.replicate_succ,List.replicate_succ,List.flatten_cons,List.flatten_cons]
  exact Vals.append h (Vals.rep h k)
theorem tF {α:Type} (l:List α):l.eraseIdx (l.length-1)=l.dropLast:=by
 induction l with
 |nil=>rfl
 |cons a r ih=>
  cases r with
  |nil=>rfl
  |cons b r=>
   have e:(a::b::r).length-1=((b::r).length-1)+1:=by
    have h1:(a::b::r).length=r.length+2:=rfl
    have h2:(b::r).length=r.length+1:=rfl
    lia
   rw [e,List.eraseIdx_cons_succ,ih]
   all_goals rfl
theorem mC (its:List Value): ∀(k:Nat) (acc:List Value),
  List.foldl (fun x1 x2=>x1++x2) acc.toArray (List.replicate k its.toArray)=(acc++(List.replicate k its).flatten).toArray
 |0,acc=>by simp
 |k+1,acc=>by
  have e:acc.toArray++its.toArray=(acc++its).toArray:=by simp
  have e2:(acc++its)++(List.replicate k its).flatten=acc++(List.replicate (k+1) its).flatten:=by
   rw [List.replicate_succ,List.flatten_cons,List.append_assoc]
  rw [<-e2,<-mC its k (acc++its),<-e,List.replicate_succ,List.foldl_cons]
section
variable {X:Cx}{pins:List (Addr×Obj)}{σ:St}{H:Hp}{s:Shared}{l b:Addr}{xs ys zs:List V}
theorem Inv.lset {its its':List Value}{n:Nat}{f:Array Value->Array Value}{t':Nat} (I:Inv X pins σ H s) (hH:H l=some (.lst xs))
  (e:s.heap.get? l=some {cls:= .type "list",data:= .seq its.toArray n}) (hf:f its.toArray=its'.toArray) (hv:Vals ys its') (hz:ys.length<=sizeLine):
  Inv X pins σ (upd H l (.lst ys)) {s with heap:=s.heap.update l (Obj.mapSeq f),toks:=t'}:=by
 have q:=PySem.IsL.update e f
 rw [hf] at q
 refine I.write (x:=l) (e:=l) (by rw [hH];exact trivial) (.inl rfl) (fun b' u hb hu=>(Heap.get?_update_other s.heap (Obj.mapSeq f) (Ne.symm hb)).trans hu) ⟨_,q⟩ ?_
 exact ⟨hz,its',_,hv,q⟩
theorem Inv.lnew {its:List Value}{t':Nat} (I:Inv X pins σ H s) (hv:Vals ys its) (hz:ys.length<=sizeLine):
  Inv X pins σ (upd H s.heap.objs.size (.lst ys)) {s with heap:=s.heap.push {cls:= .type "list",data:= .seq its.toArray},toks:=t'}:=
 I.laid (fun _ _ q=>Heap.get?_push_of_some _ q) (Nat.le_refl _) ⟨hz,its,0,hv,Heap.get?_push_size _ rfl⟩
theorem Inv.fresh (I:Inv X pins σ H s):H s.heap.objs.size=none:=I.hok.fresh (Nat.le_refl _)
theorem Inv.lstM (I:Inv X pins σ H s) (hH:H l=some (.lst xs)):xs.length<=sizeLine/\ ∃(its:List Value) (n:Nat),Vals xs its/\xs.length=its.length/\s.heap.get? l=some {cls:= .type "list",data:= .seq its.toArray n}:=by
 obtain ⟨z,its,n,r,e⟩:=I.hok l _ hH
 exact ⟨z,its,n,r,r.length,e⟩
theorem mD {n:Nat} (h:n<=sizeLine):Builtin.List.listTooLong n=false:=by
 unfold Builtin.List.listTooLong
 exact decide_eq_false (by lia)
end
section
variable {X:Cx}
noncomputable def tG:V->List V->Hp->VK->Prop:=fun x vs H Q=> ∃l xs y,x= .ref l/\vs=[y]/\H l=some (.lst xs)/\xs.length<sizeLine/\Q .non (upd H l (.lst (xs++[y])))
theorem mE:MtM X "list.append" tG:=by
 intro pins s σ H x vs v us Q I rx rv h
 obtain ⟨l,xs,y,rfl,rfl,hH,hz,q⟩:=h
 cases rx
 obtain ⟨u,rfl,ru⟩:=rv.one
 obtain ⟨z,its,n,r,hl,e⟩:=I.lstM hH
 refine call_meets F.slot_list_append ⟨_,e,rfl⟩ F.entry_list_append (F.args_list_append_2 _ _) (PySem.list_append l its.toArray n u (by rw [List.size_toArray];lia)) ⟨e,?_⟩
 refine ⟨.non,_,I.lset (its':=its++[u]) hH e (by simp) (r.append (.cons ru .nil)) ?_,rfl,q⟩
 rw [List.length_append,List.length_singleton]
 lia
noncomputable def rPop:V->List V->Hp->VK->Prop:=fun x vs H Q=> ∃l xs y,x= .ref l/\vs=[]/\H l=some (.lst xs)/\xs[xs.length-1]?=some y/\Q y (upd H l (.lst xs.dropLast))
theorem A5:MtM X "list.pop" rPop:=by
 intro pins s σ H x vs v us Q I rx rv h
 obtain ⟨l,xs,y,rfl,rfl,hH,hy,q⟩:=h
 cases rx
 have hus:=rv.zero
 subst hus
 obtain ⟨z,its,n,r,hl,e⟩:=I.lstM hH
 obtain ⟨u,hu,ru⟩:=r.get hy
 have hy':its.toArray[its.toArray.size-1]?=some u:=by
  show its.toArray[its.length-1]?=some u
  rw [<-Array.getElem?_toList,<-hl]
  exact hu
 refine call_meets F.slot_list_pop ⟨_,e,rfl⟩ F.entry_list_pop (F.args_list_pop_1 _) (MeetsSeq.list_pop_last l its.toArray n u hy' (by rw [List.size_toArray];lia)) ⟨e,?_⟩
 refine ⟨y,_,I.lset (its':=its.dropLast) hH e ?_ r.dropLast ?_,ru,q⟩
 ·show its.toArray.eraseIdxIfInBounds (its.toArray.size-1)=its.dropLast.toArray
  rw [List.size_toArray,List.eraseIdxIfInBounds_toArray,tF]
 ·rw [List.length_dropLast]
  lia
noncomputable def tH:V->List V->Hp->VK->Prop:=fun x vs H Q=> ∃l xs,x= .ref l/\vs=[]/\H l=some (.lst xs)/\Q .non (upd H l (.lst []))
theorem tI:MtM X "list.clear" tH:=by
 intro pins s σ H x vs v us Q I rx rv h
 obtain ⟨l,xs,rfl,rfl,hH,q⟩:=h
 cases rx
 have hus:=rv.zero
 subst hus
 obtain ⟨z,its,n,r,hl,e⟩:=I.lstM hH
 refine call_meets F.slot_list_clear ⟨_,e,rfl⟩ F.entry_list_clear (F.args_list_clear_1 _) (AutoSeq1.list_clear_list_0 l its.toArray n (by rw [List.size_toArray];lia)) ⟨e,?_⟩
 exact ⟨.non,_,I.lset (its':=[]) (ys:=[]) hH e rfl .nil (Nat.zero_le _),rfl,q⟩
theorem mF {α:Type} (xs:List α) (k:Nat):(List.replicate k xs).flatten.length=k*xs.length:=by
 induction k with
 |zero=>simp
 |succ k ih=>rw [List.replicate_succ,List.flatten_cons,List.length_append,ih,Nat.succ_mul,Nat.add_comm]
end
section
variable {prog:Program}{w:World}{A:Around}{E:Value->Shared->Prop}{s:Shared}
theorem tJ {a c n:Nat} (hac:a<=c) (hc:c<=n):sliceBounds (some (a:Int)) (some (c:Int)) none n=((a:Int),(c:Int),1):=by
 simp only [sliceBounds,Option.getD_none]
 have h1: ¬((a:Int)<0):=by lia
 have h2: ¬((c:Int)<0):=by lia
 simp only [h1,h2,if_false,show (1:Int)>0 by decide,if_true]
 congr 1
 ·lia
 ·congr 1;lia
set_option maxRecDepth 100000 in
theorem A6 {l b sl:Addr}{items new:Array Value}{n n2:Nat}{vl vu:Value}{a c:Nat}{Q:Unit->Shared->Prop}
  (e:s.heap.get? l=some {cls:= .type "list",data:= .seq items n}) (e2:s.heap.get? b=some {cls:= .type "list",data:= .seq new n2}) (hne:l≠b)
  (hs:s.heap.IsSliceOf sl vl vu .none) (pl:IsPart vl (some (a:Int))) (pu:IsPart vu (some (c:Int))) (hac:a<=c) (hc:c<=items.size)
  (hsz:items.size+new.size<=sizeLine) (h:Q () {s with heap:=s.heap.update l (Obj.mapSeq fun xs=>xs.extract 0 a++new++xs.extract c xs.size)}):
  wpAny (model prog w) A (setItem (.ref l) (.ref sl) (.ref b)) Q E s:=by
 have hl:s.heap.IsList l items:=PySem.IsL.isList e
 have hb:s.heap.IsList b new:=PySem.IsL.isList e2
 obtain ⟨os,hos,hcs,hds⟩:=id hs
 have hTs:s.TypeIs (.ref sl) "slice":=⟨os,hos,hcs⟩
 have hstep: ¬((rawPart none==rawInt 0)=true):=Bool.false_ne_true
 have hsame:Builtin.List.listSameRef (.ref l) (.ref b)=false:=by
  unfold Builtin.List.listSameRef
  exact beq_eq_false_iff_ne.mpr hne
 have hmax:(max (a:Int) (c:Int)).toNat=c:=by lia
 have hz':((fun xs:Array Value=>xs.extract 0 a++new++xs.extract c xs.size) items).size<=sizeLine+1:=by
  simp only [Array.size_append,Array.size_extract]
  lia
 unfold setItem
 try with_reducible refine wpAny_holding ?_
 first|refine wpAny_bind (wpAny_pure ?_)|skip
 refine wpAny_bind (wpAny_sequenceKey hl.typeIs (by decide) ?_)
 refine wpAny_bind (wpAny_callSpecial?_slot (name:=Str.ofString "__setitem__") hl.typeIs slot_list_setitem
  (wpAny_call_entry slot_list_setitem hl.typeIs entry_list_setitem ?_ (args_list_setitem _ _ _)))
 show wpAny _ _ (Builtin.List.listSubscript? (.ref sl)>>=_) _ _ s
 refine wpAny_bind ?_
 unfold Builtin.List.listSubscript?
 refine wpAny_bind (wpAny_specialOf hTs slice_no_index ?_)
 simp only [Option.isNone_none,if_true]
 refine wpAny_pure ?_
 show wpAny _ _ (typeOf (.ref sl)>>=_) _ _ s
 refine wpAny_bind (wpAny_typeOf hTs ?_)
 first
  |rw [if_neg (by decide)]
  |refine PySem.W.KFB.if_not (by decide) ?_
 rw [listSliceParts_eq]
 refine wpAny_bind (wpAny_bind (wpAny_field hos hds (x:= .none) rfl (wpAny_bind (wpAny_listPart .none ?_))))
 rw [if_neg hstep]
 refine wpAny_bind (wpAny_field hos hds (x:=vl) rfl (wpAny_bind (wpAny_listPart pl ?_)))
 refine wpAny_bind (wpAny_field hos hds (x:=vu) rfl (wpAny_bind (wpAny_listPart pu (wpAny_pure ?_))))
 first
  |simp only [hsame,Bool.false_eq_true,if_false]
  |refine PySem.W.KFB.if_not hsame ?_
  |(dsimp only;rw [if_neg (by rw [hsame];exact Bool.false_ne_true)])
 refine wpAny_bind (m:=Builtin.List.listAllItems (.ref b) "must assign iterable to extended slice") ?_
 unfold Builtin.List.listAllItems
 refine wpAny_bind (wpAny_typeOf hb.typeIs ?_)
 first
  |refine PySem.W.KFB.if_so (by decide) ?_
  |rw [if_pos (by decide)]
  |simp only [beq_self_eq_true,Bool.true_or,if_true]
 unfold Builtin.List.listItems
 refine wpAny_bind (wpAny_seqItems e2 rfl (wpAny_pure ?_))
 refine wpAny_bind (wpAny_bind (wpAny_seqItems e rfl (wpAny_pure ?_)))
 refine wpAny_bind (wpAny_of_eq ((sliceIndices_raw (some (a:Int)) (some (c:Int)) none items.size (by simp)).trans (congrArg (pure:Int×Int×Int->Sem (Int×Int×Int)) (tJ hac hc))) ?_)
 show wpAny _ _ (if ((1:Int)==1)=true then _ else _) _ _ s
 rw [if_pos (by decide)]
 refine wpAny_bind (wpAny_rule ?_)
 first
  |simp only [mD hsz,Bool.false_eq_true,if_false]
  |refine PySem.W.KFB.if_not (mD hsz) ?_
 first|refine wpAny_bind (wpAny_pure ?_)|skip
 show wpAny _ _ (updateSeq l (fun xs=>xs.extract 0 ((a:Int)).toNat++new++xs.extract (max (a:Int) (c:Int)).toNat xs.size)>>=_) _ _ s
 rw [hmax,Int.toNat_natCast]
 refine wpAny_bind (wpAny_updateSeq (hz:=Nat.le_trans (Nat.le_add_right _ _) hsz) (_hz':=hz') e rfl ?_)
 refine wpAny_bind (wpAny_letGo ?_)
 first
  |exact wpAny_bind (wpAny_pure (wpAny_pure ⟨.none,rfl,wpAny_pure h⟩))
  |exact wpAny_pure ⟨.none,rfl,wpAny_pure h⟩
end
section
variable {X:Cx}
end
end L2
namespace L2
open PySem PySem.Spec PyProof.Rows
section
variable {κ:Type} [DecidableEq κ]
noncomputable def valV (kvs:List (κ×V)) (k:κ):Option V:=(kvs.find? fun kv=>decide (kv.1=k)).map (·.2)
noncomputable def putK (kvs:List (κ×V)) (k:κ) (v:V):List (κ×V):=
 if (kvs.any fun kv=>decide (kv.1=k))=true then kvs.map (fun kv=>if kv.1=k then (kv.1,v) else kv) else kvs++[(k,v)]
noncomputable def dG (kvs:List (κ×V)) (k:κ):List (κ×V):=kvs.filter fun kv=>decide (kv.1≠k)
theorem iq {p:κ×V}{r:List (κ×V)}{k:κ} (e:p.1=k):valV (p::r) k=some p.2:=by simp [valV,List.find?_cons,e]
theorem fY {p:κ×V}{r:List (κ×V)}{k:κ} (e: ¬p.1=k):valV (p::r) k=valV r k:=by simp [valV,List.find?_cons,e]
theorem mG (k:κ): ∀kvs:List (κ×V),(kvs.any fun kv=>decide (kv.1=k))=(valV kvs k).isSome
 |[]=>rfl
 |p::r=>by
  rw [List.any_cons]
  by_cases e:p.1=k
  ·simp only [iq e,decide_eq_true e,Bool.true_or,Option.isSome_some]
  ·rw [fY e,decide_eq_false e,Bool.false_or];exact mG k r
theorem mH (kvs:List (κ×V)) (k:κ) (v:V):(putK kvs k v).length<=kvs.length+1:=by
 unfold putK
 split
 ·rw [List.length_map];lia
 ·rw [List.length_append,List.length_cons,List.length_nil];lia
theorem RelO.isSome_eq {o:Option V}{u:Option Value} (r:RelO o u):o.isSome=u.isSome:=by
 cases o with
 |none=>cases u with
  |none=>rfl
  |some _=>exact (show False from r).elim
 |some _=>cases u with
  |none=>exact (show False from r).elim
  |some _=>rfl
theorem RelO.getD {o:Option V}{u:Option Value}{d:V}{d':Value} (r:RelO o u) (rd:RelV d d'):RelV (o.getD d) (u.getD d'):=by
 cases o with
 |none=>cases u with
  |none=>exact rd
  |some _=>exact (show False from r).elim
 |some _=>cases u with
  |none=>exact (show False from r).elim
  |some _=>exact r
theorem KV.val {kvs:List (κ×V)}{vs:List (κ×Value)} (r:KV kvs vs) (k:κ):RelO (valV kvs k) (valueAt vs k):=by
 unfold KV at r
 induction r with
 |nil=>exact True.intro
 | @cons p q ps qs h t ih=>
  obtain ⟨h1,h2⟩:=h
  by_cases e:p.1=k
  ·have e':q.1=k:=h1.symm.trans e
   have b:valueAt (q::qs) k=some q.2:=by simp [valueAt,List.find?_cons,e']
   rw [iq e,b];exact h2
  ·have e': ¬q.1=k:=fun z=>e (h1.trans z)
   have b:valueAt (q::qs) k=valueAt qs k:=by simp [valueAt,List.find?_cons,e']
   rw [fY e,b];exact ih
theorem KV.any {kvs:List (κ×V)}{vs:List (κ×Value)} (r:KV kvs vs) (k:κ):(kvs.any fun kv=>decide (kv.1=k))=vs.any fun kv=>decide (kv.1=k):=by
 unfold KV at r
 induction r with
 |nil=>rfl
 |cons h t ih=>rw [List.any_cons,List.any_cons,ih,h.1]
theorem KV.repl {kvs:List (κ×V)}{vs:List (κ×Value)} (r:KV kvs vs) (k:κ) {y:V}{u:Value} (ry:RelV y u):
  KV (kvs.map fun kv=>if kv.1=k then (kv.1,y) else kv) (vs.map fun kv=>if kv.1=k then (kv.1,u) else kv):=by
 unfold KV at r|-
 induction r with
 |nil=>exact .nil
 | @cons p q ps qs h t ih=>
  rw [List.map_cons,List.map_cons]
  refine .cons ?_ ih
  obtain ⟨h1,h2⟩:=h
  by_cases e:p.1=k
  ·rw [if_pos e,if_pos (h1.symm.trans e)];exact ⟨h1,ry⟩
  ·rw [if_neg e,if_neg (fun z=>e (h1.trans z))];exact ⟨h1,h2⟩
theorem KV.put {kvs:List (κ×V)}{vs:List (κ×Value)} (r:KV kvs vs) (k:κ) {y:V}{u:Value} (ry:RelV y u):KV (putK kvs k y) (stored vs k u):=by
 unfold putK stored
 rw [r.any k]
 by_cases e:(vs.any fun kv=>decide (kv.1=k))=true
 ·rw [if_pos e,if_pos e];exact r.repl k ry
 ·rw [if_neg e,if_neg e];exact Paired.snoc r ⟨rfl,ry⟩
theorem KV.length {kvs:List (κ×V)}{vs:List (κ×Value)} (r:KV kvs vs):kvs.length=vs.length:=Paired.length r
theorem tK (kvs:List (κ×V)) (k:κ):(dG kvs k).length<=kvs.length:=List.length_filter_le _ _
end
theorem fZ {P:Program}{w:World}{k:Key}{u:Value} (r:RelV (kV k) u):(bm P w).is k u=true:=by
 cases k with
 |inl i=>obtain ⟨t,e⟩:=(show∃t,u=Value.int i t from r);subst e;exact qR P w i t
 |inr x=>obtain ⟨t,e⟩:=(show∃t,u=Value.str x t from r);subst e;exact qS P w x t
theorem mI {P:Program}{w:World}: ∀{ks:List Key}{us:List Value},Vals (ks.map kV) us->ItemsAre (bm P w) ks us
 |[],_,r=>by rw [List.map_nil] at r;cases r;exact .nil
 |k::ks,_,r=>by
  rw [List.map_cons] at r
  cases r with
  |cons h t=>exact .cons (fZ h) (mI t)
noncomputable abbrev KT (H:Hp):List (List Key×V)->List (List Key×Addr×Value)->Prop:=Paired fun p q=>p.1=q.1/\H q.2.1=some (.tup (p.1.map kV))/\RelV p.2 q.2.2
theorem KT.val {H:Hp}{kvs:List (List Key×V)}{xs:List (List Key×Addr×Value)} (r:KT H kvs xs) (k:List Key):RelO (valV kvs k) ((atKey xs k).map (·.2)):=by
 induction r with
 |nil=>exact True.intro
 | @cons p q ps qs h t ih=>
  obtain ⟨h1,_,h2⟩:=h
  by_cases e:p.1=k
  ·have e':q.1=k:=h1.symm.trans e
   have b:atKey (q::qs) k=some q.2:=by simp [atKey,List.find?_cons,e']
   rw [iq e,b];exact h2
  ·have e': ¬q.1=k:=fun z=>e (h1.trans z)
   have b:atKey (q::qs) k=atKey qs k:=by simp [atKey,List.find?_cons,e']
   rw [fY e,b];exact ih
theorem KT.repl {H:Hp}{kvs:List (List Key×V)}{xs:List (List Key×Addr×Value)} (r:KT H kvs xs) (k:List Key) {y:V}{u:Value} (ry:RelV y u):
  KT H (kvs.map fun kv=>if kv.1=k then (kv.1,y) else kv) (xs.map (putAt k u)):=by
 induction r with
 |nil=>exact .nil
 | @cons p q ps qs h t ih=>
  rw [List.map_cons,List.map_cons]
  refine .cons ?_ ih
  obtain ⟨h1,h2,h3⟩:=h
  unfold putAt
  by_cases e:p.1=k
  ·rw [if_pos e,if_pos (h1.symm.trans e)];exact ⟨h1,h2,ry⟩
  ·rw [if_neg e,if_neg (fun z=>e (h1.trans z))];exact ⟨h1,h2,h3⟩
theorem KT.put {H:Hp}{kvs:List (List Key×V)}{xs:List (List Key×Addr×Value)} (r:KT H kvs xs) (k:List Key) {b:Addr}{y:V}{u:Value} (hb:H b=some (.tup (k.map kV))) (ry:RelV y u):
  KT H (putK kvs k y) (storedH xs k b u):=by
 have e:(kvs.any fun kv=>decide (kv.1=k))=(atKey xs k).isSome:=by
  rw [mG,(r.val k).isSome_eq,Option.isSome_map]
 unfold putK storedH
 rw [e]
 by_cases q:(atKey xs k).isSome=true
 ·rw [if_pos q,if_pos q];exact r.repl k ry
 ·rw [if_neg q,if_neg q];exact Paired.snoc r ⟨rfl,hb,ry⟩
theorem KT.keeps {H H':Hp}{kvs:List (List Key×V)}{xs:List (List Key×Addr×Value)} (r:KT H kvs xs) (ht: ∀b ys,H b=some (.tup ys)->H' b=some (.tup ys)):KT H' kvs xs:=
 Paired.mapP r fun _ _ z=>⟨z.1,ht _ _ z.2.1,z.2.2⟩
section
variable {P:Program}{w:World}{H:Hp}{h:Heap}{a:Addr}
theorem jM {u:HO} (ok:HOk P w H h) (e:Rd H a u):az P w H h a u:=e.ok ok
theorem eO {kvs:List (Key×V)} (ok:HOk P w H h) (e:Rd H a (.dK kvs)):kvs.length<=sizeLine/\(a==sysModules)=false/\ ∃vs,KV kvs vs/\h.DictOf (bm P w) a vs:=
 show az P w H h a (.dK kvs) from jM ok e
theorem tL {kvs:List (Key×V)} (ok:HOk P w H h) (e:H a=some (.dK kvs)):kvs.length<=sizeLine/\(a==sysModules)=false/\ ∃vs,KV kvs vs/\h.DictOf (bm P w) a vs:=eO ok (.inl e)
theorem eP {ks:List Key} (ok:HOk P w H h) (e:H a=some (.tup (ks.map kV))):(tupleKind (bm P w)).is h ks a:=by
 obtain ⟨_,its,r,o,h1,h2,⟨n,h3⟩,_⟩:=(show az P w H h a (.tup (ks.map kV)) from ok a _ e)
 exact ⟨o,its.toArray,n,h1,h2,h3,by simpa using mI r⟩
theorem eQ {kvs:List (List Key×V)} (ok:HOk P w H h) (e:Rd H a (.dT kvs)):kvs.length<=sizeLine/\(a==sysModules)=false/\
  ∃xs,KT H kvs xs/\h.DictOfH (tupleKind (bm P w)) a xs:=by
 obtain ⟨z,y,xs,r,o,es,ep,h1,h2,h3,h4,h5⟩:=(show az P w H h a (.dT kvs) from jM ok e)
 refine ⟨z,y,xs,r,o,es,ep,h1,h2,h3,h4,fun x hx=> ?_,h5⟩
 have all: ∀{l:List (List Key×V)}{m:List (List Key×Addr×Value)},KT H l m-> ∀x∈m,(tupleKind (bm P w)).is h x.1 x.2.1:=by
  intro l m q
  induction q with
  |nil=>intro x hx;exact nomatch hx
  | @cons p q ps qs hq t ih=>
   intro x hx
   rcases List.mem_cons.mp hx with e|hx
   ·subst e
    exact eP ok (by rw [<-hq.1];exact hq.2.1)
   ·exact ih x hx
 exact all r x hx
theorem mJ {kvs:List (List Key×V)} (ok:HOk P w H h) (e:H a=some (.dT kvs)):kvs.length<=sizeLine/\(a==sysModules)=false/\
  ∃xs,KT H kvs xs/\h.DictOfH (tupleKind (bm P w)) a xs:=eQ ok (.inl e)
end
noncomputable def DGet (H:Hp) (a:Addr) (y:V) (r:Option V):Prop:=
 (∃kvs k,Rd H a (.dK kvs)/\y=kV k/\r=valV kvs k) \/ ∃kvs k b,Rd H a (.dT kvs)/\y= .ref b/\H b=some (.tup (k.map kV))/\r=valV kvs k
noncomputable def DPut (H:Hp) (a:Addr) (y v:V) (H':Hp):Prop:=
 (∃kvs k,H a=some (.dK kvs)/\y=kV k/\kvs.length<sizeLine/\H'=upd H a (.dK (putK kvs k v))) \/
 ∃kvs k b,H a=some (.dT kvs)/\y= .ref b/\H b=some (.tup (k.map kV))/\kvs.length<sizeLine/\H'=upd H a (.dT (putK kvs k v))
theorem DPut.t {H:Hp}{a b:Addr}{kvs:List (List Key×V)}{k:List Key}{v:V} (e:H a=some (.dT kvs)) (eb:H b=some (.tup (k.map kV))) (hl:kvs.length<sizeLine):
  DPut H a (.ref b) v (upd H a (.dT (putK kvs k v))):= .inr ⟨kvs,k,b,e,rfl,eb,hl,rfl⟩
section
variable {X:Cx}{pins:List (Addr×Obj)}{σ:St}{H:Hp}{s:Shared}{a:Addr}{y v:V}{u r:Value}{o:Option V}{A:Around}{E:Value->Shared->Prop}
theorem Inv.big (I:Inv X pins σ H s):sysModules<s.heap.objs.size:=by
 have h:mainGlobals<s.heap.objs.size:=(I.mod.glob.keeps I.bk).lt
 exact Nat.lt_trans (by decide) h
theorem tN {Q:Value->Shared->Prop} (hu:A.units+1<cLine) (I:Inv X pins σ H s) (g:DGet H a y (some v)) (ry:RelV y u) (h: ∀w' s',Inv X pins σ H s'->RelV v w'->Q w' s'):
  wpAny (model X.prog X.w) A (getItem (.ref a) u) Q E s:=by
 rcases g with ⟨kvs,k,e,ey,l⟩|⟨kvs,k,b,e,ey,eb,l⟩
 ·subst ey
  obtain ⟨z,hd,vs,rel,dd⟩:=eO I.hok e
  obtain ⟨w',hw,rw'⟩:=RelO.some_of (v:=v) (o:=valueAt vs k) (by rw [l];exact rel.val k)
  exact wpAny_getItem_of (fZ ry) dd.mapOf hw (h w' _ (I.tok _) rw')
 ·subst ey
  cases (show u=Value.ref b from ry)
  obtain ⟨z,hd,xs,rel,dd⟩:=eQ I.hok e
  obtain ⟨w',hw,rw'⟩:=RelO.some_of (v:=v) (o:=(atKey xs k).map (·.2)) (by rw [l];exact rel.val k)
  obtain ⟨p,hp,hp2⟩:=Option.map_eq_some_iff.mp hw
  refine wpAny_getItem_heap (tupleKind_room_in1 hu) (eP I.hok eb) dd hp ?_
  rw [hp2]
  exact h w' _ (I.tok _) rw'
theorem d_in {Q:Value->Shared->Prop} (hu:A.units+1<cLine) (I:Inv X pins σ H s) (g:DGet H a y o) (ry:RelV y u) (h: ∀s',Inv X pins σ H s'->Q (.bool o.isSome) s'):
  wpAny (model X.prog X.w) A (compareOp .In u (.ref a)) Q E s:=by
 rcases g with ⟨kvs,k,e,ey,l⟩|⟨kvs,k,b,e,ey,eb,l⟩
 ·subst ey
  obtain ⟨z,hd,vs,rel,dd⟩:=eO I.hok e
  refine wpAny_in_of (fZ ry) hd dd.mapOf ?_
  rw [<-(rel.val k).isSome_eq,<-l]
  exact h _ (I.tok _)
 ·subst ey
  cases (show u=Value.ref b from ry)
  obtain ⟨z,hd,xs,rel,dd⟩:=eQ I.hok e
  refine wpAny_in_heap (tupleKind_room_in1 hu) (eP I.hok eb) hd dd ?_
  have q:=(rel.val k).isSome_eq
  rw [Option.isSome_map] at q
  rw [<-q,<-l]
  exact h _ (I.tok _)
theorem jN {h':Heap}{t':Nat}{ob:HO} (I:Inv X pins σ H s) (mu:Mut (H a)) (hs:Heap.SameBut a s.heap h') (he: ∃q,h'.get? a=some q) (new:az X.prog X.w (upd H a ob) h' a ob):
  Inv X pins σ (upd H a ob) {s with heap:=h',toks:=t'}:=
 I.write (x:=a) (e:=a) mu (.inl rfl) (fun b q hb z=>(hs.2 b hb).trans z) he new
theorem tO {P:Program}{w:World}{H':Hp}{h':Heap}{kvs:List (Key×V)}{vs:List (Key×Value)} (z:kvs.length<=sizeLine) (hd:(a==sysModules)=false) (rel:KV kvs vs) (dd:h'.DictOf (bm P w) a vs):
  az P w H' h' a (.dK kvs):=⟨z,hd,vs,rel,dd⟩
theorem tP {H':Hp}{Q:Unit->Shared->Prop} (hu:A.units+1<cLine) (I:Inv X pins σ H s) (g:DPut H a y v H') (ry:RelV y u) (rv:RelV v r) (h: ∀s',Inv X pins σ H' s'->Q () s'):
  wpAny (model X.prog X.w) A (setItem (.ref a) u r) Q E s:=by
 rcases g with ⟨kvs,k,e,ey,l,eH⟩|⟨kvs,k,b,e,ey,eb,l,eH⟩
 ·subst ey eH
  obtain ⟨z,hd,vs,rel,dd⟩:=tL I.hok e
  have hz:vs.length<=sizeLine:=by rw [<-rel.length];exact z
  have hl:(putK kvs k v).length<=sizeLine:=by have:=mH kvs k v;lia
  refine wpAny_setItem_pairs (hsz:=hz) (fZ ry) dd fun h' dd' hs=>h _ ?_
  have he: ∃q,h'.get? a=some q:=let ⟨q,_,_,hq,_⟩:=dd';⟨q,hq⟩
  exact jN I (by rw [e];exact True.intro) hs he (tO hl hd (rel.put k rv) dd')
 ·subst ey eH
  cases (show u=Value.ref b from ry)
  obtain ⟨z,hd,xs,rel,dd⟩:=mJ I.hok e
  have hz:xs.length<=sizeLine:=by rw [<-Paired.length rel];exact z
  have hl:(putK kvs k v).length<=sizeLine:=by have:=mH kvs k v;lia
  refine wpAny_setItem_heap (hsz:=hz) (tupleKind_room_in1 hu) (eP I.hok eb) dd fun h' dd' hs=>h _ ?_
  obtain ⟨q,es,ep,hq,h2,h3,h4,_,h5⟩:=dd'
  refine jN I (by rw [e];exact True.intro) hs ⟨q,hq⟩ ⟨hl,hd,_,(rel.put k eb rv).keeps fun c ys ec=> ?_,q,es,ep,hq,h2,h3,h4,h5⟩
  rw [ag (lG ec e (fun z=>nomatch z))]
  exact ec
end
section
variable {X:Cx}{pins:List (Addr×Obj)}{σ:St}{H:Hp}{s:Shared}{a:Addr}{kvs:List (Key×V)}{k:Key}{u:Value}{A:Around}{E:Value->Shared->Prop}
end
noncomputable def NoSl (i:Expr):Prop:= ∀ov iv,subscripted i false ov iv=operate [ov,iv] (getItem ov iv)
theorem tQ {prog:Program}{w:World}{A:Around}{E:Value->Shared->Prop}{s:Shared}{env:Env}{value slice:Expr}{pos:Pos}{T id:String}{Q:Value->Shared->Prop}
  (hl:typeLookup (.type T) "__getitem__"=pure (some (.builtin id))) (hs:NoSl slice)
  (h:wpAny (model prog w) A (eval value env) (fun o s₁=>wpAny (model prog w) A (eval slice env) (fun i s₂=>s₂.TypeIs o T/\wpAny (model prog w) A (getItem o i) Q E s₂) E s₁) E s):
  wpAny (model prog w) A (eval (.Subscript value slice pos) env) Q E s:=by
 refine Subscript_ (wpAny_mono h (fun o s₁ h₁=>wpAny_mono h₁ (fun i s₂ h₂=> ?_) fun _ _ x=>x) fun _ _ x=>x)
 obtain ⟨hT,h₂⟩:=h₂
 unfold subscriptTail
 refine wpAny_bind ?_
 rw [getitemInPython_of_ne hT.not_modules]
 refine wpAny_bind (wpAny_specialOf hT hl ?_)
 have fin:wpAny (model prog w) A (subscripted slice false o i) (fun r s₃=>wpAny (model prog w) A (letTemporaryGo value o r>>=fun _=>pure r) Q E s₃) E s₂:=by
  rw [hs o i]
  exact wpAny_operating (wpAny_mono h₂ (fun r s₃ h₃=>wpAny_bind (wpAny_letTemporaryGo (wpAny_pure h₃))) fun _ _ x=>x)
 first
  |exact wpAny_pure (wpAny_bind fin)
  |exact wpAny_bind (wpAny_pure (wpAny_bind fin))
  |exact wpAny_bind fin
theorem tR {X:Cx}{pins:List (Addr×Obj)}{σ:St}{H:Hp}{s:Shared}{a:Addr}{y:V}{o:Option V} (I:Inv X pins σ H s) (g:DGet H a y o):s.TypeIs (.ref a) "dict":=by
 rcases g with ⟨kvs,k,e,_,_⟩|⟨kvs,k,b,e,_,_,_⟩
 ·obtain ⟨_,_,vs,_,dd⟩:=eO I.hok e
  exact dd.typeIs
 ·obtain ⟨_,_,xs,_,dd⟩:=eQ I.hok e
  exact dd.typeIs
noncomputable def tT (td ty:TE):TE:=fun σ H Q=>td σ H fun x H1=>ty σ H1 fun y H2=> ∃a v,x= .ref a/\DGet H2 a y (some v)/\Q v H2
noncomputable def tDIn (ty td:TE):TE:=fun σ H Q=>ty σ H fun y H1=>td σ H1 fun x H2=> ∃a o,x= .ref a/\DGet H2 a y o/\Q (.bl o.isSome) H2
noncomputable def tU (td ty tv:TE):TS:=fun D σ H=>tv σ H fun v H1=>td σ H1 fun x H2=>ty σ H2 fun y H3=> ∃a H4,x= .ref a/\DPut H3 a y v H4/\D.nx σ H4
section
variable {X:Cx}{o i e value:Expr}{pos pos' tpos:Pos}{td ty tv:TE}
theorem tV (hu:X.A.units+1<cLine) (ho:PE X o td) (hi:PE X i ty) (hs:NoSl i):PE X (.Subscript o i pos) (tT td ty):=by
 intro pins s σ H Q I h
 refine tQ PySem.F.slot_dict_getitem.lookup hs (thn (ho pins s σ H _ I h) fun u s1 ⟨x,H1,I1,rx,q1⟩=>thn (hi pins s1 σ H1 _ I1 q1) fun iv s2 ⟨y,H2,I2,ry,a,v,ex,g,q2⟩=> ?_)
 subst ex
 obtain rfl:u=Value.ref a:=rx
 exact ⟨tR I2 g,tN hu I2 g ry fun w' s3 I3 rw'=>⟨v,H2,I3,rw',q2⟩⟩
theorem tW (hu:X.A.units+1<cLine) (hi:PE X i ty) (ho:PE X o td):PC X .In i o (tDIn ty td):=by
 intro pins s σ H Q I h
 refine thn (hi pins s σ H _ I h) fun iv s1 ⟨y,H1,I1,ry,q1⟩=>thn (ho pins s1 σ H1 _ I1 q1) fun u s2 ⟨x,H2,I2,rx,a,ov,ex,g,q2⟩=> ?_
 subst ex
 obtain rfl:u=Value.ref a:=rx
 exact d_in hu I2 g ry fun s3 I3=>⟨.bl ov.isSome,H2,I3,rfl,q2⟩
theorem mK (hu:X.A.units+1<cLine) (ho:PE X o td) (hi:PE X i ty) (hv:PE X value tv) (hs:swapsWith value (some (.Subscript o i pos')) pos.line X.env=pure false):
  PS X (.Assign [.Subscript o i pos'] value pos) (tU td ty tv):=by
 intro pins s σ H D I h
 refine wpAny_Assign_Subscript (thn (hv pins s σ H _ I h) fun r s1 ⟨v,H1,I1,rv,q1⟩=>thn (ho pins s1 σ H1 _ I1 q1) fun u s2 ⟨x,H2,I2,rx,q2⟩=>thn (hi pins s2 σ H2 _ I2 q2) fun iv s3 ⟨y,H3,I3,ry,a,H4,ex,g,q3⟩=> ?_) hs
 subst ex
 obtain rfl:u=Value.ref a:=rx
 exact tP hu I3 g ry rv fun s4 I4=>⟨σ,H4,I4,q3⟩
end
theorem tX {P:Program}{w:World}{H:Hp} (h:Heap) (hb:sysModules<h.objs.size):az P w H (h.push {cls:= .type "dict",data:= .dict #[]}) h.objs.size (.dT []):=
 ⟨Nat.zero_le _,beq_eq_false_iff_ne.mpr (Ne.symm (Nat.ne_of_lt hb)),[],.nil,_,#[],0,Heap.get?_push_size _ rfl,⟨rfl,rfl,rfl⟩,rfl,rfl,List.nodup_nil⟩
noncomputable def tY:TE:=fun _ H Q=> ∀p,H p=none->Q (.ref p) (upd H p (.dT []))
section
variable {X:Cx}{pos:Pos}
theorem tZ:PE X (.Dict [] [] pos) tY:=fun pins s σ H Q I h=>
 wpAny_Dict_empty ⟨.ref s.heap.objs.size,_,I.laid (a:=s.heap.objs.size) (o:= .dT []) (t':=s.toks) (fun _ _ q=>Heap.get?_push_of_some _ q) (Nat.le_refl _) (tX s.heap I.big),rfl,h _ (I.hok.fresh (Nat.le_refl _))⟩
end
structure M1 (X:Cx) (o:Expr) (m:Str) (apos:Pos) (e:Expr) (cpos:Pos):Prop where
 base:attributeBase o m X.env (eval o X.env)=eval o X.env
 few:((backTo cpos (starEach [e] X.env)).all (fun x=> !x.1)&&(backToKw cpos (keywordEach [] X.env)).all (fun x=>x.1.isSome)
  &&decide (([e]:List Expr).length+([]:List Keyword).length+(if ([]:List Keyword).isEmpty then 0 else 1)<30))=true
 line:(apos.endLine==cpos.line)=true
 trees:backTo cpos (starEach [e] X.env)=[(false,eval e X.env)]
structure M2 (X:Cx) (o:Expr) (m:Str) (apos:Pos) (e f:Expr) (cpos:Pos):Prop where
 base:attributeBase o m X.env (eval o X.env)=eval o X.env
 few:((backTo cpos (starEach [e,f] X.env)).all (fun x=> !x.1)&&(backToKw cpos (keywordEach [] X.env)).all (fun x=>x.1.isSome)
  &&decide (([e,f]:List Expr).length+([]:List Keyword).length+(if ([]:List Keyword).isEmpty then 0 else 1)<30))=true
 line:(apos.endLine==cpos.line)=true
 trees:backTo cpos (starEach [e,f] X.env)=[(false,eval e X.env),(false,eval f X.env)]
noncomputable def IsD (H:Hp) (a:Addr):Prop:=(∃kvs,Rd H a (.dK kvs)) \/ ∃kvs,Rd H a (.dT kvs)
theorem mL {X:Cx}{pins:List (Addr×Obj)}{σ:St}{H:Hp}{s:Shared}{a:Addr} (I:Inv X pins σ H s) (d:IsD H a):
  s.TypeIs (.ref a) "dict"/\(∀b,Value.ref a= .ref b-> ∃ob,s.heap.get? b=some ob/\ob.dict=none)/\(a==sysModules)=false:=by
 rcases d with ⟨kvs,e⟩|⟨kvs,e⟩
 ·obtain ⟨_,hd,vs,_,dd⟩:=eO I.hok e
  refine ⟨dd.typeIs,fun b q=> ?_,hd⟩
  cases q
  obtain ⟨ob,_,_,h1,h2,_⟩:=dd
  exact ⟨ob,h1,h2.2.1⟩
 ·obtain ⟨_,hd,xs,_,dd⟩:=eQ I.hok e
  refine ⟨dd.typeIs,fun b q=> ?_,hd⟩
  cases q
  obtain ⟨ob,_,_,h1,h2,_⟩:=dd
  exact ⟨ob,h1,h2.2.1⟩
section
variable {X:Cx}{pins:List (Addr×Obj)}{σ:St}{H:Hp}{s:Shared}{a:Addr}{y d:V}{u r:Value}{o:Option V}{A:Around}{E:Value->Shared->Prop}
theorem t4 {Q:Value->Shared->Prop} (hu:A.units+1<cLine) (I:Inv X pins σ H s) (g:DGet H a y o) (ry:RelV y u) (rd:RelV d r) (h: ∀w' s',Inv X pins σ H s'->RelV (o.getD d) w'->Q w' s'):
  wpAny (model X.prog X.w) A (call (.builtin "dict.get") [.ref a,u,r]) Q E s:=by
 rcases g with ⟨kvs,k,e,ey,l⟩|⟨kvs,k,b,e,ey,eb,l⟩
 ·subst ey
  obtain ⟨z,hd,vs,rel,dd⟩:=eO I.hok e
  refine call_meetsIn PySem.F.slot_dict_get dd.typeIs PySem.F.entry_dict_get (PySem.F.args_dict_get_3 _ _ _) (meets_dict_get_default (bm X.prog X.w) a (fZ ry) hd r) ⟨_,dd.mapOf,h _ _ (I.tok _) ?_⟩
  rw [l]
  exact (rel.val k).getD rd
 ·subst ey
  cases (show u=Value.ref b from ry)
  obtain ⟨z,hd,xs,rel,dd⟩:=eQ I.hok e
  refine call_meetsIn PySem.F.slot_dict_get dd.typeIs PySem.F.entry_dict_get (PySem.F.args_dict_get_3 _ _ _) (meetsH_dict_get_default (tupleKind (bm X.prog X.w)) a b hd r) ⟨tupleKind_room_in1 hu,k,xs,eP I.hok eb,dd,h _ _ (I.tok _) ?_⟩
  rw [l]
  exact (rel.val k).getD rd
end
noncomputable def t5 (td ty tx:TE):TE:=fun σ H Q=>td σ H fun x H1=> ∃a,x= .ref a/\IsD H1 a/\ty σ H1 fun y H2=>tx σ H2 fun z H3=> ∃o,DGet H3 a y o/\Q (o.getD z) H3
section
variable {X:Cx}{o e f:Expr}{apos cpos:Pos}{td ty tx:TE}
theorem t6 (hu:X.A.units+1<cLine) (ho:PE X o td) (he:PE X e ty) (hf:PE X f tx) (m:M2 X o "get" apos e f cpos):PE X (.Call (.Attribute o "get" apos) [e,f] [] cpos) (t5 td ty tx):=by
 intro pins s σ H Q I h
 refine wpAny_Call_method m.base m.few m.line PySem.F.plainAttrs_dict PySem.F.slot_dict_get PySem.F.type_dict_get (thn (ho pins s σ H _ I h) fun u s1 ⟨x,H1,I1,rx,a,ex,d,q1⟩=> ?_)
 subst ex
 obtain rfl:u=Value.ref a:=rx
 obtain ⟨t1,t2,_⟩:=mL I1 d
 refine ⟨t1,t2,?_⟩
 rw [m.trees]
 refine Calls.callWith_builtin rfl (Calls.evalArgs_plain (Calls.spliced_cons (thn (he pins s1 σ H1 _ I1 q1) fun iv s2 ⟨y,H2,I2,ry,q2⟩=>
  Calls.spliced_cons (thn (hf pins s2 σ H2 _ I2 q2) fun fv s3 ⟨z,H3,I3,rz,ov,g,q3⟩=>Calls.spliced_nil ?_))))
 exact t4 hu I3 g ry rz fun w' s4 I4 rw'=>⟨_,H3,I4,rw',q3⟩
end
section
variable {X:Cx}{pins:List (Addr×Obj)}{σ:St}{H:Hp}{s:Shared}{a:Addr}{kvs:List (Key×V)}{A:Around}{E:Value->Shared->Prop}
end
section
variable {X:Cx}{pins:List (Addr×Obj)}{σ:St}{H:Hp}{s:Shared}{a:Addr}{y:V}{u:Value}{A:Around}{E:Value->Shared->Prop}
end
end L2
namespace Att
open PySem PySem.W PySem.Calls PyProof.Rows
theorem t7 {P:Params}{h:Heap}: ∀(ns:List Int) (vs:List Value),WellAll P h vs (ns.map WData.int)->IntsAre vs ns:=by
 intro ns
 induction ns with
 |nil=>
  intro vs w
  rw [List.map_nil] at w
  cases w
  exact .nil
 |cons n ns ih=>
  intro vs w
  rw [List.map_cons] at w
  cases w with
  |cons a b=>
   cases a
   exact .cons _ _ (ih _ b)
theorem ua {l:OpenLaw}{n:Nat} (hn:l.most=some n) {P:Params}{h:Heap}{args:List WData}{vals:List Value}
  (hpre:l.row.toRowW.claim.pre args=true) (hwl:WellAll P h vals args):
  ∃a vs ns,vals=[Value.ref a]/\args=[WData.list (ns.map WData.int)]/\h.get? a=some {cls:= .type "list",data:= .seq vs.toArray}/\IntsAre vs ns/\ns.length<=n:=by
 have hsh:WShape.hasAll [] args [.list .int]=true:=(pre_splitW hpre).1
 have hc:l.pre.holds [] {args:=args}=true:=(pre_splitW hpre).2
 obtain ⟨d,r,rfl,h1,h2⟩:=hasAllW_cons hsh
 obtain rfl:=hasAllW_nil h2
 obtain ⟨xs,rfl,h3⟩:=hasW_list h1
 obtain ⟨ns,rfl⟩:=items_int h3
 have hlen:ns.length<=n:=by
  unfold OpenLaw.pre at hc
  have h4:(WTm.not (.lt (.lit (.int (n:Int))) (.len (.arg 0)))).holds [] {args:=[.list (ns.map .int)]}=true:=by
   have h4:=(holds_andW hc).1
   rw [hn] at h4
   exact h4
  have h5:=condW_of h4 (w_not (w_lt w_lit (w_len_list (w_arg rfl))))
  rw [List.length_map] at h5
  refine Nat.le_of_not_lt fun q=> ?_
  have q':(n:Int)<((ns.length:Nat):Int):=by lia
  first
   |(rw [decide_eq_true q'] at h5;exact absurd h5 (by decide))
   |(simp at h5;lia)
 cases hwl with
 |cons w1 w2=>
  cases w2
  cases w1 with
  |list ho hall=>exact ⟨_,_,ns,rfl,rfl,ho,t7 ns _ hall,hlen⟩
theorem ub (l:OpenLaw) (args:List WData):l.row.toRowW.claim.post args (.bool true) args=true:=
 postW_of (r:=l.row.toRowW) (X:=(true==true))
  (show WShape.has [] (.bool true) .bool=true by first|rfl|decide|simp [WShape.has,WShape.arms,WShape.armsAll])
  (show (WTm.eq .res (.lit (.bool true))).value [] {args:=args,res:=some (.bool true),after:=args}=some (.bool (true==true)) from w_eq_bool (w_res rfl) w_lit) rfl
theorem uc {l:OpenLaw}{n:Nat}{q:Program}{loose:List Str}{XP:(Str->Option Value)->Heap->Prop}{YP:World->Heap->Prop}{d:DefRec}
  (hn:l.most=some n) (hdf:d.params.defaults=[])
  (call: ∀(w:World) (s₀ s₁:Shared) (mg mb:Str->Option Value) (fa:Addr) (o:Obj) (pm cd doc:Value) (a:Addr) (vs:List Value) (ns:List Int),
   Ground q loose [] XP w s₀ mg mb s₁.heap->YP w s₁.heap->
   s₁.heap.get? fa=some o->o.data= .func (docDef d.name d.params d.body d.scope pm cd doc)->s₁.heap.CodeRec cd d.name->mg d.name=some (.ref fa)->
   s₁.heap.get? a=some {cls:= .type "list",data:= .seq vs.toArray}->IntsAre vs ns->ns.length<=n->s₁.gens= #[]->
   codeAny (model l.prog w) callerA (.call (.ref fa) ⟨[.ref a],[]⟩) (fun r s'=>r= .ok (.ret (.bool true))/\OldK s₁.heap s'.heap/\s'.os=s₁.os/\AllBare s'.gens) s₁):
  WalkO q loose XP YP l.row.toRowW d [] (fun f vs=>PySem.call f vs):=by
 intro w s₀ s₁ mg mb G Y fa o pm cd doc dV kV ho hd hcd hD hmg hg args vals as hpre hlay hrd hwl hlo
 obtain rfl:dV= .none:=Dflts.none hD hdf
 obtain rfl:kV= .none:=Dflts.noKw hD
 obtain ⟨a,vs,ns,rfl,rfl,hobj,hints,hlen⟩:=ua hn hpre hwl
 refine enter_call (codeAny_mono (call w s₀ s₁ mg mb fa o pm cd doc a vs ns G Y ho (fd_plain hd) hcd hmg hobj hints hlen hg) fun r s' hq=> ?_)
 obtain ⟨rfl,h2,h3,h4⟩:=hq
 exact ⟨.inl ⟨.bool true,.bool true,[],rfl,fun _=>rfl,.bool true,ub l _,fun _=>⟨List.Pairwise.nil,fun _ hm=>(nomatch hm)⟩⟩,h2,h3,h4⟩
section
variable {prog:Program}{w:World}{A:Around}{E:Value->Shared->Prop}{s:Shared}{K:Frag}
end
end Att
namespace L2
open PySem PySem.Spec PyProof.Rows
theorem mM: ∀{vs:List Value}{ns:List Int},IntsAre vs ns->Vals (ns.map V.int) vs
 |_,_,.nil=> .nil
 |_,_,.cons n t h=> .cons ⟨t,rfl⟩ (mM h)
noncomputable def Only (H:Hp):Prop:= ∀b,H b=none \/ ∃o xs,H b=some (.frz o (.lst xs))
theorem ud {P:Program}{w:World}{K:PySem.W.Frag}{mg mb:Str->Option Value}{CX:CXT}{k:Nat}{fa a:Addr}{fd:FuncData}{x:Str}{sp:Sp}{s₁:Shared}{vs:List Value}{ns:List Int}
  (KX:K.In s₁.heap) (hns:s₁.heap.Ns mainGlobals mg) (hb:s₁.heap.Ns builtinsNs mb) (hbb: ∀x:Str,x≠"__name__"->mb x=bootBuiltins x) (hlim:s₁.heap.NoLimit) (hg:s₁.gens= #[])
  (ha:s₁.heap.get? a=some {cls:= .type "list",data:= .seq vs.toArray}) (hi:IntsAre vs ns) (hl:ns.length<=sizeLine) (hr:Room k callerA)
  (F: ∀base:Heap,K.In base->base.Ns mainGlobals mg->FnOk P w K mg base CX k fa fd [x] sp) (hbind: ∀(s:Shared) (u:Value),BindsTo s fd ⟨[u],[]⟩ [(x,u)])
  (hsp: ∀H:Hp,Only H->SqL K H a (ns.map V.int)->sp [.ref a] H (fun v _=>v= .bl true) fun _ _ _=>False)
  (hCX: ∀H e s',CX [] H s₁ (fun _ _ _=>False) e s'->False):
  codeAny (model P w) callerA (.call (.ref fa) ⟨[.ref a],[]⟩) (fun r s'=>r= .ok (.ret (.bool true))/\OldK s₁.heap s'.heap/\s'.os=s₁.os/\AllBare s'.gens) s₁:=by
 have rv:=mM hi
 have lenV:=hi.length
 have core: ∀H:Hp,Only H->SqL K H a (ns.map V.int)->HOk P w H s₁.heap->(∀b,H b≠none->b=a)->(H a≠none->K.lookup a=none)->
   codeAny (model P w) callerA (.call (.ref fa) ⟨[.ref a],[]⟩) (fun r s'=>r= .ok (.ret (.bool true))/\OldK s₁.heap s'.heap/\s'.os=s₁.os/\AllBare s'.gens) s₁:=by
  intro H hO hS hok hA hK
  have base_of: ∀{b:Addr}{o:Obj},s₁.heap.get? b=some o->H b=none->(hidT s₁.heap H).get? b=some o:=fun e n=>qU e n
  have noA: ∀{b:Addr}{o:Obj}{es:Array DictEntry}{ep:Nat},s₁.heap.get? b=some o->o.data= .dict es ep->H b=none:=fun {b o es ep} e d=>by
   cases q:H b with
   |none=>rfl
   |some u=>
    have e':b=a:=hA b (by rw [q];simp)
    subst e'
    rw [ha] at e;cases e
    have d':Data.seq vs.toArray _=Data.dict es ep:=d
    cases d'
  have nsK: ∀{b:Addr}{m:Str->Option Value},s₁.heap.Ns b m->(hidT s₁.heap H).Ns b m:=fun {b m} ⟨o,es,ep,e,d,r⟩=>⟨o,es,ep,base_of e (noA e d),d,r⟩
  have hKb:K.In (hidT s₁.heap H):=fun b o e=>base_of (KX b o e) (by
   cases q:H b with
   |none=>rfl
   |some u=>
    have e':b=a:=hA b (by rw [q];simp)
    subst e'
    rw [hK (by rw [q];simp)] at e;cases e)
  have hM:Mod K mg (hidT s₁.heap H):=⟨hKb,nsK hns,⟨mb,nsK hb,hbb⟩,let ⟨mc,h1,h2⟩:=hlim;⟨mc,nsK h1,h2⟩⟩
  have e0:Env0 P w K mg (hidT s₁.heap H) callerA [] s₁ H:=⟨rfl,hM,fun b o e=>qV e,Nat.le_of_eq (qT _ _),trivial,fun b hb=>absurd (show b∈([]:List Addr) from hb) (by simp),hok,.of_eq hg⟩
  refine codeAny_mono ((F _ hKb (nsK hns)).run callerA [] s₁ H ⟨[.ref a],[]⟩ [.ref a] [.ref a] _ _ hr e0 (hbind s₁ (.ref a)) (.cons rfl .nil) (hsp H hO hS)) fun r s' h=> ?_
  cases r with
  |error e=>exact (hCX H e s' h).elim
  |ok fl=>
   cases fl with
   |next=>exact False.elim h
   |brk=>exact False.elim h
   |cont=>exact False.elim h
   |ret u=>
    obtain ⟨v,H',os,bare,un,hok',r',q⟩:=h
    have q':v= .bl true:=q
    subst q'
    obtain rfl:u=Value.bool true:=r'
    refine ⟨rfl,OldK.of_keep fun b o e=> ?_,os,bare⟩
    cases q:H b with
    |none=>exact un.keep b o e q (by intro z;exact absurd (show b∈([]:List Addr) from z) (by simp)) (by simp)
    |some u=>
     rcases hO b with z|⟨ob,xs,z⟩
     ·rw [q] at z;cases z
     ·have z2:=un.frzs b ob _ z
      obtain ⟨e1,_⟩:=hok b _ z
      obtain ⟨e2,_⟩:=hok' b _ z2
      rw [e] at e1;cases e1
      exact e2
 cases hk:K.lookup a with
 |some o=>
  have e:=KX a o hk
  rw [ha] at e
  cases e
  refine core (fun _=>none) (fun _=> .inl rfl) (.inr ⟨_,vs.toArray,_,hk,rfl,rfl,rfl,by rw [List.size_toArray,lenV];exact hl,by simpa using rv⟩) (fun b u z=>by have z':(none:Option HO)=some u:=z;cases z') (fun b z=>absurd rfl z) fun z=>absurd rfl z
 |none=>
  refine core (fun b=>if b=a then some (.frz {cls:= .type "list",data:= .seq vs.toArray} (.lst (ns.map V.int))) else none) (fun b=> ?_) (.inl (.inr ⟨{cls:= .type "list",data:= .seq vs.toArray},if_pos rfl⟩)) (fun b u z=> ?_) (fun b z=> ?_) fun _=>hk
  ·by_cases hb:b=a
   ·exact .inr ⟨_,_,if_pos hb⟩
   ·exact .inl (if_neg hb)
  ·by_cases hb:b=a
   ·have z':=(if_pos hb).symm.trans z
    cases z'
    subst hb
    exact ⟨ha,by rw [List.length_map];exact hl,vs,_,rv,ha⟩
   ·have z':=(if_neg hb).symm.trans z
    cases z'
  ·by_cases hb:b=a
   ·exact hb
   ·exact absurd (if_neg hb) z
end L2
namespace L2
open PySem PySem.Spec PyProof.Rows
theorem ue {l:PySem.W.OpenLaw}{n k:Nat}{q:Program}{loose:List Str}{XP:(Str->Option Value)->Heap->Prop}{YP:World->Heap->Prop}{d:DefRec}{K:Params->PySem.W.Frag}{CX:World->CXT}{sp:World->Sp}{x:Str}
  (hn:l.most=some n) (hn2:n<=sizeLine) (hdf:d.params.defaults=[]) (hr:Room k callerA)
  (hY: ∀(w:World) (h:Heap),YP w h->(K w.params).In h)
  (F: ∀(w:World) (mg:Str->Option Value) (fa:Addr) (h:Heap),(K w.params).In h->h.Ns mainGlobals mg->mg d.name=some (.ref fa)->
   ∃fd:FuncData,(∀(s:Shared) (u:Value),BindsTo s fd ⟨[u],[]⟩ [(x,u)])/\
    ∀base:Heap,(K w.params).In base->base.Ns mainGlobals mg->FnOk l.prog w (K w.params) mg base (CX w) k fa fd [x] (sp w))
  (hsp: ∀(w:World) (H:Hp) (a:Addr) (ns:List Int),ns.length<=n->Only H->SqL (K w.params) H a (ns.map V.int)->sp w [.ref a] H (fun v _=>v= .bl true) fun _ _ _=>False)
  (hCX: ∀(w:World) (H:Hp) (s:Shared) (e:Value) (s':Shared),CX w [] H s (fun _ _ _=>False) e s'->False):
  PySem.W.WalkO q loose XP YP l.row.toRowW d [] (fun f vs=>PySem.call f vs):=by
 refine Att.uc hn hdf fun w s₀ s₁ mg mb fa o pm cd doc a vs ns G Y ho hd hcd hmg hobj hints hlen hg=> ?_
 have KX:=hY w _ Y
 obtain ⟨fd,hb,hF⟩:=F w mg fa _ KX G.T.g hmg
 exact ud KX G.T.g G.T.b G.T.builtins G.T.nolimit hg hobj hints (Nat.le_trans hlen hn2) hr hF hb (fun H hO hS=>hsp w H a ns hlen hO hS) fun H e s'=>hCX w H s₁ e s'
end L2
namespace L2
open PySem PySem.Spec PyProof.Rows
noncomputable def mN (s:Stmt) (j:Nat):Stmt:=match s with
 | .ClassDef _ _ _ body _ _ _ _ _ _ _=>body.getD j (.Pass ⟨0,0,0,0⟩)
 |_=> .Pass ⟨0,0,0,0⟩
noncomputable def aT (s:Stmt):Arguments:=match s with
 | .FunctionDef _ a _ _ _ _ _ _ _ _=>a
 |_=>{posonlyargs:=[],args:=[],vararg:=none,kwonlyargs:=[],kw_defaults:=[],kwarg:=none,defaults:=[]}
noncomputable def aL (s:Stmt):List Stmt:=match s with
 | .FunctionDef _ _ b _ _ _ _ _ _ _=>b
 |_=>[]
noncomputable def ar (s:Stmt):Scope:=match s with
 | .FunctionDef _ _ _ _ _ _ sc _ _ _=>sc
 |_=>{kind:= .function,names:=[],isGenerator:=false,isCoroutine:=false}
noncomputable abbrev CX0:CXT:=fun _ _ _ _ _ _=>False
noncomputable abbrev E0:XK:=fun _ _ _=>False
theorem jO {X:Cx}:eN CX0 X E0:=fun _ _ _ _ _ _ _ h=>h.elim
structure Fun (K:PySem.W.Frag) (x qual:Str) (st:Stmt) (f:Addr) (fd:FuncData):Prop where
 ex: ∃(oc:Value) (od:Option Addr) (kV doc pm:Value) (an:Option Addr) (cdv ct:Value) (osl:Array (Option Value)),
  fd=PySem.W.fnOf x qual (aT st) (aL st) (ar st) .none kV doc pm an cdv ct/\K.lookup f=some ⟨oc,od,.func fd,osl⟩/\PySem.W.codeIn K cdv qual=true
 kp:PySem.W.keepIn K (.ref f)=true
section
variable {P:Program}{w:World}{K:PySem.W.Frag}{mg:Str->Option Value}{base:Heap}
theorem Fun.ok {x qual:Str}{st:Stmt}{f:Addr}{fd:FuncData}{N ps:List Str}{k:Nat}{sp:Sp} (F:Fun K x qual st f fd) (S:aP N ps (ar st)) (len: ∀vs H Q E,sp vs H Q E->vs.length=ps.length)
  (hbody: ∀(cdv:Value) (A:Around) (outer:List Env) (s:Shared) (H:Hp) (vs:List V) (Q:VK) (E:XK),Room k (A.deeper (envOfC qual (ar st) s.heap.objs.size f cdv))->sp vs H Q E->
   ∃t,PSs (cxOf CX0 P w K mg base N qual (ar st) f cdv A outer s H E).nox (aL st) t/\t {nx:=fun _ H'=>Q .non H',rt:=Q} (bp N vs) H):FnOk P w K mg base CX0 (k+1) f fd ps sp:=by
 obtain ⟨oc,od,kV,doc,pm,an,cdv,ct,osl,rfl,lk,hcd⟩:=F.ex
 refine sN lk hcd S len fun A outer s H vs Q E hr hsp=> ?_
 obtain ⟨t,h,q⟩:=hbody cdv A outer s H vs Q E hr hsp
 exact ⟨t,h.nox,q⟩
theorem Fun.binds {x qual:Str}{st:Stmt}{f:Addr}{fd:FuncData}{ps:List Str} (F:Fun K x qual st f fd)
  (h: ∀(kV doc pm:Value) (an:Option Addr) (cdv ct:Value) (us:List Value),us.length=ps.length->bindArgs (PySem.W.fnOf x qual (aT st) (aL st) (ar st) .none kV doc pm an cdv ct) ⟨us,[]⟩=pure (ps.zip us)):cm K fd ps []:=by
 obtain ⟨oc,od,kV,doc,pm,an,cdv,ct,osl,rfl,lk,hcd⟩:=F.ex
 exact .all (h kV doc pm an cdv ct)
theorem bq {x qual:Str}{st:Stmt}{f:Addr}{oc:Value}{od an:Option Addr}{osl:Array (Option Value)}{kV doc pm cdv ct:Value} (l:K.lookup f=some ⟨oc,od,.func (PySem.W.fnOf x qual (aT st) (aL st) (ar st) .none kV doc pm an cdv ct),osl⟩)
  (c:PySem.W.codeIn K cdv qual=true) (k:PySem.W.keepIn K (.ref f)=true):Fun K x qual st f (PySem.W.fnOf x qual (aT st) (aL st) (ar st) .none kV doc pm an cdv ct):=⟨⟨oc,od,kV,doc,pm,an,cdv,ct,osl,rfl,l,c⟩,k⟩
end
theorem aX {A:Around}{k:Nat} (hr:Room k A):A.units+1<cLine:=Nat.lt_of_le_of_lt (Nat.add_le_add_left (by decide:1<=64) _) hr.units
section
variable {X:Cx}
theorem pv (i:Nat) {x:Str}{pos:Pos} (hN:X.N[i]?=some x:=by rfl) (hv:Vis X.env.scope x:=by first|exact Or.inl rfl|exact Or.inr (Or.inl rfl)|exact Or.inr (Or.inr rfl)) (hd:(x==("__debug__":Str))=false:=by decide)
  (hcd:(x==("__classdict__":Str))=false:=by decide):PE X (.Name x pos) (tVar i):=qX hN hv hd hcd
end
noncomputable def Same (H H':Hp):Prop:= ∀b o,H b=some o->H' b=some o
theorem Same.refl (H:Hp):Same H H:=fun _ _ h=>h
theorem Same.trans {H H1 H2:Hp} (a:Same H H1) (b:Same H1 H2):Same H H2:=fun c o h=>b c o (a c o h)
theorem Same.free {H H':Hp} (e:Same H H') {l:Addr} (h:H' l=Option.none):H l=Option.none:=by
 cases q:H l with
 |none=>rfl
 |some o=>
  rw [e l o q] at h
  cases h
section
variable {κ:Type} [DecidableEq κ]
end
end L2
set_option maxHeartbeats 4000000
namespace L2
open PySem PySem.Spec PyProof.Rows
noncomputable def pull (ρ:List (Option Nat)) (σ:St):St:=ρ.map fun o=>match o with
 |none=>none
 |some j=>(σ[j]?).getD none
theorem uf {ρ:List (Option Nat)}{σ:St}{i:Nat}{v:V} (h:(pull ρ σ)[i]?=some (some v)): ∃j,ρ[i]?=some (some j)/\σ[j]?=some (some v):=by
 unfold pull at h
 rw [List.getElem?_map] at h
 cases e:ρ[i]? with
 |none=>rw [e] at h;cases h
 |some o=>
  rw [e] at h
  cases o with
  |none=>cases h
  |some j=>
   refine ⟨j,rfl,?_⟩
   have h':(σ[j]?).getD none=some v:=Option.some.inj h
   cases q:σ[j]? with
   |none=>rw [q] at h';cases h'
   |some z=>rw [q] at h';exact congrArg some h'
noncomputable def cK (scope:Scope) (env:Env):List (Str×Addr):=scope.names.foldl (fun cs x=>if x.2= .free then (x.1,(env.cells.lookup x.1).getD 0)::cs else cs) []
theorem mO {env:Env}: ∀{names:List (Str×NameKind)}{cs:List (Str×Addr)},(∀x∈names,x.2= .free-> ∃c,env.cells.lookup x.1=some c)->
  (forIn names cs fun (x:Str×NameKind) (r:List (Str×Addr))=>(match x with
   |(name,kind)=>if (kind== .free)=true then do
     let a<-cellOf env name
     pure (ForInStep.yield ((name,a)::r))
    else pure (ForInStep.yield r):Sem (ForInStep (List (Str×Addr)))))=pure (names.foldl (fun cs x=>if x.2= .free then (x.1,(env.cells.lookup x.1).getD 0)::cs else cs) cs)
 |[],cs,_=>rfl
 |(n,k)::r,cs,h=>by
  rw [List.forIn_cons,List.foldl_cons]
  have ih:=fun cs=>mO (names:=r) (cs:=cs) fun x hx=>h x (List.mem_cons_of_mem _ hx)
  by_cases hk:k= .free
  ·subst hk
   obtain ⟨c,e⟩:=h (n,.free) List.mem_cons_self rfl
   have e':env.cells.lookup n=some c:=e
   simp only [beq_self_eq_true,if_true,cellOf,e',pure_bind,Option.getD_some]
   exact ih _
  ·have hb:(k==NameKind.free)=false:=by simpa using hk
   simp only [hb,Bool.false_eq_true,if_false,hk,pure_bind]
   exact ih _
theorem ug {scope:Scope}{env:Env} (h: ∀x∈scope.names,x.2= .free-> ∃c,env.cells.lookup x.1=some c):closureFor scope env=pure (cK scope env):=by
 unfold closureFor cK
 have q:=mO (cs:=[]) h
 simp only [] at q|-
 rw [q]
 rfl
theorem jP {env:Env}: ∀{names:List (Str×NameKind)}{cs:List (Str×Addr)},(∀x∈names,x.2= .free-> ∃c,env.cells.lookup x.1=some c)->(∀p∈cs,env.cells.lookup p.1=some p.2)->
  ∀p∈names.foldl (fun cs x=>if x.2= .free then (x.1,(env.cells.lookup x.1).getD 0)::cs else cs) cs,env.cells.lookup p.1=some p.2
 |[],_,_,hc=>hc
 |(n,k)::r,cs,h,hc=>by
  rw [List.foldl_cons]
  refine jP (names:=r) (fun x hx=>h x (List.mem_cons_of_mem _ hx)) ?_
  by_cases hk:k= .free
  ·subst hk
   obtain ⟨c,e⟩:=h (n,.free) List.mem_cons_self rfl
   have e':env.cells.lookup n=some c:=e
   rw [if_pos rfl]
   intro p hp
   rcases List.mem_cons.mp hp with z|z
   ·subst z
    show env.cells.lookup n=some ((env.cells.lookup n).getD 0)
    rw [e']
    all_goals rfl
   ·exact hc p z
  ·rw [if_neg hk]
   exact hc
theorem mP {env:Env}{x:Str}: ∀{names:List (Str×NameKind)}{cs:List (Str×Addr)},((x,NameKind.free)∈names \/ ∃c,(x,c)∈cs)->
  ∃c,(x,c)∈names.foldl (fun cs x=>if x.2= .free then (x.1,(env.cells.lookup x.1).getD 0)::cs else cs) cs
 |[],cs,h=>h.elim (fun z=>nomatch z) fun z=>z
 |(n,k)::r,cs,h=>by
  rw [List.foldl_cons]
  refine mP (names:=r) ?_
  rcases h with h|⟨c,h⟩
  ·rcases List.mem_cons.mp h with z|z
   ·cases z
    rw [if_pos rfl]
    exact .inr ⟨_,List.mem_cons_self⟩
   ·exact .inl z
  ·right
   by_cases hk:k= .free
   ·rw [if_pos hk];exact ⟨c,List.mem_cons_of_mem _ h⟩
   ·rw [if_neg hk];exact ⟨c,h⟩
theorem mQ {α:Type}: ∀{l:List (Str×α)}{x:Str}{c:α},(x,c)∈l-> ∃d,l.lookup x=some d
 |[],_,_,h=>nomatch h
 |(n,a)::r,x,c,h=>by
  rw [List.lookup_cons]
  cases hx:x==n with
  |true=>exact ⟨a,rfl⟩
  |false=>
   rcases List.mem_cons.mp h with z|z
   ·injection z with z1 z2
    rw [z1] at hx
    simp at hx
   ·exact mQ z
theorem mR {scope:Scope}{env:Env}{x:Str} (h: ∀x∈scope.names,x.2= .free-> ∃c,env.cells.lookup x.1=some c) (hx:scope.names.lookup x=some .free): ∃c,(cK scope env).lookup x=some c/\env.cells.lookup x=some c:=by
 obtain ⟨c,hc⟩:=mP (env:=env) (cs:=[]) (.inl (PySem.mem_of_lookup hx))
 obtain ⟨d,hd⟩:=mQ hc
 exact ⟨d,hd,jP (cs:=[]) h (fun p hp=>absurd hp (List.not_mem_nil)) _ (PySem.mem_of_lookup hd)⟩
theorem d3 {scope:Scope}{env:Env}{x:Str}{c:Addr} (h: ∀x∈scope.names,x.2= .free-> ∃c,env.cells.lookup x.1=some c) (e:(cK scope env).lookup x=some c):env.cells.lookup x=some c:=
 jP (cs:=[]) h (fun p hp=>absurd hp (List.not_mem_nil)) _ (PySem.mem_of_lookup e)
theorem mS {f:Str×NameKind->NameKind}{x:Str}: ∀{names:List (Str×NameKind)},(names.map fun y=>(y.1,f y)).lookup x=(names.lookup x).map fun k=>f (x,k)
 |[]=>rfl
 |(n,k)::r=>by
  rw [List.map_cons,List.lookup_cons,List.lookup_cons]
  cases hx:x==n with
  |true=>
   have e:x=n:=by simpa using hx
   subst e
   rfl
  |false=>exact mS
theorem mT {env:Env}{names:List (Str×NameKind)}{x:Str}:(names.map fun (n,k)=>if (k==NameKind.free&&env.scope.kind== .function&&env.kindOf n==some .cell) then (n,NameKind.cell) else (n,k)).lookup x=
  (names.lookup x).map fun k=>if (k==NameKind.free&&env.scope.kind== .function&&env.kindOf x==some .cell) then NameKind.cell else k:=by
 have e:(fun (y:Str×NameKind)=>match y with|(n,k)=>if (k==NameKind.free&&env.scope.kind== .function&&env.kindOf n==some .cell) then (n,NameKind.cell) else (n,k))=
   fun y=>(y.1,if (y.2==NameKind.free&&env.scope.kind== .function&&env.kindOf y.1==some .cell) then NameKind.cell else y.2):=by
  funext ⟨n,k⟩
  dsimp only
  split<;>rfl
 rw [e]
 exact mS
theorem uh {env:Env}{names:List (Str×NameKind)}{x:Str} (h:names.lookup x=some .free):
  (names.map fun (n,k)=>if (k==NameKind.free&&env.scope.kind== .function&&env.kindOf n==some .cell) then (n,NameKind.cell) else (n,k)).lookup x=some .cell \/
  (names.map fun (n,k)=>if (k==NameKind.free&&env.scope.kind== .function&&env.kindOf n==some .cell) then (n,NameKind.cell) else (n,k)).lookup x=some .free:=by
 rw [mT,h,Option.map_some]
 split
 ·exact .inl rfl
 ·exact .inr rfl
theorem relabel_of {env:Env}{names:List (Str×NameKind)}{x:Str}
  (h:(names.map fun (n,k)=>if (k==NameKind.free&&env.scope.kind== .function&&env.kindOf n==some .cell) then (n,NameKind.cell) else (n,k)).lookup x=some .cell \/
  (names.map fun (n,k)=>if (k==NameKind.free&&env.scope.kind== .function&&env.kindOf n==some .cell) then (n,NameKind.cell) else (n,k)).lookup x=some .free):names.lookup x=some .cell \/names.lookup x=some .free:=by
 rw [mT] at h
 cases e:names.lookup x with
 |none=>rw [e] at h;rcases h with h|h<;>cases h
 |some k=>
  rw [e,Option.map_some] at h
  by_cases hk:k= .free
  ·rw [hk];exact .inr rfl
  ·have hb:(k==NameKind.free)=false:=by simpa using hk
   rw [hb] at h
   simp only [Bool.false_and,Bool.false_eq_true,if_false] at h
   exact h
theorem eR: ∀(names:List (Str×NameKind)) (n:Nat) (acc:List (Str×Addr)),cellsFrom n names acc=cellsFrom n names []++acc
 |[],_,_=>rfl
 |(y,k)::r,n,acc=>by
  unfold cellsFrom
  split
  ·rw [eR r (n+1) ((y,n)::acc),eR r (n+1) [(y,n)],List.append_assoc]
   rfl
  ·exact eR r n acc
theorem cf_mem {x:Str}{c:Addr}: ∀(names:List (Str×NameKind)) (n:Nat) (acc:List (Str×Addr)),(x,c)∈cellsFrom n names acc->((x,NameKind.cell)∈names/\n<=c) \/(x,c)∈acc
 |[],_,_,h=> .inr h
 |(y,k)::r,n,acc,h=>by
  unfold cellsFrom at h
  split at h
  ·next hk=>
   have ek:k= .cell:=by simpa using hk
   rcases cf_mem r (n+1) _ h with ⟨h1,h2⟩|h1
   ·exact .inl ⟨List.mem_cons_of_mem _ h1,by lia⟩
   ·rcases List.mem_cons.mp h1 with z|z
    ·cases z
     exact .inl ⟨by rw [ek];exact List.mem_cons_self,Nat.le_refl _⟩
    ·exact .inr z
  ·rcases cf_mem r n acc h with ⟨h1,h2⟩|h1
   ·exact .inl ⟨List.mem_cons_of_mem _ h1,h2⟩
   ·exact .inr h1
theorem ir {x:Str}: ∀{a b:List (Str×Addr)},(a++b).lookup x=(a.lookup x).or (b.lookup x)
 |[],_=>rfl
 |(y,c)::r,b=>by
  rw [List.cons_append,List.lookup_cons,List.lookup_cons]
  cases x==y with
  |true=>rfl
  |false=>exact ir
theorem cf_look {names:List (Str×NameKind)}{n:Nat}{acc:List (Str×Addr)}{x:Str}{c:Addr} (h:(cellsFrom n names acc).lookup x=some c):
  ((x,NameKind.cell)∈names/\n<=c/\(x,c)∈cellsFrom n names []) \/acc.lookup x=some c:=by
 rw [eR,ir] at h
 cases e:(cellsFrom n names []).lookup x with
 |some d=>
  rw [e] at h
  cases h
  have m:=PySem.mem_of_lookup e
  rcases cf_mem _ _ _ m with ⟨h1,h2⟩|z
  ·exact .inl ⟨h1,h2,m⟩
  ·exact nomatch z
 |none=>rw [e] at h;exact .inr h
theorem ui {names:List (Str×NameKind)}{n:Nat}{acc:List (Str×Addr)}{x:Str}{c:Addr} (nc:(x,NameKind.cell)∉names) (h:acc.lookup x=some c):(cellsFrom n names acc).lookup x=some c:=by
 rw [eR,ir]
 cases e:(cellsFrom n names []).lookup x with
 |some d=>
  rcases cf_mem _ _ _ (PySem.mem_of_lookup e) with ⟨h1,_⟩|z
  ·exact absurd h1 nc
  ·exact nomatch z
 |none=>exact h
theorem uj {M:Model}{A:Around}{E:Value->Shared->Prop}{s:Shared}{scope:Scope}{globals:Addr}{cl:List (Str×Addr)}{qual:Str}{env:Env}{builtins:Addr}{Q:Env->Shared->Prop}
  (hQ: ∀h',h'.Ns s.heap.objs.size (fun _=>none)->(∀b o,s.heap.get? b=some o->h'.get? b=some o)->(∀n c,(n,c)∈cellsFrom (s.heap.objs.size+1) scope.names []->h'.IsCell c none)->((cellsFrom (s.heap.objs.size+1) scope.names []).Pairwise fun x y=>x.2≠y.2)->
   Q (newEnv scope s.heap.objs.size globals (cellsFrom (s.heap.objs.size+1) scope.names cl) qual none .none (some env) builtins) {s with heap:=h'}):
  wpAny M A (newFunctionEnv scope globals cl [] qual none .none (some env) builtins) Q E s:=by
 simp only [newFunctionEnv,Option.isSome_some,if_true]
 refine wpAny_bind (wpAny_alloc ?_)
 refine wpAny_bind (wpAny_layCells _ (fun name kind cells=>by cases hkc:kind==NameKind.cell<;>simp [hkc]) _ _ _ _ ?_)
 have ok:=cellsFrom_ok scope.names (s.heap.push {cls:= .type "dict",data:= .dict #[]}) (s.heap.objs.size+1) [] ⟨fun _ _ hm=>(nomatch hm),List.Pairwise.nil⟩ (by rw [Heap.size_push];exact Nat.le_refl _)
 rw [Heap.size_push] at ok
 rw [show ({s with heap:=s.heap.push {cls:= .type "dict",data:= .dict #[]}}:Shared).heap.objs.size=s.heap.objs.size+1 from Heap.size_push ..]
 rw [List.forIn_nil]
 refine wpAny_bind (wpAny_pure (wpAny_pure ?_))
 exact hQ _ ((Heap.Ns.new s.heap (.type "dict")).keeps (pushCells_keeps _ _)) (fun b o e=>pushCells_keeps _ _ b o (Heap.get?_push_of_some _ e)) (fun n c hm=>(ok.empty n c hm).1) ok.apart
noncomputable def d4 (sc osc:Scope) (N N':List Str) (ρ:List (Option Nat)):Bool:=
 decide (sc.kind= .function)&&decide (N'.length=ρ.length)&&
 sc.names.all (fun y=>(decide (y.2≠ .cell)||decide (sc.names.lookup y.1=some .cell))&&(decide (y.2≠ .local)||decide (sc.names.lookup y.1=some .local))&&(decide (y.2≠ .free)||(decide (osc.names.lookup y.1=some .cell)||decide (osc.names.lookup y.1=some .free))))&&
 (N'.zip ρ).all (fun p=>match p.2 with
  |none=>true
  |some j=>decide (N[j]?=some p.1)&&decide (sc.names.lookup p.1=some .free))
structure iu (sc osc:Scope) (N N':List Str) (ρ:List (Option Nat)):Prop where
 kind:sc.kind= .function
 len:N'.length=ρ.length
 cell: ∀y∈sc.names,y.2= .cell->sc.names.lookup y.1=some .cell
 loc: ∀y∈sc.names,y.2= .local->sc.names.lookup y.1=some .local
 free: ∀y∈sc.names,y.2= .free->osc.names.lookup y.1=some .cell \/osc.names.lookup y.1=some .free
 from_: ∀(i j:Nat) (x:Str),N'[i]?=some x->ρ[i]?=some (some j)->N[j]?=some x/\sc.names.lookup x=some .free
theorem mU {sc osc:Scope}{N N':List Str}{ρ:List (Option Nat)} (h:d4 sc osc N N' ρ=true):iu sc osc N N' ρ:=by
 unfold d4 at h
 rw [Bool.and_eq_true,Bool.and_eq_true,Bool.and_eq_true] at h
 obtain ⟨⟨⟨h1,h2⟩,h3⟩,h4⟩:=h
 have h3':=List.all_eq_true.mp h3
 have h4':=List.all_eq_true.mp h4
 refine ⟨of_decide_eq_true h1,of_decide_eq_true h2,fun y hy e=> ?_,fun y hy e=> ?_,fun y hy e=> ?_,fun i j x e1 e2=> ?_⟩
 ·have q:=h3' y hy
  rw [Bool.and_eq_true,Bool.and_eq_true,Bool.or_eq_true] at q
  rcases q.1.1 with z|z
  ·exact absurd e (of_decide_eq_true z)
  ·exact of_decide_eq_true z
 ·have q:=h3' y hy
  rw [Bool.and_eq_true,Bool.and_eq_true,Bool.or_eq_true,Bool.or_eq_true] at q
  rcases q.1.2 with z|z
  ·exact absurd e (of_decide_eq_true z)
  ·exact of_decide_eq_true z
 ·have q:=h3' y hy
  rw [Bool.and_eq_true,Bool.or_eq_true,Bool.or_eq_true] at q
  rcases q.2 with z|z|z
  ·exact absurd e (of_decide_eq_true z)
  ·exact .inl (of_decide_eq_true z)
  ·exact .inr (of_decide_eq_true z)
 ·have hm:(x,some j)∈N'.zip ρ:=by
   refine List.mem_of_getElem? (i:=i) ?_
   rw [List.getElem?_zip_eq_some]
   exact ⟨e1,e2⟩
  have q:=h4' _ hm
  rw [Bool.and_eq_true] at q
  exact ⟨of_decide_eq_true q.1,of_decide_eq_true q.2⟩
noncomputable def aH (X:Cx) (scope:Scope) (N':List Str) (C:Addr) (s:Shared) (H:Hp) (fp:List Addr):Cx where
 prog:=X.prog
 w:=X.w
 K:=X.K
 mg:=X.mg
 base:=X.base
 A:=X.A
 N:=N'
 s₀:=s
 H₀:=H
 env:=compEnvC scope (cellsFrom (C+1) scope.names (cK scope X.env)) C X.env
 outer:=X.stack
 stack:=X.stack
 ex:=fp
 fn:=fun x=>scope.names.lookup x==some .cell
 calm:=X.calm
 pn:=[]
 xe:=fun _ _=>False
section
variable {X:Cx}{pins:List (Addr×Obj)}{σ:St}{H:Hp}{s:Shared}{scope:Scope}{N':List Str}{ρ:List (Option Nat)}
theorem Inv.cells_of (I:Inv X pins σ H s) (ck:iu scope X.env.scope X.N N' ρ): ∀x∈scope.names,x.2= .free-> ∃c,X.env.cells.lookup x.1=some c:=fun x hx e=>I.ok.has x.1 (ck.free x hx e)
theorem uk (I:Inv X pins σ H s) {fp:List Addr} (hf: ∀b∈fp,FpOk X pins H b) {b:Addr}{o:Obj} (e:X.base.get? b=some o):b∉fp:=fun hb=>by
 obtain ⟨_,_,_,h,_⟩:=hf b hb
 rcases h with h|h
 ·exact I.ok.noex b o e h
 ·exact absurd (Nat.lt_of_lt_of_le (Heap.lt_size (I.ok.bs b o e).1) h) (Nat.lt_irrefl _)
theorem mV (I:Inv X pins σ H s) {fp:List Addr} (hf: ∀b∈fp,FpOk X pins H b) {b:Addr} (hb:b∈fp):b∉frs X.stack:=fun h=>by
 obtain ⟨_,n1,n2,_⟩:=hf b hb
 rcases List.mem_cons.mp (I.stkSub b h) with z|z
 ·exact n1 z
 ·exact n2 z
theorem Inv.block (I:Inv X pins σ H s) (ck:iu scope X.env.scope X.N N' ρ) {fp:List Addr} (hf: ∀b∈fp,FpOk X pins H b) (hfo: ∀b∈fp,∃o,s.heap.get? b=some o)
  {C l:Addr}{lo:Obj}{h':Heap}{t':Nat} (hk: ∀b o,s.heap.get? b=some o->h'.get? b=some o) (hC:s.heap.objs.size<=C) (hn:h'.Ns C fun _=>none) (hcl: ∀n c,(n,c)∈cellsFrom (C+1) scope.names []->h'.IsCell c none) (hap:(cellsFrom (C+1) scope.names []).Pairwise fun x y=>x.2≠y.2)
  (hl:s.heap.objs.size<=l) (hlC:l≠C) (hlo:h'.get? l=some lo) (hld: ∀v,lo.data≠ .cell v):Inv (aH X scope N' C s H fp) [(l,lo)] (pull ρ σ) H {s with heap:=h',toks:=t'}:=by
 have hfr:=I.cells_of ck
 have young: ∀{b:Addr}{o:Obj},s.heap.get? b=some o-> ∀{a:Addr},s.heap.objs.size<=a->b≠a:=fun e _ ha z=>by
  subst z
  exact absurd (Nat.lt_of_lt_of_le (Heap.lt_size e) ha) (Nat.lt_irrefl _)
 have cold: ∀{x:Str}{c:Addr},(cK scope X.env).lookup x=some c->c<s.heap.objs.size:=fun {x c} e=>by
  obtain ⟨v,o,ho,_⟩:=I.cell x c (d3 hfr e)
  exact Heap.lt_size ho
 refine ⟨⟨I.ok.mod,ck.kind,I.ok.glob,I.ok.blt,hC,fun x y c h1 h2=> ?_,fun x hx=> ?_,fun x c hfn h=> ?_,I.ok.hd,I.ok.frames,.inl rfl,fun b hb=>⟨?_,fun x c e=> ?_⟩,I.bs,Nat.le_trans I.ok.bsz I.sz,fun b o e=>uk I hf e,
  fun b hb=>mV I hf hb,I.stack,I.stkFree⟩,rfl,I.bare,Un.kept hk,⟨_,hn,fun i x v e1 e2 e3=> ?_⟩,fun x c e=> ?_,I.hok.fresh hC,fun x c e=> ?_,fun p hp=> ?_,I.hok.kept hk,?_⟩
 ·rcases cf_look h1 with ⟨_,g1,m1⟩|h1<;>rcases cf_look h2 with ⟨_,g2,m2⟩|h2
  ·exact PySem.name_of_addr hap m1 m2
  ·exact absurd (Nat.lt_of_lt_of_le (Nat.lt_of_lt_of_le (cold h2) hC) (Nat.le_of_succ_le g1)) (Nat.lt_irrefl _)
  ·exact absurd (Nat.lt_of_lt_of_le (Nat.lt_of_lt_of_le (cold h1) hC) (Nat.le_of_succ_le g2)) (Nat.lt_irrefl _)
  ·exact I.ok.inj x y c (d3 hfr h1) (d3 hfr h2)
 ·rcases relabel_of hx with hx|hx
  ·exact Option.isSome_iff_exists.mp (PySem.W.cellsFrom_some scope.names (C+1) (cK scope X.env) (.inl hx))
  ·obtain ⟨c,e,_⟩:=mR hfr hx
   exact Option.isSome_iff_exists.mp (PySem.W.cellsFrom_some scope.names (C+1) (cK scope X.env) (.inr (by rw [e];rfl)))
 ·have hfn':scope.names.lookup x=some .cell:=by
   have q:(scope.names.lookup x==some NameKind.cell)=true:=hfn
   simpa using q
  have hh:(cellsFrom (C+1) scope.names (cK scope X.env)).lookup x=some c:=h
  obtain ⟨d,hd⟩:=Option.isSome_iff_exists.mp (PySem.W.cellsFrom_some scope.names (C+1) [] (.inl hfn'))
  rw [eR,ir,hd] at hh
  cases hh
  rcases cf_mem _ _ _ (PySem.mem_of_lookup hd) with ⟨_,g⟩|z
  ·exact Nat.le_trans hC (Nat.le_of_succ_le g)
  ·exact nomatch z
 ·obtain ⟨o,e⟩:=hfo b hb
  exact young e hC
 ·rcases cf_look e with ⟨_,g,_⟩|e
  ·obtain ⟨o,eo⟩:=hfo b hb
   exact Ne.symm (young eo (by lia))
  ·exact (hf b hb).2.2.2.2.1 x c (d3 hfr e)
 ·obtain ⟨j,r1,r2⟩:=uf e2
  obtain ⟨n1,n2⟩:=ck.from_ i j x e1 r1
  obtain ⟨m,hm,hl'⟩:=I.loc
  have kd:=ck.free _ (PySem.mem_of_lookup n2) rfl
  obtain ⟨u,r,lk⟩:=hl' j x v n1 r2 (.inr kd)
  refine ⟨u,r,.inr ⟨uh n2,?_⟩⟩
  obtain ⟨c,c1,c2⟩:=mR hfr n2
  refine ⟨c,ui (fun z=>by have:=ck.cell _ z rfl;rw [n2] at this;cases this) c1,?_⟩
  rcases lk with ⟨k,_⟩|⟨_,c',e',⟨o,ho,hd⟩⟩
  ·rcases kd with kd|kd
   ·have k':X.env.scope.names.lookup x=some .local:=k
    rw [show X.env.scope.names.lookup x=some .cell from kd] at k';cases k'
   ·have k':X.env.scope.names.lookup x=some .local:=k
    rw [show X.env.scope.names.lookup x=some .free from kd] at k';cases k'
  ·rw [c2] at e';cases e'
   exact ⟨o,hk _ o ho,hd⟩
 ·rcases cf_look e with ⟨_,_,m⟩|e
  ·exact ⟨none,hcl x c m⟩
  ·obtain ⟨v,o,ho,hd⟩:=I.cell x c (d3 hfr e)
   exact ⟨v,o,hk _ o ho,hd⟩
 ·rcases cf_look e with ⟨_,g,_⟩|e
  ·exact I.hok.fresh (by lia)
  ·exact I.freeC x c (d3 hfr e)
 ·have hp':p∈[(l,lo)]:=hp
  rcases List.mem_cons.mp hp' with z|z
  ·subst z
   refine ⟨hlo,I.hok.fresh hl,hlC,fun z=> ?_,hld⟩
   have z':l∈frs X.stack:=z
   rcases List.mem_cons.mp (I.stkSub l z') with q|q
   ·exact absurd (Nat.lt_of_lt_of_le (q▸I.lt) hl) (Nat.lt_irrefl _)
   ·exact I.nofs hl q
  ·exact nomatch z
 ·show (pull ρ σ).length=N'.length
  unfold pull
  rw [List.length_map,ck.len]
theorem Inv.unblock {s':Shared}{fp:List Addr}{C l:Addr}{σc:St}{Hc:Hp}{acc:List V}{its:List Value}{n:Nat} (I:Inv X pins σ H s) (hf: ∀b∈fp,FpOk X pins H b)
  (hC:s.heap.objs.size<=C) (hl:s.heap.objs.size<=l) (J:Inv (aH X scope N' C s H fp) [(l,{cls:= .type "list",data:= .seq its.toArray n})] σc Hc s') (r:Vals acc its) (hz:acc.length<=sizeLine):
  Hc l=none/\Inv X pins σ (upd Hc l (.lst acc)) s':=by
 obtain ⟨hlo,hln,hlC,hlf,_⟩:=J.pin (l,{cls:= .type "list",data:= .seq its.toArray n}) (List.mem_append_right _ List.mem_cons_self)
 have hln:Hc l=none:=hln
 have hlo:s'.heap.get? l=some {cls:= .type "list",data:= .seq its.toArray n}:=hlo
 refine ⟨hln,?_⟩
 have hb:=J.base
 have young: ∀{b:Addr}{o:Obj},s.heap.get? b=some o->b≠l:=fun e z=>by
  subst z
  exact absurd (Nat.lt_of_lt_of_le (Heap.lt_size e) hl) (Nat.lt_irrefl _)
 refine I.call' (ch:=fp) J.os ⟨fun b o e n h1 h2=>hb.keep b o e n h1 h2,fun b o e n h1 h2=>hb.slot b o e n h1 h2,fun b o e n h2=> ?_,fun b o e h2=>hb.there b o e h2,fun b xs e=> ?_,fun b o u e=> ?_,fun b ps e=> ?_⟩ ?_ J.bare fun b hb'=> ?_
 ·rw [ag (young e)]
  exact hb.free b o e n h2
 ·have q:=hb.tups b xs e
  rw [ag (bT q hln)]
  exact q
 ·have q:=hb.frzs b o u e
  rw [ag (bT q hln)]
  exact q
 ·have q:=hb.tbls b ps e
  rw [ag (bT q hln)]
  exact q
 ·intro a o e
  by_cases ha:a=l
  ·subst ha
   rw [ay] at e
   cases e
   exact ⟨hz,its,n,r,hlo⟩
  ·rw [ag ha] at e
   exact (J.hok a o e).stay (fun _ _ _ q=>q) (fun c q=>by rw [ag (bT q hln)];exact q) (fun c xs q=>by rw [ag (bT q hln)];exact q) fun c _ _ _ q=>by rw [ag (bT q hln)];exact q
 ·obtain ⟨f0,f1,f2,f3,f4,f5⟩:=hf b hb'
  exact ⟨f3,f1,f4,f5⟩
end
section
variable {prog:Program}{w:World}{A:Around}{R:Result->Shared->Prop}{s:Shared}
noncomputable abbrev X0:Value->Shared->Prop:=fun _ _=>False
theorem ul {α:Type}{t:Sem α}{M:Model}{Q:α->Shared->Prop}{E:Value->Shared->Prop} (h:wpAny M A t Q X0 s):wpAny M A t Q E s:=wpAny_mono h (fun _ _ q=>q) fun _ _ z=>False.elim z
theorem um {l:Addr}{its:List Value}{k:Nat}{y:Value}{E:Value->Shared->Prop}{Q:Value->Shared->Prop} (hl:s.heap.get? l=some {cls:= .type "list",data:= .seq its.toArray k}) (hz:its.length<=sizeLine)
  (h: ∀h' k',h'.get? l=some {cls:= .type "list",data:= .seq (its++[y]).toArray k'}->(∀b o,b≠l->s.heap.get? b=some o->h'.get? b=some o)->Q .none {s with heap:=h'}):
  wpAny (model prog w) A (call (.builtin "list.append") [.ref l,y]) Q E s:=by
 refine wpAny_list_append_plain ⟨k,hl⟩ (fun h' hp sb=> ?_) (by rw [List.size_toArray];exact hz)
 obtain ⟨k',e⟩:=hp
 refine h h' k' ?_ fun b o hb q=>(sb.2 b hb).trans q
 rw [e]
 simp
theorem uo {elt target iter:Expr}{ifs:List Expr}{scope:Scope}{pos:Pos}{it acc:Value}{env:Env} (I:Nat->Shared->Prop)
  (turn: ∀n s,I n s->wpAny (model prog w) A (pyNext it) (fun r s₁=>match r with
   |none=>R (.ok .next) s₁
   |some v=>wpAny (model prog w) A (letOwnedTupleGo target it v) (fun _ s₁'=>wpAny (model prog w) A (assign target env v) (fun _ s₂=>
     wpAny (model prog w) A (forIn ifs true fun c r=>if r=true then do let ok<-isTrue c env (eval c env);pure (ForInStep.yield ok) else pure (ForInStep.yield r)) (fun ok s₃=>
      if ok=true then wpAny (model prog w) A (eval elt env) (fun x s₄=>
       wpAny (model prog w) A (call (.builtin "list.append") [acc,x]) (fun _ s₅=> ∃m,m<n/\I m s₅) X0 s₄) X0 s₃
      else∃m,m<n/\I m s₃) X0 s₂) X0 s₁') X0 s₁) X0 s)
  (n:Nat) (h:I n s):codeAny (model prog w) A (.compLoop (.ListComp elt [⟨target,iter,ifs,0⟩] scope pos) 0 it acc env) R s:=by
 refine codeAny_loop rfl I (fun n s hI=> ?_) n h
 show wpAny _ A ((compTurn (.ListComp elt [⟨target,iter,ifs,0⟩] scope pos) 0 it acc env).onRaise (fun x=>do noteFrame x env;theTreesLotGoes x)) _ _ s
 refine wpAny_noted ?_
 rw [compTurn_list]
 refine wpAny_bind (wpAny_standAt (wpAny_bind (ul (wpAny_mono (turn n s hI) (fun r s₁ h₁=> ?_) fun _ _ h'=>False.elim h'))))
 cases r with
 |none=>exact wpAny_pure h₁
 |some v=>
  refine wpAny_bind (wpAny_mono h₁ (fun _ s₁' h₁'=> ?_) fun _ _ h'=>False.elim h')
  refine wpAny_bind (wpAny_mono h₁' (fun _ s₂ h₂=>wpAny_bind (wpAny_mono h₂ (fun ok s₃ h₃=> ?_) fun _ _ h'=>False.elim h')) fun _ _ h'=>False.elim h')
  cases ok with
  |false=>exact wpAny_pure ⟨rfl,h₃⟩
  |true=>
   exact wpAny_bind (wpAny_bind (wpAny_mono h₃ (fun x s₄ h₄=>wpAny_bind (wpAny_mono h₄ (fun _ s₅ h₅=>wpAny_pure (wpAny_pure ⟨rfl,h₅⟩)) fun _ _ h'=>False.elim h')) fun _ _ h'=>False.elim h'))
end
noncomputable def PTs (X:Cx) (ifs:List Expr) (t:TT):Prop:=
 ∀(pins:List (Addr×Obj)) (s:Shared) (σ:St) (H:Hp) (Q:Bool->Hp->Prop),Inv X pins σ H s->t σ H Q->
  wpAny (model X.prog X.w) X.A (forIn ifs true fun c r=>if r=true then do let ok<-isTrue c X.env (eval c X.env);pure (ForInStep.yield ok) else pure (ForInStep.yield r)) (TP X pins σ Q) X.xe s
noncomputable def tYes:TT:=fun _ H Q=>Q true H
theorem uq {X:Cx}:PTs X [] tYes:=fun _ _ _ H _ I h=>wpAny_tests_nil ⟨H,I,h⟩
theorem ur {X:Cx}{c:Expr}{t:TT} (h:PT X c t):PTs X [c] t:=fun pins s σ H Q I hq=>wpAny_tests_one (h pins s σ H Q I hq)
noncomputable def gc (ρ:List (Option Nat)) (wi:TI) (g:TG) (tt:TT) (te:TE):TE:=fun σ H Q=>wi σ H fun J H1=> ∃W:Nat->Nat->List V->St->Hp->Prop,(∃m,W 0 m [] (pull ρ σ) H1)/\ ∀i m acc σc Hc,W i m acc σc Hc->
 (J.stop i Hc/\acc.length<=sizeLine/\ ∀l,Hc l=none->Q (.ref l) (upd Hc l (.lst acc))) \/
 (J.go i Hc/\acc.length<sizeLine/\ ∃N:List V->St->Hp->Prop,(∀acc' σ' H',N acc' σ' H'-> ∃m',m'<m/\W (i+1) m' acc' σ' H')/\
  ∀x H',J.yld i Hc x H'->g x σc H' fun σ2 H2=>tt σ2 H2 fun b H3=>if b=true then te σ2 H3 fun v H4=>N (acc++[v]) σ2 H4 else N acc σ2 H3)
section
variable {X:Cx}{scope:Scope}{N':List Str}{ρ:List (Option Nat)}{tg iter elt:Expr}{ifs:List Expr}{pos:Pos}{wi:TI}{g:TG}{tt:TT}{te:TE}
theorem mW {use:Option (Value->Sem Unit)}{pins:List (Addr×Obj)}{s:Shared}{σ:St}{H:Hp}{Q:VK}{QQ:Value->Shared->Prop} (hc:X.calm=true) (hi:PI X tg iter wi)
  (hg: ∀C s H fp,PG (aH X scope N' C s H fp) tg g) (ht: ∀C s H fp,PTs (aH X scope N' C s H fp) ifs tt) (he: ∀C s H fp,PE (aH X scope N' C s H fp) elt te)
  (ck:iu scope X.env.scope X.N N' ρ) (hs: ∀x,foldedSetIterable iter X.env x=pure x) (I:Inv X pins σ H s) (h:gc ρ wi g tt te σ H Q)
  (post: ∀(l C:Addr) (m:Str->Option Value) (H':Hp) (s':Shared),Inv X pins σ H' s'->Q (.ref l) H'->s'.heap.Ns C m->H' C=none->C≠X.env.locals->(X.s₀.heap.objs.size<=C)->(∀x c,X.env.cells.lookup x=some c->c≠C)->(∀p∈X.pn++pins,p.1≠C)->
   compPost (model X.prog X.w) X.A X.xe use QQ (.ref l) C (.ok .next) s'):
  wpAny (model X.prog X.w) X.A (comprehension (.ListComp elt [⟨tg,iter,ifs,0⟩] scope pos) scope X.env (firstIterPos [⟨tg,iter,ifs,0⟩] pos) (newList []) false (eval iter X.env) use) QQ X.xe s:=by
 have hfr:=I.cells_of ck
 refine wpAny_comprehension_free rfl hs (ug hfr) ck.kind ck.loc ?_
 refine thn (hi pins s σ H _ I h) fun v s1 h1=>thn h1 fun itv s2 h2=> ?_
 obtain ⟨it,fp,tn,J,H2,e,I2,T,st2,f2,W,⟨m0,w0⟩,turn⟩:=h2
 subst e
 refine wpAny_newObj_type (uj fun h₁ hns₁ hsb₁ hcl₁ hap₁=> ?_)
 dsimp only at hns₁ hsb₁ hcl₁ hap₁|-
 generalize hH2:s2.heap.push {cls:= .type "list",dict:=none,data:= .seq ([]:List Value).toArray}=G2 at hns₁ hsb₁ hcl₁ hap₁|-
 have hCs:G2.objs.size=s2.heap.objs.size+1:=by rw [<-hH2,Heap.size_push]
 have hlC:s2.heap.objs.size≠G2.objs.size:=by rw [hCs];exact Nat.ne_of_lt (Nat.lt_succ_self _)
 have hC:s2.heap.objs.size<=G2.objs.size:=by rw [hCs];exact Nat.le_succ _
 have old: ∀b o,s2.heap.get? b=some o->h₁.get? b=some o:=fun b o e=>hsb₁ b o (hH2▸Heap.get?_push_of_some _ e)
 have hlo:h₁.get? s2.heap.objs.size=some {cls:= .type "list",data:= .seq ([]:List Value).toArray}:=hsb₁ _ _ (hH2▸Heap.get?_push_size _ rfl)
 have hfo: ∀b∈fp,∃o,s2.heap.get? b=some o:=fun b hb=>let ⟨o,e,_⟩:=T.obj _ _ st2 b hb;⟨o,e⟩
 have I3:Inv (aH X scope N' G2.objs.size s2 H2 fp) [(s2.heap.objs.size,{cls:= .type "list",data:= .seq ([]:List Value).toArray})] (pull ρ σ) H2 {s2 with heap:=h₁}:=
  I2.block (t':=s2.toks) ck f2 hfo old hC hns₁ hcl₁ hap₁ (Nat.le_refl _) hlC hlo (fun v z=>nomatch z)
 have st3:tn 0 h₁:=T.keep _ _ _ st2 fun b _ o e=>old b o e
 have fpok: ∀{Hc:Hp}{lo:Obj},(∀b∈fp,Hc b=none)-> ∀b∈fp,FpOk (aH X scope N' G2.objs.size s2 H2 fp) [(s2.heap.objs.size,lo)] Hc b:=fun {Hc lo} hn b hb=>by
  obtain ⟨o,ho⟩:=hfo b hb
  have ne: ∀{a:Addr},s2.heap.objs.size<=a->b≠a:=fun ha z=>by
   subst z
   exact absurd (Nat.lt_of_lt_of_le (Heap.lt_size ho) ha) (Nat.lt_irrefl _)
  refine ⟨hn b hb,ne hC,mV I2 f2 hb,.inl hb,fun x c e=>by
   rcases cf_look e with ⟨_,g,_⟩|e
   ·exact Ne.symm (ne (by lia))
   ·exact (f2 b hb).2.2.2.2.1 x c (d3 hfr e),fun p hp=> ?_⟩
  have hp':p∈[(s2.heap.objs.size,lo)]:=hp
  rcases List.mem_cons.mp hp' with z|z
  ·subst z;exact Ne.symm (ne (Nat.le_refl _))
  ·exact nomatch z
 have loop: ∀s₃:Shared,s₃={s2 with heap:=h₁}->
   codeAny (model X.prog X.w) X.A (.compLoop (.ListComp elt [⟨tg,iter,ifs,0⟩] scope pos) 0 (.ref it) (.ref s2.heap.objs.size) (compEnvC scope (cellsFrom (G2.objs.size+1) scope.names (cK scope X.env)) G2.objs.size X.env))
    (compPost (model X.prog X.w) X.A X.xe use QQ (.ref s2.heap.objs.size) G2.objs.size) s₃:=by
  rintro s₃ rfl
  refine uo (fun n s'=> ∃i acc its k σc Hc,Inv (aH X scope N' G2.objs.size s2 H2 fp) [(s2.heap.objs.size,{cls:= .type "list",data:= .seq (its:List Value).toArray k})] σc Hc s'/\Vals acc its/\tn i s'.heap/\(∀b∈fp,Hc b=none)/\W i n acc σc Hc) ?_ m0
   ⟨0,[],[],0,_,_,I3,.nil,st3,fun b hb=>(f2 b hb).1,w0⟩
  rintro n s4 ⟨i,acc,its,k,σ4,H4,I4,rv,st4,fr4,w4⟩
  rcases turn i n acc σ4 H4 w4 with ⟨stop,hz,q⟩|⟨go,hz,N,hN,step⟩
  ·refine thn (T.done (aH X scope N' G2.objs.size s2 H2 fp) rfl rfl rfl hc i _ s4 σ4 H4 X0 I4 (fpok fr4) st4 stop) fun r s5 ⟨hr,I5⟩=> ?_
   subst hr
   obtain ⟨hln,I6⟩:=I2.unblock f2 hC (Nat.le_refl _) I5 rv hz
   obtain ⟨m,hm,_⟩:=I5.loc
   have hcn:H4 G2.objs.size=none:=I5.free
   have f6:=I2.fpOk hC (H':=H2) (I2.hok.fresh hC)
   exact post s2.heap.objs.size G2.objs.size m _ s5 I6 (q _ hln) hm (by rw [ag (Ne.symm hlC)];exact hcn) f6.2.1 (Nat.le_trans I2.sz hC) f6.2.2.2.2.1 f6.2.2.2.2.2
  ·refine thn (T.item (aH X scope N' G2.objs.size s2 H2 fp) rfl rfl rfl hc i _ s4 σ4 H4 X0 I4 (fpok fr4) st4 go) fun r s5 ⟨u,hr,h5⟩=> ?_
   subst hr
   refine thn h5 fun _ s6 ⟨x,H6,I6,r6,y6,st6,fr6⟩=> ?_
   have I6':=I6.pinned (fpok fr6) (T.obj _ _ st6)
   refine thn (hg G2.objs.size s2 H2 fp _ s6 σ4 H6 x u _ I6' r6 (step x H6 y6)) fun _ s7 ⟨σ7,H7,I7,q7⟩=> ?_
   refine thn (ht G2.objs.size s2 H2 fp _ s7 σ7 H7 _ I7 q7) fun b s8 ⟨H8,I8,q8⟩=> ?_
   have stay: ∀{σ9:St}{H9:Hp}{s9:Shared},Inv (aH X scope N' G2.objs.size s2 H2 fp) ([(s2.heap.objs.size,{cls:= .type "list",data:= .seq its.toArray k})]++fV fp s6.heap) σ9 H9 s9->tn (i+1) s9.heap/\ ∀b∈fp,H9 b=none:=fun {σ9 H9 s9} I9=>by
    refine ⟨T.keep _ _ _ st6 fun b hb o e=>(I9.pin (b,o) (List.mem_append_right _ (List.mem_append_right _ (ij hb e)))).1,fun b hb=> ?_⟩
    obtain ⟨o,e,d⟩:=T.obj _ _ st6 b hb
    exact (I9.pin (b,o) (List.mem_append_right _ (List.mem_append_right _ (ij hb e)))).2.1
   cases b with
   |false=>
    rw [if_neg Bool.false_ne_true]
    rw [if_neg Bool.false_ne_true] at q8
    obtain ⟨m',hm,w9⟩:=hN _ _ _ q8
    obtain ⟨a1,a2⟩:=stay I8
    exact ⟨m',hm,i+1,acc,its,k,σ7,H8,I8.unpinned,rv,a1,a2,w9⟩
   |true=>
    rw [if_pos rfl]
    rw [if_pos rfl] at q8
    refine thn (he G2.objs.size s2 H2 fp _ s8 σ7 H8 _ I8 q8) fun y s9 ⟨v,H9,I9,r9,q9⟩=> ?_
    obtain ⟨m',hm,w9⟩:=hN _ _ _ q9
    obtain ⟨a1,a2⟩:=stay I9
    have J9:=I9.unpinned
    obtain ⟨p1,p2,p3,p4,p5⟩:=J9.pin (s2.heap.objs.size,{cls:= .type "list",data:= .seq its.toArray k}) (List.mem_append_right _ List.mem_cons_self)
    have p1:s9.heap.get? s2.heap.objs.size=some {cls:= .type "list",data:= .seq its.toArray k}:=p1
    have hlen:=rv.length
    refine um p1 (by lia) fun h10 k' g10 sb10=>⟨m',hm,i+1,acc++[v],its++[y],k',σ7,H9,?_,Vals.append rv (.cons r9 .nil),?_,a2,w9⟩
    ·have nfp:s2.heap.objs.size∉fp:=fun z=>by
      obtain ⟨o,e⟩:=hfo _ z
      exact absurd (Heap.lt_size e) (Nat.lt_irrefl _)
     have J10:Inv (aH X scope N' G2.objs.size s2 H2 fp) [] σ7 H9 s9:=J9.pins_of fun p hp=>nomatch hp
     have ncell: ∀x c,(aH X scope N' G2.objs.size s2 H2 fp).env.cells.lookup x=some c->c≠s2.heap.objs.size:=fun x c e z=>by
      obtain ⟨v',o',ho',hd'⟩:=J10.cell x c e
      rw [z,p1] at ho'
      cases ho'
      cases hd'
     have J11:Inv (aH X scope N' G2.objs.size s2 H2 fp) [] σ7 H9 {s9 with heap:=h10}:=J10.turned (t':=s9.toks) (it:=s2.heap.objs.size) (fun b o hb e=>sb10 b o hb e) p2 p3 (.inr (Nat.le_refl _)) ncell (fun p hp=>nomatch hp)
     refine J11.pins_of fun p hp=> ?_
     rcases List.mem_cons.mp hp with z|z
     ·subst z
      exact ⟨g10,p2,p3,p4,fun v z=>nomatch z⟩
     ·exact nomatch z
    ·refine T.keep _ _ _ a1 fun b hb o e=>sb10 b o (fun z=> ?_) e
     subst z
     obtain ⟨o',e'⟩:=hfo _ hb
     exact absurd (Heap.lt_size e') (Nat.lt_irrefl _)
 exact codeAny_compStart_list (loop _ rfl) (T.self X.A 0 _ _ _ st3 (loop _ rfl))
theorem mX (N':List Str) (ρ:List (Option Nat)) (hc:X.calm=true) (hi:PI X tg iter wi)
  (hg: ∀C s H fp,PG (aH X scope N' C s H fp) tg g) (ht: ∀C s H fp,PTs (aH X scope N' C s H fp) ifs tt) (he: ∀C s H fp,PE (aH X scope N' C s H fp) elt te)
  (ck:d4 scope X.env.scope X.N N' ρ=true) (hs: ∀x,foldedSetIterable iter X.env x=pure x:=by intro _;rfl):
  PE X (.ListComp elt [⟨tg,iter,ifs,0⟩] scope pos) (gc ρ wi g tt te):=by
 intro pins s σ H Q I h
 rw [eval_ListComp]
 refine mW (use:=none) hc hi hg ht he (mU ck) hs I h fun l C m H' s' I' q hm hC h1 h2 h3 h4=> ?_
 refine ⟨m,hm,fun h'' sb=> ?_⟩
 refine ⟨.ref l,H',?_,rfl,q⟩
 exact I'.turned (t':=s'.toks) (it:=C) (fun b o hb e=>(sb.2 b hb).trans e) hC h1 (.inr h2) h3 h4
theorem ut {i:Nat}{x:Str}{pos' spos:Pos} (N':List Str) (ρ:List (Option Nat)) (hN:X.N.Nodup) (hx:X.N[i]?=some x) (hl:Loc X.env.scope x) (hc:X.calm=true) (hi:PI X tg iter wi)
  (hg: ∀C s H fp,PG (aH X scope N' C s H fp) tg g) (ht: ∀C s H fp,PTs (aH X scope N' C s H fp) ifs tt) (he: ∀C s H fp,PE (aH X scope N' C s H fp) elt te)
  (ck:d4 scope X.env.scope X.N N' ρ=true) (hsw:swapsWith (.ListComp elt [⟨tg,iter,ifs,0⟩] scope pos) (some (.Name x pos')) spos.line X.env=pure true:=by rfl)
  (hs: ∀x,foldedSetIterable iter X.env x=pure x:=by intro _;rfl) (hf:X.fn x=true \/X.env.scope.names.lookup x=some .local:=by first|exact .inl rfl|exact .inr rfl|assumption):
  PS X (.Assign [.Name x pos'] (.ListComp elt [⟨tg,iter,ifs,0⟩] scope pos) spos) (tAsg (gc ρ wi g tt te) (eK i)):=by
 intro pins s σ H D I h
 rw [exec_Assign_Name_used _ _ _ _ hsw]
 refine wpAny_bind (wpAny_standAt (wpAny_bind ?_))
 show wpAny _ X.A (do let _<-comprehension (.ListComp elt [⟨tg,iter,ifs,0⟩] scope pos) scope X.env _ (newList []) false (eval iter X.env) (some (assign (.Name x pos') X.env))) _ _ s
 refine wpAny_bind (wpAny_mono (mW (use:=some (assign (.Name x pos') X.env)) (QQ:=fun _ s'=>SP X pins D .next s') (Q:=fun v H'=>D.nx (σ.set i (some v)) H') hc hi hg ht he (mU ck) hs I h fun l C m H' s' I' q hm hC h1 h2 h3 h4=> ?_)
  (fun _ s' hq=>wpAny_pure (wpAny_pure hq)) fun _ _ e=>e)
 show wpAny _ X.A (assign (.Name x pos') X.env (.ref l)) _ _ _
 refine wpAny_assign_Name (lI I' hN hx hl (v:= .ref l) rfl (fun s2 I2 ⟨a,sb,ha⟩=> ?_) hf)
 have neC:C≠a:=by
  rcases ha with z|z
  ·rw [z];exact h1
  ·exact Ne.symm (h3 x a z)
 refine ⟨m,hm.sameBut sb neC,fun h'' sb''=> ?_⟩
 refine ⟨σ.set i (some (.ref l)),H',?_,q⟩
 exact I2.turned (t':=s2.toks) (it:=C) (fun b o hb e=>(sb''.2 b hb).trans e) hC h1 (.inr h2) h3 h4
end
end L2
set_option maxHeartbeats 4000000
namespace L2
open PySem PySem.Spec PyProof.Rows
section
variable {X:Cx}
theorem uu:cj X (.builtin "isinstance") (fun xs H Q=> ∃x T t b,xs=[x,.ty T]/\TyOf X.K H x t/\PySem.W.kitOne X.K t (.type T)=some b/\Q (.bl b) H):=by
 intro pins s σ H xs us Q I r h
 obtain ⟨x,T,t,b,rfl,ty,e,q⟩:=h
 obtain ⟨u,v,rfl,ru,rv⟩:=r.two
 have ev:v=Value.type T:=rv
 subst ev
 exact sA I ru ty e fun tk=>⟨.bl b,H,I.tok _,rfl,q⟩
noncomputable def mY (i j:Int):Prop:=0<=j/\(Builtin.Int.intBits i:Int)*j<=2^27
theorem gg:OpR X (binaryOp .Pow) (rI mY fun i j=> .int (i^j.toNat)):=opI fun _ _ _ _ _ _ _ hc q=>pow_int hc.1 hc.2 q
noncomputable def mZ (i j:Int):Prop:=IntMulOk i j
theorem cL:OpR X (binaryOp .Mult) (rI mZ fun i j=> .int (i*j)):=opI fun _ _ _ _ _ _ _ hc q=>mul_int q hc
noncomputable def Def (P:Program) (w:World) (K:PySem.W.Frag) (mg:Str->Option Value) (base:Heap) (k:Nat) (x:Str) (ps:List Str) (sp:Sp):Prop:=
 ∃f fd,FnOk P w K mg base CX0 k f fd ps sp/\mg x=some (.ref f)/\PySem.W.keepIn K (.ref f)=true/\cm K fd ps []
noncomputable def tCal (sp:Sp) (t:TA):TE:=fun σ H Q=>t σ H fun vs H1=>sp vs H1 Q E0
theorem iw {k:Nat}{x:Str}{ps:List Str}{sp:Sp}{e:Expr}{es:List Expr}{t:TA}{p pos:Pos} (D:Def X.prog X.w X.K X.mg X.base k x ps sp) (hr:Room k X.A) (ha:PA X (e::es) t) (hg:Gl X x:=by rfl)
  (hdb:(x==("__debug__":Str))=false:=by decide) (he:starEach (e::es) X.env=(false,eval e X.env)::starEach es X.env:=by rfl) (hpl:(backTo pos (starEach es X.env)).any (·.1)=false:=by rfl):
  PE X (.Call (.Name x p) (e::es) [] pos) (tCal sp t):=by
 obtain ⟨f,fd,F,hm,kp,hb⟩:=D
 intro pins s σ H Q I h
 refine sI (E:=E0) (dvs:=[]) (ds:=[]) F hr hg hm kp hb .nil jO ha hdb he hpl pins s σ H Q I ?_
 have e:jH sp [] E0 t=tCal sp t:=by
  funext σ H Q
  unfold jH tCal
  congr 1
  funext vs H1
  rw [List.append_nil]
 rw [e]
 exact h
theorem bL {P:Program}{w:World}{K:PySem.W.Frag}{mg:Str->Option Value}{base:Heap}{k:Nat}{x:Str}{ps:List Str}{sp:Sp}{st:Stmt}{f:Addr}{fd:FuncData} (F:Fun K x x st f fd) (hm:mg x=some (.ref f))
  (G:FnOk P w K mg base CX0 k f fd ps sp) (b:cm K fd ps []):Def P w K mg base k x ps sp:=⟨f,fd,G,hm,F.kp,b⟩
end
theorem Same.upd {H:Hp}{a:Addr}{o:HO} (h:H a=none):Same H (upd H a o):=fun b u e=>by
 rw [ag (bT e h)]
 exact e
theorem c0:bootBuiltins "len"=some (.builtin "len"):=by decide+kernel
theorem uv:bootBuiltins "isinstance"=some (.builtin "isinstance"):=by decide+kernel
theorem jQ:bootBuiltins "sorted"=some (.builtin "sorted"):=by decide+kernel
theorem uw:bootBuiltins "sum"=some (.builtin "sum"):=by decide+kernel
theorem ux:bootBuiltins "bool"=some (.type "bool"):=by decide+kernel
theorem m4:bootBuiltins "int"=some (.type "int"):=by decide+kernel
theorem iz:bootBuiltins "list"=some (.type "list"):=by decide+kernel
theorem gh:bootBuiltins "tuple"=some (.type "tuple"):=by decide+kernel
end L2
set_option maxHeartbeats 4000000
namespace L2
open PySem PySem.Spec PyProof.Rows
variable {KF:PySem.W.Frag}
structure LamD where
 qual:Str
 params:Arguments
 body:Expr
 scope:Scope
noncomputable def FnG (H:Hp) (a:Addr) (L:LamD):Prop:= ∃(pm ctv:Value) (c:Addr) (oc:Obj) (vs:Array Value) (t:Tok),H a=some (.frz (PySem.W.kla_obj "<lambda>" L.qual L.params L.body L.scope [] pm c ctv) (.own 0))/\H c=some (.frz oc (.own 0))/\oc.data= .fields vs/\vs[1]?=some (.str L.qual t)
noncomputable def FnC (H:Hp) (a:Addr) (L:LamD) (x:Str) (i:Int):Prop:= ∃(pm ctv:Value) (c cl:Addr) (oc ol:Obj) (vs:Array Value) (t tk:Tok),H a=some (.frz (PySem.W.kla_obj "<lambda>" L.qual L.params L.body L.scope [(x,cl)] pm c ctv) (.own 0))/\H c=some (.frz oc (.own 0))/\H cl=some (.frz ol (.own 0))/\oc.data= .fields vs/\vs[1]?=some (.str L.qual t)/\ol.data= .cell (some (.int i tk))
inductive Dv where
 |non|bl (b:Bool)|int (i:Int)|str (x:Str)|lst (xs:List Dv)|tup (xs:List Dv)|dic (kvs:List (List Key×Dv))
 |scr (ns:List Int)
 |fn (L:LamD)
 |fc (L:LamD) (x:Str) (i:Int)
 |dik (kvs:List (Key×Dv))
 |ins (C:Addr) (fs:List (Str×Dv))
instance:Inhabited Dv:=⟨.non⟩
mutual
noncomputable def Dv.toPy:Dv->PyData
 | .non=> .none
 | .bl b=> .bool b
 | .int i=> .int i
 | .str x=> .str x
 | .lst xs=> .list (dH xs)
 | .tup xs=> .tuple (dH xs)
 | .dic _=> .dict []
 | .scr _=> .dict []
 | .fn _=> .dict []
 | .fc _ _ _=> .dict []
 | .dik _=> .dict []
 | .ins _ _=> .dict []
noncomputable def dH:List Dv->List PyData
 |[]=>[]
 |x::r=>x.toPy::dH r
end
mutual
noncomputable def Dv.imm:Dv->Bool
 | .lst _=>false
 | .dic _=>false
 | .scr _=>false
 | .fn _=>false
 | .fc _ _ _=>false
 | .dik _=>false
 | .ins _ _=>false
 | .tup xs=>imms xs
 |_=>true
noncomputable def imms:List Dv->Bool
 |[]=>true
 |x::r=>x.imm&&imms r
end
noncomputable def Scr (KF:PySem.W.Frag) (H:Hp) (a:Addr) (ns:List Int):Prop:=(∃o,H a=some (.frz o (.lst (ns.map V.int)))) \/
 ∃(o:Obj) (its:Array Value) (n:Nat),KF.lookup a=some o/\o.cls= .type "list"/\o.dict=none/\o.data= .seq its n/\its.size<=sizeLine/\Vals (ns.map V.int) its.toList
theorem Scr.sq {KF:PySem.W.Frag}{H:Hp}{a:Addr}{ns:List Int} (h:Scr KF H a ns):SqL KF H a (ns.map V.int):=by
 rcases h with ⟨o,h⟩|h
 ·exact .inl (.inr ⟨o,h⟩)
 ·exact .inr h
mutual
inductive RepF (KF:PySem.W.Frag) (S:Addr->Prop) (H:Hp):V->Dv->Prop
 |non:RepF KF S H .non .non
 |bl (b:Bool):RepF KF S H (.bl b) (.bl b)
 |int (i:Int):RepF KF S H (.int i) (.int i)
 |str (x:Str):RepF KF S H (.str x) (.str x)
 |lst {a:Addr}{xs:List V}{ds:List Dv}:S a->H a=some (.lst xs)->RepsF KF S H xs ds->RepF KF S H (.ref a) (.lst ds)
 |tup {a:Addr}{xs:List V}{ds:List Dv}:H a=some (.tup xs)->RepsF KF S H xs ds->RepF KF S H (.ref a) (.tup ds)
 |dic {a:Addr}{xs:List (List Key×V)}{ds:List (List Key×Dv)}:S a->Rd H a (.dT xs)->RepsK KF S H xs ds->RepF KF S H (.ref a) (.dic ds)
 |scr {a:Addr}{ns:List Int}:Scr KF H a ns->RepF KF S H (.ref a) (.scr ns)
 |fn {a:Addr}{L:LamD}:FnG H a L->RepF KF S H (.ref a) (.fn L)
 |fc {a:Addr}{L:LamD}{x:Str}{i:Int}:FnC H a L x i->RepF KF S H (.ref a) (.fc L x i)
 |dik {a:Addr}{xs:List (Key×V)}{ds:List (Key×Dv)}:S a->Rd H a (.dK xs)->RepsK KF S H xs ds->RepF KF S H (.ref a) (.dik ds)
 |ins {a C dx:Addr}{xs:List (Str×V)}{ds:List (Str×Dv)}:S a->H a=some (.ins C dx xs)->RepsK KF S H xs ds->RepF KF S H (.ref a) (.ins C ds)
inductive RepsF (KF:PySem.W.Frag) (S:Addr->Prop) (H:Hp):List V->List Dv->Prop
 |nil:RepsF KF S H [] []
 |cons {v:V}{vs:List V}{d:Dv}{ds:List Dv}:RepF KF S H v d->RepsF KF S H vs ds->RepsF KF S H (v::vs) (d::ds)
inductive RepsK (KF:PySem.W.Frag) (S:Addr->Prop) (H:Hp):{κ:Type}->List (κ×V)->List (κ×Dv)->Prop
 |nil {κ:Type}:RepsK KF S H ([]:List (κ×V)) []
 |cons {κ:Type}{k:κ}{v:V}{vs:List (κ×V)}{d:Dv}{ds:List (κ×Dv)}:RepF KF S H v d->RepsK KF S H vs ds->RepsK KF S H ((k,v)::vs) ((k,d)::ds)
end
noncomputable abbrev Imm:Addr->Prop:=fun _=>False
noncomputable def aE (S:Addr->Prop) (H H':Hp):Prop:= ∀a o,H a=some o->((∃xs,o= .tup xs) \/(∃b u,o= .frz b u) \/S a)->H' a=some o
theorem aE.of {S:Addr->Prop}{H H':Hp} (e:Same H H'):aE S H H':=fun a o h _=>e a o h
theorem aE.mono {S S':Addr->Prop}{H H':Hp} (e:aE S' H H') (m: ∀a,S a->S' a):aE S H H':=fun a o h c=>e a o h (c.imp id (.imp id (m a)))
structure Mv (P:Dv->Prop) (KF:PySem.W.Frag) (S S':Addr->Prop) (H H':Hp):Prop where
 lst: ∀{a:Addr}{xs:List V}{ds:List Dv},P (.lst ds)->S a->H a=some (.lst xs)->(S' a/\H' a=some (.lst xs))/\ ∀d∈ds,P d
 tup: ∀{a:Addr}{xs:List V}{ds:List Dv},P (.tup ds)->H a=some (.tup xs)->H' a=some (.tup xs)/\ ∀d∈ds,P d
 dic: ∀{a:Addr}{xs:List (List Key×V)}{ds:List (List Key×Dv)},P (.dic ds)->S a->Rd H a (.dT xs)->(S' a/\Rd H' a (.dT xs))/\ ∀p∈ds,P p.2
 scr: ∀{a:Addr}{ns:List Int},P (.scr ns)->Scr KF H a ns->Scr KF H' a ns
 fn: ∀{a:Addr}{L:LamD},P (.fn L)->FnG H a L->FnG H' a L
 fc: ∀{a:Addr}{L:LamD}{x:Str}{i:Int},P (.fc L x i)->FnC H a L x i->FnC H' a L x i
 dik: ∀{a:Addr}{xs:List (Key×V)}{ds:List (Key×Dv)},P (.dik ds)->S a->Rd H a (.dK xs)->(S' a/\Rd H' a (.dK xs))/\ ∀p∈ds,P p.2
 ins: ∀{a C dx:Addr}{xs:List (Str×V)}{ds:List (Str×Dv)},P (.ins C ds)->S a->H a=some (.ins C dx xs)->(S' a/\H' a=some (.ins C dx xs))/\ ∀p∈ds,P p.2
theorem RepF.mv {P:Dv->Prop}{S S':Addr->Prop}{H H':Hp} (m:Mv P KF S S' H H') {v:V}{d:Dv} (r:RepF KF S H v d):P d->RepF KF S' H' v d:=
 RepF.rec (motive_1:=fun v d _=>P d->RepF KF S' H' v d) (motive_2:=fun vs ds _=>(∀d∈ds,P d)->RepsF KF S' H' vs ds) (motive_3:=fun vs ds _=>(∀p∈ds,P p.2)->RepsK KF S' H' vs ds)
  (fun _=> .non) (fun b _=> .bl b) (fun i _=> .int i) (fun x _=> .str x)
  (fun s h _ f p=>have q:=m.lst p s h; .lst q.1.1 q.1.2 (f q.2))
  (fun h _ f p=>have q:=m.tup p h; .tup q.1 (f q.2))
  (fun s h _ f p=>have q:=m.dic p s h; .dic q.1.1 q.1.2 (f q.2))
  (fun h p=> .scr (m.scr p h)) (fun h p=> .fn (m.fn p h)) (fun h p=> .fc (m.fc p h))
  (fun s h _ f p=>have q:=m.dik p s h; .dik q.1.1 q.1.2 (f q.2))
  (fun s h _ f p=>have q:=m.ins p s h; .ins q.1.1 q.1.2 (f q.2))
  (fun _=> .nil) (fun _ _ f g p=> .cons (f (p _ (List.mem_cons_self ..))) (g fun d hd=>p d (List.mem_cons_of_mem _ hd)))
  (fun _=> .nil) (fun _ _ f g p=> .cons (f (p _ (List.mem_cons_self ..))) (g fun d hd=>p d (List.mem_cons_of_mem _ hd))) r
theorem RepsF.mv {P:Dv->Prop}{S S':Addr->Prop}{H H':Hp} (m:Mv P KF S S' H H'): ∀{vs:List V}{ds:List Dv},RepsF KF S H vs ds->(∀d∈ds,P d)->RepsF KF S' H' vs ds
 |_,_,.nil,_=> .nil
 |_,_,.cons h r,p=> .cons (h.mv m (p _ (List.mem_cons_self ..))) (RepsF.mv m r fun d hd=>p d (List.mem_cons_of_mem _ hd))
theorem RepsK.mv {P:Dv->Prop}{S S':Addr->Prop}{H H':Hp} (m:Mv P KF S S' H H'): ∀{κ:Type}{vs:List (κ×V)}{ds:List (κ×Dv)},RepsK KF S H vs ds->(∀p∈ds,P p.2)->RepsK KF S' H' vs ds
 |_,_,_,.nil,_=> .nil
 |_,_,_,.cons h r,p=> .cons (h.mv m (p _ (List.mem_cons_self ..))) (RepsK.mv m r fun d hd=>p d (List.mem_cons_of_mem _ hd))
noncomputable abbrev AllD:Dv->Prop:=fun _=>True
theorem Mv.of {S S':Addr->Prop}{H H':Hp} (h1: ∀{a:Addr}{xs:List V},S a->H a=some (.lst xs)->S' a/\H' a=some (.lst xs)) (h2: ∀{a:Addr}{xs:List V},H a=some (.tup xs)->H' a=some (.tup xs))
  (h3: ∀{a:Addr}{xs:List (List Key×V)},S a->Rd H a (.dT xs)->S' a/\Rd H' a (.dT xs)) (h4: ∀{a:Addr}{xs:List (Key×V)},S a->Rd H a (.dK xs)->S' a/\Rd H' a (.dK xs))
  (h5: ∀{a C dx:Addr}{xs:List (Str×V)},S a->H a=some (.ins C dx xs)->S' a/\H' a=some (.ins C dx xs)) (h6: ∀{a:Addr}{b:Obj}{u},H a=some (.frz b u)->(∀xs,u≠ .dT xs)->H' a=some (.frz b u)):Mv AllD KF S S' H H':=
 ⟨fun _ s h=>⟨h1 s h,fun _ _=>trivial⟩,fun _ h=>⟨h2 h,fun _ _=>trivial⟩,fun _ s h=>⟨h3 s h,fun _ _=>trivial⟩,fun _ h=>h.imp (fun ⟨o,q⟩=>⟨o,h6 q fun _=>nofun⟩) id,
  fun _ ⟨pm,ctv,c,oc,vs,t,q1,q2,q3⟩=>⟨pm,ctv,c,oc,vs,t,h6 q1 fun _=>nofun,h6 q2 fun _=>nofun,q3⟩,
  fun _ ⟨pm,ctv,c,cl,oc,ol,vs,t,tk,q1,q2,q3,q4⟩=>⟨pm,ctv,c,cl,oc,ol,vs,t,tk,h6 q1 fun _=>nofun,h6 q2 fun _=>nofun,h6 q3 fun _=>nofun,q4⟩,
  fun _ s h=>⟨h4 s h,fun _ _=>trivial⟩,fun _ s h=>⟨h5 s h,fun _ _=>trivial⟩⟩
theorem aE.rd {S:Addr->Prop}{H H':Hp}{a:Addr}{u} (e:aE S H H') (s:S a) (h:Rd H a u):Rd H' a u:=h.imp (fun h=>e _ _ h (.inr (.inr s))) fun ⟨o,h⟩=>⟨o,e _ _ h (.inr (.inl ⟨_,_,rfl⟩))⟩
theorem aE.mv {S:Addr->Prop}{H H':Hp} (e:aE S H H'):Mv AllD KF S S H H':=
 .of (fun s h=>⟨s,e _ _ h (.inr (.inr s))⟩) (fun h=>e _ _ h (.inl ⟨_,rfl⟩)) (fun s h=>⟨s,e.rd s h⟩) (fun s h=>⟨s,e.rd s h⟩) (fun s h=>⟨s,e _ _ h (.inr (.inr s))⟩) (fun h _=>e _ _ h (.inr (.inl ⟨_,_,rfl⟩)))
theorem RepF.keep {S:Addr->Prop}{H H':Hp} (e:aE S H H') {v:V}{d:Dv} (r:RepF KF S H v d):RepF KF S H' v d:=r.mv e.mv trivial
theorem RepsF.keep {S:Addr->Prop}{H H':Hp} (e:aE S H H') {vs:List V}{ds:List Dv} (r:RepsF KF S H vs ds):RepsF KF S H' vs ds:=r.mv e.mv fun _ _=>trivial
theorem RepsK.keep {S:Addr->Prop}{H H':Hp} (e:aE S H H') {κ:Type}{vs:List (κ×V)}{ds:List (κ×Dv)} (r:RepsK KF S H vs ds):RepsK KF S H' vs ds:=r.mv e.mv fun _ _=>trivial
theorem iA {H:Hp}{a:Addr}{o} (h:H a=some o):H a≠none:=by rw [h];exact fun z=>nomatch z
theorem Rd.ne {H:Hp}{a:Addr}{u} (h:Rd H a u):H a≠none:=h.elim iA fun ⟨_,h⟩=>iA h
theorem jR {S S':Addr->Prop}{H:Hp} (m: ∀a,H a≠none->S a->S' a):Mv AllD KF S S' H H:=
 .of (fun s h=>⟨m _ (iA h) s,h⟩) id (fun s h=>⟨m _ h.ne s,h⟩) (fun s h=>⟨m _ h.ne s,h⟩) (fun s h=>⟨m _ (iA h) s,h⟩) fun h _=>h
theorem RepF.mono {S S':Addr->Prop}{H:Hp} (m: ∀a,H a≠none->S a->S' a) {v:V}{d:Dv} (r:RepF KF S H v d):RepF KF S' H v d:=r.mv (jR m) trivial
theorem RepsF.mono {S S':Addr->Prop}{H:Hp} (m: ∀a,H a≠none->S a->S' a) {vs:List V}{ds:List Dv} (r:RepsF KF S H vs ds):RepsF KF S' H vs ds:=r.mv (jR m) fun _ _=>trivial
theorem RepsK.mono {S S':Addr->Prop}{H:Hp} (m: ∀a,H a≠none->S a->S' a) {κ:Type}{vs:List (κ×V)}{ds:List (κ×Dv)} (r:RepsK KF S H vs ds):RepsK KF S' H vs ds:=r.mv (jR m) fun _ _=>trivial
theorem jS: ∀{ds:List Dv},imms ds=true-> ∀d∈ds,d.imm=true
 |[],_,_,h=>nomatch h
 |x::r,h,d,hd=>by
  rw [imms,Bool.and_eq_true] at h
  rcases List.mem_cons.mp hd with rfl|hd
  ·exact h.1
  ·exact jS h.2 d hd
theorem m5 {S S':Addr->Prop}{H:Hp}:Mv (fun d=>d.imm=true) KF S S' H H:=
 ⟨nofun,fun p h=>⟨h,jS p⟩,nofun,nofun,nofun,nofun,nofun,nofun⟩
theorem RepF.imm {S S':Addr->Prop}{H:Hp}{v:V}{d:Dv} (r:RepF KF S H v d) (h:d.imm=true):RepF KF S' H v d:=r.mv m5 h
theorem RepsF.imm {S S':Addr->Prop}{H:Hp}{vs:List V}{ds:List Dv} (r:RepsF KF S H vs ds) (h:imms ds=true):RepsF KF S' H vs ds:=r.mv m5 (jS h)
theorem RepF.same {S:Addr->Prop}{H H':Hp} (e:Same H H') {v:V}{d:Dv} (r:RepF KF S H v d):RepF KF S H' v d:=r.keep (.of e)
theorem RepsF.same {S:Addr->Prop}{H H':Hp} (e:Same H H') {v:List V}{d:List Dv} (r:RepsF KF S H v d):RepsF KF S H' v d:=r.keep (.of e)
theorem RepsF.append {S:Addr->Prop}{H:Hp}: ∀{xs ys:List V}{ds es:List Dv},RepsF KF S H xs ds->RepsF KF S H ys es->RepsF KF S H (xs++ys) (ds++es)
 |_,_,_,_,.nil,s=>s
 |_,_,_,_,.cons h r,s=> .cons h (RepsF.append r s)
theorem RepsF.length {S:Addr->Prop}{H:Hp}: ∀{xs:List V}{ds:List Dv},RepsF KF S H xs ds->xs.length=ds.length
 |_,_,.nil=>rfl
 |_,_,.cons _ r=>congrArg (· +1) (RepsF.length r)
theorem RepsF.get {S:Addr->Prop}{H:Hp}: ∀{xs:List V}{ds:List Dv}{i:Nat}{d:Dv},RepsF KF S H xs ds->ds[i]?=some d-> ∃x,xs[i]?=some x/\RepF KF S H x d
 |_,_,_,_,.nil,e=>by simp at e
 |_,_,0,_,.cons h _,e=>by simp at e;subst e;exact ⟨_,rfl,h⟩
 |_,_,i+1,x,.cons _ r,e=>by
  obtain ⟨d,h1,h2⟩:=RepsF.get (i:=i) r (by simpa using e)
  exact ⟨d,by simpa using h1,h2⟩
theorem RepsF.get' {S:Addr->Prop}{H:Hp}: ∀{xs:List V}{ds:List Dv}{i:Nat}{x:V},RepsF KF S H xs ds->xs[i]?=some x-> ∃d,ds[i]?=some d/\RepF KF S H x d
 |_,_,_,_,.nil,e=>by simp at e
 |_,_,0,_,.cons h _,e=>by simp at e;subst e;exact ⟨_,rfl,h⟩
 |_,_,i+1,x,.cons _ r,e=>by
  obtain ⟨d,h1,h2⟩:=RepsF.get' (i:=i) r (by simpa using e)
  exact ⟨d,by simpa using h1,h2⟩
theorem RepsF.drop {S:Addr->Prop}{H:Hp}: ∀(k:Nat) {xs:List V}{ds:List Dv},RepsF KF S H xs ds->RepsF KF S H (xs.drop k) (ds.drop k)
 |0,_,_,r=>by simpa using r
 |k+1,_,_,.nil=>by simpa using RepsF.nil
 |k+1,_,_,.cons _ r=>by simpa using RepsF.drop k r
theorem RepsF.take {S:Addr->Prop}{H:Hp}: ∀(k:Nat) {xs:List V}{ds:List Dv},RepsF KF S H xs ds->RepsF KF S H (xs.take k) (ds.take k)
 |0,_,_,_=>by simpa using RepsF.nil
 |k+1,_,_,.nil=>by simpa using RepsF.nil
 |k+1,_,_,.cons h r=>by simpa using RepsF.cons h (RepsF.take k r)
theorem RepsF.reverse {S:Addr->Prop}{H:Hp}: ∀{xs:List V}{ds:List Dv},RepsF KF S H xs ds->RepsF KF S H xs.reverse ds.reverse
 |_,_,.nil=> .nil
 |_,_,.cons h r=>by
  rw [List.reverse_cons,List.reverse_cons]
  exact RepsF.append (RepsF.reverse r) (.cons h .nil)
theorem RepsF.set {S:Addr->Prop}{H:Hp}: ∀{xs:List V}{ds:List Dv} (i:Nat) {x:V}{d:Dv},RepsF KF S H xs ds->RepF KF S H x d->RepsF KF S H (xs.set i x) (ds.set i d)
 |_,_,_,_,_,.nil,_=> .nil
 |_,_,0,_,_,.cons _ r,h=> .cons h r
 |_,_,i+1,_,_,.cons a r,h=> .cons a (RepsF.set i r h)
theorem gi {S:Addr->Prop}{H:Hp}: ∀(r:List Int),RepsF KF S H (r.map V.int) (r.map Dv.int)
 |[]=> .nil
 |i::r=> .cons (.int i) (gi r)
theorem RepsF.ints {S:Addr->Prop}{H:Hp}: ∀{xs:List V}{r:List Int},RepsF KF S H xs (r.map Dv.int)->xs=r.map V.int
 |_,[],.nil=>rfl
 |_,i::r,.cons h q=>by
  cases h
  rw [RepsF.ints q]
  all_goals rfl
section
variable {X:Cx}{pins:List (Addr×Obj)}{σ:St}{H:Hp}{s:Shared}{S:Addr->Prop}
mutual
theorem RepF.reads (I:Inv X pins σ H s): ∀{v:V}{d:Dv}{u:Value},RepF KF S H v d->RelV v u->PyData.canLay0 d.toPy=true-> ∃as,Reads s.heap u d.toPy as
 |_,_,_,.non,r,_=>by cases r;exact ⟨_,.none⟩
 |_,_,_,.bl b,r,_=>by cases r;exact ⟨_,.bool b⟩
 |_,_,_,.int i,r,_=>by obtain ⟨t,rfl⟩:=r;exact ⟨_,.int i t⟩
 |_,_,_,.str x,r,_=>by obtain ⟨t,rfl⟩:=r;exact ⟨_,.str x t⟩
 |_,_,_,.lst _ h q,r,c=>by
  cases r
  obtain ⟨its,rv,⟨o,n,ho,hc,_,hd⟩,_⟩:=I.list (SqL.of h)
  obtain ⟨as,ra⟩:=RepsF.reads I q rv (by simpa [Dv.toPy,PyData.canLay0] using c)
  exact ⟨_,.list ho hc hd (by simpa using ra)⟩
 |_,_,_,.tup h q,r,c=>by
  cases r
  obtain ⟨its,rv,⟨o,ho,hc,n,hd⟩,_⟩:=I.tuple (SqT.of h)
  obtain ⟨as,ra⟩:=RepsF.reads I q rv (by simpa [Dv.toPy,PyData.canLay0] using c)
  exact ⟨_,.tuple ho hc hd (by simpa using ra)⟩
 |_,_,_,.dic _ _ _,_,c=>by simp [Dv.toPy,PyData.canLay0] at c
 |_,_,_,.scr _,_,c=>by simp [Dv.toPy,PyData.canLay0] at c
 |_,_,_,.fn _,_,c=>by simp [Dv.toPy,PyData.canLay0] at c
 |_,_,_,.fc _,_,c=>by simp [Dv.toPy,PyData.canLay0] at c
 |_,_,_,.dik _ _ _,_,c=>by simp [Dv.toPy,PyData.canLay0] at c
 |_,_,_,.ins _ _ _,_,c=>by simp [Dv.toPy,PyData.canLay0] at c
theorem RepsF.reads (I:Inv X pins σ H s): ∀{vs:List V}{ds:List Dv}{us:List Value},RepsF KF S H vs ds->Vals vs us->PyData.canLayAll0 (dH ds)=true-> ∃as,ReadsAll s.heap us (dH ds) as
 |_,_,_,.nil,r,_=>by cases r;exact ⟨_,.nil⟩
 |_,_,_,.cons h q,r,c=>by
  rw [dH,PyData.canLayAll0,Bool.and_eq_true] at c
  cases r with
  |cons r1 r2=>
   obtain ⟨as,ra⟩:=RepF.reads I h r1 c.1
   obtain ⟨bs,rb⟩:=RepsF.reads I q r2 c.2
   exact ⟨_,.cons ra rb⟩
end
noncomputable def eqOk (x y:Dv):Bool:=x.toPy.canLay0&&y.toPy.canLay0&&decide (min x.toPy.depth y.toPy.depth<=60)
noncomputable def rEqF (KF:PySem.W.Frag):R2:=fun x y H Q=> ∃dx dy,RepF KF (fun _=>True) H x dx/\RepF KF (fun _=>True) H y dy/\eqOk dx dy=true/\Q (.bl (PyData.eqv dx.toPy dy.toPy)) H
noncomputable def rNeF (KF:PySem.W.Frag):R2:=fun x y H Q=> ∃dx dy,RepF KF (fun _=>True) H x dx/\RepF KF (fun _=>True) H y dy/\eqOk dx dy=true/\Q (.bl (!PyData.eqv dx.toPy dy.toPy)) H
theorem m6 {x y:Dv} (h:eqOk x y=true):x.toPy.canLay0=true/\y.toPy.canLay0=true/\min x.toPy.depth y.toPy.depth<=60:=by
 unfold eqOk at h
 rw [Bool.and_eq_true,Bool.and_eq_true] at h
 exact ⟨h.1.1,h.1.2,of_decide_eq_true h.2⟩
theorem db (hu:X.A.units+64<cLine):OpR X (compareOp .Eq) (rEqF X.K):=by
 intro pins s σ H x y v u Q I rx ry h
 obtain ⟨dx,dy,hx,hy,ok,q⟩:=h
 obtain ⟨cx,cy,dp⟩:=m6 ok
 obtain ⟨as,ra⟩:=hx.reads I rx cx
 obtain ⟨bs,rb⟩:=hy.reads I ry cy
 exact SeqAt.compareEq_reads ra rb cx cy (by lia) ⟨.bl _,H,I,rfl,q⟩
theorem dI (hu:X.A.units+64<cLine):OpR X (compareOp .NotEq) (rNeF X.K):=by
 intro pins s σ H x y v u Q I rx ry h
 obtain ⟨dx,dy,hx,hy,ok,q⟩:=h
 obtain ⟨cx,cy,dp⟩:=m6 ok
 obtain ⟨as,ra⟩:=hx.reads I rx cx
 obtain ⟨bs,rb⟩:=hy.reads I ry cy
 exact SeqAt.compareNe_reads ra rb cx cy (by lia) ⟨.bl _,H,I,rfl,q⟩
end
end L2
set_option maxHeartbeats 4000000
namespace L2
open PySem PySem.Spec PyProof.Rows
variable {KF:PySem.W.Frag}{W W':Addr->Prop}
noncomputable abbrev Dt:=List (Option Dv)
noncomputable abbrev EM:=Dt->Option Dv
noncomputable def isOwn (ms:List Nat) (i:Nat):Bool:=decide (i∈ms)||(decide (i+1000∈ms)||decide (i+2000∈ms))
noncomputable abbrev W0:Addr->Prop:=fun _=>False
noncomputable def Cell (KF:PySem.W.Frag) (H:Hp) (a:Addr):Dv->Prop
 | .lst ds=> ∃xs,H a=some (.lst xs)/\RepsF KF Imm H xs ds
 | .dic ds=> ∃xs,H a=some (.dT xs)/\RepsK KF Imm H xs ds
 |_=>False
mutual
inductive Tree (KF:PySem.W.Frag) (H:Hp):V->Dv->List Addr->Prop
 |imm {v:V}{d:Dv}:RepF KF Imm H v d->Tree KF H v d []
 |lst {a:Addr}{xs:List V}{ds:List Dv}{F:List Addr}:H a=some (.lst xs)->aU KF H xs ds F->Tree KF H (.ref a) (.lst ds) (a::F)
 |dic {a:Addr}{xs:List (List Key×V)}{ds:List (List Key×Dv)}{F:List Addr}:H a=some (.dT xs)->ak KF H xs ds F->Tree KF H (.ref a) (.dic ds) (a::F)
 |dik {a:Addr}{xs:List (Key×V)}{ds:List (Key×Dv)}{F:List Addr}:H a=some (.dK xs)->ak KF H xs ds F->Tree KF H (.ref a) (.dik ds) (a::F)
 |ins {a C dx:Addr}{xs:List (Str×V)}{ds:List (Str×Dv)}{F:List Addr}:H a=some (.ins C dx xs)->ak KF H xs ds F->Tree KF H (.ref a) (.ins C ds) (a::F)
inductive aU (KF:PySem.W.Frag) (H:Hp):List V->List Dv->List Addr->Prop
 |nil:aU KF H [] [] []
 |cons {v:V}{vs:List V}{d:Dv}{ds:List Dv}{F G:List Addr}:Tree KF H v d F->aU KF H vs ds G->aU KF H (v::vs) (d::ds) (F++G)
inductive ak (KF:PySem.W.Frag) (H:Hp):{κ:Type}->List (κ×V)->List (κ×Dv)->List Addr->Prop
 |nil {κ:Type}:ak KF H ([]:List (κ×V)) [] []
 |cons {κ:Type}{k:κ}{v:V}{vs:List (κ×V)}{d:Dv}{ds:List (κ×Dv)}{F G:List Addr}:Tree KF H v d F->ak KF H vs ds G->ak KF H ((k,v)::vs) ((k,d)::ds) (F++G)
end
inductive Kd where
 |one|imm|frh|any|bor|dp
noncomputable def Got (KF:PySem.W.Frag) (k:Kd) (W:Addr->Prop) (H H':Hp) (v:V) (d:Dv):Prop:=match k with
 | .one=> ∃a,v= .ref a/\H a=none/\Cell KF H' a d
 | .dp=> ∃F:List Addr,F.Nodup/\(∀b∈F,H b=none)/\Tree KF H' v d F
 | .imm=>RepF KF Imm H' v d
 | .frh=>RepF KF (fun a=>H a=none) H' v d
 | .any=>RepF KF (fun a=> ¬W a) H' v d
 | .bor=>RepF KF (fun _=>True) H' v d
noncomputable def Sft (o:HO):Prop:=(∀xs,o≠ .tup xs)/\ ∀b u,o≠ .frz b u
noncomputable def AnyL (KF:PySem.W.Frag) (W:Addr->Prop) (H:Hp) (a:Addr) (d:Dv):Prop:= ∃xs ds,d= .lst ds/\H a=some (.lst xs)/\RepsF KF (fun b=> ¬W b) H xs ds
noncomputable def bd (KF:PySem.W.Frag) (ms:List Nat) (W:Addr->Prop) (H:Hp) (i:Nat) (a:Addr) (d:Dv) (F:List Addr):Prop:=(i∈ms/\F=[a]/\Cell KF H a d) \/(i∉ms/\i+1000∈ms/\Tree KF H (.ref a) d F) \/(i∉ms/\i+1000∉ms/\F=[a]/\AnyL KF W H a d)
structure Foot (KF:PySem.W.Frag) (ms:List Nat) (W:Addr->Prop) (H0:Hp) (δ:Dt) (σ:St) (H:Hp) (Φ:Nat->List Addr):Prop where
 wr: ∀i b,b∈Φ i->W b/\H0 b=none
 dj: ∀i j b,b∈Φ i->b∈Φ j->i=j
 nd: ∀i,(Φ i).Nodup
 at_: ∀i d,isOwn ms i=true->δ[i]?=some (some d)-> ∃a,σ[i]?=some (some (.ref a))/\bd KF ms W H i a d (Φ i)
structure Rel (KF:PySem.W.Frag) (ms:List Nat) (W:Addr->Prop) (H0:Hp) (δ:Dt) (σ:St) (H:Hp):Prop where
 len:σ.length=δ.length
 keep:Same H0 H
 soft: ∀a,W a-> ∃o,H a=some o/\Sft o
 get: ∀i d,isOwn ms i=false->δ[i]?=some (some d)-> ∃v,σ[i]?=some (some v)/\RepF KF (fun a=> ¬W a) H v d
 foot: ∃Φ,Foot KF ms W H0 δ σ H Φ
theorem Cell.there {H:Hp}{a:Addr}{d:Dv} (h:Cell KF H a d): ∃o,H a=some o/\Sft o:=by
 cases d with
 |lst ds=>obtain ⟨xs,h,_⟩:=h;exact ⟨_,h,fun _ z=>(nomatch z),fun _ _ z=>(nomatch z)⟩
 |dic ds=>obtain ⟨xs,h,_⟩:=h;exact ⟨_,h,fun _ z=>(nomatch z),fun _ _ z=>(nomatch z)⟩
 |_=>exact h.elim
theorem Cell.keep {H H':Hp}{a:Addr}{d:Dv} (h:Cell KF H a d) (e:aE Imm H H') (ha: ∀o,H a=some o->H' a=some o):Cell KF H' a d:=by
 cases d with
 |lst ds=>obtain ⟨xs,h,r⟩:=h;exact ⟨xs,ha _ h,r.keep e⟩
 |dic ds=>obtain ⟨xs,h,r⟩:=h;exact ⟨xs,ha _ h,r.keep e⟩
 |_=>exact h.elim
theorem Cell.same {H H':Hp}{a:Addr}{d:Dv} (h:Cell KF H a d) (e:Same H H'):Cell KF H' a d:=h.keep (.of e) fun o q=>e a o q
theorem Cell.rep {H:Hp}{a:Addr}{d:Dv}{S:Addr->Prop} (h:Cell KF H a d) (s:S a):RepF KF S H (.ref a) d:=by
 cases d with
 |lst ds=>obtain ⟨xs,h,r⟩:=h;exact .lst s h (r.mono fun _ _ z=>z.elim)
 |dic ds=>obtain ⟨xs,h,r⟩:=h;exact .dic s (.inl h) (r.mono fun _ _ z=>z.elim)
 |_=>exact h.elim
section
variable {ms:List Nat}{σ σ':St}{H0 H H1 H2:Hp}{δ:Dt}{v:V}{d:Dv}{k:Kd}
theorem Rel.own (R:Rel KF ms W H0 δ σ H) {a:Addr} (h:W a): ∃o,H a=some o/\Sft o:=R.soft a h
theorem Rel.fresh (R:Rel KF ms W H0 δ σ H) {a:Addr} (h:H a=none): ¬W a:=fun z=>by
 obtain ⟨o,e,_⟩:=R.own z
 rw [h] at e;cases e
theorem Tree.ind {m1:V->Dv->List Addr->Prop}{m2:List V->List Dv->List Addr->Prop}{m3:(κ:Type)->List (κ×V)->List (κ×Dv)->List Addr->Prop} (c1: ∀{v:V}{d:Dv},RepF KF Imm H v d->m1 v d [])
  (c2: ∀{a:Addr}{xs:List V}{ds:List Dv}{F:List Addr},H a=some (.lst xs)->m2 xs ds F->m1 (.ref a) (.lst ds) (a::F))
  (c3: ∀{a:Addr}{xs:List (List Key×V)}{ds:List (List Key×Dv)}{F:List Addr},H a=some (.dT xs)->m3 _ xs ds F->m1 (.ref a) (.dic ds) (a::F))
  (c4: ∀{a:Addr}{xs:List (Key×V)}{ds:List (Key×Dv)}{F:List Addr},H a=some (.dK xs)->m3 _ xs ds F->m1 (.ref a) (.dik ds) (a::F))
  (c5: ∀{a C dx:Addr}{xs:List (Str×V)}{ds:List (Str×Dv)}{F:List Addr},H a=some (.ins C dx xs)->m3 _ xs ds F->m1 (.ref a) (.ins C ds) (a::F))
  (c6:m2 [] [] []) (c7: ∀{v:V}{vs:List V}{d:Dv}{ds:List Dv}{F G:List Addr},m1 v d F->m2 vs ds G->m2 (v::vs) (d::ds) (F++G))
  (c8: ∀{κ:Type},m3 κ [] [] []) (c9: ∀{κ:Type}{k:κ}{v:V}{vs:List (κ×V)}{d:Dv}{ds:List (κ×Dv)}{F G:List Addr},m1 v d F->m3 κ vs ds G->m3 κ ((k,v)::vs) ((k,d)::ds) (F++G)):
  (∀{v:V}{d:Dv}{F:List Addr},Tree KF H v d F->m1 v d F)/\(∀{vs:List V}{ds:List Dv}{F:List Addr},aU KF H vs ds F->m2 vs ds F)/\ ∀{κ:Type}{vs:List (κ×V)}{ds:List (κ×Dv)}{F:List Addr},ak KF H vs ds F->m3 κ vs ds F:=
 ⟨fun t=>Tree.rec (motive_1:=fun v d F _=>m1 v d F) (motive_2:=fun v d F _=>m2 v d F) (motive_3:=fun {κ} v d F _=>m3 κ v d F) (fun r=>c1 r) (fun h _ f=>c2 h f) (fun h _ f=>c3 h f) (fun h _ f=>c4 h f) (fun h _ f=>c5 h f) c6 (fun _ _ f g=>c7 f g) c8 (fun _ _ f g=>c9 f g) t,
  fun t=>aU.rec (motive_1:=fun v d F _=>m1 v d F) (motive_2:=fun v d F _=>m2 v d F) (motive_3:=fun {κ} v d F _=>m3 κ v d F) (fun r=>c1 r) (fun h _ f=>c2 h f) (fun h _ f=>c3 h f) (fun h _ f=>c4 h f) (fun h _ f=>c5 h f) c6 (fun _ _ f g=>c7 f g) c8 (fun _ _ f g=>c9 f g) t,
  fun t=>ak.rec (motive_1:=fun v d F _=>m1 v d F) (motive_2:=fun v d F _=>m2 v d F) (motive_3:=fun {κ} v d F _=>m3 κ v d F) (fun r=>c1 r) (fun h _ f=>c2 h f) (fun h _ f=>c3 h f) (fun h _ f=>c4 h f) (fun h _ f=>c5 h f) c6 (fun _ _ f g=>c7 f g) c8 (fun _ _ f g=>c9 f g) t⟩
theorem m7 {xs:List V}:Sft (.lst xs):=⟨fun _ z=>(nomatch z),fun _ _ z=>(nomatch z)⟩
theorem m8 {xs:List (List Key×V)}:Sft (.dT xs):=⟨fun _ z=>(nomatch z),fun _ _ z=>(nomatch z)⟩
theorem m9 {xs:List (Key×V)}:Sft (.dK xs):=⟨fun _ z=>(nomatch z),fun _ _ z=>(nomatch z)⟩
theorem ng {C dx:Addr}{xs:List (Str×V)}:Sft (.ins C dx xs):=⟨fun _ z=>(nomatch z),fun _ _ z=>(nomatch z)⟩
noncomputable abbrev d5 (H H1:Hp) (F:List Addr):Prop:= ∀b∈F,∀o,H b=some o->Sft o->H1 b=some o
theorem iB (im: ∀{v:V}{d:Dv},RepF KF Imm H v d->RepF KF Imm H1 v d):(∀{v:V}{d:Dv}{F:List Addr},Tree KF H v d F->d5 H H1 F->Tree KF H1 v d F)/\(∀{vs:List V}{ds:List Dv}{F:List Addr},aU KF H vs ds F->d5 H H1 F->aU KF H1 vs ds F)/\ ∀{κ:Type}{vs:List (κ×V)}{ds:List (κ×Dv)}{F:List Addr},ak KF H vs ds F->d5 H H1 F->ak KF H1 vs ds F:=
 Tree.ind (m1:=fun v d F=>d5 H H1 F->Tree KF H1 v d F) (m2:=fun v d F=>d5 H H1 F->aU KF H1 v d F) (m3:=fun _ v d F=>d5 H H1 F->ak KF H1 v d F) (fun r _=> .imm (im r))
  (fun h r f=> .lst (f _ (List.mem_cons_self ..) _ h m7) (r fun b hb=>f b (List.mem_cons_of_mem _ hb))) (fun h r f=> .dic (f _ (List.mem_cons_self ..) _ h m8) (r fun b hb=>f b (List.mem_cons_of_mem _ hb)))
  (fun h r f=> .dik (f _ (List.mem_cons_self ..) _ h m9) (r fun b hb=>f b (List.mem_cons_of_mem _ hb))) (fun h r f=> .ins (f _ (List.mem_cons_self ..) _ h ng) (r fun b hb=>f b (List.mem_cons_of_mem _ hb)))
  (fun _=> .nil) (fun h r f=> .cons (h fun b hb=>f b (List.mem_append_left _ hb)) (r fun b hb=>f b (List.mem_append_right _ hb))) (fun _=> .nil) (fun h r f=> .cons (h fun b hb=>f b (List.mem_append_left _ hb)) (r fun b hb=>f b (List.mem_append_right _ hb)))
theorem Tree.keep (e:aE Imm H H1) {v:V}{d:Dv}{F:List Addr} (t:Tree KF H v d F) (f: ∀b∈F,∀o,H b=some o->H1 b=some o):Tree KF H1 v d F:=(iB fun r=>r.keep e).1 t fun b hb o h _=>f b hb o h
theorem aU.keep (e:aE Imm H H1) {v:List V}{d:List Dv}{F:List Addr} (t:aU KF H v d F) (f: ∀b∈F,∀o,H b=some o->H1 b=some o):aU KF H1 v d F:=(iB fun r=>r.keep e).2.1 t fun b hb o h _=>f b hb o h
theorem ak.keep (e:aE Imm H H1) {κ:Type}{v:List (κ×V)}{d:List (κ×Dv)}{F:List Addr} (t:ak KF H v d F) (f: ∀b∈F,∀o,H b=some o->H1 b=some o):ak KF H1 v d F:=(iB fun r=>r.keep e).2.2 t fun b hb o h _=>f b hb o h
theorem nh {S:Addr->Prop}:(∀{v:V}{d:Dv}{F:List Addr},Tree KF H v d F->(∀b∈F,S b)->RepF KF S H v d)/\(∀{vs:List V}{ds:List Dv}{F:List Addr},aU KF H vs ds F->(∀b∈F,S b)->RepsF KF S H vs ds)/\ ∀{κ:Type}{vs:List (κ×V)}{ds:List (κ×Dv)}{F:List Addr},ak KF H vs ds F->(∀b∈F,S b)->RepsK KF S H vs ds:=
 Tree.ind (m1:=fun v d F=>(∀b∈F,S b)->RepF KF S H v d) (m2:=fun v d F=>(∀b∈F,S b)->RepsF KF S H v d) (m3:=fun _ v d F=>(∀b∈F,S b)->RepsK KF S H v d) (fun r _=>r.mono fun _ _ z=>z.elim)
  (fun h r f=> .lst (f _ (List.mem_cons_self ..)) h (r fun b hb=>f b (List.mem_cons_of_mem _ hb))) (fun h r f=> .dic (f _ (List.mem_cons_self ..)) (.inl h) (r fun b hb=>f b (List.mem_cons_of_mem _ hb)))
  (fun h r f=> .dik (f _ (List.mem_cons_self ..)) (.inl h) (r fun b hb=>f b (List.mem_cons_of_mem _ hb))) (fun h r f=> .ins (f _ (List.mem_cons_self ..)) h (r fun b hb=>f b (List.mem_cons_of_mem _ hb)))
  (fun _=> .nil) (fun h r f=> .cons (h fun b hb=>f b (List.mem_append_left _ hb)) (r fun b hb=>f b (List.mem_append_right _ hb))) (fun _=> .nil) (fun h r f=> .cons (h fun b hb=>f b (List.mem_append_left _ hb)) (r fun b hb=>f b (List.mem_append_right _ hb)))
theorem Tree.rep {S:Addr->Prop}{v:V}{d:Dv}{F:List Addr} (t:Tree KF H v d F) (f: ∀b∈F,S b):RepF KF S H v d:=nh.1 t f
theorem ak.rep {S:Addr->Prop}{κ:Type}{v:List (κ×V)}{d:List (κ×Dv)}{F:List Addr} (t:ak KF H v d F) (f: ∀b∈F,S b):RepsK KF S H v d:=nh.2.2 t f
noncomputable abbrev bD (H:Hp) (F:List Addr):Prop:= ∀b∈F,∃o,H b=some o/\Sft o
theorem bD.cons {a:Addr}{F:List Addr}{o:HO} (h:H a=some o) (s:Sft o) (f:bD H F):bD H (a::F):=fun b hb=>(List.mem_cons.mp hb).elim (fun z=>z▸⟨o,h,s⟩) (f b)
theorem bD.app {F G:List Addr} (f:bD H F) (g:bD H G):bD H (F++G):=fun b hb=>(List.mem_append.mp hb).elim (f b) (g b)
theorem jT:(∀{v:V}{d:Dv}{F:List Addr},Tree KF H v d F->bD H F)/\(∀{vs:List V}{ds:List Dv}{F:List Addr},aU KF H vs ds F->bD H F)/\ ∀{κ:Type}{vs:List (κ×V)}{ds:List (κ×Dv)}{F:List Addr},ak KF H vs ds F->bD H F:=
 Tree.ind (m1:=fun _ _ F=>bD H F) (m2:=fun _ _ F=>bD H F) (m3:=fun _ _ _ F=>bD H F) (fun _ _ hb=>nomatch hb)
  (fun h r=>bD.cons h m7 r) (fun h r=>bD.cons h m8 r) (fun h r=>bD.cons h m9 r) (fun h r=>bD.cons h ng r) (fun _ hb=>nomatch hb) (fun f g=>f.app g) (fun _ hb=>nomatch hb) (fun f g=>f.app g)
theorem Tree.there {v:V}{d:Dv}{F:List Addr} (t:Tree KF H v d F): ∀b∈F,∃o,H b=some o/\Sft o:=jT.1 t
theorem aU.there {v:List V}{d:List Dv}{F:List Addr} (t:aU KF H v d F): ∀b∈F,∃o,H b=some o/\Sft o:=jT.2.1 t
theorem ak.there {κ:Type}{v:List (κ×V)}{d:List (κ×Dv)}{F:List Addr} (t:ak KF H v d F): ∀b∈F,∃o,H b=some o/\Sft o:=jT.2.2 t
theorem nj: ∀{xs:List V}{ds:List Dv},RepsF KF Imm H xs ds->aU KF H xs ds []
 |_,_,.nil=> .nil
 |_,_,.cons h r=> .cons (F:=[]) (G:=[]) (.imm h) (nj r)
theorem nq: ∀{xs:List (List Key×V)}{ds:List (List Key×Dv)},RepsK KF Imm H xs ds->ak KF H xs ds []
 |_,_,.nil=> .nil
 |_,_,.cons h r=> .cons (F:=[]) (G:=[]) (.imm h) (nq r)
theorem Cell.tree {a:Addr} (c:Cell KF H a d):Tree KF H (.ref a) d [a]:=by
 cases d with
 |lst ds=>obtain ⟨xs,h,r⟩:=c;exact .lst h (nj r)
 |dic ds=>obtain ⟨xs,h,r⟩:=c;exact .dic h (nq r)
 |_=>exact c.elim
theorem bd.keep {W':Addr->Prop}{i:Nat}{a:Addr}{F:List Addr} (h:bd KF ms W H i a d F) (e:aE (fun b=> ¬W b) H H1) (f: ∀b∈F,∀o,H b=some o->H1 b=some o) (g: ∀b,¬W b->H b≠none-> ¬W' b):bd KF ms W' H1 i a d F:=by
 have ei:aE Imm H H1:=e.mono fun _ z=>z.elim
 rcases h with ⟨m,ef,c⟩|⟨n,n3,r⟩|⟨n,n2,ef,xs,ds,rfl,h,r⟩
 ·subst ef;exact .inl ⟨m,rfl,c.keep ei (f a (List.mem_cons_self ..))⟩
 ·exact .inr (.inl ⟨n,n3,r.keep ei f⟩)
 ·subst ef
  refine .inr (.inr ⟨n,n2,rfl,xs,ds,rfl,f a (List.mem_cons_self ..) _ h,?_⟩)
  exact (RepsF.keep (S:=fun b=> ¬W b/\H b≠none) (e.mono fun _ z=>z.1) (r.mono fun _ h n=>⟨n,h⟩)).mono fun b _ z=>g b z.1 z.2
theorem bd.rep {i:Nat}{a:Addr}{F:List Addr}{S:Addr->Prop} (h:bd KF ms W H i a d F) (f: ∀b∈F,S b) (g: ∀b,¬W b->S b):RepF KF S H (.ref a) d:=by
 rcases h with ⟨m,ef,c⟩|⟨n,n3,r⟩|⟨n,n2,ef,xs,ds,rfl,h,r⟩
 ·subst ef;exact c.rep (f a (List.mem_cons_self ..))
 ·exact r.rep f
 ·subst ef;exact .lst (f a (List.mem_cons_self ..)) h (r.mono fun b _ z=>g b z)
theorem bd.there {i:Nat}{a:Addr}{F:List Addr} (h:bd KF ms W H i a d F): ∀b∈F,∃o,H b=some o/\Sft o:=by
 rcases h with ⟨m,ef,c⟩|⟨n,n3,r⟩|⟨n,n2,ef,xs,ds,rfl,h,r⟩
 ·subst ef
  intro b hb
  rw [List.mem_singleton.mp hb]
  exact c.there
 ·exact r.there
 ·subst ef
  intro b hb
  rw [List.mem_singleton.mp hb]
  exact ⟨_,h,fun _ z=>(nomatch z),fun _ _ z=>(nomatch z)⟩
theorem Rel.same (R:Rel KF ms W H0 δ σ H) (e:Same H H1):Rel KF ms W H0 δ σ H1:=by
 refine ⟨R.len,fun a o h=>e a o (R.keep a o h),fun a w=> ?_,fun i d n hd=> ?_,?_⟩
 ·obtain ⟨o,ho,so⟩:=R.soft a w
  exact ⟨o,e a o ho,so⟩
 ·obtain ⟨v,hv,r⟩:=R.get i d n hd
  exact ⟨v,hv,r.same e⟩
 ·obtain ⟨Φ,f⟩:=R.foot
  refine ⟨Φ,f.wr,f.dj,f.nd,fun i d n hd=> ?_⟩
  obtain ⟨a,ha,o⟩:=f.at_ i d n hd
  exact ⟨a,ha,o.keep (.of e) (fun b _ o h=>e b o h) fun _ z _=>z⟩
theorem Rel.any (R:Rel KF ms W H0 δ σ H) {i:Nat}{d:Dv} (hd:δ[i]?=some (some d)): ∃v,σ[i]?=some (some v)/\RepF KF (fun _=>True) H v d:=by
 cases n:isOwn ms i with
 |false=>
  obtain ⟨v,hv,r⟩:=R.get i d n hd
  exact ⟨v,hv,r.mono fun _ _ _=>trivial⟩
 |true=>
  obtain ⟨Φ,f⟩:=R.foot
  obtain ⟨a,ha,o⟩:=f.at_ i d n hd
  exact ⟨_,ha,o.rep (fun _ _=>trivial) fun _ _=>trivial⟩
theorem Got.same (g:Got KF k W H H1 v d) (e:Same H1 H2):Got KF k W H H2 v d:=by
 cases k with
 |dp=>obtain ⟨F,nd,h,c⟩:=g;exact ⟨F,nd,h,c.keep (.of e) fun b _ o z=>e b o z⟩
 |one=>obtain ⟨a,ea,h,c⟩:=g;exact ⟨a,ea,h,c.same e⟩
 |imm=>exact RepF.same e g
 |frh=>exact RepF.same e g
 |any=>exact RepF.same e g
 |bor=>exact RepF.same e g
theorem bE (e:Same H H1) {a:Addr} (h:H1 a=none):H a=none:=by
 cases q:H a with
 |none=>rfl
 |some o=>rw [e a o q] at h;cases h
theorem Got.back (g:Got KF k W H1 H2 v d) (e:Same H H1):Got KF k W H H2 v d:=by
 cases k with
 |dp=>obtain ⟨F,nd,h,c⟩:=g;exact ⟨F,nd,fun b hb=>bE e (h b hb),c⟩
 |one=>obtain ⟨a,ea,h,c⟩:=g;exact ⟨a,ea,bE e h,c⟩
 |imm=>exact g
 |frh=>exact RepF.mono (fun a _ h=>bE e h) g
 |any=>exact g
 |bor=>exact g
theorem Got.bor (g:Got KF k W H H1 v d):RepF KF (fun _=>True) H1 v d:=by
 cases k with
 |dp=>obtain ⟨F,nd,h,c⟩:=g;exact c.rep fun _ _=>trivial
 |one=>obtain ⟨a,ea,h,c⟩:=g;subst ea;exact c.rep trivial
 |imm=>exact RepF.mono (fun _ _ z=>z.elim) g
 |frh=>exact RepF.mono (fun _ _ z=>trivial) g
 |any=>exact RepF.mono (fun _ _ z=>trivial) g
 |bor=>exact g
inductive Kd.le:Kd->Kd->Prop
 |refl (k:Kd):Kd.le k k
 |one_frh:Kd.le .one .frh
 |one_any:Kd.le .one .any
 |imm_frh:Kd.le .imm .frh
 |imm_any:Kd.le .imm .any
 |frh_any:Kd.le .frh .any
 |bor (k:Kd):Kd.le k .bor
 |dp_frh:Kd.le .dp .frh
 |dp_any:Kd.le .dp .any
 |one_dp:Kd.le .one .dp
 |imm_dp:Kd.le .imm .dp
theorem Got.le (R:Rel KF ms W H0 δ σ H) {k':Kd} (l:Kd.le k k') (g:Got KF k W H H1 v d):Got KF k' W H H1 v d:=by
 cases l with
 |refl=>exact g
 |one_frh=>obtain ⟨a,ea,h,c⟩:=g;subst ea;exact c.rep h
 |one_any=>obtain ⟨a,ea,h,c⟩:=g;subst ea;exact c.rep (R.fresh h)
 |imm_frh=>exact RepF.mono (fun _ _ z=>z.elim) g
 |imm_any=>exact RepF.mono (fun _ _ z=>z.elim) g
 |frh_any=>exact RepF.mono (fun _ _ z=>R.fresh z) g
 |bor=>exact g.bor
 |dp_frh=>obtain ⟨F,nd,h,c⟩:=g;exact c.rep h
 |dp_any=>obtain ⟨F,nd,h,c⟩:=g;exact c.rep fun b hb=>R.fresh (h b hb)
 |one_dp=>
  obtain ⟨a,ea,h,c⟩:=g
  subst ea
  exact ⟨[a],by simp,fun b hb=>by rw [List.mem_singleton.mp hb];exact h,c.tree⟩
 |imm_dp=>exact ⟨[],List.nodup_nil,fun b hb=>(List.not_mem_nil hb).elim,.imm g⟩
theorem Got.imm (g:Got KF k W H H1 v d) (h:d.imm=true):RepF KF Imm H1 v d:=g.bor.imm h
end
noncomputable def DE (KF:PySem.W.Frag) (ms:List Nat) (k:Kd) (te:TE) (m:EM):Prop:=
 ∀{W:Addr->Prop} (δ:Dt) (σ:St) (H0 H:Hp) (Q:VK) (d:Dv),Rel KF ms W H0 δ σ H->m δ=some d->(∀v H',Same H H'->Got KF k W H H' v d->Q v H')->te σ H Q
noncomputable def PD (X:Cx) (ms:List Nat) (k:Kd) (e:Expr) (m:EM):Prop:= ∃te,PE X e te/\DE X.K ms k te m
noncomputable def DTs (KF:PySem.W.Frag) (ms:List Nat) (tt:TT) (m:Dt->Option Bool):Prop:=
 ∀{W:Addr->Prop} (δ:Dt) (σ:St) (H0 H:Hp) (Q:Bool->Hp->Prop) (b:Bool),Rel KF ms W H0 δ σ H->m δ=some b->(∀H',Same H H'->Q b H')->tt σ H Q
noncomputable def PDt (X:Cx) (ms:List Nat) (e:Expr) (m:Dt->Option Bool):Prop:= ∃tt,PT X e tt/\DTs X.K ms tt m
noncomputable def PDw (X:Cx) (ms:List Nat) (e:Expr) (m:Dt->Option Bool):Prop:= ∃tt,PW X e tt/\DTs X.K ms tt m
noncomputable def Gots (KF:PySem.W.Frag) (k:Kd) (W:Addr->Prop) (H H':Hp):List V->List Dv->Prop
 |[],[]=>True
 |v::vs,d::ds=>Got KF k W H H' v d/\Gots KF k W H H' vs ds
 |_,_=>False
noncomputable def DA (KF:PySem.W.Frag) (ms:List Nat) (k:Kd) (ta:TA) (m:Dt->Option (List Dv)):Prop:=
 ∀{W:Addr->Prop} (δ:Dt) (σ:St) (H0 H:Hp) (Q:List V->Hp->Prop) (ds:List Dv),Rel KF ms W H0 δ σ H->m δ=some ds->(∀vs H',Same H H'->Gots KF k W H H' vs ds->Q vs H')->ta σ H Q
noncomputable def PDa (X:Cx) (ms:List Nat) (k:Kd) (es:List Expr) (m:Dt->Option (List Dv)):Prop:= ∃ta,PA X es ta/\DA X.K ms k ta m
section
variable {ms:List Nat}{σ:St}{H H1 H2:Hp}{k:Kd}
theorem Gots.back: ∀{vs:List V}{ds:List Dv},Gots KF k W H1 H2 vs ds->Same H H1->Gots KF k W H H2 vs ds
 |[],[],_,_=>trivial
 |_::_,_::_,h,e=>⟨h.1.back e,Gots.back h.2 e⟩
 |[],_::_,h,_=>h.elim
 |_::_,[],h,_=>h.elim
theorem Gots.length: ∀{vs:List V}{ds:List Dv},Gots KF k W H H1 vs ds->vs.length=ds.length
 |[],[],_=>rfl
 |_::_,_::_,h=>congrArg (· +1) (Gots.length h.2)
 |[],_::_,h=>h.elim
 |_::_,[],h=>h.elim
theorem Gots.bor: ∀{vs:List V}{ds:List Dv},Gots KF k W H H1 vs ds->RepsF KF (fun _=>True) H1 vs ds
 |[],[],_=> .nil
 |_::_,_::_,h=> .cons h.1.bor (Gots.bor h.2)
 |[],_::_,h=>h.elim
 |_::_,[],h=>h.elim
theorem Gots.anys: ∀{vs:List V}{ds:List Dv},Gots KF .any W H H1 vs ds->RepsF KF (fun a=> ¬W a) H1 vs ds
 |[],[],_=> .nil
 |_::_,_::_,h=> .cons h.1 (Gots.anys h.2)
 |[],_::_,h=>h.elim
 |_::_,[],h=>h.elim
theorem Gots.frhs: ∀{vs:List V}{ds:List Dv},Gots KF .frh W H H1 vs ds->RepsF KF (fun a=>H a=none) H1 vs ds
 |[],[],_=> .nil
 |_::_,_::_,h=> .cons h.1 (Gots.frhs h.2)
 |[],_::_,h=>h.elim
 |_::_,[],h=>h.elim
theorem Gots.imms: ∀{vs:List V}{ds:List Dv},Gots KF .imm W H H1 vs ds->RepsF KF Imm H1 vs ds
 |[],[],_=> .nil
 |_::_,_::_,h=> .cons h.1 (Gots.imms h.2)
 |[],_::_,h=>h.elim
 |_::_,[],h=>h.elim
end
noncomputable def eVar (i:Nat):EM:=fun δ=>(δ[i]?).join
noncomputable def eC (d:Dv):EM:=fun _=>some d
noncomputable def eOp (f:Dv->Dv->Option Dv) (a b:EM):EM:=fun δ=>(a δ).bind fun x=>(b δ).bind fun y=>f x y
noncomputable def eUn (f:Dv->Option Dv) (a:EM):EM:=fun δ=>(a δ).bind f
noncomputable def eImm (a:EM):EM:=fun δ=>(a δ).bind fun x=>if x.imm=true then some x else none
noncomputable def eAnd (a b:EM):EM:=fun δ=>(a δ).bind fun x=>match x with
 | .bl true=>b δ
 | .bl false=>some (.bl false)
 |_=>none
noncomputable def eOr (a b:EM):EM:=fun δ=>(a δ).bind fun x=>match x with
 | .bl true=>some (.bl true)
 | .bl false=>b δ
 |_=>none
noncomputable def eIf (c:Dt->Option Bool) (a b:EM):EM:=fun δ=>(c δ).bind fun x=>if x=true then a δ else b δ
noncomputable def nv:Dv->Option Bool
 | .bl b=>some b
 |_=>none
noncomputable def tOf (a:EM):Dt->Option Bool:=fun δ=>(a δ).bind nv
noncomputable def tyes:Dt->Option Bool:=fun _=>some true
noncomputable def tnot (a:Dt->Option Bool):Dt->Option Bool:=fun δ=>(a δ).map (!·)
noncomputable def tand (a b:Dt->Option Bool):Dt->Option Bool:=fun δ=>(a δ).bind fun x=>if x=true then b δ else some false
noncomputable def tor (a b:Dt->Option Bool):Dt->Option Bool:=fun δ=>(a δ).bind fun x=>if x=true then some true else b δ
noncomputable def aNil:Dt->Option (List Dv):=fun _=>some []
noncomputable def ad (a:EM) (r:Dt->Option (List Dv)):Dt->Option (List Dv):=fun δ=>(a δ).bind fun x=>(r δ).bind fun xs=>some (x::xs)
noncomputable def lim:Nat:=100000
theorem dJ {n:Nat} (h:n<=lim):n<sizeLine:=Nat.lt_of_le_of_lt h (by decide)
noncomputable def eTup (a:Dt->Option (List Dv)):EM:=fun δ=>(a δ).bind fun xs=>if xs.length<=lim then some (.tup xs) else none
noncomputable def eLst (a:Dt->Option (List Dv)):EM:=fun δ=>(a δ).bind fun xs=>if xs.length<=lim then some (.lst xs) else none
noncomputable def be (a:Dt->Option (List Dv)):EM:=fun δ=>(a δ).bind fun xs=>if xs.length<=lim/\imms xs=true then some (.lst xs) else none
noncomputable def dAdd:Dv->Dv->Option Dv
 | .int i,.int j=>some (.int (i+j))
 |_,_=>none
noncomputable def dSub:Dv->Dv->Option Dv
 | .int i,.int j=>some (.int (i-j))
 |_,_=>none
noncomputable def bU (i j:Int):Bool:=decide (i.natAbs<2^64)||decide (j.natAbs<2^64)||(decide (i.natAbs<2^2048)&&decide (j.natAbs<2^2048))
noncomputable def dMul:Dv->Dv->Option Dv
 | .int i,.int j=>if bU i j=true then some (.int (i*j)) else none
 |_,_=>none
noncomputable def dDiv:Dv->Dv->Option Dv
 | .int i,.int j=>if 0<j/\j<1073741824 then some (.int (i/j)) else none
 |_,_=>none
noncomputable def dMod:Dv->Dv->Option Dv
 | .int i,.int j=>if 0<j then some (.int (i%j)) else none
 |_,_=>none
noncomputable def dPow:Dv->Dv->Option Dv
 | .int i,.int j=>if 0<=j/\j<=1000/\i.natAbs<2^2048 then some (.int (i^j.toNat)) else none
 |_,_=>none
noncomputable def dNeg:Dv->Option Dv
 | .int i=>some (.int (-i))
 |_=>none
noncomputable def dNot:Dv->Option Dv
 | .bl b=>some (.bl (!b))
 |_=>none
noncomputable def dLt:Dv->Dv->Option Dv
 | .int i,.int j=>some (.bl (decide (i<j)))
 |_,_=>none
noncomputable def dLe:Dv->Dv->Option Dv
 | .int i,.int j=>some (.bl (decide (i<=j)))
 |_,_=>none
noncomputable def dGt:Dv->Dv->Option Dv
 | .int i,.int j=>some (.bl (decide (j<i)))
 |_,_=>none
noncomputable def dGe:Dv->Dv->Option Dv
 | .int i,.int j=>some (.bl (decide (j<=i)))
 |_,_=>none
noncomputable def dEq (x y:Dv):Option Dv:=if eqOk x y=true then some (.bl (PyData.eqv x.toPy y.toPy)) else none
noncomputable def dNe (x y:Dv):Option Dv:=if eqOk x y=true then some (.bl (!PyData.eqv x.toPy y.toPy)) else none
noncomputable def dIx:Dv->Dv->Option Dv
 | .lst xs,.int i=>atI xs i
 | .scr ns,.int i=>(atI ns i).map .int
 | .tup xs,.int i=>atI xs i
 |_,_=>none
noncomputable def dLen:Dv->Option Dv
 | .lst xs=>some (.int xs.length)
 | .scr xs=>some (.int xs.length)
 | .tup xs=>some (.int xs.length)
 |_=>none
noncomputable def dCat:Dv->Dv->Option Dv
 | .lst xs,.lst ys=>if xs.length+ys.length<=lim then some (.lst (xs++ys)) else none
 |_,_=>none
section
variable {X:Cx}{ms:List Nat}{k k':Kd}{e a b:Expr}{m ma mb:EM}{pos:Pos}
theorem PD.le (h:PD X ms k e m) (l:Kd.le k k'):PD X ms k' e m:=by
 obtain ⟨te,p,q⟩:=h
 exact ⟨te,p,fun δ σ H0 H Q d R hm hq=>q δ σ H0 H Q d R hm fun v H' s g=>hq v H' s (g.le R l)⟩
theorem gj (h:PD X ms k e m):PD X ms .imm e (eImm m):=by
 obtain ⟨te,p,q⟩:=h
 refine ⟨te,p,fun δ σ H0 H Q d R hm hq=> ?_⟩
 obtain ⟨x,hx,e⟩:=Option.bind_eq_some_iff.mp hm
 split at e
 ·next h=>cases e;exact q δ σ H0 H Q _ R hx fun v H' s g=>hq v H' s (g.imm h)
 ·cases e
theorem PE.pd_c {v:V}{d:Dv} (h:PE X e (tC v)) (r: ∀H,RepF X.K Imm H v d):PD X ms .imm e (eC d):=
 ⟨_,h,fun δ σ H0 H Q d' R hm hq=>by cases hm;exact hq v H (fun _ _ z=>z) (r H)⟩
theorem af {i j}:PD X ms .imm (.Constant (.int i) j pos) (eC (.int i)):=PE.pd_c qY fun _=> .int i
theorem cw {i j}:PD X ms .imm (.Constant (.bool i) j pos) (eC (.bl i)):=PE.pd_c qZ fun _=> .bl i
theorem aQ {i:Nat}{δ:Dt}{d:Dv} (h:eVar i δ=some d):δ[i]?=some (some d):=by
 unfold eVar at h
 cases e:δ[i]? with
 |none=>rw [e] at h;cases h
 |some o=>rw [e] at h;cases o with
  |none=>cases h
  |some x=>cases h;rfl
theorem aa (i:Nat) {x:Str} (hi:isOwn ms i=false) (h:PE X (.Name x pos) (tVar i)):PD X ms .any (.Name x pos) (eVar i):=by
 refine ⟨_,h,fun δ σ H0 H Q d R hm hq=> ?_⟩
 obtain ⟨v,hv,r⟩:=R.get i d hi (aQ hm)
 exact ⟨v,hv,hq v H (fun _ _ z=>z) r⟩
theorem bf (i:Nat) {x:Str} (h:PE X (.Name x pos) (tVar i)):PD X ms .bor (.Name x pos) (eVar i):=by
 refine ⟨_,h,fun δ σ H0 H Q d R hm hq=> ?_⟩
 obtain ⟨v,hv,r⟩:=R.any (aQ hm)
 exact ⟨v,hv,hq v H (fun _ _ z=>z) r⟩
noncomputable def OpD (KF:PySem.W.Frag) (r:R2) (f:Dv->Dv->Option Dv):Prop:=
 ∀(H:Hp) (x y:V) (dx dy d:Dv) (Q:VK),RepF KF (fun _=>True) H x dx->RepF KF (fun _=>True) H y dy->f dx dy=some d->(∀v,RepF KF Imm H v d->Q v H)->r x y H Q
theorem jU {r:R2}{f:Dv->Dv->Option Dv}{ta tb:TE}{k1 k2:Kd} (hf:OpD KF r f) (ha:DE KF ms k1 ta ma) (hb:DE KF ms k2 tb mb):DE KF ms .imm (tOp r ta tb) (eOp f ma mb):=by
 intro W δ σ H0 H Q d R hm hq
 obtain ⟨x,hx,e⟩:=Option.bind_eq_some_iff.mp hm
 obtain ⟨y,hy,e⟩:=Option.bind_eq_some_iff.mp e
 refine ha δ σ H0 H _ x R hx fun v H1 s1 g1=> ?_
 refine hb δ σ H0 H1 _ y (R.same s1) hy fun u H2 s2 g2=> ?_
 exact hf H2 v u x y d Q (g1.same s2).bor g2.bor e fun z rz=>hq z H2 (fun a o h=>s2 a o (s1 a o h)) rz
theorem aq {op:Operator}{r:R2}{f:Dv->Dv->Option Dv}{k1 k2:Kd} (ho:OpR X (binaryOp op) r) (hf:OpD X.K r f) (ha:PD X ms k1 a ma) (hb:PD X ms k2 b mb):PD X ms .imm (.BinOp a op b pos) (eOp f ma mb):=by
 obtain ⟨ta,pa,qa⟩:=ha
 obtain ⟨tb,pb,qb⟩:=hb
 exact ⟨_,jE ho pa pb,jU hf qa qb⟩
theorem uy {op:CmpOp}{r:R2}{f:Dv->Dv->Option Dv}{k1 k2:Kd} (ho:OpR X (compareOp op) r) (hf:OpD X.K r f) (ha:PD X ms k1 a ma) (hb:PD X ms k2 b mb) (hm:behindInMarks op b=false):PD X ms .imm (.Compare a [op] [b] pos) (eOp f ma mb):=by
 obtain ⟨ta,pa,qa⟩:=ha
 obtain ⟨tb,pb,qb⟩:=hb
 exact ⟨_,rX ho pa pb hm,jU hf qa qb⟩
theorem aW {op:CmpOp}{r:R2}{f:Dv->Dv->Option Dv}{k1 k2:Kd} (ho:OpR X (compareOp op) r) (hf:OpD X.K r f) (ha:PD X ms k1 a ma) (hb:PD X ms k2 b mb) (hm:behindInMarks op b=false):PDt X ms (.Compare a [op] [b] pos) (tOf (eOp f ma mb)):=by
 obtain ⟨ta,pa,qa⟩:=ha
 obtain ⟨tb,pb,qb⟩:=hb
 refine ⟨_,rZ ho pa pb hm,fun δ σ H0 H Q c R hm hq=> ?_⟩
 obtain ⟨x,hx,e⟩:=Option.bind_eq_some_iff.mp hm
 refine jU hf qa qb δ σ H0 H _ x R hx fun v H' s g=> ?_
 cases x with
 |bl z=>cases e;cases g;exact ⟨_,rfl,hq H' s⟩
 |_=>cases e
theorem cA:OpD KF (rI0 fun i j=> .int (i+j)) dAdd:=by
 intro H x y dx dy d Q rx ry h hq
 unfold dAdd at h
 split at h
 ·cases h;cases rx;cases ry;exact ⟨_,_,rfl,rfl,hq _ (.int _)⟩
 ·cases h
theorem gm:OpD KF (rI0 fun i j=> .int (i-j)) dSub:=by
 intro H x y dx dy d Q rx ry h hq
 unfold dSub at h
 split at h
 ·cases h;cases rx;cases ry;exact ⟨_,_,rfl,rfl,hq _ (.int _)⟩
 ·cases h
theorem nA:OpD KF (rI0 fun i j=> .bl (decide (i<=j))) dLe:=by
 intro H x y dx dy d Q rx ry h hq
 unfold dLe at h
 split at h
 ·cases h;cases rx;cases ry;exact ⟨_,_,rfl,rfl,hq _ (.bl _)⟩
 ·cases h
theorem iC:OpD KF (rI0 fun i j=> .bl (decide (j<i))) dGt:=by
 intro H x y dx dy d Q rx ry h hq
 unfold dGt at h
 split at h
 ·cases h;cases rx;cases ry;exact ⟨_,_,rfl,rfl,hq _ (.bl _)⟩
 ·cases h
theorem br:OpD KF (rI (fun _ j=>0<j) fun i j=> .int (i%j)) dMod:=by
 intro H x y dx dy d Q rx ry h hq
 unfold dMod at h
 split at h
 rotate_left
 ·cases h
 cases rx
 cases ry
 split at h
 ·next c=>cases h;exact ⟨_,_,rfl,rfl,c,hq _ (.int _)⟩
 ·cases h
theorem gp:OpD KF (rI CDiv fun i j=> .int (i/j)) dDiv:=by
 intro H x y dx dy d Q rx ry h hq
 unfold dDiv at h
 split at h
 rotate_left
 ·cases h
 cases rx
 cases ry
 split at h
 ·next c=>cases h;exact ⟨_,_,rfl,rfl,c,hq _ (.int _)⟩
 ·cases h
theorem de:OpD KF (rEqF KF) dEq:=by
 intro H x y dx dy d Q rx ry h hq
 unfold dEq at h
 split at h
 ·next c=>cases h;exact ⟨_,_,rx,ry,c,hq _ (.bl _)⟩
 ·cases h
theorem dL:OpD KF (rNeF KF) dNe:=by
 intro H x y dx dy d Q rx ry h hq
 unfold dNe at h
 split at h
 ·next c=>cases h;exact ⟨_,_,rx,ry,c,hq _ (.bl _)⟩
 ·cases h
theorem jV {i:Int}{n:Nat} (h:i.natAbs<2^n):Builtin.Int.intBits i<=n:=by
 unfold Builtin.Int.intBits
 split
 ·exact Nat.zero_le _
 ·next h0=>
  have hn:i.natAbs≠0:=fun z=>h0 (by simpa using z)
  exact (Nat.log2_lt hn).mpr h
theorem uz {i j:Int} (h:bU i j=true):IntMulOk i j:=by
 unfold bU at h
 rw [Bool.or_eq_true,Bool.or_eq_true,Bool.and_eq_true] at h
 rcases h with (h|h)|⟨h1,h2⟩
 ·have:=of_decide_eq_true h
  exact (CMul.ok (.inl ⟨by lia,by lia⟩))
 ·have:=of_decide_eq_true h
  exact (CMul.ok (.inr ⟨by lia,by lia⟩))
 ·have h1:=of_decide_eq_true h1
  have h2:=of_decide_eq_true h2
  have b1:=jV h1
  have b2:=jV h2
  exact IntMulOk.of_bits (Nat.le_trans b1 (by decide)) (Nat.le_trans b2 (by decide))
theorem cM:OpD KF (rI mZ fun i j=> .int (i*j)) dMul:=by
 intro H x y dx dy d Q rx ry h hq
 unfold dMul at h
 split at h
 rotate_left
 ·cases h
 cases rx
 cases ry
 split at h
 ·next c=>cases h;exact ⟨_,_,rfl,rfl,uz c,hq _ (.int _)⟩
 ·cases h
theorem gq:OpD KF (rI mY fun i j=> .int (i^j.toNat)) dPow:=by
 intro H x y dx dy d Q rx ry h hq
 unfold dPow at h
 split at h
 rotate_left
 ·cases h
 cases rx
 cases ry
 split at h
 ·next c=>
  cases h
  refine ⟨_,_,rfl,rfl,⟨c.1,?_⟩,hq _ (.int _)⟩
  have b:=jV c.2.2
  refine Int.le_trans (Int.mul_le_mul (Int.ofNat_le.mpr b) c.2.1 c.1 (by decide)) (by decide)
 ·cases h
theorem uA {op:UnaryOp}{r:V->Hp->VK->Prop}{f:Dv->Option Dv} (ho:UnR X (unaryOp op) r) (hf: ∀(H:Hp) (x:V) (dx d:Dv) (Q:VK),RepF X.K (fun _=>True) H x dx->f dx=some d->(∀v,RepF X.K Imm H v d->Q v H)->r x H Q)
  (ha:PD X ms k a ma):PD X ms .imm (.UnaryOp op a pos) (eUn f ma):=by
 obtain ⟨ta,pa,qa⟩:=ha
 refine ⟨_,rV ho pa,fun δ σ H0 H Q d R hm hq=> ?_⟩
 obtain ⟨x,hx,e⟩:=Option.bind_eq_some_iff.mp hm
 refine qa δ σ H0 H _ x R hx fun v H1 s1 g1=> ?_
 exact hf H1 v x d Q g1.bor e fun z rz=>hq z H1 s1 rz
theorem d6 (ha:PD X ms k a ma):PD X ms .imm (.UnaryOp .USub a pos) (eUn dNeg ma):=uA rW (fun H x dx d Q rx h hq=>by
 cases rx<;>simp only [dNeg] at h<;>first|cases h|skip
 exact ⟨_,rfl,hq _ (.int _)⟩) ha
theorem uB (ha:PD X ms k a ma):PD X ms .imm (.UnaryOp .Not a pos) (eUn dNot ma):=by
 obtain ⟨ta,pa,qa⟩:=ha
 refine ⟨_,rp pa,fun δ σ H0 H Q d R hm hq=> ?_⟩
 obtain ⟨x,hx,e⟩:=Option.bind_eq_some_iff.mp hm
 refine qa δ σ H0 H _ x R hx fun v H1 s1 g1=> ?_
 have g:=g1.bor
 cases g<;>simp only [dNot] at e<;>first|cases e|skip
 exact ⟨_,rfl,hq _ _ s1 (RepF.bl _)⟩
theorem uC {op} (h:PD X ms k a ma):PD X ms k (.BoolOp op [a] pos) ma:=by
 obtain ⟨ta,pa,qa⟩:=h
 exact ⟨ta,rm pa,qa⟩
theorem uD {rest:List Expr}{k2:Kd} (ha:PD X ms k a ma) (hb:PD X ms k2 (.BoolOp .And (b::rest) pos) mb):PD X ms .bor (.BoolOp .And (a::b::rest) pos) (eAnd ma mb):=by
 obtain ⟨ta,pa,qa⟩:=ha
 obtain ⟨tb,pb,qb⟩:=hb
 refine ⟨_,ro pa pb,fun δ σ H0 H Q d R hm hq=> ?_⟩
 obtain ⟨x,hx,e⟩:=Option.bind_eq_some_iff.mp hm
 refine qa δ σ H0 H _ x R hx fun v H1 s1 g1=> ?_
 have g:=g1.bor
 cases g with
 |bl c=>
  refine ⟨c,rfl,?_⟩
  cases c with
  |true=>exact qb δ σ H0 H1 _ d (R.same s1) e fun u H2 s2 g2=>hq u H2 (fun a o h=>s2 a o (s1 a o h)) g2.bor
  |false=>cases e;exact hq _ H1 s1 (.bl false)
 |_=>cases e
theorem d7 (h:PD X ms k e m) (he: ∀whole,isTrue e X.env whole=(do let v<-whole;standAt e.pos;holding [v] (truthy v)):=by intro _;rfl):PDt X ms e (tOf m):=by
 obtain ⟨te,pe,qe⟩:=h
 refine ⟨_,lL pe he,fun δ σ H0 H Q c R hm hq=> ?_⟩
 obtain ⟨x,hx,e⟩:=Option.bind_eq_some_iff.mp hm
 refine qe δ σ H0 H _ x R hx fun v H' s g=> ?_
 have g:=g.bor
 cases g with
 |bl z=>cases e;exact ⟨_,rfl,hq H' s⟩
 |_=>cases e
variable {ta' tb':Dt->Option Bool}
theorem d8 (h:PDt X ms a ta'):PDt X ms (.UnaryOp .Not a pos) (tnot ta'):=by
 obtain ⟨t,p,q⟩:=h
 refine ⟨_,lP p,fun δ σ H0 H Q c R hm hq=> ?_⟩
 obtain ⟨x,hx,e⟩:=Option.map_eq_some_iff.mp hm
 subst e
 exact q δ σ H0 H _ x R hx fun H' s=>hq H' s
theorem jW (h:PDt X ms a ta'):PDw X ms (.BoolOp .And [a] pos) ta':=by
 obtain ⟨t,p,q⟩:=h
 exact ⟨t,rg p,q⟩
theorem iE (h:PDt X ms a ta'):PDw X ms (.BoolOp .Or [a] pos) ta':=by
 obtain ⟨t,p,q⟩:=h
 exact ⟨t,lM p,q⟩
theorem jX {rest:List Expr} (h:PDt X ms a ta') (hb:PDw X ms (.BoolOp .And (b::rest) pos) tb'):PDw X ms (.BoolOp .And (a::b::rest) pos) (tand ta' tb'):=by
 obtain ⟨t,p,q⟩:=h
 obtain ⟨u,p2,q2⟩:=hb
 refine ⟨_,rh p p2,fun δ σ H0 H Q c R hm hq=> ?_⟩
 obtain ⟨x,hx,e⟩:=Option.bind_eq_some_iff.mp hm
 refine q δ σ H0 H _ x R hx fun H1 s1=> ?_
 cases x with
 |true=>exact q2 δ σ H0 H1 _ c (R.same s1) e fun H2 s2=>hq H2 fun a o h=>s2 a o (s1 a o h)
 |false=>cases e;exact hq H1 s1
theorem gr {rest:List Expr} (h:PDt X ms a ta') (hb:PDw X ms (.BoolOp .Or (b::rest) pos) tb'):PDw X ms (.BoolOp .Or (a::b::rest) pos) (tor ta' tb'):=by
 obtain ⟨t,p,q⟩:=h
 obtain ⟨u,p2,q2⟩:=hb
 refine ⟨_,lO p p2,fun δ σ H0 H Q c R hm hq=> ?_⟩
 obtain ⟨x,hx,e⟩:=Option.bind_eq_some_iff.mp hm
 refine q δ σ H0 H _ x R hx fun H1 s1=> ?_
 cases x with
 |false=>exact q2 δ σ H0 H1 _ c (R.same s1) e fun H2 s2=>hq H2 fun a o h=>s2 a o (s1 a o h)
 |true=>cases e;exact hq H1 s1
theorem PDw.pt (h:PDw X ms a ta'):PDt X ms a ta':=by
 obtain ⟨t,p,q⟩:=h
 exact ⟨t,p.pt,q⟩
variable {es:List Expr}{ml:Dt->Option (List Dv)}
theorem ai:PDa X ms k [] aNil:=⟨_,cY,fun δ σ H0 H Q ds R hm hq=>by cases hm;exact hq [] H (fun _ _ z=>z) trivial⟩
theorem ae (ha:PD X ms k a ma) (hr:PDa X ms k es ml) (hs:starEach (a::es) X.env=(false,eval a X.env)::starEach es X.env:=by rfl):PDa X ms k (a::es) (ad ma ml):=by
 obtain ⟨ta,pa,qa⟩:=ha
 obtain ⟨tr,pr,qr⟩:=hr
 refine ⟨_,bK pa pr hs,fun δ σ H0 H Q ds R hm hq=> ?_⟩
 obtain ⟨x,hx,e⟩:=Option.bind_eq_some_iff.mp hm
 obtain ⟨xs,hxs,e⟩:=Option.bind_eq_some_iff.mp e
 cases e
 refine qa δ σ H0 H _ x R hx fun v H1 s1 g1=> ?_
 refine qr δ σ H0 H1 _ xs (R.same s1) hxs fun vs H2 s2 g2=> ?_
 exact hq (v::vs) H2 (fun a o h=>s2 a o (s1 a o h)) ⟨g1.same s2,g2.back s1⟩
theorem Same.new {H:Hp}{p:Addr}{o:HO} (h:H p=none):Same H (L2.upd H p o):=Same.upd h
theorem bM {x1} (h:PDa X ms k es ml) (hk:k= .imm \/k= .frh \/k= .any \/k= .bor):PD X ms k (.Tuple es x1 pos) (eTup ml):=by
 obtain ⟨t,p,q⟩:=h
 refine ⟨_,sE p,fun δ σ H0 H Q d R hm hq=> ?_⟩
 obtain ⟨xs,hx,e⟩:=Option.bind_eq_some_iff.mp hm
 split at e
 ·next hl=>
  cases e
  refine q δ σ H0 H _ xs R hx fun vs H1 s1 g1=>⟨?_,fun p hp=> ?_⟩
  ·rw [g1.length];exact Nat.le_of_lt (dJ hl)
  ·have s2:=Same.new (o:= .tup vs) hp
   refine hq _ _ (fun a o h=>s2 a o (s1 a o h)) ?_
   rcases hk with rfl|rfl|rfl|rfl
   ·exact .tup ay (g1.imms.same s2)
   ·exact .tup ay (g1.frhs.same s2)
   ·exact .tup ay (g1.anys.same s2)
   ·exact .tup ay (g1.bor.same s2)
 ·cases e
theorem df (h:PDa X ms k es ml):PD X ms .one (.List es pos) (be ml):=by
 obtain ⟨t,p,q⟩:=h
 refine ⟨_,sF p,fun δ σ H0 H Q d R hm hq=> ?_⟩
 obtain ⟨xs,hx,e⟩:=Option.bind_eq_some_iff.mp hm
 split at e
 ·next hl=>
  cases e
  refine q δ σ H0 H _ xs R hx fun vs H1 s1 g1=>⟨?_,fun p hp=> ?_⟩
  ·rw [g1.length];exact Nat.le_of_lt (dJ hl.1)
  ·have s2:=Same.new (o:= .lst vs) hp
   exact hq _ _ (fun a o h=>s2 a o (s1 a o h)) ⟨p,rfl,bE s1 hp,vs,ay,(g1.bor.imm hl.2).same s2⟩
 ·cases e
end
end L2
set_option maxHeartbeats 4000000
namespace L2
open PySem PySem.Spec PyProof.Rows
variable {KF:PySem.W.Frag}{W W':Addr->Prop}
theorem Same.tr {H H1 H2:Hp} (a:Same H H1) (b:Same H1 H2):Same H H2:=fun x o h=>b x o (a x o h)
noncomputable def ixKd:Kd->Kd
 | .one=> .imm
 | .dp=> .frh
 |k=>k
section
variable {ms:List Nat}{σ:St}{H H1 H2:Hp}{k:Kd}
theorem RepsF.gots_imm: ∀{xs:List V}{ds:List Dv},RepsF KF Imm H1 xs ds->Gots KF .imm W H H1 xs ds
 |_,_,.nil=>trivial
 |_,_,.cons h r=>⟨h,RepsF.gots_imm r⟩
theorem RepsF.gots_frh: ∀{xs:List V}{ds:List Dv},RepsF KF (fun a=>H a=none) H1 xs ds->Gots KF .frh W H H1 xs ds
 |_,_,.nil=>trivial
 |_,_,.cons h r=>⟨h,RepsF.gots_frh r⟩
theorem RepsF.gots_any: ∀{xs:List V}{ds:List Dv},RepsF KF (fun a=> ¬W a) H1 xs ds->Gots KF .any W H H1 xs ds
 |_,_,.nil=>trivial
 |_,_,.cons h r=>⟨h,RepsF.gots_any r⟩
theorem RepsF.gots_bor: ∀{xs:List V}{ds:List Dv},RepsF KF (fun _=>True) H1 xs ds->Gots KF .bor W H H1 xs ds
 |_,_,.nil=>trivial
 |_,_,.cons h r=>⟨h,RepsF.gots_bor r⟩
theorem Got.lst {v:V}{ds:List Dv} (g:Got KF k W H H1 v (.lst ds)): ∃a xs,v= .ref a/\H1 a=some (.lst xs)/\Gots KF (ixKd k) W H H1 xs ds:=by
 cases k with
 |one=>obtain ⟨a,rfl,_,xs,e,r⟩:=g;exact ⟨a,xs,rfl,e,r.gots_imm⟩
 |dp=>
  obtain ⟨F,nd,h,c⟩:=g
  cases c.rep h with
  |lst s h r=>exact ⟨_,_,rfl,h,r.gots_frh⟩
 |imm=>cases g with|lst s h r=>exact s.elim
 |frh=>cases g with|lst s h r=>exact ⟨_,_,rfl,h,r.gots_frh⟩
 |any=>cases g with|lst s h r=>exact ⟨_,_,rfl,h,r.gots_any⟩
 |bor=>cases g with|lst s h r=>exact ⟨_,_,rfl,h,r.gots_bor⟩
theorem Got.tup {v:V}{ds:List Dv} (g:Got KF k W H H1 v (.tup ds)): ∃a xs,v= .ref a/\H1 a=some (.tup xs)/\Gots KF (ixKd k) W H H1 xs ds:=by
 cases k with
 |one=>obtain ⟨a,rfl,_,c⟩:=g;exact c.elim
 |dp=>
  obtain ⟨F,nd,h,c⟩:=g
  cases c.rep h with
  |tup h r=>exact ⟨_,_,rfl,h,r.gots_frh⟩
 |imm=>cases g with|tup h r=>exact ⟨_,_,rfl,h,r.gots_imm⟩
 |frh=>cases g with|tup h r=>exact ⟨_,_,rfl,h,r.gots_frh⟩
 |any=>cases g with|tup h r=>exact ⟨_,_,rfl,h,r.gots_any⟩
 |bor=>cases g with|tup h r=>exact ⟨_,_,rfl,h,r.gots_bor⟩
theorem uE {v:V}{d:Dv} (r:RepF KF Imm H1 v d):Got KF (ixKd k) W H H1 v d:=by
 cases k with
 |one=>exact r
 |dp=>exact r.mono fun _ _ z=>z.elim
 |imm=>exact r
 |frh=>exact r.mono fun _ _ z=>z.elim
 |any=>exact r.mono fun _ _ z=>z.elim
 |bor=>exact r.mono fun _ _ z=>z.elim
theorem Gots.get: ∀{xs:List V}{ds:List Dv}{j:Nat}{d:Dv},Gots KF k W H H1 xs ds->ds[j]?=some d-> ∃u,xs[j]?=some u/\Got KF k W H H1 u d
 |[],[],_,_,_,e=>by simp at e
 |x::_,_::_,0,_,g,e=>by simp at e;subst e;exact ⟨x,rfl,g.1⟩
 |_::_,_::_,j+1,d,g,e=>by
  obtain ⟨u,h1,h2⟩:=Gots.get (j:=j) (d:=d) g.2 (by simpa using e)
  exact ⟨u,by simpa using h1,h2⟩
 |[],_::_,_,_,g,_=>g.elim
 |_::_,[],_,_,g,_=>g.elim
theorem Gots.atI {xs:List V}{ds:List Dv}{i:Int}{d:Dv} (g:Gots KF k W H H1 xs ds) (e:L2.atI ds i=some d): ∃u,L2.atI xs i=some u/\Got KF k W H H1 u d:=by
 unfold L2.atI at e|-
 rw [g.length]
 obtain ⟨j,hj,e⟩:=Option.bind_eq_some_iff.mp e
 obtain ⟨u,hu,q⟩:=g.get e
 exact ⟨u,by rw [hj];exact hu,q⟩
end
section
variable {X:Cx}{ms:List Nat}{k k1 k2:Kd}{e a b:Expr}{m ma mb:EM}{pos:Pos}
theorem cB (ha:PD X ms k a ma) (hb:PD X ms k2 b mb) (hs:jJ b):PD X ms (ixKd k) (.Subscript a b pos) (eOp dIx ma mb):=by
 obtain ⟨ta,pa,qa⟩:=ha
 obtain ⟨tb,pb,qb⟩:=hb
 refine ⟨_,mt mw pa pb hs,fun δ σ H0 H Q d R hm hq=> ?_⟩
 obtain ⟨x,hx,e⟩:=Option.bind_eq_some_iff.mp hm
 obtain ⟨y,hy,e⟩:=Option.bind_eq_some_iff.mp e
 refine qa δ σ H0 H _ x R hx fun v H1 s1 g1=> ?_
 refine qb δ σ H0 H1 _ y (R.same s1) hy fun u H2 s2 g2=> ?_
 have g1:=g1.same s2
 have s12:=s1.tr s2
 have g2:=g2.bor
 cases x with
 |lst ds=>
  cases g2<;>simp only [dIx] at e<;>first|cases e|skip
  obtain ⟨p,xs,rfl,h,r⟩:=g1.lst
  obtain ⟨z,hz,gz⟩:=r.atI e
  exact .inl ⟨p,xs,_,z,rfl,rfl,SqL.of h,hz,hq z H2 s12 gz⟩
 |scr ns=>
  cases g2<;>simp only [dIx] at e<;>first|cases e|skip
  have g:=g1.bor
  cases g with
  |scr h=>
   obtain ⟨z,hz,rfl⟩:=Option.map_eq_some_iff.mp e
   refine .inl ⟨_,_,_,.int z,rfl,rfl,h.sq,?_,hq _ H2 s12 (uE (.int z))⟩
   unfold atI at hz|-
   rw [List.length_map]
   obtain ⟨j,hj,e⟩:=Option.bind_eq_some_iff.mp hz
   rw [hj]
   show (ns.map V.int)[j]?=_
   rw [List.getElem?_map,e]
   rfl
 |tup ds=>
  cases g2<;>simp only [dIx] at e<;>first|cases e|skip
  obtain ⟨p,xs,rfl,h,r⟩:=g1.tup
  obtain ⟨z,hz,gz⟩:=r.atI e
  exact .inr (.inl ⟨p,xs,_,z,rfl,rfl,SqT.of h,hz,hq z H2 s12 gz⟩)
 |_=>cases g2<;>simp only [dIx] at e<;>cases e
noncomputable def PDo (X:Cx) (ms:List Nat) (e:Option Expr) (m:Dt->Option (Option Int)):Prop:= ∃t,PO X e t/\
 ∀{W:Addr->Prop} (δ:Dt) (σ:St) (H0 H:Hp) (Q:Option Int->Hp->Prop) (o:Option Int),Rel X.K ms W H0 δ σ H->m δ=some o->(∀H',Same H H'->Q o H')->t σ H Q
noncomputable def jY:Dt->Option (Option Int):=fun _=>some none
noncomputable def nB:Dv->Option Int
 | .int i=>some i
 |_=>none
noncomputable def iF (m:EM):Dt->Option (Option Int):=fun δ=>(m δ).bind fun d=>(nB d).map some
theorem uF:PDo X ms none jY:=⟨_,sV,fun δ σ H0 H Q o R hm hq=>by cases hm;exact hq H fun _ _ z=>z⟩
theorem uG (h:PD X ms k e m):PDo X ms (some e) (iF m):=by
 obtain ⟨te,p,q⟩:=h
 refine ⟨_,sW p,fun δ σ H0 H Q o R hm hq=> ?_⟩
 obtain ⟨x,hx,e⟩:=Option.bind_eq_some_iff.mp hm
 refine q δ σ H0 H _ x R hx fun v H1 s1 g1=> ?_
 have g:=g1.bor
 cases g<;>simp only [nB] at e<;>cases e
 exact ⟨_,rfl,hq H1 s1⟩
noncomputable def cutD {α:Type} (xs:List α) (lo hi:Option Int):List α:=(xs.drop (HT.sIx xs.length 0 lo)).take (HT.sIx xs.length xs.length hi-HT.sIx xs.length 0 lo)
noncomputable def eSl (m:EM) (lo hi:Dt->Option (Option Int)):EM:=fun δ=>(m δ).bind fun x=>(lo δ).bind fun l=>(hi δ).bind fun h=>match x with
 | .lst ds=>if imms (cutD ds l h)=true then some (.lst (cutD ds l h)) else none
 | .scr ns=>some (.lst (cutD (ns.map Dv.int) l h))
 |_=>none
theorem uH {lo hi:Option Expr}{ml mh:Dt->Option (Option Int)}{p2:Pos} (he:PD X ms k e m) (hl:PDo X ms lo ml) (hh:PDo X ms hi mh):PD X ms .one (.Subscript e (.Slice lo hi none p2) pos) (eSl m ml mh):=by
 obtain ⟨te,p,q⟩:=he
 obtain ⟨tl,pl,ql⟩:=hl
 obtain ⟨th,ph,qh⟩:=hh
 refine ⟨_,sX tw p pl ph,fun δ σ H0 H Q d R hm hq=> ?_⟩
 obtain ⟨x,hx,e⟩:=Option.bind_eq_some_iff.mp hm
 obtain ⟨l,hl,e⟩:=Option.bind_eq_some_iff.mp e
 obtain ⟨h,hh,e⟩:=Option.bind_eq_some_iff.mp e
 refine q δ σ H0 H _ x R hx fun v H1 s1 g1=> ?_
 refine ql δ σ H0 H1 _ l (R.same s1) hl fun H2 s2=> ?_
 refine qh δ σ H0 H2 _ h (R.same (s1.tr s2)) hh fun H3 s3=> ?_
 have g:=(g1.same (s2.tr s3)).bor
 cases g with
 | @lst a xs ds _ hr r=>
  simp only at e
  split at e
  ·next hi=>
   cases e
   refine ⟨a,xs,rfl,SqL.of hr,fun p hp=> ?_⟩
   have s4:=Same.new (o:= .lst (cutV xs l h)) hp
   have s03:=s1.tr (s2.tr s3)
   refine hq _ _ (s03.tr s4) ⟨p,rfl,bE s03 hp,_,ay,?_⟩
   have rr:RepsF X.K (fun _=>True) H3 (cutV xs l h) (cutD ds l h):=by
    unfold cutV cutD
    rw [r.length]
    exact (r.drop _).take _
   exact (rr.imm hi).same s4
  ·cases e
 | @scr a ns hr=>
  cases e
  refine ⟨a,_,rfl,hr.sq,fun p hp=> ?_⟩
  have s4:=Same.new (o:= .lst (cutV (ns.map V.int) l h)) hp
  have s03:=s1.tr (s2.tr s3)
  refine hq _ _ (s03.tr s4) ⟨p,rfl,bE s03 hp,_,ay,?_⟩
  have r: ∀HH,RepsF X.K Imm HH (ns.map V.int) (ns.map Dv.int):=fun _=>gi ns
  generalize L2.upd H3 p (.lst (cutV (ns.map V.int) l h))=HH
  unfold cutV cutD
  have:=((r HH).drop (HT.sIx (ns.map V.int).length 0 l)).take (HT.sIx (ns.map V.int).length (ns.map V.int).length h-HT.sIx (ns.map V.int).length 0 l)
  simpa using this
 |_=>cases e
noncomputable def dh (KF:PySem.W.Frag) (r:List V->Hp->VK->Prop) (k:Kd) (f:List Dv->Option Dv):Prop:=
 ∀(W:Addr->Prop) (H:Hp) (vs:List V) (ds:List Dv) (d:Dv) (Q:VK),RepsF KF (fun _=>True) H vs ds->f ds=some d->(∀v H',Same H H'->Got KF k W H H' v d->Q v H')->r vs H Q
noncomputable def ah (f:List Dv->Option Dv) (a:Dt->Option (List Dv)):EM:=fun δ=>(a δ).bind f
variable {es:List Expr}{ml:Dt->Option (List Dv)}{r:List V->Hp->VK->Prop}{f:List Dv->Option Dv}{x:Str}{p:Pos}
theorem bP {id:String} (hc:cj X (.builtin id) r) (hf:dh X.K r k f) (hg:Gl X x) (hm:X.mg x=none) (hv:bootBuiltins x=some (.builtin id)) (ha:PDa X ms k1 (a::es) ml) (hn:x≠"__name__":=by decide) (hdb:(x==("__debug__":Str))=false:=by decide)
  (he:starEach (a::es) X.env=(false,eval a X.env)::starEach es X.env:=by rfl) (hpl:(backTo pos (starEach es X.env)).any (·.1)=false:=by rfl):
  PD X ms k (.Call (.Name x p) (a::es) [] pos) (ah f ml):=by
 obtain ⟨ta,pa,qa⟩:=ha
 refine ⟨_,mq hc hg hm hv pa hn hdb he hpl,fun δ σ H0 H Q d R hm hq=> ?_⟩
 obtain ⟨xs,hx,e⟩:=Option.bind_eq_some_iff.mp hm
 refine qa δ σ H0 H _ xs R hx fun vs H1 s1 g1=> ?_
 exact hf _ H1 vs xs d Q g1.bor e fun v H' s g=>hq v H' (s1.tr s) (g.back s1)
theorem d9 {T:String} (hc:cj X (.type T) r) (hf:dh X.K r k f) (hg:Gl X x) (hm:X.mg x=none) (hv:bootBuiltins x=some (.type T)) (ha:PDa X ms k1 (a::es) ml) (hn:x≠"__name__":=by decide) (hdb:(x==("__debug__":Str))=false:=by decide)
  (he:starEach (a::es) X.env=(false,eval a X.env)::starEach es X.env:=by rfl) (hpl:(backTo pos (starEach es X.env)).any (·.1)=false:=by rfl):
  PD X ms k (.Call (.Name x p) (a::es) [] pos) (ah f ml):=by
 obtain ⟨ta,pa,qa⟩:=ha
 refine ⟨_,sO hc hg hm hv pa hn hdb he hpl,fun δ σ H0 H Q d R hm hq=> ?_⟩
 obtain ⟨xs,hx,e⟩:=Option.bind_eq_some_iff.mp hm
 refine qa δ σ H0 H _ xs R hx fun vs H1 s1 g1=> ?_
 exact hf _ H1 vs xs d Q g1.bor e fun v H' s g=>hq v H' (s1.tr s) (g.back s1)
noncomputable def fLen:List Dv->Option Dv
 |[d]=>dLen d
 |_=>none
theorem di:dh KF (fun xs H Q=> ∃p ys,xs=[.ref p]/\(SqL KF H p ys \/SqT KF H p ys)/\Q (.int ys.length) H) .imm fLen:=by
 intro W H vs ds d Q r e hq
 cases r with
 |nil=>cases e
 |cons h r=>
  cases r with
  |cons _ _=>cases e
  |nil=>
   cases h<;>simp only [fLen,dLen] at e<;>cases e
   ·next a xs ds s h q=>
    refine ⟨a,xs,rfl,.inl (SqL.of h),?_⟩
    rw [q.length]
    exact hq _ H (fun _ _ z=>z) (RepF.int _)
   ·next a xs ds h q=>
    refine ⟨a,xs,rfl,.inr (SqT.of h),?_⟩
    rw [q.length]
    exact hq _ H (fun _ _ z=>z) (RepF.int _)
   ·next a ns h=>
    refine ⟨a,_,rfl,.inl h.sq,?_⟩
    rw [List.length_map]
    exact hq _ H (fun _ _ z=>z) (RepF.int _)
noncomputable def dM:List Dv->Option Dv
 |[.scr ns]=>some (.tup (ns.map .int))
 |[.lst ds]=>if imms ds=true then some (.tup ds) else none
 |[.tup ds]=>if imms ds=true then some (.tup ds) else none
 |_=>none
theorem jZ:dh KF (fun xs H Q=> ∃p ys,xs=[.ref p]/\((SqL KF H p ys/\ ∀l,H l=none->Q (.ref l) (upd H l (.tup ys))) \/(SqT KF H p ys/\Q (.ref p) H))) .imm dM:=by
 intro W H vs ds d Q r e hq
 cases r with
 |nil=>cases e
 |cons h r=>
  cases r with
  |cons _ _=>unfold dM at e;split at e<;>first|(next z=>cases z;done)|cases e
  |nil=>
   cases h<;>simp only [dM] at e<;>first|cases e|skip
   ·next a xs ds s h q=>
    split at e
    ·next hi=>
     cases e
     refine ⟨a,xs,rfl,.inl ⟨SqL.of h,fun l hl=> ?_⟩⟩
     have s:=Same.new (o:= .tup xs) hl
     exact hq _ _ s (RepF.tup ay ((q.imm hi).same s))
    ·cases e
   ·next a xs ds h q=>
    split at e
    ·next hi=>cases e;exact ⟨a,xs,rfl,.inr ⟨SqT.of h,hq _ H (fun _ _ z=>z) (RepF.tup h (q.imm hi))⟩⟩
    ·cases e
   ·next a ns h=>
    refine ⟨a,_,rfl,.inl ⟨h.sq,fun l hl=> ?_⟩⟩
    exact hq _ _ (Same.new hl) (RepF.tup ay (gi ns))
noncomputable def cN:List Dv->Option Dv
 |[.scr ns]=>some (.lst (ns.map .int))
 |[.lst ds]=>if imms ds=true then some (.lst ds) else none
 |[.tup ds]=>if imms ds=true then some (.lst ds) else none
 |_=>none
theorem j3:dh KF (fun xs H Q=> ∃p ys,xs=[.ref p]/\(SqL KF H p ys \/SqT KF H p ys)/\ ∀l,H l=none->Q (.ref l) (upd H l (.lst ys))) .one cN:=by
 intro W H vs ds d Q r e hq
 cases r with
 |nil=>cases e
 |cons h r=>
  cases r with
  |cons _ _=>unfold cN at e;split at e<;>first|(next z=>cases z;done)|cases e
  |nil=>
   cases h<;>simp only [cN] at e<;>first|cases e|skip
   ·next a xs ds s h q=>
    split at e
    ·next hi=>
     cases e
     refine ⟨a,xs,rfl,.inl (SqL.of h),fun l hl=> ?_⟩
     have s:=Same.new (o:= .lst xs) hl
     exact hq _ _ s ⟨l,rfl,hl,_,ay,(q.imm hi).same s⟩
    ·cases e
   ·next a xs ds h q=>
    split at e
    ·next hi=>
     cases e
     refine ⟨a,xs,rfl,.inr (SqT.of h),fun l hl=> ?_⟩
     have s:=Same.new (o:= .lst xs) hl
     exact hq _ _ s ⟨l,rfl,hl,_,ay,(q.imm hi).same s⟩
    ·cases e
   ·next a ns h=>
    refine ⟨a,_,rfl,.inl h.sq,fun l hl=> ?_⟩
    exact hq _ _ (Same.new hl) ⟨l,rfl,hl,_,ay,gi ns⟩
noncomputable def dN (x y:Dv):Option Dv:=(dCat x y).bind fun z=>match z with
 | .lst ds=>if imms ds=true then some (.lst ds) else none
 |_=>none
noncomputable def uI:R2:=fun x y H Q=> ∃l b xs zs,x= .ref l/\y= .ref b/\H l=some (.lst xs)/\H b=some (.lst zs)/\xs.length+zs.length<=sizeLine/\ ∀p,H p=none->Q (.ref p) (upd H p (.lst (xs++zs)))
theorem uJ:OpR X (binaryOp .Add) uI:=by
 intro pins s σ H x y v u Q I rx ry h
 obtain ⟨l,b,xs,zs,rfl,rfl,hH,hB,hz,q⟩:=h
 cases rx
 cases ry
 obtain ⟨z,its,n,r,e⟩:=(show Rd H l (.lst xs) from .inl hH).ok I.hok
 obtain ⟨z2,its2,n2,r2,e2⟩:=(show Rd H b (.lst zs) from .inl hB).ok I.hok
 have hl:=r.length
 have hl2:=r2.length
 refine PySem.P.add_list e e2 ?_ (by rw [List.size_toArray,List.size_toArray];lia)
 have ea:its.toArray++its2.toArray=(its++its2).toArray:=by simp
 rw [ea]
 exact ⟨.ref _,_,I.lnew (t':=s.toks) (r.append r2) (by rw [List.length_append];lia),rfl,q _ I.fresh⟩
theorem nC (ha:PD X ms k1 a ma) (hb:PD X ms k2 b mb):PD X ms .one (.BinOp a .Add b pos) (eOp dN ma mb):=by
 obtain ⟨ta,pa,qa⟩:=ha
 obtain ⟨tb,pb,qb⟩:=hb
 refine ⟨_,jE uJ pa pb,fun δ σ H0 H Q d R hm hq=> ?_⟩
 obtain ⟨x,hx,e⟩:=Option.bind_eq_some_iff.mp hm
 obtain ⟨y,hy,e⟩:=Option.bind_eq_some_iff.mp e
 obtain ⟨z,hz,e⟩:=Option.bind_eq_some_iff.mp e
 refine qa δ σ H0 H _ x R hx fun v H1 s1 g1=> ?_
 refine qb δ σ H0 H1 _ y (R.same s1) hy fun u H2 s2 g2=> ?_
 have g1:=(g1.same s2).bor
 have g2:=g2.bor
 cases g1 with
 | @lst p1 vs xs _ e1 r1=>
  cases g2 with
  | @lst p2 us ys _ e2 r2=>
   simp only [dCat] at hz
   split at hz
   ·next hl=>
    cases hz
    simp only at e
    split at e
    ·next hi=>
     cases e
     refine ⟨p1,p2,vs,us,rfl,rfl,e1,e2,?_,fun p hp=> ?_⟩
     ·rw [r1.length,r2.length];exact Nat.le_of_lt (dJ hl)
     ·have s:=Same.new (o:= .lst (vs++us)) hp
      exact hq _ _ (s1.tr (s2.tr s)) ⟨p,rfl,bE (s1.tr s2) hp,_,ay,((r1.append r2).imm hi).same s⟩
    ·cases e
   ·cases hz
  |_=>cases hz
 |_=>cases hz
end
end L2
set_option maxHeartbeats 4000000
namespace L2
open PySem PySem.Spec PyProof.Rows
variable {KF:PySem.W.Frag}{W W':Addr->Prop}
noncomputable def dm (W:Addr->Prop) (H H':Hp):Prop:= ∀a o,H a=some o-> ¬W a->H' a=some o
noncomputable def IOk (KF:PySem.W.Frag) (W:Addr->Prop) (lp:Bool) (H:Hp) (J:It) (ds:List Dv):Prop:=
 ds.length<=lim/\ ∀H',Same H H' \/(lp=true/\dm W H H')->(∀i,i<ds.length->J.go i H')/\(∀i x H'',i<ds.length->J.yld i H' x H''->H''=H'/\ ∃d,ds[i]?=some d/\RepF KF (fun a=> ¬W a/\H a≠none) H' x d)/\J.stop ds.length H'
noncomputable def PDi (X:Cx) (ms:List Nat) (lp:Bool) (tg iter:Expr) (m:Dt->Option (List Dv)):Prop:= ∃wi,PI X tg iter wi/\
 ∀{W:Addr->Prop} (δ:Dt) (σ:St) (H0 H:Hp) (R:It->Hp->Prop) (ds:List Dv),Rel X.K ms W H0 δ σ H->m δ=some ds->(∀J H',Same H H'->IOk X.K W lp H' J ds->R J H')->wi σ H R
noncomputable def iL (m:EM):Dt->Option (List Dv):=fun δ=>(m δ).bind fun x=>match x with
 | .scr ns=>if ns.length<=lim then some (ns.map .int) else none
 | .lst ds=>if ds.length<=lim then some ds else none
 |_=>none
noncomputable def iLI (m:EM):Dt->Option (List Dv):=fun δ=>(m δ).bind fun x=>match x with
 | .lst ds=>if ds.length<=lim/\imms ds=true then some ds else none
 |_=>none
noncomputable def iT (m:EM):Dt->Option (List Dv):=fun δ=>(m δ).bind fun x=>match x with
 | .tup ds=>if ds.length<=lim then some ds else none
 |_=>none
noncomputable def iTI (m:EM):Dt->Option (List Dv):=fun δ=>(m δ).bind fun x=>match x with
 | .tup ds=>if ds.length<=lim/\imms ds=true then some ds else none
 |_=>none
noncomputable def aY (lo:Int) (n:Nat):List Dv:=(List.range n).map fun (i:Nat)=> .int (lo+(i:Int))
noncomputable def iR1 (m:EM):Dt->Option (List Dv):=fun δ=>(m δ).bind fun x=>match x with
 | .int j=>if-(2^60)<=j/\j<=lim then some (aY 0 j.toNat) else none
 |_=>none
noncomputable def iR2 (m m2:EM):Dt->Option (List Dv):=fun δ=>(m δ).bind fun x=>(m2 δ).bind fun y=>match x,y with
 | .int i,.int j=>if-(2^60)<=i/\i<=2^60/\j<=i+lim/\ -(2^61)<=j then some (aY i (j-i).toNat) else none
 |_,_=>none
theorem dm.keeps {ms:List Nat}{σ:St}{H H':Hp}{H0:Hp}{δ:Dt} (R:Rel KF ms W H0 δ σ H) (s:dm W H H'):aE (fun a=> ¬W a) H H':=fun a o h c=>by
 rcases c with ⟨xs,rfl⟩|⟨b,u,rfl⟩|c
 ·exact s a _ h fun z=>by
   obtain ⟨o',e',n⟩:=R.own z
   rw [h] at e';cases e'
   exact n.1 xs rfl
 ·exact s a _ h fun z=>by
   obtain ⟨o',e',n⟩:=R.own z
   rw [h] at e';cases e'
   exact n.2 b u rfl
 ·exact s a o h c
theorem j4 {lo:Int}{n i:Nat} (h:i<n):(aY lo n)[i]?=some (.int (lo+(i:Int))):=by
 unfold aY
 rw [List.getElem?_map,List.getElem?_range h]
 rfl
theorem dq (lo:Int) (n:Nat):(aY lo n).length=n:=by unfold aY;simp
section
variable {X:Cx}{ms:List Nat}{k:Kd}{lp:Bool}{tg e a b:Expr}{m ma mb:EM}{pos:Pos}
theorem uK {σ:St}{H H0:Hp}{δ:Dt}{p:Addr}{xs:List V}{ds:List Dv} (R:Rel KF ms W H0 δ σ H) (n: ¬W p) (h:H p=some (.lst xs)) (r:RepsF KF (fun a=> ¬W a) H xs ds) (hz:ds.length<=lim):IOk KF W lp H (Itl KF p) ds:=by
 refine ⟨hz,fun H' s=> ?_⟩
 have kp:aE (fun a=> ¬W a) H H':=by
  rcases s with s|⟨_,s⟩
  ·exact .of s
  ·exact dm.keeps R s
 have h':=kp _ _ h (.inr (.inr n))
 have r':=RepsF.keep (S:=fun a=> ¬W a/\H a≠none) (kp.mono fun _ z=>z.1) (r.mono fun _ h n=>⟨n,h⟩)
 refine ⟨fun i hi=> ?_,fun i x H'' hi y=> ?_,⟨xs,SqL.of h',by rw [r.length];exact Nat.le_refl _⟩⟩
 ·have hx:i<xs.length:=by rw [r.length];exact hi
  exact ⟨xs,xs[i],SqL.of h',by simp [hx]⟩
 ·obtain ⟨e1,e2⟩:=y
  obtain ⟨d,hd,rd⟩:=r'.get' (e2 xs (SqL.of h'))
  exact ⟨e1,d,hd,rd⟩
theorem uL {σ:St}{H H0:Hp}{δ:Dt}{p:Addr}{ns:List Int} (R:Rel KF ms W H0 δ σ H) (h:Scr KF H p ns) (hz:ns.length<=lim):IOk KF W lp H (Itl KF p) (ns.map .int):=by
 refine ⟨by rw [List.length_map];exact hz,fun H' s=> ?_⟩
 have kp:aE (fun a=> ¬W a) H H':=by
  rcases s with s|⟨_,s⟩
  ·exact .of s
  ·exact dm.keeps R s
 have h':Scr KF H' p ns:=h.imp (fun ⟨o,q⟩=>⟨o,kp _ _ q (.inr (.inl ⟨_,_,rfl⟩))⟩) id
 rw [List.length_map]
 refine ⟨fun i hi=> ?_,fun i x H'' hi y=> ?_,⟨_,h'.sq,by rw [List.length_map];exact Nat.le_refl _⟩⟩
 ·exact ⟨_,.int ns[i],h'.sq,by simp [hi]⟩
 ·obtain ⟨e1,e2⟩:=y
  have e3:=e2 _ h'.sq
  rw [List.getElem?_map,List.getElem?_eq_getElem hi] at e3
  cases e3
  exact ⟨e1,.int ns[i],by simp [hi],.int _⟩
theorem uM {σ:St}{H H0:Hp}{δ:Dt}{p:Addr}{xs:List V}{ds:List Dv} (R:Rel KF ms W H0 δ σ H) (h:H p=some (.tup xs)) (r:RepsF KF (fun a=> ¬W a) H xs ds) (hz:ds.length<=lim):IOk KF W lp H (Itt KF p) ds:=by
 refine ⟨hz,fun H' s=> ?_⟩
 have kp:aE (fun a=> ¬W a) H H':=by
  rcases s with s|⟨_,s⟩
  ·exact .of s
  ·exact dm.keeps R s
 have h':=kp _ _ h (.inl ⟨xs,rfl⟩)
 have r':=RepsF.keep (S:=fun a=> ¬W a/\H a≠none) (kp.mono fun _ z=>z.1) (r.mono fun _ h n=>⟨n,h⟩)
 refine ⟨fun i hi=> ?_,fun i x H'' hi y=> ?_,⟨xs,SqT.of h',by rw [r.length];exact Nat.le_refl _⟩⟩
 ·have hx:i<xs.length:=by rw [r.length];exact hi
  exact ⟨xs,xs[i],SqT.of h',by simp [hx]⟩
 ·obtain ⟨e1,e2⟩:=y
  obtain ⟨d,hd,rd⟩:=r'.get' (e2 xs (SqT.of h'))
  exact ⟨e1,d,hd,rd⟩
theorem nD {H:Hp}{lo:Int}{n:Nat} (hz:n<=lim):IOk KF W lp H (Itr lo n) (aY lo n):=by
 refine ⟨by rw [dq];exact hz,fun H' s=> ?_⟩
 rw [dq]
 refine ⟨fun i hi=>hi,fun i x H'' hi y=> ?_,Nat.le_refl n⟩
 obtain ⟨e1,e2⟩:=y
 subst e2
 exact ⟨e1,_,j4 hi,.int _⟩
theorem bO (h:PD X ms .any e m):PDi X ms lp tg e (iL m):=by
 obtain ⟨te,p,q⟩:=h
 refine ⟨_,rN p,fun δ σ H0 H R ds L hm hq=> ?_⟩
 obtain ⟨x,hx,e⟩:=Option.bind_eq_some_iff.mp hm
 refine q δ σ H0 H _ x L hx fun v H1 s1 g=> ?_
 cases x with
 |lst zs=>
  simp only at e
  split at e
  ·next hz=>
   cases e
   cases g with
   |lst n h r=>exact ⟨_,rfl,⟨_,SqL.of h⟩,hq _ H1 s1 (uK (L.same s1) n h r hz)⟩
  ·cases e
 |scr ns=>
  simp only at e
  split at e
  ·next hz=>
   cases e
   cases g with
   |scr h=>exact ⟨_,rfl,⟨_,h.sq⟩,hq _ H1 s1 (uL (L.same s1) h hz)⟩
  ·cases e
 |_=>cases e
theorem uN (h:PD X ms .any e m):PDi X ms lp tg e (iT m):=by
 obtain ⟨te,p,q⟩:=h
 refine ⟨_,rO p,fun δ σ H0 H R ds L hm hq=> ?_⟩
 obtain ⟨x,hx,e⟩:=Option.bind_eq_some_iff.mp hm
 refine q δ σ H0 H _ x L hx fun v H1 s1 g=> ?_
 cases x with
 |tup zs=>
  simp only at e
  split at e
  ·next hz=>
   cases e
   cases g with
   |tup h r=>exact ⟨_,rfl,⟨_,SqT.of h⟩,hq _ H1 s1 (uM (L.same s1) h r hz)⟩
  ·cases e
 |_=>cases e
theorem uO {j:Int} (h:j<=(lim:Int)):j<2^62:=Int.lt_of_le_of_lt h (by decide)
theorem gu {p:Pos} (hg:Gl X "range") (hm:X.mg "range"=none) (h:PD X ms k a m) (hs:starEach [a] X.env=[(false,eval a X.env)]:=by rfl):PDi X ms lp tg (.Call (.Name "range" p) [a] [] pos) (iR1 m):=by
 obtain ⟨te,pe,q⟩:=h
 refine ⟨_,rR hg hm (bK pe cY hs) hs,fun δ σ H0 H R ds L hm hq=> ?_⟩
 obtain ⟨x,hx,e⟩:=Option.bind_eq_some_iff.mp hm
 refine q δ σ H0 H _ x L hx fun v H1 s1 g=> ?_
 have g:=g.bor
 cases g with
 |int j=>
  simp only at e
  split at e
  ·next hl=>
   cases e
   exact ⟨j,rfl,Int.le_trans (by decide) hl.1,uO hl.2,hq _ H1 s1 (nD (by have:=hl.2;lia))⟩
  ·cases e
 |_=>cases e
theorem uP {p:Pos}{k2:Kd} (hg:Gl X "range") (hm:X.mg "range"=none) (h:PD X ms k a ma) (h2:PD X ms k2 b mb) (hs:starEach [a,b] X.env=[(false,eval a X.env),(false,eval b X.env)]:=by rfl) (hs2:starEach [b] X.env=[(false,eval b X.env)]:=by rfl):
  PDi X ms lp tg (.Call (.Name "range" p) [a,b] [] pos) (iR2 ma mb):=by
 obtain ⟨te,pe,q⟩:=h
 obtain ⟨te2,pe2,q2⟩:=h2
 refine ⟨_,rS hg hm (bK pe (bK pe2 cY hs2) (by rw [hs,hs2])) hs hs2,fun δ σ H0 H R ds L hm hq=> ?_⟩
 obtain ⟨x,hx,e⟩:=Option.bind_eq_some_iff.mp hm
 obtain ⟨y,hy,e⟩:=Option.bind_eq_some_iff.mp e
 refine q δ σ H0 H _ x L hx fun v H1 s1 g=> ?_
 refine q2 δ σ H0 H1 _ y (L.same s1) hy fun u H2 s2 g2=> ?_
 have g:=(g.same s2).bor
 have g2:=g2.bor
 cases g with
 |int i=>
  cases g2 with
  |int j=>
   simp only at e
   split at e
   ·next c=>
    cases e
    have hl:(lim:Int)=100000:=rfl
    exact ⟨i,j,rfl,⟨by lia,by lia,by lia,by lia⟩,hq _ H2 (s1.tr s2) (nD (by lia))⟩
   ·cases e
  |_=>cases e
 |_=>cases e
end
noncomputable def bJ (ms:List Nat) (σ σ':St):Prop:= ∀i,isOwn ms i=true->σ'[i]?=σ[i]?
theorem bJ.refl {ms:List Nat}{σ:St}:bJ ms σ σ:=fun _ _=>rfl
theorem bJ.tr {ms:List Nat}{σ σ1 σ2:St} (a:bJ ms σ σ1) (b:bJ ms σ1 σ2):bJ ms σ σ2:=fun i h=>(b i h).trans (a i h)
noncomputable def DG (KF:PySem.W.Frag) (ms:List Nat) (g:TG) (m:Dv->Dt->Option Dt):Prop:=
 ∀{W:Addr->Prop} (δ δ1:Dt) (σ:St) (H0 H:Hp) (v:V) (d:Dv) (Q:St->Hp->Prop),Rel KF ms W H0 δ σ H->RepF KF (fun a=> ¬W a) H v d->m d δ=some δ1->(∀σ1,Rel KF ms W H0 δ1 σ1 H->bJ ms σ σ1->Q σ1 H)->g v σ H Q
noncomputable def DGs (KF:PySem.W.Frag) (ms:List Nat) (g:TGs) (m:List Dv->Dt->Option Dt):Prop:=
 ∀{W:Addr->Prop} (δ δ1:Dt) (σ:St) (H0 H:Hp) (vs:List V) (ds:List Dv) (Q:St->Hp->Prop),Rel KF ms W H0 δ σ H->RepsF KF (fun a=> ¬W a) H vs ds->m ds δ=some δ1->(∀σ1,Rel KF ms W H0 δ1 σ1 H->bJ ms σ σ1->Q σ1 H)->g vs σ H Q
noncomputable def PDg (X:Cx) (ms:List Nat) (tg:Expr) (m:Dv->Dt->Option Dt):Prop:= ∃g,PG X tg g/\DG X.K ms g m
noncomputable def PDgs (X:Cx) (ms:List Nat) (tgs:List Expr) (m:List Dv->Dt->Option Dt):Prop:= ∃g,PGs X tgs g/\DGs X.K ms g m
noncomputable def gN (i:Nat):Dv->Dt->Option Dt:=fun d δ=>some (δ.set i (some d))
noncomputable def gZ:List Dv->Dt->Option Dt
 |[],δ=>some δ
 |_,_=>none
noncomputable def gC (g:Dv->Dt->Option Dt) (r:List Dv->Dt->Option Dt):List Dv->Dt->Option Dt
 |d::ds,δ=>(g d δ).bind (r ds)
 |_,_=>none
noncomputable def gT (n:Nat) (g:List Dv->Dt->Option Dt):Dv->Dt->Option Dt
 | .tup ds,δ=>if ds.length=n then g ds δ else none
 |_,_=>none
theorem Rel.set {ms:List Nat}{H0 H:Hp}{δ:Dt}{σ:St}{i:Nat}{v:V}{d:Dv} (R:Rel KF ms W H0 δ σ H) (hi:isOwn ms i=false) (r:RepF KF (fun a=> ¬W a) H v d):
  Rel KF ms W H0 (δ.set i (some d)) (σ.set i (some v)) H/\bJ ms σ (σ.set i (some v)):=by
 refine ⟨⟨by rw [List.length_set,List.length_set];exact R.len,R.keep,R.soft,fun j d' n hd=> ?_,?_⟩,fun j hj=>List.getElem?_set_ne (fun z=>by subst z;rw [hi] at hj;cases hj)⟩
 ·by_cases hj:i=j
  ·subst hj
   have hl:i<δ.length:=by
    have:=(List.getElem?_eq_some_iff.mp hd).1
    rwa [List.length_set] at this
   rw [List.getElem?_set_self hl] at hd
   cases hd
   exact ⟨v,List.getElem?_set_self (by rw [R.len];exact hl),r⟩
  ·rw [List.getElem?_set_ne hj] at hd
   obtain ⟨u,hu,q⟩:=R.get j d' n hd
   exact ⟨u,by rw [List.getElem?_set_ne hj];exact hu,q⟩
 ·obtain ⟨Φ,f⟩:=R.foot
  refine ⟨Φ,f.wr,f.dj,f.nd,fun j d' n hd=> ?_⟩
  have hj:i≠j:=fun z=>by rw [z,n] at hi;cases hi
  rw [List.getElem?_set_ne hj] at hd|-
  exact f.at_ j d' n hd
section
variable {X:Cx}{ms:List Nat}{pos:Pos}
theorem aB {i:Nat}{x:Str} (hi:isOwn ms i=false) (h:PG X (.Name x pos) (eK i)):PDg X ms (.Name x pos) (gN i):=
 ⟨_,h,fun δ δ1 σ H0 H v d Q R r hm hq=>by
  cases hm
  obtain ⟨R',so⟩:=R.set hi r
  exact hq _ R' so⟩
theorem cO:PDgs X ms [] gZ:=⟨_,rF,fun δ δ1 σ H0 H vs ds Q R r hm hq=>by
 cases r with
 |nil=>cases hm;exact ⟨rfl,hq σ R .refl⟩
 |cons _ _=>cases hm⟩
theorem aZ {e:Expr}{es:List Expr}{g:Dv->Dt->Option Dt}{gs:List Dv->Dt->Option Dt} (h1:PDg X ms e g) (h2:PDgs X ms es gs)
  (hs:(assignEach (e::es) X.env).map (·.2)=assign e X.env::(assignEach es X.env).map (·.2):=by rfl):PDgs X ms (e::es) (gC g gs):=by
 obtain ⟨t,p,q⟩:=h1
 obtain ⟨u,p2,q2⟩:=h2
 refine ⟨_,rG p p2 hs,fun δ δ1 σ H0 H vs ds Q R r hm hq=> ?_⟩
 cases r with
 |nil=>cases hm
 |cons h r=>
  obtain ⟨δ2,e1,e2⟩:=Option.bind_eq_some_iff.mp hm
  refine ⟨_,_,rfl,q δ δ2 σ H0 H _ _ _ R h e1 fun σ1 R1 so1=> ?_⟩
  exact q2 δ2 δ1 σ1 H0 H _ _ _ R1 r e2 fun σ2 R2 so2=>hq σ2 R2 (so1.tr so2)
theorem cP {es:List Expr}{k:Nat}{g:List Dv->Dt->Option Dt}{n:Nat} (hc:X.calm=true) (h:PDgs X ms es g)
  (hn:(assignEach es X.env).length=n:=by rfl) (hst:(assignEach es X.env).findIdx? (·.1)=none:=by rfl):PDg X ms (.Tuple es k pos) (gT n g):=by
 obtain ⟨t,p,q⟩:=h
 refine ⟨_,rH hc p hn hst,fun δ δ1 σ H0 H v d Q R r hm hq=> ?_⟩
 cases r with
 |tup h r=>
  simp only [gT] at hm
  split at hm
  ·next hl=>exact ⟨_,_,rfl,SqT.of h,by rw [r.length];exact hl,q δ δ1 σ H0 H _ _ Q R r hm hq⟩
  ·cases hm
 |_=>cases hm
end
noncomputable def aO (ρ:List (Option Nat)) (δ:Dt):Dt:=ρ.map fun o=>match o with
 |none=>none
 |some j=>(δ[j]?).join
noncomputable def bu (g:Dv->Dt->Option Dt) (c:Dt->Option Bool) (el:EM) (δ:Dt):List Dv->Option (List Dv)
 |[]=>some []
 |d::ds=>(g d δ).bind fun δ1=>(c δ1).bind fun b=>if b=true then (el δ1).bind fun x=>if x.imm=true then (bu g c el δ ds).map (x:: ·) else none else bu g c el δ ds
noncomputable def ba (ρ:List (Option Nat)) (it:Dt->Option (List Dv)) (g:Dv->Dt->Option Dt) (c:Dt->Option Bool) (el:EM):EM:=fun δ=>(it δ).bind fun ds=>(bu g c el (aO ρ δ) ds).map .lst
noncomputable def gA (ρ:List (Option Nat)) (ms ms':List Nat):Bool:=
 (List.range ρ.length).all (fun i=>match ρ[i]? with|some (some j)=>(decide (i∈ms')==decide (j∈ms))&&(decide (i+1000∈ms')==decide (j+1000∈ms))&&(decide (i+2000∈ms')==decide (j+2000∈ms))|_=>true)&&decide ((ρ.filterMap id).Nodup)
theorem iG {ρ:List (Option Nat)}{δ:Dt}{i:Nat}{d:Dv} (h:(aO ρ δ)[i]?=some (some d)): ∃j,ρ[i]?=some (some j)/\δ[j]?=some (some d):=by
 unfold aO at h
 rw [List.getElem?_map] at h
 cases e:ρ[i]? with
 |none=>rw [e] at h;cases h
 |some o=>
  rw [e] at h
  cases o with
  |none=>cases h
  |some j=>
   refine ⟨j,rfl,?_⟩
   have h':(δ[j]?).join=some d:=Option.some.inj h
   cases q:δ[j]? with
   |none=>rw [q] at h';cases h'
   |some z=>rw [q] at h';exact congrArg some h'
theorem nE {ρ:List (Option Nat)}{σ:St}{i j:Nat}{v:V} (h:ρ[i]?=some (some j)) (e:σ[j]?=some (some v)):(pull ρ σ)[i]?=some (some v):=by
 unfold pull
 rw [List.getElem?_map,h]
 show some ((σ[j]?).getD none)=_
 rw [e];rfl
theorem uQ {ρ:List (Option Nat)} (h:(ρ.filterMap id).Nodup): ∀{i i' j:Nat},ρ[i]?=some (some j)->ρ[i']?=some (some j)->i=i':=by
 induction ρ with
 |nil=>intro i i' j e;simp at e
 |cons o r ih=>
  intro i i' j e e'
  have hr:(r.filterMap id).Nodup:=by
   cases o with
   |none=>simpa using h
   |some x=>simp only [List.filterMap_cons,id] at h;exact (List.nodup_cons.mp h).2
  have hm: ∀{q:Nat},r[q]?=some (some j)->j∈r.filterMap id:=fun {q} e=>by
   rw [List.mem_filterMap]
   exact ⟨some j,List.mem_of_getElem? e,rfl⟩
  cases i with
  |zero=>
   cases i' with
   |zero=>rfl
   |succ i'=>
    simp only [List.getElem?_cons_zero,Option.some.injEq] at e
    subst e
    simp only [List.filterMap_cons,id] at h
    exact absurd (hm (by simpa using e')) (List.nodup_cons.mp h).1
  |succ i=>
   cases i' with
   |zero=>
    simp only [List.getElem?_cons_zero,Option.some.injEq] at e'
    subst e'
    simp only [List.filterMap_cons,id] at h
    exact absurd (hm (by simpa using e)) (List.nodup_cons.mp h).1
   |succ i'=>exact congrArg (· +1) (ih hr (by simpa using e) (by simpa using e'))
structure eS (ρ:List (Option Nat)) (ms ms':List Nat):Prop where
 flat: ∀(i j:Nat),ρ[i]?=some (some j)->(i∈ms'↔j∈ms)
 deep: ∀(i j:Nat),ρ[i]?=some (some j)->(i+1000∈ms'↔j+1000∈ms)
 anyl: ∀(i j:Nat),ρ[i]?=some (some j)->(i+2000∈ms'↔j+2000∈ms)
 inj: ∀(i i' j:Nat),ρ[i]?=some (some j)->ρ[i']?=some (some j)->i=i'
theorem j5 {ρ:List (Option Nat)}{ms ms':List Nat} (h:gA ρ ms ms'=true):eS ρ ms ms':=by
 unfold gA at h
 rw [Bool.and_eq_true] at h
 obtain ⟨h2,h3⟩:=h
 have key: ∀(i j:Nat),ρ[i]?=some (some j)->((i∈ms'↔j∈ms)/\(i+1000∈ms'↔j+1000∈ms))/\(i+2000∈ms'↔j+2000∈ms):=fun i j e=>by
  have hl:=(List.getElem?_eq_some_iff.mp e).1
  have q:=List.all_eq_true.mp h2 i (List.mem_range.mpr hl)
  rw [e] at q
  simp only [Bool.and_eq_true,beq_iff_eq,decide_eq_decide] at q
  exact q
 exact ⟨fun i j e=>(key i j e).1.1,fun i j e=>(key i j e).1.2,fun i j e=>(key i j e).2,fun i i' j e e'=>uQ (of_decide_eq_true h3) e e'⟩
section
variable {ρ:List (Option Nat)}{ms ms':List Nat}{δ:Dt}{σ:St}{H0 H:Hp}
theorem eS.own (P:eS ρ ms ms') {i j:Nat} (h:ρ[i]?=some (some j)):isOwn ms' i=isOwn ms j:=by
 unfold isOwn
 rw [decide_eq_decide.mpr (P.flat i j h),decide_eq_decide.mpr (P.deep i j h),decide_eq_decide.mpr (P.anyl i j h)]
theorem Rel.pull (R:Rel KF ms W H0 δ σ H) (P:eS ρ ms ms'):Rel KF ms' W H0 (aO ρ δ) (L2.pull ρ σ) H:=by
 refine ⟨by unfold L2.pull aO;simp,R.keep,R.soft,fun i d n hd=> ?_,?_⟩
 ·obtain ⟨j,er,ed⟩:=iG hd
  rw [P.own er] at n
  obtain ⟨v,ev,q⟩:=R.get j d n ed
  exact ⟨v,nE er ev,q⟩
 ·obtain ⟨Φ,f⟩:=R.foot
  refine ⟨fun i=>match ρ[i]? with|some (some j)=>Φ j|_=>[],fun i b hb=> ?_,fun i i' b hb hb'=> ?_,fun i=> ?_,fun i d n hd=> ?_⟩
  ·split at hb
   ·exact f.wr _ b hb
   ·exact nomatch hb
  ·split at hb
   ·next j e=>
    split at hb'
    ·next j' e'=>
     have:=f.dj j j' b hb hb'
     subst this
     exact P.inj i i' j e e'
    ·exact nomatch hb'
   ·exact nomatch hb
  ·split
   ·exact f.nd _
   ·exact List.nodup_nil
  ·obtain ⟨j,er,ed⟩:=iG hd
   rw [P.own er] at n
   obtain ⟨a,ha,o⟩:=f.at_ j d n ed
   refine ⟨a,nE er ha,?_⟩
   rw [er]
   rcases o with ⟨m,e,c⟩|⟨m,m3,r⟩|⟨m,m2,e,c⟩
   ·exact .inl ⟨(P.flat i j er).mpr m,e,c⟩
   ·exact .inr (.inl ⟨fun z=>m ((P.flat i j er).mp z),(P.deep i j er).mpr m3,r⟩)
   ·exact .inr (.inr ⟨fun z=>m ((P.flat i j er).mp z),fun z=>m2 ((P.deep i j er).mp z),e,c⟩)
theorem Rel.forget {δ1:Dt} (R:Rel KF ms W H0 δ1 σ H) (hl:δ.length=δ1.length) (h: ∀(i:Nat) (d:Dv),δ[i]?=some (some d)->δ1[i]?=some (some d)):Rel KF ms W H0 δ σ H:=by
 refine ⟨R.len.trans hl.symm,R.keep,R.soft,fun i d n hd=>R.get i d n (h i d hd),?_⟩
 obtain ⟨Φ,f⟩:=R.foot
 exact ⟨Φ,f.wr,f.dj,f.nd,fun i d n hd=>f.at_ i d n (h i d hd)⟩
end
end L2
set_option maxHeartbeats 4000000
namespace L2
open PySem PySem.Spec PyProof.Rows
variable {KF:PySem.W.Frag}{W W':Addr->Prop}
noncomputable def tM (KF:PySem.W.Frag) (ms:List Nat) (k:Kd) (m:EM):TE:=fun σ H Q=> ∃(W:Addr->Prop) (H0:Hp) (δ:Dt) (d:Dv),Rel KF ms W H0 δ σ H/\m δ=some d/\ ∀v H',Same H H'->Got KF k W H H' v d->Q v H'
noncomputable def ttM (KF:PySem.W.Frag) (ms:List Nat) (m:Dt->Option Bool):TT:=fun σ H Q=> ∃(W:Addr->Prop) (H0:Hp) (δ:Dt) (b:Bool),Rel KF ms W H0 δ σ H/\m δ=some b/\ ∀H',Same H H'->Q b H'
noncomputable def tgM (KF:PySem.W.Frag) (ms:List Nat) (m:Dv->Dt->Option Dt):TG:=fun v σ H Q=> ∃(W:Addr->Prop) (H0:Hp) (δ:Dt) (d:Dv) (δ1:Dt),Rel KF ms W H0 δ σ H/\RepF KF (fun a=> ¬W a) H v d/\m d δ=some δ1/\ ∀σ1,Rel KF ms W H0 δ1 σ1 H->bJ ms σ σ1->Q σ1 H
noncomputable def PDts (X:Cx) (ms:List Nat) (ifs:List Expr) (m:Dt->Option Bool):Prop:= ∃tt,PTs X ifs tt/\DTs X.K ms tt m
noncomputable def GExt (z:List Nat) (g:Dv->Dt->Option Dt):Prop:= ∀d δ δ1,g d δ=some δ1->δ1.length=δ.length/\ ∀i:Nat,i∉z->δ1[i]?=δ[i]?
noncomputable def iH (z:List Nat) (g:List Dv->Dt->Option Dt):Prop:= ∀d δ δ1,g d δ=some δ1->δ1.length=δ.length/\ ∀i:Nat,i∉z->δ1[i]?=δ[i]?
theorem bv (i:Nat):GExt [i] (gN i):=fun d δ δ1 h=>by
 cases h
 refine ⟨List.length_set,fun j hj=> ?_⟩
 have ne:i≠j:=fun z=>hj (by simp [z])
 exact List.getElem?_set_ne ne
theorem gB:iH [] gZ:=fun d δ δ1 h=>by
 cases d with
 |nil=>cases h;exact ⟨rfl,fun _ _=>rfl⟩
 |cons _ _=>cases h
theorem cQ {z z':List Nat}{g:Dv->Dt->Option Dt}{gs:List Dv->Dt->Option Dt} (h:GExt z g) (h':iH z' gs):iH (z++z') (gC g gs):=fun d δ δ1 e=>by
 cases d with
 |nil=>cases e
 |cons d ds=>
  obtain ⟨δ2,e1,e2⟩:=Option.bind_eq_some_iff.mp e
  obtain ⟨l1,f1⟩:=h d δ δ2 e1
  obtain ⟨l2,f2⟩:=h' ds δ2 δ1 e2
  exact ⟨l2.trans l1,fun i hi=>(f2 i fun z=>hi (List.mem_append_right _ z)).trans (f1 i fun z=>hi (List.mem_append_left _ z))⟩
theorem gD {z:List Nat}{n:Nat}{g:List Dv->Dt->Option Dt} (h:iH z g):GExt z (gT n g):=fun d δ δ1 e=>by
 cases d with
 |tup ds=>
  simp only [gT] at e
  split at e
  ·exact h ds δ δ1 e
  ·cases e
 |_=>cases e
section
variable {X:Cx}{ms:List Nat}{k:Kd}{e:Expr}{m:EM}{pos:Pos}
theorem PD.pe (h:PD X ms k e m):PE X e (tM X.K ms k m):=by
 obtain ⟨te,p,q⟩:=h
 intro pins s σ H Q I ⟨W,H0,δ,d,R,hm,hq⟩
 exact p pins s σ H Q I (q δ σ H0 H Q d R hm hq)
theorem dO:PDts X ms [] tyes:=⟨_,uq,fun δ σ H0 H Q b R hm hq=>by cases hm;exact hq H fun _ _ z=>z⟩
theorem gE {t:Dt->Option Bool} (h:PDt X ms e t):PDts X ms [e] t:=by
 obtain ⟨tt,p,q⟩:=h
 exact ⟨_,ur p,q⟩
theorem PDts.pts {ifs:List Expr}{t:Dt->Option Bool} (h:PDts X ms ifs t):PTs X ifs (ttM X.K ms t):=by
 obtain ⟨te,p,q⟩:=h
 intro pins s σ H Q I ⟨W,H0,δ,d,R,hm,hq⟩
 exact p pins s σ H Q I (q δ σ H0 H Q d R hm hq)
theorem PDg.pg {g:Dv->Dt->Option Dt} (h:PDg X ms e g):PG X e (tgM X.K ms g):=by
 obtain ⟨te,p,q⟩:=h
 intro pins s σ H v u Q I r ⟨W,H0,δ,d,δ1,R,rd,hm,hq⟩
 exact p pins s σ H v u Q I r (q δ δ1 σ H0 H v d Q R rd hm hq)
end
section
variable {ms ms':List Nat}{ρ:List (Option Nat)}{k:Kd}{wi:TI}{it:Dt->Option (List Dv)}{g:Dv->Dt->Option Dt}{c:Dt->Option Bool}{el:EM}{z:List Nat}
noncomputable def nF (ρ:List (Option Nat)) (g:TG) (tt:TT) (te:TE) (J:It) (σ:St) (H1:Hp) (Q:VK):Prop:= ∃W:Nat->Nat->List V->St->Hp->Prop,(∃m,W 0 m [] (pull ρ σ) H1)/\ ∀i m acc σc Hc,W i m acc σc Hc->
 (J.stop i Hc/\acc.length<=sizeLine/\ ∀l,Hc l=none->Q (.ref l) (upd Hc l (.lst acc))) \/
 (J.go i Hc/\acc.length<sizeLine/\ ∃N:List V->St->Hp->Prop,(∀acc' σ' H',N acc' σ' H'-> ∃m',m'<m/\W (i+1) m' acc' σ' H')/\
  ∀x H',J.yld i Hc x H'->g x σc H' fun σ2 H2=>tt σ2 H2 fun b H3=>if b=true then te σ2 H3 fun v H4=>N (acc++[v]) σ2 H4 else N acc σ2 H3)
theorem uR {δ:Dt}{σ:St}{H0 H1:Hp}{J:It}{ds out:List Dv}{Q:VK} (R1:Rel KF ms' W H0 (aO ρ δ) (L2.pull ρ σ) H1) (ok:IOk KF W false H1 J ds) (ho:bu g c el (aO ρ δ) ds=some out) (hz:GExt z g) (hz':z.all (fun i=>decide (ρ[i]?=some none))=true)
  (hq: ∀(l:Addr) (acc:List V) (Hc:Hp),Same H1 Hc->Hc l=none->RepsF KF Imm Hc acc out->Q (.ref l) (upd Hc l (.lst acc))):nF ρ (tgM KF ms' g) (ttM KF ms' c) (tM KF ms' k el) J σ H1 Q:=by
 obtain ⟨hlim,ok⟩:=ok
 have notz: ∀{i:Nat}{x:Dv},(aO ρ δ)[i]?=some (some x)->i∉z:=fun {i x} e hzi=>by
  obtain ⟨j,er,_⟩:=iG e
  have:=of_decide_eq_true (List.all_eq_true.mp hz' i hzi)
  rw [er] at this;cases this
 refine ⟨fun i n acc σc Hc=>n=ds.length-i/\i<=ds.length/\Same H1 Hc/\Rel KF ms' W H0 (aO ρ δ) σc Hc/\bJ ms' (pull ρ σ) σc/\acc.length<=i/\
  ∃done rest,RepsF KF Imm Hc acc done/\bu g c el (aO ρ δ) (ds.drop i)=some rest/\done++rest=out,⟨ds.length,by simp,Nat.zero_le _,Same.refl _,R1,.refl,Nat.le_refl _,[],out,.nil,by simpa using ho,by simp⟩,?_⟩
 rintro i n acc σc Hc ⟨rfl,hi',sc,Rc,so,hl,done,rest,ra,hr,hout⟩
 obtain ⟨go,yl,st⟩:=ok Hc (.inl sc)
 by_cases hlt:i<ds.length
 ·right
  refine ⟨go i hlt,?_,fun acc' σ' H'=>Same H1 H'/\Rel KF ms' W H0 (aO ρ δ) σ' H'/\bJ ms' (pull ρ σ) σ'/\acc'.length<=i+1/\ ∃done rest,RepsF KF Imm H' acc' done/\bu g c el (aO ρ δ) (ds.drop (i+1))=some rest/\done++rest=out,
   fun acc' σ' H' ⟨a1,a2,a3,a4,a5⟩=>⟨ds.length-(i+1),by lia,rfl,hlt,a1,a2,a3,a4,a5⟩,fun x H' y=> ?_⟩
  ·have:=dJ hlim;lia
  ·obtain ⟨rfl,d,hd,rx⟩:=yl i x H' hlt y
   have hdrop:ds.drop i=d::ds.drop (i+1):=by
    rw [List.drop_eq_getElem_cons hlt]
    congr 1
    rw [List.getElem?_eq_getElem hlt] at hd
    exact Option.some.inj hd
   rw [hdrop,bu] at hr
   obtain ⟨δ1,h1,hr⟩:=Option.bind_eq_some_iff.mp hr
   obtain ⟨b,hb,hr⟩:=Option.bind_eq_some_iff.mp hr
   obtain ⟨l1,f1⟩:=hz d _ δ1 h1
   refine ⟨W,H0,aO ρ δ,d,δ1,Rc,rx.mono fun a _ n z=>n.1 z,h1,fun σ1 R1' so1=> ?_⟩
   have forget: ∀{H2:Hp},Rel KF ms' W H0 δ1 σ1 H2->Rel KF ms' W H0 (aO ρ δ) σ1 H2:=fun {H2} R2=>by
    refine R2.forget l1.symm (fun j x e=> ?_)
    rw [f1 j (notz e)];exact e
   refine ⟨W,H0,δ1,b,R1',hb,fun H2 s2=> ?_⟩
   cases b with
   |true=>
    rw [if_pos rfl] at hr
    obtain ⟨y,hy,hr⟩:=Option.bind_eq_some_iff.mp hr
    split at hr
    ·next him=>
     obtain ⟨rest',hr',rfl⟩:=Option.map_eq_some_iff.mp hr
     rw [if_pos rfl]
     refine ⟨W,H0,δ1,y,R1'.same s2,hy,fun v H3 s3 g3=> ?_⟩
     have s23:=s2.tr s3
     refine ⟨sc.tr s23,forget (R1'.same s23),so.tr so1,by rw [List.length_append];exact Nat.add_le_add_right hl 1,done++[y],rest',(ra.same s23).append (.cons (g3.imm him) .nil),hr',by rw [<-hout,List.append_assoc];rfl⟩
    ·cases hr
   |false=>
    rw [if_neg Bool.false_ne_true] at hr
    rw [if_neg Bool.false_ne_true]
    exact ⟨sc.tr s2,forget (R1'.same s2),so.tr so1,Nat.le_succ_of_le hl,done,rest,ra.same s2,hr,hout⟩
 ·left
  have hie:i=ds.length:=by lia
  subst hie
  rw [List.drop_length,bu] at hr
  cases hr
  rw [List.append_nil] at hout
  subst hout
  have:=dJ hlim
  refine ⟨st,by lia,fun l hln=> ?_⟩
  exact hq l acc Hc sc hln ra
theorem nG (hi: ∀{W:Addr->Prop} (δ:Dt) (σ:St) (H0 H:Hp) (R:It->Hp->Prop) (ds:List Dv),Rel KF ms W H0 δ σ H->it δ=some ds->(∀J H',Same H H'->IOk KF W false H' J ds->R J H')->wi σ H R)
  (P:eS ρ ms ms') (hz:GExt z g) (hz':z.all (fun i=>decide (ρ[i]?=some none))=true):DE KF ms .one (gc ρ wi (tgM KF ms' g) (ttM KF ms' c) (tM KF ms' k el)) (ba ρ it g c el):=by
 intro W δ σ H0 H Q d R hm hq
 obtain ⟨ds,hds,e⟩:=Option.bind_eq_some_iff.mp hm
 obtain ⟨out,ho,rfl⟩:=Option.map_eq_some_iff.mp e
 refine hi δ σ H0 H _ ds R hds fun J H1 s1 ok=> ?_
 refine uR ((R.same s1).pull P) ok ho hz hz' fun l acc Hc sc hln ra=> ?_
 have s2:=Same.new (o:= .lst acc) hln
 exact hq _ _ (s1.tr (sc.tr s2)) ⟨l,rfl,bE (s1.tr sc) hln,acc,ay,ra.same s2⟩
variable {X:Cx}{scope:Scope}{tg iter elt:Expr}{ifs:List Expr}{pos:Pos}
theorem cR (N':List Str) (ρ:List (Option Nat)) (ms':List Nat) (hc:X.calm=true) (hi:PDi X ms false tg iter it) (hg: ∀C s H fp,PDg (aH X scope N' C s H fp) ms' tg g)
  (ht: ∀C s H fp,PDts (aH X scope N' C s H fp) ms' ifs c) (he: ∀C s H fp,PD (aH X scope N' C s H fp) ms' k elt el) (hz:GExt z g)
  (ck:d4 scope X.env.scope X.N N' ρ=true) (hp:gA ρ ms ms'=true) (hz':z.all (fun i=>decide (ρ[i]?=some none))=true) (hs: ∀x,foldedSetIterable iter X.env x=pure x:=by intro _;rfl):
  PD X ms .one (.ListComp elt [⟨tg,iter,ifs,0⟩] scope pos) (ba ρ it g c el):=by
 obtain ⟨wi,pi,qi⟩:=hi
 exact ⟨_,mX N' ρ hc pi (fun C s H fp=>(hg C s H fp).pg) (fun C s H fp=>(ht C s H fp).pts) (fun C s H fp=>(he C s H fp).pe) ck hs,nG qi (j5 hp) hz hz'⟩
end
inductive Fl where
 |nx (δ:Dt)|rt (d:Dv) (δ:Dt)|bk (δ:Dt)|ct (δ:Dt)
noncomputable abbrev SM:=Dt->Option Fl
noncomputable def Stp (ms:List Nat) (H0:Hp) (W:Addr->Prop) (σ:St) (H:Hp) (W':Addr->Prop) (σ':St) (H':Hp):Prop:=dm W H H'/\(∀a,W' a->W a \/H a=none)/\(∀a,W a->W' a \/H0 a=none)/\(∀i,isOwn ms i=true->i+3000∈ms->σ'[i]?=σ[i]?)/\ ∀b o,H b=some o->Sft o-> ∃o',H' b=some o'/\Sft o'
theorem Stp.refl {ms:List Nat}{σ:St}{H0 H:Hp}:Stp ms H0 W σ H W σ H:=⟨fun _ _ h _=>h,fun _ h=> .inl h,fun _ h=> .inl h,fun _ _ _=>rfl,fun _ o h s=>⟨o,h,s⟩⟩
theorem Stp.of {ms:List Nat}{σ σ':St}{H0 H H':Hp} (s:Same H H') (so:bJ ms σ σ'):Stp ms H0 W σ H W σ' H':=⟨fun a o h _=>s a o h,fun a h=> .inl h,fun _ h=> .inl h,fun i hi _=>so i hi,fun b o h q=>⟨o,s b o h,q⟩⟩
theorem Stp.sm {ms:List Nat}{σ:St}{H0 H H':Hp} (s:Same H H'):Stp ms H0 W σ H W σ H':=⟨fun a o h _=>s a o h,fun a h=> .inl h,fun _ h=> .inl h,fun _ _ _=>rfl,fun b o h q=>⟨o,s b o h,q⟩⟩
theorem Stp.tr {ms:List Nat}{σ σ1 σ2:St}{W1 W2:Addr->Prop}{H0 H H1 H2:Hp} (a:Stp ms H0 W σ H W1 σ1 H1) (b:Stp ms H0 W1 σ1 H1 W2 σ2 H2):Stp ms H0 W σ H W2 σ2 H2:=by
 refine ⟨fun x o h n=>b.1 x o (a.1 x o h n) fun z=> ?_,fun x h=> ?_,fun x h=>(a.2.2.1 x h).elim (b.2.2.1 x) .inr,fun i hi hp=>(b.2.2.2.1 i hi hp).trans (a.2.2.2.1 i hi hp),fun x o h q=>by obtain ⟨o1,h1,q1⟩:=a.2.2.2.2 x o h q;exact b.2.2.2.2 x o1 h1 q1⟩
 ·rcases a.2.1 x z with q|q
  ·exact n q
  ·rw [h] at q;cases q
 ·rcases b.2.1 x h with q|q
  ·exact a.2.1 x q
  ·by_cases n:W x
   ·exact .inl n
   ·right
    cases e:H x with
    |none=>rfl
    |some o=>rw [a.1 x o e n] at q;cases q
noncomputable def WE (W:Addr->Prop) (H0:Hp):Addr->Prop:=fun a=>W a/\H0 a≠none
noncomputable def uS (ms:List Nat) (rk:Kd) (Φ:Nat->List Addr) (v:V):Prop:=rk= .one-> ∀j a,j+3000∈ms->v= .ref a->a∉Φ j
noncomputable def iI (KF:PySem.W.Frag) (ms:List Nat) (rk:Kd) (W:Addr->Prop) (H0:Hp) (σ:St) (H:Hp) (D:Ends):Fl->Prop
 | .nx δ=> ∀(W':Addr->Prop) (σ':St) (H':Hp),Stp ms H0 W σ H W' σ' H'->Rel KF ms W' H0 δ σ' H'->D.nx σ' H'
 | .rt d δ=> ∀(v:V) (W':Addr->Prop) (σ':St) (H':Hp) (Φ:Nat->List Addr),Stp ms H0 W σ H W' σ' H'->Rel KF ms W' H0 δ σ' H'->Foot KF ms W' H0 δ σ' H' Φ->Got KF rk (WE W' H0) H0 H' v d->uS ms rk Φ v->D.rt v H'
 | .bk δ=> ∀(W':Addr->Prop) (σ':St) (H':Hp),Stp ms H0 W σ H W' σ' H'->Rel KF ms W' H0 δ σ' H'->D.bk σ' H'
 | .ct δ=> ∀(W':Addr->Prop) (σ':St) (H':Hp),Stp ms H0 W σ H W' σ' H'->Rel KF ms W' H0 δ σ' H'->D.ct σ' H'
theorem Got.weak {rk:Kd}{W1:Addr->Prop}{H0 H':Hp}{v:V}{d:Dv} (g:Got KF rk W1 H0 H' v d) (h: ∀a,W a->W1 a):Got KF rk W H0 H' v d:=by
 cases rk with
 |any=>exact RepF.mono (fun a _ n z=>n (h a z)) g
 |_=>exact g
theorem iI.step {ms:List Nat}{rk:Kd}{H0:Hp}{W1:Addr->Prop}{σ σ1:St}{H H1:Hp}{D:Ends}{r:Fl} (h:iI KF ms rk W H0 σ H D r) (s:Stp ms H0 W σ H W1 σ1 H1):iI KF ms rk W1 H0 σ1 H1 D r:=by
 cases r with
 |nx δ=>exact fun W' σ' H' s' R=>h W' σ' H' (s.tr s') R
 |rt d δ=>exact fun v W' σ' H' Φ s'=>h v W' σ' H' Φ (s.tr s')
 |bk δ=>exact fun W' σ' H' s' R=>h W' σ' H' (s.tr s') R
 |ct δ=>exact fun W' σ' H' s' R=>h W' σ' H' (s.tr s') R
noncomputable def DS (KF:PySem.W.Frag) (ms:List Nat) (rk:Kd) (ts:TS) (m:SM):Prop:=
 ∀{W:Addr->Prop} (δ:Dt) (σ:St) (H0 H:Hp) (D:Ends) (r:Fl),Rel KF ms W H0 δ σ H->m δ=some r->iI KF ms rk W H0 σ H D r->ts D σ H
noncomputable def PDs (X:Cx) (ms:List Nat) (rk:Kd) (st:Stmt) (m:SM):Prop:= ∃ts,PS X st ts/\DS X.K ms rk ts m
noncomputable def PDss (X:Cx) (ms:List Nat) (rk:Kd) (st:List Stmt) (m:SM):Prop:= ∃ts,PSs X st ts/\DS X.K ms rk ts m
noncomputable def aR:SM:=fun δ=>some (.nx δ)
noncomputable def sSeq (a b:SM):SM:=fun δ=>(a δ).bind fun r=>match r with
 | .nx δ1=>b δ1
 |r=>some r
noncomputable def sSet (i:Nat) (m:EM):SM:=fun δ=>(m δ).map fun d=> .nx (δ.set i (some d))
noncomputable def sRet (m:EM):SM:=fun δ=>(m δ).map fun d=> .rt d δ
noncomputable def sIf (c:Dt->Option Bool) (a b:SM):SM:=fun δ=>(c δ).bind fun x=>if x=true then a δ else b δ
noncomputable def nH (m:EM):SM:=fun δ=>(m δ).map fun _=> .nx δ
noncomputable def loopM (g:Dv->Dt->Option Dt) (body:SM):List Dv->SM
 |[],δ=>some (.nx δ)
 |d::ds,δ=>(g d δ).bind fun δ1=>(body δ1).bind fun r=>match r with
  | .nx δ2=>loopM g body ds δ2
  | .ct δ2=>loopM g body ds δ2
  | .bk δ2=>some (.nx δ2)
  | .rt d δ2=>some (.rt d δ2)
noncomputable def sFor (it:Dt->Option (List Dv)) (g:Dv->Dt->Option Dt) (body:SM):SM:=fun δ=>(it δ).bind fun ds=>loopM g body ds δ
noncomputable def sApp (i:Nat) (m:EM):SM:=fun δ=>(m δ).bind fun d=>(eVar i δ).bind fun x=>match x with
 | .lst ds=>if ds.length<lim/\d.imm=true then some (.nx (δ.set i (some (.lst (ds++[d]))))) else none
 |_=>none
section
variable {X:Cx}{ms:List Nat}{rk k:Kd}{e:Expr}{m:EM}{pos pos':Pos}{st:Stmt}{rest a b:List Stmt}{ma mb:SM}
theorem bz:PDss X ms rk [] aR:=⟨_,rA,fun δ σ H0 H D r R hm hq=>by cases hm;exact hq _ σ H .refl R⟩
theorem am (h1:PDs X ms rk st ma) (h2:PDss X ms rk rest mb):PDss X ms rk (st::rest) (sSeq ma mb):=by
 obtain ⟨t,p,q⟩:=h1
 obtain ⟨u,p2,q2⟩:=h2
 refine ⟨_,rB p p2,fun δ σ H0 H D r R hm hq=> ?_⟩
 obtain ⟨r1,h1,e⟩:=Option.bind_eq_some_iff.mp hm
 refine q δ σ H0 H _ r1 R h1 ?_
 cases r1 with
 |nx δ1=>exact fun W' σ' H' s' R'=>q2 δ1 σ' H0 H' D r R' e (hq.step s')
 |rt d δ1=>cases e;exact hq
 |bk d=>cases e;exact hq
 |ct d=>cases e;exact hq
theorem av (h1:PDs X ms rk st ma):PDss X ms rk [st] ma:=by
 obtain ⟨t,p,q⟩:=h1
 exact ⟨_,rC p,q⟩
theorem Got.ret {H0 H H1:Hp}{v:V}{d:Dv} (g:Got KF k W H H1 v d) (s:Same H0 H) (l:Kd.le k rk) (fr: ∀a,H a=none-> ¬W a):Got KF rk (WE W H0) H0 H1 v d:=by
 cases l with
 |refl=>
  cases rk with
  |one=>obtain ⟨a,ea,h,c⟩:=g;exact ⟨a,ea,bE s h,c⟩
  |dp=>obtain ⟨F,nd,h,c⟩:=g;exact ⟨F,nd,fun b hb=>bE s (h b hb),c⟩
  |imm=>exact g
  |frh=>exact RepF.mono (fun a _ h=>bE s h) g
  |any=>exact RepF.mono (S':=fun b=> ¬WE W H0 b) (fun a _ n (z:WE W H0 a)=>n z.1) g
  |bor=>exact g
 |one_frh=>obtain ⟨a,ea,h,c⟩:=g;subst ea;exact c.rep (bE s h)
 |one_any=>obtain ⟨a,ea,h,c⟩:=g;subst ea;exact c.rep (S:=fun b=> ¬WE W H0 b) (show¬WE W H0 a from fun z=>fr _ h z.1)
 |imm_frh=>exact RepF.mono (fun _ _ z=>z.elim) g
 |imm_any=>exact RepF.mono (fun _ _ z=>z.elim) g
 |frh_any=>exact RepF.mono (S':=fun b=> ¬WE W H0 b) (fun a _ h (z:WE W H0 a)=>fr a h z.1) g
 |bor=>exact g.bor
 |dp_frh=>obtain ⟨F,nd,h,c⟩:=g;exact c.rep fun b hb=>bE s (h b hb)
 |dp_any=>obtain ⟨F,nd,h,c⟩:=g;exact c.rep (S:=fun b=> ¬WE W H0 b) (fun b hb (z:WE W H0 b)=>fr b (h b hb) z.1)
 |one_dp=>
  obtain ⟨a,ea,h,c⟩:=g
  subst ea
  exact ⟨[a],by simp,fun b hb=>by rw [List.mem_singleton.mp hb];exact bE s h,c.tree⟩
 |imm_dp=>exact ⟨[],List.nodup_nil,fun b hb=>(List.not_mem_nil hb).elim,.imm g⟩
theorem uT (h:PD X ms k e m) (l:Kd.le k rk):PDs X ms rk (.Return (some e) pos) (sRet m):=by
 obtain ⟨te,p,q⟩:=h
 refine ⟨_,jD p,fun δ σ H0 H D r R hm hq=> ?_⟩
 obtain ⟨d,hd,rfl⟩:=Option.map_eq_some_iff.mp hm
 refine q δ σ H0 H _ d R hd fun v H' s g=> ?_
 obtain ⟨Φ,f⟩:=(R.same s).foot
 refine hq v _ σ H' Φ (.sm s) (R.same s) f (g.ret R.keep l fun _ z=>R.fresh z) fun e1 j a hj ev ha=> ?_
 subst e1
 cases l with
 |refl=>
  obtain ⟨a',ea,h,_⟩:=g
  rw [ev] at ea;cases ea
  exact R.fresh h (f.wr j a ha).1
theorem aM (h:PD X ms k e m) (l:Kd.le k rk) (n:rk≠ .any):PDs X ms rk (.Return (some e) pos) (sRet m):=uT h l
theorem du {i:Nat} (hi:i∈ms):isOwn ms i=true:=by unfold isOwn;rw [decide_eq_true hi];rfl
theorem eT {i:Nat} (hi:i+1000∈ms):isOwn ms i=true:=by unfold isOwn;rw [decide_eq_true hi,Bool.true_or,Bool.or_true]
theorem Rel.own1 {σ:St}{H0 H:Hp}{δ:Dt}{i:Nat}{d:Dv} (R:Rel KF ms W H0 δ σ H) (hi:i∈ms) (hd:δ[i]?=some (some d)): ∃a,σ[i]?=some (some (.ref a))/\H0 a=none/\Cell KF H a d:=by
 obtain ⟨Φ,f⟩:=R.foot
 obtain ⟨a,ha,o⟩:=f.at_ i d (du hi) hd
 rcases o with ⟨_,e,c⟩|⟨n,_⟩|⟨n,_⟩
 ·exact ⟨a,ha,(f.wr i a (by rw [e];exact List.mem_cons_self ..)).2,c⟩
 ·exact absurd hi n
 ·exact absurd hi n
theorem j6 {i:Nat} (hi:i+2000∈ms):isOwn ms i=true:=by unfold isOwn;rw [decide_eq_true hi,Bool.or_true,Bool.or_true]
theorem uU (i:Nat) {x:Str} (hi:decide (i∈ms)=true) (h:PE X (.Name x pos') (tVar i)) (hz:decide (i+3000∈ms)=false:=by rfl):PDs X ms .one (.Return (some (.Name x pos')) pos) (sRet (eVar i)):=by
 refine ⟨_,jD h,fun δ σ H0 H D r R hm hq=> ?_⟩
 obtain ⟨d,hd,rfl⟩:=Option.map_eq_some_iff.mp hm
 have hi:=of_decide_eq_true hi
 obtain ⟨Φ,f⟩:=R.foot
 obtain ⟨a,hv,o⟩:=f.at_ i d (du hi) (aQ hd)
 rcases o with ⟨_,e,c⟩|⟨n,_⟩|⟨n,_⟩
 ·have ma:a∈Φ i:=by rw [e];exact List.mem_cons_self ..
  refine ⟨_,hv,hq _ _ σ H Φ .refl R f ⟨a,rfl,(f.wr i a ma).2,c⟩ fun _ j b hj ev hb=> ?_⟩
  cases ev
  have:=f.dj i j a ma hb
  subst this
  exact of_decide_eq_false hz hj
 ·exact absurd hi n
 ·exact absurd hi n
theorem bF {c:Expr}{tc:Dt->Option Bool} (hc:PDt X ms c tc) (ha:PDss X ms rk a ma) (hb:PDss X ms rk b mb):PDs X ms rk (.If c a b pos) (sIf tc ma mb):=by
 obtain ⟨t,p,q⟩:=hc
 obtain ⟨ta,pa,qa⟩:=ha
 obtain ⟨tb,pb,qb⟩:=hb
 refine ⟨_,lQ p pa pb,fun δ σ H0 H D r R hm hq=> ?_⟩
 obtain ⟨x,hx,e⟩:=Option.bind_eq_some_iff.mp hm
 refine q δ σ H0 H _ x R hx fun H1 s1=> ?_
 have hq':=hq.step (Stp.sm s1)
 cases x with
 |true=>exact qa δ σ H0 H1 D r (R.same s1) e hq'
 |false=>exact qb δ σ H0 H1 D r (R.same s1) e hq'
theorem nI {te:TE}{i:Nat} (hi:isOwn ms i=false) (q:DE KF ms k te m) (l:Kd.le k .any):DS KF ms rk (tAsg te (eK i)) (sSet i m):=by
 intro W δ σ H0 H D r R hm hq
 obtain ⟨d,hd,rfl⟩:=Option.map_eq_some_iff.mp hm
 refine q δ σ H0 H _ d R hd fun v H' s g=> ?_
 obtain ⟨R',so⟩:=(R.same s).set hi (g.le R l)
 exact hq _ _ H' (.of s so) R'
theorem Rel.chgF {H0 H H':Hp}{δ:Dt}{σ:St}{i:Nat}{a:Addr}{d:Dv}{F G P:List Addr}{Φ:Nat->List Addr} (R:Rel KF ms W H0 δ σ H) (f:Foot KF ms W H0 δ σ H Φ) (hi:isOwn ms i=true) (hP: ∀b∈P,b∈Φ i)
  (c1: ∀b o,H b=some o->b∉P->H' b=some o) (c2: ∀b∈P,∃o,H' b=some o/\Sft o) (c3:F.Nodup) (hG: ∀b∈F,b∈G) (c4: ∀b∈G,b∈P \/H b=none) (c7: ∀b∈G,∃o,H' b=some o/\Sft o) (c5:bd KF ms (fun b=>W b \/b∈G) H' i a d F) (c6:i+3000∈ms->σ[i]?=some (some (.ref a))):
  Rel KF ms (fun b=>W b \/b∈G) H0 (δ.set i (some d)) (σ.set i (some (.ref a))) H'/\Stp ms H0 W σ H (fun b=>W b \/b∈G) (σ.set i (some (.ref a))) H'/\Foot KF ms (fun b=>W b \/b∈G) H0 (δ.set i (some d)) (σ.set i (some (.ref a))) H' (fun j=>if j=i then F else Φ j):=by
 have wP: ∀b∈P,W b:=fun b hb=>(f.wr i b (hP b hb)).1
 have st:dm W H H':=fun b o h n=>c1 b o h fun z=>n (wP b z)
 have kp:aE (fun a=> ¬W a) H H':=dm.keeps R st
 have kpI:aE Imm H H':=kp.mono fun _ z=>z.elim
 have h0P: ∀b∈P,H0 b=none:=fun b hb=>(f.wr i b (hP b hb)).2
 have ft:Foot KF ms (fun b=>W b \/b∈G) H0 (δ.set i (some d)) (σ.set i (some (.ref a))) H' (fun j=>if j=i then F else Φ j):=by
  refine ⟨fun j b hb=> ?_,fun j j' b hb hb'=> ?_,fun j=> ?_,fun j d' n hd=> ?_⟩
  ·split at hb
   ·exact ⟨.inr (hG b hb),(c4 b (hG b hb)).elim (h0P b) (bE R.keep)⟩
   ·exact ⟨.inl (f.wr j b hb).1,(f.wr j b hb).2⟩
  ·have key: ∀{j:Nat},j≠i->b∈F->b∈Φ j->False:=fun {j} ne h1 h2=>by
    rcases c4 b (hG b h1) with z|z
    ·exact ne (f.dj j i b h2 (hP b z))
    ·obtain ⟨o,ho,_⟩:=R.own (f.wr j b h2).1
     rw [z] at ho;cases ho
   split at hb
   ·next e=>
    split at hb'
    ·next e'=>rw [e,e']
    ·next e'=>exact (key e' hb hb').elim
   ·next e=>
    split at hb'
    ·next e'=>exact (key e hb' hb).elim
    ·exact f.dj j j' b hb hb'
  ·split
   ·exact c3
   ·exact f.nd j
  ·by_cases hj:i=j
   ·subst hj
    have hl:i<δ.length:=by
     have:=(List.getElem?_eq_some_iff.mp hd).1
     rwa [List.length_set] at this
    rw [List.getElem?_set_self hl] at hd
    cases hd
    refine ⟨a,List.getElem?_set_self (by rw [R.len];exact hl),?_⟩
    rw [if_pos rfl]
    exact c5
   ·rw [List.getElem?_set_ne hj] at hd|-
    obtain ⟨a',ha',o⟩:=f.at_ j d' n hd
    refine ⟨a',ha',?_⟩
    rw [if_neg (Ne.symm hj)]
    exact o.keep kp (fun b hb ob h=>c1 b ob h fun z=>hj (f.dj i j b (hP b z) hb)) fun b n1 n2 z=>by
     rcases z with z|z
     ·exact n1 z
     ·rcases c4 b z with z|z
      ·exact n1 (wP b z)
      ·exact n2 z
 refine ⟨⟨by rw [List.length_set,List.length_set];exact R.len,fun b o h=> ?_,fun b w=> ?_,fun j d' n hd=> ?_,⟨_,ft⟩⟩,⟨st,fun b w=> ?_,fun b w=> .inl (.inl w),fun j hj hp=> ?_,fun b o h q=> ?_⟩,ft⟩
 ·exact c1 b o (R.keep b o h) fun z=>by rw [h0P b z] at h;cases h
 ·rcases w with w|w
  ·obtain ⟨o,ho,so⟩:=R.soft b w
   by_cases z:b∈P
   ·exact c2 b z
   ·exact ⟨o,c1 b o ho z,so⟩
  ·exact c7 b w
 ·have hj:i≠j:=fun z=>by rw [<-z,hi] at n;cases n
  rw [List.getElem?_set_ne hj] at hd|-
  obtain ⟨v,hv,r⟩:=R.get j d' n hd
  refine ⟨v,hv,(RepF.keep (S:=fun a=> ¬W a/\H a≠none) (kp.mono fun _ z=>z.1) (r.mono fun _ h n=>⟨n,h⟩)).mono fun b _ ⟨n1,n2⟩ z=> ?_⟩
  rcases z with z|z
  ·exact n1 z
  ·rcases c4 b z with z|z
   ·exact n1 (wP b z)
   ·exact n2 z
 ·rcases w with w|w
  ·exact .inl w
  ·rcases c4 b w with z|z
   ·exact .inl (wP b z)
   ·exact .inr z
 ·by_cases e:i=j
  ·subst e
   rw [c6 hp]
   exact List.getElem?_set_self (List.getElem?_eq_some_iff.mp (c6 hp)).1
  ·exact List.getElem?_set_ne e
 ·by_cases z:b∈P
  ·exact c2 b z
  ·exact ⟨o,c1 b o h z,q⟩
theorem Rel.chg {H0 H H':Hp}{δ:Dt}{σ:St}{i:Nat}{a:Addr}{d:Dv}{F P:List Addr}{Φ:Nat->List Addr} (R:Rel KF ms W H0 δ σ H) (f:Foot KF ms W H0 δ σ H Φ) (hi:isOwn ms i=true) (hP: ∀b∈P,b∈Φ i)
  (c1: ∀b o,H b=some o->b∉P->H' b=some o) (c2: ∀b∈P,∃o,H' b=some o/\Sft o) (c3:F.Nodup) (c4: ∀b∈F,b∈P \/H b=none) (c5:bd KF ms (fun b=>W b \/b∈F) H' i a d F) (c6:i+3000∈ms->σ[i]?=some (some (.ref a))):
  Rel KF ms (fun b=>W b \/b∈F) H0 (δ.set i (some d)) (σ.set i (some (.ref a))) H'/\Stp ms H0 W σ H (fun b=>W b \/b∈F) (σ.set i (some (.ref a))) H':=
 let q:=R.chgF f hi hP c1 c2 c3 (fun _ z=>z) c4 c5.there c5 c6;⟨q.1,q.2.1⟩
theorem Rel.setOwn {H0 H H':Hp}{δ:Dt}{σ:St}{i:Nat}{a:Addr}{d:Dv} (R:Rel KF ms W H0 δ σ H) (hi:i∈ms) (s:Same H H') (hn:H a=none) (c:Cell KF H' a d) (hz:i+3000∉ms):
  ∃W':Addr->Prop,Rel KF ms W' H0 (δ.set i (some d)) (σ.set i (some (.ref a))) H'/\Stp ms H0 W σ H W' (σ.set i (some (.ref a))) H':=by
 obtain ⟨Φ,f⟩:=R.foot
 exact ⟨_,R.chg (P:=[]) f (du hi) (fun _ z=>nomatch z) (fun b o h _=>s b o h) (fun _ z=>nomatch z) (by simp) (fun b hb=> .inr (by rw [List.mem_singleton.mp hb];exact hn)) (.inl ⟨hi,rfl,c⟩) fun z=>absurd z hz⟩
theorem Rel.setDeep {H0 H H':Hp}{δ:Dt}{σ:St}{i:Nat}{a:Addr}{d:Dv}{F:List Addr} (R:Rel KF ms W H0 δ σ H) (hi:i+1000∈ms) (hi':i∉ms) (s:Same H H') (nd:F.Nodup) (hn: ∀b∈F,H b=none) (c:Tree KF H' (.ref a) d F) (hz:i+3000∉ms):
  ∃W':Addr->Prop,Rel KF ms W' H0 (δ.set i (some d)) (σ.set i (some (.ref a))) H'/\Stp ms H0 W σ H W' (σ.set i (some (.ref a))) H':=by
 obtain ⟨Φ,f⟩:=R.foot
 exact ⟨_,R.chg (P:=[]) f (eT hi) (fun _ z=>nomatch z) (fun b o h _=>s b o h) (fun _ z=>nomatch z) nd (fun b hb=> .inr (hn b hb)) (.inr (.inl ⟨hi',hi,c⟩)) fun z=>absurd z hz⟩
theorem uV {te:TE}{i:Nat} (hi:decide (i∈ms)=true) (hz:decide (i+3000∈ms)=false) (q:DE KF ms .one te m):DS KF ms rk (tAsg te (eK i)) (sSet i m):=by
 intro W δ σ H0 H D r R hm hq
 obtain ⟨d,hd,rfl⟩:=Option.map_eq_some_iff.mp hm
 refine q δ σ H0 H _ d R hd fun v H' s g=> ?_
 obtain ⟨a,rfl,hn,c⟩:=g
 obtain ⟨W',R',st⟩:=R.setOwn (of_decide_eq_true hi) s hn c (of_decide_eq_false hz)
 exact hq W' _ H' st R'
theorem bH {i:Nat}{x:Str} (hi:isOwn ms i=false) (h:PD X ms k e m) (l:Kd.le k .any) (hN:X.N.Nodup) (hx:X.N[i]?=some x) (hl:Loc X.env.scope x) (hs:swapsWith e (some (.Name x pos')) pos.line X.env=pure false:=by rfl)
  (hf:X.fn x=true \/X.env.scope.names.lookup x=some .local:=by first|exact .inl rfl|exact .inr rfl|assumption):PDs X ms rk (.Assign [.Name x pos'] e pos) (sSet i m):=by
 obtain ⟨te,p,q⟩:=h
 exact ⟨_,eL hN hx hl p hs hf,nI hi q l⟩
theorem ee {i:Nat}{x:Str} (hi:decide (i∈ms)=true) (h:PD X ms .one e m) (hN:X.N.Nodup) (hx:X.N[i]?=some x) (hl:Loc X.env.scope x) (hs:swapsWith e (some (.Name x pos')) pos.line X.env=pure false:=by rfl)
  (hf:X.fn x=true \/X.env.scope.names.lookup x=some .local:=by first|exact .inl rfl|exact .inr rfl|assumption) (hz:decide (i+3000∈ms)=false:=by rfl):PDs X ms rk (.Assign [.Name x pos'] e pos) (sSet i m):=by
 obtain ⟨te,p,q⟩:=h
 exact ⟨_,eL hN hx hl p hs hf,uV hi hz q⟩
section
variable {ms':List Nat}{ρ:List (Option Nat)}{it:Dt->Option (List Dv)}{g:Dv->Dt->Option Dt}{c:Dt->Option Bool}{el:EM}{z:List Nat}{scope:Scope}{tg iter elt:Expr}{ifs:List Expr}{spos cpos:Pos}
theorem nJ {i:Nat}{x:Str} (N':List Str) (ρ:List (Option Nat)) (ms':List Nat) (hi':isOwn ms i=false) (hN:X.N.Nodup) (hx:X.N[i]?=some x) (hl:Loc X.env.scope x) (hc:X.calm=true) (hi:PDi X ms false tg iter it) (hg: ∀C s H fp,PDg (aH X scope N' C s H fp) ms' tg g)
  (ht: ∀C s H fp,PDts (aH X scope N' C s H fp) ms' ifs c) (he: ∀C s H fp,PD (aH X scope N' C s H fp) ms' k elt el) (hz:GExt z g)
  (ck:d4 scope X.env.scope X.N N' ρ=true) (hp:gA ρ ms ms'=true) (hz':z.all (fun i=>decide (ρ[i]?=some none))=true)
  (hsw:swapsWith (.ListComp elt [⟨tg,iter,ifs,0⟩] scope cpos) (some (.Name x pos')) spos.line X.env=pure true:=by rfl) (hs: ∀x,foldedSetIterable iter X.env x=pure x:=by intro _;rfl)
  (hf:X.fn x=true \/X.env.scope.names.lookup x=some .local:=by first|exact .inl rfl|exact .inr rfl|assumption):
  PDs X ms rk (.Assign [.Name x pos'] (.ListComp elt [⟨tg,iter,ifs,0⟩] scope cpos) spos) (sSet i (ba ρ it g c el)):=by
 obtain ⟨wi,pi,qi⟩:=hi
 exact ⟨_,ut N' ρ hN hx hl hc pi (fun C s H fp=>(hg C s H fp).pg) (fun C s H fp=>(ht C s H fp).pts) (fun C s H fp=>(he C s H fp).pe) ck hsw hs hf,nI hi' (nG qi (j5 hp) hz hz') .one_any⟩
end
theorem cC {iter tg:Expr}{body:List Stmt}{it:Dt->Option (List Dv)}{g:Dv->Dt->Option Dt}{mb:SM} (hp:PassesOwn (model X.prog X.w) X.A X.env X.xe) (hc:X.calm=true) (hi:PDi X ms true tg iter it) (hg:PDg X ms tg g) (hb:PDss X ms rk body mb)
  (hs: ∀x,foldedSetIterable iter X.env x=pure x:=by intro _;rfl):PDs X ms rk (.For tg iter body [] pos) (sFor it g mb):=by
 obtain ⟨wi,pi,qi⟩:=hi
 obtain ⟨tg',pg,qg⟩:=hg
 obtain ⟨tb,pb,qb⟩:=hb
 refine ⟨_,lS hp hc pi pg pb hs,fun {W} δ σ H0 H D r R hm hq=> ?_⟩
 obtain ⟨ds,hds,e⟩:=Option.bind_eq_some_iff.mp hm
 refine qi δ σ H0 H _ ds R hds fun J H1 s1 ok=> ?_
 obtain ⟨hlim,ok⟩:=ok
 have hq1:=hq.step (Stp.sm s1)
 refine ⟨fun i n σc Hc=>n=ds.length-i/\i<=ds.length/\(∃Wc:Addr->Prop,Stp ms H0 W σ H1 Wc σc Hc/\ ∃δc,Rel X.K ms Wc H0 δc σc Hc/\loopM g mb (ds.drop i) δc=some r),⟨ds.length,by simp,Nat.zero_le _,W,.refl,δ,R.same s1,by simpa using e⟩,?_⟩
 rintro i n σc Hc ⟨rfl,hi',Wc,sc,δc,Rc,hr⟩
 obtain ⟨go,yl,st⟩:=ok Hc (.inr ⟨rfl,sc.1⟩)
 by_cases hlt:i<ds.length
 ·right
  refine ⟨go i hlt,fun σ' H'=> ∃Wc:Addr->Prop,Stp ms H0 W σ H1 Wc σ' H'/\ ∃δc,Rel X.K ms Wc H0 δc σ' H'/\loopM g mb (ds.drop (i+1)) δc=some r,fun σ' H' a1=>⟨ds.length-(i+1),by lia,rfl,hlt,a1⟩,fun x H' y=> ?_⟩
  obtain ⟨rfl,d,hd,rx⟩:=yl i x H' hlt y
  have hdrop:ds.drop i=d::ds.drop (i+1):=by
   rw [List.drop_eq_getElem_cons hlt]
   congr 1
   rw [List.getElem?_eq_getElem hlt] at hd
   exact Option.some.inj hd
  rw [hdrop,loopM] at hr
  obtain ⟨δ1,h1,hr⟩:=Option.bind_eq_some_iff.mp hr
  obtain ⟨r1,h2,hr⟩:=Option.bind_eq_some_iff.mp hr
  have rx':RepF X.K (fun a=> ¬Wc a) H' x d:=rx.mono fun a ha n z=>by
   rcases sc.2.1 a z with q|q
   ·exact n.1 q
   ·exact n.2 q
  refine qg δc δ1 σc H0 H' x d _ Rc rx' h1 fun σ1 R1 so1=> ?_
  have sc1:=sc.tr (Stp.of (Same.refl _) so1)
  refine qb δ1 σ1 H0 H' _ r1 R1 h2 ?_
  cases r1 with
  |nx δ2=>exact fun W2 σ2 H2 s2 R2=>⟨W2,sc1.tr s2,δ2,R2,hr⟩
  |ct δ2=>exact fun W2 σ2 H2 s2 R2=>⟨W2,sc1.tr s2,δ2,R2,hr⟩
  |bk δ2=>
   cases hr
   exact fun W2 σ2 H2 s2 R2=>hq1 W2 σ2 H2 (sc1.tr s2) R2
  |rt d' δ'=>
   cases hr
   exact hq1.step sc1
 ·left
  have hie:i=ds.length:=by lia
  subst hie
  rw [List.drop_length,loopM] at hr
  cases hr
  exact ⟨st,hq1 Wc σc Hc sc Rc⟩
end
end L2
set_option maxHeartbeats 4000000
namespace L2
open PySem PySem.Spec PyProof.Rows
variable {KF:PySem.W.Frag}{W W':Addr->Prop}
noncomputable def bc (n:Nat) (ds:List Dv):Dt:=ds.map some++List.replicate (n-ds.length) none
noncomputable def aI (n np:Nat) (body:SM) (ds:List Dv):Option Dv:=if ds.length=np then (body (bc n ds)).bind fun r=>match r with
 | .rt d _=>some d
 |_=>none
 else none
noncomputable def spD (KF:PySem.W.Frag) (rk:Kd) (m:List Dv->Option Dv):Sp:=fun vs H Q _=> ∃ds d,RepsF KF (fun _=>True) H vs ds/\m ds=some d/\ ∀v H',Same H H'->Got KF rk W0 H H' v d->Q v H'
theorem Got.call {rk:Kd}{H H1:Hp}{v:V}{d:Dv} (g:Got KF rk W0 H H1 v d) (n:rk≠ .any):Got KF rk W H H1 v d:=by
 cases rk with
 |any=>exact absurd rfl n
 |_=>exact g
theorem nK {ms:List Nat}{H:Hp}{vs:List V}{ds:List Dv}{N:List Str} (r:RepsF KF (fun a=> ¬W a) H vs ds) (hW: ∀a,W a-> ∃o,H a=some o/\Sft o) (hms: ∀i,isOwn ms i=true->ds.length<=i) (hn:ds.length<=N.length):Rel KF ms W H (bc N.length ds) (bp N vs) H:=by
 have hl:=r.length
 have no: ∀{i:Nat}{d:Dv},(bc N.length ds)[i]?=some (some d)->i<ds.length/\ds[i]?=some d:=fun {i d} hd=>by
  unfold bc at hd
  by_cases hi:i<ds.length
  ·rw [List.getElem?_append_left (by rw [List.length_map];exact hi),List.getElem?_map] at hd
   obtain ⟨d',e1,e2⟩:=Option.map_eq_some_iff.mp hd
   cases e2
   exact ⟨hi,e1⟩
  ·rw [List.getElem?_append_right (by rw [List.length_map];lia)] at hd
   have:=List.mem_of_getElem? hd
   rw [List.mem_replicate] at this
   exact nomatch this.2
 refine ⟨?_,fun _ _ z=>z,hW,fun i d n hd=> ?_,fun _=>[],⟨fun _ b hb=>(List.not_mem_nil hb).elim,fun _ _ b hb=>(List.not_mem_nil hb).elim,fun _=>List.nodup_nil,fun i d n hd=> ?_⟩⟩
 ·unfold bp bc
  simp only [List.length_append,List.length_map,List.length_replicate,hl]
 ·obtain ⟨hi,e1⟩:=no hd
  obtain ⟨v,hv,rv⟩:=r.get e1
  refine ⟨v,?_,rv⟩
  unfold bp
  rw [List.getElem?_append_left (by rw [List.length_map];lia),List.getElem?_map,hv]
  rfl
 ·have:=(no hd).1
  have:=hms i n
  lia
theorem uW {ms:List Nat}{H:Hp}{vs:List V}{ds:List Dv}{N:List Str} (r:RepsF KF (fun _=>True) H vs ds) (hms: ∀i,isOwn ms i=true->ds.length<=i) (hn:ds.length<=N.length):Rel KF ms W0 H (bc N.length ds) (bp N vs) H:=
 nK (r.mono fun _ _ _ z=>z) (fun _ w=>w.elim) hms hn
theorem nL {ms:List Nat}{n:Nat} (hms:ms.all (fun i=>decide (n<=if 2000<=i then i-2000 else if 1000<=i then i-1000 else i))=true) {i:Nat} (hi:isOwn ms i=true):n<=i:=by
 unfold isOwn at hi
 rw [Bool.or_eq_true,Bool.or_eq_true] at hi
 rcases hi with hi|hi|hi
 all_goals
  have:=of_decide_eq_true (List.all_eq_true.mp hms _ (of_decide_eq_true hi))
  split at this<;>(try split at this)<;>lia
section
variable {P:Program}{w:World}{K:PySem.W.Frag}{mg:Str->Option Value}{base:Heap}
theorem bQ {x qual:Str}{st:Stmt}{f:Addr}{fd:FuncData}{N ps:List Str}{k:Nat}{rk:Kd}{body:SM} (ms:List Nat) (F:Fun K x qual st f fd) (S:aP N ps (ar st)) (hms:ms.all (fun i=>decide (ps.length<=if 2000<=i then i-2000 else if 1000<=i then i-1000 else i))=true) (hps:decide (ps.length<=N.length)=true)
  (hb: ∀(cdv:Value) (A:Around) (outer:List Env) (s:Shared) (H:Hp) (E:XK),Room k (A.deeper (envOfC qual (ar st) s.heap.objs.size f cdv))->PDss (cxOf CX0 P w K mg base N qual (ar st) f cdv A outer s H E).nox ms rk (aL st) body):
  FnOk P w K mg base CX0 (k+1) f fd ps (spD K rk (aI N.length ps.length body)):=by
 have len: ∀{ds:List Dv}{d:Dv},aI N.length ps.length body ds=some d->ds.length=ps.length:=fun {ds d} h=>by
  unfold aI at h
  split at h
  ·assumption
  ·cases h
 refine F.ok (k:=k) S (fun vs H Q E h=> ?_) fun cdv A outer s H vs Q E hr h=> ?_
 ·obtain ⟨ds,d,r,hm,_⟩:=h
  rw [r.length]
  exact len hm
 ·obtain ⟨ds,d,r,hm,hq⟩:=h
  obtain ⟨t,p,q⟩:=hb cdv A outer s H E hr
  refine ⟨t,p,?_⟩
  have hl:=len hm
  have hps':=of_decide_eq_true hps
  have R:Rel K ms W0 H (bc N.length ds) (bp N vs) H:=uW r (fun i hi=>by rw [hl];exact nL hms hi) (by lia)
  unfold aI at hm
  rw [if_pos hl] at hm
  obtain ⟨fl,hf,e⟩:=Option.bind_eq_some_iff.mp hm
  cases fl with
  |rt d' δ'=>cases e;exact q _ _ H H _ _ R hf fun v W' σ' H' Φ _ R' _ g _=>hq v H' R'.keep (g.weak fun _ z=>z.elim)
  |_=>cases e
end
section
variable {X:Cx}{ms:List Nat}{rk k1:Kd}{a:Expr}{es:List Expr}{ml:Dt->Option (List Dv)}{m:List Dv->Option Dv}{x:Str}{ps:List Str}{p pos:Pos}
theorem aV {k:Nat} (D:Def X.prog X.w X.K X.mg X.base k x ps (spD X.K rk m)) (hr:Room k X.A) (n:rk≠ .any) (ha:PDa X ms k1 (a::es) ml) (hg:Gl X x:=by rfl)
  (hdb:(x==("__debug__":Str))=false:=by decide) (he:starEach (a::es) X.env=(false,eval a X.env)::starEach es X.env:=by rfl) (hpl:(backTo pos (starEach es X.env)).any (·.1)=false:=by rfl):
  PD X ms rk (.Call (.Name x p) (a::es) [] pos) (ah m ml):=by
 obtain ⟨ta,pa,qa⟩:=ha
 refine ⟨_,iw D hr pa hg hdb he hpl,fun δ σ H0 H Q d R hm hq=> ?_⟩
 obtain ⟨xs,hx,e⟩:=Option.bind_eq_some_iff.mp hm
 refine qa δ σ H0 H _ xs R hx fun vs H1 s1 g1=> ?_
 exact ⟨xs,d,g1.bor,e,fun v H' s g=>hq v H' (s1.tr s) ((g.call n).back s1)⟩
end
noncomputable def tyN:Dv->String
 | .non=>"NoneType"
 | .bl _=>"bool"
 | .int _=>"int"
 | .str _=>"str"
 | .lst _=>"list"
 | .tup _=>"tuple"
 | .dic _=>"dict"
 | .scr _=>"list"
 | .fn _=>"list"
 | .fc _ _ _=>"list"
 | .dik _=>"dict"
 | .ins _ _=>"list"
noncomputable def Dv.isScr:Dv->Bool
 | .scr _=>true
 | .fn _=>true
 | .fc _ _ _=>true
 | .ins _ _=>true
 |_=>false
theorem RepF.ty {S:Addr->Prop}{H:Hp}{v:V}{d:Dv} (r:RepF KF S H v d) (hs:d.isScr=false):TyOf KF H v (.type (tyN d)):=by
 cases r with
 |non=>exact .non
 |bl b=>exact .bl b
 |int i=>exact .int i
 |str x=>exact .str x
 |lst s h r=>exact .lst h
 |tup h r=>exact .tup h
 |dic s h r=>exact .dT h
 |scr h=>cases hs
 |fn h=>cases hs
 |fc h=>cases hs
 |dik s h r=>exact .dK h
 |ins s h r=>cases hs
noncomputable def isiN (T C:String):Bool:=T==C||(T=="bool"&&C=="int")
noncomputable def tys:List String:=["NoneType","bool","int","str","list","tuple","dict"]
theorem uX (d:Dv):tyN d∈tys:=by cases d<;>simp [tyN,tys]
noncomputable def kitB (T C:String):Option Bool:=if (Value.type T==Value.type C)=true then some true else (if PySem.W.kitMeta C=true then (fastBuiltinMro T).map (·.contains (.type C)) else none)
theorem uY:(tys.all fun T=>tys.all fun C=>decide (kitB T C=some (isiN T C)))=true:=by decide+kernel
theorem uZ {K:PySem.W.Frag}{T C:String} (h:T∈tys) (h':C∈tys):PySem.W.kitOne K (.type T) (.type C)=some (isiN T C):=by
 have q:=of_decide_eq_true (List.all_eq_true.mp (List.all_eq_true.mp uY T h) C h')
 exact q
noncomputable def eIsi (C:String) (m:EM):EM:=fun δ=>(m δ).bind fun d=>if d.isScr=false then some (.bl (isiN (tyN d) C)) else none
section
variable {X:Cx}{ms:List Nat}{k:Kd}{a:Expr}{m:EM}{p p2 pos:Pos}{c:Str}
theorem gF (C:String) (ha:PD X ms k a m) (hg:Gl X "isinstance") (hm:X.mg "isinstance"=none) (hcg:Gl X c) (hcm:X.mg c=none) (hcb:bootBuiltins c=some (.type C)) (hC:C∈tys:=by decide) (hn:c≠"__name__":=by decide) (hd:(c==("__debug__":Str))=false:=by decide)
  (he:starEach [a,.Name c p2] X.env=(false,eval a X.env)::starEach [.Name c p2] X.env:=by rfl) (he2:starEach [.Name c p2] X.env=(false,eval (.Name c p2) X.env)::starEach [] X.env:=by rfl) (hpl:(backTo pos (starEach [.Name c p2] X.env)).any (·.1)=false:=by rfl):
  PD X ms .imm (.Call (.Name "isinstance" p) [a,.Name c p2] [] pos) (eIsi C m):=by
 obtain ⟨ta,pa,qa⟩:=ha
 have pc:PE X (.Name c p2) (tC (.ty C)):=rc hcg hcm hcb rfl hn hd
 refine ⟨_,mq uu hg hm uv (bK pa (bK pc cY he2) he) (by decide) (by decide) he hpl,fun δ σ H0 H Q d R hm hq=> ?_⟩
 obtain ⟨x,hx,e⟩:=Option.bind_eq_some_iff.mp hm
 split at e
 case isFalse=>cases e
 next hsc=>
 cases e
 refine qa δ σ H0 H _ x R hx fun v H1 s1 g1=> ?_
 exact ⟨v,C,_,_,rfl,g1.bor.ty hsc,uZ (uX x) hC,hq _ H1 s1 (RepF.bl _)⟩
end
section
variable {X:Cx}
theorem PlainL.lt {h:Heap}{a:Addr}{its:Array Value} (p:PlainL h a its):a<h.objs.size:=by
 obtain ⟨o,n,ho,_⟩:=p
 exact Heap.lt_size ho
theorem nM (ns:List Int): ∀k,k<=ns.length->preSum (fun i=>ns.getD i 0) k=(ns.take k).sum
 |0,_=>by simp [preSum]
 |k+1,h=>by
  have hk:k<ns.length:=h
  rw [preSum,nM ns k (by lia),List.take_succ,List.sum_append,List.getElem?_eq_getElem hk]
  simp [List.getD,hk]
theorem u6 (ns:List Int):preSum (fun i=>ns.getD i 0) ns.length=ns.sum:=by
 rw [nM ns ns.length (Nat.le_refl _),List.take_length]
theorem u7 (hc:X.calm=true):cj X (.builtin "sum") (fun xs H Q=> ∃(a:Addr) (ns:List Int),xs=[.ref a]/\SqL X.K H a (ns.map V.int)/\Q (.int ns.sum) H):=by
 intro pins s σ H xs us Q I r h
 obtain ⟨a,ns,rfl,hq,q⟩:=h
 obtain ⟨u,rfl,ru⟩:=r.one
 cases ru
 obtain ⟨its,rv,pl,hz⟩:=I.list hq
 have hlt:=PlainL.lt pl
 have hl:=rv.length
 rw [List.length_map] at hl
 refine call_sum_walkAnyS (wpAny_pyIter_list pl.isList ?_)
 refine ⟨s.heap.objs.size,_,_,_,_,_,_,fun i=>ns.getD i 0,rfl,(Walks.list (A:=X.A.in1) (I.ok.hd hc) s.heap.objs.size a (Nat.ne_of_lt hlt) its.toArray).toS,⟨⟨_,Heap.get?_push_size _ rfl,rfl,rfl⟩,?_⟩,?_,?_,fun s' t' mv=> ?_⟩
 ·obtain ⟨o,n,ho,hcl,hdi,hd⟩:=pl
  exact ⟨o,Heap.get?_push_of_some _ ho,hcl,n,hd⟩
 ·intro b hb
  have hb':b=s.heap.objs.size \/b=a:=by simpa using hb
  show b<(s.heap.push _).objs.size
  rw [Heap.size_push]
  rcases hb' with e|e
  ·rw [e];exact Nat.lt_succ_self _
  ·rw [e];exact Nat.lt_succ_of_lt hlt
 ·intro i v hv
  have hv':its[i]?=some v:=by simpa using hv
  have hi:i<its.length:=(List.getElem?_eq_some_iff.mp hv').1
  have e:(ns.map V.int)[i]?=some (.int (ns.getD i 0)):=by
   rw [List.getElem?_map,List.getElem?_eq_getElem (by lia)]
   simp [List.getD,show i<ns.length by lia]
  obtain ⟨u,hu,ru⟩:=rv.get e
  rw [hv'] at hu
  cases hu
  exact ru
 ·have es:its.toArray.size=ns.length:=by simp [hl]
  rw [es,u6]
  refine ⟨.int ns.sum,H,?_,⟨_,rfl⟩,q⟩
  obtain ⟨h',g',d',k',o'⟩:=s'
  have e1:g'=s.gens:=mv.gens
  have e2:d'=s.drawn:=mv.drawn
  have e3:o'=s.os:=mv.os
  subst e1 e2 e3
  refine I.kept (h':=h') (t':=k') fun b o e=>mv.heap b o (fun z=> ?_) (Heap.get?_push_of_some _ e)
  have z':b=s.heap.objs.size:=by simpa using z
  rw [z'] at e
  exact absurd (Heap.lt_size e) (Nat.lt_irrefl _)
end
noncomputable def nN:List Dv->Option (List Bool)
 |[]=>some []
 | .bl b::r=>(nN r).map (b:: ·)
 |_::_=>none
noncomputable def fAll:List Dv->Option Dv
 |[.lst ds]=>(nN ds).map fun bs=> .bl (bs.all id)
 |_=>none
noncomputable def eU:List Dv->Option (List Int)
 |[]=>some []
 | .int b::r=>(eU r).map (b:: ·)
 |_::_=>none
theorem nO: ∀{ds:List Dv}{bs:List Int},eU ds=some bs->ds=bs.map Dv.int
 |[],_,h=>by cases h;rfl
 |d::r,bs,h=>by
  cases d with
  |int b=>
   obtain ⟨bs',h',rfl⟩:=Option.map_eq_some_iff.mp h
   rw [nO h']
   all_goals rfl
  |_=>cases h
theorem nP: ∀(bs:List Int),eU (bs.map Dv.int)=some bs
 |[]=>rfl
 |b::r=>by rw [List.map_cons,eU,nP r];rfl
noncomputable def fSum:List Dv->Option Dv
 |[.scr ns]=>some (.int ns.sum)
 |[.lst ds]=>(eU ds).map fun ns=> .int ns.sum
 |_=>none
theorem va:dh KF (fun xs H Q=> ∃(a:Addr) (ns:List Int),xs=[.ref a]/\SqL KF H a (ns.map V.int)/\Q (.int ns.sum) H) .imm fSum:=by
 intro W H vs ds d Q r e hq
 cases r with
 |nil=>cases e
 |cons h r=>
  cases r with
  |cons _ _=>cases h<;>cases e
  |nil=>
   cases h with
   |lst s h q=>
    obtain ⟨bs,hb,rfl⟩:=Option.map_eq_some_iff.mp e
    have:=nO hb
    subst this
    have:=q.ints
    subst this
    exact ⟨_,bs,rfl,SqL.of h,hq _ H (fun _ _ z=>z) (RepF.int _)⟩
   |scr h=>cases e;exact ⟨_,_,rfl,h.sq,hq _ H (fun _ _ z=>z) (RepF.int _)⟩
   |_=>cases e
noncomputable def fInt:List Dv->Option Dv
 |[.int i]=>some (.int i)
 |[.bl b]=>some (.int (if b then 1 else 0))
 |_=>none
theorem vb:dh KF (fun xs H Q=>(∃i,xs=[.int i]/\Q (.int i) H) \/ ∃k,xs=[.bl k]/\Q (.int (if k then 1 else 0)) H) .imm fInt:=by
 intro W H vs ds d Q r e hq
 cases r with
 |nil=>cases e
 |cons h r=>
  cases r with
  |cons _ _=>cases h<;>cases e
  |nil=>
   cases h with
   |int i=>cases e;exact .inl ⟨_,rfl,hq _ H (fun _ _ z=>z) (RepF.int _)⟩
   |bl b=>cases e;exact .inr ⟨_,rfl,hq _ H (fun _ _ z=>z) (RepF.int _)⟩
   |_=>cases e
theorem eV {α:Type}: ∀{l:List α}{i:Nat}{x:α},l[i]?=some x->l.set i x=l
 |[],_,_,h=>by simp at h
 |y::l,0,x,h=>by simp at h;subst h;rfl
 |y::l,i+1,x,h=>by rw [List.set_cons_succ,eV (by simpa using h)]
theorem Rel.mut {ms:List Nat}{H0 H:Hp}{δ:Dt}{σ:St}{i:Nat}{a:Addr}{d d0:Dv}{o:HO} (R:Rel KF ms W H0 δ σ H) (hi:i∈ms) (hs:σ[i]?=some (some (.ref a))) (hd:δ[i]?=some (some d0)) (ho: ∀xs,o≠ .tup xs) (hf: ∀b u,o≠ .frz b u) (c:Cell KF (L2.upd H a o) a d):
  ∃W':Addr->Prop,Rel KF ms W' H0 (δ.set i (some d)) σ (L2.upd H a o)/\Stp ms H0 W σ H W' σ (L2.upd H a o):=by
 obtain ⟨Φ,f⟩:=R.foot
 obtain ⟨a',ha',oo⟩:=f.at_ i d0 (du hi) hd
 rw [hs] at ha';cases ha'
 have e:Φ i=[a]:=by
  rcases oo with ⟨_,e,_⟩|⟨n,_⟩|⟨n,_⟩
  ·exact e
  ·exact absurd hi n
  ·exact absurd hi n
 have:=R.chg (P:=[a]) (H':=L2.upd H a o) f (du hi) (fun b hb=>by rw [e];exact hb) (fun b ob h n=>by rw [ag (fun z=>n (by rw [z];exact List.mem_cons_self ..))];exact h)
  (fun b hb=>by rw [List.mem_singleton.mp hb];exact ⟨o,ay,ho,hf⟩) (by simp) (fun b hb=> .inl hb) (.inl ⟨hi,rfl,c⟩)
 rw [eV hs] at this
 exact ⟨_,this fun _=>hs⟩
theorem Rel.getOwn {ms:List Nat}{H0 H:Hp}{δ:Dt}{σ:St}{i:Nat}{d:Dv} (R:Rel KF ms W H0 δ σ H) (hi:i∈ms) (h:eVar i δ=some d): ∃a,σ[i]?=some (some (.ref a))/\Cell KF H a d:=by
 obtain ⟨a,ha,_,c⟩:=R.own1 hi (aQ h)
 exact ⟨a,ha,c⟩
section
variable {X:Cx}{ms:List Nat}{rk k:Kd}{e:Expr}{m:EM}{i:Nat}{x:Str}{np apos cpos pos:Pos}
theorem iJ (hi:decide (i∈ms)=true) (hx:PE X (.Name x np) (tVar i)) (h:PD X ms k e m) (he:starEach [e] X.env=(false,eval e X.env)::starEach [] X.env:=by rfl)
  (hbase:attributeBase (.Name x np) "append" X.env (eval (.Name x np) X.env)=eval (.Name x np) X.env:=by rfl) (hline:(apos.endLine==cpos.line)=true:=by rfl)
  (hfew:((backTo cpos (starEach [e] X.env)).all (fun x=> !x.1)&&(backToKw cpos (keywordEach [] X.env)).all (fun x=>x.1.isSome)
   &&decide (([e]:List Expr).length+([]:List Keyword).length+(if ([]:List Keyword).isEmpty then 0 else 1)<30))=true:=by rfl)
  (hplain:(backTo cpos (starEach [] X.env)).any (·.1)=false:=by rfl)
  (hs:swapsWith (.Call (.Attribute (.Name x np) "append" apos) [e] [] cpos) none pos.line X.env=pure false:=by rfl):
  PDs X ms rk (.Expr (.Call (.Attribute (.Name x np) "append" apos) [e] [] cpos) pos) (sApp i m):=by
 obtain ⟨te,p,q⟩:=h
 refine ⟨_,ii (mB PySem.F.plainAttrs_list PySem.F.slot_list_append PySem.F.type_list_append mE hx (bK p cY he) hbase hfew hline he hplain) hs,fun δ σ H0 H D r R hm hq=> ?_⟩
 have hi:=of_decide_eq_true hi
 obtain ⟨d,hd,e1⟩:=Option.bind_eq_some_iff.mp hm
 obtain ⟨z,hz,e2⟩:=Option.bind_eq_some_iff.mp e1
 cases z with
 |lst ds=>
  simp only at e2
  split at e2
  ·next hl=>
   cases e2
   obtain ⟨a,hsa,xs,hxs,rx⟩:=R.getOwn hi hz
   refine ⟨_,hsa,.inl ⟨rfl,xs,SqL.of hxs⟩,?_⟩
   refine q δ σ H0 H _ d R hd fun v H1 s1 g1=> ?_
   have R1:=R.same s1
   obtain ⟨a',hsa',xs',hxs',rx'⟩:=R1.getOwn hi hz
   rw [hsa] at hsa';cases hsa'
   refine ⟨a,xs',v,rfl,rfl,hxs',by rw [rx'.length];exact Nat.lt_trans hl.1 (by decide),?_⟩
   have nt: ∀ys,HO.lst (xs'++[v])≠ .tup ys:=fun _ z=>nomatch z
   have kp:aE Imm H1 (L2.upd H1 a (.lst (xs'++[v]))):=fun b ob hb k=>by
    rcases k with ⟨ys,rfl⟩|⟨c,u,rfl⟩|k
    ·rw [ag (fun z=>by rw [z,hxs'] at hb;cases hb)];exact hb
    ·rw [ag (fun z=>by rw [z,hxs'] at hb;cases hb)];exact hb
    ·exact k.elim
   have c:Cell X.K (L2.upd H1 a (.lst (xs'++[v]))) a (.lst (ds++[d])):=⟨_,ay,(rx'.keep kp).append (.cons ((g1.imm hl.2).keep kp) .nil)⟩
   obtain ⟨W9,R2,st⟩:=R1.mut hi hsa (aQ hz) nt (fun _ _ z=>nomatch z) c
   exact hq W9 σ _ ((Stp.sm s1).tr st) R2
  ·cases e2
 |_=>cases e2
end
end L2
set_option maxHeartbeats 4000000
namespace L2
open PySem PySem.Spec PyProof.Rows
variable {KF:PySem.W.Frag}{W W':Addr->Prop}
theorem bg:Kd.one≠ .any:=fun z=>nomatch z
theorem aG:Kd.imm≠ .any:=fun z=>nomatch z
theorem vc {H:Hp}{a:Addr}{ns:List Int}{m:List Dv->Option Dv}{E:XK} (hO:Only H) (hS:SqL KF H a (ns.map V.int)) (h:m [.scr ns]=some (.bl true)):spD KF .imm m [.ref a] H (fun v _=>v= .bl true) E:=by
 refine ⟨[.scr ns],_,.cons (.scr ?_) .nil,h,fun v H' s g=> ?_⟩
 ·rcases hS with (hS|⟨o,hS⟩)|hS
  ·rcases hO a with e|⟨o,xs,e⟩
   ·rw [hS] at e;cases e
   ·rw [hS] at e;cases e
  ·exact .inl ⟨o,hS⟩
  ·exact .inr hS
 ·cases g;rfl
noncomputable def opB (f:Dv->Dv->Option Dv):Option Dv->Option Dv->Option Dv
 |some x,some y=>f x y
 |_,_=>none
noncomputable def unB (f:Dv->Option Dv):Option Dv->Option Dv
 |some x=>f x
 |_=>none
noncomputable def immB:Option Dv->Option Dv
 |some x=>if x.imm=true then some x else none
 |_=>none
noncomputable def andB (a:Option Dv) (b:EM) (δ:Dt):Option Dv:=match a with
 |some (.bl true)=>b δ
 |some (.bl false)=>some (.bl false)
 |_=>none
noncomputable def orB (a:Option Dv) (b:EM) (δ:Dt):Option Dv:=match a with
 |some (.bl true)=>some (.bl true)
 |some (.bl false)=>b δ
 |_=>none
noncomputable def ifB {α:Type} (c:Option Bool) (a b:Dt->Option α) (δ:Dt):Option α:=match c with
 |some true=>a δ
 |some false=>b δ
 |none=>none
noncomputable def tofB:Option Dv->Option Bool
 |some (.bl b)=>some b
 |_=>none
noncomputable def iK (c:Option Bool) (b:Dt->Option Bool) (δ:Dt):Option Bool:=match c with
 |some true=>b δ
 |some false=>some false
 |none=>none
noncomputable def torB (c:Option Bool) (b:Dt->Option Bool) (δ:Dt):Option Bool:=match c with
 |some true=>some true
 |some false=>b δ
 |none=>none
noncomputable def nQ:Option Bool->Option Bool
 |some b=>some (!b)
 |none=>none
noncomputable def nR:Option Dv->Option (List Dv)->Option (List Dv)
 |some x,some xs=>some (x::xs)
 |_,_=>none
noncomputable def tupB:Option (List Dv)->Option Dv
 |some xs=>if xs.length<=lim then some (.tup xs) else none
 |none=>none
noncomputable def lstB:Option (List Dv)->Option Dv
 |some xs=>if xs.length<=lim then some (.lst xs) else none
 |none=>none
noncomputable def nS:Option (List Dv)->Option Dv
 |some xs=>if xs.length<=lim/\imms xs=true then some (.lst xs) else none
 |none=>none
noncomputable def nT (f:List Dv->Option Dv):Option (List Dv)->Option Dv
 |some xs=>f xs
 |none=>none
noncomputable def slB:Option Dv->Option (Option Int)->Option (Option Int)->Option Dv
 |some (.lst ds),some l,some h=>if imms (cutD ds l h)=true then some (.lst (cutD ds l h)) else none
 |some (.scr ns),some l,some h=>some (.lst (cutD (ns.map Dv.int) l h))
 |_,_,_=>none
noncomputable def nU:Option Dv->Option (Option Int)
 |some (.int i)=>some (some i)
 |_=>none
noncomputable def seqB (a:Option Fl) (b:SM):Option Fl:=match a with
 |some (.nx δ)=>b δ
 |some r=>some r
 |none=>none
noncomputable def setB (i:Nat) (a:Option Dv) (δ:Dt):Option Fl:=match a with
 |some d=>some (.nx (δ.set i (some d)))
 |none=>none
noncomputable def retB (δ:Dt):Option Dv->Option Fl
 |some d=>some (.rt d δ)
 |none=>none
noncomputable def nV (a:Option Dv) (δ:Dt):Option Fl:=match a with
 |some _=>some (.nx δ)
 |none=>none
noncomputable def forB (a:Option (List Dv)) (g:Dv->Dt->Option Dt) (b:SM) (δ:Dt):Option Fl:=match a with
 |some ds=>loopM g b ds δ
 |none=>none
noncomputable def nW (a:Option (List Dv)) (g:Dv->Dt->Option Dt) (c:Dt->Option Bool) (el:EM) (δ:Dt):Option Dv:=match a with
 |some ds=>(bu g c el δ ds).map .lst
 |none=>none
noncomputable def appB (i:Nat) (a x:Option Dv) (δ:Dt):Option Fl:=match a,x with
 |some d,some (.lst ds)=>if ds.length<lim/\d.imm=true then some (.nx (δ.set i (some (.lst (ds++[d]))))) else none
 |_,_=>none
noncomputable def endB:Option Fl->Option Dv
 |some (.rt d _)=>some d
 |_=>none
theorem eW {f:Dv->Dv->Option Dv}{a b:EM}{δ:Dt}:eOp f a b δ=opB f (a δ) (b δ):=by unfold eOp;cases a δ<;>cases b δ<;>rfl
theorem vd {f:Dv->Option Dv}{a:EM}{δ:Dt}:eUn f a δ=unB f (a δ):=by unfold eUn;cases a δ<;>rfl
theorem ve {a:EM}{δ:Dt}:eImm a δ=immB (a δ):=by unfold eImm;cases a δ<;>rfl
theorem vf {a b:EM}{δ:Dt}:eAnd a b δ=andB (a δ) b δ:=by
 unfold eAnd andB
 cases a δ with
 |none=>rfl
 |some x=>cases x with
  |bl b=>cases b<;>rfl
  |_=>rfl
theorem vg {a b:EM}{δ:Dt}:eOr a b δ=orB (a δ) b δ:=by
 unfold eOr orB
 cases a δ with
 |none=>rfl
 |some x=>cases x with
  |bl b=>cases b<;>rfl
  |_=>rfl
theorem vh {c:Dt->Option Bool}{a b:EM}{δ:Dt}:eIf c a b δ=ifB (c δ) a b δ:=by
 unfold eIf ifB
 cases c δ with
 |none=>rfl
 |some x=>cases x<;>rfl
theorem vi {c:Dt->Option Bool}{a b:SM}{δ:Dt}:sIf c a b δ=ifB (c δ) a b δ:=by
 unfold sIf ifB
 cases c δ with
 |none=>rfl
 |some x=>cases x<;>rfl
theorem vj {a:EM}{δ:Dt}:tOf a δ=tofB (a δ):=by
 unfold tOf tofB nv
 cases a δ with
 |none=>rfl
 |some x=>cases x<;>rfl
theorem vk {a b:Dt->Option Bool}{δ:Dt}:tand a b δ=iK (a δ) b δ:=by
 unfold tand iK
 cases a δ with
 |none=>rfl
 |some x=>cases x<;>rfl
theorem vm {a b:Dt->Option Bool}{δ:Dt}:tor a b δ=torB (a δ) b δ:=by
 unfold tor torB
 cases a δ with
 |none=>rfl
 |some x=>cases x<;>rfl
theorem vn {a:Dt->Option Bool}{δ:Dt}:tnot a δ=nQ (a δ):=by unfold tnot;cases a δ<;>rfl
theorem vo {δ:Dt}:tyes δ=some true:=rfl
theorem vp {δ:Dt}:aNil δ=some []:=rfl
theorem vq {a:EM}{r:Dt->Option (List Dv)}{δ:Dt}:ad a r δ=nR (a δ) (r δ):=by unfold ad;cases a δ<;>cases r δ<;>rfl
theorem vt {a:Dt->Option (List Dv)}{δ:Dt}:eTup a δ=tupB (a δ):=by unfold eTup;cases a δ<;>rfl
theorem vw {a:Dt->Option (List Dv)}{δ:Dt}:eLst a δ=lstB (a δ):=by unfold eLst;cases a δ<;>rfl
theorem vx {a:Dt->Option (List Dv)}{δ:Dt}:be a δ=nS (a δ):=by unfold be;cases a δ<;>rfl
theorem vy {f:List Dv->Option Dv}{a:Dt->Option (List Dv)}{δ:Dt}:ah f a δ=nT f (a δ):=by unfold ah;cases a δ<;>rfl
theorem vz {m:EM}{lo hi:Dt->Option (Option Int)}{δ:Dt}:eSl m lo hi δ=slB (m δ) (lo δ) (hi δ):=by
 unfold eSl
 cases m δ with
 |none=>rfl
 |some x=>cases lo δ<;>cases hi δ<;>cases x<;>rfl
theorem vA {δ:Dt}:jY δ=some none:=rfl
theorem vB {m:EM}{δ:Dt}:iF m δ=nU (m δ):=by
 unfold iF
 cases m δ with
 |none=>rfl
 |some x=>cases x<;>rfl
theorem vC {a b:SM}{δ:Dt}:sSeq a b δ=seqB (a δ) b:=by
 unfold sSeq
 cases a δ with
 |none=>rfl
 |some x=>cases x<;>rfl
theorem vD {i:Nat}{m:EM}{δ:Dt}:sSet i m δ=setB i (m δ) δ:=by unfold sSet;cases m δ<;>rfl
theorem vE {m:EM}{δ:Dt}:sRet m δ=retB δ (m δ):=by unfold sRet;cases m δ<;>rfl
theorem vF {m:EM}{δ:Dt}:nH m δ=nV (m δ) δ:=by unfold nH;cases m δ<;>rfl
theorem vG {δ:Dt}:aR δ=some (.nx δ):=rfl
theorem vH {it:Dt->Option (List Dv)}{g:Dv->Dt->Option Dt}{b:SM}{δ:Dt}:sFor it g b δ=forB (it δ) g b δ:=by unfold sFor;cases it δ<;>rfl
theorem vI {ρ:List (Option Nat)}{it:Dt->Option (List Dv)}{g:Dv->Dt->Option Dt}{c:Dt->Option Bool}{el:EM}{δ:Dt}:ba ρ it g c el δ=nW (it δ) g c el (aO ρ δ):=by unfold ba;cases it δ<;>rfl
theorem vJ {i:Nat}{m:EM}{δ:Dt}:sApp i m δ=appB i (m δ) (eVar i δ) δ:=by
 unfold sApp
 cases m δ with
 |none=>rfl
 |some d=>
  cases eVar i δ with
  |none=>rfl
  |some x=>cases x<;>rfl
theorem eC_b {d:Dv}{δ:Dt}:eC d δ=some d:=rfl
theorem vK {n np:Nat}{body:SM}{ds:List Dv} (h:ds.length=np):aI n np body ds=endB (body (bc n ds)):=by
 unfold aI
 rw [if_pos h]
 cases body (bc n ds) with
 |none=>rfl
 |some x=>cases x<;>rfl
theorem vL {d:Option Dv}{δ:Dt}:eVar 0 (d::δ)=d:=rfl
theorem vM {i:Nat}{d:Option Dv}{δ:Dt}:eVar (i+1) (d::δ)=eVar i δ:=rfl
theorem vN {f:Dv->Dv->Option Dv}{x y:Dv}:opB f (some x) (some y)=f x y:=rfl
theorem vO {f:Dv->Option Dv}{x:Dv}:unB f (some x)=f x:=rfl
theorem vP {x:Dv} (h:x.imm=true):immB (some x)=some x:=by show (if _ then _ else _)=_;rw [if_pos h]
theorem vQ {b:EM}{δ:Dt}:andB (some (.bl true)) b δ=b δ:=rfl
theorem vR {b:EM}{δ:Dt}:andB (some (.bl false)) b δ=some (.bl false):=rfl
theorem vS {b:EM}{δ:Dt}:orB (some (.bl true)) b δ=some (.bl true):=rfl
theorem vT {b:EM}{δ:Dt}:orB (some (.bl false)) b δ=b δ:=rfl
theorem vU {α:Type}{a b:Dt->Option α}{δ:Dt}:ifB (some true) a b δ=a δ:=rfl
theorem vV {α:Type}{a b:Dt->Option α}{δ:Dt}:ifB (some false) a b δ=b δ:=rfl
theorem vW {b:Bool}:tofB (some (.bl b))=some b:=rfl
theorem vX {b:Dt->Option Bool}{δ:Dt}:iK (some true) b δ=b δ:=rfl
theorem vY {b:Dt->Option Bool}{δ:Dt}:iK (some false) b δ=some false:=rfl
theorem vZ {b:Dt->Option Bool}{δ:Dt}:torB (some true) b δ=some true:=rfl
theorem wc {b:Dt->Option Bool}{δ:Dt}:torB (some false) b δ=b δ:=rfl
theorem we {b:Bool}:nQ (some b)=some (!b):=rfl
theorem wf {x:Dv}{xs:List Dv}:nR (some x) (some xs)=some (x::xs):=rfl
theorem wg {xs:List Dv} (h:xs.length<=lim):tupB (some xs)=some (.tup xs):=by show (if _ then _ else _)=_;rw [if_pos h]
theorem wj {xs:List Dv} (h:xs.length<=lim):lstB (some xs)=some (.lst xs):=by show (if _ then _ else _)=_;rw [if_pos h]
theorem wk {xs:List Dv} (h:xs.length<=lim) (h':imms xs=true):nS (some xs)=some (.lst xs):=by show (if xs.length<=lim/\imms xs=true then _ else _)=_;rw [if_pos ⟨h,h'⟩]
theorem wm {f:List Dv->Option Dv}{xs:List Dv}:nT f (some xs)=f xs:=rfl
theorem wn {i:Int}:nU (some (.int i))=some (some i):=rfl
theorem wp {ns:List Int}{l h:Option Int}:slB (some (.scr ns)) (some l) (some h)=some (.lst (cutD (ns.map Dv.int) l h)):=rfl
theorem wq {ds:List Dv}{l h:Option Int} (hi:imms (cutD ds l h)=true):slB (some (.lst ds)) (some l) (some h)=some (.lst (cutD ds l h)):=by
 show (if imms (cutD ds l h)=true then _ else _)=_
 rw [if_pos hi]
theorem wt {δ:Dt}{b:SM}:seqB (some (.nx δ)) b=b δ:=rfl
theorem wu {d:Dv}{δ:Dt}{b:SM}:seqB (some (.rt d δ)) b=some (.rt d δ):=rfl
theorem wv {i:Nat}{d:Dv}{δ:Dt}:setB i (some d) δ=some (.nx (δ.set i (some d))):=rfl
theorem wx {d:Dv}{δ:Dt}:retB δ (some d)=some (.rt d δ):=rfl
theorem wy {d:Dv}{δ:Dt}:nV (some d) δ=some (.nx δ):=rfl
theorem wA {ds:List Dv}{g:Dv->Dt->Option Dt}{b:SM}{δ:Dt}:forB (some ds) g b δ=loopM g b ds δ:=rfl
theorem wB {ds:List Dv}{g:Dv->Dt->Option Dt}{c:Dt->Option Bool}{el:EM}{δ:Dt}:nW (some ds) g c el δ=(bu g c el δ ds).map .lst:=rfl
theorem wC {d:Dv}{δ:Dt}:endB (some (.rt d δ))=some d:=rfl
theorem wD {i:Nat}{d:Dv}{ds:List Dv}{δ:Dt} (h:ds.length<lim) (h':d.imm=true):appB i (some d) (some (.lst ds)) δ=some (.nx (δ.set i (some (.lst (ds++[d]))))):=by
 show (if ds.length<lim/\d.imm=true then _ else _)=_
 rw [if_pos ⟨h,h'⟩]
theorem gN_b {i:Nat}{d:Dv}{δ:Dt}:gN i d δ=some (δ.set i (some d)):=rfl
theorem wE {i j:Int}:dAdd (.int i) (.int j)=some (.int (i+j)):=rfl
theorem wF {i j:Int}:dSub (.int i) (.int j)=some (.int (i-j)):=rfl
theorem wG {i j:Int} (h:0<j):dMod (.int i) (.int j)=some (.int (i%j)):=by show (if 0<j then _ else _)=_;rw [if_pos h]
theorem wH {i j:Int} (h:0<j/\j<1073741824):dDiv (.int i) (.int j)=some (.int (i/j)):=by show (if 0<j/\j<1073741824 then _ else _)=_;rw [if_pos h]
theorem cS {i j:Int} (h:bU i j=true):dMul (.int i) (.int j)=some (.int (i*j)):=by show (if bU i j=true then _ else _)=_;rw [if_pos h]
theorem wI {i j:Int}:dLt (.int i) (.int j)=some (.bl (decide (i<j))):=rfl
theorem wJ {i j:Int}:dLe (.int i) (.int j)=some (.bl (decide (i<=j))):=rfl
theorem wK {i j:Int}:dGt (.int i) (.int j)=some (.bl (decide (j<i))):=rfl
theorem wL {i j:Int}:dGe (.int i) (.int j)=some (.bl (decide (j<=i))):=rfl
theorem wM {i:Int}:dNeg (.int i)=some (.int (-i)):=rfl
theorem wN {b:Bool}:dNot (.bl b)=some (.bl (!b)):=rfl
theorem wO {i j:Int}:dEq (.int i) (.int j)=some (.bl (decide (i=j))):=by
 have h:eqOk (.int i) (.int j)=true:=by
  show (true&&true&&decide (min 1 1<=60))=true
  rfl
 show (if eqOk _ _=true then _ else _)=_
 rw [if_pos h]
 rfl
theorem nX {i j:Int}:dNe (.int i) (.int j)=some (.bl (!decide (i=j))):=by
 have h:eqOk (.int i) (.int j)=true:=by
  show (true&&true&&decide (min 1 1<=60))=true
  rfl
 show (if eqOk _ _=true then _ else _)=_
 rw [if_pos h]
 rfl
theorem wQ {i j:Bool}:dEq (.bl i) (.bl j)=some (.bl (i==j)):=by
 have h:eqOk (.bl i) (.bl j)=true:=by
  show (true&&true&&decide (min 1 1<=60))=true
  rfl
 show (if eqOk _ _=true then _ else _)=_
 rw [if_pos h]
 rfl
theorem wR {xs:List Dv}{i:Int}:dIx (.lst xs) (.int i)=atI xs i:=rfl
theorem wS {xs:List Dv}{i:Int}:dIx (.tup xs) (.int i)=atI xs i:=rfl
theorem wT {xs:List Int}{i:Int}:dIx (.scr xs) (.int i)=(atI xs i).map .int:=rfl
theorem gG {α:Type}{xs:List α}{i:Int}{x:α} (h0:0<=i) (h:xs[i.toNat]?=some x):atI xs i=some x:=by
 have e:((i.toNat:Nat):Int)=i:=Int.toNat_of_nonneg h0
 have:=tf h
 rwa [e] at this
theorem j7 {zs:List Int}{i:Int} (h0:0<=i) (h1:i<(zs.length:Int)):atI (zs.map Dv.int) i=some (.int (zs.getD i.toNat 0)):=by
 refine gG h0 ?_
 have hlt:i.toNat<zs.length:=by lia
 rw [List.getElem?_map,List.getElem?_eq_getElem hlt]
 simp [List.getD,hlt]
theorem dA: ∀(zs:List Int),imms (zs.map Dv.int)=true
 |[]=>rfl
 |z::r=>by rw [List.map_cons,imms,dA r];rfl
theorem cD:lim=100000:=(rfl)
theorem lenc {α:Type}{a:α}{l:List α}:(a::l).length=l.length+1:=(rfl)
theorem lenn {α:Type}:([]:List α).length=0:=(rfl)
theorem cE {i:Int}:Dv.imm (.int i)=true:=(rfl)
theorem wU {i:Bool}:Dv.imm (.bl i)=true:=(rfl)
theorem wV {i:Str}:Dv.imm (.str i)=true:=(rfl)
theorem wW:Dv.imm .non=true:=(rfl)
theorem nY {ds:List Dv}:Dv.imm (.tup ds)=imms ds:=(rfl)
theorem wX:imms []=true:=(rfl)
theorem j8 {d:Dv}{ds:List Dv}:imms (d::ds)=(d.imm&&imms ds):=(rfl)
theorem nZ: ∀{a b:List Dv},imms (a++b)=(imms a&&imms b)
 |[],b=>rfl
 |x::a,b=>by rw [List.cons_append,imms,imms,nZ,Bool.and_assoc]
theorem wY {ds:List Dv}:fLen [.lst ds]=some (.int ds.length):=rfl
theorem wZ {ds:List Dv}:fLen [.tup ds]=some (.int ds.length):=rfl
theorem w6 {ds:List Int}:fLen [.scr ds]=some (.int ds.length):=rfl
theorem xa {ds:List Dv} (h:imms ds=true):dM [.lst ds]=some (.tup ds):=by show (if _ then _ else _)=_;rw [if_pos h]
theorem xb {ds:List Dv} (h:imms ds=true):dM [.tup ds]=some (.tup ds):=by show (if _ then _ else _)=_;rw [if_pos h]
theorem xc {ds:List Dv} (h:imms ds=true):cN [.lst ds]=some (.lst ds):=by show (if _ then _ else _)=_;rw [if_pos h]
theorem xf {ds:List Dv} (h:imms ds=true):cN [.tup ds]=some (.lst ds):=by show (if _ then _ else _)=_;rw [if_pos h]
theorem xg {ds:List Int}:cN [.scr ds]=some (.lst (ds.map .int)):=rfl
theorem xh {a b:List Dv} (h:a.length+b.length<=lim) (h':imms (a++b)=true):dN (.lst a) (.lst b)=some (.lst (a++b)):=by
 unfold dN
 show (Option.bind (if a.length+b.length<=lim then _ else _) _)=_
 rw [if_pos h]
 show (if imms (a++b)=true then _ else _)=_
 rw [if_pos h']
theorem xi {C:String}{m:EM}{δ:Dt}:eIsi C m δ=(match m δ with|some d=>if d.isScr=false then some (.bl (isiN (tyN d) C)) else none|none=>none):=by unfold eIsi;cases m δ<;>rfl
theorem j9 {m:EM}{δ:Dt}{j:Int} (h:m δ=some (.int j)) (hl:0<=j/\j<=100000):iR1 m δ=some (aY 0 j.toNat):=by
 unfold iR1;rw [h]
 show (if _ then _ else _)=_
 rw [if_pos]
 have:(lim:Int)=100000:=rfl
 lia
theorem xj {α:Type} (xs:List α) (k:Nat):cutD xs none (some (k:Int))=xs.take k:=by
 unfold cutD
 rw [HT.sR,HT.sS,List.drop_zero,Nat.sub_zero]
 by_cases h:k<=xs.length
 ·rw [Nat.min_eq_left h]
 ·rw [Nat.min_eq_right (by lia),List.take_of_length_le (Nat.le_refl _),List.take_of_length_le (by lia)]
theorem xk {α β:Type} (f:α->β) (xs:List α) (l h:Option Int):cutD (xs.map f) l h=(cutD xs l h).map f:=by
 unfold cutD
 rw [List.length_map,<-List.map_drop,<-List.map_take]
theorem gH {i j:Int} (h: -(2^63)<=i/\i<=2^63):bU i j=true:=by
 unfold bU
 rw [decide_eq_true (show i.natAbs<2^64 by lia)]
 rfl
theorem ka {i j:Int} (h: -(2^63)<=j/\j<=2^63):bU i j=true:=by
 unfold bU
 rw [decide_eq_true (show j.natAbs<2^64 by lia),Bool.or_true]
 rfl
theorem bV {g:Dv->Dt->Option Dt}{body:SM}: ∀{ds:List Dv}{δ:Dt} (I:Nat->Dt->Prop),I 0 δ->(∀i d δ,ds[i]?=some d->I i δ-> ∃δ1 δ2,g d δ=some δ1/\body δ1=some (.nx δ2)/\I (i+1) δ2)-> ∃δ',loopM g body ds δ=some (.nx δ')/\I ds.length δ'
 |[],δ,I,h0,_=>⟨δ,rfl,h0⟩
 |d::ds,δ,I,h0,st=>by
  obtain ⟨δ1,δ2,h1,h2,h3⟩:=st 0 d δ rfl h0
  obtain ⟨δ',e,h⟩:=bV (ds:=ds) (δ:=δ2) (fun i=>I (i+1)) h3 fun i d δ hd hi=>st (i+1) d δ (by simpa using hd) hi
  refine ⟨δ',?_,h⟩
  rw [loopM,h1]
  show Option.bind (body δ1) _=_
  rw [h2]
  exact e
noncomputable def celM (g:Dv->Dt->Option Dt) (c:Dt->Option Bool) (el:EM) (δ:Dt) (d:Dv):Option (Option Dv):=match g d δ with
 |none=>none
 |some δ1=>match c δ1 with
  |none=>none
  |some false=>some none
  |some true=>match el δ1 with
   |none=>none
   |some x=>if x.imm=true then some (some x) else none
theorem kc {α:Type}{g:Dv->Dt->Option Dt}{c:Dt->Option Bool}{el:EM}{δ:Dt} (enc:α->Dv) (f:α->Option Dv): ∀(xs:List α),(∀x,x∈xs->celM g c el δ (enc x)=some (f x))->bu g c el δ (xs.map enc)=some (xs.filterMap f)
 |[],_=>rfl
 |x::xs,h=>by
  have h0:=h x List.mem_cons_self
  have ih:=kc enc f xs fun y hy=>h y (List.mem_cons_of_mem _ hy)
  rw [List.map_cons,bu,List.filterMap_cons]
  unfold celM at h0
  cases e1:g (enc x) δ with
  |none=>rw [e1] at h0;cases h0
  |some δ1=>
   rw [e1] at h0
   simp only at h0
   rw [Option.bind_some]
   cases e2:c δ1 with
   |none=>rw [e2] at h0;cases h0
   |some b=>
    rw [e2] at h0
    rw [Option.bind_some]
    cases b with
    |false=>
     have e4:none=f x:=Option.some.inj h0
     rw [if_neg Bool.false_ne_true,ih,<-e4]
    |true=>
     simp only at h0
     rw [if_pos rfl]
     cases e3:el δ1 with
     |none=>rw [e3] at h0;cases h0
     |some y=>
      rw [e3] at h0
      simp only at h0
      rw [Option.bind_some]
      split at h0
      ·next hi=>
       have e4:=Option.some.inj h0
       rw [if_pos hi,ih,<-e4]
       rfl
      ·cases h0
noncomputable def cel3:Option Dv->Option (Option Dv)
 |some x=>if x.imm=true then some (some x) else none
 |none=>none
noncomputable def cel2 (b:Option Bool) (el:EM) (δ:Dt):Option (Option Dv):=match b with
 |some true=>cel3 (el δ)
 |some false=>some none
 |none=>none
noncomputable def celB (o:Option Dt) (c:Dt->Option Bool) (el:EM):Option (Option Dv):=match o with
 |some δ=>cel2 (c δ) el δ
 |none=>none
theorem xl {g:Dv->Dt->Option Dt}{c:Dt->Option Bool}{el:EM}{δ:Dt}{d:Dv}:celM g c el δ d=celB (g d δ) c el:=by
 unfold celM celB cel2 cel3
 cases g d δ with
 |none=>rfl
 |some δ1=>
  simp only
  cases c δ1 with
  |none=>rfl
  |some b=>cases b<;>first|rfl|(cases el δ1<;>rfl)
theorem xm {δ:Dt}{c:Dt->Option Bool}{el:EM}:celB (some δ) c el=cel2 (c δ) el δ:=rfl
theorem xn {δ:Dt}{el:EM}:cel2 (some true) el δ=cel3 (el δ):=rfl
theorem xo {δ:Dt}{el:EM}:cel2 (some false) el δ=some none:=rfl
theorem xp {x:Dv} (h:x.imm=true):cel3 (some x)=some (some x):=by show (if _ then _ else _)=_;rw [if_pos h]
theorem iM {lo:Int}{n:Nat}{d:Dv} (h:d∈aY lo n): ∃i:Nat,i<n/\d= .int (lo+(i:Int)):=by
 unfold aY at h
 obtain ⟨i,hi,e⟩:=List.mem_map.mp h
 exact ⟨i,List.mem_range.mp hi,e.symm⟩
theorem kg {i j:Int} (h:0<=j/\j<=1000/\i.natAbs<2^2048):dPow (.int i) (.int j)=some (.int (i^j.toNat)):=by show (if 0<=j/\j<=1000/\i.natAbs<2^2048 then _ else _)=_;rw [if_pos h]
theorem xq {α:Type}{xs:List α}{i:Int} (h0:0<=i) (h1:i<(xs.length:Int)): ∃x,x∈xs/\atI xs i=some x:=by
 have hlt:i.toNat<xs.length:=by lia
 exact ⟨xs[i.toNat],List.getElem_mem hlt,gG h0 (by simp [hlt])⟩
noncomputable def lp2 (r:Option Fl) (g:Dv->Dt->Option Dt) (body:SM) (ds:List Dv):Option Fl:=match r with
 |some (.nx δ)=>loopM g body ds δ
 |some (.ct δ)=>loopM g body ds δ
 |some (.bk δ)=>some (.nx δ)
 |some (.rt d δ)=>some (.rt d δ)
 |none=>none
noncomputable def lp1 (o:Option Dt) (g:Dv->Dt->Option Dt) (body:SM) (ds:List Dv):Option Fl:=match o with
 |some δ=>lp2 (body δ) g body ds
 |none=>none
theorem xr {g:Dv->Dt->Option Dt}{body:SM}{d:Dv}{ds:List Dv}{δ:Dt}:loopM g body (d::ds) δ=lp1 (g d δ) g body ds:=by
 rw [loopM]
 cases g d δ with
 |none=>rfl
 |some δ1=>
  show Option.bind (body δ1) _=lp2 (body δ1) g body ds
  unfold lp2
  cases body δ1 with
  |none=>rfl
  |some r=>cases r<;>rfl
theorem xt {g:Dv->Dt->Option Dt}{body:SM}{δ:Dt}:loopM g body [] δ=some (.nx δ):=rfl
theorem xu {g:Dv->Dt->Option Dt}{body:SM}{ds:List Dv}{δ:Dt}:lp1 (some δ) g body ds=lp2 (body δ) g body ds:=rfl
theorem xv {g:Dv->Dt->Option Dt}{body:SM}{ds:List Dv}{δ:Dt}:lp2 (some (.nx δ)) g body ds=loopM g body ds δ:=rfl
theorem xw {g:Dv->Dt->Option Dt}{body:SM}{ds:List Dv}{δ:Dt}:lp2 (some (.ct δ)) g body ds=loopM g body ds δ:=rfl
theorem xx {g:Dv->Dt->Option Dt}{body:SM}{ds:List Dv}{δ:Dt}:lp2 (some (.bk δ)) g body ds=some (.nx δ):=rfl
theorem xy {g:Dv->Dt->Option Dt}{body:SM}{ds:List Dv}{d:Dv}{δ:Dt}:lp2 (some (.rt d δ)) g body ds=some (.rt d δ):=rfl
theorem gT_b {n:Nat}{g:List Dv->Dt->Option Dt}{ds:List Dv}{δ:Dt} (h:ds.length=n):gT n g (.tup ds) δ=g ds δ:=by
 show (if ds.length=n then _ else _)=_
 rw [if_pos h]
noncomputable def gcB (o:Option Dt) (r:List Dv->Dt->Option Dt) (ds:List Dv):Option Dt:=match o with
 |some δ=>r ds δ
 |none=>none
theorem gC_b {g:Dv->Dt->Option Dt}{r:List Dv->Dt->Option Dt}{d:Dv}{ds:List Dv}{δ:Dt}:gC g r (d::ds) δ=gcB (g d δ) r ds:=by
 show Option.bind (g d δ) (r ds)=_
 cases g d δ<;>rfl
theorem xz {r:List Dv->Dt->Option Dt}{ds:List Dv}{δ:Dt}:gcB (some δ) r ds=r ds δ:=rfl
theorem gZ_b {δ:Dt}:gZ [] δ=some δ:=rfl
noncomputable def ilB:Option Dv->Option (List Dv)
 |some (.lst ds)=>if ds.length<=lim then some ds else none
 |some (.scr ns)=>if ns.length<=lim then some (ns.map .int) else none
 |_=>none
noncomputable def iliB:Option Dv->Option (List Dv)
 |some (.lst ds)=>if ds.length<=lim/\imms ds=true then some ds else none
 |_=>none
noncomputable def itB:Option Dv->Option (List Dv)
 |some (.tup ds)=>if ds.length<=lim then some ds else none
 |_=>none
noncomputable def itiB:Option Dv->Option (List Dv)
 |some (.tup ds)=>if ds.length<=lim/\imms ds=true then some ds else none
 |_=>none
theorem iL_b {m:EM}{δ:Dt}:iL m δ=ilB (m δ):=by
 unfold iL
 cases m δ with
 |none=>rfl
 |some x=>cases x<;>rfl
theorem xA {m:EM}{δ:Dt}:iLI m δ=iliB (m δ):=by
 unfold iLI
 cases m δ with
 |none=>rfl
 |some x=>cases x<;>rfl
theorem iT_b {m:EM}{δ:Dt}:iT m δ=itB (m δ):=by
 unfold iT
 cases m δ with
 |none=>rfl
 |some x=>cases x<;>rfl
theorem xB {m:EM}{δ:Dt}:iTI m δ=itiB (m δ):=by
 unfold iTI
 cases m δ with
 |none=>rfl
 |some x=>cases x<;>rfl
theorem xC {ds:List Dv} (h:ds.length<=lim):ilB (some (.lst ds))=some ds:=by show (if _ then _ else _)=_;rw [if_pos h]
theorem xD {ds:List Int} (h:ds.length<=lim):ilB (some (.scr ds))=some (ds.map .int):=by show (if _ then _ else _)=_;rw [if_pos h]
theorem xE {ds:List Dv} (h:ds.length<=lim) (h':imms ds=true):iliB (some (.lst ds))=some ds:=by show (if ds.length<=lim/\imms ds=true then _ else _)=_;rw [if_pos ⟨h,h'⟩]
theorem xF {ds:List Dv} (h:ds.length<=lim):itB (some (.tup ds))=some ds:=by show (if _ then _ else _)=_;rw [if_pos h]
theorem xG {ds:List Dv} (h:ds.length<=lim) (h':imms ds=true):itiB (some (.tup ds))=some ds:=by show (if ds.length<=lim/\imms ds=true then _ else _)=_;rw [if_pos ⟨h,h'⟩]
end L2
set_option maxHeartbeats 4000000
namespace DhSort
open PySem PyProof.Rows
structure Wk where
 lt:Keyed->Keyed->Bool
 irr: ∀p,lt p p=false
 tra: ∀p q r,lt p q=true->lt q r=true->lt p r=true
 neg: ∀p q r,lt p r=true->lt p q=true \/lt q r=true
namespace Wk
variable {W:Wk}{p q r:Keyed}
noncomputable def le (W:Wk) (p q:Keyed):Prop:=W.lt q p=false
theorem bI:W.le p p:=W.irr p
theorem aC (a:W.le p q) (b:W.le q r):W.le p r:=by
 unfold le at*
 cases h:W.lt r p with
 |false=>rfl
 |true=>
  rcases W.neg r q p h with z|z
  ·rw [b] at z;cases z
  ·rw [a] at z;cases z
theorem aK (a:W.lt p q=true):W.le p q:=by
 unfold le
 cases h:W.lt q p with
 |false=>rfl
 |true=>have:=W.tra _ _ _ a h;rw [W.irr] at this;cases this
theorem cn (a:W.lt p q=true) (b:W.le q r):W.lt p r=true:=by
 rcases W.neg p r q a with z|z
 ·exact z
 ·unfold le at b;rw [b] at z;cases z
theorem cF (a:W.le p q) (b:W.lt q r=true):W.lt p r=true:=by
 rcases W.neg q p r b with z|z
 ·unfold le at a;rw [a] at z;cases z
 ·exact z
end Wk
noncomputable def kAt (xs:Array Keyed) (i:Nat):Keyed:=(xs[i]?).getD (Value.none,Value.none)
theorem gI {xs:Array Keyed}{i:Nat} (h:i<xs.size):xs[i]?=some (kAt xs i):=by
 unfold kAt
 rw [getElem?_pos xs i h]
 rfl
theorem gJ {xs ys:Array Keyed}{i j:Nat} (h:xs[i]?=ys[j]?):kAt xs i=kAt ys j:=by unfold kAt;rw [h]
noncomputable def ax (W:Wk) (xs:Array Keyed) (lo hi:Nat):Prop:= ∀i j,lo<=i->i<=j->j<hi->W.le (kAt xs i) (kAt xs j)
structure Cmp (W:Wk) (kd:SortKind) (good:Keyed->Prop) (prog:Program) (w:World) (A:Around) (s:Shared):Prop where
 ok: ∀p q,good p->good q-> ∀(E:Value->Shared->Prop) (Q:Bool->Shared->Prop),Q (W.lt p q) s->wpAny (model prog w) A (keyLt' kd p.1 q.1) Q E s
structure Bs (a₀:Array Keyed) (kd:SortKind) (P:Array (Nat×Nat×Nat)) (st:SortSt):Prop where
 perm:(arrOf st).Perm a₀
 kind:kindOf st=kd
 failed:failedOf st=none
 pend:pendingOf st=P
section
variable {prog:Program}{w:World}{A:Around}{E:Value->Shared->Prop}{s:Shared}{W:Wk}{kd:SortKind}{good:Keyed->Prop}{a₀:Array Keyed}{P:Array (Nat×Nat×Nat)}{st:SortSt}
theorem Bs.sz (B:Bs a₀ kd P st):(arrOf st).size=a₀.size:=B.perm.size_eq
theorem Bs.gd (B:Bs a₀ kd P st) (hg: ∀p,p∈a₀.toList->good p) {i:Nat} (h:i<a₀.size):good (kAt (arrOf st) i):=by
 have h':i<(arrOf st).size:=by rw [B.sz];exact h
 apply hg
 have e:=gI h'
 have hm:(arrOf st)[i]∈a₀.toList:=(Array.perm_iff_toList_perm.mp B.perm).mem_iff.mp (by simp)
 rw [getElem?_pos _ i h'] at e
 rw [<-Option.some.inj e]
 exact hm
theorem Bs.set (B:Bs a₀ kd P st) {xs:Array Keyed} (hp:xs.Perm (arrOf st)):Bs a₀ kd P (setArr st xs):=⟨hp.trans B.perm,B.kind,B.failed,B.pend⟩
theorem gK (C:Cmp W kd good prog w A s) {p q:Keyed} (hk:kindOf st=kd) (hp:good p) (hq:good q) {Q:Option Bool->SortSt->Prop} (h:Q (some (W.lt p q)) st):wpS (model prog w) A E s (lt' p q) Q st:=by
 rw [lt'_eq]
 refine wpS_bind (wpS_get ?_)
 rw [hk]
 refine wpS_bind (wpS_lift (wpAny_attempt (C.ok p q hp hq _ _ ⟨rfl,?_⟩)))
 exact wpS_pure h
theorem au {arr:Array Keyed}{i:Nat} (hi:i<arr.size) {Q:Keyed->SortSt->Prop} (h:Q (kAt arr i) st):wpS (model prog w) A E s (elem' arr i) Q st:=by
 rw [elem'_eq,gI hi]
 exact wpS_pure h
theorem gL (C:Cmp W kd good prog w A s) (hg: ∀p,p∈a₀.toList->good p) (B:Bs a₀ kd P st) {i j:Nat} (hi:i<a₀.size) (hj:j<a₀.size) {Q:Option Bool->SortSt->Prop}
  (h:Q (some (W.lt (kAt (arrOf st) i) (kAt (arrOf st) j))) st):wpS (model prog w) A E s (ltAt' i j) Q st:=by
 rw [ltAt'_eq]
 refine wpS_bind (wpS_get ?_)
 refine wpS_bind (au (by rw [B.sz];exact hi) (wpS_bind (au (by rw [B.sz];exact hj) ?_)))
 exact gK C B.kind (B.gd hg hi) (B.gd hg hj) h
theorem kh {xs:Array Keyed}{src d:Nat} (hs:src<xs.size) (hd:d<=src) (k:Nat):
  kAt (bubble xs src d) k=if k=src-d then kAt xs src else if src-d<k/\k<=src then kAt xs (k-1) else kAt xs k:=by
 have e:=getElem?_bubble hs d hd k
 split
 ·next h=>rw [if_pos h] at e;exact gJ e
 ·next h=>
  rw [if_neg h] at e
  split
  ·next h'=>rw [if_pos h'] at e;exact gJ e
  ·next h'=>rw [if_neg h'] at e;exact gJ e
theorem xH (C:Cmp W kd good prog w A s) (hg: ∀p,p∈a₀.toList->good p) {lo n ok:Nat}{Q:Bool->SortSt->Prop} (hn:lo+n<=a₀.size) (hok:ok<=n) (B:Bs a₀ kd P st) (hs:ax W (arrOf st) lo (lo+ok))
  (h: ∀st',Bs a₀ kd P st'->ax W (arrOf st') lo (lo+n)->(∀i,i<lo->kAt (arrOf st') i=kAt (arrOf st) i)->Q true st'):wpS (model prog w) A E s (binarySort' lo n ok) Q st:=by
 rw [binarySort'_eq]
 refine wpS_bind (wpS_mono (wpS_forRange (I:=fun k c st'=>c=(none,())/\Bs a₀ kd P st'/\ax W (arrOf st') lo (lo+min k n)/\ ∀i,i<lo->kAt (arrOf st') i=kAt (arrOf st) i)
  (Q:=fun c st'=>c=(none,())/\Bs a₀ kd P st'/\ax W (arrOf st') lo (lo+n)/\ ∀i,i<lo->kAt (arrOf st') i=kAt (arrOf st) i) ?stp ?lst ?beg) ?aft)
 case aft=>
  rintro c st' ⟨rfl,B',hs',hf⟩
  exact wpS_pure (h st' B' hs' hf)
 case beg=>
  refine ⟨rfl,B,fun i j h1 h2 h3=> ?_,fun _ _=>rfl⟩
  by_cases h0:i=j
  ·subst h0;exact Wk.bI
  ·exact hs i j h1 h2 (by lia)
 case lst=>
  rintro c st' ⟨hc,B',hs',hf⟩
  refine ⟨hc,B',?_,hf⟩
  rwa [show min (max (max ok 1) n) n=n by lia] at hs'
 case stp=>
  rintro k c st' h1 h2 ⟨rfl,B',hs',hf⟩
  rw [show min k n=k by lia] at hs'
  have hk:lo+k<a₀.size:=by lia
  refine wpS_bind (wpS_mono (wpS_forRange (I:=fun x c st2=>st2=st'/\ ∃l r,c=(none,l,r)/\l<=r/\r<=k/\r-l<=k-x/\
    (∀i,i<l->W.le (kAt (arrOf st') (lo+i)) (kAt (arrOf st') (lo+k)))/\(∀i,r<=i->i<k->W.lt (kAt (arrOf st') (lo+k)) (kAt (arrOf st') (lo+i))=true))
   (Q:=fun c st2=>st2=st'/\ ∃l r,c=(none,l,r)/\l<=k/\
    (∀i,i<l->W.le (kAt (arrOf st') (lo+i)) (kAt (arrOf st') (lo+k)))/\(∀i,l<=i->i<k->W.lt (kAt (arrOf st') (lo+k)) (kAt (arrOf st') (lo+i))=true)) ?a ?b ?c) ?d)
  case c=>exact ⟨rfl,0,k,rfl,by lia,by lia,by lia,fun i hi=>by lia,fun i h1 h2=>by lia⟩
  case b=>
   rintro c st2 ⟨rfl,l,r,rfl,q1,q2,q3,q4,q5⟩
   obtain rfl:l=r:=by lia
   exact ⟨rfl,l,l,rfl,q2,q4,q5⟩
  case a=>
   rintro x c st2 _ hx ⟨rfl,l,r,rfl,q1,q2,q3,q4,q5⟩
   dsimp only
   by_cases hge:l>=r
   ·rw [if_pos hge]
    obtain rfl:l=r:=by lia
    exact wpS_pure ⟨rfl,l,l,rfl,q2,q4,q5⟩
   ·rw [if_neg hge]
    refine wpS_bind (gL C hg B' hk (by lia) ?_)
    cases hl:W.lt (kAt (arrOf st2) (lo+k)) (kAt (arrOf st2) (lo+(l+r)/2)) with
    |true=>
     simp only [if_true]
     refine wpS_pure ⟨rfl,l,(l+r)/2,rfl,by lia,by lia,by lia,q4,fun i z1 z2=> ?_⟩
     exact Wk.cn hl (hs' _ _ (by lia) (by lia) (by lia))
    |false=>
     simp only [Bool.false_eq_true,if_false]
     refine wpS_pure ⟨rfl,(l+r)/2+1,r,rfl,by lia,by lia,by lia,fun i z1=> ?_,q5⟩
     exact Wk.aC (hs' (lo+i) (lo+(l+r)/2) (by lia) (by lia) (by lia)) hl
  case d=>
   rintro c st2 ⟨rfl,l,r,rfl,q2,q4,q5⟩
   show wpS _ _ _ _ (do moveDown' (lo+k) (lo+l);pure (ForInStep.yield (none,()))) _ _
   rw [moveDown'_eq]
   have hks:lo+k<(arrOf st2).size:=by rw [B'.sz];exact hk
   refine wpS_bind (wpS_modify (wpS_pure ⟨rfl,B'.set (bubble_perm _ _ _),?_,?_⟩))
   ·rw [show min (k+1) n=k+1 by lia]
    intro i j z1 z2 z3
    show W.le (kAt (bubble (arrOf st2) (lo+k) (lo+k-(lo+l))) i) (kAt (bubble (arrOf st2) (lo+k) (lo+k-(lo+l))) j)
    rw [kh hks (by lia),kh hks (by lia),show lo+k-(lo+k-(lo+l))=lo+l by lia]
    have g4: ∀i,lo<=i->i<lo+l->W.le (kAt (arrOf st2) i) (kAt (arrOf st2) (lo+k)):=fun i y1 y2=>by
     have:=q4 (i-lo) (by lia)
     rwa [show lo+(i-lo)=i by lia] at this
    have g5: ∀i,lo+l<=i->i<lo+k->W.le (kAt (arrOf st2) (lo+k)) (kAt (arrOf st2) i):=fun i y1 y2=>by
     have:=q5 (i-lo) (by lia) (by lia)
     rw [show lo+(i-lo)=i by lia] at this
     exact Wk.aK this
    repeat' split
    all_goals first
     |(exfalso;lia)
     |exact Wk.bI
     |exact g4 _ (by lia) (by lia)
     |exact g5 _ (by lia) (by lia)
     |exact hs' _ _ (by lia) (by lia) (by lia)
   ·intro i hi
    show kAt (bubble (arrOf st2) (lo+k) (lo+k-(lo+l))) i=_
    rw [kh hks (by lia),if_neg (by lia),if_neg (by lia)]
    exact hf i hi
end
end DhSort
set_option maxHeartbeats 4000000
namespace DhSort
open PySem PyProof.Rows
section
variable {prog:Program}{w:World}{A:Around}{E:Value->Shared->Prop}{s:Shared}{W:Wk}{kd:SortKind}{good:Keyed->Prop}{a₀:Array Keyed}{P:Array (Nat×Nat×Nat)}{st:SortSt}
noncomputable def cG (W:Wk) (xs:Array Keyed) (lo hi:Nat):Prop:= ∀i j,lo<=i->i<=j->j<hi->W.le (kAt xs j) (kAt xs i)
theorem cH {xs:Array Keyed}{i j:Nat} (hj:j<=xs.size) (k:Nat):kAt (mirror xs i j ((j-i)/2)) k=if i<=k/\k<j then kAt xs (i+j-1-k) else kAt xs k:=by
 have e:=getElem?_mirror_all (i:=i) hj k
 split
 ·next h=>rw [if_pos h] at e;exact gJ e
 ·next h=>rw [if_neg h] at e;exact gJ e
theorem gM (C:Cmp W kd good prog w A s) (hg: ∀p,p∈a₀.toList->good p) {lo a nrem:Nat} (hn:lo+nrem<=a₀.size) (h1:1<=a) (h2:a<=nrem) (B:Bs a₀ kd P st) (hs:ax W (arrOf st) lo (lo+a))
  {Q:Option (Option Nat)×Nat->SortSt->Prop} (h: ∀m,a<=m->m<=nrem->ax W (arrOf st) lo (lo+m)->(m=nrem \/W.lt (kAt (arrOf st) (lo+m)) (kAt (arrOf st) (lo+m-1))=true)->Q (none,m) st):
  wpS (model prog w) A E s (forIn [a:nrem] ((none,a):Option (Option Nat)×Nat) fun _ c=>do
   let x<-ltAt' (lo+c.snd) (lo+c.snd-1)
   match x with
   |some b=>if b=true then pure (ForInStep.done (none,c.snd)) else pure (ForInStep.yield (none,c.snd+1))
   |_=>pure (ForInStep.done (some none,c.snd))) Q st:=by
 refine wpS_mono (wpS_forRange (I:=fun x c st'=>st'=st/\c=(none,x)/\a<=x/\x<=nrem/\ax W (arrOf st) lo (lo+x))
  (Q:=fun c st'=>st'=st/\ ∃m,c=(none,m)/\a<=m/\m<=nrem/\ax W (arrOf st) lo (lo+m)/\(m=nrem \/W.lt (kAt (arrOf st) (lo+m)) (kAt (arrOf st) (lo+m-1))=true)) ?_ ?_ ⟨rfl,rfl,Nat.le_refl _,h2,hs⟩) ?_
 ·rintro x c st' hx1 hx2 ⟨rfl,rfl,q1,q2,q3⟩
  refine wpS_bind (gL C hg B (by lia) (by lia) ?_)
  cases hl:W.lt (kAt (arrOf st') (lo+x)) (kAt (arrOf st') (lo+x-1)) with
  |true=>
   dsimp only
   rw [if_pos rfl]
   exact wpS_pure ⟨rfl,x,rfl,q1,q2,q3,.inr hl⟩
  |false=>
   dsimp only
   rw [if_neg Bool.false_ne_true]
   refine wpS_pure ⟨rfl,rfl,by lia,by lia,fun i j z1 z2 z3=> ?_⟩
   by_cases hj:j<lo+x
   ·exact q3 i j z1 z2 hj
   ·obtain rfl:j=lo+x:=by lia
    by_cases hi:i=lo+x
    ·rw [hi];exact Wk.bI
    ·exact Wk.aC (q3 i (lo+x-1) z1 (by lia) (by lia)) hl
 ·rintro c st' ⟨rfl,rfl,q1,q2,q3⟩
  rw [show max a nrem=nrem by lia] at*
  exact ⟨rfl,nrem,rfl,q1,q2,q3,.inl rfl⟩
 ·rintro c st' ⟨rfl,m,rfl,q1,q2,q3,q4⟩
  exact h m q1 q2 q3 q4
noncomputable def Sim (W:Wk) (xs ys:Array Keyed):Prop:= ∀k,W.le (kAt xs k) (kAt ys k)/\W.le (kAt ys k) (kAt xs k)
theorem iN {xs:Array Keyed}{i j:Nat} (hj:j<=xs.size) (h: ∀k l,i<=k->k<j->i<=l->l<j->W.le (kAt xs k) (kAt xs l)):Sim W xs (mirror xs i j ((j-i)/2)):=by
 intro k
 rw [cH hj]
 split
 ·next q=>exact ⟨h _ _ q.1 q.2 (by lia) (by lia),h _ _ (by lia) (by lia) q.1 q.2⟩
 ·exact ⟨Wk.bI,Wk.bI⟩
theorem cG.sim {xs ys:Array Keyed}{lo hi:Nat} (n:cG W xs lo hi) (m:Sim W xs ys):cG W ys lo hi:=fun i j z1 z2 z3=>Wk.aC (m j).2 (Wk.aC (n i j z1 z2 z3) (m i).1)
theorem dP {i j:Nat}{Q:Unit->SortSt->Prop} (h:Q () (setArr st (mirror (arrOf st) i j ((j-i)/2)))):wpS (model prog w) A E s (reverseSlice' i j) Q st:=by
 rw [reverseSlice'_eq]
 exact wpS_modify h
theorem iO {xs:Array Keyed}{lo n:Nat} (hsz:lo+n<=xs.size) (hd:cG W xs lo (lo+n)):ax W (mirror xs lo (lo+n) ((lo+n-lo)/2)) lo (lo+n):=fun i j z1 z2 z3=>by
 rw [cH hsz,cH hsz,if_pos ⟨z1,by lia⟩,if_pos ⟨by lia,z3⟩]
 exact hd _ _ (by lia) (by lia) (by lia)
theorem n8 (C:Cmp W kd good prog w A s) (hg: ∀p,p∈a₀.toList->good p) {lo m nrem:Nat} (hn:lo+nrem<=a₀.size) (h1:1<=m) (h2:m+1<=nrem) (B:Bs a₀ kd P st) (hd:cG W (arrOf st) lo (lo+(m+1)))
  {Q:Option (Option Nat)×Nat×Nat->SortSt->Prop} (h: ∀x e st',e+1<=x->m+1<=x->x<=nrem->Bs a₀ kd P st'->cG W (arrOf st') lo (lo+x)->
   (∀i j,lo+x-(e+1)<=i->i<lo+x->lo+x-(e+1)<=j->j<lo+x->W.le (kAt (arrOf st') i) (kAt (arrOf st') j))->(∀i,i<lo->kAt (arrOf st') i=kAt (arrOf st) i)->Q (none,x,e) st'):
  wpS (model prog w) A E s (forIn [m+1:nrem] ((none,m+1,0):Option (Option Nat)×Nat×Nat) fun _ c=>do
    let x<-ltAt' (lo+c.snd.fst) (lo+c.snd.fst-1)
    match x with
    |some b=>
     if b=true then
      if c.snd.snd>0 then do
       reverseSlice' (lo+c.snd.fst-(c.snd.snd+1)) (lo+c.snd.fst)
       pure (ForInStep.yield (none,c.snd.fst+1,0))
      else pure (ForInStep.yield (none,c.snd.fst+1,0))
     else do
      let x<-ltAt' (lo+c.snd.fst-1) (lo+c.snd.fst)
      match x with
      |some b=>if b=true then pure (ForInStep.done (none,c.snd.fst,c.snd.snd)) else pure (ForInStep.yield (none,c.snd.fst+1,c.snd.snd+1))
      |_=>pure (ForInStep.done (some none,c.snd.fst,c.snd.snd))
    |_=>pure (ForInStep.done (some none,c.snd.fst,c.snd.snd))) Q st:=by
 have blk: ∀{st':SortSt}{x e:Nat},x<=nrem->Bs a₀ kd P st'->(∀i j,lo+x-(e+1)<=i->i<lo+x->lo+x-(e+1)<=j->j<lo+x->W.le (kAt (arrOf st') i) (kAt (arrOf st') j))->
   Sim W (arrOf st') (mirror (arrOf st') (lo+x-(e+1)) (lo+x) ((lo+x-(lo+x-(e+1)))/2)):=fun {st' x e} hx B' hb=>
  iN (by rw [B'.sz];lia) fun k l z1 z2 z3 z4=>hb k l z1 z2 z3 z4
 have far: ∀{st':SortSt}{x e i:Nat},x<=nrem->e+1<=x->Bs a₀ kd P st'->i<lo \/lo+x<=i->kAt (mirror (arrOf st') (lo+x-(e+1)) (lo+x) ((lo+x-(lo+x-(e+1)))/2)) i=kAt (arrOf st') i:=fun {st' x e i} hx he B' hi=>by
  rw [cH (by rw [B'.sz];lia),if_neg (by lia)]
 refine wpS_mono (wpS_forRange (I:=fun x c st'=> ∃e,c=(none,x,e)/\e+1<=x/\m+1<=x/\x<=nrem/\Bs a₀ kd P st'/\cG W (arrOf st') lo (lo+x)/\
   (∀i j,lo+x-(e+1)<=i->i<lo+x->lo+x-(e+1)<=j->j<lo+x->W.le (kAt (arrOf st') i) (kAt (arrOf st') j))/\ ∀i,i<lo->kAt (arrOf st') i=kAt (arrOf st) i)
  (Q:=fun c st'=> ∃x e,c=(none,x,e)/\e+1<=x/\m+1<=x/\x<=nrem/\Bs a₀ kd P st'/\cG W (arrOf st') lo (lo+x)/\
   (∀i j,lo+x-(e+1)<=i->i<lo+x->lo+x-(e+1)<=j->j<lo+x->W.le (kAt (arrOf st') i) (kAt (arrOf st') j))/\ ∀i,i<lo->kAt (arrOf st') i=kAt (arrOf st) i)
  ?stp ?lst ?beg) ?aft
 case beg=>
  refine ⟨0,rfl,by lia,Nat.le_refl _,h2,B,hd,fun i j z1 z2 z3 z4=> ?_,fun _ _=>rfl⟩
  obtain rfl:i=j:=by lia
  exact Wk.bI
 case lst=>
  rintro c st' ⟨e,rfl,q⟩
  exact ⟨_,e,rfl,q⟩
 case stp=>
  rintro x c st' y1 y2 ⟨e,rfl,q1,q2,q3,B',q5,q6,q7⟩
  dsimp only
  refine wpS_bind (gL C hg B' (by lia) (by lia) ?_)
  cases hl:W.lt (kAt (arrOf st') (lo+x)) (kAt (arrOf st') (lo+x-1)) with
  |true=>
   dsimp only
   rw [if_pos rfl]
   have ext: ∀{ys:Array Keyed},Sim W (arrOf st') ys->cG W ys lo (lo+(x+1)):=fun {ys} sm i j z1 z2 z3=>by
    by_cases hj:j<lo+x
    ·exact (q5.sim sm) i j z1 z2 hj
    ·obtain rfl:j=lo+x:=by lia
     by_cases hi:i=lo+x
     ·rw [hi];exact Wk.bI
     ·exact Wk.aC (sm _).2 (Wk.aC (Wk.aK hl) (Wk.aC (q5 i (lo+x-1) z1 (by lia) (by lia)) (sm i).1))
   have one: ∀{ys:Array Keyed} (i j:Nat),lo+(x+1)-(0+1)<=i->i<lo+(x+1)->lo+(x+1)-(0+1)<=j->j<lo+(x+1)->W.le (kAt ys i) (kAt ys j):=fun i j z1 z2 z3 z4=>by
    obtain rfl:i=j:=by lia
    exact Wk.bI
   by_cases he:e>0
   ·rw [if_pos he]
    refine wpS_bind (dP (wpS_pure ⟨0,rfl,by lia,by lia,by lia,B'.set (mirror_perm _ _ _ _),ext (blk q3 B' q6),one,fun i hi=> ?_⟩))
    exact (far q3 q1 B' (.inl hi)).trans (q7 i hi)
   ·rw [if_neg he]
    exact wpS_pure ⟨0,rfl,by lia,by lia,by lia,B',ext fun _=>⟨Wk.bI,Wk.bI⟩,one,q7⟩
  |false=>
   dsimp only
   rw [if_neg Bool.false_ne_true]
   refine wpS_bind (gL C hg B' (by lia) (by lia) ?_)
   cases hl2:W.lt (kAt (arrOf st') (lo+x-1)) (kAt (arrOf st') (lo+x)) with
   |true=>
    dsimp only
    rw [if_pos rfl]
    exact wpS_pure ⟨x,e,rfl,q1,q2,q3,B',q5,q6,q7⟩
   |false=>
    dsimp only
    rw [if_neg Bool.false_ne_true]
    refine wpS_pure ⟨e+1,rfl,by lia,by lia,by lia,B',fun i j z1 z2 z3=> ?_,fun i j z1 z2 z3 z4=> ?_,q7⟩
    ·by_cases hj:j<lo+x
     ·exact q5 i j z1 z2 hj
     ·obtain rfl:j=lo+x:=by lia
      by_cases hi:i=lo+x
      ·rw [hi];exact Wk.bI
      ·exact Wk.aC hl2 (q5 i (lo+x-1) z1 (by lia) (by lia))
    ·by_cases hi:i=lo+x
     ·by_cases hj:j=lo+x
      ·rw [hi,hj];exact Wk.bI
      ·rw [hi];exact Wk.aC hl2 (q6 (lo+x-1) j (by lia) (by lia) (by lia) (by lia))
     ·by_cases hj:j=lo+x
      ·rw [hj];exact Wk.aC (q6 i (lo+x-1) (by lia) (by lia) (by lia) (by lia)) hl
      ·exact q6 i j (by lia) (by lia) (by lia) (by lia)
 case aft=>
  rintro c st' ⟨x,e,rfl,q1,q2,q3,B',q5,q6,q7⟩
  exact h x e st' q1 q2 q3 B' q5 q6 q7
theorem xI (C:Cmp W kd good prog w A s) (hg: ∀p,p∈a₀.toList->good p) {lo nrem:Nat} (hn:lo+nrem<=a₀.size) (h1:1<=nrem) (B:Bs a₀ kd P st)
  {Q:Option Nat->SortSt->Prop} (h: ∀m st',1<=m->m<=nrem->Bs a₀ kd P st'->ax W (arrOf st') lo (lo+m)->(∀i,i<lo->kAt (arrOf st') i=kAt (arrOf st) i)->Q (some m) st'):
  wpS (model prog w) A E s (countRun' lo nrem) Q st:=by
 rw [countRun'_eq]
 refine wpS_bind (gM C hg hn (Nat.le_refl 1) h1 B (fun i j z1 z2 z3=> ?_) fun m q1 q2 q3 q4=> ?_)
 ·obtain rfl:i=j:=by lia
  exact Wk.bI
 dsimp only
 by_cases he:m=nrem
 ·rw [if_pos (by simpa using he)]
  exact wpS_pure (h m st q1 q2 B q3 fun _ _=>rfl)
 ·rw [if_neg (by simpa using he)]
  have hl:W.lt (kAt (arrOf st) (lo+m)) (kAt (arrOf st) (lo+m-1))=true:=q4.resolve_left he
  have hsz:lo+m<=(arrOf st).size:=by rw [B.sz];lia
  by_cases hm:m>1
  ·rw [if_pos hm]
   refine wpS_bind (gL C hg B (by lia) (by lia) ?_)
   cases hr:W.lt (kAt (arrOf st) lo) (kAt (arrOf st) (lo+m-1)) with
   |true=>
    dsimp only
    rw [if_pos rfl]
    exact wpS_pure (h m st q1 q2 B q3 fun _ _=>rfl)
   |false=>
    dsimp only
    rw [if_neg Bool.false_ne_true]
    refine wpS_bind (dP ?_)
    have eq: ∀k l,lo<=k->k<lo+m->lo<=l->l<lo+m->W.le (kAt (arrOf st) k) (kAt (arrOf st) l):=fun k l z1 z2 z3 z4=>
     Wk.aC (q3 k (lo+m-1) z1 (by lia) (by lia)) (Wk.aC hr (q3 lo l (Nat.le_refl _) z3 z4))
    have sm:=iN (W:=W) (i:=lo) hsz eq
    have B1:=B.set (mirror_perm (arrOf st) lo (lo+m) ((lo+m-lo)/2))
    have fr: ∀i,i<lo->kAt (mirror (arrOf st) lo (lo+m) ((lo+m-lo)/2)) i=kAt (arrOf st) i:=fun i hi=>by rw [cH hsz,if_neg (by lia)]
    have hd:cG W (mirror (arrOf st) lo (lo+m) ((lo+m-lo)/2)) lo (lo+(m+1)):=fun i j z1 z2 z3=>by
     refine Wk.aC (sm j).2 (Wk.aC ?_ (sm i).1)
     by_cases hj:j<lo+m
     ·exact eq j i (by lia) hj z1 (by lia)
     ·obtain rfl:j=lo+m:=by lia
      by_cases hi:i=lo+m
      ·rw [hi];exact Wk.bI
      ·exact Wk.aC (Wk.aK hl) (eq _ _ (by lia) (by lia) z1 (by lia))
    refine wpS_bind (wpS_lift (wpAny_rule ⟨rfl,?_⟩))
    refine wpS_bind (n8 C hg hn q1 (by lia) B1 hd fun x e st' r1 r2 r3 B' r5 r6 r7=> ?_)
    dsimp only
    have hx:lo+x<=(arrOf st').size:=by rw [B'.sz];lia
    by_cases he:e>0
    ·rw [if_pos he]
     refine wpS_bind (dP (wpS_bind (dP ?_)))
     have sm:Sim W (arrOf st') (mirror (arrOf st') (lo+x-(e+1)) (lo+x) ((lo+x-(lo+x-(e+1)))/2)):=iN hx fun k l z1 z2 z3 z4=>r6 k l z1 z2 z3 z4
     have nu:=r5.sim sm
     have hx2:lo+x<=(mirror (arrOf st') (lo+x-(e+1)) (lo+x) ((lo+x-(lo+x-(e+1)))/2)).size:=by rw [mirror_size];exact hx
     have B2:=(B'.set (mirror_perm (arrOf st') (lo+x-(e+1)) (lo+x) ((lo+x-(lo+x-(e+1)))/2))).set (mirror_perm _ lo (lo+x) ((lo+x-lo)/2))
     refine wpS_bind (gM C hg hn (by lia) r3 B2 (iO hx2 nu) fun m2 u1 u2 u3 u4=>wpS_pure (h m2 _ (by lia) u2 B2 u3 fun i hi=> ?_))
     have e1:kAt (mirror (mirror (arrOf st') (lo+x-(e+1)) (lo+x) ((lo+x-(lo+x-(e+1)))/2)) lo (lo+x) ((lo+x-lo)/2)) i=kAt (arrOf st') i:=by
      rw [cH hx2,if_neg (by lia),cH hx,if_neg (by lia)]
     exact e1.trans ((r7 i hi).trans (fr i hi))
    ·rw [if_neg he]
     refine wpS_bind (dP ?_)
     have B2:=B'.set (mirror_perm (arrOf st') lo (lo+x) ((lo+x-lo)/2))
     refine wpS_bind (gM C hg hn (by lia) r3 B2 (iO hx r5) fun m2 u1 u2 u3 u4=>wpS_pure (h m2 _ (by lia) u2 B2 u3 fun i hi=> ?_))
     have e1:kAt (mirror (arrOf st') lo (lo+x) ((lo+x-lo)/2)) i=kAt (arrOf st') i:=by
      rw [cH hx,if_neg (by lia)]
     exact e1.trans ((r7 i hi).trans (fr i hi))
  ·rw [if_neg hm]
   obtain rfl:m=1:=by lia
   have B1:=B
   have fr: ∀i,i<lo->kAt (arrOf st) i=kAt (arrOf st) i:=fun _ _=>rfl
   have hd:cG W (arrOf st) lo (lo+(1+1)):=fun i j z1 z2 z3=>by
    by_cases hij:i=j
    ·subst hij;exact Wk.bI
    ·obtain rfl:i=lo:=by lia
     obtain rfl:j=i+1:=by lia
     exact Wk.aK hl
   refine wpS_bind (wpS_lift (wpAny_rule ⟨rfl,?_⟩))
   refine wpS_bind (n8 C hg hn q1 (by lia) B1 hd fun x e st' r1 r2 r3 B' r5 r6 r7=> ?_)
   dsimp only
   have hx:lo+x<=(arrOf st').size:=by rw [B'.sz];lia
   by_cases he:e>0
   ·rw [if_pos he]
    refine wpS_bind (dP (wpS_bind (dP ?_)))
    have sm:Sim W (arrOf st') (mirror (arrOf st') (lo+x-(e+1)) (lo+x) ((lo+x-(lo+x-(e+1)))/2)):=iN hx fun k l z1 z2 z3 z4=>r6 k l z1 z2 z3 z4
    have nu:=r5.sim sm
    have hx2:lo+x<=(mirror (arrOf st') (lo+x-(e+1)) (lo+x) ((lo+x-(lo+x-(e+1)))/2)).size:=by rw [mirror_size];exact hx
    have B2:=(B'.set (mirror_perm (arrOf st') (lo+x-(e+1)) (lo+x) ((lo+x-(lo+x-(e+1)))/2))).set (mirror_perm _ lo (lo+x) ((lo+x-lo)/2))
    refine wpS_bind (gM C hg hn (by lia) r3 B2 (iO hx2 nu) fun m2 u1 u2 u3 u4=>wpS_pure (h m2 _ (by lia) u2 B2 u3 fun i hi=> ?_))
    have e1:kAt (mirror (mirror (arrOf st') (lo+x-(e+1)) (lo+x) ((lo+x-(lo+x-(e+1)))/2)) lo (lo+x) ((lo+x-lo)/2)) i=kAt (arrOf st') i:=by
     rw [cH hx2,if_neg (by lia),cH hx,if_neg (by lia)]
    exact e1.trans ((r7 i hi).trans (fr i hi))
   ·rw [if_neg he]
    refine wpS_bind (dP ?_)
    have B2:=B'.set (mirror_perm (arrOf st') lo (lo+x) ((lo+x-lo)/2))
    refine wpS_bind (gM C hg hn (by lia) r3 B2 (iO hx r5) fun m2 u1 u2 u3 u4=>wpS_pure (h m2 _ (by lia) u2 B2 u3 fun i hi=> ?_))
    have e1:kAt (mirror (arrOf st') lo (lo+x) ((lo+x-lo)/2)) i=kAt (arrOf st') i:=by
     rw [cH hx,if_neg (by lia)]
    exact e1.trans ((r7 i hi).trans (fr i hi))
end
end DhSort
set_option maxHeartbeats 4000000
namespace DhSort
open PySem PyProof.Rows
noncomputable def gal:Bool->Keyed->Array Keyed->Nat->Nat->Nat->StateT SortSt Sem (Option Nat):=sortPriv%PySem.Builtin.gallop
noncomputable def byd (l:Bool) (key:Keyed) (arr:Array Keyed) (base i:Nat):StateT SortSt Sem (Option Bool):=do
 let x<-elem' arr (base+i)
 if l then lt' x key else return (<-lt' key x).map (!·)
theorem xJ (l:Bool) (key:Keyed) (arr:Array Keyed) (base n h0:Nat):gal l key arr base n h0=(do
 let mut u:=0
 let mut v:=1
 let mut a:=0
 let mut b:=0
 let some rt<-byd l key arr base h0|return none
 if rt then
  let mx:=n-h0
  for _ in [0:n] do
   if v>=mx then break
   let some mo<-byd l key arr base (h0+v)|return none
   if !mo then break
   u:=v
   v:=2*v+1
  a:=h0+u+1
  b:=h0+min v mx
 else
  let mx:=h0+1
  for _ in [0:n] do
   if v>=mx then break
   let some fd<-byd l key arr base (h0-v)|return none
   if fd then break
   u:=v
   v:=2*v+1
  a:=h0+1-min v mx
  b:=h0-u
 for _ in [0:n] do
  if a>=b then break
  let mid:=a+(b-a)/2
  let some mo<-byd l key arr base mid|return none
  if mo then a:=mid+1 else b:=mid
 return some b):=rfl
section
variable {prog:Program}{w:World}{A:Around}{E:Value->Shared->Prop}{s:Shared}{W:Wk}{kd:SortKind}{good:Keyed->Prop}{st:SortSt}
noncomputable def bey (W:Wk) (l:Bool) (key:Keyed) (arr:Array Keyed) (base i:Nat):Bool:=if l then W.lt (kAt arr (base+i)) key else !W.lt key (kAt arr (base+i))
theorem iP (C:Cmp W kd good prog w A s) (hk:kindOf st=kd) {l:Bool}{key:Keyed}{arr:Array Keyed}{base i:Nat} (hi:base+i<arr.size) (g1:good key) (g2:good (kAt arr (base+i))) {Q:Option Bool->SortSt->Prop} (h:Q (some (bey W l key arr base i)) st):
  wpS (model prog w) A E s (byd l key arr base i) Q st:=by
 unfold byd
 refine wpS_bind (au hi ?_)
 unfold bey at h
 cases l with
 |true=>rw [if_pos rfl] at h|-;exact gK C hk g2 g1 h
 |false=>
  rw [if_neg Bool.false_ne_true] at h|-
  exact wpS_bind (gK C hk g1 g2 (wpS_pure h))
theorem n9 (C:Cmp W kd good prog w A s) (hk:kindOf st=kd) {l:Bool}{key:Keyed}{arr:Array Keyed}{base n a b:Nat} (hn:base+n<=arr.size) (g1:good key) (g2: ∀i,i<n->good (kAt arr (base+i)))
  (mono: ∀i j,i<=j->j<n->bey W l key arr base j=true->bey W l key arr base i=true) (hab:a<=b) (hbn:b<=n) (lo: ∀i,i<a->bey W l key arr base i=true) (hi: ∀i,b<=i->i<n->bey W l key arr base i=false)
  {Q:Option (Option Nat)×Nat×Nat->SortSt->Prop}
  (h: ∀k,k<=n->(∀i,i<k->bey W l key arr base i=true)->(∀i,k<=i->i<n->bey W l key arr base i=false)->Q (none,k,k) st):
  wpS (model prog w) A E s (forIn [0:n] ((none,a,b):Option (Option Nat)×Nat×Nat) fun _ c=>
   if c.snd.fst>=c.snd.snd then pure (ForInStep.done (none,c.snd.fst,c.snd.snd))
   else do
    let x<-byd l key arr base (c.snd.fst+(c.snd.snd-c.snd.fst)/2)
    match x with
    |some m=>if m=true then pure (ForInStep.yield (none,c.snd.fst+(c.snd.snd-c.snd.fst)/2+1,c.snd.snd)) else pure (ForInStep.yield (none,c.snd.fst,c.snd.fst+(c.snd.snd-c.snd.fst)/2))
    |_=>pure (ForInStep.done (some none,c.snd.fst,c.snd.snd))) Q st:=by
 refine wpS_mono (wpS_forRange (I:=fun x c st'=>st'=st/\ ∃a b,c=(none,a,b)/\a<=b/\b<=n/\b-a<=n-x/\(∀i,i<a->bey W l key arr base i=true)/\(∀i,b<=i->i<n->bey W l key arr base i=false))
  (Q:=fun c st'=>st'=st/\ ∃k,c=(none,k,k)/\k<=n/\(∀i,i<k->bey W l key arr base i=true)/\(∀i,k<=i->i<n->bey W l key arr base i=false)) ?_ ?_ ⟨rfl,a,b,rfl,hab,hbn,by lia,lo,hi⟩) ?_
 ·rintro x c st' hx1 hx2 ⟨rfl,a,b,rfl,q1,q2,q3,q4,q5⟩
  dsimp only
  by_cases hge:a>=b
  ·rw [if_pos hge]
   obtain rfl:a=b:=by lia
   exact wpS_pure ⟨rfl,a,rfl,q2,q4,q5⟩
  ·rw [if_neg hge]
   refine wpS_bind (iP C hk (by lia) g1 (g2 _ (by lia)) ?_)
   cases hb:bey W l key arr base (a+(b-a)/2) with
   |true=>
    dsimp only
    rw [if_pos rfl]
    exact wpS_pure ⟨rfl,_,_,rfl,by lia,by lia,by lia,fun i z=>mono i (a+(b-a)/2) (by lia) (by lia) hb,q5⟩
   |false=>
    dsimp only
    rw [if_neg Bool.false_ne_true]
    refine wpS_pure ⟨rfl,_,_,rfl,by lia,by lia,by lia,q4,fun i z1 z2=> ?_⟩
    cases q:bey W l key arr base i with
    |false=>rfl
    |true=>rw [mono _ i z1 z2 q] at hb;cases hb
 ·rintro c st' ⟨rfl,a,b,rfl,q1,q2,q3,q4,q5⟩
  obtain rfl:a=b:=by lia
  exact ⟨rfl,a,rfl,q2,q4,q5⟩
 ·rintro c st' ⟨rfl,k,rfl,q1,q2,q3⟩
  exact h k q1 q2 q3
theorem bR (C:Cmp W kd good prog w A s) (hk:kindOf st=kd) {l:Bool}{key:Keyed}{arr:Array Keyed}{base n h0:Nat} (hn:base+n<=arr.size) (hh:h0<n) (g1:good key) (g2: ∀i,i<n->good (kAt arr (base+i)))
  (mono: ∀i j,i<=j->j<n->bey W l key arr base j=true->bey W l key arr base i=true) {Q:Option Nat->SortSt->Prop}
  (h: ∀k,k<=n->(∀i,i<k->bey W l key arr base i=true)->(∀i,k<=i->i<n->bey W l key arr base i=false)->Q (some k) st):wpS (model prog w) A E s (gal l key arr base n h0) Q st:=by
 have nmono: ∀i j,i<=j->j<n->bey W l key arr base i=false->bey W l key arr base j=false:=fun i j z1 z2 z3=>by
  cases q:bey W l key arr base j with
  |false=>rfl
  |true=>rw [mono i j z1 z2 q] at z3;cases z3
 rw [xJ]
 refine wpS_bind (iP C hk (by lia) g1 (g2 _ hh) ?_)
 cases hb:bey W l key arr base h0 with
 |true=>
  dsimp only
  rw [if_pos rfl]
  refine wpS_bind (wpS_mono (wpS_forRange (I:=fun x c st'=>st'=st/\ ∃u v,c=(none,u,v)/\u<v/\x+1<=v/\h0+u<n/\bey W l key arr base (h0+u)=true)
   (Q:=fun c st'=>st'=st/\ ∃u v,c=(none,u,v)/\u<v/\h0+u<n/\bey W l key arr base (h0+u)=true/\(v>=n-h0 \/bey W l key arr base (h0+v)=false)) ?_ ?_ ⟨rfl,0,1,rfl,by lia,by lia,by lia,hb⟩) ?_)
  ·rintro x c st' hx1 hx2 ⟨rfl,u,v,rfl,q1,q2,q3,q4⟩
   dsimp only
   by_cases hge:v>=n-h0
   ·rw [if_pos hge]
    exact wpS_pure ⟨rfl,u,v,rfl,q1,q3,q4,.inl hge⟩
   ·rw [if_neg hge]
    refine wpS_bind (iP C hk (by lia) g1 (g2 _ (by lia)) ?_)
    cases hv:bey W l key arr base (h0+v) with
    |true=>
     dsimp only
     rw [if_neg (by decide)]
     exact wpS_pure ⟨rfl,_,_,rfl,by lia,by lia,by lia,hv⟩
    |false=>
     dsimp only
     rw [if_pos (by decide)]
     exact wpS_pure ⟨rfl,u,v,rfl,q1,q3,q4,.inr hv⟩
  ·rintro c st' ⟨rfl,u,v,rfl,q1,q2,q3,q4⟩
   exact ⟨rfl,u,v,rfl,q1,q3,q4,.inl (by lia)⟩
  ·rintro c st' ⟨rfl,u,v,rfl,q1,q3,q4,q5⟩
   dsimp only
   refine wpS_bind (n9 C hk hn g1 g2 mono (by lia) (by lia) (fun i z=>mono i (h0+u) (by lia) (by lia) q4) (fun i z1 z2=> ?_) fun k r1 r2 r3=>wpS_pure (h k r1 r2 r3))
   rcases q5 with q5|q5
   ·exfalso;lia
   ·exact nmono (h0+v) i (by lia) z2 q5
 |false=>
  dsimp only
  rw [if_neg Bool.false_ne_true]
  refine wpS_bind (wpS_mono (wpS_forRange (I:=fun x c st'=>st'=st/\ ∃u v,c=(none,u,v)/\u<v/\x+1<=v/\u<=h0/\bey W l key arr base (h0-u)=false)
   (Q:=fun c st'=>st'=st/\ ∃u v,c=(none,u,v)/\u<v/\u<=h0/\bey W l key arr base (h0-u)=false/\(v>=h0+1 \/(v<=h0/\bey W l key arr base (h0-v)=true))) ?_ ?_ ⟨rfl,0,1,rfl,by lia,by lia,by lia,hb⟩) ?_)
  ·rintro x c st' hx1 hx2 ⟨rfl,u,v,rfl,q1,q2,q3,q4⟩
   dsimp only
   by_cases hge:v>=h0+1
   ·rw [if_pos hge]
    exact wpS_pure ⟨rfl,u,v,rfl,q1,q3,q4,.inl hge⟩
   ·rw [if_neg hge]
    refine wpS_bind (iP C hk (by lia) g1 (g2 _ (by lia)) ?_)
    cases hv:bey W l key arr base (h0-v) with
    |true=>
     dsimp only
     rw [if_pos rfl]
     exact wpS_pure ⟨rfl,u,v,rfl,q1,q3,q4,.inr ⟨by lia,hv⟩⟩
    |false=>
     dsimp only
     rw [if_neg Bool.false_ne_true]
     exact wpS_pure ⟨rfl,_,_,rfl,by lia,by lia,by lia,hv⟩
  ·rintro c st' ⟨rfl,u,v,rfl,q1,q2,q3,q4⟩
   exact ⟨rfl,u,v,rfl,q1,q3,q4,.inl (by lia)⟩
  ·rintro c st' ⟨rfl,u,v,rfl,q1,q3,q4,q5⟩
   dsimp only
   refine wpS_bind (n9 C hk hn g1 g2 mono (by lia) (by lia) (fun i z=> ?_) (fun i z1 z2=>nmono (h0-u) i z1 z2 q4) fun k r1 r2 r3=>wpS_pure (h k r1 r2 r3))
   rcases q5 with q5|⟨q5,q6⟩
   ·exfalso;lia
   ·exact mono i (h0-v) (by lia) (by lia) q6
end
end DhSort
set_option maxHeartbeats 4000000
namespace DhSort
open PySem PyProof.Rows
structure Laid (W:Wk) (a b out:Array Keyed) (ia ib:Nat):Prop where
 ha:ia<=a.size
 hb:ib<=b.size
 perm:out.toList.Perm (a.toList.take ia++b.toList.take ib)
 srt:out.toList.Pairwise W.le
 toA: ∀x,x∈out.toList-> ∀i,ia<=i->i<a.size->W.le x (kAt a i)
 toB: ∀x,x∈out.toList-> ∀i,ib<=i->i<b.size->W.le x (kAt b i)
theorem eg {a:Array Keyed}{i:Nat} (h:i<a.size):a.toList[i]?=some (kAt a i):=by
 have:=gI h
 simpa using this
theorem oa {a:Array Keyed}{i:Nat} (h:i<a.size):a.toList.take (i+1)=a.toList.take i++[kAt a i]:=by
 rw [List.take_succ,eg h]
 rfl
section
variable {W:Wk}{a b out:Array Keyed}{ia ib:Nat}
theorem Laid.a1 (L:Laid W a b out ia ib) (h:ia<a.size) (sa:ax W a 0 a.size) (hc: ∀j,ib<=j->j<b.size->W.le (kAt a ia) (kAt b j)):Laid W a b (out.push (kAt a ia)) (ia+1) ib:=by
 refine ⟨h,L.hb,?_,?_,?_,?_⟩
 ·rw [Array.toList_push,oa h,List.append_assoc]
  refine (L.perm.append_right _).trans ?_
  rw [List.append_assoc]
  exact List.Perm.append_left _ List.perm_append_comm
 ·rw [Array.toList_push,List.pairwise_append]
  refine ⟨L.srt,List.pairwise_singleton _ _,fun x hx y hy=> ?_⟩
  rw [List.mem_singleton.mp hy]
  exact L.toA x hx ia (Nat.le_refl _) h
 ·intro x hx i z1 z2
  rw [Array.toList_push,List.mem_append] at hx
  rcases hx with hx|hx
  ·exact L.toA x hx i (by lia) z2
  ·rw [List.mem_singleton.mp hx]
   exact sa ia i (Nat.zero_le _) (by lia) z2
 ·intro x hx i z1 z2
  rw [Array.toList_push,List.mem_append] at hx
  rcases hx with hx|hx
  ·exact L.toB x hx i z1 z2
  ·rw [List.mem_singleton.mp hx]
   exact hc i z1 z2
theorem Laid.b1 (L:Laid W a b out ia ib) (h:ib<b.size) (sb:ax W b 0 b.size) (hc: ∀j,ia<=j->j<a.size->W.le (kAt b ib) (kAt a j)):Laid W a b (out.push (kAt b ib)) ia (ib+1):=by
 refine ⟨L.ha,h,?_,?_,?_,?_⟩
 ·rw [Array.toList_push,oa h,<-List.append_assoc]
  exact L.perm.append_right _
 ·rw [Array.toList_push,List.pairwise_append]
  refine ⟨L.srt,List.pairwise_singleton _ _,fun x hx y hy=> ?_⟩
  rw [List.mem_singleton.mp hy]
  exact L.toB x hx ib (Nat.le_refl _) h
 ·intro x hx i z1 z2
  rw [Array.toList_push,List.mem_append] at hx
  rcases hx with hx|hx
  ·exact L.toA x hx i z1 z2
  ·rw [List.mem_singleton.mp hx]
   exact hc i z1 z2
 ·intro x hx i z1 z2
  rw [Array.toList_push,List.mem_append] at hx
  rcases hx with hx|hx
  ·exact L.toB x hx i (by lia) z2
  ·rw [List.mem_singleton.mp hx]
   exact sb ib i (Nat.zero_le _) (by lia) z2
theorem oe {c:Array Keyed}{i k:Nat} (h:i+k<c.size):out++c.extract i (i+(k+1))=(out++c.extract i (i+k)).push (kAt c (i+k)):=by
 apply Array.ext'
 rw [Array.toList_push,Array.toList_append,Array.toList_append,Array.toList_extract,Array.toList_extract,List.append_assoc]
 congr 1
 rw [List.extract_eq_drop_take,List.extract_eq_drop_take,show i+(k+1)-i=k+1 by lia,show i+k-i=k by lia,List.take_succ]
 congr 1
 rw [List.getElem?_drop,eg h]
 rfl
theorem Laid.aN (sa:ax W a 0 a.size): ∀(k:Nat),Laid W a b out ia ib->ia+k<=a.size->(∀i,ia<=i->i<ia+k-> ∀j,ib<=j->j<b.size->W.le (kAt a i) (kAt b j))->Laid W a b (out++a.extract ia (ia+k)) (ia+k) ib
 |0,L,_,_=>by
  have e:out++a.extract ia (ia+0)=out:=by apply Array.ext';simp
  rw [e];exact L
 |k+1,L,h,hc=>by
  have L':=Laid.aN sa k L (by lia) fun i z1 z2=>hc i z1 (by lia)
  rw [oe (by lia)]
  exact L'.a1 (by lia) sa (hc (ia+k) (by lia) (by lia))
theorem Laid.bN (sb:ax W b 0 b.size): ∀(k:Nat),Laid W a b out ia ib->ib+k<=b.size->(∀i,ib<=i->i<ib+k-> ∀j,ia<=j->j<a.size->W.le (kAt b i) (kAt a j))->Laid W a b (out++b.extract ib (ib+k)) ia (ib+k)
 |0,L,_,_=>by
  have e:out++b.extract ib (ib+0)=out:=by apply Array.ext';simp
  rw [e];exact L
 |k+1,L,h,hc=>by
  have L':=Laid.bN sb k L (by lia) fun i z1 z2=>hc i z1 (by lia)
  rw [oe (by lia)]
  exact L'.b1 (by lia) sb (hc (ib+k) (by lia) (by lia))
noncomputable def One (W:Wk) (a b r:Array Keyed):Prop:=r.toList.Perm (a.toList++b.toList)/\r.toList.Pairwise W.le
theorem Laid.one (L:Laid W a b out a.size b.size):One W a b out:=by
 refine ⟨?_,L.srt⟩
 have:=L.perm
 rwa [<-Array.length_toList,<-Array.length_toList,List.take_length,List.take_length] at this
theorem Laid.endA (L:Laid W a b out ia b.size) (sa:ax W a 0 a.size):One W a b (out++a.extract ia a.size++b.extract b.size b.size):=by
 have h:=Laid.aN (b:=b) sa (a.size-ia) L (by have:=L.ha;lia) fun i _ _ j z1 z2=>by lia
 have:=L.ha
 rw [show ia+(a.size-ia)=a.size by lia] at h
 have e:out++a.extract ia a.size++b.extract b.size b.size=out++a.extract ia a.size:=by apply Array.ext';simp
 rw [e]
 exact h.one
theorem Laid.endB (L:Laid W a b out ia ib) (sa:ax W a 0 a.size) (sb:ax W b 0 b.size) (hc: ∀i,ib<=i->i<b.size-> ∀j,ia<=j->j<a.size->W.le (kAt b i) (kAt a j)):One W a b (out++b.extract ib b.size++a.extract ia a.size):=by
 have h1:=Laid.bN (a:=a) sb (b.size-ib) L (by have:=L.hb;lia) fun i z1 z2=>hc i z1 (by have:=L.hb;lia)
 have:=L.hb
 rw [show ib+(b.size-ib)=b.size by lia] at h1
 have h2:=Laid.aN (b:=b) sa (a.size-ia) h1 (by have:=L.ha;lia) fun i _ _ j z1 z2=>by lia
 have:=L.ha
 rw [show ia+(a.size-ia)=a.size by lia] at h2
 exact h2.one
theorem xK:Laid W a b #[] 0 0:=⟨Nat.zero_le _,Nat.zero_le _,by simp,.nil,fun x hx=>by simp at hx,fun x hx=>by simp at hx⟩
end
noncomputable def mLo:Array Keyed->Array Keyed->StateT SortSt Sem (Array Keyed):=sortPriv%PySem.Builtin.mergeLo
noncomputable abbrev iQ (g:Nat):StateT SortSt Sem Unit:=modify fun st=>SortSt.mk' (kindOf st) (arrOf st) (pendingOf st) g (failedOf st)
theorem xL (a b:Array Keyed):mLo a b=(do
 rule "list.sort.merge-lo"
 let tot:=a.size+b.size
 let fin (o:Array Keyed) (x y:Nat):=o++a.extract x a.size++b.extract y b.size
 let fla (o:Array Keyed) (x y:Nat):=o++b.extract y b.size++a.extract x a.size
 let mut o:Array Keyed:= #[<-elem' b 0]
 let mut x:=0
 let mut y:=1
 if y==b.size then return fin o x y
 if x+1==a.size then return fla o x y
 let mut mg:=gallopOf (<-get)
 for _ in [0:tot] do
  let mut ca:=0
  let mut cb:=0
  for _ in [0:tot] do
   let some bw<-lt' (<-elem' b y) (<-elem' a x)|return fin o x y
   if bw then
    o:=o.push (<-elem' b y);y:=y+1;cb:=cb+1;ca:=0
    if y==b.size then return fin o x y
    if cb>=mg then break
   else
    o:=o.push (<-elem' a x);x:=x+1;ca:=ca+1;cb:=0
    if x+1==a.size then return fla o x y
    if ca>=mg then break
  rule "list.sort.gallop"
  mg:=mg+1
  for _ in [0:tot] do
   if mg>1 then mg:=mg-1
   iQ mg
   let some k<-gal false (<-elem' b y) a x (a.size-x) 0|return fin o x y
   ca:=k
   if k>0 then
    o:=o++a.extract x (x+k);x:=x+k
    if x+1==a.size then return fla o x y
    if x==a.size then return fin o x y
   o:=o.push (<-elem' b y);y:=y+1
   if y==b.size then return fin o x y
   let some k<-gal true (<-elem' a x) b y (b.size-y) 0|return fin o x y
   cb:=k
   if k>0 then
    o:=o++b.extract y (y+k);y:=y+k
    if y==b.size then return fin o x y
   o:=o.push (<-elem' a x);x:=x+1
   if x+1==a.size then return fla o x y
   if ca<7&&cb<7 then break
  mg:=mg+1
  iQ mg
 unsupported "internal:list.sort.merge-bound"):=rfl
section
variable {prog:Program}{w:World}{A:Around}{E:Value->Shared->Prop}{s:Shared}{W:Wk}{kd:SortKind}{good:Keyed->Prop}{st:SortSt}
theorem xM (C:Cmp W kd good prog w A s) (hk:kindOf st=kd) {a b:Array Keyed} (ha:1<=a.size) (hb:1<=b.size) (ga: ∀i,i<a.size->good (kAt a i)) (gb: ∀i,i<b.size->good (kAt b i)) (sa:ax W a 0 a.size) (sb:ax W b 0 b.size)
  (h0:W.lt (kAt b 0) (kAt a 0)=true) (h1:W.lt (kAt b (b.size-1)) (kAt a (a.size-1))=true) {Q:Array Keyed->SortSt->Prop}
  (h: ∀r g,One W a b r->Q r (SortSt.mk' (kindOf st) (arrOf st) (pendingOf st) g (failedOf st))):wpS (model prog w) A E s (mLo a b) Q st:=by
 rw [xL]
 refine wpS_bind (wpS_lift (wpAny_rule ⟨rfl,?_⟩))
 refine wpS_bind (au (by lia) ?_)
 dsimp only
 have lastlt: ∀y,y<b.size->W.lt (kAt b y) (kAt a (a.size-1))=true:=fun y hy=>Wk.cF (sb y (b.size-1) (Nat.zero_le _) (by lia) (by lia)) h1
 have fla_ok: ∀{o:Array Keyed}{x y:Nat},Laid W a b o x y->x+1=a.size->One W a b (o++b.extract y b.size++a.extract x a.size):=fun {o x y} L hx=>L.endB sa sb fun i z1 z2 j z3 z4=>by
  obtain rfl:j=a.size-1:=by lia
  exact Wk.aK (lastlt i z2)
 have fin_ok: ∀{o:Array Keyed}{x y:Nat},Laid W a b o x y->y=b.size->One W a b (o++a.extract x a.size++b.extract y b.size):=fun {o x y} L hy=>by
  subst hy
  exact L.endA sa
 have L0:Laid W a b #[kAt b 0] 0 1:=(xK (W:=W) (a:=a) (b:=b)).b1 (by lia) sb fun j z1 z2=>Wk.aK (Wk.cn h0 (sa 0 j (Nat.zero_le _) z1 z2))
 have same:st=SortSt.mk' (kindOf st) (arrOf st) (pendingOf st) (gallopOf st) (failedOf st):=rfl
 by_cases hb1:1=b.size
 ·rw [if_pos (by simpa using hb1)]
  exact wpS_pure (h _ (gallopOf st) (fin_ok L0 hb1))
 rw [if_neg (by simpa using hb1)]
 by_cases ha1:0+1=a.size
 ·rw [if_pos (by simpa using ha1)]
  exact wpS_pure (h _ (gallopOf st) (fla_ok L0 ha1))
 rw [if_neg (by simpa using ha1)]
 refine wpS_bind (wpS_get ?_)
 refine wpS_bind (wpS_mono (wpS_forRange (I:=fun t c st'=> ∃o x y mg g,c=(none,o,x,y,mg)/\st'=SortSt.mk' (kindOf st) (arrOf st) (pendingOf st) g (failedOf st)/\Laid W a b o x y/\x+1<a.size/\y<b.size/\t<=x+y)
  (Q:=fun c st'=> ∃r m g,c=(some r,m)/\st'=SortSt.mk' (kindOf st) (arrOf st) (pendingOf st) g (failedOf st)/\One W a b r) ?stp ?lst ⟨_,_,_,_,gallopOf st,rfl,rfl,L0,by lia,by lia,by lia⟩) ?aft)
 case aft=>
  rintro c st' ⟨r,m,g,rfl,rfl,one⟩
  exact wpS_pure (h r g one)
 case lst=>
  rintro c st' ⟨o,x,y,mg,g,rfl,rfl,L,z1,z2,z3⟩
  exfalso;lia
 case stp=>
  rintro t c st' ht1 ht2 ⟨o,x,y,mg,g,rfl,rfl,L,bx,bY,pr⟩
  dsimp only
  refine wpS_bind (wpS_mono (wpS_forRange (I:=fun t' c st'=>st'=SortSt.mk' (kindOf st) (arrOf st) (pendingOf st) g (failedOf st)/\ ∃o x y ca cb,c=(none,o,x,y,ca,cb)/\Laid W a b o x y/\x+1<a.size/\y<b.size/\t+t'<=x+y)
   (Q:=fun c st'=>st'=SortSt.mk' (kindOf st) (arrOf st) (pendingOf st) g (failedOf st)/\((∃r m,c=(some r,m)/\One W a b r) \/ ∃o x y ca cb,c=(none,o,x,y,ca,cb)/\Laid W a b o x y/\x+1<a.size/\y<b.size/\t+1<=x+y)) ?s1 ?l1 ⟨rfl,_,_,_,_,_,rfl,L,bx,bY,by lia⟩) ?a1)
  case l1=>
   rintro c st' ⟨rfl,o,x,y,ca,cb,rfl,L,z1,z2,z3⟩
   exfalso;lia
  case s1=>
   rintro t' c st' _ ht' ⟨rfl,o,x,y,ca,cb,rfl,L,bx,bY,pr⟩
   dsimp only
   refine wpS_bind (au bY (wpS_bind (au (by lia) ?_)))
   refine wpS_bind (gK (st:=SortSt.mk' (kindOf st) (arrOf st) (pendingOf st) g (failedOf st)) C hk (gb y bY) (ga x (by lia)) ?_)
   cases hl:W.lt (kAt b y) (kAt a x) with
   |true=>
    dsimp only
    rw [if_pos rfl]
    refine wpS_bind (au bY ?_)
    have L1:=L.b1 bY sb fun j z1 z2=>Wk.aK (Wk.cn hl (sa _ _ (Nat.zero_le _) z1 z2))
    by_cases hy:y+1=b.size
    ·rw [if_pos (by simpa using hy)]
     exact wpS_pure ⟨rfl,.inl ⟨_,_,rfl,fin_ok L1 hy⟩⟩
    ·rw [if_neg (by simpa using hy)]
     by_cases hc:cb+1>=mg
     ·rw [if_pos hc]
      exact wpS_pure ⟨rfl,.inr ⟨_,_,_,_,_,rfl,L1,bx,by lia,by lia⟩⟩
     ·rw [if_neg hc]
      exact wpS_pure ⟨rfl,_,_,_,_,_,rfl,L1,bx,by lia,by lia⟩
   |false=>
    dsimp only
    rw [if_neg Bool.false_ne_true]
    refine wpS_bind (au (by lia) ?_)
    have L1:=L.a1 (by lia) sa fun j z1 z2=>Wk.aC hl (sb _ _ (Nat.zero_le _) z1 z2)
    by_cases hx:x+1+1=a.size
    ·rw [if_pos (by simpa using hx)]
     exact wpS_pure ⟨rfl,.inl ⟨_,_,rfl,fla_ok L1 hx⟩⟩
    ·rw [if_neg (by simpa using hx)]
     by_cases hc:ca+1>=mg
     ·rw [if_pos hc]
      exact wpS_pure ⟨rfl,.inr ⟨_,_,_,_,_,rfl,L1,by lia,bY,by lia⟩⟩
     ·rw [if_neg hc]
      exact wpS_pure ⟨rfl,_,_,_,_,_,rfl,L1,by lia,bY,by lia⟩
  case a1=>
   rintro c st' ⟨rfl,⟨r,m,rfl,one⟩|⟨o,x,y,ca,cb,rfl,L,bx,bY,pr⟩⟩
   ·dsimp only
    exact wpS_pure ⟨_,_,_,rfl,rfl,one⟩
   ·dsimp only
    refine wpS_bind (wpS_lift (wpAny_rule ⟨rfl,?_⟩))
    refine wpS_bind (wpS_mono (wpS_forRange (I:=fun t' c st'=> ∃o x y mg ca cb g,c=(none,o,x,y,mg,ca,cb)/\st'=SortSt.mk' (kindOf st) (arrOf st) (pendingOf st) g (failedOf st)/\Laid W a b o x y/\x+1<a.size/\y<b.size/\t+1+t'<=x+y)
     (Q:=fun c st'=>(∃r m g,c=(some r,m)/\st'=SortSt.mk' (kindOf st) (arrOf st) (pendingOf st) g (failedOf st)/\One W a b r) \/ ∃o x y mg ca cb g,c=(none,o,x,y,mg,ca,cb)/\st'=SortSt.mk' (kindOf st) (arrOf st) (pendingOf st) g (failedOf st)/\Laid W a b o x y/\x+1<a.size/\y<b.size/\t+1<=x+y) ?s2 ?l2 ⟨_,_,_,_,_,_,g,rfl,rfl,L,bx,bY,by lia⟩) ?a2)
    case l2=>
     rintro c st' ⟨o,x,y,mg,ca,cb,g,rfl,rfl,L,z1,z2,z3⟩
     exfalso;lia
    case a2=>
     rintro c st' (⟨r,m,g,rfl,rfl,one⟩|⟨o,x,y,mg,ca,cb,g,rfl,rfl,L,bx,bY,pr⟩)
     ·dsimp only
      exact wpS_pure ⟨_,_,_,rfl,rfl,one⟩
     ·dsimp only
      refine wpS_bind (wpS_modify ?_)
      exact wpS_pure ⟨_,_,_,_,_,rfl,rfl,L,bx,bY,by lia⟩
    case s2=>
     rintro t' c st' _ ht' ⟨o,x,y,mg,ca,cb,g,rfl,rfl,L,bx,bY,pr⟩
     dsimp only
     by_cases hmg:mg>1
     ·rw [if_pos hmg]
      refine wpS_bind (wpS_modify ?_)
      have hk':kindOf (SortSt.mk' (kindOf st) (arrOf st) (pendingOf st) (mg-1) (failedOf st))=kd:=hk
      refine wpS_bind (au (by lia) ?_)
      refine wpS_bind (bR C hk' (by lia) (by lia) (gb _ (by lia)) (fun i z=>ga _ (by lia)) (fun i j z1 z2 z3=> ?_) fun k u1 u2 u3=> ?_)
      ·unfold bey at z3|-
       rw [if_neg Bool.false_ne_true] at z3|-
       have q0:W.lt (kAt b y) (kAt a (x+j))=false:=by simpa using z3
       have q1:W.le (kAt a (x+i)) (kAt b y):=Wk.aC (sa _ _ (Nat.zero_le _) (by lia) (by lia)) q0
       have q2:W.lt (kAt b y) (kAt a (x+i))=false:=q1
       simpa using q2
      ·have le1: ∀j,x<=j->j<x+k->W.le (kAt a j) (kAt b y):=fun j z1 z2=>by
        have:=u2 (j-x) (by lia)
        unfold bey at this
        rw [if_neg Bool.false_ne_true,show x+(j-x)=j by lia] at this
        have q0:W.lt (kAt b y) (kAt a j)=false:=by simpa using this
        exact q0
       have gt0: ∀j,x+k<=j->j<a.size->W.lt (kAt b y) (kAt a j)=true:=fun j z1 z2=>by
        have:=u3 (j-x) (by lia) (by lia)
        unfold bey at this
        rw [if_neg Bool.false_ne_true,show x+(j-x)=j by lia] at this
        simpa using this
       have hkx:x+k<a.size:=by
        rcases Nat.lt_or_ge (x+k) a.size with z|z
        ·exact z
        ·have z1:=le1 (a.size-1) (by lia) (by lia)
         have z2:=lastlt y (by lia)
         unfold Wk.le at z1
         rw [z2] at z1
         cases z1
       dsimp only
       by_cases hk1:k>0
       ·rw [if_pos hk1]
        have L1:=Laid.aN sa k L (by lia) fun j z1 z2 i z3 z4=>Wk.aC (le1 j z1 z2) (sb _ _ (Nat.zero_le _) z3 z4)
        by_cases hx1:x+k+1=a.size
        ·rw [if_pos (by simpa using hx1)]
         exact wpS_pure (.inl ⟨_,_,_,rfl,rfl,fla_ok L1 hx1⟩)
        ·rw [if_neg (by simpa using hx1),if_neg (by simp;lia)]
         have gt1:=gt0
         have bx1:x+k+1<a.size:=by lia
         have px1:x<=x+k:=by lia
         generalize o++a.extract x (x+k)=o1 at L1|-
         generalize x+k=x1 at L1 gt1 bx1 px1|-
         refine wpS_bind (au (by lia) ?_)
         have L2:=L1.b1 (by lia) sb fun j z1 z2=>Wk.aK (gt1 j z1 z2)
         by_cases hy1:y+1=b.size
         ·rw [if_pos (by simpa using hy1)]
          exact wpS_pure (.inl ⟨_,_,_,rfl,rfl,fin_ok L2 hy1⟩)
         ·rw [if_neg (by simpa using hy1)]
          refine wpS_bind (au (by lia) ?_)
          refine wpS_bind (bR C hk' (by lia) (by lia) (ga _ (by lia)) (fun i z=>gb _ (by lia)) (fun i j z1 z2 z3=> ?_) fun k2 u1 u2 u3=> ?_)
          ·unfold bey at z3|-
           rw [if_pos rfl] at z3|-
           exact Wk.cF (sb _ _ (Nat.zero_le _) (by lia) (by lia)) z3
          ·have lt2: ∀j,y+1<=j->j<y+1+k2->W.lt (kAt b j) (kAt a x1)=true:=fun j z1 z2=>by
            have:=u2 (j-(y+1)) (by lia)
            unfold bey at this
            rw [if_pos rfl,show y+1+(j-(y+1))=j by lia] at this
            exact this
           have ge2: ∀j,y+1+k2<=j->j<b.size->W.le (kAt a x1) (kAt b j):=fun j z1 z2=>by
            have:=u3 (j-(y+1)) (by lia) (by lia)
            unfold bey at this
            rw [if_pos rfl,show y+1+(j-(y+1))=j by lia] at this
            exact this
           dsimp only
           by_cases hk2:k2>0
           ·rw [if_pos hk2]
            have L3:=Laid.bN sb k2 L2 (by lia) fun j z1 z2 i z3 z4=>Wk.aK (Wk.cn (lt2 j z1 z2) (sa _ _ (Nat.zero_le _) z3 z4))
            by_cases hy2:y+1+k2=b.size
            ·rw [if_pos (by simpa using hy2)]
             exact wpS_pure (.inl ⟨_,_,_,rfl,rfl,fin_ok L3 hy2⟩)
            ·rw [if_neg (by simpa using hy2)]
             have lb2:=ge2
             refine wpS_bind (au (by lia) ?_)
             have L4:=L3.a1 (by lia) sa lb2
             by_cases hx3:x1+1+1=a.size
             ·rw [if_pos (by simpa using hx3)]
              exact wpS_pure (.inl ⟨_,_,_,rfl,rfl,fla_ok L4 hx3⟩)
             ·rw [if_neg (by simpa using hx3)]
              by_cases hcc:(decide (k<7)&&decide (k2<7))=true
              ·rw [if_pos hcc]
               exact wpS_pure (.inr ⟨_,_,_,_,_,_,_,rfl,rfl,L4,by lia,by lia,by lia⟩)
              ·rw [if_neg hcc]
               exact wpS_pure ⟨_,_,_,_,_,_,_,rfl,rfl,L4,by lia,by lia,by lia⟩
           ·rw [if_neg hk2]
            have L3:=L2
            have lb2: ∀j,y+1<=j->j<b.size->W.le (kAt a x1) (kAt b j):=fun j z1 z2=>ge2 j (by lia) z2
            refine wpS_bind (au (by lia) ?_)
            have L4:=L3.a1 (by lia) sa lb2
            by_cases hx3:x1+1+1=a.size
            ·rw [if_pos (by simpa using hx3)]
             exact wpS_pure (.inl ⟨_,_,_,rfl,rfl,fla_ok L4 hx3⟩)
            ·rw [if_neg (by simpa using hx3)]
             by_cases hcc:(decide (k<7)&&decide (k2<7))=true
             ·rw [if_pos hcc]
              exact wpS_pure (.inr ⟨_,_,_,_,_,_,_,rfl,rfl,L4,by lia,by lia,by lia⟩)
             ·rw [if_neg hcc]
              exact wpS_pure ⟨_,_,_,_,_,_,_,rfl,rfl,L4,by lia,by lia,by lia⟩
       ·rw [if_neg hk1]
        have L1:=L
        have gt1: ∀j,x<=j->j<a.size->W.lt (kAt b y) (kAt a j)=true:=fun j z1 z2=>gt0 j (by lia) z2
        have bx1:x+1<a.size:=by lia
        have px1:x<=x:=by lia
        generalize hxx:x=x1 at L1 gt1 bx1|-
        rw [hxx] at px1
        refine wpS_bind (au (by lia) ?_)
        have L2:=L1.b1 (by lia) sb fun j z1 z2=>Wk.aK (gt1 j z1 z2)
        by_cases hy1:y+1=b.size
        ·rw [if_pos (by simpa using hy1)]
         exact wpS_pure (.inl ⟨_,_,_,rfl,rfl,fin_ok L2 hy1⟩)
        ·rw [if_neg (by simpa using hy1)]
         refine wpS_bind (au (by lia) ?_)
         refine wpS_bind (bR C hk' (by lia) (by lia) (ga _ (by lia)) (fun i z=>gb _ (by lia)) (fun i j z1 z2 z3=> ?_) fun k2 u1 u2 u3=> ?_)
         ·unfold bey at z3|-
          rw [if_pos rfl] at z3|-
          exact Wk.cF (sb _ _ (Nat.zero_le _) (by lia) (by lia)) z3
         ·have lt2: ∀j,y+1<=j->j<y+1+k2->W.lt (kAt b j) (kAt a x1)=true:=fun j z1 z2=>by
           have:=u2 (j-(y+1)) (by lia)
           unfold bey at this
           rw [if_pos rfl,show y+1+(j-(y+1))=j by lia] at this
           exact this
          have ge2: ∀j,y+1+k2<=j->j<b.size->W.le (kAt a x1) (kAt b j):=fun j z1 z2=>by
           have:=u3 (j-(y+1)) (by lia) (by lia)
           unfold bey at this
           rw [if_pos rfl,show y+1+(j-(y+1))=j by lia] at this
           exact this
          dsimp only
          by_cases hk2:k2>0
          ·rw [if_pos hk2]
           have L3:=Laid.bN sb k2 L2 (by lia) fun j z1 z2 i z3 z4=>Wk.aK (Wk.cn (lt2 j z1 z2) (sa _ _ (Nat.zero_le _) z3 z4))
           by_cases hy2:y+1+k2=b.size
           ·rw [if_pos (by simpa using hy2)]
            exact wpS_pure (.inl ⟨_,_,_,rfl,rfl,fin_ok L3 hy2⟩)
           ·rw [if_neg (by simpa using hy2)]
            have lb2:=ge2
            refine wpS_bind (au (by lia) ?_)
            have L4:=L3.a1 (by lia) sa lb2
            by_cases hx3:x1+1+1=a.size
            ·rw [if_pos (by simpa using hx3)]
             exact wpS_pure (.inl ⟨_,_,_,rfl,rfl,fla_ok L4 hx3⟩)
            ·rw [if_neg (by simpa using hx3)]
             by_cases hcc:(decide (k<7)&&decide (k2<7))=true
             ·rw [if_pos hcc]
              exact wpS_pure (.inr ⟨_,_,_,_,_,_,_,rfl,rfl,L4,by lia,by lia,by lia⟩)
             ·rw [if_neg hcc]
              exact wpS_pure ⟨_,_,_,_,_,_,_,rfl,rfl,L4,by lia,by lia,by lia⟩
          ·rw [if_neg hk2]
           have L3:=L2
           have lb2: ∀j,y+1<=j->j<b.size->W.le (kAt a x1) (kAt b j):=fun j z1 z2=>ge2 j (by lia) z2
           refine wpS_bind (au (by lia) ?_)
           have L4:=L3.a1 (by lia) sa lb2
           by_cases hx3:x1+1+1=a.size
           ·rw [if_pos (by simpa using hx3)]
            exact wpS_pure (.inl ⟨_,_,_,rfl,rfl,fla_ok L4 hx3⟩)
           ·rw [if_neg (by simpa using hx3)]
            by_cases hcc:(decide (k<7)&&decide (k2<7))=true
            ·rw [if_pos hcc]
             exact wpS_pure (.inr ⟨_,_,_,_,_,_,_,rfl,rfl,L4,by lia,by lia,by lia⟩)
            ·rw [if_neg hcc]
             exact wpS_pure ⟨_,_,_,_,_,_,_,rfl,rfl,L4,by lia,by lia,by lia⟩
     ·rw [if_neg hmg]
      refine wpS_bind (wpS_modify ?_)
      have hk':kindOf (SortSt.mk' (kindOf st) (arrOf st) (pendingOf st) mg (failedOf st))=kd:=hk
      refine wpS_bind (au (by lia) ?_)
      refine wpS_bind (bR C hk' (by lia) (by lia) (gb _ (by lia)) (fun i z=>ga _ (by lia)) (fun i j z1 z2 z3=> ?_) fun k u1 u2 u3=> ?_)
      ·unfold bey at z3|-
       rw [if_neg Bool.false_ne_true] at z3|-
       have q0:W.lt (kAt b y) (kAt a (x+j))=false:=by simpa using z3
       have q1:W.le (kAt a (x+i)) (kAt b y):=Wk.aC (sa _ _ (Nat.zero_le _) (by lia) (by lia)) q0
       have q2:W.lt (kAt b y) (kAt a (x+i))=false:=q1
       simpa using q2
      ·have le1: ∀j,x<=j->j<x+k->W.le (kAt a j) (kAt b y):=fun j z1 z2=>by
        have:=u2 (j-x) (by lia)
        unfold bey at this
        rw [if_neg Bool.false_ne_true,show x+(j-x)=j by lia] at this
        have q0:W.lt (kAt b y) (kAt a j)=false:=by simpa using this
        exact q0
       have gt0: ∀j,x+k<=j->j<a.size->W.lt (kAt b y) (kAt a j)=true:=fun j z1 z2=>by
        have:=u3 (j-x) (by lia) (by lia)
        unfold bey at this
        rw [if_neg Bool.false_ne_true,show x+(j-x)=j by lia] at this
        simpa using this
       have hkx:x+k<a.size:=by
        rcases Nat.lt_or_ge (x+k) a.size with z|z
        ·exact z
        ·have z1:=le1 (a.size-1) (by lia) (by lia)
         have z2:=lastlt y (by lia)
         unfold Wk.le at z1
         rw [z2] at z1
         cases z1
       dsimp only
       by_cases hk1:k>0
       ·rw [if_pos hk1]
        have L1:=Laid.aN sa k L (by lia) fun j z1 z2 i z3 z4=>Wk.aC (le1 j z1 z2) (sb _ _ (Nat.zero_le _) z3 z4)
        by_cases hx1:x+k+1=a.size
        ·rw [if_pos (by simpa using hx1)]
         exact wpS_pure (.inl ⟨_,_,_,rfl,rfl,fla_ok L1 hx1⟩)
        ·rw [if_neg (by simpa using hx1),if_neg (by simp;lia)]
         have gt1:=gt0
         have bx1:x+k+1<a.size:=by lia
         have px1:x<=x+k:=by lia
         generalize o++a.extract x (x+k)=o1 at L1|-
         generalize x+k=x1 at L1 gt1 bx1 px1|-
         refine wpS_bind (au (by lia) ?_)
         have L2:=L1.b1 (by lia) sb fun j z1 z2=>Wk.aK (gt1 j z1 z2)
         by_cases hy1:y+1=b.size
         ·rw [if_pos (by simpa using hy1)]
          exact wpS_pure (.inl ⟨_,_,_,rfl,rfl,fin_ok L2 hy1⟩)
         ·rw [if_neg (by simpa using hy1)]
          refine wpS_bind (au (by lia) ?_)
          refine wpS_bind (bR C hk' (by lia) (by lia) (ga _ (by lia)) (fun i z=>gb _ (by lia)) (fun i j z1 z2 z3=> ?_) fun k2 u1 u2 u3=> ?_)
          ·unfold bey at z3|-
           rw [if_pos rfl] at z3|-
           exact Wk.cF (sb _ _ (Nat.zero_le _) (by lia) (by lia)) z3
          ·have lt2: ∀j,y+1<=j->j<y+1+k2->W.lt (kAt b j) (kAt a x1)=true:=fun j z1 z2=>by
            have:=u2 (j-(y+1)) (by lia)
            unfold bey at this
            rw [if_pos rfl,show y+1+(j-(y+1))=j by lia] at this
            exact this
           have ge2: ∀j,y+1+k2<=j->j<b.size->W.le (kAt a x1) (kAt b j):=fun j z1 z2=>by
            have:=u3 (j-(y+1)) (by lia) (by lia)
            unfold bey at this
            rw [if_pos rfl,show y+1+(j-(y+1))=j by lia] at this
            exact this
           dsimp only
           by_cases hk2:k2>0
           ·rw [if_pos hk2]
            have L3:=Laid.bN sb k2 L2 (by lia) fun j z1 z2 i z3 z4=>Wk.aK (Wk.cn (lt2 j z1 z2) (sa _ _ (Nat.zero_le _) z3 z4))
            by_cases hy2:y+1+k2=b.size
            ·rw [if_pos (by simpa using hy2)]
             exact wpS_pure (.inl ⟨_,_,_,rfl,rfl,fin_ok L3 hy2⟩)
            ·rw [if_neg (by simpa using hy2)]
             have lb2:=ge2
             refine wpS_bind (au (by lia) ?_)
             have L4:=L3.a1 (by lia) sa lb2
             by_cases hx3:x1+1+1=a.size
             ·rw [if_pos (by simpa using hx3)]
              exact wpS_pure (.inl ⟨_,_,_,rfl,rfl,fla_ok L4 hx3⟩)
             ·rw [if_neg (by simpa using hx3)]
              by_cases hcc:(decide (k<7)&&decide (k2<7))=true
              ·rw [if_pos hcc]
               exact wpS_pure (.inr ⟨_,_,_,_,_,_,_,rfl,rfl,L4,by lia,by lia,by lia⟩)
              ·rw [if_neg hcc]
               exact wpS_pure ⟨_,_,_,_,_,_,_,rfl,rfl,L4,by lia,by lia,by lia⟩
           ·rw [if_neg hk2]
            have L3:=L2
            have lb2: ∀j,y+1<=j->j<b.size->W.le (kAt a x1) (kAt b j):=fun j z1 z2=>ge2 j (by lia) z2
            refine wpS_bind (au (by lia) ?_)
            have L4:=L3.a1 (by lia) sa lb2
            by_cases hx3:x1+1+1=a.size
            ·rw [if_pos (by simpa using hx3)]
             exact wpS_pure (.inl ⟨_,_,_,rfl,rfl,fla_ok L4 hx3⟩)
            ·rw [if_neg (by simpa using hx3)]
             by_cases hcc:(decide (k<7)&&decide (k2<7))=true
             ·rw [if_pos hcc]
              exact wpS_pure (.inr ⟨_,_,_,_,_,_,_,rfl,rfl,L4,by lia,by lia,by lia⟩)
             ·rw [if_neg hcc]
              exact wpS_pure ⟨_,_,_,_,_,_,_,rfl,rfl,L4,by lia,by lia,by lia⟩
       ·rw [if_neg hk1]
        have L1:=L
        have gt1: ∀j,x<=j->j<a.size->W.lt (kAt b y) (kAt a j)=true:=fun j z1 z2=>gt0 j (by lia) z2
        have bx1:x+1<a.size:=by lia
        have px1:x<=x:=by lia
        generalize hxx:x=x1 at L1 gt1 bx1|-
        rw [hxx] at px1
        refine wpS_bind (au (by lia) ?_)
        have L2:=L1.b1 (by lia) sb fun j z1 z2=>Wk.aK (gt1 j z1 z2)
        by_cases hy1:y+1=b.size
        ·rw [if_pos (by simpa using hy1)]
         exact wpS_pure (.inl ⟨_,_,_,rfl,rfl,fin_ok L2 hy1⟩)
        ·rw [if_neg (by simpa using hy1)]
         refine wpS_bind (au (by lia) ?_)
         refine wpS_bind (bR C hk' (by lia) (by lia) (ga _ (by lia)) (fun i z=>gb _ (by lia)) (fun i j z1 z2 z3=> ?_) fun k2 u1 u2 u3=> ?_)
         ·unfold bey at z3|-
          rw [if_pos rfl] at z3|-
          exact Wk.cF (sb _ _ (Nat.zero_le _) (by lia) (by lia)) z3
         ·have lt2: ∀j,y+1<=j->j<y+1+k2->W.lt (kAt b j) (kAt a x1)=true:=fun j z1 z2=>by
           have:=u2 (j-(y+1)) (by lia)
           unfold bey at this
           rw [if_pos rfl,show y+1+(j-(y+1))=j by lia] at this
           exact this
          have ge2: ∀j,y+1+k2<=j->j<b.size->W.le (kAt a x1) (kAt b j):=fun j z1 z2=>by
           have:=u3 (j-(y+1)) (by lia) (by lia)
           unfold bey at this
           rw [if_pos rfl,show y+1+(j-(y+1))=j by lia] at this
           exact this
          dsimp only
          by_cases hk2:k2>0
          ·rw [if_pos hk2]
           have L3:=Laid.bN sb k2 L2 (by lia) fun j z1 z2 i z3 z4=>Wk.aK (Wk.cn (lt2 j z1 z2) (sa _ _ (Nat.zero_le _) z3 z4))
           by_cases hy2:y+1+k2=b.size
           ·rw [if_pos (by simpa using hy2)]
            exact wpS_pure (.inl ⟨_,_,_,rfl,rfl,fin_ok L3 hy2⟩)
           ·rw [if_neg (by simpa using hy2)]
            have lb2:=ge2
            refine wpS_bind (au (by lia) ?_)
            have L4:=L3.a1 (by lia) sa lb2
            by_cases hx3:x1+1+1=a.size
            ·rw [if_pos (by simpa using hx3)]
             exact wpS_pure (.inl ⟨_,_,_,rfl,rfl,fla_ok L4 hx3⟩)
            ·rw [if_neg (by simpa using hx3)]
             by_cases hcc:(decide (k<7)&&decide (k2<7))=true
             ·rw [if_pos hcc]
              exact wpS_pure (.inr ⟨_,_,_,_,_,_,_,rfl,rfl,L4,by lia,by lia,by lia⟩)
             ·rw [if_neg hcc]
              exact wpS_pure ⟨_,_,_,_,_,_,_,rfl,rfl,L4,by lia,by lia,by lia⟩
          ·rw [if_neg hk2]
           have L3:=L2
           have lb2: ∀j,y+1<=j->j<b.size->W.le (kAt a x1) (kAt b j):=fun j z1 z2=>ge2 j (by lia) z2
           refine wpS_bind (au (by lia) ?_)
           have L4:=L3.a1 (by lia) sa lb2
           by_cases hx3:x1+1+1=a.size
           ·rw [if_pos (by simpa using hx3)]
            exact wpS_pure (.inl ⟨_,_,_,rfl,rfl,fla_ok L4 hx3⟩)
           ·rw [if_neg (by simpa using hx3)]
            by_cases hcc:(decide (k<7)&&decide (k2<7))=true
            ·rw [if_pos hcc]
             exact wpS_pure (.inr ⟨_,_,_,_,_,_,_,rfl,rfl,L4,by lia,by lia,by lia⟩)
            ·rw [if_neg hcc]
             exact wpS_pure ⟨_,_,_,_,_,_,_,rfl,rfl,L4,by lia,by lia,by lia⟩
end
end DhSort
set_option maxHeartbeats 4000000
namespace DhSort
open PySem PyProof.Rows
structure aj (W:Wk) (a b out:Array Keyed) (na nb:Nat):Prop where
 ha:na<=a.size
 hb:nb<=b.size
 perm:out.toList.Perm (a.toList.drop na++b.toList.drop nb)
 srt:out.toList.Pairwise fun x y=>W.le y x
 frA: ∀x,x∈out.toList-> ∀i,i<na->W.le (kAt a i) x
 frB: ∀x,x∈out.toList-> ∀i,i<nb->W.le (kAt b i) x
theorem kj {a:Array Keyed}{i:Nat} (h:i<a.size):a.toList.drop i=kAt a i::a.toList.drop (i+1):=by
 have h':i<a.toList.length:=by simpa using h
 rw [List.drop_eq_getElem_cons h']
 congr 1
 have:=eg h
 rw [List.getElem?_eq_getElem h'] at this
 exact Option.some.inj this
section
variable {W:Wk}{a b out:Array Keyed}{na nb:Nat}
theorem aj.a1 (L:aj W a b out (na+1) nb) (sa:ax W a 0 a.size) (hc: ∀j,j<nb->W.le (kAt b j) (kAt a na)):aj W a b (out.push (kAt a na)) na nb:=by
 have hl:=L.ha
 refine ⟨by lia,L.hb,?_,?_,?_,?_⟩
 ·rw [Array.toList_push,kj (show na<a.size by lia),List.cons_append]
  exact (L.perm.append_right _).trans List.perm_append_comm
 ·rw [Array.toList_push,List.pairwise_append]
  refine ⟨L.srt,List.pairwise_singleton _ _,fun x hx y hy=> ?_⟩
  rw [List.mem_singleton.mp hy]
  exact L.frA x hx na (by lia)
 ·intro x hx i z1
  rw [Array.toList_push,List.mem_append] at hx
  rcases hx with hx|hx
  ·exact L.frA x hx i (by lia)
  ·rw [List.mem_singleton.mp hx]
   exact sa i na (Nat.zero_le _) (by lia) (by lia)
 ·intro x hx i z1
  rw [Array.toList_push,List.mem_append] at hx
  rcases hx with hx|hx
  ·exact L.frB x hx i z1
  ·rw [List.mem_singleton.mp hx]
   exact hc i z1
theorem aj.b1 (L:aj W a b out na (nb+1)) (sb:ax W b 0 b.size) (hc: ∀j,j<na->W.le (kAt a j) (kAt b nb)):aj W a b (out.push (kAt b nb)) na nb:=by
 have hl:=L.hb
 refine ⟨L.ha,by lia,?_,?_,?_,?_⟩
 ·rw [Array.toList_push,kj (show nb<b.size by lia)]
  refine (L.perm.append_right _).trans ?_
  rw [List.append_assoc]
  exact List.Perm.append_left _ List.perm_append_comm
 ·rw [Array.toList_push,List.pairwise_append]
  refine ⟨L.srt,List.pairwise_singleton _ _,fun x hx y hy=> ?_⟩
  rw [List.mem_singleton.mp hy]
  exact L.frB x hx nb (by lia)
 ·intro x hx i z1
  rw [Array.toList_push,List.mem_append] at hx
  rcases hx with hx|hx
  ·exact L.frA x hx i z1
  ·rw [List.mem_singleton.mp hx]
   exact hc i z1
 ·intro x hx i z1
  rw [Array.toList_push,List.mem_append] at hx
  rcases hx with hx|hx
  ·exact L.frB x hx i (by lia)
  ·rw [List.mem_singleton.mp hx]
   exact sb i nb (Nat.zero_le _) (by lia) (by lia)
theorem og {c:Array Keyed}{i k:Nat} (h:i+(k+1)<=c.size):out++(c.extract i (i+(k+1))).reverse=(out++(c.extract (i+1) (i+(k+1))).reverse).push (kAt c i):=by
 apply Array.ext'
 rw [Array.toList_push,Array.toList_append,Array.toList_append,Array.toList_reverse,Array.toList_reverse,Array.toList_extract,Array.toList_extract,List.append_assoc]
 congr 1
 rw [List.extract_eq_drop_take,List.extract_eq_drop_take,show i+(k+1)-i=k+1 by lia,show i+(k+1)-(i+1)=k by lia,kj (show i<c.size by lia),List.take_succ_cons,List.reverse_cons]
theorem aj.aN (sa:ax W a 0 a.size): ∀(k na:Nat),aj W a b out (na+k) nb->(∀i,na<=i->i<na+k-> ∀j,j<nb->W.le (kAt b j) (kAt a i))->aj W a b (out++(a.extract na (na+k)).reverse) na nb
 |0,na,L,_=>by
  have e:out++(a.extract na (na+0)).reverse=out:=by apply Array.ext';simp
  rw [e];exact L
 |k+1,na,L,hc=>by
  have hl:=L.ha
  have L':=aj.aN sa k (na+1) (by rw [show na+1+k=na+(k+1) by lia];exact L) fun i z1 z2=>hc i (by lia) (by lia)
  rw [show na+1+k=na+(k+1) by lia] at L'
  rw [og (by lia)]
  exact L'.a1 sa (hc na (by lia) (by lia))
theorem aj.bN (sb:ax W b 0 b.size): ∀(k nb:Nat),aj W a b out na (nb+k)->(∀i,nb<=i->i<nb+k-> ∀j,j<na->W.le (kAt a j) (kAt b i))->aj W a b (out++(b.extract nb (nb+k)).reverse) na nb
 |0,nb,L,_=>by
  have e:out++(b.extract nb (nb+0)).reverse=out:=by apply Array.ext';simp
  rw [e];exact L
 |k+1,nb,L,hc=>by
  have hl:=L.hb
  have L':=aj.bN sb k (nb+1) (by rw [show nb+1+k=nb+(k+1) by lia];exact L) fun i z1 z2=>hc i (by lia) (by lia)
  rw [show nb+1+k=nb+(k+1) by lia] at L'
  rw [og (by lia)]
  exact L'.b1 sb (hc nb (by lia) (by lia))
theorem aj.one (L:aj W a b out 0 0):One W a b out.reverse:=by
 refine ⟨?_,?_⟩
 ·rw [Array.toList_reverse]
  exact (List.reverse_perm _).trans (by simpa using L.perm)
 ·rw [Array.toList_reverse,List.pairwise_reverse]
  exact L.srt
theorem km {c:Array Keyed}{n:Nat}:(out++(c.extract 0 n).reverse).reverse=c.extract 0 n++out.reverse:=by
 apply Array.ext'
 simp
theorem aj.endA (L:aj W a b out 0 nb) (sb:ax W b 0 b.size):One W a b (a.extract 0 0++b.extract 0 nb++out.reverse):=by
 have h:=aj.bN (a:=a) sb nb 0 (by rw [Nat.zero_add];exact L) fun i _ _ j z=>by lia
 rw [Nat.zero_add] at h
 have e:a.extract 0 0++b.extract 0 nb++out.reverse=(out++(b.extract 0 nb).reverse).reverse:=by
  rw [km]
  apply Array.ext'
  simp
 rw [e]
 exact h.one
theorem aj.endB (L:aj W a b out na nb) (sa:ax W a 0 a.size) (sb:ax W b 0 b.size) (hc: ∀i,i<na-> ∀j,j<nb->W.le (kAt b j) (kAt a i)):One W a b (b.extract 0 nb++a.extract 0 na++out.reverse):=by
 have h1:=aj.aN (b:=b) sa na 0 (by rw [Nat.zero_add];exact L) fun i _ z=>hc i (by lia)
 rw [Nat.zero_add] at h1
 have h2:=aj.bN (a:=a) sb nb 0 (by rw [Nat.zero_add];exact h1) fun i _ _ j z=>by lia
 rw [Nat.zero_add] at h2
 have e:b.extract 0 nb++a.extract 0 na++out.reverse=(out++(a.extract 0 na).reverse++(b.extract 0 nb).reverse).reverse:=by
  rw [km,km]
  apply Array.ext'
  simp
 rw [e]
 exact h2.one
theorem xN:aj W a b #[] a.size b.size:=⟨Nat.le_refl _,Nat.le_refl _,by simp,.nil,fun x hx=>by simp at hx,fun x hx=>by simp at hx⟩
end
noncomputable def mHi:Array Keyed->Array Keyed->StateT SortSt Sem (Array Keyed):=sortPriv%PySem.Builtin.mergeHi
theorem xO (a b:Array Keyed):mHi a b=(do
 rule "list.sort.merge-hi"
 let tot:=a.size+b.size
 let fin (o:Array Keyed) (x y:Nat):=a.extract 0 x++b.extract 0 y++o.reverse
 let fob (o:Array Keyed) (x y:Nat):=b.extract 0 y++a.extract 0 x++o.reverse
 let mut x:=a.size-1
 let mut y:=b.size
 let mut o:Array Keyed:= #[<-elem' a x]
 if x==0 then return fin o x y
 if y==1 then return fob o x y
 let mut mg:=gallopOf (<-get)
 for _ in [0:tot] do
  let mut ca:=0
  let mut cb:=0
  for _ in [0:tot] do
   let some aw<-lt' (<-elem' b (y-1)) (<-elem' a (x-1))|return fin o x y
   if aw then
    x:=x-1;o:=o.push (<-elem' a x);ca:=ca+1;cb:=0
    if x==0 then return fin o x y
    if ca>=mg then break
   else
    y:=y-1;o:=o.push (<-elem' b y);cb:=cb+1;ca:=0
    if y==1 then return fob o x y
    if cb>=mg then break
  rule "list.sort.gallop"
  mg:=mg+1
  for _ in [0:tot] do
   if mg>1 then mg:=mg-1
   iQ mg
   let some p<-gal false (<-elem' b (y-1)) a 0 x (x-1)|return fin o x y
   let k:=x-p
   ca:=k
   if k>0 then
    o:=o++(a.extract p x).reverse;x:=p
    if x==0 then return fin o x y
   y:=y-1;o:=o.push (<-elem' b y)
   if y==1 then return fob o x y
   let some p<-gal true (<-elem' a (x-1)) b 0 y (y-1)|return fin o x y
   let k:=y-p
   cb:=k
   if k>0 then
    o:=o++(b.extract p y).reverse;y:=p
    if y==1 then return fob o x y
    if y==0 then return fin o x y
   x:=x-1;o:=o.push (<-elem' a x)
   if x==0 then return fin o x y
   if ca<7&&cb<7 then break
  mg:=mg+1
  iQ mg
 unsupported "internal:list.sort.merge-bound"):=rfl
section
variable {prog:Program}{w:World}{A:Around}{E:Value->Shared->Prop}{s:Shared}{W:Wk}{kd:SortKind}{good:Keyed->Prop}{st:SortSt}
theorem xP (C:Cmp W kd good prog w A s) (hk:kindOf st=kd) {a b:Array Keyed} (ha:1<=a.size) (hb:1<=b.size) (ga: ∀i,i<a.size->good (kAt a i)) (gb: ∀i,i<b.size->good (kAt b i)) (sa:ax W a 0 a.size) (sb:ax W b 0 b.size)
  (h0:W.lt (kAt b 0) (kAt a 0)=true) (h1:W.lt (kAt b (b.size-1)) (kAt a (a.size-1))=true) {Q:Array Keyed->SortSt->Prop}
  (h: ∀r g,One W a b r->Q r (SortSt.mk' (kindOf st) (arrOf st) (pendingOf st) g (failedOf st))):wpS (model prog w) A E s (mHi a b) Q st:=by
 rw [xO]
 refine wpS_bind (wpS_lift (wpAny_rule ⟨rfl,?_⟩))
 refine wpS_bind (au (by lia) ?_)
 dsimp only
 have fob_ok: ∀{o:Array Keyed}{x y:Nat},aj W a b o x y->y=1->One W a b (b.extract 0 y++a.extract 0 x++o.reverse):=fun {o x y} L hy=>L.endB sa sb fun i z1 j z2=>by
  have:=L.ha
  obtain rfl:j=0:=by lia
  exact Wk.aK (Wk.cn h0 (sa 0 i (Nat.zero_le _) (Nat.zero_le _) (by lia)))
 have fin_ok: ∀{o:Array Keyed}{x y:Nat},aj W a b o x y->x=0->One W a b (a.extract 0 x++b.extract 0 y++o.reverse):=fun {o x y} L hx=>by
  subst hx
  exact L.endA sb
 have L0:aj W a b #[kAt a (a.size-1)] (a.size-1) b.size:=by
  have q:=aj.a1 (out:= #[]) (nb:=b.size) (na:=a.size-1) (by rw [show a.size-1+1=a.size by lia];exact xN) sa fun j z=>Wk.aK (Wk.cF (sb j (b.size-1) (Nat.zero_le _) (by lia) (by lia)) h1)
  simpa using q
 by_cases ha1:a.size-1=0
 ·rw [if_pos (by simpa using ha1)]
  exact wpS_pure (h _ (gallopOf st) (fin_ok L0 ha1))
 rw [if_neg (by simpa using ha1)]
 by_cases hb1:b.size=1
 ·rw [if_pos (by simpa using hb1)]
  exact wpS_pure (h _ (gallopOf st) (fob_ok L0 hb1))
 rw [if_neg (by simpa using hb1)]
 refine wpS_bind (wpS_get ?_)
 refine wpS_bind (wpS_mono (wpS_forRange (I:=fun t c st'=> ∃o x y mg g,c=(none,x,y,o,mg)/\st'=SortSt.mk' (kindOf st) (arrOf st) (pendingOf st) g (failedOf st)/\aj W a b o x y/\1<=x/\2<=y/\t+x+y<=a.size+b.size)
  (Q:=fun c st'=> ∃r m g,c=(some r,m)/\st'=SortSt.mk' (kindOf st) (arrOf st) (pendingOf st) g (failedOf st)/\One W a b r) ?stp ?lst ⟨_,_,_,_,gallopOf st,rfl,rfl,L0,by lia,by lia,by lia⟩) ?aft)
 case aft=>
  rintro c st' ⟨r,m,g,rfl,rfl,one⟩
  exact wpS_pure (h r g one)
 case lst=>
  rintro c st' ⟨o,x,y,mg,g,rfl,rfl,L,z1,z2,z3⟩
  exfalso;lia
 case stp=>
  rintro t c st' ht1 ht2 ⟨o,x,y,mg,g,rfl,rfl,L,bx,bY,pr⟩
  dsimp only
  refine wpS_bind (wpS_mono (wpS_forRange (I:=fun t' c st'=>st'=SortSt.mk' (kindOf st) (arrOf st) (pendingOf st) g (failedOf st)/\ ∃o x y ca cb,c=(none,x,y,o,ca,cb)/\aj W a b o x y/\1<=x/\2<=y/\t+t'+x+y<=a.size+b.size)
   (Q:=fun c st'=>st'=SortSt.mk' (kindOf st) (arrOf st) (pendingOf st) g (failedOf st)/\((∃r m,c=(some r,m)/\One W a b r) \/ ∃o x y ca cb,c=(none,x,y,o,ca,cb)/\aj W a b o x y/\1<=x/\2<=y/\t+1+x+y<=a.size+b.size)) ?s1 ?l1 ⟨rfl,_,_,_,_,_,rfl,L,bx,bY,by lia⟩) ?a1)
  case l1=>
   rintro c st' ⟨rfl,o,x,y,ca,cb,rfl,L,z1,z2,z3⟩
   exfalso;lia
  case s1=>
   rintro t' c st' _ ht' ⟨rfl,o,x,y,ca,cb,rfl,L,bx,bY,pr⟩
   have hxa:=L.ha
   have hyb:=L.hb
   dsimp only
   refine wpS_bind (au (by lia) (wpS_bind (au (by lia) ?_)))
   refine wpS_bind (gK (st:=SortSt.mk' (kindOf st) (arrOf st) (pendingOf st) g (failedOf st)) C hk (gb (y-1) (by lia)) (ga (x-1) (by lia)) ?_)
   cases hl:W.lt (kAt b (y-1)) (kAt a (x-1)) with
   |true=>
    dsimp only
    rw [if_pos rfl]
    refine wpS_bind (au (by lia) ?_)
    have L1:aj W a b _ (x-1) y:=aj.a1 (na:=x-1) (by rw [show x-1+1=x by lia];exact L) sa fun j z=>Wk.aC (sb j (y-1) (Nat.zero_le _) (by lia) (by lia)) (Wk.aK hl)
    by_cases hx:x-1=0
    ·rw [if_pos (by simpa using hx)]
     exact wpS_pure ⟨rfl,.inl ⟨_,_,rfl,fin_ok L1 hx⟩⟩
    ·rw [if_neg (by simpa using hx)]
     by_cases hc:ca+1>=mg
     ·rw [if_pos hc]
      exact wpS_pure ⟨rfl,.inr ⟨_,_,_,_,_,rfl,L1,by lia,bY,by lia⟩⟩
     ·rw [if_neg hc]
      exact wpS_pure ⟨rfl,_,_,_,_,_,rfl,L1,by lia,bY,by lia⟩
   |false=>
    dsimp only
    rw [if_neg Bool.false_ne_true]
    refine wpS_bind (au (by lia) ?_)
    have L1:aj W a b _ x (y-1):=aj.b1 (nb:=y-1) (by rw [show y-1+1=y by lia];exact L) sb fun j z=>Wk.aC (sa j (x-1) (Nat.zero_le _) (by lia) (by lia)) hl
    by_cases hy:y-1=1
    ·rw [if_pos (by simpa using hy)]
     exact wpS_pure ⟨rfl,.inl ⟨_,_,rfl,fob_ok L1 hy⟩⟩
    ·rw [if_neg (by simpa using hy)]
     by_cases hc:cb+1>=mg
     ·rw [if_pos hc]
      exact wpS_pure ⟨rfl,.inr ⟨_,_,_,_,_,rfl,L1,bx,by lia,by lia⟩⟩
     ·rw [if_neg hc]
      exact wpS_pure ⟨rfl,_,_,_,_,_,rfl,L1,bx,by lia,by lia⟩
  case a1=>
   rintro c st' ⟨rfl,⟨r,m,rfl,one⟩|⟨o,x,y,ca,cb,rfl,L,bx,bY,pr⟩⟩
   ·dsimp only
    exact wpS_pure ⟨_,_,_,rfl,rfl,one⟩
   ·dsimp only
    refine wpS_bind (wpS_lift (wpAny_rule ⟨rfl,?_⟩))
    refine wpS_bind (wpS_mono (wpS_forRange (I:=fun t' c st'=> ∃o x y mg ca cb g,c=(none,x,y,o,mg,ca,cb)/\st'=SortSt.mk' (kindOf st) (arrOf st) (pendingOf st) g (failedOf st)/\aj W a b o x y/\1<=x/\2<=y/\t+1+t'+x+y<=a.size+b.size)
     (Q:=fun c st'=>(∃r m g,c=(some r,m)/\st'=SortSt.mk' (kindOf st) (arrOf st) (pendingOf st) g (failedOf st)/\One W a b r) \/ ∃o x y mg ca cb g,c=(none,x,y,o,mg,ca,cb)/\st'=SortSt.mk' (kindOf st) (arrOf st) (pendingOf st) g (failedOf st)/\aj W a b o x y/\1<=x/\2<=y/\t+1+x+y<=a.size+b.size) ?s2 ?l2 ⟨_,_,_,_,_,_,g,rfl,rfl,L,bx,bY,by lia⟩) ?a2)
    case l2=>
     rintro c st' ⟨o,x,y,mg,ca,cb,g,rfl,rfl,L,z1,z2,z3⟩
     exfalso;lia
    case a2=>
     rintro c st' (⟨r,m,g,rfl,rfl,one⟩|⟨o,x,y,mg,ca,cb,g,rfl,rfl,L,bx,bY,pr⟩)
     ·dsimp only
      exact wpS_pure ⟨_,_,_,rfl,rfl,one⟩
     ·dsimp only
      refine wpS_bind (wpS_modify ?_)
      exact wpS_pure ⟨_,_,_,_,_,rfl,rfl,L,bx,bY,by lia⟩
    case s2=>
     rintro t' c st' _ ht' ⟨o,x,y,mg,ca,cb,g,rfl,rfl,L,bx,bY,pr⟩
     dsimp only
     by_cases hmg:mg>1
     ·rw [if_pos hmg]
      refine wpS_bind (wpS_modify ?_)
      have hk':kindOf (SortSt.mk' (kindOf st) (arrOf st) (pendingOf st) (mg-1) (failedOf st))=kd:=hk
      have hxa:=L.ha
      have hyb:=L.hb
      refine wpS_bind (au (by lia) ?_)
      refine wpS_bind (bR C hk' (by lia) (by lia) (gb _ (by lia)) (fun i z=>ga _ (by lia)) (fun i j z1 z2 z3=> ?_) fun p u1 u2 u3=> ?_)
      ·unfold bey at z3|-
       rw [if_neg Bool.false_ne_true] at z3|-
       have q0:W.lt (kAt b (y-1)) (kAt a (0+j))=false:=by simpa using z3
       have q1:W.le (kAt a (0+i)) (kAt b (y-1)):=Wk.aC (sa _ _ (Nat.zero_le _) (by lia) (by lia)) q0
       have q2:W.lt (kAt b (y-1)) (kAt a (0+i))=false:=q1
       simpa using q2
      ·have le0: ∀j,j<p->W.le (kAt a j) (kAt b (y-1)):=fun j z1=>by
        have:=u2 j z1
        unfold bey at this
        rw [if_neg Bool.false_ne_true,Nat.zero_add] at this
        have q0:W.lt (kAt b (y-1)) (kAt a j)=false:=by simpa using this
        exact q0
       have gt0: ∀j,p<=j->j<x->W.lt (kAt b (y-1)) (kAt a j)=true:=fun j z1 z2=>by
        have:=u3 j z1 z2
        unfold bey at this
        rw [if_neg Bool.false_ne_true,Nat.zero_add] at this
        simpa using this
       dsimp only
       by_cases hk1:x-p>0
       ·rw [if_pos hk1]
        have L1:=aj.aN sa (x-p) p (by rw [show p+(x-p)=x by lia];exact L) fun j z1 z2 i z3=>Wk.aC (sb i (y-1) (Nat.zero_le _) (by lia) (by lia)) (Wk.aK (gt0 j z1 (by lia)))
        rw [show p+(x-p)=x by lia] at L1
        by_cases hx1:p=0
        ·rw [if_pos (by simpa using hx1)]
         exact wpS_pure (.inl ⟨_,_,_,rfl,rfl,fin_ok L1 hx1⟩)
        ·rw [if_neg (by simpa using hx1)]
         have le1:=le0
         have bx1:1<=p:=by lia
         generalize o++(a.extract p x).reverse=o1 at L1|-
         generalize hpp:p=x1 at L1 le1 bx1|-
         have px1:x1<=x:=by lia
         refine wpS_bind (au (by lia) ?_)
         have L2:aj W a b _ x1 (y-1):=aj.b1 (nb:=y-1) (by rw [show y-1+1=y by lia];exact L1) sb le1
         by_cases hy1:y-1=1
         ·rw [if_pos (by simpa using hy1)]
          exact wpS_pure (.inl ⟨_,_,_,rfl,rfl,fob_ok L2 hy1⟩)
         ·rw [if_neg (by simpa using hy1)]
          refine wpS_bind (au (by lia) ?_)
          refine wpS_bind (bR C hk' (by lia) (by lia) (ga _ (by lia)) (fun i z=>gb _ (by lia)) (fun i j z1 z2 z3=> ?_) fun p2 u1 u2 u3=> ?_)
          ·unfold bey at z3|-
           rw [if_pos rfl] at z3|-
           exact Wk.cF (sb _ _ (Nat.zero_le _) (by lia) (by lia)) z3
          ·have lt2: ∀j,j<p2->W.lt (kAt b j) (kAt a (x1-1))=true:=fun j z1=>by
            have:=u2 j z1
            unfold bey at this
            rw [if_pos rfl,Nat.zero_add] at this
            exact this
           have ge2: ∀j,p2<=j->j<y-1->W.le (kAt a (x1-1)) (kAt b j):=fun j z1 z2=>by
            have:=u3 j z1 z2
            unfold bey at this
            rw [if_pos rfl,Nat.zero_add] at this
            exact this
           have hp2:1<=p2:=by
            rcases Nat.eq_zero_or_pos p2 with z|z
            ·have z1:=ge2 0 (by lia) (by lia)
             have z2:W.lt (kAt b 0) (kAt a (x1-1))=true:=Wk.cn h0 (sa 0 (x1-1) (Nat.zero_le _) (by lia) (by have:=L1.ha;lia))
             unfold Wk.le at z1
             rw [z2] at z1
             cases z1
            ·exact z
           dsimp only
           by_cases hk2:y-1-p2>0
           ·rw [if_pos hk2]
            have L3:=aj.bN (out:=_) sb (y-1-p2) p2 (by rw [show p2+(y-1-p2)=y-1 by lia];exact L2) fun j z1 z2 i z3=>Wk.aC (sa i (x1-1) (Nat.zero_le _) (by lia) (by have:=L1.ha;lia)) (ge2 j z1 (by lia))
            rw [show p2+(y-1-p2)=y-1 by lia] at L3
            by_cases hy2:p2=1
            ·rw [if_pos (by simpa using hy2)]
             exact wpS_pure (.inl ⟨_,_,_,rfl,rfl,fob_ok L3 hy2⟩)
            ·rw [if_neg (by simpa using hy2),if_neg (by simp;lia)]
             have lb2: ∀j,j<p2->W.le (kAt b j) (kAt a (x1-1)):=fun j z=>Wk.aK (lt2 j z)
             refine wpS_bind (au (by lia) ?_)
             have L4:aj W a b _ (x1-1) _:=aj.a1 (na:=x1-1) (by rw [show x1-1+1=x1 by lia];exact L3) sa lb2
             by_cases hx3:x1-1=0
             ·rw [if_pos (by simpa using hx3)]
              exact wpS_pure (.inl ⟨_,_,_,rfl,rfl,fin_ok L4 hx3⟩)
             ·rw [if_neg (by simpa using hx3)]
              split
              ·exact wpS_pure (.inr ⟨_,_,_,_,_,_,_,rfl,rfl,L4,by lia,by lia,by lia⟩)
              ·exact wpS_pure ⟨_,_,_,_,_,_,_,rfl,rfl,L4,by lia,by lia,by lia⟩
           ·rw [if_neg hk2]
            have L3:=L2
            have lb2: ∀j,j<y-1->W.le (kAt b j) (kAt a (x1-1)):=fun j z=>Wk.aK (lt2 j (by lia))
            refine wpS_bind (au (by lia) ?_)
            have L4:aj W a b _ (x1-1) _:=aj.a1 (na:=x1-1) (by rw [show x1-1+1=x1 by lia];exact L3) sa lb2
            by_cases hx3:x1-1=0
            ·rw [if_pos (by simpa using hx3)]
             exact wpS_pure (.inl ⟨_,_,_,rfl,rfl,fin_ok L4 hx3⟩)
            ·rw [if_neg (by simpa using hx3)]
             split
             ·exact wpS_pure (.inr ⟨_,_,_,_,_,_,_,rfl,rfl,L4,by lia,by lia,by lia⟩)
             ·exact wpS_pure ⟨_,_,_,_,_,_,_,rfl,rfl,L4,by lia,by lia,by lia⟩
       ·rw [if_neg hk1]
        have L1:=L
        have le1: ∀j,j<x->W.le (kAt a j) (kAt b (y-1)):=fun j z1=>le0 j (by lia)
        have bx1:1<=x:=by lia
        generalize hxx:x=x1 at L1 le1 bx1|-
        have px1:x1<=x:=by lia
        have hxp:x1-p=x-p:=by lia
        refine wpS_bind (au (by lia) ?_)
        have L2:aj W a b _ x1 (y-1):=aj.b1 (nb:=y-1) (by rw [show y-1+1=y by lia];exact L1) sb le1
        by_cases hy1:y-1=1
        ·rw [if_pos (by simpa using hy1)]
         exact wpS_pure (.inl ⟨_,_,_,rfl,rfl,fob_ok L2 hy1⟩)
        ·rw [if_neg (by simpa using hy1)]
         refine wpS_bind (au (by lia) ?_)
         refine wpS_bind (bR C hk' (by lia) (by lia) (ga _ (by lia)) (fun i z=>gb _ (by lia)) (fun i j z1 z2 z3=> ?_) fun p2 u1 u2 u3=> ?_)
         ·unfold bey at z3|-
          rw [if_pos rfl] at z3|-
          exact Wk.cF (sb _ _ (Nat.zero_le _) (by lia) (by lia)) z3
         ·have lt2: ∀j,j<p2->W.lt (kAt b j) (kAt a (x1-1))=true:=fun j z1=>by
           have:=u2 j z1
           unfold bey at this
           rw [if_pos rfl,Nat.zero_add] at this
           exact this
          have ge2: ∀j,p2<=j->j<y-1->W.le (kAt a (x1-1)) (kAt b j):=fun j z1 z2=>by
           have:=u3 j z1 z2
           unfold bey at this
           rw [if_pos rfl,Nat.zero_add] at this
           exact this
          have hp2:1<=p2:=by
           rcases Nat.eq_zero_or_pos p2 with z|z
           ·have z1:=ge2 0 (by lia) (by lia)
            have z2:W.lt (kAt b 0) (kAt a (x1-1))=true:=Wk.cn h0 (sa 0 (x1-1) (Nat.zero_le _) (by lia) (by have:=L1.ha;lia))
            unfold Wk.le at z1
            rw [z2] at z1
            cases z1
           ·exact z
          dsimp only
          by_cases hk2:y-1-p2>0
          ·rw [if_pos hk2]
           have L3:=aj.bN (out:=_) sb (y-1-p2) p2 (by rw [show p2+(y-1-p2)=y-1 by lia];exact L2) fun j z1 z2 i z3=>Wk.aC (sa i (x1-1) (Nat.zero_le _) (by lia) (by have:=L1.ha;lia)) (ge2 j z1 (by lia))
           rw [show p2+(y-1-p2)=y-1 by lia] at L3
           by_cases hy2:p2=1
           ·rw [if_pos (by simpa using hy2)]
            exact wpS_pure (.inl ⟨_,_,_,rfl,rfl,fob_ok L3 hy2⟩)
           ·rw [if_neg (by simpa using hy2),if_neg (by simp;lia)]
            have lb2: ∀j,j<p2->W.le (kAt b j) (kAt a (x1-1)):=fun j z=>Wk.aK (lt2 j z)
            refine wpS_bind (au (by lia) ?_)
            have L4:aj W a b _ (x1-1) _:=aj.a1 (na:=x1-1) (by rw [show x1-1+1=x1 by lia];exact L3) sa lb2
            by_cases hx3:x1-1=0
            ·rw [if_pos (by simpa using hx3)]
             exact wpS_pure (.inl ⟨_,_,_,rfl,rfl,fin_ok L4 hx3⟩)
            ·rw [if_neg (by simpa using hx3)]
             split
             ·exact wpS_pure (.inr ⟨_,_,_,_,_,_,_,rfl,rfl,L4,by lia,by lia,by lia⟩)
             ·exact wpS_pure ⟨_,_,_,_,_,_,_,rfl,rfl,L4,by lia,by lia,by lia⟩
          ·rw [if_neg hk2]
           have L3:=L2
           have lb2: ∀j,j<y-1->W.le (kAt b j) (kAt a (x1-1)):=fun j z=>Wk.aK (lt2 j (by lia))
           refine wpS_bind (au (by lia) ?_)
           have L4:aj W a b _ (x1-1) _:=aj.a1 (na:=x1-1) (by rw [show x1-1+1=x1 by lia];exact L3) sa lb2
           by_cases hx3:x1-1=0
           ·rw [if_pos (by simpa using hx3)]
            exact wpS_pure (.inl ⟨_,_,_,rfl,rfl,fin_ok L4 hx3⟩)
           ·rw [if_neg (by simpa using hx3)]
            split
            ·exact wpS_pure (.inr ⟨_,_,_,_,_,_,_,rfl,rfl,L4,by lia,by lia,by lia⟩)
            ·exact wpS_pure ⟨_,_,_,_,_,_,_,rfl,rfl,L4,by lia,by lia,by lia⟩
     ·rw [if_neg hmg]
      refine wpS_bind (wpS_modify ?_)
      have hk':kindOf (SortSt.mk' (kindOf st) (arrOf st) (pendingOf st) mg (failedOf st))=kd:=hk
      have hxa:=L.ha
      have hyb:=L.hb
      refine wpS_bind (au (by lia) ?_)
      refine wpS_bind (bR C hk' (by lia) (by lia) (gb _ (by lia)) (fun i z=>ga _ (by lia)) (fun i j z1 z2 z3=> ?_) fun p u1 u2 u3=> ?_)
      ·unfold bey at z3|-
       rw [if_neg Bool.false_ne_true] at z3|-
       have q0:W.lt (kAt b (y-1)) (kAt a (0+j))=false:=by simpa using z3
       have q1:W.le (kAt a (0+i)) (kAt b (y-1)):=Wk.aC (sa _ _ (Nat.zero_le _) (by lia) (by lia)) q0
       have q2:W.lt (kAt b (y-1)) (kAt a (0+i))=false:=q1
       simpa using q2
      ·have le0: ∀j,j<p->W.le (kAt a j) (kAt b (y-1)):=fun j z1=>by
        have:=u2 j z1
        unfold bey at this
        rw [if_neg Bool.false_ne_true,Nat.zero_add] at this
        have q0:W.lt (kAt b (y-1)) (kAt a j)=false:=by simpa using this
        exact q0
       have gt0: ∀j,p<=j->j<x->W.lt (kAt b (y-1)) (kAt a j)=true:=fun j z1 z2=>by
        have:=u3 j z1 z2
        unfold bey at this
        rw [if_neg Bool.false_ne_true,Nat.zero_add] at this
        simpa using this
       dsimp only
       by_cases hk1:x-p>0
       ·rw [if_pos hk1]
        have L1:=aj.aN sa (x-p) p (by rw [show p+(x-p)=x by lia];exact L) fun j z1 z2 i z3=>Wk.aC (sb i (y-1) (Nat.zero_le _) (by lia) (by lia)) (Wk.aK (gt0 j z1 (by lia)))
        rw [show p+(x-p)=x by lia] at L1
        by_cases hx1:p=0
        ·rw [if_pos (by simpa using hx1)]
         exact wpS_pure (.inl ⟨_,_,_,rfl,rfl,fin_ok L1 hx1⟩)
        ·rw [if_neg (by simpa using hx1)]
         have le1:=le0
         have bx1:1<=p:=by lia
         generalize o++(a.extract p x).reverse=o1 at L1|-
         generalize hpp:p=x1 at L1 le1 bx1|-
         have px1:x1<=x:=by lia
         refine wpS_bind (au (by lia) ?_)
         have L2:aj W a b _ x1 (y-1):=aj.b1 (nb:=y-1) (by rw [show y-1+1=y by lia];exact L1) sb le1
         by_cases hy1:y-1=1
         ·rw [if_pos (by simpa using hy1)]
          exact wpS_pure (.inl ⟨_,_,_,rfl,rfl,fob_ok L2 hy1⟩)
         ·rw [if_neg (by simpa using hy1)]
          refine wpS_bind (au (by lia) ?_)
          refine wpS_bind (bR C hk' (by lia) (by lia) (ga _ (by lia)) (fun i z=>gb _ (by lia)) (fun i j z1 z2 z3=> ?_) fun p2 u1 u2 u3=> ?_)
          ·unfold bey at z3|-
           rw [if_pos rfl] at z3|-
           exact Wk.cF (sb _ _ (Nat.zero_le _) (by lia) (by lia)) z3
          ·have lt2: ∀j,j<p2->W.lt (kAt b j) (kAt a (x1-1))=true:=fun j z1=>by
            have:=u2 j z1
            unfold bey at this
            rw [if_pos rfl,Nat.zero_add] at this
            exact this
           have ge2: ∀j,p2<=j->j<y-1->W.le (kAt a (x1-1)) (kAt b j):=fun j z1 z2=>by
            have:=u3 j z1 z2
            unfold bey at this
            rw [if_pos rfl,Nat.zero_add] at this
            exact this
           have hp2:1<=p2:=by
            rcases Nat.eq_zero_or_pos p2 with z|z
            ·have z1:=ge2 0 (by lia) (by lia)
             have z2:W.lt (kAt b 0) (kAt a (x1-1))=true:=Wk.cn h0 (sa 0 (x1-1) (Nat.zero_le _) (by lia) (by have:=L1.ha;lia))
             unfold Wk.le at z1
             rw [z2] at z1
             cases z1
            ·exact z
           dsimp only
           by_cases hk2:y-1-p2>0
           ·rw [if_pos hk2]
            have L3:=aj.bN (out:=_) sb (y-1-p2) p2 (by rw [show p2+(y-1-p2)=y-1 by lia];exact L2) fun j z1 z2 i z3=>Wk.aC (sa i (x1-1) (Nat.zero_le _) (by lia) (by have:=L1.ha;lia)) (ge2 j z1 (by lia))
            rw [show p2+(y-1-p2)=y-1 by lia] at L3
            by_cases hy2:p2=1
            ·rw [if_pos (by simpa using hy2)]
             exact wpS_pure (.inl ⟨_,_,_,rfl,rfl,fob_ok L3 hy2⟩)
            ·rw [if_neg (by simpa using hy2),if_neg (by simp;lia)]
             have lb2: ∀j,j<p2->W.le (kAt b j) (kAt a (x1-1)):=fun j z=>Wk.aK (lt2 j z)
             refine wpS_bind (au (by lia) ?_)
             have L4:aj W a b _ (x1-1) _:=aj.a1 (na:=x1-1) (by rw [show x1-1+1=x1 by lia];exact L3) sa lb2
             by_cases hx3:x1-1=0
             ·rw [if_pos (by simpa using hx3)]
              exact wpS_pure (.inl ⟨_,_,_,rfl,rfl,fin_ok L4 hx3⟩)
             ·rw [if_neg (by simpa using hx3)]
              split
              ·exact wpS_pure (.inr ⟨_,_,_,_,_,_,_,rfl,rfl,L4,by lia,by lia,by lia⟩)
              ·exact wpS_pure ⟨_,_,_,_,_,_,_,rfl,rfl,L4,by lia,by lia,by lia⟩
           ·rw [if_neg hk2]
            have L3:=L2
            have lb2: ∀j,j<y-1->W.le (kAt b j) (kAt a (x1-1)):=fun j z=>Wk.aK (lt2 j (by lia))
            refine wpS_bind (au (by lia) ?_)
            have L4:aj W a b _ (x1-1) _:=aj.a1 (na:=x1-1) (by rw [show x1-1+1=x1 by lia];exact L3) sa lb2
            by_cases hx3:x1-1=0
            ·rw [if_pos (by simpa using hx3)]
             exact wpS_pure (.inl ⟨_,_,_,rfl,rfl,fin_ok L4 hx3⟩)
            ·rw [if_neg (by simpa using hx3)]
             split
             ·exact wpS_pure (.inr ⟨_,_,_,_,_,_,_,rfl,rfl,L4,by lia,by lia,by lia⟩)
             ·exact wpS_pure ⟨_,_,_,_,_,_,_,rfl,rfl,L4,by lia,by lia,by lia⟩
       ·rw [if_neg hk1]
        have L1:=L
        have le1: ∀j,j<x->W.le (kAt a j) (kAt b (y-1)):=fun j z1=>le0 j (by lia)
        have bx1:1<=x:=by lia
        generalize hxx:x=x1 at L1 le1 bx1|-
        have px1:x1<=x:=by lia
        have hxp:x1-p=x-p:=by lia
        refine wpS_bind (au (by lia) ?_)
        have L2:aj W a b _ x1 (y-1):=aj.b1 (nb:=y-1) (by rw [show y-1+1=y by lia];exact L1) sb le1
        by_cases hy1:y-1=1
        ·rw [if_pos (by simpa using hy1)]
         exact wpS_pure (.inl ⟨_,_,_,rfl,rfl,fob_ok L2 hy1⟩)
        ·rw [if_neg (by simpa using hy1)]
         refine wpS_bind (au (by lia) ?_)
         refine wpS_bind (bR C hk' (by lia) (by lia) (ga _ (by lia)) (fun i z=>gb _ (by lia)) (fun i j z1 z2 z3=> ?_) fun p2 u1 u2 u3=> ?_)
         ·unfold bey at z3|-
          rw [if_pos rfl] at z3|-
          exact Wk.cF (sb _ _ (Nat.zero_le _) (by lia) (by lia)) z3
         ·have lt2: ∀j,j<p2->W.lt (kAt b j) (kAt a (x1-1))=true:=fun j z1=>by
           have:=u2 j z1
           unfold bey at this
           rw [if_pos rfl,Nat.zero_add] at this
           exact this
          have ge2: ∀j,p2<=j->j<y-1->W.le (kAt a (x1-1)) (kAt b j):=fun j z1 z2=>by
           have:=u3 j z1 z2
           unfold bey at this
           rw [if_pos rfl,Nat.zero_add] at this
           exact this
          have hp2:1<=p2:=by
           rcases Nat.eq_zero_or_pos p2 with z|z
           ·have z1:=ge2 0 (by lia) (by lia)
            have z2:W.lt (kAt b 0) (kAt a (x1-1))=true:=Wk.cn h0 (sa 0 (x1-1) (Nat.zero_le _) (by lia) (by have:=L1.ha;lia))
            unfold Wk.le at z1
            rw [z2] at z1
            cases z1
           ·exact z
          dsimp only
          by_cases hk2:y-1-p2>0
          ·rw [if_pos hk2]
           have L3:=aj.bN (out:=_) sb (y-1-p2) p2 (by rw [show p2+(y-1-p2)=y-1 by lia];exact L2) fun j z1 z2 i z3=>Wk.aC (sa i (x1-1) (Nat.zero_le _) (by lia) (by have:=L1.ha;lia)) (ge2 j z1 (by lia))
           rw [show p2+(y-1-p2)=y-1 by lia] at L3
           by_cases hy2:p2=1
           ·rw [if_pos (by simpa using hy2)]
            exact wpS_pure (.inl ⟨_,_,_,rfl,rfl,fob_ok L3 hy2⟩)
           ·rw [if_neg (by simpa using hy2),if_neg (by simp;lia)]
            have lb2: ∀j,j<p2->W.le (kAt b j) (kAt a (x1-1)):=fun j z=>Wk.aK (lt2 j z)
            refine wpS_bind (au (by lia) ?_)
            have L4:aj W a b _ (x1-1) _:=aj.a1 (na:=x1-1) (by rw [show x1-1+1=x1 by lia];exact L3) sa lb2
            by_cases hx3:x1-1=0
            ·rw [if_pos (by simpa using hx3)]
             exact wpS_pure (.inl ⟨_,_,_,rfl,rfl,fin_ok L4 hx3⟩)
            ·rw [if_neg (by simpa using hx3)]
             split
             ·exact wpS_pure (.inr ⟨_,_,_,_,_,_,_,rfl,rfl,L4,by lia,by lia,by lia⟩)
             ·exact wpS_pure ⟨_,_,_,_,_,_,_,rfl,rfl,L4,by lia,by lia,by lia⟩
          ·rw [if_neg hk2]
           have L3:=L2
           have lb2: ∀j,j<y-1->W.le (kAt b j) (kAt a (x1-1)):=fun j z=>Wk.aK (lt2 j (by lia))
           refine wpS_bind (au (by lia) ?_)
           have L4:aj W a b _ (x1-1) _:=aj.a1 (na:=x1-1) (by rw [show x1-1+1=x1 by lia];exact L3) sa lb2
           by_cases hx3:x1-1=0
           ·rw [if_pos (by simpa using hx3)]
            exact wpS_pure (.inl ⟨_,_,_,rfl,rfl,fin_ok L4 hx3⟩)
           ·rw [if_neg (by simpa using hx3)]
            split
            ·exact wpS_pure (.inr ⟨_,_,_,_,_,_,_,rfl,rfl,L4,by lia,by lia,by lia⟩)
            ·exact wpS_pure ⟨_,_,_,_,_,_,_,rfl,rfl,L4,by lia,by lia,by lia⟩
end
end DhSort
set_option maxHeartbeats 4000000
namespace DhSort
open PySem PyProof.Rows
noncomputable abbrev Run:=Nat×Nat×Nat
noncomputable def ao (W:Wk) (xs:Array Keyed):Nat->List Run->Nat->Prop
 |p,[],q=>p=q
 |p,(s,n,_)::r,q=>s=p/\1<=n/\ax W xs p (p+n)/\ao W xs (p+n) r q
theorem ax.same {W:Wk}{xs ys:Array Keyed}{lo hi:Nat} (h:ax W xs lo hi) (e: ∀j,lo<=j->j<hi->kAt ys j=kAt xs j):ax W ys lo hi:=fun i j z1 z2 z3=>by
 rw [e i z1 (by lia),e j (by lia) z3]
 exact h i j z1 z2 z3
section
variable {W:Wk}{xs ys:Array Keyed}
theorem ao.le: ∀{l:List Run}{p q:Nat},ao W xs p l q->p<=q
 |[],p,q,h=>Nat.le_of_eq h
 |(s,n,_)::r,p,q,h=>by
  have:=ao.le h.2.2.2
  lia
theorem ao.len: ∀{l:List Run}{p q:Nat},ao W xs p l q->p+l.length<=q
 |[],p,q,h=>Nat.le_of_eq (show p+0=q from h)
 |(s,n,_)::r,p,q,h=>by
  have:=ao.len h.2.2.2
  have:=h.2.1
  rw [List.length_cons]
  lia
theorem ao.same: ∀{l:List Run}{p q:Nat},ao W xs p l q->(∀j,p<=j->j<q->kAt ys j=kAt xs j)->ao W ys p l q
 |[],p,q,h,_=>h
 |(s,n,_)::r,p,q,h,e=>by
  have hl:=ao.le h.2.2.2
  exact ⟨h.1,h.2.1,h.2.2.1.same fun j z1 z2=>e j z1 (by lia),ao.same h.2.2.2 fun j z1 z2=>e j (by lia) z2⟩
theorem ao.snoc: ∀{l:List Run}{p q n t:Nat},ao W xs p l q->1<=n->ax W xs q (q+n)->ao W xs p (l++[(q,n,t)]) (q+n)
 |[],p,q,n,t,h,h1,hs=>by
  have h:p=q:=h
  subst h
  exact ⟨rfl,h1,hs,rfl⟩
 |(s,m,_)::r,p,q,n,t,h,h1,hs=>⟨h.1,h.2.1,h.2.2.1,ao.snoc h.2.2.2 h1 hs⟩
theorem ao.at: ∀{l:List Run}{p q i sa na pw:Nat},ao W xs p l q->l[i]?=some (sa,na,pw)->p<=sa/\1<=na/\sa+na<=q/\ax W xs sa (sa+na)
 |[],p,q,i,sa,na,pw,h,e=>by simp at e
 |(s,m,t)::r,p,q,0,sa,na,pw,h,e=>by
  simp only [List.getElem?_cons_zero,Option.some.injEq,Prod.mk.injEq] at e
  obtain ⟨rfl,rfl,rfl⟩:=e
  obtain ⟨rfl,h1,h2,h3⟩:=h
  exact ⟨Nat.le_refl _,h1,ao.le h3,h2⟩
 |(s,m,t)::r,p,q,i+1,sa,na,pw,h,e=>by
  have q:=ao.at (i:=i) h.2.2.2 (by simpa using e)
  exact ⟨by lia,q.2.1,q.2.2.1,q.2.2.2⟩
theorem ao.next: ∀{l:List Run}{p q i sa na pw sb nb pw2:Nat},ao W xs p l q->l[i]?=some (sa,na,pw)->l[i+1]?=some (sb,nb,pw2)->sb=sa+na
 |[],p,q,i,sa,na,pw,sb,nb,pw2,h,e,_=>by simp at e
 |(s,m,t)::r,p,q,0,sa,na,pw,sb,nb,pw2,h,e,e2=>by
  simp only [List.getElem?_cons_zero,Option.some.injEq,Prod.mk.injEq] at e
  obtain ⟨rfl,rfl,rfl⟩:=e
  cases r with
  |nil=>simp at e2
  |cons x r=>
   obtain ⟨s2,m2,t2⟩:=x
   simp only [List.getElem?_cons_succ,List.getElem?_cons_zero,Option.some.injEq,Prod.mk.injEq,Nat.zero_add] at e2
   obtain ⟨rfl,rfl,rfl⟩:=e2
   obtain ⟨rfl,_,_,h3⟩:=h
   exact h3.1
 |(s,m,t)::r,p,q,i+1,sa,na,pw,sb,nb,pw2,h,e,e2=>ao.next (i:=i) h.2.2.2 (by simpa using e) (by simpa using e2)
theorem ao.merge: ∀{l:List Run}{p q i sa na pw sb nb pw2:Nat},ao W xs p l q->l[i]?=some (sa,na,pw)->l[i+1]?=some (sb,nb,pw2)->(∀j,j<sa \/sb+nb<=j->kAt ys j=kAt xs j)->ax W ys sa (sb+nb)->
  ao W ys p ((l.set i (sa,na+nb,pw)).eraseIdx (i+1)) q
 |[],p,q,i,sa,na,pw,sb,nb,pw2,h,e,_,_,_=>by simp at e
 |(s,m,t)::r,p,q,0,sa,na,pw,sb,nb,pw2,h,e,e2,fr,sr=>by
  simp only [List.getElem?_cons_zero,Option.some.injEq,Prod.mk.injEq] at e
  obtain ⟨rfl,rfl,rfl⟩:=e
  cases r with
  |nil=>simp at e2
  |cons x r=>
   obtain ⟨s2,m2,t2⟩:=x
   simp only [List.getElem?_cons_succ,List.getElem?_cons_zero,Option.some.injEq,Prod.mk.injEq,Nat.zero_add] at e2
   obtain ⟨rfl,rfl,rfl⟩:=e2
   obtain ⟨rfl,h1,_,h3⟩:=h
   obtain ⟨e3,h4,_,h5⟩:=h3
   subst e3
   show ao W ys s ((s,m+m2,t)::r) q
   refine ⟨rfl,by lia,?_,?_⟩
   ·rw [<-Nat.add_assoc];exact sr
   ·rw [<-Nat.add_assoc]
    exact h5.same fun j z1 z2=>fr j (.inr z1)
 |(s,m,t)::r,p,q,i+1,sa,na,pw,sb,nb,pw2,h,e,e2,fr,sr=>by
  have e':r[i]?=some (sa,na,pw):=by simpa using e
  have e2':r[i+1]?=some (sb,nb,pw2):=by simpa using e2
  have hat:=ao.at h.2.2.2 e'
  show ao W ys p ((s,m,t)::(r.set i (sa,na+nb,pw)).eraseIdx (i+1)) q
  exact ⟨h.1,h.2.1,h.2.2.1.same fun j z1 z2=>fr j (.inl (by lia)),ao.merge h.2.2.2 e' e2' fr sr⟩
theorem ao.repow: ∀{l:List Run}{p q i:Nat}{f:Nat->Nat},ao W xs p l q->ao W xs p (l.modify i fun x=>(x.1,x.2.1,f x.2.2)) q
 |[],p,q,i,f,h=>by simpa using h
 |(s,m,t)::r,p,q,0,f,h=>by
  show ao W xs p ((s,m,f t)::r) q
  exact h
 |(s,m,t)::r,p,q,i+1,f,h=>by
  show ao W xs p ((s,m,t)::r.modify i _) q
  exact ⟨h.1,h.2.1,h.2.2.1,ao.repow h.2.2.2⟩
end
theorem ao.repowC {W:Wk}{xs:Array Keyed}{l:List Run}{p q i t:Nat} (h:ao W xs p l q):ao W xs p (l.modify i fun x=>(x.1,x.2.1,t)) q:=ao.repow (f:=fun _=>t) h
theorem oh {p:Nat}: ∀(l:List Keyed) (n:Nat) (xs:Array Keyed),p+n+l.length<=xs.size->
  ((l.zipIdx n).foldl (fun a (x:Keyed×Nat)=>a.setIfInBounds (p+x.2) x.1) xs).toList=xs.toList.take (p+n)++l++xs.toList.drop (p+n+l.length)
 |[],n,xs,h=>by simp
 |x::l,n,xs,h=>by
  rw [List.zipIdx_cons,List.foldl_cons,oh l (n+1) _ (by rw [Array.size_setIfInBounds];rw [List.length_cons] at h;lia)]
  rw [List.length_cons] at h
  have hlt:p+n<xs.toList.length:=by simp;lia
  rw [Array.toList_setIfInBounds,<-Nat.add_assoc,List.take_succ,List.length_cons]
  rw [List.drop_set_of_lt (by lia),List.getElem?_set_self hlt,List.take_set_of_le (by lia)]
  rw [show p+n+1+l.length=p+n+(l.length+1) by lia]
  simp
theorem dQ {xs:Array Keyed}{i:Nat}:kAt xs i=(xs.toList[i]?).getD (Value.none,Value.none):=by
 unfold kAt
 simp
theorem xQ (i:Nat):mergeAt' i=(do
 let s0<-get
 let (some (sa,na,pw),some (sb,nb,_)):=((pendingOf s0)[i]?,(pendingOf s0)[i+1]?)|unsupported "internal:list.sort.pending"
 set (SortSt.mk' (kindOf s0) (arrOf s0) (((pendingOf s0).setIfInBounds i (sa,na+nb,pw)).eraseIdxIfInBounds (i+1)) (gallopOf s0) (failedOf s0))
 let some k<-gal false (<-elem' (arrOf s0) sb) (arrOf s0) sa na 0|return false
 let (sa,na):=(sa+k,na-k)
 if na==0 then return true
 let some nb<-gal true (<-elem' (arrOf s0) (sa+na-1)) (arrOf s0) sb nb (nb-1)|return false
 if nb==0 then return true
 let x:=(arrOf s0).extract sa sb
 let y:=(arrOf s0).extract sb (sb+nb)
 let mrg<-if na<=nb then mLo x y else mHi x y
 modify fun st=>setArr st (mrg.toList.zipIdx.foldl (fun a (p,j)=>a.setIfInBounds (sa+j) p) (arrOf st))
 return (failedOf (<-get)).isNone):=rfl
theorem oi {xs:Array Keyed}{lo hi i:Nat} (h:lo+i<hi) (h2:hi<=xs.size):kAt (xs.extract lo hi) i=kAt xs (lo+i):=by
 rw [dQ,dQ,Array.toList_extract,List.extract_eq_drop_take,List.getElem?_take,if_pos (by lia),List.getElem?_drop]
theorem xR {xs:Array Keyed}{i:Nat} (h:i<xs.size):kAt xs i∈xs.toList:=List.mem_of_getElem? (eg h)
theorem oj {xs:Array Keyed}{x:Keyed} (h:x∈xs.toList): ∃i,i<xs.size/\x=kAt xs i:=by
 obtain ⟨i,hi⟩:=List.mem_iff_getElem?.mp h
 have hl:i<xs.size:=by simpa using (List.getElem?_eq_some_iff.mp hi).1
 rw [eg hl] at hi
 exact ⟨i,hl,(Option.some.inj hi).symm⟩
theorem xS {W:Wk}{xs:Array Keyed} (h:xs.toList.Pairwise W.le) {i j:Nat} (hij:i<=j) (hj:j<xs.size):W.le (kAt xs i) (kAt xs j):=by
 by_cases e:i=j
 ·subst e;exact Wk.bI
 ·have h1:i<xs.toList.length:=by simp;lia
  have h2:j<xs.toList.length:=by simp;lia
  have q:=List.pairwise_iff_getElem.mp h i j h1 h2 (by lia)
  have e1:=eg (a:=xs) (i:=i) (by lia)
  have e2:=eg (a:=xs) (i:=j) hj
  rw [List.getElem?_eq_getElem h1] at e1
  rw [List.getElem?_eq_getElem h2] at e2
  rw [<-Option.some.inj e1,<-Option.some.inj e2]
  exact q
section
variable {prog:Program}{w:World}{A:Around}{E:Value->Shared->Prop}{s:Shared}{W:Wk}{kd:SortKind}{good:Keyed->Prop}{a₀:Array Keyed}{P:Array Run}{st:SortSt}
theorem xT {x:SortSt}{Q:PUnit->SortSt->Prop} (h:Q ⟨⟩ x):wpS (model prog w) A E s (set x:StateT SortSt Sem PUnit) Q st:=by
 unfold wpS
 exact wpAny_pure ⟨rfl,h⟩
theorem ko (C:Cmp W kd good prog w A s) (hg: ∀p,p∈a₀.toList->good p) {i sa na pw sb nb pw2:Nat} (B:Bs a₀ kd P st) (e1:P[i]?=some (sa,na,pw)) (e2:P[i+1]?=some (sb,nb,pw2)) (hsb:sb=sa+na) (h1:1<=na) (h2:1<=nb) (hz:sb+nb<=a₀.size)
  (s1:ax W (arrOf st) sa (sa+na)) (s2:ax W (arrOf st) sb (sb+nb)) {Q:Bool->SortSt->Prop}
  (h: ∀st',Bs a₀ kd ((P.setIfInBounds i (sa,na+nb,pw)).eraseIdxIfInBounds (i+1)) st'->ax W (arrOf st') sa (sb+nb)->(∀j,j<sa \/sb+nb<=j->kAt (arrOf st') j=kAt (arrOf st) j)->Q true st'):wpS (model prog w) A E s (mergeAt' i) Q st:=by
 rw [xQ]
 refine wpS_bind (wpS_get ?_)
 dsimp only
 rw [B.pend,e1,e2]
 dsimp only
 refine wpS_bind (xT ?_)
 have hsz:=B.sz
 subst hsb
 refine wpS_bind (au (by lia) ?_)
 generalize hP':(P.setIfInBounds i (sa,na+nb,pw)).eraseIdxIfInBounds (i+1)=P' at h|-
 have B1:Bs a₀ kd P' (SortSt.mk' (kindOf st) (arrOf st) P' (gallopOf st) (failedOf st)):=⟨B.perm,B.kind,B.failed,rfl⟩
 have hk':kindOf (SortSt.mk' (kindOf st) (arrOf st) P' (gallopOf st) (failedOf st))=kd:=B.kind
 have gk: ∀j,j<a₀.size->good (kAt (arrOf st) j):=fun j z=>B.gd hg z
 refine wpS_bind (bR C hk' (by lia) (by lia) (gk _ (by lia)) (fun j z=>gk _ (by lia)) (fun i j z1 z2 z3=> ?_) fun k u1 u2 u3=> ?_)
 ·unfold bey at z3|-
  rw [if_neg Bool.false_ne_true] at z3|-
  have q0:W.lt (kAt (arrOf st) (sa+na)) (kAt (arrOf st) (sa+j))=false:=by simpa using z3
  have q1:W.le (kAt (arrOf st) (sa+i)) (kAt (arrOf st) (sa+na)):=Wk.aC (s1 _ _ (by lia) (by lia) (by lia)) q0
  have q2:W.lt (kAt (arrOf st) (sa+na)) (kAt (arrOf st) (sa+i))=false:=q1
  simpa using q2
 have le1: ∀j,sa<=j->j<sa+k->W.le (kAt (arrOf st) j) (kAt (arrOf st) (sa+na)):=fun j z1 z2=>by
  have:=u2 (j-sa) (by lia)
  unfold bey at this
  rw [if_neg Bool.false_ne_true,show sa+(j-sa)=j by lia] at this
  have q0:W.lt (kAt (arrOf st) (sa+na)) (kAt (arrOf st) j)=false:=by simpa using this
  exact q0
 have gt1: ∀j,sa+k<=j->j<sa+na->W.lt (kAt (arrOf st) (sa+na)) (kAt (arrOf st) j)=true:=fun j z1 z2=>by
  have:=u3 (j-sa) (by lia) (by lia)
  unfold bey at this
  rw [if_neg Bool.false_ne_true,show sa+(j-sa)=j by lia] at this
  simpa using this
 dsimp only
 by_cases hk:na-k=0
 ·rw [if_pos (by simpa using hk)]
  refine wpS_pure (h _ B1 (fun i j z1 z2 z3=> ?_) fun _ _=>rfl)
  by_cases hj:j<sa+na
  ·exact s1 i j z1 z2 hj
  ·by_cases hi:i<sa+na
   ·exact Wk.aC (le1 i z1 (by lia)) (s2 _ _ (Nat.le_refl _) (by lia) z3)
   ·exact s2 i j (by lia) z2 z3
 rw [if_neg (by simpa using hk)]
 refine wpS_bind (au (by lia) ?_)
 rw [show sa+k+(na-k)-1=sa+na-1 by lia]
 refine wpS_bind (bR C hk' (by lia) (by lia) (gk _ (by lia)) (fun j z=>gk _ (by lia)) (fun i j z1 z2 z3=> ?_) fun m v1 v2 v3=> ?_)
 ·unfold bey at z3|-
  rw [if_pos rfl] at z3|-
  exact Wk.cF (s2 _ _ (by lia) (by lia) (by lia)) z3
 have lt2: ∀j,sa+na<=j->j<sa+na+m->W.lt (kAt (arrOf st) j) (kAt (arrOf st) (sa+na-1))=true:=fun j z1 z2=>by
  have:=v2 (j-(sa+na)) (by lia)
  unfold bey at this
  rw [if_pos rfl,show sa+na+(j-(sa+na))=j by lia] at this
  exact this
 have ge2: ∀j,sa+na+m<=j->j<sa+na+nb->W.le (kAt (arrOf st) (sa+na-1)) (kAt (arrOf st) j):=fun j z1 z2=>by
  have:=v3 (j-(sa+na)) (by lia) (by lia)
  unfold bey at this
  rw [if_pos rfl,show sa+na+(j-(sa+na))=j by lia] at this
  exact this
 have key:=gt1 (sa+na-1) (by lia) (by lia)
 dsimp only
 by_cases hm:m=0
 ·exfalso
  have q:=ge2 (sa+na) (by lia) (by lia)
  unfold Wk.le at q
  rw [key] at q
  cases q
 rw [if_neg (by simpa using hm)]
 generalize hx:(arrOf st).extract (sa+k) (sa+na)=x
 generalize hy:(arrOf st).extract (sa+na) (sa+na+m)=y
 have xsz:x.size=na-k:=by rw [<-hx,Array.size_extract];lia
 have ysz:y.size=m:=by rw [<-hy,Array.size_extract];lia
 have kx: ∀j,j<na-k->kAt x j=kAt (arrOf st) (sa+k+j):=fun j z=>by rw [<-hx];exact oi (by lia) (by lia)
 have ky: ∀j,j<m->kAt y j=kAt (arrOf st) (sa+na+j):=fun j z=>by rw [<-hy];exact oi (by lia) (by lia)
 have gx: ∀j,j<x.size->good (kAt x j):=fun j z=>by rw [kx j (by lia)];exact gk _ (by lia)
 have gy: ∀j,j<y.size->good (kAt y j):=fun j z=>by rw [ky j (by lia)];exact gk _ (by lia)
 have sx:ax W x 0 x.size:=fun i j z1 z2 z3=>by rw [kx i (by lia),kx j (by lia)];exact s1 _ _ (by lia) (by lia) (by lia)
 have sy:ax W y 0 y.size:=fun i j z1 z2 z3=>by rw [ky i (by lia),ky j (by lia)];exact s2 _ _ (by lia) (by lia) (by lia)
 have p0:W.lt (kAt y 0) (kAt x 0)=true:=by rw [kx 0 (by lia),ky 0 (by lia)];exact gt1 _ (by lia) (by lia)
 have p1:W.lt (kAt y (y.size-1)) (kAt x (x.size-1))=true:=by
  rw [kx _ (by lia),ky _ (by lia),show sa+k+(x.size-1)=sa+na-1 by lia]
  exact lt2 _ (by lia) (by lia)
 have fin: ∀r g,One W x y r->wpS (model prog w) A E s (do
   modify fun st=>setArr st (r.toList.zipIdx.foldl (fun a (p,j)=>a.setIfInBounds (sa+k+j) p) (arrOf st))
   let z<-get
   pure (failedOf z).isNone) Q (SortSt.mk' (kindOf st) (arrOf st) P' g (failedOf st)):=by
  intro r g one
  obtain ⟨perm,srt⟩:=one
  have rlen:r.toList.length=na-k+m:=by
   have:=perm.length_eq
   simp only [List.length_append,Array.length_toList,xsz,ysz] at this|-
   exact this
  have rsz:r.size=na-k+m:=by simpa using rlen
  have pb:=oh (p:=sa+k) r.toList 0 (arrOf st) (by rw [rlen];lia)
  rw [Nat.add_zero,rlen] at pb
  generalize hz':(r.toList.zipIdx).foldl (fun a (x:Keyed×Nat)=>a.setIfInBounds (sa+k+x.2) x.1) (arrOf st)=zs at pb
  have hz2:(r.toList.zipIdx).foldl (fun a (p,j)=>a.setIfInBounds (sa+k+j) p) (arrOf st)=zs:=hz'
  refine wpS_bind (wpS_modify (wpS_bind (wpS_get (wpS_pure ?_))))
  show Q (failedOf st).isNone (SortSt.mk' (kindOf st) ((r.toList.zipIdx).foldl (fun a (p,j)=>a.setIfInBounds (sa+k+j) p) (arrOf st)) P' g (failedOf st))
  rw [hz2,B.failed]
  have tl:((arrOf st).toList.take (sa+k)).length=sa+k:=by rw [List.length_take];simp;lia
  have zlo: ∀j,j<sa+k->kAt zs j=kAt (arrOf st) j:=fun j z=>by
   rw [dQ,dQ,pb,List.append_assoc,List.getElem?_append_left (by lia),List.getElem?_take,if_pos z]
  have zmid: ∀j,sa+k<=j->j<sa+na+m->kAt zs j=kAt r (j-(sa+k)):=fun j z1 z2=>by
   rw [dQ,dQ,pb,List.append_assoc,List.getElem?_append_right (by lia),tl,List.getElem?_append_left (by lia)]
  have zhi: ∀j,sa+na+m<=j->kAt zs j=kAt (arrOf st) j:=fun j z=>by
   rw [dQ,dQ,pb,List.append_assoc,List.getElem?_append_right (by lia),tl,List.getElem?_append_right (by lia),rlen,List.getElem?_drop]
   congr 2
   lia
  have rin: ∀j,j<r.size-> ∃i,sa+k<=i/\i<sa+na+m/\kAt r j=kAt (arrOf st) i:=fun j z=>by
   have hm:=perm.mem_iff.mp (xR z)
   rcases List.mem_append.mp hm with q|q
   ·obtain ⟨i,hi,e⟩:=oj q
    exact ⟨sa+k+i,by lia,by lia,by rw [e,kx i (by lia)]⟩
   ·obtain ⟨i,hi,e⟩:=oj q
    exact ⟨sa+na+i,by lia,by lia,by rw [e,ky i (by lia)]⟩
  have zperm:zs.Perm (arrOf st):=by
   rw [Array.perm_iff_toList_perm,pb]
   have hx':x.toList=((arrOf st).toList.drop (sa+k)).take (na-k):=by
    rw [<-hx,Array.toList_extract,List.extract_eq_drop_take,show sa+na-(sa+k)=na-k by lia]
   have hy':y.toList=((arrOf st).toList.drop (sa+na)).take m:=by
    rw [<-hy,Array.toList_extract,List.extract_eq_drop_take,show sa+na+m-(sa+na)=m by lia]
   have hxy:x.toList++y.toList=((arrOf st).toList.drop (sa+k)).take (na-k+m):=by
    rw [hx',hy',List.take_add,List.drop_drop,show sa+k+(na-k)=sa+na by lia]
   have hall:(arrOf st).toList=(arrOf st).toList.take (sa+k)++(((arrOf st).toList.drop (sa+k)).take (na-k+m)++(arrOf st).toList.drop (sa+k+(na-k+m))):=by
    conv=>lhs;rw [<-List.take_append_drop (sa+k) (arrOf st).toList,<-List.take_append_drop (na-k+m) ((arrOf st).toList.drop (sa+k))]
    rw [List.drop_drop]
   conv=>rhs;rw [hall]
   rw [List.append_assoc]
   refine List.Perm.append_left _ (List.Perm.append_right _ ?_)
   rw [<-hxy]
   exact perm
  refine h _ ⟨zperm.trans B.perm,B.kind,rfl,rfl⟩ (fun i j z1 z2 z3=> ?_) fun j z=> ?_
  ·show W.le (kAt zs i) (kAt zs j)
   by_cases c1:j<sa+k
   ·rw [zlo i (by lia),zlo j c1]
    exact s1 i j z1 z2 (by lia)
   ·by_cases c2:j<sa+na+m
    ·rw [zmid j (by lia) c2]
     by_cases c3:i<sa+k
     ·rw [zlo i c3]
      obtain ⟨l,l1,l2,e⟩:=rin (j-(sa+k)) (by lia)
      rw [e]
      by_cases c4:l<sa+na
      ·exact s1 i l z1 (by lia) c4
      ·exact Wk.aC (le1 i z1 c3) (s2 _ _ (Nat.le_refl _) (by lia) (by lia))
     ·rw [zmid i (by lia) (by lia)]
      exact xS srt (by lia) (by lia)
    ·rw [zhi j (by lia)]
     by_cases c3:i<sa+k
     ·rw [zlo i c3]
      exact Wk.aC (le1 i z1 c3) (s2 _ _ (Nat.le_refl _) (by lia) z3)
     ·by_cases c4:i<sa+na+m
      ·rw [zmid i (by lia) c4]
       obtain ⟨l,l1,l2,e⟩:=rin (i-(sa+k)) (by lia)
       rw [e]
       by_cases c5:l<sa+na
       ·exact Wk.aC (s1 l (sa+na-1) (by lia) (by lia) (by lia)) (ge2 j (by lia) z3)
       ·exact s2 l j (by lia) (by lia) z3
      ·rw [zhi i (by lia)]
       exact s2 i j (by lia) z2 z3
  ·show kAt zs j=_
   rcases z with z|z
   ·exact zlo j (by lia)
   ·exact zhi j (by lia)
 by_cases hnm:na-k<=m
 ·rw [if_pos hnm]
  exact wpS_bind (xM (st:=SortSt.mk' (kindOf st) (arrOf st) P' (gallopOf st) (failedOf st)) C B.kind (by lia) (by lia) gx gy sx sy p0 p1 fun r g one=>fin r g one)
 ·rw [if_neg hnm]
  exact wpS_bind (xP (st:=SortSt.mk' (kindOf st) (arrOf st) P' (gallopOf st) (failedOf st)) C B.kind (by lia) (by lia) gx gy sx sy p0 p1 fun r g one=>fin r g one)
theorem xU (C:Cmp W kd good prog w A s) (hg: ∀p,p∈a₀.toList->good p) (B:Bs a₀ kd #[] st) (h2:2<=a₀.size) {Q:Unit->SortSt->Prop}
  (h: ∀st',(arrOf st').Perm a₀->failedOf st'=none->ax W (arrOf st') 0 a₀.size->Q () st'):wpS (model prog w) A E s sortRuns' Q st:=by
 rw [sortRuns'_eq]
 refine wpS_bind (wpS_get ?_)
 try dsimp only
 rw [B.sz]
 generalize minRun' a₀.size a₀.size 0=mr
 refine wpS_bind (wpS_mono (wpS_forRange (I:=fun x c st'=> ∃lo P,c=(none,lo)/\Bs a₀ kd P st'/\ao W (arrOf st') 0 P.toList lo/\lo<=a₀.size/\(x<=lo \/lo=a₀.size))
  (Q:=fun c st'=> ∃P,c=(none,a₀.size)/\Bs a₀ kd P st'/\ao W (arrOf st') 0 P.toList a₀.size) ?stp ?lst ⟨0,#[],rfl,B,rfl,Nat.zero_le _,.inl (Nat.le_refl _)⟩) ?aft)
 case lst=>
  rintro c st' ⟨lo,P,rfl,B1,ch,z1,z2⟩
  obtain rfl:lo=a₀.size:=by lia
  exact ⟨P,rfl,B1,ch⟩
 case stp=>
  rintro x c st' _ hx ⟨lo,P,rfl,B0,ch,z1,z2⟩
  try dsimp only
  by_cases hge:lo>=a₀.size
  ·rw [if_pos hge]
   obtain rfl:lo=a₀.size:=by lia
   exact wpS_pure ⟨P,rfl,B0,ch⟩
  rw [if_neg hge]
  refine wpS_bind (xI C hg (by lia) (by lia) B0 fun m st1 m1 m2 B1 sr1 fr=> ?_)
  have ch1:ao W (arrOf st1) 0 P.toList lo:=ch.same fun j _ z=>fr j z
  try dsimp only
  by_cases hlt:m<mr
  ·rw [if_pos hlt]
   refine wpS_bind (wpS_lift (wpAny_rule ⟨rfl,?_⟩))
   refine wpS_bind (xH C hg (n:=min (a₀.size-lo) mr) (by lia) (by lia) B1 sr1 fun st4 B4 sr4 fr4=> ?_)
   have ch4:ao W (arrOf st4) 0 P.toList lo:=ch1.same fun j _ z=>fr4 j z
   try dsimp only
   rw [if_neg (by decide)]
   have n1:1<=min (a₀.size-lo) mr:=by lia
   have n2:lo+min (a₀.size-lo) mr<=a₀.size:=by lia
   generalize min (a₀.size-lo) mr=nn at n1 n2 sr4|-
   clear B1 sr1 fr ch1
   have B1:=B4
   have sr1:=sr4
   have ch1:=ch4
   clear B4 sr4 ch4 fr4
   generalize st4=st1 at B1 sr1 ch1|-
   refine wpS_bind (wpS_get ?_)
   rw [B1.pend]
   cases hbk:P.back? with
   |none=>
    try dsimp only
    refine wpS_bind (wpS_modify (wpS_pure ⟨_,P.push (lo,nn,0),rfl,⟨B1.perm,B1.kind,B1.failed,by show (pendingOf st1).push _=_;rw [B1.pend]⟩,?_,by lia,by lia⟩))
    rw [Array.toList_push]
    exact ch1.snoc n1 sr1
   |some bk=>
    obtain ⟨b1,b2,b3⟩:=bk
    try dsimp only
    refine wpS_bind (wpS_mono (wpS_forRange (I:=fun x c st'=>c=(none,())/\ ∃P',Bs a₀ kd P' st'/\ao W (arrOf st') 0 P'.toList lo/\ax W (arrOf st') lo (lo+nn))
     (Q:=fun c st'=>c=(none,())/\ ∃P',Bs a₀ kd P' st'/\ao W (arrOf st') 0 P'.toList lo/\ax W (arrOf st') lo (lo+nn)) ?_ (fun _ _ z=>z) ⟨rfl,P,B1,ch1,sr1⟩) ?_)
    ·rintro x' c' st2 _ _ ⟨rfl,P',B2,ch2,sr2⟩
     refine wpS_bind (wpS_get ?_)
     rw [B2.pend]
     by_cases hgt:P'.size>1
     ·rw [if_pos hgt]
      obtain ⟨⟨sa,na,pw⟩,e1⟩: ∃r,P'[P'.size-2]?=some r:=⟨_,getElem?_pos P' (P'.size-2) (by lia)⟩
      obtain ⟨⟨sb,nb,pw2⟩,e2⟩: ∃r,P'[P'.size-2+1]?=some r:=⟨_,getElem?_pos P' (P'.size-2+1) (by lia)⟩
      rw [e1]
      try dsimp only
      have c1:=ch2.at (i:=P'.size-2) (by simpa using e1)
      have c2:=ch2.at (i:=P'.size-2+1) (by simpa using e2)
      have c3:=ch2.next (i:=P'.size-2) (by simpa using e1) (by simpa using e2)
      split
      ·exact wpS_pure ⟨rfl,P',B2,ch2,sr2⟩
      ·refine wpS_bind (ko C hg B2 e1 e2 c3 c1.2.1 c2.2.1 (by lia) c1.2.2.2 c2.2.2.2 fun st3 B3 sr3 fr=> ?_)
       try dsimp only
       rw [if_neg (by decide)]
       refine wpS_pure ⟨rfl,_,B3,?_,sr2.same fun j z1 z2=>fr j (.inr (by lia))⟩
       rw [Array.toList_eraseIdxIfInBounds,Array.toList_setIfInBounds]
       exact ch2.merge (by simpa using e1) (by simpa using e2) fr sr3
     ·rw [if_neg hgt]
      try dsimp only
      exact wpS_pure ⟨rfl,P',B2,ch2,sr2⟩
    ·rintro c' st2 ⟨rfl,P',B2,ch2,sr2⟩
     try dsimp only
     refine wpS_bind (wpS_modify (wpS_bind (wpS_modify (wpS_pure ?_))))
     refine ⟨_,_,rfl,⟨B2.perm,B2.kind,B2.failed,rfl⟩,?_,by lia,by lia⟩
     show ao W (arrOf st2) 0 (Array.push (Array.modify (pendingOf st2) _ _) (lo,nn,0)).toList (lo+nn)
     rw [Array.toList_push,B2.pend,Array.toList_modify]
     exact ao.snoc (ao.repowC ch2) n1 sr2
  ·rw [if_neg hlt]
   have n1:=m1
   have n2:lo+m<=a₀.size:=by lia
   refine wpS_bind (wpS_get ?_)
   rw [B1.pend]
   cases hbk:P.back? with
   |none=>
    try dsimp only
    refine wpS_bind (wpS_modify (wpS_pure ⟨_,P.push (lo,m,0),rfl,⟨B1.perm,B1.kind,B1.failed,by show (pendingOf st1).push _=_;rw [B1.pend]⟩,?_,by lia,by lia⟩))
    rw [Array.toList_push]
    exact ch1.snoc n1 sr1
   |some bk=>
    obtain ⟨b1,b2,b3⟩:=bk
    try dsimp only
    refine wpS_bind (wpS_mono (wpS_forRange (I:=fun x c st'=>c=(none,())/\ ∃P',Bs a₀ kd P' st'/\ao W (arrOf st') 0 P'.toList lo/\ax W (arrOf st') lo (lo+m))
     (Q:=fun c st'=>c=(none,())/\ ∃P',Bs a₀ kd P' st'/\ao W (arrOf st') 0 P'.toList lo/\ax W (arrOf st') lo (lo+m)) ?_ (fun _ _ z=>z) ⟨rfl,P,B1,ch1,sr1⟩) ?_)
    ·rintro x' c' st2 _ _ ⟨rfl,P',B2,ch2,sr2⟩
     refine wpS_bind (wpS_get ?_)
     rw [B2.pend]
     by_cases hgt:P'.size>1
     ·rw [if_pos hgt]
      obtain ⟨⟨sa,na,pw⟩,e1⟩: ∃r,P'[P'.size-2]?=some r:=⟨_,getElem?_pos P' (P'.size-2) (by lia)⟩
      obtain ⟨⟨sb,nb,pw2⟩,e2⟩: ∃r,P'[P'.size-2+1]?=some r:=⟨_,getElem?_pos P' (P'.size-2+1) (by lia)⟩
      rw [e1]
      try dsimp only
      have c1:=ch2.at (i:=P'.size-2) (by simpa using e1)
      have c2:=ch2.at (i:=P'.size-2+1) (by simpa using e2)
      have c3:=ch2.next (i:=P'.size-2) (by simpa using e1) (by simpa using e2)
      split
      ·exact wpS_pure ⟨rfl,P',B2,ch2,sr2⟩
      ·refine wpS_bind (ko C hg B2 e1 e2 c3 c1.2.1 c2.2.1 (by lia) c1.2.2.2 c2.2.2.2 fun st3 B3 sr3 fr=> ?_)
       try dsimp only
       rw [if_neg (by decide)]
       refine wpS_pure ⟨rfl,_,B3,?_,sr2.same fun j z1 z2=>fr j (.inr (by lia))⟩
       rw [Array.toList_eraseIdxIfInBounds,Array.toList_setIfInBounds]
       exact ch2.merge (by simpa using e1) (by simpa using e2) fr sr3
     ·rw [if_neg hgt]
      try dsimp only
      exact wpS_pure ⟨rfl,P',B2,ch2,sr2⟩
    ·rintro c' st2 ⟨rfl,P',B2,ch2,sr2⟩
     try dsimp only
     refine wpS_bind (wpS_modify (wpS_bind (wpS_modify (wpS_pure ?_))))
     refine ⟨_,_,rfl,⟨B2.perm,B2.kind,B2.failed,rfl⟩,?_,by lia,by lia⟩
     show ao W (arrOf st2) 0 (Array.push (Array.modify (pendingOf st2) _ _) (lo,m,0)).toList (lo+m)
     rw [Array.toList_push,B2.pend,Array.toList_modify]
     exact ao.snoc (ao.repowC ch2) n1 sr2
 case aft=>
  rintro c st' ⟨P,rfl,B1,ch⟩
  try dsimp only
  have hlen:=ch.len
  refine wpS_bind (wpS_mono (wpS_forRange (I:=fun x c st'=>c=(none,())/\ ∃P,Bs a₀ kd P st'/\ao W (arrOf st') 0 P.toList a₀.size/\(P.size<=1 \/P.size+x<=a₀.size))
   (Q:=fun c st'=>c=(none,())/\ ∃P,Bs a₀ kd P st'/\ao W (arrOf st') 0 P.toList a₀.size/\P.size<=1) ?s2 ?l2 ⟨rfl,P,B1,ch,.inr (by rw [Array.length_toList] at hlen;lia)⟩) ?a2)
  case l2=>
   rintro c st' ⟨hc,P,B1,ch,z⟩
   exact ⟨hc,P,B1,ch,by lia⟩
  case a2=>
   rintro c st' ⟨rfl,P,B1,ch,z⟩
   try dsimp only
   refine wpS_pure (h st' B1.perm B1.failed ?_)
   have hl:P.toList.length<=1:=by rw [Array.length_toList];exact z
   match hP:P.toList,hl with
   |[],_=>
    rw [hP] at ch
    have:0=a₀.size:=ch
    lia
   |[(s0,n0,t0)],_=>
    rw [hP] at ch
    obtain ⟨_,_,c3,c4⟩:=ch
    have c4:0+n0=a₀.size:=c4
    rw [c4] at c3
    exact c3
   |_::_::_,hl=>simp at hl
  case s2=>
   rintro x c st' _ hx ⟨rfl,P,B1,ch,z⟩
   refine wpS_bind (wpS_get ?_)
   rw [B1.pend]
   try dsimp only
   by_cases hle:P.size<=1
   ·rw [if_pos hle]
    exact wpS_pure ⟨rfl,P,B1,ch,hle⟩
   rw [if_neg hle]
   have hi: ∀i,i+1<P.size-> ∀Q':Bool->SortSt->Prop,(∀st3 P3,Bs a₀ kd P3 st3->ao W (arrOf st3) 0 P3.toList a₀.size->P3.size+1=P.size->Q' true st3)->wpS (model prog w) A E s (mergeAt' i) Q' st':=by
    intro i hi Q' hQ
    obtain ⟨⟨sa,na,pw⟩,e1⟩: ∃r,P[i]?=some r:=⟨_,getElem?_pos P i (by lia)⟩
    obtain ⟨⟨sb,nb,pw2⟩,e2⟩: ∃r,P[i+1]?=some r:=⟨_,getElem?_pos P (i+1) (by lia)⟩
    have c1:=ch.at (i:=i) (by simpa using e1)
    have c2:=ch.at (i:=i+1) (by simpa using e2)
    have c3:=ch.next (i:=i) (by simpa using e1) (by simpa using e2)
    refine ko C hg B1 e1 e2 c3 c1.2.1 c2.2.1 (by lia) c1.2.2.2 c2.2.2.2 fun st3 B3 sr3 fr=>hQ st3 _ B3 ?_ ?_
    ·rw [Array.toList_eraseIdxIfInBounds,Array.toList_setIfInBounds]
     exact ch.merge (by simpa using e1) (by simpa using e2) fr sr3
    ·rw [<-Array.length_toList,Array.toList_eraseIdxIfInBounds,Array.toList_setIfInBounds,List.length_eraseIdx,if_pos (by rw [List.length_set,Array.length_toList];exact hi),List.length_set,Array.length_toList]
     lia
   refine wpS_bind (hi _ (by (repeat' split)<;>lia) _ fun st3 P3 B3 ch3 sz3=> ?_)
   rw [if_neg (by decide)]
   exact wpS_pure ⟨rfl,P3,B3,ch3,by lia⟩
end
end DhSort
set_option maxHeartbeats 4000000
namespace DhSort
open PySem PySem.Calls PyProof.Rows PySem.W L2
theorem lex_irr: ∀p:List Int,HT.aD p p=false
 |[]=>rfl
 |x::r=>by rw [HT.dZ,if_pos rfl];exact lex_irr r
theorem iR: ∀p q r:List Int,HT.aD p q=true->HT.aD q r=true->HT.aD p r=true
 |[],[],_,a,_=>by cases a
 |[],_::_,[],_,b=>by cases b
 |[],_::_,_::_,_,_=>rfl
 |_::_,[],_,a,_=>by cases a
 |_::_,_::_,[],_,b=>by cases b
 |x::p,y::q,z::r,a,b=>by
  rw [HT.dZ] at a b|-
  by_cases e1:x=y
  ·subst e1
   rw [if_pos rfl] at a
   by_cases e2:x=z
   ·rw [if_pos e2] at b|-;exact iR p q r a b
   ·rw [if_neg e2] at b|-;exact b
  ·rw [if_neg e1] at a
   have a':=of_decide_eq_true a
   by_cases e2:y=z
   ·subst e2;rw [if_neg e1];exact a
   ·rw [if_neg e2] at b
    have b':=of_decide_eq_true b
    rw [if_neg (by lia)]
    exact decide_eq_true (by lia)
theorem kr: ∀p q r:List Int,HT.aD p r=true->HT.aD p q=true \/HT.aD q r=true
 |[],[],_,a=> .inr a
 |[],_::_,_,_=> .inl rfl
 |_::_,_,[],a=>by cases a
 |_::_,[],_::_,_=> .inr rfl
 |x::p,y::q,z::r,a=>by
  rw [HT.dZ] at a|-
  rw [HT.dZ]
  by_cases e1:x=y
  ·subst e1
   rw [if_pos rfl]
   by_cases e2:x=z
   ·rw [if_pos e2] at a|-;exact kr p q r a
   ·rw [if_neg e2] at a|-;exact .inr a
  ·rw [if_neg e1]
   by_cases e2:x=z
   ·subst e2
    rw [if_neg (fun e=>e1 e.symm)]
    by_cases e3:x<y
    ·exact .inl (decide_eq_true e3)
    ·exact .inr (decide_eq_true (by lia))
   ·rw [if_neg e2] at a
    have a':=of_decide_eq_true a
    by_cases e3:x<y
    ·exact .inl (decide_eq_true e3)
    ·refine .inr ?_
     rw [if_neg (by lia)]
     exact decide_eq_true (by lia)
theorem ku: ∀p q:List Int,HT.aD p q=false->HT.aD q p=false->p=q
 |[],[],_,_=>rfl
 |[],_::_,a,_=>by cases a
 |_::_,[],_,b=>by cases b
 |x::p,y::q,a,b=>by
  rw [HT.dZ] at a b
  by_cases e1:x=y
  ·subst e1
   rw [if_pos rfl] at a b
   rw [ku p q a b]
  ·rw [if_neg e1] at a
   rw [if_neg (fun e=>e1 e.symm)] at b
   have a':=of_decide_eq_false a
   have b':=of_decide_eq_false b
   lia
noncomputable def lexW (kf:Value->List Int):Wk where
 lt p q:=HT.aD (kf p.1) (kf q.1)
 irr p:=lex_irr _
 tra p q r:=iR _ _ _
 neg p q r:=kr _ _ _
noncomputable def RowAt (h:Heap) (v:Value) (ns:List Int):Prop:= ∃x ob us n,v= .ref x/\h.get? x=some ob/\ob.cls= .type "tuple"/\ob.data= .seq us n/\IntsAre us.toList ns
theorem RowAt.keep {h h':Heap}{v:Value}{ns:List Int} (r:RowAt h v ns) (k: ∀x ob,v= .ref x->h.get? x=some ob->h'.get? x=some ob):RowAt h' v ns:=by
 obtain ⟨x,ob,us,n,e,g,c,d,i⟩:=r
 exact ⟨x,ob,us,n,e,k x ob e g,c,d,i⟩
section
variable {prog:Program}{w:World}{A:Around}{E:Value->Shared->Prop}{s:Shared}
theorem om {b fin:Bool}{Q:Bool->Shared->Prop}: ∀(us vs:List Value) (xs ys:List Int) (i:Nat),IntsAre us xs->IntsAre vs ys->(fin=decide (xs.length<ys.length))->Q (HT.aD xs ys) s->KatLex prog w A b fin Q (us.zip vs) i s
 |_,_,_,_,i,.nil,.nil,f,q=>by subst f;exact kat_nil q
 |_,_,_,_,i,.nil,.cons _ _ _,f,q=>by subst f;simp only [List.zip_nil_left];exact kat_nil (by simpa [HT.sP] using q)
 |_,_,_,_,i,.cons _ _ _,.nil,f,q=>by subst f;simp only [List.zip_nil_right];exact kat_nil (by simpa [HT.sQ] using q)
 |_,_,_,_,i,.cons x _ h1,.cons y _ h2,f,q=>by
  rw [List.zip_cons_cons]
  refine kat_cons (wpAny_eqBool_int ?_)
  rw [HT.dZ] at q
  by_cases e:x=y
  ·subst e
   rw [beq_self_eq_true]
   rw [if_pos rfl] at q
   exact kat_yes (om _ _ _ _ (i+1) h1 h2 (by simpa using f) q)
  ·rw [beq_eq_false_iff_ne.mpr e]
   rw [if_neg e] at q
   refine kat_no ?_
   by_cases hb:(b&&i==0)=true
   ·rw [hb];exact oneLt_int q
   ·rw [Bool.not_eq_true] at hb
    rw [hb]
    exact kat_one _ _ (PyProof.Rows.lt_int (show PySem.W.BoolBack Q (.bool _) s from q))
theorem xV {p q:Value}{xs ys:List Int}{b:Bool}{Q:Bool->Shared->Prop} (hp:RowAt s.heap p xs) (hq:RowAt s.heap q ys) (h:Q (HT.aD xs ys) s):wpAny (model prog w) A (keyLt' (tuples' b) p q) Q E s:=by
 obtain ⟨x,ox,us,n,rfl,gx,_,dx,ix⟩:=hp
 obtain ⟨y,oy,vs,k,rfl,gy,_,dy,iy⟩:=hq
 refine kat_lt gx dx gy dy (om _ _ _ _ 0 ix iy ?_ h)
 rw [<-ix.length,<-iy.length,Array.length_toList,Array.length_toList]
theorem xW {kf:Value->List Int}{b:Bool}:Cmp (lexW kf) (tuples' b) (fun p=>RowAt s.heap p.1 (kf p.1)) prog w A s:=⟨fun p q hp hq _ _ h=>xV hp hq h⟩
theorem on {h:Heap}: ∀{vs:List Value},(∀v∈vs,∃x r,RowAt h v (x::r))-> ∃fs:List Value,KatTups h vs fs/\fs.length=vs.length/\ ∀f∈fs,∃i t,f= .int i t
 |[],_=>⟨[],trivial,rfl,fun _ z=>by cases z⟩
 |v::vs,g=>by
  obtain ⟨fs,k,l,a⟩:=on (vs:=vs) fun u z=>g u (.tail _ z)
  obtain ⟨x,r,y,ob,us,n,e,g1,c,d,i⟩:=g v (.head _)
  obtain ⟨us⟩:=us
  cases i with
  |cons _ t i'=>
   refine ⟨.int x t::fs,⟨⟨y,ob,_,n,e,g1,c,d,rfl⟩,k⟩,by simp [l],fun f z=> ?_⟩
   rcases List.mem_cons.mp z with rfl|z
   ·exact ⟨_,_,rfl⟩
   ·exact a f z
theorem xX {vs:List Value}{Q:SortKind->Shared->Prop} (g: ∀v∈vs,∃x r,RowAt s.heap v (x::r)) (h1:0<vs.length) (h:Q (tuples' true) s):wpAny (model prog w) A (keyKind' vs.toArray) Q E s:=by
 obtain ⟨fs,k,l,a⟩:=on g
 refine kat_kind (T:= .type "int") k (by lia) (fun v z=> ?_) rfl h
 obtain ⟨i,t,rfl⟩:=a v z
 exact Looks.of_pure rfl
end
end DhSort
set_option maxHeartbeats 4000000
namespace DhSort
open PySem PySem.Calls PyProof.Rows PySem.W L2
theorem kz {vs:List Value}{p:Keyed} (h:p∈(pairsOf vs).toList):p.1=p.2/\p.2∈vs:=by
 unfold pairsOf at h
 rw [Array.toList_zip] at h
 have h1:=List.mem_iff_getElem?.mp h
 obtain ⟨i,hi⟩:=h1
 rw [List.getElem?_zip_eq_some] at hi
 obtain ⟨a,b⟩:=hi
 have e:some p.1=some p.2:=a.symm.trans b
 exact ⟨Option.some.inj e,List.mem_of_getElem? b⟩
structure kA (kf:Value->List Int) (vs out:List Value):Prop where
 perm:out.Perm vs
 ord: ∀(i j:Nat) (x y:Value),i<=j->out[i]?=some x->out[j]?=some y->HT.aD (kf y) (kf x)=false
theorem xY {kf:Value->List Int}{vs:List Value}{arr:Array Keyed} (hp:arr.Perm (pairsOf vs)) (hs:ax (lexW kf) arr 0 (pairsOf vs).size):kA kf vs (arr.map (·.2)).toList:=by
 have hp':=Array.perm_iff_toList_perm.mp hp
 refine ⟨?_,fun i j x y hij hx hy=> ?_⟩
 ·rw [Array.toList_map]
  have:=hp'.map (fun p:Keyed=>p.2)
  refine this.trans ?_
  have e:(pairsOf vs).toList.map (fun p:Keyed=>p.2)=vs:=by
   unfold pairsOf
   rw [Array.toList_zip]
   simp [List.map_snd_zip]
  rw [e]
 ·rw [Array.toList_map,List.getElem?_map] at hx hy
  have hj:j<arr.size:=by
   rcases Nat.lt_or_ge j arr.size with z|z
   ·exact z
   ·rw [List.getElem?_eq_none (by simpa using z)] at hy;cases hy
  have hi:i<arr.size:=by lia
  have ex:=gI hi
  have ey:=gI hj
  rw [<-Array.getElem?_toList] at ex ey
  rw [ex] at hx
  rw [ey] at hy
  have q:=hs i j (Nat.zero_le _) hij (by rw [<-hp.size_eq];exact hj)
  have mx:=(kz (hp'.mem_iff.mp (List.mem_of_getElem? ex))).1
  have my:=(kz (hp'.mem_iff.mp (List.mem_of_getElem? ey))).1
  have hx':(kAt arr i).2=x:=Option.some.inj hx
  have hy':(kAt arr j).2=y:=Option.some.inj hy
  show HT.aD (kf y) (kf x)=false
  rw [<-hx',<-hy',<-mx,<-my]
  exact q
section
variable {prog:Program}{w:World}{A:Around}{E:Value->Shared->Prop}{s:Shared}
theorem xZ {kf:Value->List Int}{l:Addr}{vs:List Value}{c:Nat}{P:PySem.Fin->Shared->Prop} (hl:s.heap.get? l=some (seqObj "list" vs.toArray c)) (sz:vs.length<=sizeLine)
  (rows: ∀v∈vs,v≠ .ref l/\RowAt s.heap v (kf v)/\(kf v≠[] \/vs.length<2))
  (h: ∀out:Array Value,kA kf vs out.toList->P (.done (.ret .none)) {s with heap:=sortedHeap s.heap l vs out}):
  wpAny (model prog w) A (Builtin.«list.sort» ⟨[.ref l],[]⟩) P E s:=by
 have lt:=Heap.lt_size hl
 rw [list_sort_plain]
 refine wpAny_bind (listItems_at hl rfl (wpAny_bind (listUpdate_at hl rfl ?_ (by simpa using sz) (Nat.zero_le _))))
 obtain ⟨c1,g1⟩: ∃c1,(s.heap.update l (Obj.mapSeq fun _=> #[])).get? l=some (seqObj "list" #[] c1):=⟨_,get?_update_seq hl fun _=> #[]⟩
 refine wpAny_bind (seqEpoch_at g1 rfl (wpAny_bind (wpAny_newTuple ?_ (by simpa using sz))))
 refine wpAny_bind (wpAny_newList ?_ (Nat.zero_le _))
 refine wpAny_holding ?_
 let mid:Heap:=((s.heap.update l (Obj.mapSeq fun _=> #[])).push (seqObj "tuple" vs.toArray 0)).push (seqObj "list" #[] 0)
 have kp: ∀b ob,b≠l->s.heap.get? b=some ob->mid.get? b=some ob:=fun b ob z e=>by
  refine Heap.get?_push_of_some _ (Heap.get?_push_of_some _ ?_)
  rw [Heap.get?_update_ne _ _ _ _ z]
  exact e
 have g2:mid.get? l=some (seqObj "list" #[] c1):=Heap.get?_push_of_some _ (Heap.get?_push_of_some _ g1)
 show wpAny (model prog w) A _ P E {s with heap:=mid}
 dsimp only
 have rows': ∀v∈vs,RowAt mid v (kf v):=fun v z=>(rows v z).2.1.keep fun x ob e g=>kp x ob (fun q=>(rows v z).1 (by rw [e,q])) g
 have fin: ∀st':SortSt,(arrOf st').Perm (pairsOf vs)->ax (lexW kf) (arrOf st') 0 (pairsOf vs).size->
   P (.done (.ret .none)) {s with heap:=sortedHeap s.heap l vs ((arrOf st').map (·.2))}:=fun st' a b=>h _ (xY a b)
 have szo: ∀st':SortSt,(arrOf st').Perm (pairsOf vs)->((arrOf st').map (·.2)).size<=sizeLine:=fun st' a=>by
  rw [Array.size_map,a.size_eq,pairsOf_size];exact sz
 by_cases two:vs.toArray.size<2
 ·rw [if_pos two,if_pos two]
  refine wpAny_bind (wpAny_pure ?_)
  rw [StateT.run_pure]
  refine wpAny_bind (wpAny_pure ?_)
  dsimp only
  refine wpAny_bind (seqEpoch_at g2 rfl (wpAny_bind (listUpdate_at g2 rfl ?_ (hsz2:=Nat.le_succ_of_le (szo (SortSt.mk' general' (vs.toArray.zip vs.toArray) #[] 7 none) (Array.Perm.refl _))))))
  simp only [bne_self_eq_false,Bool.false_eq_true,if_false]
  refine wpAny_pure (fin (SortSt.mk' general' (vs.toArray.zip vs.toArray) #[] 7 none) (Array.Perm.refl _) ?_)
  intro i j _ z1 z2
  have:i=j:=by rw [pairsOf_size] at z2;rw [List.size_toArray] at two;lia
  subst this
  exact Wk.bI
 ·rw [if_neg two,if_neg two]
  rw [List.size_toArray] at two
  refine wpAny_bind (xX (s:={s with heap:=mid}) (fun v z=> ?_) (by lia) ?_)
  ·have r:=rows' v z
   cases e:kf v with
   |nil=>exact absurd e ((rows v z).2.2.resolve_right (by lia))
   |cons x t=>rw [e] at r;exact ⟨x,t,r⟩
  refine wpAny_bind (wpAny_mono (xU (E:=E) (W:=lexW kf) (kd:=tuples' true) (good:=fun p=>RowAt mid p.1 (kf p.1)) (a₀:=pairsOf vs) (st:=SortSt.mk' (tuples' true) (vs.toArray.zip vs.toArray) #[] 7 none) (s:={s with heap:=mid})
   (Q:=fun _ st'=>(arrOf st').Perm (pairsOf vs)/\failedOf st'=none/\ax (lexW kf) (arrOf st') 0 (pairsOf vs).size)
   (xW (s:={s with heap:=mid}) (kf:=kf)) (fun p z=> ?_) ⟨Array.Perm.refl _,rfl,rfl,rfl⟩ (by rw [pairsOf_size];lia) fun st' a b d=>⟨a,b,d⟩) ?_ fun _ _ e=>e)
  ·obtain ⟨e,m⟩:=kz z
   rw [e]
   exact rows' _ m
  rintro ⟨⟨⟩,st'⟩ s' ⟨rfl,a,b,d⟩
  dsimp only
  refine wpAny_bind (seqEpoch_at g2 rfl (wpAny_bind (listUpdate_at g2 rfl ?_ (hsz2:=Nat.le_succ_of_le (szo st' a)))))
  rw [b]
  simp only [bne_self_eq_false,Bool.false_eq_true,if_false]
  exact wpAny_pure (fin st' a d)
end
end DhSort
set_option maxHeartbeats 4000000
namespace DhSort
open PySem PySem.Calls PyProof.Rows PySem.W L2
noncomputable def DEnt (h:Heap) (d:Addr) (es:Array DictEntry) (ep:Nat):Prop:= ∃ob,h.get? d=some ob/\ob.ExactDict/\ob.data= .dict es ep
theorem DEnt.ty {t:Shared}{d:Addr}{es:Array DictEntry}{ep:Nat} (x:DEnt t.heap d es ep):t.TypeIs (.ref d) "dict":=let ⟨ob,g,c,_⟩:=x;⟨ob,g,c.1⟩
theorem DEnt.mono {h h':Heap}{d:Addr}{es:Array DictEntry}{ep:Nat} (x:DEnt h d es ep) (k: ∀ob,h.get? d=some ob->h'.get? d=some ob):DEnt h' d es ep:=let ⟨ob,g,r⟩:=x;⟨ob,k ob g,r⟩
theorem DEnt.lt {h:Heap}{d:Addr}{es:Array DictEntry}{ep:Nat} (x:DEnt h d es ep):d<h.objs.size:=let ⟨_,g,_⟩:=x;Heap.lt_size g
noncomputable def x3 (d:Addr) (n ep:Nat):Obj:={cls:= .type "dict_keyiterator",data:= .fields #[.ref d,.int 0 0,.int n 0,.int ep 0]}
section
variable {prog:Program}{w:World}{A:Around}{E:Value->Shared->Prop}{t:Shared}{d z:Addr}{es:Array DictEntry}{ep i:Nat}
theorem kB {Q:Value->Shared->Prop} (nm:(d==sysModules)=false) (x:DEnt t.heap d es ep) (q:Q (.ref t.heap.objs.size) {t with heap:=t.heap.push (x3 d es.size ep)}):wpAny (model prog w) A (pyIter (.ref d)) Q E t:=by
 obtain ⟨ob,g,c,dd⟩:=id x
 refine wpAny_pyIter_slot x.ty F.slot_dict_iter (wpAny_call_entry F.slot_dict_iter x.ty F.entry_dict_iter ?_ (F.args_dict_iter_1 _))
 unfold Builtin.«dict.__iter__» Builtin.Dict.dictSlotNone
 refine wpAny_bind (wpAny_bind (wpAny_notOrdered_dict x.ty (wpAny_pure ?_)))
 show wpAny _ _ (Builtin.Dict.showsAll d>>=_) _ _ t
 unfold Builtin.Dict.showsAll
 rw [if_neg (by rw [nm];simp)]
 refine wpAny_bind (wpAny_pure (wpAny_bind (wpAny_dictEntries g dd (wpAny_bind (wpAny_dictEpoch g dd ?_)))))
 exact wpAny_bind (wpAny_newObj_type (wpAny_pure ⟨_,rfl,"dict_keyiterator",_,⟨_,Heap.get?_push_size _ rfl,rfl⟩,F.slot_dict_keyiterator_next.lookup,q⟩))
theorem oq {e:DictEntry}{Q:Option Value->Shared->Prop} (y:t.heap.IsKeyIter z d i es.size ep) (x:DEnt t.heap d es ep) (he:es[i]?=some e)
  (q: ∀h',h'.IsKeyIter z d (i+1) es.size ep->Heap.SameBut z t.heap h'->Q (some e.key) {t with heap:=h'}):wpAny (model prog w) A (pyNext (.ref z)) Q E t:=by
 obtain ⟨oz,gz,cz,dz⟩:=id y
 obtain ⟨ob,g,c,dd⟩:=id x
 have li:i<es.size:=by
  rcases Nat.lt_or_ge i es.size with l|l
  ·exact l
  ·rw [Array.getElem?_eq_none l] at he;cases he
 have hk:es[i]=e:=by rw [Array.getElem?_eq_getElem li] at he;exact Option.some.inj he
 have own0:Builtin.Dict_items.ownsTuple "dict_keyiterator"=false:=by decide
 unfold pyNext
 refine wpAny_bind (wpAny_attempt (wpAny_callSpecial?_slot (name:=Str.ofString "__next__") y.typeIs F.slot_dict_keyiterator_next
  (wpAny_call_entry F.slot_dict_keyiterator_next y.typeIs F.entry_dict_keyiterator_next ?_ (F.args_dict_keyiterator_next_1 _))))
 refine wpAny_bind (wpAny_pure (wpAny_bind (wpAny_bind ?_)))
 first|refine wpAny_bind (wpAny_typeNameOfWhole_keyiter y.typeIs (wpAny_pure ?_))|refine wpAny_bind (wpAny_typeNameOf_keyiter y.typeIs (wpAny_pure ?_))
 refine wpAny_bind (wpAny_fieldsOf gz dz ?_)
 simp only [own0,Bool.false_eq_true,if_false]
 show wpAny _ _ (if (Value.ref d==Value.none)=true then _ else _) _ _ t
 rw [if_neg (show¬((Value.ref d==Value.none)=true) by exact Bool.false_ne_true)]
 refine wpAny_bind (wpAny_pure (wpAny_bind (wpAny_dictEntries g dd ?_)))
 rw [if_neg (by simp)]
 refine wpAny_bind (wpAny_pure (wpAny_bind (wpAny_dictEpoch g dd ?_)))
 rw [if_neg (by simp)]
 refine wpAny_pure ?_
 simp only [show¬((i:Int)<0) by lia,if_false,Int.toNat_natCast,Array.getElem?_eq_getElem li]
 refine wpAny_bind ?_
 first|refine wpAny_bind (wpAny_typeNameOfWhole_keyiter y.typeIs (wpAny_pure ?_))|refine wpAny_bind (wpAny_typeNameOf_keyiter y.typeIs (wpAny_pure ?_))
 refine wpAny_bind (wpAny_isOneOf_keyiter y.typeIs ?_)
 show wpAny _ _ (setField (.ref z) 1 (rawInt ((i:Int)+1))>>=_) _ _ t
 refine wpAny_bind (wpAny_setField gz dz (by simp) ?_)
 have y':(t.heap.update z (Obj.mapFields (·.setIfInBounds 1 (rawInt ((i:Int)+1))))).IsKeyIter z d (i+1) es.size ep:=
  ⟨_,Heap.get?_update_self _ gz (Obj.isFreed_of_fields (Obj.data_mapFields dz _)),(Obj.cls_mapFields ..).trans cz,by rw [Obj.data_mapFields dz];simp [rawInt]⟩
 refine wpAny_bind (wpAny_holding (wpAny_bind (wpAny_isOneOf_keyiter (s:={t with heap:=t.heap.update z (Obj.mapFields (·.setIfInBounds 1 (rawInt ((i:Int)+1))))}) y'.typeIs ?_)))
 show wpAny _ _ (pure es[i].key) _ _ _
 rw [hk]
 exact wpAny_pure (wpAny_pure ⟨_,rfl,wpAny_pure (q _ y' (Heap.SameBut.update ..))⟩)
theorem ot {Q:Option Value->Shared->Prop} (hh:A.handled=none) (y:t.heap.IsKeyIter z d i es.size ep) (x:DEnt t.heap d es ep) (he:es[i]?=none)
  (q: ∀h',Heap.ExtBut z t.heap h'->Q none {t with heap:=h'}):wpAny (model prog w) A (pyNext (.ref z)) Q E t:=by
 obtain ⟨oz,gz,cz,dz⟩:=id y
 obtain ⟨ob,g,c,dd⟩:=id x
 have li:es.size<=i:=by simpa using he
 have own0:Builtin.Dict_items.ownsTuple "dict_keyiterator"=false:=by decide
 unfold pyNext
 refine wpAny_bind (wpAny_attempt (wpAny_callSpecial?_slot (name:=Str.ofString "__next__") y.typeIs F.slot_dict_keyiterator_next
  (wpAny_call_entry F.slot_dict_keyiterator_next y.typeIs F.entry_dict_keyiterator_next ?_ (F.args_dict_keyiterator_next_1 _))))
 refine wpAny_bind (wpAny_pure (wpAny_bind (wpAny_bind ?_)))
 first|refine wpAny_bind (wpAny_typeNameOfWhole_keyiter y.typeIs (wpAny_pure ?_))|refine wpAny_bind (wpAny_typeNameOf_keyiter y.typeIs (wpAny_pure ?_))
 refine wpAny_bind (wpAny_fieldsOf gz dz ?_)
 simp only [own0,Bool.false_eq_true,if_false]
 show wpAny _ _ (if (Value.ref d==Value.none)=true then _ else _) _ _ t
 rw [if_neg (show¬((Value.ref d==Value.none)=true) by exact Bool.false_ne_true)]
 refine wpAny_bind (wpAny_pure (wpAny_bind (wpAny_dictEntries g dd ?_)))
 rw [if_neg (by simp)]
 refine wpAny_bind (wpAny_pure (wpAny_bind (wpAny_dictEpoch g dd ?_)))
 rw [if_neg (by simp)]
 refine wpAny_pure ?_
 simp only [show¬((i:Int)<0) by lia,if_false,Int.toNat_natCast,Array.getElem?_eq_none li]
 refine wpAny_bind ?_
 first|refine wpAny_bind (wpAny_typeNameOfWhole_keyiter y.typeIs (wpAny_pure ?_))|refine wpAny_bind (wpAny_typeNameOf_keyiter y.typeIs (wpAny_pure ?_))
 show wpAny _ _ (setField (.ref z) 0 .none>>=_) _ _ t
 refine wpAny_bind (wpAny_setField gz dz (by simp) ?_)
 show wpAny _ _ (newExc (.type "StopIteration") []>>=_) _ _ _
 refine wpAny_bind ?_
 simp only [newExc,newTuple]
 refine wpAny_bind (wpAny_newObj_type ?_ (by size_fits))
 refine wpAny_bind (m:=firstArgMember _ _) (wpAny_of_eq (a:=Value.none) (by first|rfl|(simp only [firstArgMember];rfl)) ?_)
 refine wpAny_newObj_type ?_ (by size_fits)
 simp only [raiseNew]
 refine wpAny_bind (wpAny_handled ?_)
 rw [show A.in1.handled=none by exact hh]
 refine wpAny_bind (wpAny_pure (wpAny_throw ?_))
 refine wpAny_bind (wpAny_isInstance (T:="StopIteration") (b:=true) ⟨_,Heap.get?_push_size _ rfl,rfl⟩ isSubtype_stop ?_)
 exact wpAny_pure (q _ (((Heap.SameBut.update ..).extBut.push _).push _))
theorem x4 (hh:A.handled=none) (nd:d≠z):Walks prog w A z [z,d] [z] es.size (fun i v=> ∃e,es[i]?=some e/\v=e.key) (fun i h=>h.IsKeyIter z d i es.size ep/\DEnt h d es ep) where
 sub:=fun b hb=>by simp at hb;simp [hb]
 frame:=fun _ _ _ st hk=>⟨st.1.at fun o e=>hk z (by simp) o e,st.2.mono fun o e=>hk d (by simp) o e⟩
 item:=fun i t' Q E hi st hQ=>by
  refine oq st.1 st.2 (Array.getElem?_eq_getElem hi) fun h' a b=> ?_
  exact hQ _ h' t'.toks ⟨_,Array.getElem?_eq_getElem hi,rfl⟩ ⟨a,st.2.mono fun o e=>b.extBut d o nd e⟩ fun c o hc e=>b.extBut c o (fun r=>hc (by simp [r])) e
 done:=fun t' Q E st hQ=>ot hh st.1 st.2 (by simp) fun h' a=>hQ h' t'.toks fun c o hc e=>a c o (fun r=>hc (by simp [r])) e
 self:=fun _ _ _ _ st hQ=>wpAny_pyIter_keyiter st.1 hQ
theorem x5 (nm:(d==sysModules)=false):KdlSrc prog w "dict" d d es.size (fun i v=> ∃e,es[i]?=some e/\v=e.key) (fun h=>DEnt h d es ep) where
 type:=fun _ x=>x.ty
 there:=fun _ x=>⟨x.lt,x.lt⟩
 keep:=fun _ _ x hk=>x.mono fun o e=>hk d (.inl rfl) o e
 notList:=by decide
 notTuple:=by decide
 hint:=fun _ _ _ _ x hq=>kdl_hint_dict x.ty hq
 iter:=fun A' t' hh x=>⟨_,_,fun _ _ hq=>kB nm x hq,x4 hh (Nat.ne_of_lt x.lt),⟨⟨_,Heap.get?_push_size _ rfl,rfl,rfl⟩,x.mono fun o e=>Heap.get?_push_of_some _ e⟩⟩
theorem x6 {R:List Value->Shared->Prop} (nm:(d==sysModules)=false) (hh:A.handled=none) (x:DEnt t.heap d es ep) (sz:es.size<=sizeLine)
  (h: ∀(h':Heap) (tk:Nat),(∀b o,t.heap.get? b=some o->h'.get? b=some o)->R (es.toList.map (·.key)) {t with heap:=h',toks:=tk}):wpAny (model prog w) A (collect (.ref d)) R E t:=by
 refine kdu_collect (x5 nm) hh x sz fun h' tk acc hk ha=> ?_
 have e:acc.toList=es.toList.map (·.key):=by
  refine List.ext_getElem? fun j=> ?_
  rw [Array.getElem?_toList,List.getElem?_map,Array.getElem?_toList]
  by_cases hj:j<acc.size
  ·obtain ⟨en,h1,h2⟩:=ha.2 j acc[j] (Array.getElem?_eq_getElem hj)
   rw [Array.getElem?_eq_getElem hj,h1,h2]
   rfl
  ·have h2: ¬j<es.size:=by rw [<-ha.1];exact hj
   rw [Array.getElem?_eq_none (by lia),Array.getElem?_eq_none (by lia)]
   rfl
 rw [e]
 exact h h' tk hk
theorem x8 {kf:Value->List Int}{it:Value}{vs:List Value}{Q:Value->Shared->Prop}
  (hc: ∀R:List Value->Shared->Prop,(∀(h':Heap) (tk:Nat),(∀b o,t.heap.get? b=some o->h'.get? b=some o)->R vs {t with heap:=h',toks:=tk})->wpAny (model prog w) A.in1 (collect it) R E t)
  (sz:vs.length<=sizeLine) (rows: ∀v∈vs,RowAt t.heap v (kf v)/\(kf v≠[] \/vs.length<2))
  (h: ∀(l:Addr) (h1 h':Heap) (tk c:Nat) (out:List Value),(∀b o,t.heap.get? b=some o->h1.get? b=some o)->h1.objs.size<=l->(∀b o,h1.get? b=some o->h'.get? b=some o)->h'.get? l=some (seqObj "list" out.toArray c)->kA kf vs out->Q (.ref l) {t with heap:=h',toks:=tk}):
  wpAny (model prog w) A (call (.builtin "sorted") [it]) Q E t:=by
 refine call_function_entry kind_sorted plain_sorted entry_sorted (args_sorted1 _) ?_
 unfold Builtin.«sorted»
 refine wpAny_bind (m:=checkCount "sorted" 1 1 _) (wpAny_pure (wpAny_bind (hc _ fun h1 k1 kp=> ?_)))
 refine wpAny_bind (wpAny_newList ?_ sz)
 have gl:(h1.push (seqObj "list" vs.toArray 0)).get? h1.objs.size=some (seqObj "list" vs.toArray 0):=Heap.get?_push_size _ rfl
 have kp2: ∀b o,t.heap.get? b=some o->(h1.push (seqObj "list" vs.toArray 0)).get? b=some o:=fun b o e=>Heap.get?_push_of_some _ (kp b o e)
 show wpAny _ _ _ _ _ {t with heap:=h1.push (seqObj "list" vs.toArray 0),toks:=k1}
 refine wpAny_bind (wpAny_holding (wpAny_call_entry slot_list_sort ⟨_,gl,rfl⟩ entry_list_sort (xZ (kf:=kf) gl sz (fun v z=> ?_) fun out so=>⟨_,rfl,wpAny_pure ⟨_,rfl,?_⟩⟩) (args_list_sort _)))
 ·obtain ⟨r,ne⟩:=rows v z
  refine ⟨fun e=> ?_,r.keep fun x ob _ g=>kp2 x ob g,ne⟩
  obtain ⟨x,ob,_,_,e2,g,_⟩:=r
  rw [e] at e2
  cases e2
  exact absurd (Heap.lt_size (kp _ _ g)) (Nat.lt_irrefl _)
 ·obtain ⟨c2,g2⟩: ∃c2,(sortedHeap (h1.push (seqObj "list" vs.toArray 0)) h1.objs.size vs out).get? h1.objs.size=some (seqObj "list" out c2):=by
   obtain ⟨c1,g1⟩: ∃c1,((h1.push (seqObj "list" vs.toArray 0)).update h1.objs.size (Obj.mapSeq fun _=> #[])).get? h1.objs.size=some (seqObj "list" #[] c1):=⟨_,get?_update_seq gl fun _=> #[]⟩
   exact ⟨_,get?_update_seq (Heap.get?_push_of_some _ (Heap.get?_push_of_some _ g1)) fun _=>out⟩
  refine h _ h1 _ _ c2 out.toList kp (Nat.le_refl _) (fun b o e=> ?_) (by simpa using g2) so
  have nb:b≠h1.objs.size:=Nat.ne_of_lt (Heap.lt_size e)
  unfold sortedHeap
  rw [Heap.get?_update_ne _ _ _ _ nb]
  refine Heap.get?_push_of_some _ (Heap.get?_push_of_some _ ?_)
  rw [Heap.get?_update_ne _ _ _ _ nb]
  exact Heap.get?_push_of_some _ e
end
end DhSort
set_option maxHeartbeats 4000000
namespace L2
open PySem PySem.Spec PyProof.Rows
noncomputable def ins (x:List Int):List (List Int)->List (List Int)
 |[]=>[x]
 |y::r=>if HT.aD y x=true then y::ins x r else x::y::r
noncomputable def srt:List (List Int)->List (List Int)
 |[]=>[]
 |x::r=>ins x (srt r)
noncomputable def NoLt (x y:List Int):Prop:=HT.aD y x=false
theorem kC (x:List Int): ∀l:List (List Int),(ins x l).Perm (x::l)
 |[]=> .refl _
 |y::r=>by
  unfold ins
  split
  ·exact ((kC x r).cons y).trans (.swap x y r)
  ·exact .refl _
theorem cp: ∀l:List (List Int),(srt l).Perm l
 |[]=> .refl _
 |x::r=>(kC x _).trans ((cp r).cons x)
theorem x9 {x y z:List Int} (a:NoLt x y) (b:NoLt y z):NoLt x z:=by
 unfold NoLt at*
 cases h:HT.aD z x with
 |false=>rfl
 |true=>
  rcases DhSort.kr z y x h with q|q
  ·rw [b] at q;cases q
  ·rw [a] at q;cases q
theorem ya {x y:List Int} (a:HT.aD x y=true):NoLt x y:=by
 unfold NoLt
 cases h:HT.aD y x with
 |false=>rfl
 |true=>have:=DhSort.iR _ _ _ a h;rw [DhSort.lex_irr] at this;cases this
theorem ou (x:List Int): ∀l:List (List Int),l.Pairwise NoLt->(ins x l).Pairwise NoLt
 |[],_=>List.pairwise_singleton _ _
 |y::r,h=>by
  have h':=List.pairwise_cons.mp h
  unfold ins
  split
  ·next q=>
   refine List.pairwise_cons.mpr ⟨fun z hz=> ?_,ou x r h'.2⟩
   rcases List.mem_cons.mp ((kC x r).mem_iff.mp hz) with rfl|hz
   ·exact ya q
   ·exact h'.1 z hz
  ·next q=>
   have q':NoLt x y:=by unfold NoLt;simpa using q
   refine List.pairwise_cons.mpr ⟨fun z hz=> ?_,h⟩
   rcases List.mem_cons.mp hz with rfl|hz
   ·exact q'
   ·exact x9 q' (h'.1 z hz)
theorem kD: ∀l:List (List Int),(srt l).Pairwise NoLt
 |[]=> .nil
 |x::r=>ou x _ (kD r)
theorem ow: ∀{a b:List (List Int)},a.Perm b->a.Pairwise NoLt->b.Pairwise NoLt->a=b
 |[],b,p,_,_=>(List.nil_perm.mp p).symm▸rfl
 |x::a,[],p,_,_=>absurd p.length_eq (by simp)
 |x::a,y::b,p,ha,hb=>by
  have ha':=List.pairwise_cons.mp ha
  have hb':=List.pairwise_cons.mp hb
  have e:x=y:=by
   rcases List.mem_cons.mp (p.mem_iff.mp (List.mem_cons_self)) with e|hx
   ·exact e
   ·rcases List.mem_cons.mp (p.mem_iff.mpr (List.mem_cons_self)) with e|hy
    ·exact e.symm
    ·exact DhSort.ku _ _ (hb'.1 x hx) (ha'.1 y hy)|>.symm▸rfl
  subst e
  rw [ow (p.cons_inv) ha'.2 hb'.2]
noncomputable def vInt:V->Int
 | .int i=>i
 |_=>0
noncomputable def rowV (H:Hp):V->List Int
 | .ref b=>(match H b with
  |some (.tup xs)=>xs.map vInt
  |_=>[])
 |_=>[]
theorem yb (ns:List Int):(ns.map V.int).map vInt=ns:=by
 induction ns with
 |nil=>rfl
 |cons n r ih=>simp only [List.map_cons,ih];rfl
theorem iS {H:Hp}{b:Addr}{ns:List Int} (h:H b=some (.tup (ns.map V.int))):rowV H (.ref b)=ns:=by
 show (match H b with
  |some (.tup xs)=>xs.map vInt
  |_=>[])=ns
 rw [h]
 exact yb ns
noncomputable def toV:Value->V
 | .ref b=> .ref b
 |_=> .non
noncomputable def eh (H:Hp) (v:V):Prop:= ∃b ns,v= .ref b/\ns≠[]/\H b=some (.tup (ns.map V.int))
theorem oA: ∀{ys:List V}{us:List Value},Vals ys us->(∀y∈ys,∃b,y=V.ref b)->us.map toV=ys
 |_,_,.nil,_=>rfl
 |_,_,.cons (a:=y) (b:=u) r t,h=>by
  obtain ⟨b,rfl⟩:=h y (.head _)
  obtain rfl:u=Value.ref b:=r
  rw [List.map_cons,oA t fun z hz=>h z (.tail _ hz)]
  rfl
theorem oB: ∀{us:List Value},(∀u∈us,∃b,u=Value.ref b)->Vals (us.map toV) us
 |[],_=> .nil
 |u::us,h=>by
  obtain ⟨b,rfl⟩:=h u (.head _)
  exact .cons (show RelV (.ref b) (.ref b) from rfl) (oB fun z hz=>h z (.tail _ hz))
theorem kE: ∀{ys:List V}{us:List Value},Vals ys us-> ∀u∈us,∃y∈ys,RelV y u
 |_,_,.nil,_,h=>by cases h
 |_,_,.cons r t,u,h=>by
  rcases List.mem_cons.mp h with rfl|h
  ·exact ⟨_,.head _,r⟩
  ·obtain ⟨y,h1,h2⟩:=kE t u h
   exact ⟨y,.tail _ h1,h2⟩
theorem oC: ∀{ns:List Int}{us:List Value},Vals (ns.map V.int) us->IntsAre us ns
 |[],_,.nil=> .nil
 |n::ns,_,.cons r t=>by
  obtain ⟨k,rfl⟩:=r
  exact .cons _ _ (oC t)
section
variable {X:Cx}{KF:PySem.W.Frag}{pins:List (Addr×Obj)}{σ:St}{H:Hp}{s:Shared}
structure eX (H:Hp) (ys zs:List V):Prop where
 perm:zs.Perm ys
 ord:(zs.map (rowV H)).Pairwise NoLt
theorem eX.eq {ys zs:List V} (h:eX H ys zs):zs.map (rowV H)=srt (ys.map (rowV H)):=
 ow ((h.perm.map _).trans (cp _).symm) h.ord (kD _)
noncomputable def oE (n:Nat) (H:Hp) (v:V):Prop:= ∃b ns,v= .ref b/\(ns≠[] \/n<2)/\H b=some (.tup (ns.map V.int))
theorem eh.n {n:Nat}{v:V} (h:eh H v):oE n H v:=let ⟨b,ns,e,ne,q⟩:=h;⟨b,ns,e,.inl ne,q⟩
theorem yc {it:Value}{ys:List V}{us:List Value}{Q:VK} (I:Inv X pins σ H s) (r:Vals ys us) (rows: ∀y∈ys,oE ys.length H y) (sz:ys.length<=sizeLine)
  (hc: ∀R:List Value->Shared->Prop,(∀(h':Heap) (tk:Nat),(∀b o,s.heap.get? b=some o->h'.get? b=some o)->R us {s with heap:=h',toks:=tk})->wpAny (model X.prog X.w) X.A.in1 (collect it) R X.xe s)
  (q: ∀l zs,H l=none->eX H ys zs->Q (.ref l) (upd H l (.lst zs))):wpAny (model X.prog X.w) X.A (call (.builtin "sorted") [it]) (EP X pins σ Q) X.xe s:=by
 have rl:=r.length
 refine DhSort.x8 (kf:=fun u=>rowV H (toV u)) hc (by lia) (fun u hu=> ?_) fun l h1 h' tk c out k1 hl k2 g so=> ?_
 ·obtain ⟨y,hy,ry⟩:=kE r u hu
  obtain ⟨b,ns,rfl,ne,e⟩:=rows y hy
  obtain rfl:u=Value.ref b:=ry
  have e2:rowV H (toV (Value.ref b))=ns:=iS e
  rw [e2]
  obtain ⟨_,its,rv,ob,g1,g2,⟨n,g3⟩,_⟩:=(show az X.prog X.w H s.heap b (.tup (ns.map V.int)) from I.hok b _ e)
  exact ⟨⟨b,ob,its.toArray,n,rfl,g1,g2,g3,by simpa using oC rv⟩,ne.imp id fun z=>by lia⟩
 ·have back:=oA r fun y hy=>let ⟨b,_,e,_⟩:=rows y hy;⟨b,e⟩
  have refs: ∀u∈out,∃b,u=Value.ref b:=fun u hu=>by
   obtain ⟨y,hy,ry⟩:=kE r u (so.perm.mem_iff.mp hu)
   obtain ⟨b,ns,rfl,_⟩:=rows y hy
   exact ⟨b,ry⟩
  have perm:(out.map toV).Perm ys:=back▸so.perm.map toV
  have I1:Inv X pins σ H {s with heap:=h1,toks:=tk}:=I.kept k1
  have I2:Inv X pins σ (upd H l (.lst (out.map toV))) {s with heap:=h',toks:=tk}:=I1.laid (s:={s with heap:=h1,toks:=tk}) k2 hl (show az X.prog X.w _ h' l (.lst (out.map toV)) from ⟨by rw [perm.length_eq];exact sz,out,c,oB refs,g⟩)
  refine ⟨.ref l,_,I2,rfl,q l _ (I1.hok.fresh hl) ⟨perm,?_⟩⟩
  rw [List.map_map,List.pairwise_map,List.pairwise_iff_getElem]
  intro i j hi hj hij
  exact so.ord i j _ _ (Nat.le_of_lt hij) (List.getElem?_eq_getElem hi) (List.getElem?_eq_getElem hj)
theorem yd {it:Value}{ys:List V}{us:List Value}{Q:VK} (I:Inv X pins σ H s) (r:Vals ys us) (rows: ∀y∈ys,eh H y) (sz:ys.length<=sizeLine)
  (hc: ∀R:List Value->Shared->Prop,(∀(h':Heap) (tk:Nat),(∀b o,s.heap.get? b=some o->h'.get? b=some o)->R us {s with heap:=h',toks:=tk})->wpAny (model X.prog X.w) X.A.in1 (collect it) R X.xe s)
  (q: ∀l zs,H l=none->eX H ys zs->Q (.ref l) (upd H l (.lst zs))):wpAny (model X.prog X.w) X.A (call (.builtin "sorted") [it]) (EP X pins σ Q) X.xe s:=yc I r (fun y hy=>(rows y hy).n) sz hc q
theorem kF (hc:X.calm=true):cj X (.builtin "sorted") (fun xs H Q=> ∃a kvs,xs=[.ref a]/\Rd H a (.dT kvs)/\(∀p∈kvs,∃ns:List Int,ns≠[]/\p.1=ns.map Sum.inl)/\
  ∀l ys zs,H l=none->Paired (fun (p:List Key×V) (y:V)=> ∃b,y= .ref b/\H b=some (.tup (p.1.map kV))) kvs ys->eX H ys zs->Q (.ref l) (upd H l (.lst zs))):=by
 intro pins s σ H xs us Q I r h
 obtain ⟨a,kvs,rfl,ha,ks,q⟩:=h
 obtain ⟨u,rfl,rx⟩:=eM r
 cases rx
 obtain ⟨z,y,en,kt,ob,es,ep,h1,h2,h3,h4,h5⟩:=(show az X.prog X.w H s.heap a (.dT kvs) from jM I.hok ha)
 have sz:es.size=kvs.length:=by rw [<-Array.length_toList,h4,List.length_map,kt.length]
 have pr: ∀{l:List (List Key×V)}{m:List (List Key×Addr×Value)},Paired (fun (p:List Key×V) (q:List Key×Addr×Value)=>p.1=q.1/\H q.2.1=some (.tup (p.1.map kV))/\RelV p.2 q.2.2) l m->
   Paired (fun (p:List Key×V) (y:V)=> ∃b,y= .ref b/\H b=some (.tup (p.1.map kV))) l (m.map fun x=>V.ref x.2.1)/\Vals (m.map fun x=>V.ref x.2.1) (m.map fun x=>Value.ref x.2.1):=by
  intro l m q
  induction q with
  |nil=>exact ⟨.nil,.nil⟩
  |cons hq t ih=>exact ⟨.cons ⟨_,rfl,hq.2.1⟩ ih.1,.cons rfl ih.2⟩
 obtain ⟨p1,p2⟩:=pr kt
 have rows: ∀{l:List (List Key×V)}{m:List V},Paired (fun (p:List Key×V) (y:V)=> ∃b,y= .ref b/\H b=some (.tup (p.1.map kV))) l m->(∀p∈l,∃ns:List Int,ns≠[]/\p.1=ns.map Sum.inl)-> ∀y∈m,eh H y:=by
  intro l m q
  induction q with
  |nil=>intro _ y hy;cases hy
  |cons hq t ih=>
   intro hl y hy
   rcases List.mem_cons.mp hy with rfl|hy
   ·obtain ⟨b,rfl,e⟩:=hq
    obtain ⟨ns,ne,e2⟩:=hl _ (.head _)
    refine ⟨b,ns,rfl,ne,?_⟩
    rw [e,e2,List.map_map]
    rfl
   ·exact ih (fun p hp=>hl p (.tail _ hp)) y hy
 refine yd (us:=en.map fun x=>Value.ref x.2.1) I p2 (rows p1 ks) (by rw [List.length_map,<-kt.length];exact z) (fun R hR=> ?_) fun l zs hl so=>q l _ zs hl p1 so
 refine DhSort.x6 y (I.ok.hd hc) ⟨ob,h1,h2,h3⟩ (by lia) fun h' tk kp=> ?_
 have e:es.toList.map (·.key)=en.map fun x=>Value.ref x.2.1:=by rw [h4,List.map_map];rfl
 rw [e]
 exact hR h' tk kp
noncomputable def dRow:Dv->Option (List Int)
 | .tup ds=>ds.mapM fun d=>match d with| .int i=>some i|_=>none
 |_=>none
noncomputable def aJ (ns:List Int):Dv:= .tup (ns.map .int)
noncomputable def dR (rs:List (List Int)):Bool:=rs.all fun r=> !r.isEmpty
noncomputable def A7:List Dv->Option Dv
 |[.lst ds]=>(ds.mapM dRow).bind fun rs=>if dR rs=true then some (.lst ((srt rs).map aJ)) else none
 |_=>none
noncomputable def keyI:Key->Option Int
 | .inl i=>some i
 | .inr _=>none
noncomputable def cI:List Dv->Option Dv
 |[.dic kvs]=>(kvs.mapM fun p:List Key×Dv=>p.1.mapM keyI).bind fun rs=>if dR rs=true then some (.lst ((srt rs).map aJ)) else none
 |_=>none
theorem oF {S:Addr->Prop}: ∀{zs:List V},(∀z∈zs,eh H z)->RepsF KF S H zs ((zs.map (rowV H)).map aJ)
 |[],_=> .nil
 |z::zs,h=>by
  obtain ⟨b,ns,rfl,_,e⟩:=h z (.head _)
  refine .cons ?_ (oF fun y hy=>h y (.tail _ hy))
  rw [iS e]
  exact .tup e (gi ns)
theorem oG {S:Addr->Prop}: ∀{vs:List V}{ds:List Dv}{ns:List Int},RepsF KF S H vs ds->(ds.mapM fun d=>match d with|Dv.int i=>some i|_=>none)=some ns->vs=ns.map V.int
 |_,_,ns,.nil,h=>by rw [List.mapM_nil] at h;cases h;rfl
 |_,_,ns,.cons (d:=d) r t,h=>by
  rw [List.mapM_cons] at h
  obtain ⟨i,h1,h⟩:=Option.bind_eq_some_iff.mp h
  obtain ⟨js,h2,h⟩:=Option.bind_eq_some_iff.mp h
  cases h
  cases d<;>simp only [Option.some.injEq,reduceCtorEq] at h1
  subst h1
  cases r
  rw [oG t h2]
  rfl
theorem ye {S:Addr->Prop}: ∀{vs:List V}{ds:List Dv}{rs:List (List Int)},RepsF KF S H vs ds->ds.mapM dRow=some rs->dR rs=true->(∀v∈vs,eh H v)/\vs.map (rowV H)=rs
 |_,_,_,.nil,h,_=>by rw [List.mapM_nil] at h;cases h;exact ⟨(fun _ z=>nomatch z),rfl⟩
 |_,_,_,.cons (d:=d) r t,h,ok=>by
  rw [List.mapM_cons] at h
  obtain ⟨ns,h1,h⟩:=Option.bind_eq_some_iff.mp h
  obtain ⟨js,h2,h⟩:=Option.bind_eq_some_iff.mp h
  cases h
  unfold dR at ok
  rw [List.all_cons,Bool.and_eq_true] at ok
  obtain ⟨a1,a2⟩:=ye t h2 ok.2
  cases d<;>simp only [dRow,reduceCtorEq] at h1
  cases r with
  |tup e q=>
   have e2:=oG q h1
   subst e2
   refine ⟨fun v hv=> ?_,?_⟩
   ·rcases List.mem_cons.mp hv with rfl|hv
    ·refine ⟨_,ns,rfl,fun z=> ?_,e⟩
     rw [z] at ok
     exact absurd ok.1 (by simp)
    ·exact a1 v hv
   ·rw [List.map_cons,iS e,a2]
theorem oH: ∀{ks:List Key}{ns:List Int},ks.mapM keyI=some ns->ks=ns.map Sum.inl
 |[],_,h=>by rw [List.mapM_nil] at h;cases h;rfl
 |k::ks,_,h=>by
  rw [List.mapM_cons] at h
  obtain ⟨i,h1,h⟩:=Option.bind_eq_some_iff.mp h
  obtain ⟨js,h2,h⟩:=Option.bind_eq_some_iff.mp h
  cases h
  rw [oH h2]
  cases k with
  |inl j=>cases h1;rfl
  |inr _=>cases h1
theorem oI {S:Addr->Prop}: ∀{xs:List (List Key×V)}{ds:List (List Key×Dv)}{rs:List (List Int)},RepsK KF S H xs ds->(ds.mapM fun p:List Key×Dv=>p.1.mapM keyI)=some rs->dR rs=true->
  (∀p∈xs,∃ns:List Int,ns≠[]/\p.1=ns.map Sum.inl)/\ ∀ys:List V,Paired (fun (p:List Key×V) (y:V)=> ∃b,y= .ref b/\H b=some (.tup (p.1.map kV))) xs ys->(∀y∈ys,eh H y)/\ys.map (rowV H)=rs
 |_,_,_,.nil,h,_=>by
  rw [List.mapM_nil] at h;cases h
  exact ⟨(fun _ z=>nomatch z),fun ys q=>by cases q;exact ⟨(fun _ z=>nomatch z),rfl⟩⟩
 |_,_,_,.cons (k:=k) r t,h,ok=>by
  rw [List.mapM_cons] at h
  obtain ⟨ns,h1,h⟩:=Option.bind_eq_some_iff.mp h
  obtain ⟨js,h2,h⟩:=Option.bind_eq_some_iff.mp h
  cases h
  unfold dR at ok
  rw [List.all_cons,Bool.and_eq_true] at ok
  obtain ⟨a1,a2⟩:=oI t h2 ok.2
  have e:=oH (show k.mapM keyI=some ns from h1)
  have ne:ns≠[]:=fun z=>by rw [z] at ok;exact absurd ok.1 (by simp)
  subst e
  refine ⟨fun p hp=> ?_,fun ys q=> ?_⟩
  ·rcases List.mem_cons.mp hp with rfl|hp
   ·exact ⟨ns,ne,rfl⟩
   ·exact a1 p hp
  ·cases q with
   |cons q1 q2=>
    obtain ⟨b1,b2⟩:=a2 _ q2
    obtain ⟨b,rfl,e⟩:=q1
    have e':H b=some (.tup (ns.map V.int)):=by rw [e,List.map_map];rfl
    refine ⟨fun y hy=> ?_,?_⟩
    ·rcases List.mem_cons.mp hy with rfl|hy
     ·exact ⟨b,ns,rfl,ne,e'⟩
     ·exact b1 y hy
    ·rw [List.map_cons,iS e',b2]
theorem kG:dh KF (fun xs H Q=> ∃a kvs,xs=[.ref a]/\Rd H a (.dT kvs)/\(∀p∈kvs,∃ns:List Int,ns≠[]/\p.1=ns.map Sum.inl)/\
  ∀l ys zs,H l=none->Paired (fun (p:List Key×V) (y:V)=> ∃b,y= .ref b/\H b=some (.tup (p.1.map kV))) kvs ys->eX H ys zs->Q (.ref l) (upd H l (.lst zs))) .one cI:=by
 intro W H vs ds d Q r e hq
 cases r with
 |nil=>cases e
 |cons h r=>
  cases r with
  |cons _ _=>unfold cI at e;split at e<;>first|(next z=>cases z;done)|cases e
  |nil=>
   cases h<;>simp only [cI] at e<;>first|cases e|skip
   next a xs ds s h q=>
   obtain ⟨rs,h1,e⟩:=Option.bind_eq_some_iff.mp e
   split at e
   ·next ok=>
    cases e
    obtain ⟨a1,a2⟩:=oI q h1 ok
    refine ⟨a,xs,rfl,h,a1,fun l ys zs hl pr so=> ?_⟩
    obtain ⟨b1,b2⟩:=a2 ys pr
    have sm:=Same.new (o:= .lst zs) hl
    refine hq _ _ sm ⟨l,rfl,hl,zs,ay,?_⟩
    have:=oF (KF:=KF) (S:=Imm) (zs:=zs) (H:=H) fun z hz=>b1 z (so.perm.mem_iff.mp hz)
    rw [so.eq,b2] at this
    exact this.same sm
   ·cases e
end
end L2
set_option maxHeartbeats 4000000
namespace L2
open PySem PySem.Spec PyProof.Rows
variable {KF:PySem.W.Frag}{W W':Addr->Prop}
noncomputable def iU:Dv->Option Key
 | .int i=>some (.inl i)
 | .str x=>some (.inr x)
 |_=>none
noncomputable def dKey:Dv->Option (List Key)
 | .tup ds=>ds.mapM iU
 |_=>none
noncomputable def valD (kvs:List (List Key×Dv)) (k:List Key):Option Dv:=(kvs.find? fun kv=>decide (kv.1=k)).map (·.2)
noncomputable def putD (kvs:List (List Key×Dv)) (k:List Key) (v:Dv):List (List Key×Dv):=
 if (kvs.any fun kv=>decide (kv.1=k))=true then kvs.map (fun kv=>if kv.1=k then (kv.1,v) else kv) else kvs++[(k,v)]
noncomputable def dGet:Dv->Dv->Option Dv
 | .dic kvs,y=>(dKey y).bind (valD kvs)
 |_,_=>none
noncomputable def dIn:Dv->Dv->Option Dv
 |y,.dic kvs=>(dKey y).map fun k=> .bl (valD kvs k).isSome
 |_,_=>none
noncomputable def dS (a b c:EM):EM:=fun δ=>(a δ).bind fun x=>(b δ).bind fun y=>(c δ).bind fun z=>match x with
 | .dic kvs=>(dKey y).bind fun k=>let r:=(valD kvs k).getD z;if r.imm=true then some r else none
 |_=>none
noncomputable def sPut (i:Nat) (mk mv:EM):SM:=fun δ=>(mv δ).bind fun v=>(mk δ).bind fun y=>(eVar i δ).bind fun x=>match x with
 | .dic kvs=>(dKey y).bind fun k=>if kvs.length<lim/\v.imm=true then some (.nx (δ.set i (some (.dic (putD kvs k v))))) else none
 |_=>none
noncomputable def gO (i:Nat):SM:=fun δ=>(eVar i δ).bind fun x=>match x with
 | .lst ds=>some (.nx (δ.set i (some (.lst []))))
 |_=>none
noncomputable def oJ (i:Nat):SM:=fun δ=>(eVar i δ).bind fun x=>match x with
 | .lst ds=>some (.nx (δ.set i (some (.lst ds.reverse))))
 |_=>none
section
variable {S:Addr->Prop}{H:Hp}
theorem oK: ∀{vs:List V}{ds:List Dv}{ks:List Key},RepsF KF S H vs ds->ds.mapM iU=some ks->vs=ks.map kV
 |_,_,_,.nil,h=>by rw [List.mapM_nil] at h;cases h;rfl
 |_,_,_,.cons (d:=d) r t,h=>by
  rw [List.mapM_cons] at h
  obtain ⟨i,h1,h⟩:=Option.bind_eq_some_iff.mp h
  obtain ⟨js,h2,h⟩:=Option.bind_eq_some_iff.mp h
  cases h
  rw [oK t h2]
  cases d<;>simp only [iU,reduceCtorEq,Option.some.injEq] at h1<;>subst h1<;>cases r<;>rfl
theorem eY {v:V}{d:Dv}{k:List Key} (r:RepF KF S H v d) (h:dKey d=some k): ∃b,v= .ref b/\H b=some (.tup (k.map kV)):=by
 cases d<;>simp only [dKey,reduceCtorEq] at h
 cases r with
 |tup e q=>exact ⟨_,rfl,by rw [e,oK q h]⟩
theorem RepsK.val: ∀{xs:List (List Key×V)}{ds:List (List Key×Dv)} (k:List Key),RepsK KF S H xs ds->(valD ds k=none/\valV xs k=none) \/ ∃v d,valD ds k=some d/\valV xs k=some v/\RepF KF S H v d
 |_,_,k,.nil=> .inl ⟨rfl,rfl⟩
 |_,_,k,.cons (k:=k1) r t=>by
  by_cases e:k1=k
  ·exact .inr ⟨_,_,by simp [valD,List.find?_cons,e],iq e,r⟩
  ·rcases RepsK.val k t with ⟨a,b⟩|⟨v,d,a,b,q⟩
   ·exact .inl ⟨by simpa [valD,List.find?_cons,e] using a,by rw [fY e];exact b⟩
   ·exact .inr ⟨v,d,by simpa [valD,List.find?_cons,e] using a,by rw [fY e];exact b,q⟩
theorem RepsK.length: ∀{xs:List (List Key×V)}{ds:List (List Key×Dv)},RepsK KF S H xs ds->xs.length=ds.length
 |_,_,.nil=>rfl
 |_,_,.cons _ t=>by rw [List.length_cons,List.length_cons,RepsK.length t]
theorem RepsK.app: ∀{xs:List (List Key×V)}{ds:List (List Key×Dv)}{k:List Key}{v:V}{d:Dv},RepsK KF S H xs ds->RepF KF S H v d->RepsK KF S H (xs++[(k,v)]) (ds++[(k,d)])
 |_,_,_,_,_,.nil,r=> .cons r .nil
 |_,_,_,_,_,.cons q t,r=> .cons q (RepsK.app t r)
theorem RepsK.any: ∀{xs:List (List Key×V)}{ds:List (List Key×Dv)}{k:List Key},RepsK KF S H xs ds->(xs.any fun kv=>decide (kv.1=k))=ds.any fun kv=>decide (kv.1=k)
 |_,_,_,.nil=>rfl
 |_,_,_,.cons q t=>by rw [List.any_cons,List.any_cons,RepsK.any t]
theorem RepsK.rep: ∀{xs:List (List Key×V)}{ds:List (List Key×Dv)}{k:List Key}{v:V}{d:Dv},RepsK KF S H xs ds->RepF KF S H v d->
  RepsK KF S H (xs.map fun kv=>if kv.1=k then (kv.1,v) else kv) (ds.map fun kv=>if kv.1=k then (kv.1,d) else kv)
 |_,_,_,_,_,.nil,r=> .nil
 |_,_,k,_,_,.cons (k:=k1) q t,r=>by
  rw [List.map_cons,List.map_cons]
  by_cases e:k1=k
  ·rw [if_pos e,if_pos e];exact .cons r (RepsK.rep t r)
  ·rw [if_neg e,if_neg e];exact .cons q (RepsK.rep t r)
theorem RepsK.put {xs:List (List Key×V)}{ds:List (List Key×Dv)}{k:List Key}{v:V}{d:Dv} (q:RepsK KF S H xs ds) (r:RepF KF S H v d):RepsK KF S H (putK xs k v) (putD ds k d):=by
 unfold putK putD
 rw [q.any]
 split
 ·exact q.rep r
 ·exact q.app r
end
theorem gP {H:Hp}{a b:Addr}{kvs:List (List Key×V)}{k:List Key} (e:Rd H a (.dT kvs)) (eb:H b=some (.tup (k.map kV))):DGet H a (.ref b) (valV kvs k):= .inr ⟨kvs,k,b,e,rfl,eb,rfl⟩
theorem Rd.sm {H H':Hp}{a:Addr}{u:HO} (r:Rd H a u) (s:Same H H'):Rd H' a u:=r.elim (fun h=> .inl (s _ _ h)) fun ⟨o,h⟩=> .inr ⟨o,s _ _ h⟩
section
variable {X:Cx}{ms:List Nat}{k k1 k2 k3 rk:Kd}{e a b c:Expr}{m ma mb mc:EM}{pos:Pos}
theorem cT (hu:X.A.units+1<cLine) (ha:PD X ms k1 a ma) (hb:PD X ms k2 b mb) (hs:NoSl b):PD X ms .bor (.Subscript a b pos) (eOp dGet ma mb):=by
 obtain ⟨ta,pa,qa⟩:=ha
 obtain ⟨tb,pb,qb⟩:=hb
 refine ⟨_,tV hu pa pb hs,fun δ σ H0 H Q d R hm hq=> ?_⟩
 obtain ⟨x,hx,e⟩:=Option.bind_eq_some_iff.mp hm
 obtain ⟨y,hy,e⟩:=Option.bind_eq_some_iff.mp e
 refine qa δ σ H0 H _ x R hx fun v H1 s1 g1=> ?_
 refine qb δ σ H0 H1 _ y (R.same s1) hy fun u H2 s2 g2=> ?_
 have g1:=(g1.same s2).bor
 cases x<;>simp only [dGet,reduceCtorEq] at e
 obtain ⟨kk,h1,h2⟩:=Option.bind_eq_some_iff.mp e
 obtain ⟨p,rfl,hp⟩:=eY g2.bor h1
 cases g1 with
 |dic _ hd q=>
  rcases q.val kk with ⟨n,_⟩|⟨w',d',n,n2,r⟩
  ·rw [n] at h2;cases h2
  ·rw [n] at h2;cases h2
   exact ⟨_,w',rfl,n2▸gP hd hp,hq w' H2 (s1.tr s2) r⟩
theorem iV (hu:X.A.units+1<cLine) {apos cpos:Pos} (ha:PD X ms k1 a ma) (hb:PD X ms k2 b mb) (hc:PD X ms k3 c mc) (m:M2 X a "get" apos b c cpos):PD X ms .imm (.Call (.Attribute a "get" apos) [b,c] [] cpos) (dS ma mb mc):=by
 obtain ⟨ta,pa,qa⟩:=ha
 obtain ⟨tb,pb,qb⟩:=hb
 obtain ⟨tc,pc,qc⟩:=hc
 refine ⟨_,t6 hu pa pb pc m,fun δ σ H0 H Q d R hm hq=> ?_⟩
 obtain ⟨x,hx,e⟩:=Option.bind_eq_some_iff.mp hm
 obtain ⟨y,hy,e⟩:=Option.bind_eq_some_iff.mp e
 obtain ⟨z,hz,e⟩:=Option.bind_eq_some_iff.mp e
 refine qa δ σ H0 H _ x R hx fun v H1 s1 g1=> ?_
 cases x<;>simp only [reduceCtorEq] at e
 obtain ⟨kk,h1,h2⟩:=Option.bind_eq_some_iff.mp e
 have g1':=g1.bor
 cases g1' with
 |dic _ hd0 q0=>
  refine ⟨_,rfl,.inr ⟨_,hd0⟩,?_⟩
  refine qb δ σ H0 H1 _ y (R.same s1) hy fun u H2 s2 g2=> ?_
  refine qc δ σ H0 H2 _ z ((R.same s1).same s2) hz fun w' H3 s3 g3=> ?_
  obtain ⟨p,rfl,hp⟩:=eY (g2.same s3).bor h1
  have hd:=(hd0.sm s2).sm s3
  have q:=(q0.keep (.of s2)).keep (.of s3)
  split at h2
  ·next im=>
   cases h2
   rcases q.val kk with ⟨n,n2⟩|⟨w2,d2,n,n2,r⟩
   ·rw [n] at im hq
    exact ⟨none,n2▸gP hd hp,hq w' H3 (s1.tr (s2.tr s3)) (g3.bor.imm im)⟩
   ·rw [n] at im hq
    exact ⟨some w2,n2▸gP hd hp,hq w2 H3 (s1.tr (s2.tr s3)) (r.imm im)⟩
  ·cases h2
theorem eZ:PD X ms .one (.Dict [] [] pos) (eC (.dic [])):=by
 refine ⟨_,tZ,fun δ σ H0 H Q d R hm hq=> ?_⟩
 cases hm
 exact fun p hp=>hq _ _ (Same.new hp) ⟨p,rfl,hp,[],ay,.nil⟩
theorem iW {i:Nat}{x:Str}{np pos':Pos}{v:Expr}{mv:EM} (hu:X.A.units+1<cLine) (hi:decide (i∈ms)=true) (hx:PE X (.Name x np) (tVar i)) (hk:PD X ms k1 b mb) (hv:PD X ms k2 v mv)
  (hs:swapsWith v (some (.Subscript (.Name x np) b pos')) pos.line X.env=pure false):PDs X ms rk (.Assign [.Subscript (.Name x np) b pos'] v pos) (sPut i mb mv):=by
 obtain ⟨tb,pb,qb⟩:=hk
 obtain ⟨tv,pv,qv⟩:=hv
 refine ⟨_,mK hu hx pb pv hs,fun δ σ H0 H D r R hm hq=> ?_⟩
 have hi:=of_decide_eq_true hi
 obtain ⟨dv,hv,e⟩:=Option.bind_eq_some_iff.mp hm
 obtain ⟨y,hy,e⟩:=Option.bind_eq_some_iff.mp e
 obtain ⟨z,hz,e⟩:=Option.bind_eq_some_iff.mp e
 cases z<;>simp only [reduceCtorEq] at e
 obtain ⟨kk,h1,e⟩:=Option.bind_eq_some_iff.mp e
 split at e
 ·next hl=>
  cases e
  refine qv δ σ H0 H _ dv R hv fun w1 H1 s1 g1=> ?_
  have R1:=R.same s1
  obtain ⟨p,hsp,xs0,hp0,q0⟩:=R1.getOwn hi hz
  refine ⟨_,hsp,?_⟩
  refine qb δ σ H0 H1 _ y R1 hy fun u H2 s2 g2=> ?_
  have R2:=R1.same s2
  obtain ⟨p',hsp',xs,hp,q⟩:=R2.getOwn hi hz
  rw [hsp] at hsp';cases hsp'
  obtain ⟨kb,rfl,hkb⟩:=eY g2.bor h1
  refine ⟨p,_,rfl,DPut.t hp hkb (by rw [q.length];exact Nat.lt_trans hl.1 (by decide)),?_⟩
  have nt: ∀ys,HO.dT (putK xs kk w1)≠ .tup ys:=fun _ z=>nomatch z
  have kp:aE Imm H2 (L2.upd H2 p (.dT (putK xs kk w1))):=fun b ob hb kq=>by
   rcases kq with ⟨ys,rfl⟩|⟨c,u,rfl⟩|kq
   ·rw [ag (fun z=>by rw [z,hp] at hb;cases hb)];exact hb
   ·rw [ag (fun z=>by rw [z,hp] at hb;cases hb)];exact hb
   ·exact kq.elim
  have cl:Cell X.K (L2.upd H2 p (.dT (putK xs kk w1))) p (.dic (putD _ kk dv)):=⟨_,ay,(q.put ((g1.same s2).bor.imm hl.2)).keep kp⟩
  obtain ⟨W9,R3,st⟩:=R2.mut hi hsp (aQ hz) nt (fun _ _ z=>nomatch z) cl
  exact hq W9 σ _ ((Stp.sm (s1.tr s2)).tr st) R3
 ·cases e
theorem yf {i:Nat}{x:Str}{np apos cpos:Pos} (hi:decide (i∈ms)=true) (hx:PE X (.Name x np) (tVar i))
  (hbase:attributeBase (.Name x np) "clear" X.env (eval (.Name x np) X.env)=eval (.Name x np) X.env:=by rfl) (hline:(apos.endLine==cpos.line)=true:=by rfl)
  (hs:swapsWith (.Call (.Attribute (.Name x np) "clear" apos) [] [] cpos) none pos.line X.env=pure false:=by rfl):
  PDs X ms rk (.Expr (.Call (.Attribute (.Name x np) "clear" apos) [] [] cpos) pos) (gO i):=by
 refine ⟨_,ii (tE PySem.F.plainAttrs_list PySem.F.slot_list_clear PySem.F.type_list_clear tI hx hbase hline) hs,fun δ σ H0 H D r R hm hq=> ?_⟩
 have hi:=of_decide_eq_true hi
 obtain ⟨z,hz,e⟩:=Option.bind_eq_some_iff.mp hm
 cases z<;>simp only [reduceCtorEq,Option.some.injEq] at e
 subst e
 obtain ⟨p,hsp,xs,hp,q⟩:=R.getOwn hi hz
 refine ⟨_,hsp,.inl ⟨rfl,xs,SqL.of hp⟩,p,xs,rfl,rfl,hp,?_⟩
 have cl:Cell X.K (L2.upd H p (.lst [])) p (.lst []):=⟨[],ay,.nil⟩
 have nt: ∀ys,HO.lst []≠ .tup ys:=fun _ z=>nomatch z
 obtain ⟨W9,R3,st⟩:=R.mut hi hsp (aQ hz) nt (fun _ _ z=>nomatch z) cl
 exact hq W9 σ _ st R3
end
end L2
set_option maxHeartbeats 4000000
namespace L2
open PySem PySem.Spec PyProof.Rows
noncomputable def putB (i:Nat) (v y x:Option Dv) (δ:Dt):Option Fl:=match v,y,x with
 |some v,some y,some (.dic kvs)=>(match dKey y with
  |some k=>if kvs.length<lim/\v.imm=true then some (.nx (δ.set i (some (.dic (putD kvs k v))))) else none
  |none=>none)
 |_,_,_=>none
theorem yg {i:Nat}{mk mv:EM}{δ:Dt}:sPut i mk mv δ=putB i (mv δ) (mk δ) (eVar i δ) δ:=by
 unfold sPut putB
 cases mv δ with
 |none=>rfl
 |some v=>
  cases mk δ with
  |none=>rfl
  |some y=>
   cases eVar i δ with
   |none=>rfl
   |some x=>
    cases x<;>try rfl
    cases h:dKey y<;>simp [h]
theorem dB {i:Nat}{v y:Dv}{kvs:List (List Key×Dv)}{k:List Key}{δ:Dt} (hk:dKey y=some k) (h:kvs.length<lim) (h':v.imm=true):putB i (some v) (some y) (some (.dic kvs)) δ=some (.nx (δ.set i (some (.dic (putD kvs k v))))):=by
 show (match dKey y with
  |some k=>if kvs.length<lim/\v.imm=true then some (Fl.nx (δ.set i (some (.dic (putD kvs k v))))) else none
  |none=>none)=_
 rw [hk]
 exact if_pos ⟨h,h'⟩
noncomputable def clrB (i:Nat) (x:Option Dv) (δ:Dt):Option Fl:=match x with
 |some (.lst _)=>some (.nx (δ.set i (some (.lst []))))
 |_=>none
theorem yh {i:Nat}{δ:Dt}:gO i δ=clrB i (eVar i δ) δ:=by
 unfold gO clrB
 cases eVar i δ with
 |none=>rfl
 |some x=>cases x<;>rfl
theorem yi {i:Nat}{ds:List Dv}{δ:Dt}:clrB i (some (.lst ds)) δ=some (.nx (δ.set i (some (.lst [])))):=rfl
noncomputable def revB (i:Nat) (x:Option Dv) (δ:Dt):Option Fl:=match x with
 |some (.lst ds)=>some (.nx (δ.set i (some (.lst ds.reverse))))
 |_=>none
theorem yj {i:Nat}{δ:Dt}:oJ i δ=revB i (eVar i δ) δ:=by
 unfold oJ revB
 cases eVar i δ with
 |none=>rfl
 |some x=>cases x<;>rfl
theorem yk {i:Nat}{ds:List Dv}{δ:Dt}:revB i (some (.lst ds)) δ=some (.nx (δ.set i (some (.lst ds.reverse)))):=rfl
noncomputable def kH (x y z:Option Dv):Option Dv:=match x,y,z with
 |some (.dic kvs),some y,some z=>(match dKey y with
  |some k=>if ((valD kvs k).getD z).imm=true then some ((valD kvs k).getD z) else none
  |none=>none)
 |_,_,_=>none
theorem dU {a b c:EM}{δ:Dt}:dS a b c δ=kH (a δ) (b δ) (c δ):=by
 unfold dS kH
 cases a δ with
 |none=>rfl
 |some x=>
  cases b δ with
  |none=>cases x<;>rfl
  |some y=>
   cases c δ with
   |none=>cases x<;>rfl
   |some z=>
    cases x<;>try rfl
    cases h:dKey y<;>simp [h]
theorem ym {d:Dv} (c:d.toPy.canLay0=true) (h:d.toPy.depth<=60):eqOk d d=true/\PyData.eqv d.toPy d.toPy=true:=by
 refine ⟨?_,PySem.SeqAt.eqv_refl _ c⟩
 unfold eqOk
 rw [c,Nat.min_self,decide_eq_true h]
 rfl
theorem oM {d:Dv} (c:d.toPy.canLay0=true) (h:d.toPy.depth<=60):dNe d d=some (.bl false):=by
 obtain ⟨a,b⟩:=ym c h
 unfold dNe
 rw [if_pos a,b]
 rfl
theorem gQ {α:Type} (f:α->Dv): ∀xs:List α,dH (xs.map f)=xs.map fun x=>(f x).toPy
 |[]=>rfl
 |x::xs=>by rw [List.map_cons,dH,gQ f xs];rfl
theorem kI {α:Type}{f:α->PyData}: ∀{xs:List α},(∀x∈xs,(f x).canLay0=true)->PyData.canLayAll0 (xs.map f)=true
 |[],_=>rfl
 |x::xs,h=>by rw [List.map_cons,PyData.canLayAll0,h x (.head _),kI fun y hy=>h y (.tail _ hy)];rfl
theorem kJ {α:Type}{f:α->PyData}{n:Nat}: ∀{xs:List α},(∀x∈xs,(f x).depth<=n)->PyData.depthAll (xs.map f)<=n
 |[],_=>Nat.zero_le _
 |x::xs,h=>by rw [List.map_cons,PyData.depthAll];exact Nat.max_le.mpr ⟨h x (.head _),kJ fun y hy=>h y (.tail _ hy)⟩
theorem yn (r:List Int):(aJ r).toPy.canLay0=true:=by
 unfold aJ Dv.toPy
 rw [gQ]
 exact kI fun _ _=>rfl
theorem yo (r:List Int):(aJ r).toPy.depth<=1:=by
 unfold aJ Dv.toPy
 rw [gQ,PyData.depth]
 exact Nat.succ_le_succ (kJ fun _ _=>Nat.le_refl _)
noncomputable def ent (p:List Int×Int):Dv:= .tup [.tup (p.1.map .int),.int p.2]
theorem oN (p:List Int×Int):(ent p).toPy.canLay0=true:=by
 have h:=yn p.1
 show (PyData.canLay0 (aJ p.1).toPy&&true)=true
 rw [h];rfl
theorem oO (p:List Int×Int):(ent p).toPy.depth<=2:=by
 have h:=yo p.1
 show max (aJ p.1).toPy.depth (max 0 0)+1<=2
 lia
theorem yp (p:List Int×Int):dNe (ent p) (ent p)=some (.bl false):=oM (oN p) (Nat.le_trans (oO p) (by decide))
theorem oP (h:List (List Int×Int)):(Dv.lst (h.map ent)).toPy.canLay0=true:=by
 unfold Dv.toPy
 rw [gQ]
 exact kI fun p _=>oN p
theorem oQ (h:List (List Int×Int)):(Dv.lst (h.map ent)).toPy.depth<=3:=by
 unfold Dv.toPy
 rw [gQ,PyData.depth]
 exact Nat.succ_le_succ (kJ fun p _=>oO p)
theorem oR (h:List (List Int×Int)):dNe (.lst (h.map ent)) (.lst (h.map ent))=some (.bl false):=oM (oP h) (Nat.le_trans (oQ h) (by decide))
theorem yq {p:List Int×Int}:(ent p).imm=true:=by
 show imms [.tup (p.1.map .int),.int p.2]=true
 rw [j8,nY,dA]
 rfl
theorem gR {r:List Int}:(aJ r).imm=true:=dA r
theorem oS {α:Type}{f:α->Dv}: ∀{xs:List α},(∀x∈xs,(f x).imm=true)->imms (xs.map f)=true
 |[],_=>rfl
 |x::xs,h=>by rw [List.map_cons,j8,h x (.head _),oS fun y hy=>h y (.tail _ hy)];rfl
theorem iX {h:List (List Int×Int)}:imms (h.map ent)=true:=oS fun _ _=>yq
noncomputable def dct (kws:List (List Int×Int)):List (List Key×Dv):=kws.map fun p=>(p.1.map Sum.inl,.int p.2)
noncomputable def getL (kws:List (List Int×Int)) (r:List Int):Option Int:=(kws.find? fun p=>decide (p.1=r)).map (·.2)
noncomputable def putL (kws:List (List Int×Int)) (r:List Int) (w:Int):List (List Int×Int):=
 if (kws.any fun p=>decide (p.1=r))=true then kws.map (fun p=>if p.1=r then (p.1,w) else p) else kws++[(r,w)]
theorem gS {a b:List Int}:(a.map (Sum.inl:Int->Key)=b.map Sum.inl)↔a=b:=
 ⟨fun h=>by
  have:=congrArg (fun l:List Key=>l.map fun k=>match k with| .inl i=>i| .inr _=>0) h
  simpa [List.map_map,Function.comp_def] using this,fun h=>by rw [h]⟩
theorem oT (r:List Int):dKey (aJ r)=some (r.map Sum.inl):=by
 show (r.map Dv.int).mapM iU=_
 induction r with
 |nil=>rfl
 |cons x r ih=>rw [List.map_cons,List.mapM_cons,ih];rfl
theorem bW (r:List Int):dKey (.tup (r.map .int))=some (r.map Sum.inl):=oT r
theorem gU: ∀(kws:List (List Int×Int)) (r:List Int),valD (dct kws) (r.map Sum.inl)=(getL kws r).map .int
 |[],_=>rfl
 |p::kws,r=>by
  have ih:=gU kws r
  unfold valD dct getL at ih|-
  rw [List.map_cons,List.find?_cons,List.find?_cons]
  by_cases e:p.1=r
  ·simp [e]
  ·have e': ¬p.1.map (Sum.inl:Int->Key)=r.map Sum.inl:=fun h=>e (gS.mp h)
   simp only [decide_eq_false e,decide_eq_false e']
   exact ih
theorem yr (kws:List (List Int×Int)) (r:List Int):((dct kws).any fun kv=>decide (kv.1=r.map Sum.inl))=kws.any fun p=>decide (p.1=r):=by
 unfold dct
 rw [List.any_map]
 refine congrArg (fun f=>kws.any f) (funext fun p=> ?_)
 exact decide_eq_decide.mpr gS
theorem ej (kws:List (List Int×Int)) (r:List Int) (w:Int):putD (dct kws) (r.map Sum.inl) (.int w)=dct (putL kws r w):=by
 unfold putD putL
 rw [yr]
 split
 ·unfold dct
  rw [List.map_map,List.map_map]
  refine List.map_congr_left fun p _=> ?_
  show (if p.1.map (Sum.inl:Int->Key)=r.map Sum.inl then (p.1.map Sum.inl,Dv.int w) else (p.1.map Sum.inl,.int p.2))=_
  by_cases e:p.1=r
  ·rw [if_pos (gS.mpr e)];simp [e]
  ·rw [if_neg fun h=>e (gS.mp h)];simp [e]
 ·unfold dct
  rw [List.map_append]
  rfl
theorem e6 (kws:List (List Int×Int)):(dct kws).length=kws.length:=List.length_map ..
theorem gX (kws:List (List Int×Int)) (r:List Int) (w:Int):(putL kws r w).length<=kws.length+1:=by
 unfold putL
 split
 ·rw [List.length_map];lia
 ·rw [List.length_append];exact Nat.le_refl _
theorem putL_mem {kws:List (List Int×Int)}{r:List Int}{w:Int}{p:List Int×Int} (h:p∈putL kws r w):p∈kws \/p=(r,w):=by
 unfold putL at h
 split at h
 ·obtain ⟨q,hq,e⟩:=List.mem_map.mp h
  split at e
  ·next e2=>right;rw [<-e,e2]
  ·left;rw [<-e];exact hq
 ·rcases List.mem_append.mp h with h|h
  ·exact .inl h
  ·exact .inr (List.mem_singleton.mp h)
theorem iY {kws:List (List Int×Int)}{r:List Int}{w:Int} (nd:(kws.map (·.1)).Nodup):((putL kws r w).map (·.1)).Nodup:=by
 unfold putL
 split
 ·have e:(kws.map fun p=>if p.1=r then (p.1,w) else p).map (·.1)=kws.map (·.1):=by
   rw [List.map_map]
   refine List.map_congr_left fun p _=> ?_
   show (if p.1=r then (p.1,w) else p).1=p.1
   split<;>rfl
  rw [e];exact nd
 ·next h=>
  rw [List.map_append,List.nodup_append]
  refine ⟨nd,by simp,fun a ha b hb=> ?_⟩
  obtain rfl:b=r:=by simpa using hb
  rintro rfl
  obtain ⟨p,hp,e⟩:=List.mem_map.mp ha
  exact h (List.any_eq_true.mpr ⟨p,hp,decide_eq_true e⟩)
theorem oU: ∀kws:List (List Int×Int),((dct kws).mapM fun p:List Key×Dv=>p.1.mapM keyI)=some (kws.map (·.1))
 |[]=>rfl
 |p::kws=>by
  have ih:=oU kws
  unfold dct at ih|-
  have e: ∀l:List Int,(l.map (Sum.inl:Int->Key)).mapM keyI=some l:=by
   intro l
   induction l with
   |nil=>rfl
   |cons x l il=>rw [List.map_cons,List.mapM_cons,il];rfl
  rw [List.map_cons,List.mapM_cons,ih]
  show ((p.1.map (Sum.inl:Int->Key)).mapM keyI).bind _=_
  rw [e]
  rfl
theorem kK {kws:List (List Int×Int)} (h: ∀p∈kws,p.1≠[]):cI [.dic (dct kws)]=some (.lst ((srt (kws.map (·.1))).map aJ)):=by
 show (Option.bind _ _)=_
 rw [oU]
 show (if dR _=true then _ else _)=_
 rw [if_pos]
 unfold dR
 rw [List.all_eq_true]
 intro r hr
 obtain ⟨p,hp,rfl⟩:=List.mem_map.mp hr
 have:=h p hp
 cases e:p.1 with
 |nil=>exact absurd e this
 |cons _ _=>rfl
theorem et {kws:List (List Int×Int)}{r:List Int} (h:r∈kws.map (·.1)): ∃w,getL kws r=some w/\(r,w)∈kws:=by
 unfold getL
 cases e:kws.find? fun p=>decide (p.1=r) with
 |none=>
  obtain ⟨p,hp,e2⟩:=List.mem_map.mp h
  have:=List.find?_eq_none.mp e p hp
  exact absurd (decide_eq_true e2) this
 |some q=>
  have h1:=List.find?_some e
  have h2:=List.mem_of_find?_eq_some e
  have h3:q.1=r:=of_decide_eq_true h1
  refine ⟨q.2,rfl,?_⟩
  rw [<-h3]
  exact h2
noncomputable def wOf (kws:List (List Int×Int)) (r:List Int):Int:=(getL kws r).getD 0
theorem dC {kws:List (List Int×Int)}{r:List Int} (h:r∈kws.map (·.1)):dGet (.dic (dct kws)) (aJ r)=some (.int (wOf kws r)):=by
 obtain ⟨w,e,_⟩:=et h
 show (dKey (aJ r)).bind _=_
 rw [oT]
 show valD _ _=_
 rw [gU]
 unfold wOf
 rw [e]
 rfl
theorem iZ (l:List (List Int)):(srt l).length=l.length:=(cp l).length_eq
theorem kL {α:Type}{g:Dv->Dt->Option Dt}{c:Dt->Option Bool}{el:EM}{δ:Dt} (enc f:α->Dv) (xs:List α) (h: ∀x,x∈xs->celM g c el δ (enc x)=some (some (f x))):bu g c el δ (xs.map enc)=some (xs.map f):=by
 rw [kc enc (fun x=>some (f x)) xs h]
 congr 1
 clear h
 induction xs with
 |nil=>rfl
 |cons x xs ih=>rw [List.filterMap_cons,ih];rfl
theorem yt {i:Int}:fInt [.int i]=some (.int i):=rfl
theorem yu {b:Bool}:fInt [.bl b]=some (.int (if b then 1 else 0)):=rfl
theorem yv {ns:List Int}:fSum [.lst (ns.map .int)]=some (.int ns.sum):=by
 show (eU _).map _=_
 rw [nP]
 rfl
theorem at20 {a b:Dv}:atI [a,b] 0=some a:=rfl
theorem at21 {a b:Dv}:atI [a,b] 1=some b:=rfl
theorem c2:((2:Nat):Int)=2:=rfl
theorem cJ (a b:Int) (h:0<b):0<=a%b/\a%b<b:=⟨Int.emod_nonneg _ (by lia),Int.emod_lt_of_pos _ h⟩
theorem oV {i j:Int} (h:i.natAbs<2^2048) (h':j.natAbs<2^2048):bU i j=true:=by
 unfold bU
 rw [decide_eq_true h,decide_eq_true h']
 simp
theorem yw (r:List Int) (w:Int):dNe (.tup [.tup (r.map .int),.int w]) (.tup [.tup (r.map .int),.int w])=some (.bl false):=yp (r,w)
theorem yx {d:Dv}{zs:List Int} (h:d∈zs.map Dv.int): ∃z:Int,z∈zs/\d= .int z:=by
 obtain ⟨z,h,e⟩:=List.mem_map.mp h
 exact ⟨z,h,e.symm⟩
theorem i0 {α:Type}{g:Dv->Dt->Option Dt}{c:Dt->Option Bool}{el:EM}{δ:Dt} (enc f:α->Dv) (p:α->Bool) (xs:List α) (h: ∀x,x∈xs->celM g c el δ (enc x)=some (if p x=true then some (f x) else none)):bu g c el δ (xs.map enc)=some ((xs.filter p).map f):=by
 rw [kc enc (fun x=>if p x=true then some (f x) else none) xs h]
 congr 1
 clear h
 induction xs with
 |nil=>rfl
 |cons x xs ih=>
  rw [List.filterMap_cons,List.filter_cons]
  by_cases e:p x=true
  ·rw [if_pos e,if_pos e,List.map_cons,ih]
  ·rw [if_neg e,if_neg e,ih]
theorem i3 (kws:List (List Int×Int)) (r:List Int):kH (some (.dic (dct kws))) (some (.tup (r.map .int))) (some (.int 0))=some (.int (wOf kws r)):=by
 show (match dKey (.tup (r.map .int)) with
  |some k=>if ((valD (dct kws) k).getD (.int 0)).imm=true then some ((valD (dct kws) k).getD (.int 0)) else none
  |none=>none)=_
 rw [bW]
 show (if ((valD (dct kws) (r.map Sum.inl)).getD (.int 0)).imm=true then some ((valD (dct kws) (r.map Sum.inl)).getD (.int 0)) else none)=_
 rw [gU]
 unfold wOf
 cases getL kws r<;>rfl
end L2
set_option maxHeartbeats 4000000
local macro_rules
 | `(tactic| simp_arith $cfg:optConfig [$xs,*]) => `(tactic| simp $cfg:optConfig only [$xs,*,L2.eW,L2.vd,L2.ve,L2.vf,L2.vg,L2.vh,L2.vi,L2.vj,L2.vk,L2.vm,L2.vn,L2.vo,L2.vp,L2.vq,L2.vt,L2.vw,L2.vx,L2.vy,L2.vz,L2.vA,L2.vB,L2.vC,L2.vD,L2.vE,L2.vF,L2.vG,L2.vH,L2.vI,L2.vJ,L2.eC_b,L2.vL,L2.vM,L2.vN,L2.vO,L2.vP,L2.vQ,L2.vR,L2.vS,L2.vT,L2.vU,L2.vV,L2.vW,L2.vX,L2.vY,L2.vZ,L2.wc,L2.we,L2.wf,L2.wg,L2.wj,L2.wk,L2.wm,L2.wn,L2.wp,L2.wq,L2.wt,L2.wu,L2.wv,L2.wx,L2.wy,L2.wA,L2.wB,L2.wC,L2.wD,L2.gN_b,L2.wE,L2.wF,L2.wG,L2.wH,L2.wI,L2.wJ,L2.wK,L2.wL,L2.wM,L2.wN,L2.wO,L2.nX,L2.wQ,L2.wR,L2.wS,L2.wT,L2.cE,L2.wU,L2.wV,L2.wW,L2.nY,L2.wX,L2.j8,L2.dA,L2.wY,L2.wZ,L2.w6,L2.xa,L2.xb,L2.xc,L2.xf,L2.xg,List.set_cons_zero,List.set_cons_succ,Option.map_some,L2.lenc,L2.lenn,Nat.reduceAdd,Nat.reduceLeDiff,Int.reduceLT,Int.reduceLE,List.length_map,L2.cD,Bool.and_true,Bool.and_self,Bool.not_true,Bool.not_false,L2.aO,List.map_cons,List.map_nil,List.getElem?_cons_zero,List.getElem?_cons_succ,Option.join_some,L2.bc,List.cons_append,List.nil_append,List.replicate,and_self,and_true,true_and,L2.xi,L2.Dv.isScr,L2.tyN,L2.vK,L2.xl,L2.xm,L2.xn,L2.xo,L2.xp,L2.xr,L2.xt,L2.xu,L2.xv,L2.xw,L2.xx,L2.xy,L2.gT_b,L2.gC_b,L2.xz,L2.gZ_b,L2.iL_b,L2.xA,L2.iT_b,L2.xB,L2.xC,L2.xD,L2.xE,L2.xF,L2.xG,L2.yg,L2.yh,L2.yi,L2.yj,L2.yk,L2.yt,L2.yu,L2.yv,L2.at20,L2.at21,L2.c2])
namespace L2
open PySem PySem.Spec PyProof.Rows
end L2
set_option maxHeartbeats 4000000
namespace L2
open PySem PySem.Spec PyProof.Rows
noncomputable def A8 (i:Nat) (mk mv:EM):SM:=fun δ=>(mv δ).bind fun v=>(mk δ).bind fun y=>(eVar i δ).bind fun x=>match x,y with
 | .lst ds,.int k=>(ixN ds.length k).bind fun j=>if v.imm=true then some (.nx (δ.set i (some (.lst (ds.set j v))))) else none
 |_,_=>none
section
variable {X:Cx}{ms:List Nat}{k k1 k2 k3 rk:Kd}{e a b c:Expr}{m ma mb mc:EM}{pos:Pos}
theorem yy:fillsNumberSlot (.type "tuple") "mul"=pure false:=
 PySem.fillsNumberSlot_seq (id:="tuple.__mul__") (r:=some (.builtin "tuple.__rmul__")) F.slot_tuple_mul.lookup (by decide+kernel) F.slot_tuple_rmul.lookup (by decide+kernel)
theorem yz:seqRepeat? (.type "tuple")=pure (some (.builtin "tuple.__mul__")):=by
 unfold seqRepeat?
 rw [PySem.seqSlot_of (T:="tuple") (name:="__mul__") (id:="tuple.__mul__") F.slot_tuple_mul.lookup (by decide+kernel),PySem.seqSlot_of (T:="tuple") (name:="__rmul__") (id:="tuple.__rmul__") F.slot_tuple_rmul.lookup (by decide+kernel)]
 rfl
theorem yA (j:Int) (t:Tok) (l:Addr) (its:Array Value) (n:Nat) (dc:Option Addr) (sl:Array (Option Value)):
  Meets (Builtin.«int.__rmul__» ⟨[.int j t,.ref l],[]⟩) (fun _ R s=>s.heap.get? l=some ⟨.type "tuple",dc,.seq its n,sl⟩/\R (.ok (.ret Value.notImplemented)) s):=
 .of_wp fun prog w A R s h=>by obtain ⟨hp,g,d,tk,os⟩:=s;obtain ⟨hl,h⟩:=h;wp_walk;exact ⟨_,rfl,h⟩
theorem yB (j:Int) (t:Tok) (l:Addr) (it:List Value) (n:Nat) (dc:Option Addr) (sl:Array (Option Value)) (j2:2<=j) (jm:j<=100000) (ne:it.toArray.isEmpty=false) (sz:it.length*j.toNat<=sizeLine):
  Meets (Builtin.«tuple.__mul__» ⟨[.ref l,.int j t],[]⟩) (fun _ R s=>s.heap.get? l=some ⟨.type "tuple",dc,.seq it.toArray n,sl⟩/\R (.ok (.ret (.ref s.heap.objs.size))) {s with heap:=s.heap.push (seqObj "tuple" (List.replicate j.toNat it).flatten.toArray 0)}):=
 .of_wp fun prog w A R s h=>by
  obtain ⟨hp,g,d,tk,os⟩:=s
  obtain ⟨hl,h⟩:=h
  rw [<-List.size_toArray] at sz
  have fr:List.foldl (fun x1 x2=>x1++x2) #[] (List.replicate j.toNat it.toArray)=(List.replicate j.toNat it).flatten.toArray:=by
   have:=mC it j.toNat []
   rw [List.nil_append] at this
   exact this
  have pz:(it.toArray.size:Int)*j=((it.toArray.size*j.toNat:Nat):Int):=by
   rw [Int.natCast_mul,Int.toNat_of_nonneg (by lia)]
  have lz:((it.toArray.size*j.toNat:Nat):Int)<=16777216:=by
   have:(sizeLine:Nat)=16777216:=by decide
   lia
  have c1: ¬(decide (j< -2^63)||decide (j>=2^63))=true:=by
   rw [decide_eq_false (by lia),decide_eq_false (by lia)];simp
  have c2: ¬(it.toArray.isEmpty||j==1)=true:=by
   rw [ne,beq_eq_false_iff_ne.mpr (show j≠1 by lia)];simp
  have c3: ¬(decide (j<=0)||it.toArray.isEmpty)=true:=by
   rw [ne,decide_eq_false (by lia)];simp
  have c4: ¬(it.toArray.size:Int)*j>(2^63-1)/8:=by
   rw [pz]
   have:((2:Int)^63-1)/8=1152921504606846975:=by decide+kernel
   lia
  have c5: ¬Builtin.Tuple.tupleTooMany ((it.toArray.size:Int)*j)=true:=by
   rw [pz]
   unfold Builtin.Tuple.tupleTooMany
   have:(sizeLine:Int)=16777216:=by decide
   rw [decide_eq_false (by lia)];simp
  wp_walk
  rw [if_neg c1]
  wp_walk
  rw [if_neg c2]
  wp_walk
  rw [if_neg c3]
  wp_walk
  rw [if_neg c4]
  wp_walk
  rw [if_neg c5]
  wp_walk
  rw [fr,if_neg (by rw [List.size_toArray,mF,Nat.mul_comm,<-List.size_toArray];lia)]
  wp_walk
  exact ⟨_,rfl,h⟩
theorem yC (t:Tok) (l:Addr) (its:Array Value) (n:Nat) (dc:Option Addr) (sl:Array (Option Value)):
  Meets (Builtin.«tuple.__mul__» ⟨[.ref l,.int 1 t],[]⟩) (fun _ R s=>s.heap.get? l=some ⟨.type "tuple",dc,.seq its n,sl⟩/\R (.ok (.ret (.ref l))) s):=
 .of_wp fun prog w A R s h=>by obtain ⟨hp,g,d,tk,os⟩:=s;obtain ⟨hl,h⟩:=h;wp_walk;exact ⟨_,rfl,h⟩
noncomputable def yD:R2:=fun x y H Q=> ∃l j xs,x= .ref l/\y= .int j/\H l=some (.tup xs)/\xs≠[]/\1<=j/\j<=100000/\xs.length*j.toNat<=sizeLine/\(j=1->Q (.ref l) H)/\
 (j≠1-> ∀p,H p=none->Q (.ref p) (upd H p (.tup (List.replicate j.toNat xs).flatten)))
theorem yE:OpR X (binaryOp .Mult) yD:=by
 intro pins s σ H x y v u Q I rx ry h
 obtain ⟨l,j,xs,rfl,rfl,hH,ne,j1,jm,hz,q1,q2⟩:=h
 cases rx
 obtain ⟨t,rfl⟩:=ry
 obtain ⟨z,its,r,ob,e,c,⟨n,d⟩,_⟩:=(show az X.prog X.w H s.heap l (.tup xs) from I.hok l _ hH)
 have hl:=r.length
 obtain ⟨oc,od,oda,os⟩:=ob
 dsimp only at c d
 subst c
 subst d
 have ht:s.TypeIs (.ref l) "tuple":=⟨_,e,rfl⟩
 refine wpAny_binaryOp_repeat_ref (T:="tuple") (U:="int") (by decide) ht (fun s'=>typeIs_int s' j t) yy F.fills_int_mul F.slot_int_rmul yz F.slot_int_index.lookup
  (call_meets F.slot_int_rmul (typeIs_int s j t) F.entry_int_rmul (F.args_int_rmul_2 _ _) (yA j t l its.toArray n od os) ⟨e,rfl,ht,?_⟩)
 by_cases j0:j=1
 ·subst j0
  exact call_meets F.slot_tuple_mul ht F.entry_tuple_mul (F.args_tuple_mul_2 _ _) (yC t l its.toArray n od os) ⟨e,.ref l,H,I,rfl,q1 rfl⟩
 ·have ne':its.toArray.isEmpty=false:=by
   cases its with
   |nil=>exact absurd (List.eq_nil_of_length_eq_zero (by simpa using hl)) ne
   |cons _ _=>rfl
  refine call_meets F.slot_tuple_mul ht F.entry_tuple_mul (F.args_tuple_mul_2 _ _) (yB j t l its n od os (by lia) jm ne' (by rw [<-hl];exact hz)) ⟨e,?_⟩
  have rr:=Vals.rep r j.toNat
  refine ⟨.ref s.heap.objs.size,_,I.laid (t':=s.toks) (fun b o q=>Heap.get?_push_of_some _ q) (Nat.le_refl _) (show az X.prog X.w _ _ s.heap.objs.size (.tup (List.replicate j.toNat xs).flatten) from ⟨by rw [mF,Nat.mul_comm];exact hz,_,rr,_,Heap.get?_push_size _ rfl,rfl,⟨_,rfl⟩,rfl⟩),rfl,q2 j0 _ I.fresh⟩
noncomputable def e7:Dv->Dv->Option Dv
 | .tup ds,.int j=>if ds.isEmpty=false/\1<=j/\j<=100000/\ds.length*j.toNat<=lim/\imms ds=true then some (.tup (List.replicate j.toNat ds).flatten) else none
 |_,_=>none
theorem RepsF.rep {KF:PySem.W.Frag}{S:Addr->Prop}{H:Hp}{xs:List V}{ds:List Dv} (r:RepsF KF S H xs ds): ∀n:Nat,RepsF KF S H (List.replicate n xs).flatten (List.replicate n ds).flatten
 |0=> .nil
 |n+1=>by rw [List.replicate_succ,List.replicate_succ,List.flatten_cons,List.flatten_cons];exact r.append (RepsF.rep r n)
theorem oW (ha:PD X ms k1 a ma) (hb:PD X ms k2 b mb):PD X ms .imm (.BinOp a .Mult b pos) (eOp e7 ma mb):=by
 obtain ⟨ta,pa,qa⟩:=ha
 obtain ⟨tb,pb,qb⟩:=hb
 refine ⟨_,jE yE pa pb,fun δ σ H0 H Q d R hm hq=> ?_⟩
 obtain ⟨x,hx,e⟩:=Option.bind_eq_some_iff.mp hm
 obtain ⟨y,hy,e⟩:=Option.bind_eq_some_iff.mp e
 refine qa δ σ H0 H _ x R hx fun v H1 s1 g1=> ?_
 refine qb δ σ H0 H1 _ y (R.same s1) hy fun u H2 s2 g2=> ?_
 have g1:=(g1.same s2).bor
 have g2:=g2.bor
 have sh: ∃ds j,x= .tup ds/\y= .int j:=by
  cases x<;>first|(cases e;done)|(cases y<;>first|(cases e;done)|exact ⟨_,_,rfl,rfl⟩)
 obtain ⟨ds,j,rfl,rfl⟩:=sh
 simp only [e7] at e
 split at e
 ·next c=>
  cases e
  cases g2
  cases g1 with
  | @tup _ xs _ h q=>
   have ql:=q.length
   have q:=q.imm (S':=Imm) c.2.2.2.2
   refine ⟨_,j,_,rfl,rfl,h,fun z=> ?_,c.2.1,c.2.2.1,?_,fun j1=> ?_,fun j1 p hp=> ?_⟩
   ·subst z
    cases q
    exact absurd c.1 (by simp)
   ·rw [ql];exact Nat.le_of_lt (dJ c.2.2.2.1)
   ·subst j1
    refine hq _ H2 (s1.tr s2) (RepF.tup h ?_)
    simpa using q
   ·have s:=Same.new (o:= .tup (List.replicate j.toNat xs).flatten) hp
    exact hq _ _ (s1.tr (s2.tr s)) (RepF.tup ay ((q.rep j.toNat).same s))
 ·cases e
end
end L2
set_option maxHeartbeats 4000000
namespace L2
open PySem PySem.Spec PyProof.Rows
theorem yF {p:List Int×Int}{h:List (List Int×Int)}:dNe (.lst ((p::h).map ent)) (.lst [])=some (.bl true):=by
 have a:eqOk (.lst ((p::h).map ent)) (.lst [])=true:=by
  unfold eqOk
  rw [oP (p::h),decide_eq_true (Nat.le_trans (Nat.min_le_left _ _) (Nat.le_trans (oQ (p::h)) (by decide)))]
  rfl
 unfold dNe
 rw [if_pos a]
 rfl
theorem e8 (p:List Int×Int) (h:List (List Int×Int)) (r:List Int):getL (p::h) r=if p.1=r then some p.2 else getL h r:=by
 unfold getL
 rw [List.find?_cons]
 by_cases e:p.1=r
 ·rw [decide_eq_true e,if_pos e];rfl
 ·rw [decide_eq_false e,if_neg e]
theorem cU: ∀{h:List (List Int×Int)}{r:List Int},r∉h.map (·.1)->getL h r=none
 |[],_,_=>rfl
 |p::h,r,n=>by
  rw [List.map_cons,List.mem_cons] at n
  rw [e8,if_neg fun e=>n (.inl e.symm)]
  exact cU fun z=>n (.inr z)
noncomputable def hOf (kws:List (List Int×Int)):List (List Int×Int):=(srt (kws.map (·.1))).map fun r=>(r,wOf kws r)
theorem kM (kws:List (List Int×Int)):(hOf kws).length=kws.length:=by unfold hOf;rw [List.length_map,iZ,List.length_map]
theorem oX {kws:List (List Int×Int)}{p:List Int×Int} (h:p∈hOf kws):p∈kws:=by
 unfold hOf at h
 obtain ⟨r,h1,rfl⟩:=List.mem_map.mp h
 obtain ⟨w,e,m⟩:=et ((cp _).mem_iff.mp h1)
 unfold wOf
 rw [e]
 exact m
end L2
set_option maxHeartbeats 4000000
namespace L2
open PySem PySem.Spec PyProof.Rows
section
variable {X:Cx}{pins:List (Addr×Obj)}{σ:St}{H:Hp}{s:Shared}{h':Heap}
end
end L2
set_option maxHeartbeats 4000000
namespace L2
open PySem PySem.Spec PyProof.Rows
section
variable {X:Cx}
variable {ms:List Nat}{rk:Kd}
end
end L2
set_option maxHeartbeats 4000000
namespace L2
open PySem PySem.Spec PyProof.Rows
noncomputable def sUnp (m:EM) (g:Dv->Dt->Option Dt):SM:=fun δ=>(m δ).bind fun d=>(g d δ).map .nx
section
variable {X:Cx}{ms:List Nat}{k k1 rk:Kd}{e tg:Expr}{m:EM}{g:Dv->Dt->Option Dt}{pos:Pos}
end
end L2
set_option maxHeartbeats 4000000
namespace HT
open PySem PyProof.Rows
section
open PySem.SeqAt
open PySem.AutoSeq1 (wpAny_loadPart')
open PySem.MeetsSeq PySem.MeetsSeq2 PySem.MeetsSeq3
end
section
variable {prog:Program}{w:World}{A:Around}{E:Value->Shared->Prop}{s:Shared}
end
end HT
namespace L2
open PySem PySem.Spec PyProof.Rows
variable {KF:PySem.W.Frag}{W W':Addr->Prop}
section
variable {X:Cx}
end
section
variable {X:Cx}{ms:List Nat}{k k1 k2 k3 rk:Kd}{e a b c:Expr}{m ma mb mc:EM}{pos:Pos}
noncomputable def tOf2 (f:Dv->Dv->Option Dv) (ma mb:EM):Dt->Option Bool:=tOf (eOp f ma mb)
end
end L2
set_option maxHeartbeats 4000000
namespace L2
open PySem PySem.Spec PyProof.Rows
variable {KF:PySem.W.Frag}{W W':Addr->Prop}
section
variable {X:Cx}{ms:List Nat}{rk k:Kd}{e:Expr}{m:EM}{pos pos':Pos}{st:Stmt}{rest a b:List Stmt}{ma mb:SM}
end
section
variable {X:Cx}
end
section
variable {X:Cx}{ms:List Nat}{k k1 k2 k3 rk:Kd}{e a b c:Expr}{m ma mb mc:EM}{pos:Pos}
theorem RepsF.pick {S:Addr->Prop}{H:Hp}{xs:List V}{ds:List Dv} (r:RepsF KF S H xs ds): ∀(l:List Nat),RepsF KF S H (l.filterMap fun i=>xs[i]?) (l.filterMap fun i=>ds[i]?)
 |[]=> .nil
 |i::l=>by
  rw [List.filterMap_cons,List.filterMap_cons]
  cases hx:xs[i]? with
  |none=>
   have:ds[i]?=none:=by rw [List.getElem?_eq_none_iff] at hx|-;rw [<-r.length];exact hx
   rw [this]
   exact r.pick l
  |some x=>
   obtain ⟨d,hd,rd⟩:=r.get' hx
   rw [hd]
   exact .cons rd (r.pick l)
theorem Vals.pick {xs:List V}{us:List Value} (r:Vals xs us): ∀(l:List Nat),Vals (l.filterMap fun i=>xs[i]?) (l.filterMap fun i=>us[i]?)
 |[]=> .nil
 |i::l=>by
  rw [List.filterMap_cons,List.filterMap_cons]
  cases hx:xs[i]? with
  |none=>
   have:us[i]?=none:=by rw [List.getElem?_eq_none_iff] at hx|-;rw [<-r.length];exact hx
   rw [this]
   exact Vals.pick r l
  |some x=>
   obtain ⟨d,hd,rd⟩:=r.get hx
   rw [hd]
   exact .cons rd (Vals.pick r l)
end
end L2
set_option maxHeartbeats 4000000
namespace L2
open PySem PySem.Spec PyProof.Rows
noncomputable abbrev Hl:=List (List Int×Int)
noncomputable def tot:Hl->List Int->Int
 |[],_=>0
 |p::ps,r=>(if p.1=r then p.2 else 0)+tot ps r
theorem fb (a b:Hl) (r:List Int):tot (a++b) r=tot a r+tot b r:=by
 induction a with
 |nil=>simp [tot]
 |cons p a ih=>rw [List.cons_append,tot,tot,ih];lia
theorem bh {ps:Hl}{r:List Int} (h:r∉ps.map (·.1)):tot ps r=0:=by
 induction ps with
 |nil=>rfl
 |cons p ps ih=>
  rw [List.map_cons,List.mem_cons,not_or] at h
  rw [tot,if_neg (fun e=>h.1 e.symm),ih h.2]
  rfl
theorem kO {ps:Hl}{r:List Int} (h:tot ps r≠0):r∈ps.map (·.1):=Classical.byContradiction fun n=>h (bh n)
theorem bX {ps:Hl} (nd:(ps.map (·.1)).Nodup) {r:List Int}{w:Int} (h:(r,w)∈ps):tot ps r=w:=by
 induction ps with
 |nil=>cases h
 |cons p ps ih=>
  rw [List.map_cons,List.nodup_cons] at nd
  rw [tot]
  rcases List.mem_cons.mp h with e|h'
  ·subst e
   rw [if_pos rfl,bh nd.1]
   exact Int.add_zero w
  ·have hm:r∈ps.map (·.1):=List.mem_map.mpr ⟨(r,w),h',rfl⟩
   rw [if_neg (fun e=>nd.1 (by rw [e];exact hm)),ih nd.2 h']
   exact Int.zero_add w
theorem dW {ps:Hl} (nd:(ps.map (·.1)).Nodup) (r:List Int):wOf ps r=tot ps r:=by
 unfold wOf
 by_cases h:r∈ps.map (·.1)
 ·obtain ⟨w,e,m⟩:=et h
  rw [e,bX nd m]
  rfl
 ·rw [cU h,bh h]
  rfl
theorem oY (kws:Hl) (r q:List Int) (w:Int):getL (putL kws r w) q=if r=q then some w else getL kws q:=by
 unfold putL
 split
 ·next h=>
  have key: ∀l:Hl,getL (l.map fun p=>if p.1=r then (p.1,w) else p) q=if r=q then (getL l q).map fun _=>w else getL l q:=by
   intro l
   induction l with
   |nil=>simp [getL]
   |cons p l ih=>
    rw [List.map_cons,e8,e8,ih]
    by_cases e:p.1=r
    ·rw [if_pos e]
     by_cases e2:r=q
     ·rw [if_pos (by rw [e,e2]),if_pos e2,if_pos (by rw [e,e2])];rfl
     ·rw [if_neg (fun z=>e2 (e▸z)),if_neg e2,if_neg e2,if_neg (fun z=>e2 (e▸z))]
    ·rw [if_neg e]
     by_cases e2:r=q
     ·rw [if_neg (fun z=>e (by rw [z,e2])),if_pos e2,if_pos e2,if_neg (fun z=>e (by rw [z,e2]))]
     ·by_cases e3:p.1=q
      ·rw [if_pos e3,if_neg e2,if_pos e3]
      ·rw [if_neg e3,if_neg e2,if_neg e2,if_neg e3]
  rw [key]
  split
  ·next e=>
   subst e
   obtain ⟨p,hp,e⟩:=List.any_eq_true.mp h
   have hm:r∈kws.map (·.1):=List.mem_map.mpr ⟨p,hp,of_decide_eq_true e⟩
   obtain ⟨v,hv,_⟩:=et hm
   rw [hv];rfl
  ·rfl
 ·next h=>
  have hn:r∉kws.map (·.1):=fun z=>by
   obtain ⟨p,hp,e⟩:=List.mem_map.mp z
   exact h (List.any_eq_true.mpr ⟨p,hp,decide_eq_true e⟩)
  have key: ∀l:Hl,getL (l++[(r,w)]) q=(getL l q).or (if r=q then some w else none):=by
   intro l
   induction l with
   |nil=>rw [List.nil_append,e8];simp [getL]
   |cons p l ih=>
    rw [List.cons_append,e8,e8,ih]
    split<;>simp
  rw [key]
  by_cases e:r=q
  ·subst e
   rw [cU hn,if_pos rfl];rfl
  ·rw [if_neg e,if_neg e]
   cases getL kws q<;>rfl
theorem i4 (kws:Hl) (r q:List Int) (w:Int):wOf (putL kws r w) q=if r=q then w else wOf kws q:=by
 unfold wOf
 rw [oY]
 split<;>rfl
theorem oZ {kws:Hl}{r q:List Int}{w:Int}:q∈(putL kws r w).map (·.1)↔q=r \/q∈kws.map (·.1):=by
 constructor
 ·intro h
  obtain ⟨p,hp,rfl⟩:=List.mem_map.mp h
  rcases putL_mem hp with h|rfl
  ·exact .inr (List.mem_map.mpr ⟨p,h,rfl⟩)
  ·exact .inl rfl
 ·intro h
  refine Classical.byContradiction fun n=> ?_
  have e:=cU n
  rw [oY] at e
  rcases h with rfl|h
  ·rw [if_pos rfl] at e;cases e
  ·by_cases c:r=q
   ·rw [if_pos c] at e;cases e
   ·rw [if_neg c] at e
    obtain ⟨v,hv,_⟩:=et h
    rw [hv] at e;cases e
noncomputable def addL (kws:Hl) (p:List Int×Int):Hl:=putL kws p.1 (wOf kws p.1+p.2)
theorem yG (ps:Hl): ∀(kws:Hl) (r:List Int),wOf (ps.foldl addL kws) r=wOf kws r+tot ps r:=by
 induction ps with
 |nil=>intro kws r;simp [tot]
 |cons p ps ih=>
  intro kws r
  rw [List.foldl_cons,ih,tot]
  unfold addL
  rw [i4]
  split
  ·next e=>subst e;lia
  ·lia
theorem yH (ps:Hl): ∀(kws:Hl),(kws.map (·.1)).Nodup->((ps.foldl addL kws).map (·.1)).Nodup:=by
 induction ps with
 |nil=>intro kws h;exact h
 |cons p ps ih=>intro kws h;rw [List.foldl_cons];exact ih _ (iY h)
theorem yI (ps:Hl): ∀(kws:Hl) (r:List Int),r∈(ps.foldl addL kws).map (·.1)↔r∈kws.map (·.1) \/r∈ps.map (·.1):=by
 induction ps with
 |nil=>intro kws r;simp
 |cons p ps ih=>
  intro kws r
  rw [List.foldl_cons,ih]
  unfold addL
  rw [oZ,List.map_cons,List.mem_cons]
  constructor
  ·rintro ((h|h)|h)
   ·exact .inr (.inl h)
   ·exact .inl h
   ·exact .inr (.inr h)
  ·rintro (h|h|h)
   ·exact .inl (.inr h)
   ·exact .inl (.inl h)
   ·exact .inr h
theorem o3 (ps:Hl): ∀(kws:Hl),(ps.foldl addL kws).length<=kws.length+ps.length:=by
 induction ps with
 |nil=>intro kws;exact Nat.le_refl _
 |cons p ps ih=>
  intro kws
  rw [List.foldl_cons,List.length_cons]
  have:=ih (addL kws p)
  have:=gX kws p.1 (wOf kws p.1+p.2)
  unfold addL at*
  lia
noncomputable def bi (ps:Hl):Hl:=ps.foldl addL []
theorem yJ (ps:Hl) (r:List Int):wOf (bi ps) r=tot ps r:=by
 unfold bi
 rw [yG]
 exact Int.zero_add _
theorem o4 (ps:Hl):((bi ps).map (·.1)).Nodup:=yH ps [] List.nodup_nil
theorem yK (ps:Hl) (r:List Int):r∈(bi ps).map (·.1)↔r∈ps.map (·.1):=by
 unfold bi
 rw [yI]
 simp
theorem o5 (ps:Hl):(bi ps).length<=ps.length:=by
 have:=o3 ps []
 rw [List.length_nil,Nat.zero_add] at this
 exact this
noncomputable def nzOf (kws:Hl):Hl:=(hOf kws).filter fun p=> !decide (p.2=0)
noncomputable def heapL (ps:Hl):Hl:=nzOf (bi ps)
noncomputable def Rise (h:Hl):Prop:=h.Pairwise fun p q=>HT.aD p.1 q.1=true
theorem Rise.nd {h:Hl} (r:Rise h):(h.map (·.1)).Nodup:=by
 refine List.Pairwise.map _ (fun a b e=> ?_) r
 intro z
 have e':HT.aD a.1 b.1=true:=e
 rw [z,DhSort.lex_irr] at e'
 cases e'
theorem Rise.filter {h:Hl} (r:Rise h) (f:List Int×Int->Bool):Rise (h.filter f):=List.Pairwise.filter f r
theorem o6 {kws:Hl} (nd:(kws.map (·.1)).Nodup):Rise (hOf kws):=by
 have h1:=kD (kws.map (·.1))
 have h2:(srt (kws.map (·.1))).Nodup:=(cp _).nodup_iff.mpr nd
 unfold Rise hOf
 rw [List.pairwise_map]
 refine (h1.and h2).imp fun {a b} h=> ?_
 obtain ⟨h1,h2⟩:=h
 show HT.aD a b=true
 cases e:HT.aD a b with
 |true=>rfl
 |false=>exact absurd (DhSort.ku a b e h1) h2
theorem Rise.ext: ∀{a b:Hl},Rise a->Rise b->(∀p,p∈a↔p∈b)->a=b
 |[],[],_,_,_=>rfl
 |[],y::b,_,_,h=>absurd ((h y).mpr (List.mem_cons_self ..)) (by simp)
 |x::a,[],_,_,h=>absurd ((h x).mp (List.mem_cons_self ..)) (by simp)
 |x::a,y::b,ra,rb,h=>by
  obtain ⟨ra1,ra2⟩:=List.pairwise_cons.mp ra
  obtain ⟨rb1,rb2⟩:=List.pairwise_cons.mp rb
  have irr: ∀{p:List Int×Int},HT.aD p.1 p.1=true->False:=fun {p} z=>by rw [DhSort.lex_irr] at z;cases z
  have e:x=y:=by
   rcases List.mem_cons.mp ((h x).mp (List.mem_cons_self ..)) with e|hx
   ·exact e
   rcases List.mem_cons.mp ((h y).mpr (List.mem_cons_self ..)) with e|hy
   ·exact e.symm
   exact (irr (DhSort.iR _ _ _ (ra1 y hy) (rb1 x hx))).elim
  subst e
  congr 1
  refine Rise.ext ra2 rb2 fun p=>⟨fun hp=> ?_,fun hp=> ?_⟩
  ·rcases List.mem_cons.mp ((h p).mp (List.mem_cons_of_mem _ hp)) with e|hx
   ·subst e;exact (irr (ra1 _ hp)).elim
   ·exact hx
  ·rcases List.mem_cons.mp ((h p).mpr (List.mem_cons_of_mem _ hp)) with e|hx
   ·subst e;exact (irr (rb1 _ hp)).elim
   ·exact hx
theorem i5 {kws:Hl} (nd:(kws.map (·.1)).Nodup) (p:List Int×Int):p∈nzOf kws↔p.2=wOf kws p.1/\p.2≠0:=by
 unfold nzOf hOf
 rw [List.mem_filter]
 constructor
 ·rintro ⟨h,h0⟩
  obtain ⟨r,hr,rfl⟩:=List.mem_map.mp h
  exact ⟨rfl,by simpa using h0⟩
 ·rintro ⟨h,h0⟩
  refine ⟨List.mem_map.mpr ⟨p.1,?_,by rw [<-h]⟩,by simpa using h0⟩
  refine (cp _).mem_iff.mpr (Classical.byContradiction fun n=>h0 ?_)
  rw [h]
  unfold wOf
  rw [cU n]
  rfl
theorem i6 (ps:Hl) (p:List Int×Int):p∈heapL ps↔p.2=tot ps p.1/\p.2≠0:=by
 unfold heapL
 rw [i5 (o4 ps),yJ]
theorem i7 {kws:Hl} (nd:(kws.map (·.1)).Nodup):Rise (nzOf kws):=(o6 nd).filter _
theorem kP (ps:Hl):Rise (heapL ps):=i7 (o4 ps)
theorem o7 (ps:Hl):(heapL ps).length<=ps.length:=by
 unfold heapL nzOf
 exact Nat.le_trans (List.length_filter_le ..) (by rw [kM];exact o5 ps)
theorem o8 (ps:Hl) (r:List Int):tot (heapL ps) r=tot ps r:=by
 by_cases h:tot ps r=0
 ·rw [h]
  refine bh fun z=> ?_
  obtain ⟨p,hp,rfl⟩:=List.mem_map.mp z
  have:=(i6 ps p).mp hp
  exact this.2 (this.1.trans h)
 ·exact bX (kP ps).nd ((i6 ps (r,tot ps r)).mpr ⟨rfl,h⟩)
structure IsH (h:Hl):Prop where
 rise:Rise h
 nz: ∀p∈h,p.2≠0
theorem yL (ps:Hl):IsH (heapL ps):=⟨kP ps,fun p hp=>((i6 ps p).mp hp).2⟩
theorem yM {kws:Hl} (nd:(kws.map (·.1)).Nodup):IsH (nzOf kws):=⟨i7 nd,fun p hp=>((i5 nd p).mp hp).2⟩
theorem IsH.mem {h:Hl} (i:IsH h) (p:List Int×Int):p∈h↔p.2=tot h p.1/\p.2≠0:=by
 constructor
 ·exact fun hp=>⟨(bX i.rise.nd hp).symm,i.nz p hp⟩
 ·rintro ⟨e,n⟩
  have hm:p.1∈h.map (·.1):=kO (by rw [<-e];exact n)
  obtain ⟨q,hq,eq⟩:=List.mem_map.mp hm
  have e2:=bX i.rise.nd hq
  rw [eq,<-e] at e2
  rwa [show p=q from Prod.ext eq.symm e2]
theorem IsH.ext {a b:Hl} (ia:IsH a) (ib:IsH b) (h: ∀r,tot a r=tot b r):a=b:=
 Rise.ext ia.rise ib.rise fun p=>by rw [ia.mem,ib.mem,h]
theorem o9 {ps:Hl}{p:List Int×Int} (h:p∈heapL ps):p.1∈ps.map (·.1):=by
 have:=(i6 ps p).mp h
 exact kO (by rw [<-this.1];exact this.2)
noncomputable def l_hp:SM:=
 (sPut 1 (eVar 2) (eOp dAdd (dS (eVar 1) (eVar 2) (eC (.int 0))) (eVar 3)))
noncomputable def q_hp:Dt->Option Bool:=
 (tOf (eOp dNe (eOp dGet (eVar 1) (eVar 0)) (eC (.int 0))))
noncomputable def c_hp:EM:=
 (eTup (ad (eVar 0) (ad (eImm (eOp dGet (eVar 1) (eVar 0))) aNil)))
noncomputable def b_hp:SM:=
 (sSeq (sSet 1 (eC (.dic [])))
  (sSeq (sFor (iL (eVar 0)) (gT 2 (gC (gN 2) (gC (gN 3) gZ))) l_hp)
  (sRet (ba [none,some 1] (iL (ah cI (ad (eVar 1) aNil))) (gN 0) q_hp c_hp))))
noncomputable def M_hp:List Dv->Option Dv:=aI 4 1 b_hp
theorem m_hp (ps:Hl) (hl:ps.length<=10000) (ne: ∀p∈ps,p.1≠[]):M_hp [.lst (ps.map ent)]=some (.lst ((heapL ps).map ent)):=by
 obtain ⟨δ',e,v2,v3,rfl⟩:=bV (g:=gT 2 (gC (gN 2) (gC (gN 3) gZ))) (body:=l_hp) (ds:=ps.map ent) (δ:=[some (.lst (ps.map ent)),some (.dic []),none,none])
  (fun i δ=> ∃v2 v3:Option Dv,δ=[some (.lst (ps.map ent)),some (.dic (dct ((ps.take i).foldl addL []))),v2,v3]) ⟨none,none,rfl⟩ (by
  rintro i d δ hd ⟨v2,v3,rfl⟩
  rw [List.getElem?_map] at hd
  obtain ⟨p,hp,rfl⟩:=Option.map_eq_some_iff.mp hd
  have hi:=(List.getElem?_eq_some_iff.mp hp).1
  have tk:(ps.take (i+1)).foldl addL []=addL ((ps.take i).foldl addL []) p:=by
   rw [List.take_add_one,hp,List.foldl_append]
   rfl
  have hkl:((ps.take i).foldl addL []).length<=i:=by
   have:=o3 (ps.take i) []
   rw [List.length_take,List.length_nil] at this
   lia
  obtain ⟨r,w⟩:=p
  generalize hk:(ps.take i).foldl addL []=kws at tk hkl
  have hl2:(dct kws).length<lim:=by rw [e6,cD];lia
  refine ⟨_,_,rfl,?_,⟨some (.tup (r.map .int)),some (.int w),rfl⟩⟩
  rw [tk]
  unfold addL
  dsimp only
  simp_arith [l_hp,ent,dU,i3,dB (bW r) hl2 cE,ej])
 rw [List.length_map,List.take_length] at e
 have e':loopM (gT 2 (gC (gN 2) (gC (gN 3) gZ))) l_hp (ps.map ent) [some (.lst (ps.map ent)),some (.dic []),none,none]=some (.nx [some (.lst (ps.map ent)),some (.dic (dct (bi ps))),v2,v3]):=e
 have hs:=kK (kws:=bi ps) (fun p hp=>by
  obtain ⟨q,hq,e⟩:=List.mem_map.mp ((yK ps p.1).mp (List.mem_map.mpr ⟨p,hp,rfl⟩))
  rw [<-e]
  exact ne q hq)
 have kl:(srt ((bi ps).map (·.1))).length<=100000:=by rw [iZ,List.length_map];have:=o5 ps;lia
 have pl:ps.length<=100000:=by lia
 have hc:=i0 (g:=gN 0) (c:=q_hp) (el:=c_hp) (δ:=[none,some (.dic (dct (bi ps)))]) aJ (fun r=>ent (r,wOf (bi ps) r)) (fun r=> !decide (wOf (bi ps) r=0)) (srt ((bi ps).map (·.1))) (fun r hr=>by
  have mem:r∈(bi ps).map (·.1):=(cp _).mem_iff.mp hr
  by_cases h0:wOf (bi ps) r=0
  ·simp_arith [c_hp,q_hp,dC mem,gR,h0,decide_true,Bool.false_eq_true,if_false]
  ·simp_arith [c_hp,q_hp,dC mem,gR,decide_eq_false h0,if_true]
   rfl)
 have fin:((srt ((bi ps).map (·.1))).filter fun r=> !decide (wOf (bi ps) r=0)).map (fun r=>ent (r,wOf (bi ps) r))=(heapL ps).map ent:=by
  unfold heapL nzOf hOf
  rw [List.filter_map,List.map_map]
  rfl
 rw [fin] at hc
 simp_arith [M_hp,b_hp,pl,e',hs,kl,hc]
end L2
set_option maxHeartbeats 4000000
namespace DhRev
open PySem PySem.Calls PyProof.Rows PySem.W
section
variable {prog:Program}{w:World}{A:Around}{E:Value->Shared->Prop}{s:Shared}{r:Addr}
end
end DhRev
namespace L2
open PySem PySem.Spec PyProof.Rows
variable {KF:PySem.W.Frag}{W W':Addr->Prop}
section
variable {X:Cx}{ms:List Nat}{k k1 k2 k3 rk:Kd}{e a b c:Expr}{m ma mb mc:EM}{pos:Pos}{te:TE}
end
end L2
set_option maxHeartbeats 4000000
namespace L2
open PySem PySem.Spec PyProof.Rows
variable {KF:PySem.W.Frag}{W W':Addr->Prop}
theorem aU.length {H:Hp}: ∀{vs:List V}{ds:List Dv}{F:List Addr},aU KF H vs ds F->vs.length=ds.length
 |_,_,_,.nil=>rfl
 |_,_,_,.cons _ r=>congrArg (· +1) (aU.length r)
section
variable {X:Cx}{ms:List Nat}{k k' rk:Kd}{e a b:Expr}{m ma mb:EM}{pos pos':Pos}{es:List Expr}{ml:Dt->Option (List Dv)}
theorem Tree.ref {H:Hp}{v:V}{d:Dv}{F:List Addr} (t:Tree KF H v d F) (h:(∃ds,d= .lst ds) \/ ∃ds,d= .dic ds): ∃a,v= .ref a:=by
 cases t with
 |imm r=>
  rcases h with ⟨ds,rfl⟩|⟨ds,rfl⟩
  ·cases r with|lst s _ _=>exact s.elim
  ·cases r with|dic s _ _=>exact s.elim
 |lst _ _=>exact ⟨_,rfl⟩
 |dic _ _=>exact ⟨_,rfl⟩
 |dik _ _=>exact ⟨_,rfl⟩
 |ins _ _=>exact ⟨_,rfl⟩
noncomputable def pf (i:Nat) (m:EM):SM:=fun δ=>(m δ).bind fun d=>match d with
 | .lst _=>some (.nx (δ.set i (some d)))
 | .dic _=>some (.nx (δ.set i (some d)))
 |_=>none
theorem Rel.deep {σ:St}{H0 H:Hp}{δ:Dt}{i:Nat}{d:Dv}{Φ:Nat->List Addr} (f:Foot KF ms W H0 δ σ H Φ) (hi:i+1000∈ms) (hi':i∉ms) (hd:δ[i]?=some (some d)): ∃a,σ[i]?=some (some (.ref a))/\Tree KF H (.ref a) d (Φ i):=by
 obtain ⟨a,ha,o⟩:=f.at_ i d (eT hi) hd
 rcases o with ⟨n,_⟩|⟨_,_,t⟩|⟨_,n,_⟩
 ·exact absurd n hi'
 ·exact ⟨a,ha,t⟩
 ·exact absurd hi n
end
theorem aU.get {H:Hp}: ∀{xs:List V}{ds:List Dv}{F:List Addr}{j:Nat}{d:Dv},aU KF H xs ds F->ds[j]?=some d-> ∃v,xs[j]?=some v
 |_,_,_,_,_,.nil,h=>by simp at h
 |_,_,_,0,_,.cons t r,h=>⟨_,rfl⟩
 |_,_,_,j+1,_,.cons t r,h=>by
  obtain ⟨v,hv⟩:=aU.get (j:=j) r (by simpa using h)
  exact ⟨v,by simpa using hv⟩
section
variable {X:Cx}{ms:List Nat}{k k2 rk:Kd}{ix:Expr}{m mi:EM}{pos:Pos}{i:Nat}{x:Str}{np apos cpos ipos:Pos}
noncomputable def i8 (i:Nat) (j:Option Dv) (f:List Dv->Option (List Dv)):SM:=fun δ=>j.bind fun y=>(eVar i δ).bind fun z=>match z,y with
 | .lst ds,.int q=>(ixN ds.length q).bind fun j=>match ds[j]? with
  |some (.lst es)=>(f es).map fun es'=> .nx (δ.set i (some (.lst (ds.set j (.lst es')))))
  |_=>none
 |_,_=>none
noncomputable def yN (i:Nat) (mi:EM):SM:=fun δ=>i8 i (mi δ) (fun _=>some []) δ
noncomputable def pj (i:Nat) (mi m:EM):SM:=fun δ=>i8 i (mi δ) (fun es=>(m δ).bind fun d=>if es.length<lim/\d.imm=true then some (es++[d]) else none) δ
end
end L2
set_option maxHeartbeats 4000000
namespace PySem
section
variable {prog:Program}{w:World}{K:Type} [DecidableEq K] {knd:HeapKind prog w K}{A:Around}{E:Value->Shared->Prop}{s:Shared}{d a:Addr}{k:K}{xs:List (K×Addr×Value)}
end
end PySem
namespace L2
open PySem PySem.Spec PyProof.Rows
variable {KF:PySem.W.Frag}{W W':Addr->Prop}
section
variable {X:Cx}{pins:List (Addr×Obj)}{σ:St}{H:Hp}{s:Shared}{a b:Addr}{v:V}{r:Value}{A:Around}{E:Value->Shared->Prop}
end
section
variable {X:Cx}{o e f:Expr}{td ty tz:TE}{apos cpos:Pos}
end
theorem ak.length {H:Hp}: ∀{vs:List (List Key×V)}{ds:List (List Key×Dv)}{F:List Addr},ak KF H vs ds F->vs.length=ds.length
 |_,_,_,.nil=>rfl
 |_,_,_,.cons _ r=>congrArg (· +1) (ak.length r)
theorem ak.snoc {H:Hp}{k:List Key}{v:V}{d:Dv}{G:List Addr} (t:Tree KF H v d G): ∀{vs:List (List Key×V)}{ds:List (List Key×Dv)}{F:List Addr},ak KF H vs ds F->ak KF H (vs++[(k,v)]) (ds++[(k,d)]) (F++G)
 |_,_,_,.nil=>by
  have:=ak.cons (k:=k) t (ak.nil (KF:=KF) (H:=H))
  rw [List.append_nil] at this
  exact this
 |_,_,_,.cons t' r=>by
  rw [List.append_assoc]
  exact .cons t' (ak.snoc t r)
section
variable {X:Cx}{ms:List Nat}{k1 k2 rk:Kd}{ke e:Expr}{mk mv:EM}{pos:Pos}{i:Nat}{x:Str}{np apos1 cpos1 lpos apos cpos:Pos}
end
end L2
set_option maxHeartbeats 4000000
namespace L2
open PySem PySem.Spec PyProof.Rows
noncomputable def unpB (o:Option Dv) (g:Dv->Dt->Option Dt) (δ:Dt):Option Fl:=match o with
 |some d=>nxB (g d δ)
 |none=>none
where nxB:Option Dt->Option Fl
 |some δ=>some (.nx δ)
 |none=>none
theorem yO {m:EM}{g:Dv->Dt->Option Dt}{δ:Dt}:sUnp m g δ=unpB (m δ) g δ:=by
 unfold sUnp unpB
 cases m δ with
 |none=>rfl
 |some d=>
  show (g d δ).map Fl.nx=unpB.nxB (g d δ)
  cases g d δ<;>rfl
theorem yP {d:Dv}{g:Dv->Dt->Option Dt}{δ:Dt}:unpB (some d) g δ=unpB.nxB (g d δ):=rfl
theorem yQ {δ:Dt}:unpB.nxB (some δ)=some (.nx δ):=rfl
noncomputable def ja (i:Nat) (o:Option Dv) (δ:Dt):Option Fl:=match o with
 |some (.lst ds)=>some (.nx (δ.set i (some (.lst ds))))
 |some (.dic ds)=>some (.nx (δ.set i (some (.dic ds))))
 |_=>none
theorem yR {i:Nat}{m:EM}{δ:Dt}:pf i m δ=ja i (m δ) δ:=by
 unfold pf ja
 cases m δ with
 |none=>rfl
 |some d=>cases d<;>rfl
theorem yS {i:Nat}{ds:List Dv}{δ:Dt}:ja i (some (.lst ds)) δ=some (.nx (δ.set i (some (.lst ds)))):=rfl
theorem yT {i:Nat}{ds:List (List Key×Dv)}{δ:Dt}:ja i (some (.dic ds)) δ=some (.nx (δ.set i (some (.dic ds)))):=rfl
noncomputable def subB (i:Nat) (o z:Option Dv) (f:List Dv->Option (List Dv)) (δ:Dt):Option Fl:=match o,z with
 |some (.int q),some (.lst ds)=>(ixN ds.length q).bind fun j=>match ds[j]? with
  |some (.lst es)=>(f es).map fun es'=> .nx (δ.set i (some (.lst (ds.set j (.lst es')))))
  |_=>none
 |_,_=>none
theorem pp {i:Nat}{o:Option Dv}{f:List Dv->Option (List Dv)}{δ:Dt}:i8 i o f δ=subB i o (eVar i δ) f δ:=by
 unfold i8 subB
 cases o with
 |none=>rfl
 |some y=>
  show (eVar i δ).bind _=_
  cases eVar i δ with
  |none=>cases y<;>rfl
  |some z=>cases z<;>cases y<;>rfl
theorem yU {i:Nat}{mi:EM}{δ:Dt}:yN i mi δ=subB i (mi δ) (eVar i δ) (fun _=>some []) δ:=pp
noncomputable def appE (o:Option Dv) (es:List Dv):Option (List Dv):=match o with
 |some d=>if es.length<lim/\d.imm=true then some (es++[d]) else none
 |none=>none
theorem yV {i:Nat}{mi m:EM}{δ:Dt}:pj i mi m δ=subB i (mi δ) (eVar i δ) (appE (m δ)) δ:=by
 unfold pj
 rw [pp]
 congr 1
 funext es
 cases m δ<;>rfl
theorem yW {i:Nat}{es:List Dv}{r:List Dv}{f:List Dv->Option (List Dv)}{δ:Dt}:subB i (some (.int 0)) (some (.lst (.lst es::r))) f δ=(f es).map fun es'=> .nx (δ.set i (some (.lst (.lst es'::r)))):=by
 unfold subB
 have:ixN ((.lst es::r:List Dv).length) 0=some 0:=by
  unfold ixN
  rw [if_pos (by decide),if_pos (by simp only [List.length_cons];lia)]
  rfl
 dsimp only
 rw [this]
 rfl
theorem yX {i:Nat}{a:Dv}{es:List Dv}{r:List Dv}{f:List Dv->Option (List Dv)}{δ:Dt}:subB i (some (.int 1)) (some (.lst (a:: .lst es::r))) f δ=(f es).map fun es'=> .nx (δ.set i (some (.lst (a:: .lst es'::r)))):=by
 unfold subB
 have:ixN ((a:: .lst es::r).length) 1=some 1:=by
  unfold ixN
  rw [if_pos (by decide),if_pos (by simp only [List.length_cons];lia)]
  rfl
 dsimp only
 rw [this]
 rfl
theorem yY {d:Dv}{es:List Dv} (h:es.length<lim) (h':d.imm=true):appE (some d) es=some (es++[d]):=by show (if _ then _ else _)=_;rw [if_pos ⟨h,h'⟩]
theorem yZ {f:Dv->Dv->Option Dv}{a b:EM}{δ:Dt}:tOf2 f a b δ=tOf (eOp f a b) δ:=rfl
theorem y3 {z wd:Int} (w0:1<=wd) (w1:wd<=1000):e7 (.tup [.int z]) (.int wd)=some (.tup ((List.replicate wd.toNat z).map .int)):=by
 show (if _ then _ else _)=_
 rw [if_pos ⟨rfl,w0,by lia,by show 1*wd.toNat<=100000;lia,rfl⟩]
 congr 2
 generalize wd.toNat=n
 induction n with
 |zero=>rfl
 |succ n ih=>rw [List.replicate_succ,List.flatten_cons,ih,List.replicate_succ];rfl
theorem pq {a b:Hl} (h:a.length+b.length<=100000):dN (.lst (a.map ent)) (.lst (b.map ent))=some (.lst ((a++b).map ent)):=by
 rw [xh (by rw [List.length_map,List.length_map];exact h) (by rw [nZ,iX,iX];rfl),List.map_append]
noncomputable def negH (h:Hl):Hl:=h.map fun p=>(p.1,p.2* -1)
noncomputable def mulH (n:Int) (h:Hl):Hl:=if n=0 then [] else h.map fun p=>(p.1,p.2*n)
theorem y4 (n:Int) (h:Hl) (r:List Int):tot (h.map fun p=>(p.1,p.2*n)) r=tot h r*n:=by
 induction h with
 |nil=>simp [tot]
 |cons p h ih=>
  rw [List.map_cons,tot,tot,ih,Int.add_mul]
  split<;>simp
theorem kQ (h:Hl) (r:List Int):tot (negH h) r= -tot h r:=by
 unfold negH
 rw [y4]
 lia
theorem gY (h:Hl):(negH h).length=h.length:=List.length_map ..
theorem px {a b:Hl}{P:List Int->Prop} (ha: ∀p∈a,P p.1) (hb: ∀p∈b,P p.1): ∀p∈a++b,P p.1:=fun p hp=>(List.mem_append.mp hp).elim (ha p) (hb p)
theorem y7 {ps:Hl}{P:List Int->Prop} (h: ∀p∈ps,P p.1): ∀p∈heapL ps,P p.1:=fun p hp=>by
 obtain ⟨q,hq,e⟩:=List.mem_map.mp (o9 hp)
 rw [<-e]
 exact h q hq
theorem kR {h:Hl}{P:List Int->Prop} (hp: ∀p∈h,P p.1): ∀p∈negH h,P p.1:=fun p hp'=>by
 obtain ⟨q,hq,rfl⟩:=List.mem_map.mp hp'
 exact hp q hq
noncomputable def c_tm:EM:=(eTup (ad (eVar 0) (ad (eOp dMul (eVar 1) (eVar 2)) aNil)))
noncomputable def b_tm:SM:=
 (sSeq (sIf (tOf (eOp dEq (eVar 1) (eC (.int 0))))
   (sRet (be aNil))
   aR)
  (sRet (ba [none,none,some 1] (iL (eVar 0)) (gT 2 (gC (gN 0) (gC (gN 1) gZ))) tyes c_tm)))
noncomputable def M_tm:List Dv->Option Dv:=aI 2 2 b_tm
theorem m_tm (h:Hl) (n:Int) (hl:h.length<=10000) (ok: ∀p∈h,bU p.2 n=true):M_tm [.lst (h.map ent),.int n]=some (.lst ((mulH n h).map ent)):=by
 unfold mulH
 by_cases h0:n=0
 ·subst h0
  simp_arith [M_tm,b_tm,decide_true,if_true]
 ·have hc:=kL (g:=gT 2 (gC (gN 0) (gC (gN 1) gZ))) (c:=tyes) (el:=c_tm) (δ:=[none,none,some (.int n)]) ent (fun p=>ent (p.1,p.2*n)) h (fun p hp=>by
   simp_arith [c_tm,ent,cS (ok p hp)])
  have hl':h.length<=100000:=by lia
  rw [if_neg h0,List.map_map]
  simp_arith [M_tm,b_tm,decide_eq_false h0,hl',hc]
  rfl
theorem m_ng (h:Hl) (hl:h.length<=10000):M_tm [.lst (h.map ent),.int (-1)]=some (.lst ((negH h).map ent)):=by
 have:=m_tm h (-1) hl fun p _=>ka ⟨by decide,by decide⟩
 unfold mulH at this
 rw [if_neg (by decide)] at this
 exact this
noncomputable def M_pl:List Dv->Option Dv:=aI 2 2 (sRet (ah M_hp (ad (eOp dN (eVar 0) (eVar 1)) aNil)))
noncomputable def M_ls:List Dv->Option Dv:=aI 2 2 (sRet (ah M_hp (ad (eOp dN (eVar 0) (ah M_tm (ad (eVar 1) (ad (eUn dNeg (eC (.int 1))) aNil)))) aNil)))
theorem m_pl (a b:Hl) (hl:a.length+b.length<=10000) (ha: ∀p∈a,p.1≠[]) (hb: ∀p∈b,p.1≠[]):M_pl [.lst (a.map ent),.lst (b.map ent)]=some (.lst ((heapL (a++b)).map ent)):=by
 have hc:=pq (a:=a) (b:=b) (by lia)
 have hm:=m_hp (a++b) (by rw [List.length_append];lia) (px (P:=fun r=>r≠[]) ha hb)
 simp_arith [M_pl,hc,hm]
theorem m_ls (a b:Hl) (hl:a.length+b.length<=10000) (ha: ∀p∈a,p.1≠[]) (hb: ∀p∈b,p.1≠[]):M_ls [.lst (a.map ent),.lst (b.map ent)]=some (.lst ((heapL (a++negH b)).map ent)):=by
 have hn:=m_ng b (by lia)
 have hc:=pq (a:=a) (b:=negH b) (by rw [gY];lia)
 have hm:=m_hp (a++negH b) (by rw [List.length_append,gY];lia) (px (P:=fun r=>r≠[]) ha (kR (P:=fun r=>r≠[]) hb))
 simp_arith [M_ls,hn,hc,hm]
end L2
set_option maxHeartbeats 4000000
local macro_rules
 | `(tactic| simp_arith $cfg:optConfig only [$xs,*]) => `(tactic| simp_arith $cfg:optConfig [$xs,*,L2.yO,L2.yP,L2.yQ,L2.yR,L2.yS,L2.yT,L2.yU,L2.yV,L2.yW,L2.yX,L2.yY,L2.yZ])
namespace L2
open PySem PySem.Spec PyProof.Rows
noncomputable def cutR (pl r:List Int):List Int:=pl.map fun a=>r.getD a.toNat 0
noncomputable def pos (h:Hl):List (List Int):=(h.filter fun p=>decide (0<p.2)).map (·.1)
theorem pos_len (h:Hl):(pos h).length<=h.length:=by unfold pos;rw [List.length_map];exact List.length_filter_le ..
noncomputable def on1 (R:List (List Int)):Hl:=R.map fun r=>(r,1)
theorem on1_len (R:List (List Int)):(on1 R).length=R.length:=List.length_map ..
end L2
set_option maxHeartbeats 4000000
namespace L2
open PySem PySem.Spec PyProof.Rows
variable {KF:PySem.W.Frag}{W W':Addr->Prop}
section
variable {X:Cx}{pins:List (Addr×Obj)}{σ:St}{H:Hp}{s:Shared}{a:Addr}{ob:Obj}{kvs:List (List Key×V)}
theorem py {P:Program}{w:World}{h:Heap}{u u':HO} (ok:HOk P w H h) (e:H a=some u) (n1: ∀b,u≠ .own b) (n2: ∀xs,u≠ .tup xs) (n4: ∀ob u',u= .frz ob u'-> ¬ ∃vs,ob.data= .fields vs) (n3:az P w (upd H a u') h a u') (m1: ∀b,u'≠ .own b):HOk P w (upd H a u') h:=fun b v hb=>by
 by_cases hba:b=a
 ·subst hba
  rw [ay] at hb
  cases hb
  exact n3
 ·rw [ag hba] at hb
  refine (ok b v hb).stay (fun c w' _ q=>q) (fun c q=> ?_) (fun c xs q=> ?_) fun c ob' u' hd q=> ?_
  ·rw [ag (fun z=>by rw [z,e] at q;cases q;exact n1 _ rfl)];exact q
  ·rw [ag (fun z=>by rw [z,e] at q;cases q;exact n2 _ rfl)];exact q
  ·rw [ag (fun z=>by rw [z,e] at q;cases q;exact n4 _ _ rfl hd)];exact q
theorem pA {P:Program}{w:World}{h:Heap}{u:HO} (x:az P w H h a (.dT kvs)) (e: ∀xs,H a≠some (.tup xs)) (e2: ∀b,H a≠some (.own b)) (e3: ∀ob u',H a=some (.frz ob u')-> ¬ ∃vs,ob.data= .fields vs):az P w (upd H a u) h a (.dT kvs):=
 x.stay (fun _ _ _ q=>q) (fun c q=>by rw [ag (fun z:c=a=>by subst z;exact e2 _ q)];exact q) (fun c xs q=>by rw [ag (fun z:c=a=>by subst z;exact e xs q)];exact q) fun c ob' u' hd q=>by rw [ag (fun z:c=a=>by subst z;exact e3 _ _ q hd)];exact q
theorem Inv.freeze (I:Inv X pins σ H s) (e:H a=some (.dT kvs)) (ho:s.heap.get? a=some ob):Inv X pins σ (upd H a (.frz ob (.dT kvs))) s:=by
 have ne: ∀{b:Addr},H b=none->b≠a:=fun {b} q z=>by rw [z,e] at q;cases q
 refine ⟨I.ok,I.os,I.bare,⟨I.base.keep,I.base.slot,fun b o h1 h2 h3=> ?_,I.base.there,fun b xs q=> ?_,fun b o u q=> ?_,fun b ps q=> ?_⟩,I.loc,I.cell,?_,fun x c q=> ?_,fun p hp=> ?_,?_,I.len⟩
 ·have:=I.base.free b o h1 h2 h3
  rw [ag (ne this)];exact this
 ·have:=I.base.tups b xs q
  rw [ag (fun z=>by rw [z,e] at this;cases this)];exact this
 ·have:=I.base.frzs b o u q
  rw [ag (fun z=>by rw [z,e] at this;cases this)];exact this
 ·have:=I.base.tbls b ps q
  rw [ag (fun z=>by rw [z,e] at this;cases this)];exact this
 ·rw [ag (ne I.free)];exact I.free
 ·rw [ag (ne (I.freeC x c q))];exact I.freeC x c q
 ·obtain ⟨p1,p2,p3⟩:=I.pin p hp
  exact ⟨p1,by rw [ag (ne p2)];exact p2,p3⟩
 ·exact py I.hok e (fun _ z=>nomatch z) (fun _ z=>nomatch z) (fun _ _ z=>nomatch z) ⟨ho,pA (I.hok a _ e) (fun xs z=>by rw [e] at z;cases z) (fun b z=>by rw [e] at z;cases z) (fun _ _ z=>by rw [e] at z;cases z)⟩ (fun _ z=>nomatch z)
theorem Inv.thaw (I:Inv X pins σ H s) (e:H a=some (.frz ob (.dT kvs))) (h0: ∀o u,X.H₀ a≠some (.frz o u)):Inv X pins σ (upd H a (.dT kvs)) s:=by
 have ne: ∀{b:Addr},H b=none->b≠a:=fun {b} q z=>by rw [z,e] at q;cases q
 refine ⟨I.ok,I.os,I.bare,⟨I.base.keep,I.base.slot,fun b o h1 h2 h3=> ?_,I.base.there,fun b xs q=> ?_,fun b o u q=> ?_,fun b ps q=> ?_⟩,I.loc,I.cell,?_,fun x c q=> ?_,fun p hp=> ?_,?_,I.len⟩
 ·have:=I.base.free b o h1 h2 h3
  rw [ag (ne this)];exact this
 ·have:=I.base.tups b xs q
  rw [ag (fun z=>by rw [z,e] at this;cases this)];exact this
 ·have:=I.base.frzs b o u q
  rw [ag (fun z:b=a=>by subst z;exact h0 o u q)];exact this
 ·have:=I.base.tbls b ps q
  rw [ag (fun z=>by rw [z,e] at this;cases this)];exact this
 ·rw [ag (ne I.free)];exact I.free
 ·rw [ag (ne (I.freeC x c q))];exact I.freeC x c q
 ·obtain ⟨p1,p2,p3⟩:=I.pin p hp
  exact ⟨p1,by rw [ag (ne p2)];exact p2,p3⟩
 ·obtain ⟨_,q⟩:=(show az X.prog X.w H s.heap a (.frz ob (.dT kvs)) from I.hok a _ e)
  have nf: ¬ ∃vs,ob.data= .fields vs:=fun ⟨vs,hv⟩=>by
   obtain ⟨hoa,_,_,_,_,o2,es,ep,h1,_,h3,_⟩:=I.hok a _ e
   rw [hoa] at h1
   cases h1
   rw [hv] at h3
   cases h3
  exact py I.hok e (fun _ z=>nomatch z) (fun _ z=>nomatch z) (fun _ _ z=>by cases z;exact nf) (pA q (fun xs z=>by rw [e] at z;cases z) (fun b z=>by rw [e] at z;cases z) (fun _ _ z=>by rw [e] at z;cases z;exact nf)) (fun _ z=>nomatch z)
end
noncomputable def Itd (a:Addr) (ob:Obj) (kvs:List (List Key×V)):It:=
 ⟨fun i H=>H a=some (.frz ob (.dT kvs))/\i<kvs.length,fun i H x H'=>H'=H/\ ∃b k v,kvs[i]?=some (k,v)/\x= .ref b/\H b=some (.tup (k.map kV)),fun i H=>H a=some (.frz ob (.dT kvs))/\kvs.length<=i⟩
theorem pB {α β:Type}{R:α->β->Prop}: ∀{l:List α}{m:List β},Paired R l m-> ∀{i:Nat}{x:α},l[i]?=some x-> ∃y,m[i]?=some y/\R x y
 |_,_,.nil,i,x,h=>by simp at h
 |_,_,.cons q t,0,x,h=>by simp at h;subst h;exact ⟨_,rfl,q⟩
 |_,_,.cons q t,i+1,x,h=>by
  obtain ⟨y,h1,h2⟩:=pB t (i:=i) (by simpa using h)
  exact ⟨y,by simpa using h1,h2⟩
theorem kS {X:Cx}{pins:List (Addr×Obj)}{σ:St}{H:Hp}{s:Shared}{a:Addr}{ob:Obj}{kvs:List (List Key×V)} (I:Inv X pins σ H s) (e:H a=some (.frz ob (.dT kvs))):
  (a==sysModules)=false/\ ∃es ep,ob.ExactDict/\ob.data= .dict es ep/\s.heap.get? a=some ob/\es.size=kvs.length/\ ∀(i:Nat) (k:List Key) (v:V),kvs[i]?=some (k,v)-> ∃(en:DictEntry) (b:Addr),es[i]?=some en/\en.key=Value.ref b/\H b=some (.tup (k.map kV)):=by
 obtain ⟨ho,q⟩:=(show az X.prog X.w H s.heap a (.frz ob (.dT kvs)) from I.hok a _ e)
 obtain ⟨z,y,en,kt,ob',es,ep,h1,h2,h3,h4,h5⟩:=(show az X.prog X.w H s.heap a (.dT kvs) from q)
 rw [ho] at h1;cases h1
 refine ⟨y,es,ep,h2,h3,ho,by rw [<-Array.length_toList,h4,List.length_map,kt.length],fun i k v hi=> ?_⟩
 obtain ⟨x,hx,r1,r2,r3⟩:=pB kt hi
 exact ⟨_,x.2.1,by rw [<-Array.getElem?_toList,h4,List.getElem?_map,hx];rfl,rfl,r2⟩
theorem pC {P:Program}{w:World}{K:PySem.W.Frag}{tg:Expr} (a it:Addr) (ob:Obj) (kvs:List (List Key×V)) {es:Array DictEntry}{ep:Nat} (h3:ob.data= .dict es ep):Turn P w K tg (Itd a ob kvs) [it] it (fun i h=>h.IsKeyIter it a i es.size ep) where
 mem:=by simp
 obj:=fun i h st b hb=>by
  have e:b=it:=by simpa using hb
  subst e
  obtain ⟨o,e,c,d⟩:=st
  exact ⟨o,e,fun v z=>by rw [d] at z;cases z⟩
 keep:=fun i h h' st k=>by
  obtain ⟨o,e,c,d⟩:=st
  exact ⟨o,k it (by simp) o e,c,d⟩
 item:=by
  intro X hP hw hK hc i pins s σ H E I hf st hg
  subst hP hw hK
  obtain ⟨ea,hi⟩:=hg
  obtain ⟨ns,es',ep',g1,g2,g3,g4,g5⟩:=kS I ea
  rw [h3] at g2;cases g2
  obtain ⟨k,v,hkv⟩: ∃k v,kvs[i]?=some (k,v):=⟨_,_,List.getElem?_eq_getElem hi⟩
  obtain ⟨en,b,he,hk,hb⟩:=g5 i k v hkv
  obtain ⟨f0,f1,f2,f3,f4,f5⟩:=hf it (by simp)
  refine DhSort.oq st ⟨ob,g3,g1,h3⟩ he fun h' st' sb=> ?_
  have I1:Inv X pins σ H {s with heap:=h'}:=I.turned (t':=s.toks) (fun b o hb e=>(sb.2 b hb).trans e) f0 f1 f3 f4 f5
  obtain ⟨o,e,c,d⟩:=id st'
  rw [hk]
  exact ⟨_,rfl,fU (s:={s with heap:=h'}) e c d (by decide) ⟨.ref b,H,I1,rfl,⟨rfl,b,k,v,hkv,rfl,hb⟩,st',fun b hb=>(hf b hb).1⟩⟩
 done:=by
  intro X hP hw hK hc i pins s σ H E I hf st hg
  subst hP hw hK
  obtain ⟨ea,hi⟩:=hg
  obtain ⟨ns,es',ep',g1,g2,g3,g4,g5⟩:=kS I ea
  rw [h3] at g2;cases g2
  obtain ⟨f0,f1,f2,f3,f4,f5⟩:=hf it (by simp)
  exact DhSort.ot (I.ok.hd hc) st ⟨ob,g3,g1,h3⟩ (Array.getElem?_eq_none (by lia)) fun h' eb=>⟨rfl,I.turned (t':=s.toks) (fun b o hb e=>eb b o hb e) f0 f1 f3 f4 f5⟩
 self:=fun _ _ _ _ _ st h=>wpAny_pyIter_keyiter st h
section
variable {X:Cx}{tg:Expr}
noncomputable def y8 (te:TE):TI:=fun σ H R=>te σ H fun x H1=> ∃a kvs,x= .ref a/\((H1 a=some (.dT kvs)/\ ∀ob,R (Itd a ob kvs) (upd H1 a (.frz ob (.dT kvs)))) \/ ∃ob,H1 a=some (.frz ob (.dT kvs))/\R (Itd a ob kvs) H1)
theorem y9 {e:Expr}{te:TE} (he:PE X e te):PI X tg e (y8 te):=by
 intro pins s σ H R I h
 refine thn (he pins s σ H _ I h) fun v s1 ⟨x,H1,I1,r1,q1⟩=> ?_
 obtain ⟨a,kvs,ex,q⟩:=q1
 subst ex
 cases r1
 rcases q with ⟨ha,q⟩|⟨ob,ha,q⟩
 ·obtain ⟨z,y,en,kt,ob,es,ep,h1,h2,h3,h4,h5⟩:=(show az X.prog X.w H1 s1.heap a (.dT kvs) from I1.hok a _ ha)
  have I2:=I1.freeze ha h1
  refine DhSort.kB y ⟨ob,h1,h2,h3⟩ ?_
  refine ⟨s1.heap.objs.size,[s1.heap.objs.size],_,_,_,rfl,I2.kept (t':=s1.toks) fun b o e=>Heap.get?_push_of_some _ e,pC a _ ob kvs h3,⟨_,Heap.get?_push_size _ rfl,rfl,rfl⟩,fun b hb=> ?_,q ob⟩
  have e:b=s1.heap.objs.size:=by simpa using hb
  subst e
  exact I2.fpOk (Nat.le_refl _) (I2.hok.fresh (Nat.le_refl _))
 ·obtain ⟨y,es,ep,h2,h3,h1,_⟩:=kS I1 ha
  refine DhSort.kB y ⟨ob,h1,h2,h3⟩ ?_
  refine ⟨s1.heap.objs.size,[s1.heap.objs.size],_,_,_,rfl,I1.kept (t':=s1.toks) fun b o e=>Heap.get?_push_of_some _ e,pC a _ ob kvs h3,⟨_,Heap.get?_push_size _ rfl,rfl,rfl⟩,fun b hb=> ?_,q⟩
  have e:b=s1.heap.objs.size:=by simpa using hb
  subst e
  exact I1.fpOk (Nat.le_refl _) (I1.hok.fresh (Nat.le_refl _))
end
section
variable {H:Hp}{a:Addr}{ob:Obj}{xs:List (List Key×V)}{S:Addr->Prop}
theorem pD (e:H a=some (.dT xs)):Mv AllD KF S S H (upd H a (.frz ob (.dT xs))):=
 have k: ∀{b o},H b=some o->o≠ .dT xs->upd H a (.frz ob (.dT xs)) b=some o:=fun {b o} h n=>by rw [ag (fun z=>by rw [z,e] at h;cases h;exact n rfl)];exact h
 .of (fun s h=>⟨s,k h nofun⟩) (fun h=>k h nofun) (fun {b ys} s h=>⟨s,by
   by_cases z:b=a
   ·subst z
    rcases h with h|⟨o,h⟩
    ·rw [e] at h;cases h;exact .inr ⟨ob,ay⟩
    ·rw [e] at h;cases h
   ·rcases h with h|⟨o,h⟩
    ·exact .inl (by rw [ag z];exact h)
    ·exact .inr ⟨o,by rw [ag z];exact h⟩⟩) (fun s h=>⟨s,h.imp (fun h=>k h nofun) fun ⟨o,h⟩=>⟨o,k h nofun⟩⟩) (fun s h=>⟨s,k h nofun⟩) fun h _=>k h nofun
theorem RepF.frz (e:H a=some (.dT xs)) {v:V}{d:Dv} (r:RepF KF S H v d):RepF KF S (upd H a (.frz ob (.dT xs))) v d:=r.mv (pD e) trivial
theorem RepsF.frz (e:H a=some (.dT xs)) {vs:List V}{ds:List Dv} (r:RepsF KF S H vs ds):RepsF KF S (upd H a (.frz ob (.dT xs))) vs ds:=r.mv (pD e) fun _ _=>trivial
theorem kT (e:H a=some (.frz ob (.dT xs))):Mv AllD KF S S H (upd H a (.dT xs)):=
 have k: ∀{b o},H b=some o->o≠ .frz ob (.dT xs)->upd H a (.dT xs) b=some o:=fun {b o} h n=>by rw [ag (fun z=>by rw [z,e] at h;cases h;exact n rfl)];exact h
 .of (fun s h=>⟨s,k h nofun⟩) (fun h=>k h nofun) (fun {b ys} s h=>⟨s,by
   by_cases z:b=a
   ·subst z
    rcases h with h|⟨o,h⟩
    ·rw [e] at h;cases h
    ·rw [e] at h;cases h;exact .inl ay
   ·rcases h with h|⟨o,h⟩
    ·exact .inl (by rw [ag z];exact h)
    ·exact .inr ⟨o,by rw [ag z];exact h⟩⟩) (fun s h=>⟨s,h.imp (fun h=>k h nofun) fun ⟨o,h⟩=>⟨o,k h nofun⟩⟩) (fun s h=>⟨s,k h nofun⟩) fun h n=>k h fun z=>by cases z;exact n _ rfl
theorem RepF.thw (e:H a=some (.frz ob (.dT xs))) {v:V}{d:Dv} (r:RepF KF S H v d):RepF KF S (upd H a (.dT xs)) v d:=r.mv (kT e) trivial
theorem RepsF.thw (e:H a=some (.frz ob (.dT xs))) {vs:List V}{ds:List Dv} (r:RepsF KF S H vs ds):RepsF KF S (upd H a (.dT xs)) vs ds:=r.mv (kT e) fun _ _=>trivial
theorem RepsK.thw (e:H a=some (.frz ob (.dT xs))) {κ:Type}{vs:List (κ×V)}{ds:List (κ×Dv)} (r:RepsK KF S H vs ds):RepsK KF S (upd H a (.dT xs)) vs ds:=r.mv (kT e) fun _ _=>trivial
theorem Rel.frz {ms:List Nat}{H0:Hp}{δ:Dt}{σ:St} (R:Rel KF ms W H0 δ σ H) (e:H a=some (.dT xs)) (n: ¬W a):Rel KF ms W (fun b=>if b=a/\H0 a≠none then some (.frz ob (.dT xs)) else H0 b) δ σ (upd H a (.frz ob (.dT xs))):=by
 refine ⟨R.len,fun b o h=> ?_,fun b w=> ?_,fun i d nn hd=> ?_,?_⟩
 ·by_cases z:b=a
  ·subst z
   by_cases h0:H0 b=none
   ·rw [if_neg (fun q=>q.2 h0),h0] at h;cases h
   ·rw [if_pos ⟨rfl,h0⟩] at h;cases h;exact ay
  ·rw [if_neg (fun q=>z q.1)] at h
   rw [ag z];exact R.keep b o h
 ·have z:b≠a:=fun z=>n (z▸w)
  obtain ⟨o,ho,so⟩:=R.soft b w
  exact ⟨o,by rw [ag z];exact ho,so⟩
 ·obtain ⟨v,hv,r⟩:=R.get i d nn hd
  exact ⟨v,hv,r.frz e⟩
 ·obtain ⟨Φ,f⟩:=R.foot
  refine ⟨Φ,fun i b hb=>⟨(f.wr i b hb).1,(if_neg (fun q:b=a/\H0 a≠none=>n (q.1▸(f.wr i b hb).1))).trans (f.wr i b hb).2⟩,f.dj,f.nd,fun i d nn hd=> ?_⟩
  obtain ⟨c,hc,o⟩:=f.at_ i d nn hd
  refine ⟨c,hc,?_⟩
  have ki:aE Imm H (upd H a (.frz ob (.dT xs))):=fun b ob' hb q=>by
   rcases q with ⟨us,rfl⟩|⟨c',u,rfl⟩|q
   ·rw [ag (fun z=>by rw [z,e] at hb;cases hb)];exact hb
   ·rw [ag (fun z=>by rw [z,e] at hb;cases hb)];exact hb
   ·exact q.elim
  have kf: ∀b∈Φ i,∀o,H b=some o->(upd H a (.frz ob (.dT xs))) b=some o:=fun b hb ob' h=>by
   rw [ag (fun z:b=a=>by subst z;exact n (f.wr i b hb).1)];exact h
  rcases o with ⟨m,ef,cc⟩|⟨m,m3,r⟩|⟨m,m2,ef,xs',ds',rfl,hh,r⟩
  ·exact .inl ⟨m,ef,cc.keep ki (kf c (by rw [ef];exact List.mem_cons_self ..))⟩
  ·exact .inr (.inl ⟨m,m3,r.keep ki kf⟩)
  ·exact .inr (.inr ⟨m,m2,ef,xs',ds',rfl,kf c (by rw [ef];exact List.mem_cons_self ..) _ hh,RepsF.frz e r⟩)
end
theorem pE {S:Addr->Prop}{H:Hp}: ∀{xs:List (List Key×V)}{ds:List (List Key×Dv)}{i:Nat},RepsK KF S H xs ds-> ∀{k:List Key}{v:V},xs[i]?=some (k,v)-> ∃d,ds[i]?=some (k,d)
 |_,_,_,.nil,_,_,h=>by simp at h
 |_,_,0,.cons q t,_,_,h=>by simp at h;obtain ⟨rfl,rfl⟩:=h;exact ⟨_,rfl⟩
 |_,_,i+1,.cons q t,_,_,h=>by
  obtain ⟨d,hd⟩:=pE t (i:=i) (by simpa using h)
  exact ⟨d,by simpa using hd⟩
theorem pF {S:Addr->Prop}{H:Hp}: ∀{xs:List (List Key×V)}{ds:List (List Key×Dv)},RepsK KF S H xs ds->xs.length=ds.length
 |_,_,.nil=>rfl
 |_,_,.cons _ t=>congrArg (· +1) (pF t)
noncomputable def keyD:Key->Dv
 | .inl i=> .int i
 | .inr x=> .str x
noncomputable def iD (m:EM):Dt->Option (List Dv):=fun δ=>(m δ).bind fun x=>match x with
 | .dic kvs=>if kvs.length<=lim then some (kvs.map fun p=> .tup (p.1.map keyD)) else none
 |_=>none
theorem kU {S:Addr->Prop}{H:Hp}: ∀(k:List Key),RepsF KF S H (k.map kV) (k.map keyD)
 |[]=> .nil
 | .inl i::r=> .cons (.int i) (kU r)
 | .inr x::r=> .cons (.str x) (kU r)
section
variable {X:Cx}{scope:Scope}{tg iter elt:Expr}{ifs:List Expr}{pos:Pos}{ms:List Nat}{k:Kd}{m:EM}{g:Dv->Dt->Option Dt}{c:Dt->Option Bool}{el:EM}{z:List Nat}
end
end L2
set_option maxHeartbeats 4000000
namespace L2
open PySem PySem.Spec PyProof.Rows
variable {KF:PySem.W.Frag}{W W':Addr->Prop}
section
variable {X:Cx}{ms:List Nat}{rk k k2 k3:Kd}{st:Stmt}{rest a b:List Stmt}{ma mb:SM}{pos:Pos}{e:Expr}{m:EM}{pos':Pos}
variable {i:Nat}{x:Str}{np ipos:Pos}{ix jx v:Expr}{mi mj mv:EM}
end
section
variable {P:Program}{w:World}{K:PySem.W.Frag}{mg:Str->Option Value}{base:Heap}
end
section
variable {X:Cx}{ms:List Nat}{rk:Kd}{i:Nat}{x y:Str}{ps:List Str}{np p pos spos:Pos}{es:List Expr}{ml:Dt->Option (List Dv)}{m:List Dv->Option Dv}
theorem Gots.reps_any {H H1:Hp}: ∀{vs:List V}{ds:List Dv},Gots KF .any W H H1 vs ds->RepsF KF (fun a=> ¬W a) H1 vs ds
 |[],[],_=> .nil
 |v::vs,d::ds,⟨g,r⟩=> .cons g (Gots.reps_any r)
 |[],_::_,g=>g.elim
 |_::_,[],g=>g.elim
end
end L2
set_option maxHeartbeats 4000000
namespace L2
open PySem PySem.Spec PyProof.Rows
section
variable {prog:Program}{w:World}{A:Around}{E:Value->Shared->Prop}{s:Shared}
end
section
variable {X:Cx}{ms:List Nat}{k rk:Kd}{e st:Expr}{m:EM}{mst:Dt->Option (Option Int)}{pos p2:Pos}
end
end L2
set_option maxHeartbeats 4000000
namespace HT
open PySem PySem.Spec PyProof.Rows
section
variable {prog:Program}{w:World}{A:Around}{E:Value->Shared->Prop}{s:Shared}
end
end HT
namespace L2
open PySem PySem.Spec PyProof.Rows
section
variable {X:Cx}{ms:List Nat}{k k1 k2:Kd}{e a b:Expr}{m ma mb:EM}{pos:Pos}
end
end L2
set_option maxHeartbeats 4000000
namespace L2
open PySem PySem.Spec PyProof.Rows
section
variable {X:Cx}{ms:List Nat}{k1 k2 k3:Kd}{a b c:Expr}{ma mb mc:EM}{pos:Pos}
theorem za (hu:X.A.units+1<cLine) (ha:PD X ms k1 a ma) (hb:PD X ms k2 b mb) (hk:behindInMarks .In b=false:=by rfl):PDt X ms (.Compare a [.In] [b] pos) (tOf2 dIn ma mb):=by
 obtain ⟨ta,pa,qa⟩:=ha
 obtain ⟨tb,pb,qb⟩:=hb
 refine ⟨_,rf (tW hu pa pb) hk,fun δ σ H0 H Q d R hm hq=> ?_⟩
 obtain ⟨z,hz,e⟩:=Option.bind_eq_some_iff.mp hm
 obtain ⟨x,hx,e1⟩:=Option.bind_eq_some_iff.mp hz
 obtain ⟨y,hy,e1⟩:=Option.bind_eq_some_iff.mp e1
 refine qa δ σ H0 H _ x R hx fun v H1 s1 g1=> ?_
 refine qb δ σ H0 H1 _ y (R.same s1) hy fun u H2 s2 g2=> ?_
 have g1:=(g1.same s2).bor
 cases y<;>simp only [dIn,reduceCtorEq] at e1
 obtain ⟨kk,h1,rfl⟩:=Option.map_eq_some_iff.mp e1
 cases e
 obtain ⟨p,rfl,hp⟩:=eY g1 h1
 cases g2.bor with
 |dic _ hd q=>
  rcases q.val kk with ⟨n,n2⟩|⟨w',d',n,n2,r⟩
  ·rw [n] at hq
   exact ⟨_,none,rfl,n2▸gP hd hp,_,rfl,hq _ (s1.tr s2)⟩
  ·rw [n] at hq
   exact ⟨_,some w',rfl,n2▸gP hd hp,_,rfl,hq _ (s1.tr s2)⟩
end
end L2
set_option maxHeartbeats 4000000
namespace L2
open PySem PySem.Spec PyProof.Rows
section
variable {X:Cx}{ms:List Nat}{k k1 k2:Kd}{a b:Expr}{ma mb:EM}{pos:Pos}
end
end L2
set_option maxHeartbeats 4000000
namespace L2
open PySem PySem.Spec PyProof.Rows
variable {KF:PySem.W.Frag}{W W':Addr->Prop}
section
variable {X:Cx}{k:Kd}{st:Stmt}{rest a b:List Stmt}{ma mb:SM}{pos pos':Pos}{e:Expr}{m:EM}
end
noncomputable def NSf (H:Hp) (a:Addr):Prop:= ∀o,H a=some o-> ¬Sft o
theorem NSf.none {H:Hp}{a:Addr} (h:H a=none):NSf H a:=fun o e=>by rw [h] at e;cases e
noncomputable def spA (KF:PySem.W.Frag) (m:List Dv->Option Dv):Sp:=fun vs H Q _=> ∃(S:Addr->Prop) (ds:List Dv) (d:Dv),RepsF KF S H vs ds/\m ds=some d/\ ∀v H',Same H H'->RepF KF (fun a=>S a \/NSf H a) H' v d->Q v H'
section
variable {P:Program}{w:World}{K:PySem.W.Frag}{mg:Str->Option Value}{base:Heap}
theorem zb {x qual:Str}{st:Stmt}{f:Addr}{fd:FuncData}{N ps:List Str}{k:Nat}{body:SM} (ms:List Nat) (F:Fun K x qual st f fd) (S:aP N ps (ar st)) (hms:ms.all (fun i=>decide (ps.length<=if 2000<=i then i-2000 else if 1000<=i then i-1000 else i))=true) (hps:decide (ps.length<=N.length)=true)
  (hb: ∀(cdv:Value) (A:Around) (outer:List Env) (s:Shared) (H:Hp) (E:XK),Room k (A.deeper (envOfC qual (ar st) s.heap.objs.size f cdv))->PDss (cxOf CX0 P w K mg base N qual (ar st) f cdv A outer s H E).nox ms .any (aL st) body):
  FnOk P w K mg base CX0 (k+1) f fd ps (spA K (aI N.length ps.length body)):=by
 have len: ∀{ds:List Dv}{d:Dv},aI N.length ps.length body ds=some d->ds.length=ps.length:=fun {ds d} h=>by
  unfold aI at h
  split at h
  ·assumption
  ·cases h
 refine F.ok (k:=k) S (fun vs H Q E h=> ?_) fun cdv A outer s H vs Q E hr h=> ?_
 ·obtain ⟨S,ds,d,r,hm,_⟩:=h
  rw [r.length]
  exact len hm
 ·obtain ⟨S,ds,d,r,hm,hq⟩:=h
  obtain ⟨t,p,q⟩:=hb cdv A outer s H E hr
  refine ⟨t,p,?_⟩
  have hl:=len hm
  have hps':=of_decide_eq_true hps
  have R:Rel K ms (fun a=>(∃o,H a=some o/\Sft o)/\ ¬S a) H (bc N.length ds) (bp N vs) H:=nK (r.mono fun _ _ s z=>z.2 s) (fun _ w=>w.1) (fun i hi=>by rw [hl];exact nL hms hi) (by lia)
  unfold aI at hm
  rw [if_pos hl] at hm
  obtain ⟨fl,hf,e⟩:=Option.bind_eq_some_iff.mp hm
  cases fl with
  |rt d' δ'=>
   cases e
   refine q _ _ H H _ _ R hf fun v W' σ' H' Φ st R' _ g _=>hq v H' R'.keep ?_
   refine RepF.mono (fun a _ n=> ?_) g
   have n: ¬WE (fun a=>(∃o,H a=some o/\Sft o)/\ ¬S a) H a:=fun z=>n ⟨(st.2.2.1 a z.1).elim id fun q=>absurd q z.2,z.2⟩
   by_cases hS:S a
   ·exact .inl hS
   ·exact .inr fun o ho so=>n ⟨⟨⟨o,ho,so⟩,hS⟩,fun z=>by rw [z] at ho;cases ho⟩
  |_=>cases e
end
section
variable {X:Cx}{ms:List Nat}{a:Expr}{es:List Expr}{ml:Dt->Option (List Dv)}{m:List Dv->Option Dv}{x:Str}{ps:List Str}{p pos:Pos}
theorem zc {k:Nat} (D:Def X.prog X.w X.K X.mg X.base k x ps (spA X.K m)) (hr:Room k X.A) (ha:PDa X ms .any (a::es) ml) (hg:Gl X x:=by rfl)
  (hdb:(x==("__debug__":Str))=false:=by decide) (he:starEach (a::es) X.env=(false,eval a X.env)::starEach es X.env:=by rfl) (hpl:(backTo pos (starEach es X.env)).any (·.1)=false:=by rfl):
  PD X ms .any (.Call (.Name x p) (a::es) [] pos) (ah m ml):=by
 obtain ⟨ta,pa,qa⟩:=ha
 refine ⟨_,iw D hr pa hg hdb he hpl,fun {W} δ σ H0 H Q d R hm hq=> ?_⟩
 obtain ⟨xs,hx,e⟩:=Option.bind_eq_some_iff.mp hm
 refine qa δ σ H0 H _ xs R hx fun vs H1 s1 g1=> ?_
 refine ⟨fun a=> ¬W a,xs,d,g1.reps_any,e,fun v H' s g=>hq v H' (s1.tr s) ?_⟩
 show RepF X.K (fun a=> ¬W a) H' v d
 refine g.mono fun a _ q=> ?_
 rcases q with q|q
 ·exact q
 ·intro wa
  obtain ⟨o,ho,so⟩:=R.soft a wa
  exact q o (s1 a o ho) so
end
end L2
set_option maxHeartbeats 4000000
namespace L2
open PySem PySem.Spec PyProof.Rows
end L2
set_option maxHeartbeats 4000000
namespace L2
open PySem PySem.Spec PyProof.Rows
end L2
set_option maxHeartbeats 4000000
namespace L2
open PySem PySem.Spec PyProof.Rows
noncomputable def rng (lo:Int) (n:Nat):List Int:=(List.range n).map fun (i:Nat)=>lo+(i:Int)
end L2
set_option maxHeartbeats 4000000
namespace L2
open PySem PySem.Spec PyProof.Rows
variable {KF:PySem.W.Frag}{W W':Addr->Prop}
section
variable {X:Cx}{ms:List Nat}{k k1 k2 k3 rk:Kd}{e a b c:Expr}{m ma mb mc:EM}{pos:Pos}
end
end L2
set_option maxHeartbeats 4000000
namespace DhDct
open PySem PySem.Calls PyProof.Rows PySem.W
section
variable {prog:Program}{w:World}{A:Around}{E:Value->Shared->Prop}{s:Shared}
section
variable {K:Type} [DecidableEq K] {knd:HeapKind prog w K}
variable {I:Addr}{fp wr:List Addr}{n:Nat}{P:Nat->Value->Prop}{St:Nat->Shared->Prop}{R:Result->Shared->Prop}
end
end
end DhDct
namespace L2
open PySem PySem.Spec PyProof.Rows
variable {KF:PySem.W.Frag}{W W':Addr->Prop}
section
variable {X:Cx}
end
end L2
set_option maxHeartbeats 4000000
namespace DhUnp
open PySem PySem.Calls PyProof.Rows PySem.W
section
variable {prog:Program}{w:World}{A:Around}{E:Value->Shared->Prop}{s:Shared}
end
end DhUnp
namespace L2
open PySem PySem.Spec PyProof.Rows
variable {KF:PySem.W.Frag}{W W':Addr->Prop}
section
variable {X:Cx}{pos:Pos}{ms:List Nat}
end
end L2
set_option maxHeartbeats 4000000
namespace DhExt
open PySem PySem.Calls PyProof.Rows PySem.W Sem
open Builtin
end DhExt
namespace L2
open PySem PySem.Spec PyProof.Rows
variable {KF:PySem.W.Frag}{W W':Addr->Prop}
section
variable {X:Cx}{ms:List Nat}{k k1 k2 k3 rk:Kd}{e a b c:Expr}{m ma mb mc:EM}{pos:Pos}
theorem zd:bootBuiltins "min"=some (.builtin "min"):=by decide+kernel
end
end L2
set_option maxHeartbeats 4000000
namespace L2
open PySem PySem.Spec PyProof.Rows
variable {KF:PySem.W.Frag}{W W':Addr->Prop}
noncomputable def cq (g:Dv->Dt->Option Dt) (c:Dt->Option Bool) (el:EM) (δ:Dt):List Dv->Option (List Dv)
 |[]=>some []
 |d::ds=>(g d δ).bind fun δ1=>(c δ1).bind fun b=>if b=true then (el δ1).bind fun x=>(cq g c el δ ds).map (x:: ·) else cq g c el δ ds
noncomputable def fe (ρ:List (Option Nat)) (it:Dt->Option (List Dv)) (g:Dv->Dt->Option Dt) (c:Dt->Option Bool) (el:EM):EM:=fun δ=>(it δ).bind fun ds=>(cq g c el (aO ρ δ) ds).map .lst
section
variable {ms ms':List Nat}{ρ:List (Option Nat)}{k:Kd}{wi:TI}{it:Dt->Option (List Dv)}{g:Dv->Dt->Option Dt}{c:Dt->Option Bool}{el:EM}{z:List Nat}
variable {X:Cx}{scope:Scope}{tg iter elt:Expr}{ifs:List Expr}{pos:Pos}
end
section
variable {X:Cx}{ms:List Nat}{k:Kd}{e:Expr}{m:EM}{pos:Pos}
end
end L2
set_option maxHeartbeats 4000000
namespace L2
open PySem PySem.Spec PyProof.Rows
variable {KF:PySem.W.Frag}{W W':Addr->Prop}
section
variable {X:Cx}{params:Arguments}{body:Expr}{scope:Scope}{pos:Pos}{T c:Addr}{q:Str}
end
section
variable {CX:CXT}{P:Program}{w:World}{K:PySem.W.Frag}{mg:Str->Option Value}{base:Heap}{k:Nat}{f:Addr}{L:LamD}{N ps:List Str}{A:Around}{outer:List Env}{s:Shared}{H:Hp}{us:List Value}{vs:List V}{Q:VK}{E:XK}
end
section
variable {X:Cx}{ms:List Nat}{rk k1:Kd}{a:Expr}{es:List Expr}{ml:Dt->Option (List Dv)}{m:List Dv->Option Dv}{x:Str}{p pos:Pos}{i:Nat}{L:LamD}
end
end L2
set_option maxHeartbeats 4000000
namespace L2
open PySem PySem.Spec PyProof.Rows
variable {KF:PySem.W.Frag}{W W':Addr->Prop}
section
variable {P:Program}{w:World}{K:PySem.W.Frag}{mg:Str->Option Value}{base:Heap}{T:Addr}{q:Str}
end
section
variable {X:Cx}{ms:List Nat}{rk k1:Kd}{a:Expr}{es:List Expr}{ml:Dt->Option (List Dv)}{m:List Dv->Option Dv}{x:Str}{ps:List Str}{p pos:Pos}{T:Addr}{q:Str}
end
end L2
set_option maxHeartbeats 4000000
namespace L2
open PySem PySem.Spec PyProof.Rows
variable {KF:PySem.W.Frag}{W W':Addr->Prop}
section
variable {X:Cx}{ms:List Nat}{rk k:Kd}{e:Expr}{m:EM}{pos pos':Pos}{st:Stmt}{rest a b:List Stmt}{ma mb:SM}
section
variable {ms':List Nat}{ρ:List (Option Nat)}{it:Dt->Option (List Dv)}{g:Dv->Dt->Option Dt}{c:Dt->Option Bool}{el:EM}{z:List Nat}{scope:Scope}{tg iter elt:Expr}{ifs:List Expr}{spos cpos:Pos}
end
end
end L2
set_option maxHeartbeats 4000000
namespace L2
open PySem PySem.Spec PyProof.Rows
variable {KF:PySem.W.Frag}{W W':Addr->Prop}
section
variable {X:Cx}
end
section
variable {H:Hp}
end
end L2
set_option maxHeartbeats 4000000
namespace L2
open PySem PySem.Spec PyProof.Rows
variable {KF:PySem.W.Frag}{W W':Addr->Prop}
section
variable {H:Hp}{c:Addr}{ol:Obj}{S:Addr->Prop}
end
section
variable {X:Cx}{params:Arguments}{body:Expr}{scope:Scope}{pos:Pos}{T c:Addr}{q:Str}{clos:List (Str×Addr)}
end
section
variable {P:Program}{w:World}{K:PySem.W.Frag}{mg:Str->Option Value}{base:Heap}{k:Nat}{f:Addr}{L:LamD}{p x:Str}{A:Around}{outer:List Env}{s:Shared}{H:Hp}{u:Value}{v:V}{Q:VK}{E:XK}{iv:Int}
end
section
variable {X:Cx}{ms:List Nat}{k1:Kd}{a:Expr}{es:List Expr}{ml:Dt->Option (List Dv)}{m:Int->List Dv->Option Dv}{y x:Str}{p pos:Pos}{i:Nat}{L:LamD}
end
end L2
set_option maxHeartbeats 4000000
namespace L2
open PySem PySem.Spec PyProof.Rows
variable {KF:PySem.W.Frag}{W W':Addr->Prop}
section
variable {X:Cx}
end
end L2
set_option maxHeartbeats 4000000
namespace L2
open PySem PySem.Spec PyProof.Rows
variable {KF:PySem.W.Frag}{W W':Addr->Prop}
noncomputable abbrev Tbs:=List (Addr×Str)
section
variable {P:Program}{w:World}{K:PySem.W.Frag}{mg:Str->Option Value}{base:Heap}{ts:Tbs}
end
section
variable {X:Cx}{ms:List Nat}{rk k1:Kd}{a:Expr}{es:List Expr}{ml:Dt->Option (List Dv)}{m:List Dv->Option Dv}{x:Str}{ps:List Str}{p pos:Pos}{ts:Tbs}
end
end L2
set_option maxHeartbeats 4000000
namespace L2
open PySem PySem.Spec PyProof.Rows
variable {KF:PySem.W.Frag}{W W':Addr->Prop}
section
variable {X:Cx}
end
section
variable {X:Cx}{ms:List Nat}{rk k k1 k2:Kd}{e b:Expr}{m mb:EM}{pos pos':Pos}
end
section
variable {prog:Program}{w:World}{A:Around}{E:Value->Shared->Prop}{s:Shared}
end
section
variable {X:Cx}{ms:List Nat}{k1 k2:Kd}{o e:Expr}{mo me:EM}{apos cpos:Pos}
end
end L2
set_option maxHeartbeats 4000000
namespace DhSort
open PySem PySem.Calls PyProof.Rows PySem.W L2
noncomputable def kX (l:Addr) (len:Nat) (h:Heap) (v:Value) (ns:List Int):Prop:= ∃(x y:Addr) (ob:Obj) (us:Array Value) (n:Nat) (w:Int) (t:Tok) (r:List Int),v= .ref x/\h.get? x=some ob/\ob.cls= .type "tuple"/\ob.data= .seq us n/\us.toList=[.ref y,.int w t]/\RowAt h (.ref y) r/\y≠l/\r.length=len/\ns=r++[w]
theorem kX.keep {l:Addr}{len:Nat}{h h':Heap}{v:Value}{ns:List Int} (e:kX l len h v ns) (n1: ∀x,v= .ref x->x≠l) (k: ∀x ob,x≠l->h.get? x=some ob->h'.get? x=some ob):kX l len h' v ns:=by
 obtain ⟨x,y,ob,us,n,w,t,r,e1,g,c,d,u,rr,ny,rl,en⟩:=e
 exact ⟨x,y,ob,us,n,w,t,r,e1,k x ob (n1 x e1) g,c,d,u,rr.keep fun z oz ez gz=>k z oz (by cases ez;exact ny) gz,ny,rl,en⟩
section
variable {prog:Program}{w:World}{A:Around}{E:Value->Shared->Prop}{s:Shared}
end
section
variable {prog:Program}{w:World}{A:Around}{E:Value->Shared->Prop}{t:Shared}
end
end DhSort
namespace L2
open PySem PySem.Spec PyProof.Rows
variable {KF:PySem.W.Frag}{W W':Addr->Prop}
section
variable {X:Cx}
end
end L2
set_option maxHeartbeats 4000000
namespace L2
open PySem PySem.Spec PyProof.Rows
variable {KF:PySem.W.Frag}{W W':Addr->Prop}
section
variable {X:Cx}
end
end L2
set_option maxHeartbeats 4000000
namespace L2
open PySem PySem.Spec PyProof.Rows
section
variable {X:Cx}{ms:List Nat}{k1 k2:Kd}{o e:Expr}{mo me:EM}{apos cpos:Pos}{td ty:TE}
end
end L2
set_option maxHeartbeats 4000000
namespace L2
open PySem PySem.Spec PyProof.Rows
variable {KF:PySem.W.Frag}
section
variable {X:Cx}
end
end L2
set_option maxHeartbeats 4000000
namespace L2
open PySem PySem.Spec PyProof.Rows
variable {KF:PySem.W.Frag}
section
variable {X:Cx}{ms:List Nat}{k k1 k2 rk:Kd}{o e:Expr}{mo me:EM}{apos cpos pos:Pos}{name:Str}{id:String}{r:V->List V->Hp->VK->Prop}{f:Dv->Dv->Option Dv}
end
end L2
set_option maxHeartbeats 4000000
namespace L2
open PySem PySem.Spec PyProof.Rows
variable {KF:PySem.W.Frag}
section
variable {X:Cx}{ms:List Nat}{k:Kd}{e:Expr}{m:EM}{p p2 pos pos2:Pos}
end
end L2
set_option maxHeartbeats 4000000
namespace L2
open PySem PySem.Spec PyProof.Rows
variable {KF:PySem.W.Frag}{W W':Addr->Prop}
section
variable {ms ms':List Nat}{ρ:List (Option Nat)}{k:Kd}{wi:TI}{it:Dt->Option (List Dv)}{g:Dv->Dt->Option Dt}{c:Dt->Option Bool}{el:EM}{z:List Nat}
theorem ze {δ:Dt}{σ:St}{H0 H1:Hp}{J:It}{ds out:List Dv}{Q:VK} (R1:Rel KF ms' W H0 (aO ρ δ) (L2.pull ρ σ) H1) (ok:IOk KF W false H1 J ds) (ho:cq g c el (aO ρ δ) ds=some out) (hz:GExt z g) (hz':z.all (fun i=>decide (ρ[i]?=some none))=true)
  (hq: ∀(l:Addr) (acc:List V) (Hc:Hp),Same H1 Hc->Hc l=none->RepsF KF (fun a=> ¬W a) Hc acc out->Q (.ref l) (upd Hc l (.lst acc))):nF ρ (tgM KF ms' g) (ttM KF ms' c) (tM KF ms' .any el) J σ H1 Q:=by
 obtain ⟨hlim,ok⟩:=ok
 have notz: ∀{i:Nat}{x:Dv},(aO ρ δ)[i]?=some (some x)->i∉z:=fun {i x} e hzi=>by
  obtain ⟨j,er,_⟩:=iG e
  have:=of_decide_eq_true (List.all_eq_true.mp hz' i hzi)
  rw [er] at this;cases this
 refine ⟨fun i n acc σc Hc=>n=ds.length-i/\i<=ds.length/\Same H1 Hc/\Rel KF ms' W H0 (aO ρ δ) σc Hc/\bJ ms' (pull ρ σ) σc/\acc.length<=i/\
  ∃done rest,RepsF KF (fun a=> ¬W a) Hc acc done/\cq g c el (aO ρ δ) (ds.drop i)=some rest/\done++rest=out,⟨ds.length,by simp,Nat.zero_le _,Same.refl _,R1,.refl,Nat.le_refl _,[],out,.nil,by simpa using ho,by simp⟩,?_⟩
 rintro i n acc σc Hc ⟨rfl,hi',sc,Rc,so,hl,done,rest,ra,hr,hout⟩
 obtain ⟨go,yl,st⟩:=ok Hc (.inl sc)
 by_cases hlt:i<ds.length
 ·right
  refine ⟨go i hlt,?_,fun acc' σ' H'=>Same H1 H'/\Rel KF ms' W H0 (aO ρ δ) σ' H'/\bJ ms' (pull ρ σ) σ'/\acc'.length<=i+1/\ ∃done rest,RepsF KF (fun a=> ¬W a) H' acc' done/\cq g c el (aO ρ δ) (ds.drop (i+1))=some rest/\done++rest=out,
   fun acc' σ' H' ⟨a1,a2,a3,a4,a5⟩=>⟨ds.length-(i+1),by lia,rfl,hlt,a1,a2,a3,a4,a5⟩,fun x H' y=> ?_⟩
  ·have:=dJ hlim;lia
  ·obtain ⟨rfl,d,hd,rx⟩:=yl i x H' hlt y
   have hdrop:ds.drop i=d::ds.drop (i+1):=by
    rw [List.drop_eq_getElem_cons hlt]
    congr 1
    rw [List.getElem?_eq_getElem hlt] at hd
    exact Option.some.inj hd
   rw [hdrop,cq] at hr
   obtain ⟨δ1,h1,hr⟩:=Option.bind_eq_some_iff.mp hr
   obtain ⟨b,hb,hr⟩:=Option.bind_eq_some_iff.mp hr
   obtain ⟨l1,f1⟩:=hz d _ δ1 h1
   refine ⟨W,H0,aO ρ δ,d,δ1,Rc,rx.mono fun a _ n z=>n.1 z,h1,fun σ1 R1' so1=> ?_⟩
   have forget: ∀{H2:Hp},Rel KF ms' W H0 δ1 σ1 H2->Rel KF ms' W H0 (aO ρ δ) σ1 H2:=fun {H2} R2=>by
    refine R2.forget l1.symm (fun j x e=> ?_)
    rw [f1 j (notz e)];exact e
   refine ⟨W,H0,δ1,b,R1',hb,fun H2 s2=> ?_⟩
   cases b with
   |true=>
    rw [if_pos rfl] at hr
    obtain ⟨y,hy,hr⟩:=Option.bind_eq_some_iff.mp hr
    obtain ⟨rest',hr',rfl⟩:=Option.map_eq_some_iff.mp hr
    rw [if_pos rfl]
    refine ⟨W,H0,δ1,y,R1'.same s2,hy,fun v H3 s3 g3=> ?_⟩
    have s23:=s2.tr s3
    have g3':RepF KF (fun a=> ¬W a) H3 v y:=g3
    refine ⟨sc.tr s23,forget (R1'.same s23),so.tr so1,by rw [List.length_append];exact Nat.add_le_add_right hl 1,done++[y],rest',(ra.same s23).append (.cons g3' .nil),hr',by rw [<-hout,List.append_assoc];rfl⟩
   |false=>
    rw [if_neg Bool.false_ne_true] at hr
    rw [if_neg Bool.false_ne_true]
    exact ⟨sc.tr s2,forget (R1'.same s2),so.tr so1,Nat.le_succ_of_le hl,done,rest,ra.same s2,hr,hout⟩
 ·left
  have hie:i=ds.length:=by lia
  subst hie
  rw [List.drop_length,cq] at hr
  cases hr
  rw [List.append_nil] at hout
  subst hout
  have:=dJ hlim
  refine ⟨st,by lia,fun l hln=> ?_⟩
  exact hq l acc Hc sc hln ra
theorem zf (hi: ∀{W:Addr->Prop} (δ:Dt) (σ:St) (H0 H:Hp) (R:It->Hp->Prop) (ds:List Dv),Rel KF ms W H0 δ σ H->it δ=some ds->(∀J H',Same H H'->IOk KF W false H' J ds->R J H')->wi σ H R)
  (P:eS ρ ms ms') (hz:GExt z g) (hz':z.all (fun i=>decide (ρ[i]?=some none))=true):DE KF ms .any (gc ρ wi (tgM KF ms' g) (ttM KF ms' c) (tM KF ms' .any el)) (fe ρ it g c el):=by
 intro W δ σ H0 H Q d R hm hq
 obtain ⟨ds,hds,e⟩:=Option.bind_eq_some_iff.mp hm
 obtain ⟨out,ho,rfl⟩:=Option.map_eq_some_iff.mp e
 refine hi δ σ H0 H _ ds R hds fun J H1 s1 ok=> ?_
 refine ze ((R.same s1).pull P) ok ho hz hz' fun l acc Hc sc hln ra=> ?_
 have s2:=Same.new (o:= .lst acc) hln
 refine hq _ _ (s1.tr (sc.tr s2)) ?_
 show RepF KF (fun a=> ¬W a) (upd Hc l (.lst acc)) (.ref l) (.lst out)
 exact RepF.lst (R.fresh (bE (s1.tr sc) hln)) ay (ra.same s2)
variable {X:Cx}{scope:Scope}{tg iter elt:Expr}{ifs:List Expr}{pos:Pos}
theorem zg (N':List Str) (ρ:List (Option Nat)) (ms':List Nat) (hc:X.calm=true) (hi:PDi X ms false tg iter it) (hg: ∀C s H fp,PDg (aH X scope N' C s H fp) ms' tg g)
  (ht: ∀C s H fp,PDts (aH X scope N' C s H fp) ms' ifs c) (he: ∀C s H fp,PD (aH X scope N' C s H fp) ms' .any elt el) (hz:GExt z g)
  (ck:d4 scope X.env.scope X.N N' ρ=true) (hp:gA ρ ms ms'=true) (hz':z.all (fun i=>decide (ρ[i]?=some none))=true) (hs: ∀x,foldedSetIterable iter X.env x=pure x:=by intro _;rfl):
  PD X ms .any (.ListComp elt [⟨tg,iter,ifs,0⟩] scope pos) (fe ρ it g c el):=by
 obtain ⟨wi,pi,qi⟩:=hi
 exact ⟨_,mX N' ρ hc pi (fun C s H fp=>(hg C s H fp).pg) (fun C s H fp=>(ht C s H fp).pts) (fun C s H fp=>(he C s H fp).pe) ck hs,zf qi (j5 hp) hz hz'⟩
end
noncomputable def isA (ms:List Nat) (i:Nat):Bool:=decide (i+2000∈ms)&&(decide (i∉ms)&&decide (i+1000∉ms))
theorem kY {ms:List Nat}{i:Nat} (h:isA ms i=true):i+2000∈ms/\i∉ms/\i+1000∉ms:=by
 unfold isA at h
 rw [Bool.and_eq_true,Bool.and_eq_true] at h
 exact ⟨of_decide_eq_true h.1,of_decide_eq_true h.2.1,of_decide_eq_true h.2.2⟩
theorem Rel.anyl {ms:List Nat}{σ:St}{H0 H:Hp}{δ:Dt}{i:Nat}{d:Dv}{Φ:Nat->List Addr} (f:Foot KF ms W H0 δ σ H Φ) (hi:isA ms i=true) (hd:δ[i]?=some (some d)): ∃a xs ds,d= .lst ds/\σ[i]?=some (some (.ref a))/\Φ i=[a]/\H a=some (.lst xs)/\RepsF KF (fun b=> ¬W b) H xs ds:=by
 obtain ⟨h1,h2,h3⟩:=kY hi
 obtain ⟨a,ha,o⟩:=f.at_ i d (j6 h1) hd
 rcases o with ⟨n,_⟩|⟨_,n,_⟩|⟨_,_,e,xs,ds,rfl,h,r⟩
 ·exact absurd n h2
 ·exact absurd n h3
 ·exact ⟨a,xs,ds,rfl,ha,e,h,r⟩
section
variable {X:Cx}{ms:List Nat}{k rk:Kd}{e:Expr}{m:EM}{i:Nat}{x:Str}{np apos cpos pos pos':Pos}{tg:Expr}
noncomputable def g0 (i:Nat) (m:EM):SM:=fun δ=>(m δ).bind fun d=>match d with
 | .lst ds=>some (.nx (δ.set i (some (.lst ds))))
 |_=>none
theorem pG (hi:isA ms i=true) (h:PD X ms .one e m) (hN:X.N.Nodup) (hx:X.N[i]?=some x) (hl:Loc X.env.scope x) (hs:swapsWith e (some (.Name x pos')) pos.line X.env=pure false:=by rfl)
  (hf:X.fn x=true \/X.env.scope.names.lookup x=some .local:=by first|exact .inl rfl|exact .inr rfl|assumption) (hz:decide (i+3000∈ms)=false:=by rfl):PDs X ms rk (.Assign [.Name x pos'] e pos) (g0 i m):=by
 obtain ⟨te,p,q⟩:=h
 refine ⟨_,eL hN hx hl p hs hf,fun {W} δ σ H0 H D r R hm hq=> ?_⟩
 obtain ⟨h1,h2,h3⟩:=kY hi
 obtain ⟨d,hd,e⟩:=Option.bind_eq_some_iff.mp hm
 refine q δ σ H0 H _ d R hd fun v H' s g=> ?_
 obtain ⟨a,rfl,hn,c⟩:=g
 cases d<;>simp only [reduceCtorEq,Option.some.injEq] at e
 subst e
 obtain ⟨xs,h,rr⟩:=c
 obtain ⟨Φ,f⟩:=R.foot
 obtain ⟨R',st⟩:=R.chg (P:=[]) (F:=[a]) (H':=H') f (j6 h1) (fun _ z=>nomatch z) (fun b o h _=>s b o h) (fun _ z=>nomatch z) (by simp) (fun b hb=> .inr (by rw [List.mem_singleton.mp hb];exact hn)) (.inr (.inr ⟨h2,h3,rfl,xs,_,rfl,h,rr.mono fun _ _ z=>z.elim⟩)) (fun z=>absurd z (of_decide_eq_false hz))
 exact hq _ _ H' st R'
noncomputable def ff (i:Nat) (m:EM):SM:=fun δ=>(m δ).bind fun d=>(eVar i δ).bind fun x=>match x with
 | .lst ds=>if ds.length<lim then some (.nx (δ.set i (some (.lst (ds++[d]))))) else none
 |_=>none
theorem pH (hi:isA ms i=true) (hx:PE X (.Name x np) (tVar i)) (h:PD X ms .any e m) (he:starEach [e] X.env=(false,eval e X.env)::starEach [] X.env:=by rfl)
  (hbase:attributeBase (.Name x np) "append" X.env (eval (.Name x np) X.env)=eval (.Name x np) X.env:=by rfl) (hline:(apos.endLine==cpos.line)=true:=by rfl)
  (hfew:((backTo cpos (starEach [e] X.env)).all (fun x=> !x.1)&&(backToKw cpos (keywordEach [] X.env)).all (fun x=>x.1.isSome)
   &&decide (([e]:List Expr).length+([]:List Keyword).length+(if ([]:List Keyword).isEmpty then 0 else 1)<30))=true:=by rfl)
  (hplain:(backTo cpos (starEach [] X.env)).any (·.1)=false:=by rfl)
  (hs:swapsWith (.Call (.Attribute (.Name x np) "append" apos) [e] [] cpos) none pos.line X.env=pure false:=by rfl):
  PDs X ms rk (.Expr (.Call (.Attribute (.Name x np) "append" apos) [e] [] cpos) pos) (ff i m):=by
 obtain ⟨te,p,q⟩:=h
 refine ⟨_,ii (mB PySem.F.plainAttrs_list PySem.F.slot_list_append PySem.F.type_list_append mE hx (bK p cY he) hbase hfew hline he hplain) hs,fun {W} δ σ H0 H D r R hm hq=> ?_⟩
 obtain ⟨h1,h2,h3⟩:=kY hi
 obtain ⟨d,hd,e1⟩:=Option.bind_eq_some_iff.mp hm
 obtain ⟨z,hz,e2⟩:=Option.bind_eq_some_iff.mp e1
 cases z with
 |lst ds=>
  simp only at e2
  split at e2
  ·next hl=>
   cases e2
   obtain ⟨Φ0,f0⟩:=R.foot
   obtain ⟨a,xs,ds0,e0,hsa,_,hxs,_⟩:=Rel.anyl f0 hi (aQ hz)
   refine ⟨_,hsa,.inl ⟨rfl,xs,SqL.of hxs⟩,?_⟩
   refine q δ σ H0 H _ d R hd fun v H1 s1 g1=> ?_
   have g1:RepF X.K (fun a=> ¬W a) H1 v d:=g1
   have R1:=R.same s1
   obtain ⟨Φ,f⟩:=R1.foot
   obtain ⟨a',xs',ds',e',hsa',eF,hxs',rx'⟩:=Rel.anyl f hi (aQ hz)
   rw [hsa] at hsa';cases hsa'
   cases e'
   have wa:W a:=(f.wr i a (by rw [eF];exact List.mem_cons_self ..)).1
   refine ⟨a,xs',v,rfl,rfl,hxs',by rw [rx'.length];exact Nat.lt_trans hl (by decide),?_⟩
   have kp:aE (fun b=> ¬W b) H1 (L2.upd H1 a (.lst (xs'++[v]))):=fun b ob hb k=>by
    rcases k with ⟨ys,rfl⟩|⟨c,u,rfl⟩|k
    ·rw [ag (fun z=>by rw [z,hxs'] at hb;cases hb)];exact hb
    ·rw [ag (fun z=>by rw [z,hxs'] at hb;cases hb)];exact hb
    ·rw [ag (fun z=>k (by rw [z];exact wa))];exact hb
   have nw: ∀b,¬W b-> ¬(W b \/b∈[a]):=fun b n z=>by
    rcases z with z|z
    ·exact n z
    ·rw [List.mem_singleton.mp z] at n;exact n wa
   have rn:RepsF X.K (fun b=> ¬(W b \/b∈[a])) (L2.upd H1 a (.lst (xs'++[v]))) (xs'++[v]) (ds++[d]):=((rx'.keep kp).append (.cons (g1.keep kp) .nil)).mono fun b _ n=>nw b n
   obtain ⟨R2,st⟩:=R1.chg (P:=[a]) (F:=[a]) (H':=L2.upd H1 a (.lst (xs'++[v]))) f (j6 h1) (fun b hb=>by rw [eF];exact hb) (fun b ob h n=>by rw [ag (fun z=>n (by rw [z];exact List.mem_cons_self ..))];exact h)
    (fun b hb=>by rw [List.mem_singleton.mp hb];exact ⟨_,ay,fun _ z=>(nomatch z),fun _ _ z=>(nomatch z)⟩) (by simp) (fun b hb=> .inl hb) (.inr (.inr ⟨h2,h3,rfl,_,_,rfl,ay,rn⟩)) (fun _=>hsa)
   rw [eV hsa] at R2 st
   exact hq _ σ _ ((Stp.sm s1).tr st) R2
  ·cases e2
 |_=>cases e2
end
end L2
set_option maxHeartbeats 4000000
namespace L2
open PySem PySem.Spec PyProof.Rows
variable {KF:PySem.W.Frag}{W W':Addr->Prop}
section
variable {X:Cx}
noncomputable def zh (t:TS):TS:=fun D σ H=>t {D with nx:=fun σ' H'=>(∃a ob kvs,H a=some (.dT kvs)/\H' a=some (.frz ob (.dT kvs))/\D.nx σ' (upd H' a (.dT kvs))) \/D.nx σ' H'} σ H
theorem zi {st:Stmt}{t:TS} (h:PS X st t):PS X st (zh t):=by
 intro pins s σ H D I hq
 refine thn (h pins s σ H _ I hq) fun f s1 q=> ?_
 cases f with
 |next=>
  obtain ⟨σ',H1,I1,q⟩:=q
  rcases q with ⟨a,ob,kvs,ha,hf,q⟩|q
  ·refine ⟨σ',_,I1.thaw hf fun o u z=> ?_,q⟩
   have:=I.base.frzs a o u z
   rw [ha] at this;cases this
  ·exact ⟨σ',_,I1,q⟩
 |_=>exact q
end
section
variable {H H0 H0':Hp}{a:Addr}{ob:Obj}{xs:List (List Key×V)}
theorem zj {F:List Addr} (e:H a=some (.frz ob (.dT xs))):d5 H (upd H a (.dT xs)) F:=fun b _ o h s=>by
 rw [ag (fun z=>by rw [z,e] at h;cases h;exact s.2 _ _ rfl)];exact h
theorem Tree.thw (e:H a=some (.frz ob (.dT xs))) {v:V}{d:Dv}{F:List Addr} (t:Tree KF H v d F):Tree KF (upd H a (.dT xs)) v d F:=(iB fun r=>r.thw e).1 t (zj e)
theorem Cell.thw {c:Addr} (e:H a=some (.frz ob (.dT xs))) {d:Dv} (h:Cell KF H c d):Cell KF (upd H a (.dT xs)) c d:=by
 cases d with
 |lst ds=>obtain ⟨ys,h,r⟩:=h;exact ⟨ys,by rw [ag (fun z=>by rw [z,e] at h;cases h)];exact h,RepsF.thw e r⟩
 |dic ds=>obtain ⟨ys,h,r⟩:=h;exact ⟨ys,by rw [ag (fun z=>by rw [z,e] at h;cases h)];exact h,RepsK.thw e r⟩
 |_=>exact h.elim
theorem Rel.thw {ms:List Nat}{δ:Dt}{σ:St} (R:Rel KF ms W H0' δ σ H) (e:H a=some (.frz ob (.dT xs))) (n: ¬W a) (hk:Same H0 (upd H a (.dT xs))) (h0: ∀b,b≠a->H0' b=H0 b):Rel KF ms W H0 δ σ (upd H a (.dT xs)):=by
 refine ⟨R.len,hk,fun b w=> ?_,fun i d nn hd=> ?_,?_⟩
 ·have z:b≠a:=fun z=>n (z▸w)
  obtain ⟨o,ho,so⟩:=R.soft b w
  exact ⟨o,by rw [ag z];exact ho,so⟩
 ·obtain ⟨v,hv,r⟩:=R.get i d nn hd
  exact ⟨v,hv,r.thw e⟩
 ·obtain ⟨Φ,f⟩:=R.foot
  refine ⟨Φ,fun i b hb=>⟨(f.wr i b hb).1,by rw [<-h0 b (fun z=>n (z▸(f.wr i b hb).1))];exact (f.wr i b hb).2⟩,f.dj,f.nd,fun i d nn hd=> ?_⟩
  obtain ⟨c,hc,o⟩:=f.at_ i d nn hd
  refine ⟨c,hc,?_⟩
  rcases o with ⟨m,ef,cc⟩|⟨m,m3,r⟩|⟨m,m2,ef,xs',ds',rfl,hh,r⟩
  ·exact .inl ⟨m,ef,cc.thw e⟩
  ·exact .inr (.inl ⟨m,m3,r.thw e⟩)
  ·exact .inr (.inr ⟨m,m2,ef,xs',ds',rfl,by rw [ag (fun z=>by rw [z,e] at hh;cases hh)];exact hh,RepsF.thw e r⟩)
end
noncomputable def g6 (it:Dt->Option (List Dv)) (g:Dv->Dt->Option Dt) (body:SM):SM:=fun δ=>(it δ).bind fun ds=>(loopM g body ds δ).bind fun r=>match r with
 | .nx δ'=>some (.nx δ')
 |_=>none
section
variable {X:Cx}{ms:List Nat}{rk:Kd}{pos:Pos}
theorem pI {ob:Obj}{a:Addr}{xs:List (List Key×V)}{ds:List Dv}{g:Dv->Dt->Option Dt}{mb:SM}{tg':TG}{tb:TS}{δ δ':Dt}{σ:St}{H0 H1:Hp}{D:Ends}
  (qg: ∀{W:Addr->Prop} (δ δ1:Dt) (σ:St) (H0 H:Hp) (x:V) (d:Dv) (Q:St->Hp->Prop),Rel X.K ms W H0 δ σ H->RepF X.K (fun a=> ¬W a) H x d->g d δ=some δ1->(∀σ1,Rel X.K ms W H0 δ1 σ1 H->bJ ms σ σ1->Q σ1 H)->tg' x σ H Q)
  (qb:DS X.K ms rk tb mb) (R:Rel X.K ms W H0 δ σ H1) (sa: ¬W a) (e1:H1 a=some (.frz ob (.dT xs))) (le:xs.length=ds.length) (hds: ∀(i:Nat) (k:List Key) (v:V),xs[i]?=some (k,v)->ds[i]?=some (.tup (k.map keyD)))
  (e:loopM g mb ds δ=some (.nx δ')) (hq: ∀(Wc:Addr->Prop) (σc:St) (Hc:Hp),Stp ms H0 W σ H1 Wc σc Hc->Rel X.K ms Wc H0 δ' σc Hc->D.nx σc Hc):
  ∃V:Nat->Nat->St->Hp->Prop,(∃m,V 0 m σ H1)/\ ∀i m σ H,V i m σ H->
 ((Itd a ob xs).stop i H/\D.nx σ H) \/((Itd a ob xs).go i H/\ ∃N:St->Hp->Prop,(∀σ' H',N σ' H'-> ∃m',m'<m/\V (i+1) m' σ' H')/\ ∀x H',(Itd a ob xs).yld i H x H'->tg' x σ H' fun σ2 H2=>tb {D with nx:=N,ct:=N,bk:=D.nx} σ2 H2):=by
 refine ⟨fun i n σc Hc=>n=ds.length-i/\i<=ds.length/\(∃Wc:Addr->Prop,Stp ms H0 W σ H1 Wc σc Hc/\ ∃δc,Rel X.K ms Wc H0 δc σc Hc/\loopM g mb (ds.drop i) δc=some (.nx δ')),⟨ds.length,by simp,Nat.zero_le _,W,.refl,δ,R,by simpa using e⟩,?_⟩
 rintro i n σc Hc ⟨rfl,hi',Wc,sc,δc,Rc,hr⟩
 have e2:Hc a=some (.frz ob (.dT xs)):=sc.1 a _ e1 sa
 by_cases hlt:i<ds.length
 ·right
  refine ⟨⟨e2,by lia⟩,fun σ' H'=> ∃Wc:Addr->Prop,Stp ms H0 W σ H1 Wc σ' H'/\ ∃δc,Rel X.K ms Wc H0 δc σ' H'/\loopM g mb (ds.drop (i+1)) δc=some (.nx δ'),fun σ' H' a1=>⟨ds.length-(i+1),by lia,rfl,hlt,a1⟩,fun x H' y=> ?_⟩
  obtain ⟨rfl,b,k,v,hk,rfl,hb⟩:=y
  have hd:=hds i k v hk
  have hdrop:ds.drop i= .tup (k.map keyD)::ds.drop (i+1):=by
   rw [List.drop_eq_getElem_cons hlt]
   congr 1
   rw [List.getElem?_eq_getElem hlt] at hd
   exact Option.some.inj hd
  rw [hdrop,loopM] at hr
  obtain ⟨δ1,h1,hr⟩:=Option.bind_eq_some_iff.mp hr
  obtain ⟨r1,h2,hr⟩:=Option.bind_eq_some_iff.mp hr
  refine qg δc δ1 σc H0 _ _ _ _ Rc (.tup hb (kU k)) h1 fun σ1 R1 so1=> ?_
  refine qb δ1 σ1 H0 _ _ r1 R1 h2 ?_
  cases r1 with
  |nx δ2=>exact fun W2 σ2 H2 s2 R2=>⟨W2,(sc.tr (Stp.of (Same.refl _) so1)).tr s2,δ2,R2,hr⟩
  |ct δ2=>exact fun W2 σ2 H2 s2 R2=>⟨W2,(sc.tr (Stp.of (Same.refl _) so1)).tr s2,δ2,R2,hr⟩
  |bk δ2=>
   cases hr
   exact fun W2 σ2 H2 s2 R2=>hq W2 σ2 H2 ((sc.tr (Stp.of (Same.refl _) so1)).tr s2) R2
  |rt d' δ'=>cases hr
 ·left
  have hie:i=ds.length:=by lia
  subst hie
  rw [List.drop_length,loopM] at hr
  cases hr
  exact ⟨⟨e2,by lia⟩,hq Wc σc Hc sc Rc⟩
theorem zk {tg:Expr}{body:List Stmt}{g:Dv->Dt->Option Dt}{mb:SM}{i:Nat}{x:Str}{np:Pos} (hp:PassesOwn (model X.prog X.w) X.A X.env X.xe) (hc:X.calm=true) (hi:isOwn ms i=false) (hx:PE X (.Name x np) (tVar i)) (hg:PDg X ms tg g) (hb:PDss X ms rk body mb)
  (hs: ∀v,foldedSetIterable (.Name x np) X.env v=pure v:=by intro _;rfl):PDs X ms rk (.For tg (.Name x np) body [] pos) (g6 (iD (eVar i)) g mb):=by
 obtain ⟨tg',pg,qg⟩:=hg
 obtain ⟨tb,pb,qb⟩:=hb
 refine ⟨_,zi (lS hp hc (y9 hx) pg pb hs),fun {W} δ σ H0 H D r R hm hq=> ?_⟩
 obtain ⟨ds,hds,e⟩:=Option.bind_eq_some_iff.mp hm
 obtain ⟨r',e',e⟩:=Option.bind_eq_some_iff.mp e
 cases r'<;>first|(cases e;done)|skip
 next δ'=>
 cases e
 obtain ⟨y,hy,e⟩:=Option.bind_eq_some_iff.mp hds
 cases y<;>first|(cases e;done)|skip
 next kd=>
 simp only at e
 split at e
 ·next hl=>
  cases e
  obtain ⟨v,hv,r⟩:=R.get i _ hi (aQ hy)
  cases r with
  | @dic a xs _ sa h rk'=>
  have le:xs.length=(kd.map fun p=>Dv.tup (p.1.map keyD)).length:=by rw [List.length_map];exact pF rk'
  have hds': ∀(i:Nat) (k:List Key) (v:V),xs[i]?=some (k,v)->(kd.map fun p=>Dv.tup (p.1.map keyD))[i]?=some (.tup (k.map keyD)):=fun i k v hk=>by
   obtain ⟨d,hd⟩:=pE rk' hk
   rw [List.getElem?_map,hd];rfl
  rcases h with h|⟨ob,h⟩
  ·refine ⟨_,hv,a,xs,rfl,.inl ⟨h,fun ob=> ?_⟩⟩
   refine pI qg qb (R.frz h sa) sa ay le hds' e' fun Wc σc Hc sc Rc=> ?_
   have ha:Hc a=some (.frz ob (.dT xs)):=sc.1 a _ ay sa
   have nc: ¬Wc a:=fun z=>by
    rcases sc.2.1 a z with q|q
    ·exact sa q
    ·rw [ay] at q;cases q
   refine .inl ⟨a,ob,xs,h,ha,hq Wc σc _ ⟨fun b o hb nb=> ?_,fun b hb=> ?_,fun b hb=>(sc.2.2.1 b hb).imp id fun q=>by
    simp only at q
    split at q
    ·cases q
    ·exact q,sc.2.2.2.1,fun b o hb sb=>by
    by_cases z:b=a
    ·subst z;exact ⟨_,ay,fun _ z=>(nomatch z),fun _ _ z=>(nomatch z)⟩
    ·obtain ⟨o',h',s'⟩:=sc.2.2.2.2 b o (by rw [ag z];exact hb) sb
     exact ⟨o',by rw [ag z];exact h',s'⟩⟩ (Rc.thw ha nc (fun b o hb=> ?_) fun b hb=> ?_)⟩
   ·by_cases z:b=a
    ·subst z;rw [ay];rw [h] at hb;exact hb
    ·rw [ag z];exact sc.1 b o (by rw [ag z];exact hb) nb
   ·have z:b≠a:=fun z=>nc (z▸hb)
    rcases sc.2.1 b hb with q|q
    ·exact .inl q
    ·rw [ag z] at q;exact .inr q
   ·by_cases z:b=a
    ·subst z;rw [ay];rw [<-h];exact (R.keep b o hb)
    ·rw [ag z];exact Rc.keep b o (by rw [if_neg (fun q=>z q.1)];exact hb)
   ·rw [if_neg (fun q=>hb q.1)]
  ·refine ⟨_,hv,a,xs,rfl,.inr ⟨ob,h,?_⟩⟩
   exact pI qg qb R sa h le hds' e' fun Wc σc Hc sc Rc=> .inr (hq Wc σc Hc sc Rc)
 ·cases e
end
end L2
set_option maxHeartbeats 4000000
namespace L2
noncomputable def gN' (pl:List Int) (o:Hl) (pc:Nat) (k:List Int):List Int:=(o.filter fun p=>decide (cutR pl p.1=k)).map fun p=>p.1.getD pc 0
end L2
set_option maxHeartbeats 4000000
namespace L2
noncomputable abbrev Sel:=List Int->Option Int
noncomputable def sl (sel:Sel) (pl:List Int) (o:Hl) (pc:Nat) (k:List Int):Int:=(sel (gN' pl o pc k)).getD 0
section
variable {keys few:List Int}{parts:List Hl}{h X:Hl}{pc:Nat}
end
theorem tot_pos {ps:Hl} (h1: ∀p∈ps,p.2=1) (r:List Int):0<=tot ps r/\tot ps r<=(ps.length:Int)/\(0<tot ps r↔r∈ps.map (·.1)):=by
 induction ps with
 |nil=>exact ⟨Int.le_refl _,Int.le_refl _,fun z=>absurd z (by show¬(0:Int)<0;lia),fun z=>nomatch z⟩
 |cons p ps ih=>
  obtain ⟨a,b,c⟩:=ih fun q hq=>h1 q (.tail _ hq)
  have e:tot (p::ps) r=(if p.1=r then p.2 else 0)+tot ps r:=rfl
  have e1:=h1 p (.head _)
  rw [e,List.map_cons,List.mem_cons,List.length_cons]
  by_cases hr:p.1=r
  ·rw [if_pos hr,e1]
   refine ⟨by lia,by lia,fun _=> .inl hr.symm,fun _=>by lia⟩
  ·rw [if_neg hr,Int.zero_add]
   refine ⟨a,by lia,fun z=> .inr (c.mp z),fun z=>c.mpr (z.resolve_left fun z=>hr z.symm)⟩
section
variable {co:List Int}{parts:List Hl}{h:Hl}{pc:Nat}
end
end L2
set_option maxHeartbeats 4000000
namespace L2
open PySem PySem.Spec PyProof.Rows
variable {KF:PySem.W.Frag}{W W':Addr->Prop}
section
variable {X:Cx}{ms:List Nat}{k k1 rk:Kd}{e b v:Expr}{m mb mv:EM}{i:Nat}{x:Str}{np apos cpos pos pos':Pos}
theorem zl (i:Nat) (hi:isA ms i=true) (h:PE X (.Name x pos') (tVar i)):PDs X ms .any (.Return (some (.Name x pos')) pos) (sRet (eVar i)):=by
 refine ⟨_,jD h,fun {W} δ σ H0 H D r R hm hq=> ?_⟩
 obtain ⟨d,hd,rfl⟩:=Option.map_eq_some_iff.mp hm
 obtain ⟨Φ,f⟩:=R.foot
 obtain ⟨a,xs,ds,rfl,ha,eF,h,r⟩:=Rel.anyl f hi (aQ hd)
 refine ⟨_,ha,hq _ _ σ H Φ .refl R f ?_ fun z=>nomatch z⟩
 exact RepF.lst (fun z=>z.2 (f.wr i a (by rw [eF];exact List.mem_cons_self ..)).2) h (r.mono fun _ _ n z=>n z.1)
theorem zm (hi:isA ms i=true) (hx:PE X (.Name x np) (tVar i)) (hb:PD X ms k1 b mb) (hs:jJ b):PD X ms .any (.Subscript (.Name x np) b pos) (eOp dIx (eVar i) mb):=by
 obtain ⟨tb,pb,qb⟩:=hb
 refine ⟨_,mt mw hx pb hs,fun {W} δ σ H0 H Q d R hm hq=> ?_⟩
 obtain ⟨z,hz,e⟩:=Option.bind_eq_some_iff.mp hm
 obtain ⟨y,hy,e⟩:=Option.bind_eq_some_iff.mp e
 obtain ⟨Φ0,f0⟩:=R.foot
 obtain ⟨a,xs0,ds0,rfl,hsa,_,hxs0,_⟩:=Rel.anyl f0 hi (aQ hz)
 refine ⟨_,hsa,?_⟩
 refine qb δ σ H0 H _ y R hy fun u H2 s2 g2=> ?_
 obtain ⟨Φ,f⟩:=(R.same s2).foot
 obtain ⟨a',xs,ds,e',hsa',eF,hxs,rx⟩:=Rel.anyl f hi (aQ hz)
 rw [hsa] at hsa';cases hsa'
 cases e'
 have g2:=g2.bor
 cases g2<;>simp only [dIx] at e<;>first|cases e|skip
 obtain ⟨w,hw,gw⟩:=(rx.gots_any (H:=H)).atI e
 exact .inl ⟨a,xs,_,w,rfl,rfl,SqL.of hxs,hw,hq w H2 s2 gw⟩
end
end L2
set_option maxHeartbeats 4000000
namespace L2
open PySem PySem.Spec PyProof.Rows
variable {KF:PySem.W.Frag}{W W':Addr->Prop}
section
variable {X:Cx}{ms:List Nat}{k1 k2:Kd}{a b:Expr}{ma mb:EM}{pos:Pos}
end
noncomputable def valI (b:List (Key×Int)) (k:Key):Option Int:=(b.find? fun kv=>decide (kv.1=k)).map (·.2)
noncomputable def eqKI (a b:List (Key×Int)):Bool:=a.length==b.length&&a.all fun p=>decide (valI b p.1=some p.2)
noncomputable def kvOf:List (Key×Dv)->Option (List (Key×Int))
 |[]=>some []
 |(k,.int i)::r=>(kvOf r).map ((k,i):: ·)
 |_=>none
noncomputable def dNeX:Dv->Dv->Option Dv
 | .dik a,.dik b=>(kvOf a).bind fun a=>(kvOf b).bind fun b=>some (.bl (!eqKI a b))
 |x,y=>dNe x y
end L2
set_option maxHeartbeats 4000000
namespace L2
open PySem PySem.Spec PyProof.Rows
variable {KF:PySem.W.Frag}{W W':Addr->Prop}
section
variable {X:Cx}{ms:List Nat}{k1 k2:Kd}{a b:Expr}{ma mb:EM}{pos:Pos}
end
end L2
set_option maxHeartbeats 4000000
namespace L2
open PySem PySem.Spec PyProof.Rows
variable {KF:PySem.W.Frag}{W W':Addr->Prop}
section
variable {X:Cx}{tg:Expr}{ms:List Nat}{k:Kd}{e:Expr}{m:EM}{pos:Pos}{lp:Bool}
end
end L2
set_option maxHeartbeats 4000000
namespace L2
open PySem PySem.Spec PyProof.Rows
variable {KF:PySem.W.Frag}{W W':Addr->Prop}
section
variable {X:Cx}{ms:List Nat}{k:Kd}{e:Expr}{m:EM}{pos:Pos}
end
end L2
set_option maxHeartbeats 4000000
namespace L2
open PySem PySem.Spec PyProof.Rows
variable {KF:PySem.W.Frag}{W W':Addr->Prop}
noncomputable def Fl.dt:Fl->Dt
 | .nx δ=>δ
 | .rt _ δ=>δ
 | .bk δ=>δ
 | .ct δ=>δ
noncomputable def Fl.letgo (i:Nat):Fl->Fl
 | .nx δ=> .nx (δ.set i none)
 | .rt d δ=> .rt d (δ.set i none)
 | .bk δ=> .bk (δ.set i none)
 | .ct δ=> .ct (δ.set i none)
noncomputable def sLet (i:Nat) (m:SM):SM:=fun δ=>if δ.length<1000 then (m δ).bind fun r=>if r.dt.length<1000 then some (r.letgo i) else none else none
noncomputable def bS (ms:List Nat) (i:Nat):List Nat:=ms.filter fun x=> !decide (x=i)&&(!decide (x=i+1000)&& !decide (x=i+2000))
section
variable {ms:List Nat}{i:Nat}
theorem jb {x:Nat}:x∈bS ms i↔x∈ms/\x≠i/\x≠i+1000/\x≠i+2000:=by
 unfold bS
 rw [List.mem_filter,Bool.and_eq_true,Bool.and_eq_true]
 simp
theorem dD {j k:Nat} (hi:i<1000) (hj:j<1000) (n:j≠i) (hk:k=0 \/k=1000 \/k=2000 \/k=3000):j+k∈bS ms i↔j+k∈ms:=by
 rw [jb]
 exact ⟨fun h=>h.1,fun h=>⟨h,by lia,by lia,by lia⟩⟩
theorem g7 {j:Nat} (hi:i<1000) (hj:j<1000) (n:j≠i):isOwn (bS ms i) j=isOwn ms j:=by
 unfold isOwn
 have a:=dD (ms:=ms) hi hj n (k:=0) (.inl rfl)
 have b:=dD (ms:=ms) hi hj n (k:=1000) (.inr (.inl rfl))
 have c:=dD (ms:=ms) hi hj n (k:=2000) (.inr (.inr (.inl rfl)))
 rw [decide_eq_decide.mpr (show j∈bS ms i↔j∈ms from a),decide_eq_decide.mpr b,decide_eq_decide.mpr c]
theorem zn:isOwn (bS ms i) i=false:=by
 unfold isOwn
 rw [decide_eq_false (fun z=>(jb.mp z).2.1 rfl),decide_eq_false (fun z=>(jb.mp z).2.2.1 rfl),decide_eq_false (fun z=>(jb.mp z).2.2.2 rfl)]
 rfl
theorem zo {H:Hp}{j:Nat}{a:Addr}{d:Dv}{F:List Addr} (hi:i<1000) (hj:j<1000) (n:j≠i) (w: ∀b,W' b->W b) (o:bd KF ms W H j a d F):bd KF (bS ms i) W' H j a d F:=by
 have e0:=dD (ms:=ms) hi hj n (k:=0) (.inl rfl)
 have e1:=dD (ms:=ms) hi hj n (k:=1000) (.inr (.inl rfl))
 rcases o with ⟨h,r⟩|⟨h,h1,r⟩|⟨h,h1,e,xs,ds,rfl,r1,r2⟩
 ·exact .inl ⟨e0.mpr h,r⟩
 ·exact .inr (.inl ⟨fun z=>h (e0.mp z),e1.mpr h1,r⟩)
 ·exact .inr (.inr ⟨fun z=>h (e0.mp z),fun z=>h1 (e1.mp z),e,xs,ds,rfl,r1,r2.mono fun b _ n z=>n (w b z)⟩)
theorem zp {H:Hp}{j:Nat}{a:Addr}{d:Dv}{F:List Addr} (hi:i<1000) (hj:j<1000) (n:j≠i) (o:bd KF (bS ms i) W H j a d F):bd KF ms W H j a d F:=by
 have e0:=dD (ms:=ms) hi hj n (k:=0) (.inl rfl)
 have e1:=dD (ms:=ms) hi hj n (k:=1000) (.inr (.inl rfl))
 rcases o with ⟨h,r⟩|⟨h,h1,r⟩|⟨h,h1,r⟩
 ·exact .inl ⟨e0.mp h,r⟩
 ·exact .inr (.inl ⟨fun z=>h (e0.mpr z),e1.mp h1,r⟩)
 ·exact .inr (.inr ⟨fun z=>h (e0.mpr z),fun z=>h1 (e1.mpr z),r⟩)
theorem Rel.letgo {H0 H:Hp}{δ:Dt}{σ:St} (hi:i<1000) (hl:δ.length<1000) (R:Rel KF ms W H0 δ σ H): ∃W':Addr->Prop,(∀b,W' b->W b)/\(∀b,W b->W' b \/H0 b=none)/\Rel KF (bS ms i) W' H0 δ σ H:=by
 obtain ⟨Φ,f⟩:=R.foot
 have lt: ∀{j:Nat}{d:Dv},δ[j]?=some (some d)->j<1000:=fun {j d} h=>by
  have:=(List.getElem?_eq_some_iff.mp h).1
  lia
 refine ⟨fun b=>W b/\b∉Φ i,fun b h=>h.1,fun b h=> ?_,R.len,R.keep,fun b h=>R.soft b h.1,fun j d hj hd=> ?_,fun j=>if j=i then [] else Φ j,?_⟩
 ·by_cases z:b∈Φ i
  ·exact .inr (f.wr i b z).2
  ·exact .inl ⟨h,z⟩
 ·by_cases e:isOwn ms j=true
  ·have ji:j=i:=Classical.byContradiction fun n=>by
    rw [g7 hi (lt hd) n,e] at hj
    cases hj
   subst ji
   obtain ⟨a,ha,o⟩:=f.at_ j d e hd
   refine ⟨_,ha,?_⟩
   rcases o with ⟨_,eF,c⟩|⟨_,_,t⟩|⟨_,_,eF,xs,ds,rfl,h,r⟩
   ·exact c.rep fun z=>z.2 (by rw [eF];exact List.mem_cons_self ..)
   ·exact t.rep fun b hb z=>z.2 hb
   ·exact RepF.lst (fun z=>z.2 (by rw [eF];exact List.mem_cons_self ..)) h (r.mono fun _ _ n z=>n z.1)
  ·obtain ⟨v,hv,r⟩:=R.get j d (by simpa using e) hd
   exact ⟨v,hv,r.mono fun _ _ n z=>n z.1⟩
 ·refine ⟨fun j b hb=> ?_,fun j k b h1 h2=> ?_,fun j=> ?_,fun j d hj hd=> ?_⟩
  ·by_cases e:j=i
   ·rw [if_pos e] at hb;exact nomatch hb
   ·rw [if_neg e] at hb
    have:=f.wr j b hb
    exact ⟨⟨this.1,fun z=>e (f.dj j i b hb z)⟩,this.2⟩
  ·by_cases e:j=i
   ·rw [if_pos e] at h1;exact nomatch h1
   ·by_cases e2:k=i
    ·rw [if_pos e2] at h2;exact nomatch h2
    ·rw [if_neg e] at h1;rw [if_neg e2] at h2;exact f.dj j k b h1 h2
  ·by_cases e:j=i
   ·rw [if_pos e];exact List.nodup_nil
   ·rw [if_neg e];exact f.nd j
  ·have n:j≠i:=fun z=>by rw [z,zn] at hj;cases hj
   rw [if_neg n]
   obtain ⟨a,ha,o⟩:=f.at_ j d (by rw [<-g7 hi (lt hd) n];exact hj) hd
   exact ⟨a,ha,zo hi (lt hd) n (fun b h=>h.1) o⟩
theorem Foot.gone {H0 H:Hp}{δ:Dt}{σ:St}{Φ:Nat->List Addr} (hi:i<1000) (hl:δ.length<1000) (f:Foot KF (bS ms i) W H0 δ σ H Φ):Foot KF ms W H0 (δ.set i none) σ H (fun j=>if j=i then [] else Φ j):=by
 refine ⟨fun j b hb=> ?_,fun j k b h1 h2=> ?_,fun j=> ?_,fun j d hj hd=> ?_⟩
 ·by_cases e:j=i
  ·rw [if_pos e] at hb;exact nomatch hb
  ·rw [if_neg e] at hb;exact f.wr j b hb
 ·by_cases e:j=i
  ·rw [if_pos e] at h1;exact nomatch h1
  ·by_cases e2:k=i
   ·rw [if_pos e2] at h2;exact nomatch h2
   ·rw [if_neg e] at h1;rw [if_neg e2] at h2;exact f.dj j k b h1 h2
 ·by_cases e:j=i
  ·rw [if_pos e];exact List.nodup_nil
  ·rw [if_neg e];exact f.nd j
 ·have n:j≠i:=fun z=>by
   subst z
   rw [List.getElem?_set_self'] at hd
   cases h:δ[j]?<;>rw [h] at hd<;>cases hd
  rw [List.getElem?_set_ne (Ne.symm n)] at hd
  have lt:j<1000:=by
   have:=(List.getElem?_eq_some_iff.mp hd).1
   lia
  rw [if_neg n]
  obtain ⟨a,ha,o⟩:=f.at_ j d (by rw [g7 hi lt n];exact hj) hd
  exact ⟨a,ha,zp hi lt n o⟩
theorem Rel.gone {H0 H:Hp}{δ:Dt}{σ:St} (hi:i<1000) (hl:δ.length<1000) (hs:isOwn ms i=true) (R:Rel KF (bS ms i) W H0 δ σ H):Rel KF ms W H0 (δ.set i none) σ H:=by
 obtain ⟨Φ,f⟩:=R.foot
 refine ⟨by rw [List.length_set];exact R.len,R.keep,R.soft,fun j d hj hd=> ?_,_,f.gone hi hl⟩
 have n:j≠i:=fun z=>by subst z;rw [hs] at hj;cases hj
 rw [List.getElem?_set_ne (Ne.symm n)] at hd
 have lt:j<1000:=by
  have:=(List.getElem?_eq_some_iff.mp hd).1
  lia
 exact R.get j d (by rw [g7 hi lt n];exact hj) hd
theorem zq {rk:Kd}{ts:TS}{m:SM} (hi:decide (i<1000)=true) (hs:isOwn ms i=true) (hm:(ms.all fun x=>decide (x<4000))=true) (hp:decide (i+3000∈ms)=false) (q:DS KF (bS ms i) rk ts m):DS KF ms rk ts (sLet i m):=by
 intro W δ σ H0 H D r R h hq
 have hi:=of_decide_eq_true hi
 have hp:=of_decide_eq_false hp
 have big: ∀j,j+3000∈ms->j<1000/\j≠i:=fun j h=>⟨by have:=of_decide_eq_true (List.all_eq_true.mp hm _ h);lia,fun z=>hp (z▸h)⟩
 unfold sLet at h
 split at h
 rotate_left
 ·cases h
 next hl=>
 obtain ⟨r1,h1,h⟩:=Option.bind_eq_some_iff.mp h
 split at h
 rotate_left
 ·cases h
 next hl1=>
 cases h
 obtain ⟨W1,w1,w2,R1⟩:=R.letgo hi hl
 have stp: ∀{W2:Addr->Prop}{σ':St}{H':Hp},Stp (bS ms i) H0 W1 σ H W2 σ' H'->Stp ms H0 W σ H W2 σ' H':=fun {W2 σ' H'} s=>by
  refine ⟨fun a o h n=>s.1 a o h fun z=>n (w1 a z),fun a h=>(s.2.1 a h).elim (fun z=> .inl (w1 a z)) .inr,fun a h=>(w2 a h).elim (s.2.2.1 a) .inr,fun j hj hp=> ?_,s.2.2.2.2⟩
  obtain ⟨b1,b2⟩:=big j hp
  exact s.2.2.2.1 j (by rw [g7 hi b1 b2];exact hj) ((dD hi b1 b2 (.inr (.inr (.inr rfl)))).mpr hp)
 refine q δ σ H0 H D r1 R1 h1 ?_
 cases r1 with
 |nx δ1=>exact fun W2 σ' H' s R2=>hq W2 σ' H' (stp s) (R2.gone hi hl1 hs)
 |bk δ1=>exact fun W2 σ' H' s R2=>hq W2 σ' H' (stp s) (R2.gone hi hl1 hs)
 |ct δ1=>exact fun W2 σ' H' s R2=>hq W2 σ' H' (stp s) (R2.gone hi hl1 hs)
 |rt d δ1=>
  intro v W2 σ' H' Φ s R2 f g ap
  refine hq v W2 σ' H' _ (stp s) (R2.gone hi hl1 hs) (f.gone hi hl1) g fun e j a hj ev=> ?_
  obtain ⟨b1,b2⟩:=big j hj
  rw [if_neg b2]
  exact ap e j a ((dD hi b1 b2 (.inr (.inr (.inr rfl)))).mpr hj) ev
end
section
variable {X:Cx}{ms ms':List Nat}{k rk:Kd}{e a b:Expr}{m ma mb:EM}{pos pos':Pos}{i:Nat}{x:Str}{st:List Stmt}{sm:SM}
theorem jc (i:Nat) (h:PDss X ms' rk st sm) (hi:decide (i<1000)=true:=by rfl) (hs:isOwn ms i=true:=by rfl) (hm:(ms.all fun x=>decide (x<4000))=true:=by rfl) (hp:decide (i+3000∈ms)=false:=by rfl) (he:bS ms i=ms':=by rfl):PDss X ms rk st (sLet i sm):=by
 subst he
 obtain ⟨ts,p,q⟩:=h
 exact ⟨ts,p,zq hi hs hm hp q⟩
end
end L2
set_option maxHeartbeats 4000000
namespace L2
open PySem PySem.Spec PyProof.Rows
variable {KF:PySem.W.Frag}{W W':Addr->Prop}
theorem ak.rep1 {H:Hp}{k:List Key}{v:V}{d:Dv} (r:RepF KF Imm H v d): ∀{xs:List (List Key×V)}{ds:List (List Key×Dv)}{F:List Addr},ak KF H xs ds F-> ∃G:List Addr,G.Sublist F/\ak KF H (xs.map fun kv=>if kv.1=k then (kv.1,v) else kv) (ds.map fun kv=>if kv.1=k then (kv.1,d) else kv) G
 |_,_,_,.nil=>⟨[],List.Sublist.refl _,.nil⟩
 |_,_,_,.cons (k:=k1) (F:=F1) (G:=F2) h t=>by
  obtain ⟨G,s,t'⟩:=ak.rep1 (k:=k) r t
  rw [List.map_cons,List.map_cons]
  by_cases e:k1=k
  ·rw [if_pos e,if_pos e]
   exact ⟨[]++G,s.trans (List.sublist_append_right F1 F2),.cons (.imm r) t'⟩
  ·rw [if_neg e,if_neg e]
   exact ⟨F1++G,List.Sublist.append (List.Sublist.refl _) s,.cons h t'⟩
theorem ak.any1 {H:Hp}{k:List Key}: ∀{xs:List (List Key×V)}{ds:List (List Key×Dv)}{F:List Addr},ak KF H xs ds F->(xs.any fun kv=>decide (kv.1=k))=(ds.any fun kv=>decide (kv.1=k))
 |_,_,_,.nil=>rfl
 |_,_,_,.cons h t=>by rw [List.any_cons,List.any_cons,ak.any1 t]
theorem ak.put1 {H:Hp}{k:List Key}{v:V}{d:Dv} (r:RepF KF Imm H v d) {xs:List (List Key×V)}{ds:List (List Key×Dv)}{F:List Addr} (t:ak KF H xs ds F): ∃G:List Addr,G.Sublist F/\ak KF H (putK xs k v) (putD ds k d) G:=by
 unfold putK putD
 rw [t.any1]
 split
 ·exact t.rep1 r
 ·have:=ak.snoc (k:=k) (.imm r) t
  rw [List.append_nil] at this
  exact ⟨F,List.Sublist.refl _,this⟩
section
variable {X:Cx}{ms:List Nat}{k k2 k3 rk:Kd}{ix:Expr}{m mi:EM}{pos:Pos}{i:Nat}{x:Str}{np apos cpos ipos:Pos}
end
end L2
set_option maxHeartbeats 4000000
namespace L2
open PySem PySem.Spec PyProof.Rows
variable {KF:PySem.W.Frag}{W W':Addr->Prop}
noncomputable def dNeY:Dv->Dv->Option Dv
 | .dic [(k,.int i)],.dic [(k',.int i')]=>if k=k'/\i=i' then some (.bl false) else none
 |x,y=>dNeX x y
section
variable {X:Cx}{ms:List Nat}{k k1 rk:Kd}{e b v:Expr}{m mb mv:EM}{i:Nat}{x:Str}{np apos cpos pos pos':Pos}
noncomputable def fg:List Dv->Option Dv
 |[.int i,.int j]=>some (.int (if j<i then j else i))
 |_=>none
theorem zr:dh KF (fun xs H Q=> ∃i j,xs=[.int i,.int j]/\Q (.int (if j<i then j else i)) H) .imm fg:=by
 intro W H vs ds d Q r e hq
 unfold fg at e
 split at e
 ·cases e
  cases r with
  |cons r1 r=>
   cases r with
   |cons r2 r=>
    cases r
    cases r1
    cases r2
    exact ⟨_,_,rfl,hq _ H (fun _ _ z=>z) (RepF.int _)⟩
 ·cases e
theorem zt {i j:Int}:fg [.int i,.int j]=some (.int (if j<i then j else i)):=rfl
end
end L2
set_option maxHeartbeats 4000000
namespace L2
open PySem PySem.Spec PyProof.Rows
variable {KF:PySem.W.Frag}{W W':Addr->Prop}
noncomputable def OwnT (KF:PySem.W.Frag) (fl:Bool) (H:Hp) (a:Addr) (d:Dv) (F:List Addr):Prop:=if fl=true then F=[a]/\Cell KF H a d else Tree KF H (.ref a) d F
noncomputable def pJ (KF:PySem.W.Frag) (rk:Kd) (H:Hp) (F F':List Addr) (H':Hp) (v:V) (r:Dv):Prop:=match rk with
 | .one=> ∃c,v= .ref c/\(c∈F \/H c=none)/\c∉F'/\Cell KF H' c r
 | .imm=>RepF KF Imm H' v r
 |_=>False
noncomputable def spIO (KF:PySem.W.Frag) (fl:Bool) (rk:Kd) (m:List Dv->Option (Dv×Dv)):Sp:=fun vs H Q _=> ∃(a:Addr) (d:Dv) (F:List Addr) (us:List V) (ds:List Dv) (d' r:Dv),vs= .ref a::us/\F.Nodup/\OwnT KF fl H a d F/\RepsF KF (fun b=>b∉F) H us ds/\m (d::ds)=some (d',r)/\
 ∀(v:V) (H':Hp) (F':List Addr),F'.Nodup->(∀b o,H b=some o->b∉F->H' b=some o)->(∀b∈F,∃o,H' b=some o/\Sft o)->(∀b∈F',b∈F \/H b=none)->OwnT KF fl H' a d' F'->pJ KF rk H F F' H' v r->Q v H'
noncomputable def ioM (nn:Bool) (n np:Nat) (body:SM) (ds:List Dv):Option (Dv×Dv):=if ds.length=np then (body (bc n ds)).bind fun r=>match r with
 | .rt d δ=>(δ[0]?).join.map fun s=>(s,d)
 | .nx δ=>if nn=true then (δ[0]?).join.map fun s=>(s,.non) else none
 |_=>none
 else none
theorem OwnT.there {fl:Bool}{H:Hp}{a:Addr}{d:Dv}{F:List Addr} (t:OwnT KF fl H a d F): ∀b∈F,∃o,H b=some o/\Sft o:=by
 unfold OwnT at t
 split at t
 ·obtain ⟨rfl,c⟩:=t
  intro b hb
  rw [List.mem_singleton.mp hb]
  exact c.there
 ·exact t.there
noncomputable def flOk (fl:Bool) (ms:List Nat):Bool:=if fl=true then decide (0∈ms) else decide (1000∈ms)&&decide (0∉ms)
theorem OwnT.at {fl:Bool}{ms:List Nat}{H:Hp}{a:Addr}{d:Dv}{F:List Addr} (h:flOk fl ms=true) (t:OwnT KF fl H a d F):isOwn ms 0=true/\bd KF ms W H 0 a d F:=by
 unfold OwnT at t
 unfold flOk at h
 split at t
 ·next e=>
  rw [if_pos e] at h
  exact ⟨du (of_decide_eq_true h),.inl ⟨of_decide_eq_true h,t.1,t.2⟩⟩
 ·next e=>
  rw [if_neg e,Bool.and_eq_true] at h
  exact ⟨eT (i:=0) (of_decide_eq_true h.1),.inr (.inl ⟨of_decide_eq_true h.2,of_decide_eq_true h.1,t⟩)⟩
theorem bd.ownT {fl:Bool}{ms:List Nat}{H:Hp}{a:Addr}{d:Dv}{F:List Addr} (h:flOk fl ms=true) (o:bd KF ms W H 0 a d F):OwnT KF fl H a d F:=by
 unfold flOk at h
 unfold OwnT
 split
 ·next e=>
  rw [if_pos e] at h
  have h0:=of_decide_eq_true h
  rcases o with ⟨_,e,c⟩|⟨n,_⟩|⟨n,_⟩
  ·exact ⟨e,c⟩
  ·exact absurd h0 n
  ·exact absurd h0 n
 ·next e=>
  rw [if_neg e,Bool.and_eq_true] at h
  have h0:=of_decide_eq_true h.1
  have h1:=of_decide_eq_true h.2
  rcases o with ⟨n,_⟩|⟨_,_,t⟩|⟨_,n,_⟩
  ·exact absurd n h1
  ·exact t
  ·exact absurd h0 n
theorem zu {fl:Bool}{ms:List Nat}{H:Hp}{a:Addr}{d:Dv}{F:List Addr}{us:List V}{ds:List Dv}{N:List Str} (h:flOk fl ms=true) (nd:F.Nodup) (t:OwnT KF fl H a d F) (r:RepsF KF (fun b=>b∉F) H us ds) (hms: ∀i,isOwn ms i=true->i=0 \/(d::ds).length<=i) (hn:(d::ds).length<=N.length):
  Rel KF ms (fun b=>b∈F) (fun b=>if b∈F then none else H b) (bc N.length (d::ds)) (bp N (.ref a::us)) H:=by
 have hl2:=r.length
 have no: ∀{i:Nat}{d0:Dv},(bc N.length (d::ds))[i]?=some (some d0)->i<(d::ds).length/\(d::ds)[i]?=some d0:=fun {i d0} hd=>by
  unfold bc at hd
  by_cases hi:i<(d::ds).length
  ·rw [List.getElem?_append_left (by rw [List.length_map];exact hi),List.getElem?_map] at hd
   obtain ⟨d',e1,e2⟩:=Option.map_eq_some_iff.mp hd
   cases e2
   exact ⟨hi,e1⟩
  ·rw [List.getElem?_append_right (by rw [List.length_map];lia)] at hd
   have:=List.mem_of_getElem? hd
   rw [List.mem_replicate] at this
   exact nomatch this.2
 have at0:(bp N (.ref a::us))[0]?=some (some (.ref a)):=rfl
 obtain ⟨w0,o0⟩:=t.at (W:=fun b=>b∈F) h
 refine ⟨?_,fun b o h=> ?_,fun b hb=>t.there b hb,fun i d0 n hd=> ?_,fun i=>if i=0 then F else [],⟨fun i b hb=> ?_,fun i j b hi hj=> ?_,fun i=> ?_,fun i d0 n hd=> ?_⟩⟩
 ·unfold bp bc
  simp only [List.length_append,List.length_map,List.length_replicate,List.length_cons,hl2]
 ·split at h
  ·cases h
  ·exact h
 ·obtain ⟨hi,e1⟩:=no hd
  cases i with
  |zero=>rw [w0] at n;cases n
  |succ i=>
   obtain ⟨v,hv,rv⟩:=r.get (i:=i) (by simpa using e1)
   refine ⟨v,?_,rv⟩
   unfold bp
   rw [List.getElem?_append_left (by rw [List.length_map,List.length_cons];rw [List.length_cons] at hi;lia),List.getElem?_map,List.getElem?_cons_succ,hv]
   rfl
 ·split at hb
  ·exact ⟨hb,if_pos hb⟩
  ·cases hb
 ·by_cases h1:i=0<;>by_cases h2:j=0
  ·rw [h1,h2]
  ·rw [if_neg h2] at hj;cases hj
  ·rw [if_neg h1] at hi;cases hi
  ·rw [if_neg h1] at hi;cases hi
 ·split
  ·exact nd
  ·exact List.nodup_nil
 ·obtain ⟨hi,e1⟩:=no hd
  rcases hms i n with rfl|z
  ·cases e1
   exact ⟨a,at0,by rw [if_pos rfl];exact o0⟩
  ·lia
theorem pK {fl:Bool}{ms:List Nat}{H H':Hp}{a:Addr}{d':Dv}{F:List Addr}{δ':Dt}{σ0 σ':St}{Φ:Nat->List Addr} (h:flOk fl ms=true) (hp:3000∈ms) (w0:isOwn ms 0=true) (so: ∀b∈F,∃o,H b=some o/\Sft o)
  (st:Stp ms (fun b=>if b∈F then none else H b) (fun b=>b∈F) σ0 H W' σ' H') (R':Rel KF ms W' (fun b=>if b∈F then none else H b) δ' σ' H') (f:Foot KF ms W' (fun b=>if b∈F then none else H b) δ' σ' H' Φ) (hs:σ0[0]?=some (some (.ref a))) (hd:δ'[0]?=some (some d')):
  (∀b o,H b=some o->b∉F->H' b=some o)/\(∀b∈F,∃o,H' b=some o/\Sft o)/\(∀b∈Φ 0,b∈F \/H b=none)/\OwnT KF fl H' a d' (Φ 0):=by
 refine ⟨fun b o hb n=>R'.keep b o (by rw [if_neg n];exact hb),fun b hb=> ?_,fun b hb=> ?_,?_⟩
 ·obtain ⟨o,ho,s⟩:=so b hb
  exact st.2.2.2.2 b o ho s
 ·have:=(f.wr 0 b hb).2
  by_cases z:b∈F
  ·exact .inl z
  ·rw [if_neg z] at this;exact .inr this
 ·obtain ⟨a',ha',o⟩:=f.at_ 0 d' w0 hd
  have:=st.2.2.2.1 0 w0 hp
  rw [ha',hs] at this
  cases this
  exact o.ownT h
section
variable {P:Program}{w:World}{K:PySem.W.Frag}{mg:Str->Option Value}{base:Heap}
theorem pL {α:Type}{o:Option (Option α)}{x:α} (h:o.join=some x):o=some (some x):=by
 cases o with
 |none=>cases h
 |some y=>exact congrArg some h
theorem kZ {x qual:Str}{st:Stmt}{f:Addr}{fd:FuncData}{N ps:List Str}{k:Nat}{body:SM}{fl nn:Bool}{rk:Kd} (ms:List Nat) (F:Fun K x qual st f fd) (S:aP N ps (ar st)) (hfl:flOk fl ms=true) (hpin:decide (3000∈ms)=true) (hrk:rk= .imm \/(rk= .one/\nn=false))
  (hms:ms.all (fun i=>decide (i=0 \/i=1000 \/i=3000)||decide (ps.length<=if 2000<=i then i-2000 else if 1000<=i then i-1000 else i))=true) (hps:decide (0<ps.length/\ps.length<=N.length/\N.length<1000)=true)
  (hb: ∀(cdv:Value) (A:Around) (outer:List Env) (s:Shared) (H:Hp) (E:XK),Room k (A.deeper (envOfC qual (ar st) s.heap.objs.size f cdv))->PDss (cxOf CX0 P w K mg base N qual (ar st) f cdv A outer s H E).nox ms rk (aL st) body):
  FnOk P w K mg base CX0 (k+1) f fd ps (spIO K fl rk (ioM nn N.length ps.length body)):=by
 have hp:=of_decide_eq_true hpin
 have hps':=of_decide_eq_true hps
 have len: ∀{ds:List Dv}{d:Dv×Dv},ioM nn N.length ps.length body ds=some d->ds.length=ps.length:=fun {ds d} h=>by
  unfold ioM at h
  split at h
  ·assumption
  ·cases h
 refine F.ok (k:=k) S (fun vs H Q E h=> ?_) fun cdv A outer s H vs Q E hr h=> ?_
 ·obtain ⟨a,d,F,us,ds,d',r',rfl,nd,t,r,hm,_⟩:=h
  have:=len hm
  rw [List.length_cons] at this|-
  rw [r.length]
  exact this
 ·obtain ⟨a,d,F,us,ds,d',r',rfl,nd,t,r,hm,hq⟩:=h
  obtain ⟨ts,p,q⟩:=hb cdv A outer s H E hr
  refine ⟨ts,p,?_⟩
  have hl:=len hm
  have hown: ∀i,isOwn ms i=true->i=0 \/(d::ds).length<=i:=fun i hi=>by
   rw [hl]
   unfold isOwn at hi
   rw [Bool.or_eq_true,Bool.or_eq_true] at hi
   rcases hi with hi|hi|hi
   all_goals
    have:=List.all_eq_true.mp hms _ (of_decide_eq_true hi)
    rw [Bool.or_eq_true] at this
    rcases this with this|this
    ·have:=of_decide_eq_true this
     lia
    ·have:=of_decide_eq_true this
     split at this<;>(try split at this)<;>lia
  have R:=zu (KF:=K) (N:=N) hfl nd t r hown (by rw [hl];exact hps'.2.1)
  obtain ⟨w0,_⟩:=t.at (W:=fun b=>b∈F) hfl
  have so:=t.there
  unfold ioM at hm
  rw [if_pos hl] at hm
  obtain ⟨fl',hf,e⟩:=Option.bind_eq_some_iff.mp hm
  cases fl' with
  |nx δ'=>
   simp only at e
   split at e
   ·next en=>
    obtain ⟨sd,hd,e⟩:=Option.map_eq_some_iff.mp e
    cases e
    refine q _ _ _ H _ _ R hf fun W' σ' H' st' R'=> ?_
    obtain ⟨Φ,f⟩:=R'.foot
    obtain ⟨c1,c2,c4,t'⟩:=pK hfl hp w0 so st' R' f rfl (pL hd)
    rcases hrk with rfl|⟨rfl,z⟩
    ·exact hq .non H' (Φ 0) (f.nd 0) c1 c2 c4 t' (RepF.non)
    ·rw [en] at z;cases z
   ·cases e
  |rt dr δ'=>
   obtain ⟨sd,hd,e⟩:=Option.map_eq_some_iff.mp e
   cases e
   refine q _ _ _ H _ _ R hf fun v W' σ' H' Φ st' R' f g ap=> ?_
   obtain ⟨c1,c2,c4,t'⟩:=pK hfl hp w0 so st' R' f rfl (pL hd)
   refine hq v H' (Φ 0) (f.nd 0) c1 c2 c4 t' ?_
   rcases hrk with rfl|⟨rfl,z⟩
   ·exact g
   ·obtain ⟨c,rfl,hc,cc⟩:=g
    refine ⟨c,rfl,?_,ap rfl 0 c hp rfl,cc⟩
    by_cases z:c∈F
    ·exact .inl z
    ·have hc:(if c∈F then none else H c)=none:=hc
     rw [if_neg z] at hc;exact .inr hc
  |_=>cases e
end
end L2
set_option maxHeartbeats 4000000
namespace L2
open PySem PySem.Spec PyProof.Rows
variable {KF:PySem.W.Frag}{W W':Addr->Prop}
noncomputable def flAt (fl:Bool) (ms:List Nat) (i:Nat):Bool:=if fl=true then decide (i∈ms) else decide (i+1000∈ms)&&decide (i∉ms)
theorem flAt.own {fl:Bool}{ms:List Nat}{i:Nat} (h:flAt fl ms i=true):isOwn ms i=true:=by
 unfold flAt at h
 split at h
 ·exact du (of_decide_eq_true h)
 ·rw [Bool.and_eq_true] at h
  exact eT (of_decide_eq_true h.1)
theorem flAt.of {fl:Bool}{ms:List Nat}{i:Nat}{H:Hp}{a:Addr}{d:Dv}{F:List Addr} (h:flAt fl ms i=true) (o:bd KF ms W H i a d F):OwnT KF fl H a d F:=by
 unfold flAt at h
 unfold OwnT
 split
 ·next e=>
  rw [if_pos e] at h
  have h0:=of_decide_eq_true h
  rcases o with ⟨_,e,c⟩|⟨n,_⟩|⟨n,_⟩
  ·exact ⟨e,c⟩
  ·exact absurd h0 n
  ·exact absurd h0 n
 ·next e=>
  rw [if_neg e,Bool.and_eq_true] at h
  have h0:=of_decide_eq_true h.1
  have h1:=of_decide_eq_true h.2
  rcases o with ⟨n,_⟩|⟨_,_,t⟩|⟨_,n,_⟩
  ·exact absurd n h1
  ·exact t
  ·exact absurd h0 n
theorem flAt.to {fl:Bool}{ms:List Nat}{i:Nat}{H:Hp}{a:Addr}{d:Dv}{F:List Addr} (h:flAt fl ms i=true) (t:OwnT KF fl H a d F):bd KF ms W H i a d F:=by
 unfold flAt at h
 unfold OwnT at t
 split at t
 ·next e=>
  rw [if_pos e] at h
  exact .inl ⟨of_decide_eq_true h,t.1,t.2⟩
 ·next e=>
  rw [if_neg e,Bool.and_eq_true] at h
  exact .inr (.inl ⟨of_decide_eq_true h.2,of_decide_eq_true h.1,t⟩)
structure IOPost (KF:PySem.W.Frag) (fl:Bool) (rk:Kd) (ms:List Nat) (W:Addr->Prop) (H0:Hp) (δ:Dt) (σ:St) (i:Nat) (H:Hp) (d' r:Dv) (v:V) (H':Hp):Prop where
 ex: ∃(H1:Hp) (a:Addr) (F':List Addr) (Φ:Nat->List Addr),Same H H1/\Foot KF ms W H0 δ σ H1 Φ/\σ[i]?=some (some (.ref a))/\F'.Nodup/\(∀b o,H1 b=some o->b∉Φ i->H' b=some o)/\(∀b∈Φ i,∃o,H' b=some o/\Sft o)/\(∀b∈F',b∈Φ i \/H1 b=none)/\OwnT KF fl H' a d' F'/\pJ KF rk H1 (Φ i) F' H' v r
noncomputable def PIO (X:Cx) (ms:List Nat) (i:Nat) (fl:Bool) (rk:Kd) (e:Expr) (mm:Dt->Option (Dv×Dv)):Prop:= ∃te,PE X e te/\
 ∀{W:Addr->Prop} (δ:Dt) (σ:St) (H0 H:Hp) (Q:VK) (d' r:Dv),Rel X.K ms W H0 δ σ H->mm δ=some (d',r)->(∀v H',IOPost X.K fl rk ms W H0 δ σ i H d' r v H'->Q v H')->te σ H Q
noncomputable def g8 (i:Nat) (m:List Dv->Option (Dv×Dv)) (ml:Dt->Option (List Dv)):Dt->Option (Dv×Dv):=fun δ=>(eVar i δ).bind fun d=>(ml δ).bind fun ds=>m (d::ds)
section
variable {ms:List Nat}{fl:Bool}{rk:Kd}{σ:St}{H0 H H':Hp}{δ:Dt}{i j:Nat}{d' r:Dv}{v:V}
theorem Rel.free {c:Addr}{Φ:Nat->List Addr} (R:Rel KF ms W H0 δ σ H) (f:Foot KF ms W H0 δ σ H Φ) (hc: ∀j,c∉Φ j) (h0:H0 c=none):Rel KF ms (fun b=>W b/\b≠c) H0 δ σ H/\Stp ms H0 W σ H (fun b=>W b/\b≠c) σ H:=by
 refine ⟨⟨R.len,R.keep,fun a w=>R.soft a w.1,fun k d n hd=> ?_,Φ,⟨fun k b hb=>⟨⟨(f.wr k b hb).1,fun z=>hc k (z▸hb)⟩,(f.wr k b hb).2⟩,f.dj,f.nd,fun k d n hd=> ?_⟩⟩,fun a o h n=>h,fun a w=> .inl w.1,fun a w=> ?_,fun _ _ _=>rfl,fun b o h s=>⟨o,h,s⟩⟩
 ·obtain ⟨u,hu,q⟩:=R.get k d n hd
  exact ⟨u,hu,q.mono fun a _ n z=>n z.1⟩
 ·obtain ⟨a,ha,o⟩:=f.at_ k d n hd
  exact ⟨a,ha,o.keep (.of (Same.refl _)) (fun _ _ _ h=>h) fun b n1 _ z=>n1 z.1⟩
 ·by_cases z:a=c
  ·exact .inr (z▸h0)
  ·exact .inl ⟨w,z⟩
theorem Rel.adopt {c:Addr}{d:Dv}{Φ:Nat->List Addr} (R:Rel KF ms W H0 δ σ H) (f:Foot KF ms W H0 δ σ H Φ) (hc: ∀j,c∉Φ j) (w:W c) (h0:H0 c=none) (ce:Cell KF H c d) (hj:j∈ms) (hz:j+3000∉ms):
  Rel KF ms W H0 (δ.set j (some d)) (σ.set j (some (.ref c))) H/\Stp ms H0 W σ H W (σ.set j (some (.ref c))) H:=by
 refine ⟨⟨by rw [List.length_set,List.length_set];exact R.len,R.keep,R.soft,fun k d' n hd=> ?_,fun k=>if k=j then [c] else Φ k,⟨fun k b hb=> ?_,fun k k' b hb hb'=> ?_,fun k=> ?_,fun k d' n hd=> ?_⟩⟩,fun a o h n=>h,fun a w=> .inl w,fun a w=> .inl w,fun k hk hp=> ?_,fun b o h s=>⟨o,h,s⟩⟩
 ·have ne:j≠k:=fun z=>by rw [<-z,du hj] at n;cases n
  rw [List.getElem?_set_ne ne] at hd|-
  exact R.get k d' n hd
 ·split at hb
  ·rw [List.mem_singleton.mp hb];exact ⟨w,h0⟩
  ·exact f.wr k b hb
 ·split at hb
  ·next e=>
   split at hb'
   ·next e'=>rw [e,e']
   ·next e'=>rw [List.mem_singleton.mp hb] at hb';exact (hc k' hb').elim
  ·next e=>
   split at hb'
   ·next e'=>rw [List.mem_singleton.mp hb'] at hb;exact (hc k hb).elim
   ·exact f.dj k k' b hb hb'
 ·split
  ·simp
  ·exact f.nd k
 ·by_cases e:j=k
  ·subst e
   have hl:j<δ.length:=by
    have:=(List.getElem?_eq_some_iff.mp hd).1
    rwa [List.length_set] at this
   rw [List.getElem?_set_self hl] at hd
   cases hd
   exact ⟨c,List.getElem?_set_self (by rw [R.len];exact hl),by rw [if_pos rfl];exact .inl ⟨hj,rfl,ce⟩⟩
  ·rw [List.getElem?_set_ne e] at hd|-
   obtain ⟨a,ha,o⟩:=f.at_ k d' n hd
   exact ⟨a,ha,by rw [if_neg (Ne.symm e)];exact o⟩
 ·have ne:j≠k:=fun z=>hz (z▸hp)
  exact List.getElem?_set_ne ne
theorem IOPost.core (R:Rel KF ms W H0 δ σ H) (hi:flAt fl ms i=true) (p:IOPost KF fl rk ms W H0 δ σ i H d' r v H'):
  ∃(W2:Addr->Prop) (Φ:Nat->List Addr),Rel KF ms W2 H0 (δ.set i (some d')) σ H'/\Stp ms H0 W σ H W2 σ H'/\Foot KF ms W2 H0 (δ.set i (some d')) σ H' Φ/\
   (match rk with| .one=> ∃c,v= .ref c/\W2 c/\H0 c=none/\(∀j,c∉Φ j)/\Cell KF H' c r| .imm=>RepF KF Imm H' v r|_=>False):=by
 obtain ⟨H1,a,F',Φ,s1,f,hs,nd,c1,c2,c4,t,res⟩:=p.ex
 have R1:=R.same s1
 have key: ∀G:List Addr,(∀b∈F',b∈G)->(∀b∈G,b∈Φ i \/H1 b=none)->(∀b∈G,∃o,H' b=some o/\Sft o)->Rel KF ms (fun b=>W b \/b∈G) H0 (δ.set i (some d')) σ H'/\Stp ms H0 W σ H (fun b=>W b \/b∈G) σ H'/\Foot KF ms (fun b=>W b \/b∈G) H0 (δ.set i (some d')) σ H' (fun j=>if j=i then F' else Φ j):=fun G g1 g2 g3=>by
  obtain ⟨R2,st,ft⟩:=R1.chgF (P:=Φ i) (F:=F') (G:=G) f (flAt.own hi) (fun b hb=>hb) c1 c2 nd g1 g2 g3 (flAt.to hi t) fun _=>hs
  rw [eV hs] at R2 st ft
  exact ⟨R2,(Stp.sm s1).tr st,ft⟩
 cases rk with
 |one=>
  obtain ⟨c,rfl,hc,nc,ce⟩:=res
  obtain ⟨R2,st,ft⟩:=key (c::F') (fun b hb=>List.mem_cons_of_mem _ hb) (fun b hb=>by
   rcases List.mem_cons.mp hb with rfl|hb
   ·exact hc
   ·exact c4 b hb) (fun b hb=>by
   rcases List.mem_cons.mp hb with rfl|hb
   ·exact ce.there
   ·exact t.there b hb)
  refine ⟨_,_,R2,st,ft,c,rfl,.inr (List.mem_cons_self ..),?_,fun j=> ?_,ce⟩
  ·rcases hc with hc|hc
   ·exact (f.wr i c hc).2
   ·exact bE R1.keep hc
  ·split
   ·exact nc
   ·next e=>
    intro z
    rcases hc with hc|hc
    ·exact e (f.dj j i c z hc)
    ·obtain ⟨o,ho,_⟩:=R1.own (f.wr j c z).1
     rw [hc] at ho;cases ho
 |imm=>
  obtain ⟨R2,st,ft⟩:=key F' (fun b hb=>hb) c4 t.there
  exact ⟨_,_,R2,st,ft,res⟩
 |_=>exact res.elim
end
section
variable {X:Cx}{ms:List Nat}{fl:Bool}{rk rk':Kd}{i j:Nat}{e:Expr}{mm:Dt->Option (Dv×Dv)}{x:Str}{pos pos':Pos}
noncomputable def cV (i j:Nat) (mm:Dt->Option (Dv×Dv)):SM:=fun δ=>(mm δ).map fun p=> .nx ((δ.set i (some p.1)).set j (some p.2))
theorem zv (hi:flAt fl ms i=true) (hj:isOwn ms j=false) (h:PIO X ms i fl rk e mm) (hN:X.N.Nodup) (hx:X.N[j]?=some x) (hl:Loc X.env.scope x) (hs:swapsWith e (some (.Name x pos')) pos.line X.env=pure false:=by rfl)
  (hf:X.fn x=true \/X.env.scope.names.lookup x=some .local:=by first|exact .inl rfl|exact .inr rfl|assumption):PDs X ms rk' (.Assign [.Name x pos'] e pos) (cV i j mm):=by
 obtain ⟨te,p,q⟩:=h
 refine ⟨_,eL hN hx hl p hs hf,fun {W} δ σ H0 H D r R hm hq=> ?_⟩
 obtain ⟨⟨d',rr⟩,hd,rfl⟩:=Option.map_eq_some_iff.mp hm
 refine q δ σ H0 H _ d' rr R hd fun v H' po=> ?_
 obtain ⟨W2,Φ,R2,st,ft,res⟩:=po.core R hi
 cases rk with
 |one=>
  obtain ⟨c,rfl,w,h0,nc,ce⟩:=res
  obtain ⟨R3,st3⟩:=R2.free ft nc h0
  obtain ⟨R4,so⟩:=R3.set hj (ce.rep (S:=fun b=> ¬(W2 b/\b≠c)) fun z=>z.2 rfl)
  exact hq _ _ H' ((st.tr st3).tr (.of (Same.refl _) so)) R4
 |imm=>
  obtain ⟨R4,so⟩:=R2.set hj (RepF.mono (S':=fun b=> ¬W2 b) (fun _ _ z=>z.elim) res)
  exact hq _ _ H' (st.tr (.of (Same.refl _) so)) R4
 |_=>exact res.elim
theorem pM (hi:flAt fl ms i=true) (hj:decide (j∈ms)=true) (h:PIO X ms i fl .one e mm) (hN:X.N.Nodup) (hx:X.N[j]?=some x) (hl:Loc X.env.scope x) (hs:swapsWith e (some (.Name x pos')) pos.line X.env=pure false:=by rfl)
  (hf:X.fn x=true \/X.env.scope.names.lookup x=some .local:=by first|exact .inl rfl|exact .inr rfl|assumption) (hz:decide (j+3000∈ms)=false:=by rfl):PDs X ms rk' (.Assign [.Name x pos'] e pos) (cV i j mm):=by
 obtain ⟨te,p,q⟩:=h
 refine ⟨_,eL hN hx hl p hs hf,fun {W} δ σ H0 H D r R hm hq=> ?_⟩
 obtain ⟨⟨d',rr⟩,hd,rfl⟩:=Option.map_eq_some_iff.mp hm
 refine q δ σ H0 H _ d' rr R hd fun v H' po=> ?_
 obtain ⟨W2,Φ,R2,st,ft,c,rfl,w,h0,nc,ce⟩:=po.core R hi
 obtain ⟨R4,st4⟩:=R2.adopt ft nc w h0 ce (of_decide_eq_true hj) (of_decide_eq_false hz)
 exact hq _ _ H' (st.tr st4) R4
end
section
variable {X:Cx}{ms:List Nat}{fl:Bool}{rk:Kd}{i:Nat}{x y:Str}{ps:List Str}{np p pos:Pos}{es:List Expr}{ml:Dt->Option (List Dv)}{m:List Dv->Option (Dv×Dv)}
theorem zw {k:Nat} (hi:flAt fl ms i=true) (D:Def X.prog X.w X.K X.mg X.base k x ps (spIO X.K fl rk m)) (hr:Room k X.A) (hx:PE X (.Name y np) (tVar i)) (ha:PDa X ms .any es ml) (hg:Gl X x:=by rfl)
  (hdb:(x==("__debug__":Str))=false:=by decide) (he:starEach (.Name y np::es) X.env=(false,eval (.Name y np) X.env)::starEach es X.env:=by rfl) (hpl:(backTo pos (starEach es X.env)).any (·.1)=false:=by rfl):
  PIO X ms i fl rk (.Call (.Name x p) (.Name y np::es) [] pos) (g8 i m ml):=by
 obtain ⟨ta,pa,qa⟩:=ha
 refine ⟨_,iw D hr (bK hx pa he) hg hdb he hpl,fun {W} δ σ H0 H Q d' r R hm hq=> ?_⟩
 obtain ⟨d,hd,e⟩:=Option.bind_eq_some_iff.mp hm
 obtain ⟨ds,hds,e⟩:=Option.bind_eq_some_iff.mp e
 obtain ⟨Φ0,f0⟩:=R.foot
 obtain ⟨a,ha0,_⟩:=f0.at_ i d (flAt.own hi) (aQ hd)
 refine ⟨_,ha0,?_⟩
 refine qa δ σ H0 H _ ds R hds fun vs H1 s1 g=> ?_
 obtain ⟨Φ,f⟩:=(R.same s1).foot
 obtain ⟨a',ha',o⟩:=f.at_ i d (flAt.own hi) (aQ hd)
 rw [ha0] at ha';cases ha'
 exact ⟨a,d,Φ i,vs,ds,d',r,rfl,f.nd i,flAt.of hi o,g.reps_any.mono fun b _ n z=>n (f.wr i b z).1,e,fun v H' F' n1 c1 c2 c4 t' res=>hq v H' ⟨⟨H1,a,F',Φ,s1,f,ha0,n1,c1,c2,c4,t',res⟩⟩⟩
end
end L2
set_option maxHeartbeats 4000000
namespace L2
open PySem PySem.Spec PyProof.Rows
section
variable {prog:Program}{w:World}{K:Type} [DecidableEq K] {knd:HeapKind prog w K}{A:Around}{E:Value->Shared->Prop}{s:Shared}
theorem pN {α:Type}: ∀{xs:List (K×α)}{j:Nat}{k:K}{p:α},(xs.map (·.1)).Nodup->xs[j]?=some (k,p)->xs.eraseIdx j=xs.filter fun x=>decide (x.1≠k)
 |[],_,_,_,_,h=>by simp at h
 |x::xs,0,k,p,nd,h=>by
  simp at h
  subst h
  rw [List.map_cons,List.nodup_cons] at nd
  rw [List.eraseIdx_cons_zero,List.filter_cons_of_neg (by simp)]
  refine (List.filter_eq_self.mpr fun y hy=> ?_).symm
  exact decide_eq_true fun z=>nd.1 (List.mem_map.mpr ⟨y,hy,z⟩)
 |x::xs,j+1,k,p,nd,h=>by
  rw [List.map_cons,List.nodup_cons] at nd
  have h':xs[j]?=some (k,p):=by simpa using h
  have ne:x.1≠k:=fun z=>nd.1 (z▸List.mem_map.mpr ⟨(k,p),List.mem_of_getElem? h',rfl⟩)
  rw [List.eraseIdx_cons_succ,pN nd.2 h',List.filter_cons,if_pos (by simpa using ne)]
theorem pO {α β:Type} (f:α->β): ∀(xs:List α) (j:Nat),(xs.map f).eraseIdx j=(xs.eraseIdx j).map f
 |[],_=>by simp
 |x::xs,0=>by simp
 |x::xs,j+1=>by simp [pO f xs j]
theorem zx {d a:Addr}{xs:List (K×Addr×Value)}{k:K}{v:Addr×Value}{Q:Option DictEntry->Shared->Prop} (hu:knd.room A) (hkey:knd.is s.heap k a) (hm:s.heap.DictOfH knd d xs) (hv:atKey xs k=some v)
  (hQ: ∀h' e,e.val=v.2->h'.DictOfH knd d (xs.filter fun x=>decide (x.1≠k))->Heap.SameBut d s.heap h'->Q (some e) {s with heap:=h',toks:=s.toks+knd.draws k}) (hsz:xs.length<=sizeLine):
  wpAny (model prog w) A (Builtin.Dict.takeOut d (.ref a)) Q E s:=by
 obtain ⟨o,es,ep,ho,hc,hd,he,his,hn⟩:=hm
 unfold Builtin.Dict.takeOut
 try with_reducible refine wpAny_holding ?_
 refine wpAny_bind (knd.pyHash hu hkey ?_)
 refine wpAny_bind (wpAny_dictFind_heap (s:={s with toks:=s.toks+knd.draws k}) hu hkey ho hd he his hn ?_ ?_)
 ·intro hno
  rw [atKey_none_of_get hno] at hv
  cases hv
 ·intro j p hj
  rw [atKey_of_get hn hj] at hv
  cases hv
  refine wpAny_bind (wpAny_dictEntries (s:={s with toks:=s.toks+knd.draws k}) ho hd ?_)
  rw [entry_at he j,hj]
  refine wpAny_bind (wpAny_updateDictKeys (hz:=by have e:=size_of_entries he;lia) (s:={s with toks:=s.toks+knd.draws k}) ho hd (wpAny_pure (hQ _ _ rfl ⟨_,_,ep+1,Heap.get?_update_self _ ho (Obj.isFreed_of_dict (Obj.data_mapDictKeys hd _)),
   hc.mapDictKeys _,Obj.data_mapDictKeys hd _,?_,?_,?_⟩ (Heap.SameBut.update ..))))
  ·rw [<-pN hn hj]
   have hl:j<es.size:=by
    rw [size_of_entries he]
    exact (List.getElem?_eq_some_iff.mp hj).1
   obtain ⟨l⟩:=es
   simp only at he
   subst he
   simp [pO]
  ·intro x hx
   exact knd.keeps (his x (List.mem_filter.mp hx).1) ho hd (Heap.SameBut.update ..)
  ·exact (List.filter_sublist.map _).nodup hn
end
end L2
set_option maxHeartbeats 4000000
namespace L2
open PySem PySem.Spec PyProof.Rows
variable {KF:PySem.W.Frag}{W W':Addr->Prop}
theorem zy {prog:Program}{w:World} (d b:Addr) (k:List Key):
  MeetsIn prog w (Builtin.«dict.pop» ⟨[.ref d,.ref b],[]⟩) (fun A R s=>A.units+1<cLine/\ ∃xs v,s.heap.DictOfH (tupleKind (bm prog w)) d xs/\(tupleKind (bm prog w)).is s.heap k b/\xs.length<=sizeLine/\atKey xs k=some v/\
   ∀h' tk,h'.DictOfH (tupleKind (bm prog w)) d (xs.filter fun x=>decide (x.1≠k))->Heap.SameBut d s.heap h'->R (.ok (.ret v.2)) {s with heap:=h',toks:=tk}):=
 .of_wp fun A R s ⟨hu,xs,v,hm,hkey,hsz,hv,h⟩=>by
  unfold Builtin.«dict.pop»
  refine wpAny_bind ?_
  unfold Builtin.Dict.keyAndDefault
  refine wpAny_bind (wpAny_notOrdered_dict hm.typeIs ?_)
  show wpAny _ _ (pure (d,Value.ref b,none)) _ _ s
  refine wpAny_pure ?_
  have kn:(keyPart (Value.ref b)).isSome=false:=rfl
  simp only [kn,Bool.false_eq_true,if_false]
  obtain ⟨o,es,ep,ho,hc,hd,he,his,hn⟩:=id hm
  refine wpAny_bind (wpAny_dictEntries ho hd ?_)
  have ne:es.isEmpty=false:=by
   cases hx:xs with
   |nil=>rw [hx] at hv;cases hv
   |cons x xs=>
    have:=size_of_entries he
    rw [hx] at this
    rw [Array.isEmpty_eq_false_iff_exists_mem]
    exact ⟨es[0]'(by rw [this];exact Nat.succ_pos _),Array.getElem_mem _⟩
  refine wpAny_bind (wpAny_pure ?_)
  simp only [ne,Bool.false_eq_true,if_false]
  refine wpAny_bind (zx (tupleKind_room_in1 hu) hkey hm hv (fun h' e ev hm' hs'=> ?_) hsz)
  simp only [Option.isNone_some,Bool.false_eq_true,if_false]
  exact wpAny_bind (wpAny_letGo (wpAny_pure ⟨e.val,rfl,by rw [ev];exact h h' _ hm' hs'⟩))
theorem KT.drop {H:Hp}{kvs:List (List Key×V)}{xs:List (List Key×Addr×Value)} (r:KT H kvs xs) (k:List Key):KT H (dG kvs k) (xs.filter fun x=>decide (x.1≠k)):=by
 unfold dG
 induction r with
 |nil=>exact .nil
 | @cons p q ps qs h t ih=>
  rw [List.filter_cons,List.filter_cons]
  by_cases e:p.1=k
  ·rw [if_neg (by simp [e]),if_neg (by simp [<-h.1,e])]
   exact ih
  ·rw [if_pos (by simpa using e),if_pos (by simpa [<-h.1] using e)]
   exact .cons h ih
section
variable {X:Cx}{pins:List (Addr×Obj)}{σ:St}{H:Hp}{s:Shared}{a:Addr}{kvs:List (List Key×V)}{k:List Key}{A:Around}{E:Value->Shared->Prop}
theorem zz {v:V}{b:Addr}{Q:Value->Shared->Prop} (hu:A.units+1<cLine) (I:Inv X pins σ H s) (e:H a=some (.dT kvs)) (eb:H b=some (.tup (k.map kV))) (l:valV kvs k=some v)
  (h: ∀w' s',Inv X pins σ (upd H a (.dT (dG kvs k))) s'->RelV v w'->Q w' s'):wpAny (model X.prog X.w) A (call (.builtin "dict.pop") [.ref a,.ref b]) Q E s:=by
 obtain ⟨z,hd,xs,rel,dd⟩:=mJ I.hok e
 obtain ⟨w',hw,rw'⟩:=RelO.some_of (v:=v) (o:=(atKey xs k).map (·.2)) (by rw [<-l];exact rel.val k)
 obtain ⟨p,hp,hp2⟩:=Option.map_eq_some_iff.mp hw
 refine call_meetsIn PySem.F.slot_dict_pop dd.typeIs PySem.F.entry_dict_pop (PySem.F.args_dict_pop_2 _ _) (zy a b k) ⟨hu,xs,p,dd,eP I.hok eb,by rw [<-Paired.length rel];exact z,hp,fun h' tk dd' hs=> ?_⟩
 rw [hp2]
 refine h w' _ ?_ rw'
 obtain ⟨q,es,ep,hq,h2,h3,h4,_,h5⟩:=dd'
 refine jN I (by rw [e];exact True.intro) hs ⟨q,hq⟩ ⟨Nat.le_trans (tK kvs k) z,hd,_,(rel.drop k).keeps fun c ys ec=> ?_,q,es,ep,hq,h2,h3,h4,h5⟩
 rw [ag (lG ec e (fun z=>nomatch z))]
 exact ec
end
noncomputable def zA (td ty:TE):TE:=fun σ H Q=>td σ H fun x H1=> ∃a,x= .ref a/\IsD H1 a/\ty σ H1 fun y H2=> ∃kvs k b v,H2 a=some (.dT kvs)/\y= .ref b/\H2 b=some (.tup (k.map kV))/\valV kvs k=some v/\Q v (upd H2 a (.dT (dG kvs k)))
theorem zB {X:Cx}{o e:Expr}{td ty:TE}{apos cpos:Pos} (hu:X.A.units+1<cLine) (ho:PE X o td) (he:PE X e ty) (m:M1 X o "pop" apos e cpos):PE X (.Call (.Attribute o "pop" apos) [e] [] cpos) (zA td ty):=by
 intro pins s σ H Q I h
 refine wpAny_Call_method m.base m.few m.line PySem.F.plainAttrs_dict PySem.F.slot_dict_pop PySem.F.type_dict_pop (thn (ho pins s σ H _ I h) fun u s1 ⟨x,H1,I1,rx,a,ex,d,q1⟩=> ?_)
 subst ex
 obtain rfl:u=Value.ref a:=rx
 obtain ⟨t1,t2,_⟩:=mL I1 d
 refine ⟨t1,t2,?_⟩
 rw [m.trees]
 refine Calls.callWith_builtin rfl (Calls.evalArgs_plain (Calls.spliced_cons (thn (he pins s1 σ H1 _ I1 q1) fun iv s2 ⟨y,H2,I2,ry,kvs,k,b,v,ea,ey,eb,l,q2⟩=>Calls.spliced_nil ?_)))
 subst ey
 cases (show iv=Value.ref b from ry)
 exact zz hu I2 ea eb l fun w' s3 I3 rw'=>⟨v,_,I3,rw',q2⟩
end L2
set_option maxHeartbeats 4000000
namespace L2
open PySem PySem.Spec PyProof.Rows
variable {KF:PySem.W.Frag}{W W':Addr->Prop}
noncomputable def bZ (f:Str) (v:Dv):List (Str×Dv)->List (Str×Dv)
 |[]=>[(f,v)]
 |(g,x)::r=>if g=f then (g,v)::r else (g,x)::bZ f v r
noncomputable def getF (f:Str):List (Str×Dv)->Option Dv
 |[]=>none
 |(g,x)::r=>if g=f then some x else getF f r
theorem la {f g:Str}{v:V}{r:List (Str×V)}:List.lookup f ((g,v)::r)=if g=f then some v else List.lookup f r:=by
 rw [List.lookup_cons]
 by_cases e:g=f
 ·subst e
  rw [if_pos rfl,beq_self_eq_true]
 ·rw [if_neg e]
  have:(f==g)=false:=beq_eq_false_iff_ne.mpr fun z=>e z.symm
  rw [this]
theorem RepsK.look {S:Addr->Prop}{H:Hp}{f:Str}: ∀{xs:List (Str×V)}{ds:List (Str×Dv)},RepsK KF S H xs ds->(getF f ds=none/\xs.lookup f=none) \/ ∃v d,getF f ds=some d/\xs.lookup f=some v/\RepF KF S H v d
 |_,_,.nil=> .inl ⟨rfl,rfl⟩
 |_,_,.cons (k:=g) h t=>by
  rw [la,getF]
  by_cases e:g=f
  ·rw [if_pos e,if_pos e]
   exact .inr ⟨_,_,rfl,rfl,h⟩
  ·rw [if_neg e,if_neg e]
   exact RepsK.look t
theorem ak.fld {H:Hp}{f:Str}{d:Dv}: ∀{xs:List (Str×V)}{ds:List (Str×Dv)}{F:List Addr},ak KF H xs ds F->getF f ds=some d->
  ∃v,∃A Fj B:List Addr,xs.lookup f=some v/\F=A++(Fj++B)/\Tree KF H v d Fj/\ ∀{H1:Hp}{d':Dv}{G:List Addr},aE Imm H H1->(∀b∈A++B,∀o,H b=some o->H1 b=some o)->Tree KF H1 v d' G->ak KF H1 xs (bZ f d' ds) (A++(G++B))
 |_,_,_,.nil,h=>nomatch h
 |_,_,_,.cons (k:=g) (F:=F) (G:=G) t r,h=>by
  rw [getF] at h
  by_cases e:g=f
  ·rw [if_pos e] at h
   cases h
   refine ⟨_,[],F,G,by rw [la,if_pos e],rfl,t,fun {H1 d' G'} kp fk t'=> ?_⟩
   rw [bZ,if_pos e]
   exact .cons (F:=G') (G:=G) t' (r.keep kp fun b hb o z=>fk b hb o z)
  ·rw [if_neg e] at h
   obtain ⟨v,A,Fj,B,hv,hF,tj,w⟩:=ak.fld r h
   refine ⟨v,F++A,Fj,B,by rw [la,if_neg e];exact hv,by rw [hF,List.append_assoc],tj,fun {H1 d' G'} kp fk t'=> ?_⟩
   rw [bZ,if_neg e,List.append_assoc]
   exact .cons (t.keep kp fun b hb o z=>fk b (by simp [hb]) o z) (w kp (fun b hb o z=>fk b (by simp only [List.mem_append] at hb|-;rcases hb with hb|hb;exact .inl (.inr hb);exact .inr hb) o z) t')
theorem ak.putF {H:Hp}{f:Str}{v:V}{d:Dv}{G:List Addr} (tv:Tree KF H v d G): ∀{xs:List (Str×V)}{ds:List (Str×Dv)}{F:List Addr},ak KF H xs ds F->
  ∃A B:List Addr,(A++B).Sublist F/\ak KF H (L2.putF f v xs) (bZ f d ds) (A++(G++B))
 |_,_,_,.nil=>⟨[],[],List.Sublist.refl _,by rw [L2.putF,bZ];exact .cons (F:=G) (G:=[]) tv .nil⟩
 |_,_,_,.cons (k:=g) (F:=F1) (G:=F2) t r=>by
  rw [L2.putF,bZ]
  by_cases e:g=f
  ·rw [if_pos e,if_pos e]
   exact ⟨[],F2,List.sublist_append_right F1 F2,.cons (F:=G) (G:=F2) tv r⟩
  ·rw [if_neg e,if_neg e]
   obtain ⟨A,B,s,t'⟩:=ak.putF tv r
   refine ⟨F1++A,B,by rw [List.append_assoc];exact List.Sublist.append (List.Sublist.refl _) s,?_⟩
   rw [List.append_assoc]
   exact .cons t t'
theorem ak.lenS {H:Hp}: ∀{vs:List (Str×V)}{ds:List (Str×Dv)}{F:List Addr},ak KF H vs ds F->vs.length=ds.length
 |_,_,_,.nil=>rfl
 |_,_,_,.cons _ t=>congrArg (· +1) (ak.lenS t)
noncomputable def eFld (C:Addr) (f:Str) (m:EM):EM:=fun δ=>(m δ).bind fun x=>match x with
 | .ins C' fs=>if C'=C then getF f fs else none
 |_=>none
section
variable {X:Cx}{ms:List Nat}{k k1 k2 rk:Kd}{e:Expr}{m mk mv:EM}{pos pos' tpos np:Pos}{f:Str}{C:Addr}{i:Nat}{x:Str}
theorem pP (c:Cls X.K C) (n:cu X.K C f) (he:PD X ms k e m) (hb:attributeBase e f X.env (eval e X.env)=eval e X.env:=by rfl):PD X ms .bor (.Attribute e f pos) (eFld C f m):=by
 obtain ⟨te,p,q⟩:=he
 refine ⟨_,jG p hb,fun {W} δ σ H0 H Q d R hm hq=> ?_⟩
 obtain ⟨y,hy,e⟩:=Option.bind_eq_some_iff.mp hm
 refine q δ σ H0 H _ y R hy fun v H1 s1 g1=> ?_
 cases y<;>simp only [reduceCtorEq] at e
 split at e
 ·next ec=>
  subst ec
  cases g1.bor with
  | @ins a _ dx xs ds _ h r=>
   rcases r.look (f:=f) with ⟨z,_⟩|⟨u,d',h1,h2,h3⟩
   ·rw [z] at e;cases e
   ·rw [h1] at e
    cases e
    exact ⟨a,_,dx,xs,u,rfl,h,c,n,h2,hq u H1 s1 h3⟩
 ·cases e
theorem fh {H0 H:Hp}{δ:Dt}{σ:St}{ds:List (Str×Dv)}{Φ:Nat->List Addr} (f:Foot KF ms W H0 δ σ H Φ) (h1:i+1000∈ms) (h2:i∉ms) (hd:δ[i]?=some (some (.ins C ds))):
  ∃a dx xs F,σ[i]?=some (some (.ref a))/\Φ i=a::F/\H a=some (.ins C dx xs)/\ak KF H xs ds F:=by
 obtain ⟨a,ha,t⟩:=Rel.deep (H0:=H0) f h1 h2 hd
 generalize hF:Φ i=F at t
 cases t with
 |imm r=>cases r with|ins s _ _=>exact s.elim
 |ins h r=>exact ⟨a,_,_,_,ha,rfl,h,r⟩
theorem pQ {H0 H:Hp}{δ:Dt}{σ:St}{ds:List (Str×Dv)}{fn:Str}{d d':Dv}{a dx b:Addr}{xs:List (Str×V)}{ob:HO}{F:List Addr}{Φ:Nat->List Addr}
  (R:Rel KF ms W H0 δ σ H) (f:Foot KF ms W H0 δ σ H Φ) (h1:i+1000∈ms) (h2:i∉ms) (hs:σ[i]?=some (some (.ref a))) (hF:Φ i=a::F) (ha:H a=some (.ins C dx xs)) (t:ak KF H xs ds F) (hv:xs.lookup fn=some (.ref b)) (hd:getF fn ds=some d) (so:Sft ob)
  (ht: ∀Fj:List Addr,Tree KF H (.ref b) d Fj-> ∃G:List Addr,Fj=b::G/\ ∃G':List Addr,G'.Sublist G/\ ∀H1:Hp,H1=L2.upd H b ob->aE Imm H H1->(∀c∈G,∀o,H c=some o->H1 c=some o)->Tree KF H1 (.ref b) d' (b::G')):
  ∃W':Addr->Prop,Rel KF ms W' H0 (δ.set i (some (.ins C (bZ fn d' ds)))) σ (L2.upd H b ob)/\Stp ms H0 W σ H W' σ (L2.upd H b ob):=by
 obtain ⟨v,A,Fj,B,hv',e,tj,wand⟩:=t.fld hd
 rw [hv] at hv'
 cases hv'
 obtain ⟨G,rfl,G',sub,mk⟩:=ht Fj tj
 obtain ⟨o0,hb,so0⟩:=tj.there b (List.mem_cons_self ..)
 have nd:=f.nd i
 rw [hF,e] at nd
 have nd1:=List.nodup_cons.mp nd
 have nd2:=List.nodup_append.mp nd1.2
 have nd3:=List.nodup_append.mp nd2.2.1
 have ab:a≠b:=fun z=>nd1.1 (by rw [z];simp)
 have bA:b∉A:=fun z=>nd2.2.2 b z b (by simp) rfl
 have bB:b∉B:=fun z=>nd3.2.2 b (by simp) b z rfl
 have bG:b∉G:=(List.nodup_cons.mp nd3.1).1
 have keep: ∀c o,c≠b->H c=some o->(L2.upd H b ob) c=some o:=fun c o n h=>by rw [ag n];exact h
 have kp:aE Imm H (L2.upd H b ob):=fun c oc hc q=>by
  rcases q with ⟨us,rfl⟩|⟨c',u,rfl⟩|q
  ·exact keep c _ (fun z=>by rw [z,hb] at hc;cases hc;exact so0.1 us rfl) hc
  ·exact keep c _ (fun z=>by rw [z,hb] at hc;cases hc;exact so0.2 c' u rfl) hc
  ·exact q.elim
 have t2:=mk _ rfl kp (fun c hc o h=>keep c o (fun z=>bG (z▸hc)) h)
 have t3:=wand kp (fun c hc o h=>keep c o (fun z=>by
  rcases List.mem_append.mp hc with q|q
  ·exact bA (z▸q)
  ·exact bB (z▸q)) h) t2
 have sl:(A++((b::G')++B)).Sublist F:=by
  rw [e]
  exact List.Sublist.append (List.Sublist.refl A) (List.Sublist.append (sub.cons₂ b) (List.Sublist.refl B))
 have:=R.chg (P:=a::F) (F:=a::(A++((b::G')++B))) (H':=L2.upd H b ob) f (eT h1) (fun c hc=>by rw [hF];exact hc)
  (fun c o h n=>keep c o (fun z=>n (by rw [z,e];simp)) h)
  (fun c hc=>by
   by_cases z:c=b
   ·subst z;exact ⟨_,ay,so⟩
   ·obtain ⟨o,ho,so⟩:=R.own (f.wr i c (by rw [hF];exact hc)).1
    exact ⟨o,keep c o z ho,so⟩)
  ((sl.cons₂ a).nodup (by rw [e];exact nd)) (fun c hc=> .inl ((sl.cons₂ a).subset hc)) (.inr (.inl ⟨h2,h1,.ins (keep a _ ab ha) t3⟩)) (fun _=>hs)
 rw [eV hs] at this
 exact ⟨_,this⟩
theorem pR {H:Hp}{xs:List (Str×V)}{ds:List (Str×Dv)}{kvs:List (List Key×Dv)}{F:List Addr}{fn:Str} (t:ak KF H xs ds F) (hd:getF fn ds=some (.dic kvs)): ∃b zs G,xs.lookup fn=some (.ref b)/\H b=some (.dT zs)/\ak KF H zs kvs G:=by
 obtain ⟨v,A,Fj,B,hv,e,tj,_⟩:=t.fld hd
 cases tj with
 |imm r=>cases r with|dic s _ _=>exact s.elim
 |dic h r=>exact ⟨_,_,_,hv,h,r⟩
noncomputable def lb (i:Nat) (C:Addr) (f:Str) (m:EM):SM:=fun δ=>(m δ).bind fun v=>(eVar i δ).bind fun x=>match x with
 | .ins C' fs=>if C'=C/\fs.length<100 then some (.nx (δ.set i (some (.ins C (bZ f v fs))))) else none
 |_=>none
theorem zC (hi:(decide (i+1000∈ms)&&decide (i∉ms))=true) (c:Cls X.K C) (n:cu X.K C f) (hx:PE X (.Name x np) (tVar i)) (h:PD X ms .dp e m)
  (hs:swapsWith e (some (.Attribute (.Name x np) f pos')) pos.line X.env=pure false:=by rfl):PDs X ms rk (.Assign [.Attribute (.Name x np) f pos'] e pos) (lb i C f m):=by
 rw [Bool.and_eq_true] at hi
 have h1:=of_decide_eq_true hi.1
 have h2:=of_decide_eq_true hi.2
 obtain ⟨te,p,q⟩:=h
 refine ⟨_,sw hx p hs,fun {W} δ σ H0 H D r R hm hq=> ?_⟩
 obtain ⟨v,hv,hm⟩:=Option.bind_eq_some_iff.mp hm
 obtain ⟨z,hz,hm⟩:=Option.bind_eq_some_iff.mp hm
 cases z<;>simp only [reduceCtorEq] at hm
 split at hm
 rotate_left
 ·cases hm
 next hc=>
 cases hm
 obtain ⟨ec,hl⟩:=hc
 rw [ec] at hz
 refine q δ σ H0 H _ v R hv fun w H1 s1 g1=> ?_
 obtain ⟨G,gn,gf,gt⟩:=g1
 obtain ⟨Φ,ft⟩:=R.foot
 obtain ⟨a,dx,xs,F,ha,hF,hax0,t0⟩:=fh (H0:=H0) ft h1 h2 (aQ hz)
 have hax:=s1 _ _ hax0
 have t:=t0.keep (.of s1) fun b _ o z=>s1 b o z
 refine ⟨_,ha,a,C,dx,xs,rfl,hax,c,n,by rw [t.lenS];lia,?_⟩
 have nd:=ft.nd i
 rw [hF] at nd
 have aF:=List.nodup_cons.mp nd
 have inW: ∀b∈a::F,W b:=fun b hb=>(ft.wr i b (by rw [hF];exact hb)).1
 have gW: ∀b∈G,b∉a::F:=fun b hb z=>R.fresh (gf b hb) (inW b z)
 have keep: ∀c o,c≠a->H1 c=some o->(L2.upd H1 a (.ins C dx (putF f w xs))) c=some o:=fun c o n h=>by rw [ag n];exact h
 have kp:aE Imm H1 (L2.upd H1 a (.ins C dx (putF f w xs))):=fun c oc hc q=>by
  rcases q with ⟨us,rfl⟩|⟨c',u,rfl⟩|q
  ·exact keep c _ (fun z=>by rw [z,hax] at hc;cases hc) hc
  ·exact keep c _ (fun z=>by rw [z,hax] at hc;cases hc) hc
  ·exact q.elim
 have t1:=t.keep kp fun b hb o z=>keep b o (fun y=>aF.1 (y▸hb)) z
 have g2:=gt.keep kp fun b hb o z=>keep b o (fun y=>gW b hb (y▸List.mem_cons_self ..)) z
 obtain ⟨A,B,sub,t2⟩:=ak.putF (f:=f) g2 t1
 have memAB: ∀b,b∈A++(G++B)->b∈G \/b∈F:=fun b hb=>by
  rcases List.mem_append.mp hb with z|z
  ·exact .inr (sub.subset (List.mem_append_left _ z))
  ·rcases List.mem_append.mp z with z|z
   ·exact .inl z
   ·exact .inr (sub.subset (List.mem_append_right _ z))
 have ndAB:(A++B).Nodup:=sub.nodup aF.2
 have nd3:(A++(G++B)).Nodup:=by
  have s1:=List.nodup_append.mp ndAB
  refine List.nodup_append.mpr ⟨s1.1,List.nodup_append.mpr ⟨gn,s1.2.1,fun x hx y hy e=> ?_⟩,fun x hx y hy e=> ?_⟩
  ·subst e
   exact gW x hx (List.mem_cons_of_mem _ (sub.subset (List.mem_append_right _ hy)))
  ·subst e
   rcases List.mem_append.mp hy with z|z
   ·exact gW x z (List.mem_cons_of_mem _ (sub.subset (List.mem_append_left _ hx)))
   ·exact s1.2.2 x hx x z rfl
 have:=R.chg (P:=a::F) (F:=a::(A++(G++B))) (H':=L2.upd H1 a (.ins C dx (putF f w xs))) ft (eT h1) (fun c hc=>by rw [hF];exact hc)
  (fun c o h n=>keep c o (fun z=>n (by rw [z];exact List.mem_cons_self ..)) (s1 c o h))
  (fun c hc=>by
   by_cases z:c=a
   ·subst z;exact ⟨_,ay,fun _ z=>(nomatch z),fun _ _ z=>(nomatch z)⟩
   ·obtain ⟨o,ho,so⟩:=R.own (inW c hc)
    exact ⟨o,keep c o z (s1 c o ho),so⟩)
  (List.nodup_cons.mpr ⟨fun z=>by
   rcases memAB a z with z|z
   ·exact gW a z (List.mem_cons_self ..)
   ·exact aF.1 z,nd3⟩)
  (fun c hc=>by
   rcases List.mem_cons.mp hc with rfl|hc
   ·exact .inl (List.mem_cons_self ..)
   ·rcases memAB c hc with z|z
    ·exact .inr (gf c z)
    ·exact .inl (List.mem_cons_of_mem _ z))
  (.inr (.inl ⟨h2,h1,.ins ay t2⟩)) (fun _=>ha)
 rw [eV ha] at this
 exact hq _ σ _ this.2 this.1
end
end L2
set_option maxHeartbeats 4000000
namespace L2
open PySem PySem.Spec PyProof.Rows
variable {KF:PySem.W.Frag}{W W':Addr->Prop}
noncomputable def fi (kvs:List (List Key×Dv)) (k:List Key):List (List Key×Dv):=kvs.filter fun kv=>decide (kv.1≠k)
theorem ak.drop1 {H:Hp}{k:List Key}: ∀{xs:List (List Key×V)}{ds:List (List Key×Dv)}{F:List Addr},ak KF H xs ds F-> ∃G:List Addr,G.Sublist F/\ak KF H (dG xs k) (fi ds k) G
 |_,_,_,.nil=>⟨[],List.Sublist.refl _,.nil⟩
 |_,_,_,.cons (k:=k1) (F:=F1) (G:=F2) h t=>by
  obtain ⟨G,s,t'⟩:=ak.drop1 (k:=k) t
  unfold dG fi at t'|-
  rw [List.filter_cons,List.filter_cons]
  by_cases e:k1=k
  ·rw [if_neg (by simp [e]),if_neg (by simp [e])]
   exact ⟨G,s.trans (List.sublist_append_right F1 F2),t'⟩
  ·rw [if_pos (by simpa using e),if_pos (by simpa using e)]
   exact ⟨F1++G,List.Sublist.append (List.Sublist.refl _) s,.cons h t'⟩
theorem ak.val1 {H:Hp}{k:List Key}{d:Dv}: ∀{xs:List (List Key×V)}{ds:List (List Key×Dv)}{F:List Addr},ak KF H xs ds F->valD ds k=some d-> ∃v,valV xs k=some v
 |_,_,_,t,h=>by
  have r:=t.rep (S:=fun _=>True) fun _ _=>trivial
  rcases r.val k with ⟨z,_⟩|⟨v,d',h1,h2,_⟩
  ·rw [z] at h;cases h
  ·exact ⟨v,h2⟩
section
variable {X:Cx}{ms:List Nat}{k k1 k2 rk:Kd}{e kx:Expr}{m mk mv:EM}{pos pos' tpos np apos cpos:Pos}{f:Str}{C:Addr}{i:Nat}{x:Str}
noncomputable def jd (i:Nat) (C:Addr) (f:Str) (mk mv:EM):SM:=fun δ=>(mv δ).bind fun v=>(mk δ).bind fun y=>(eVar i δ).bind fun x=>match x with
 | .ins C' fs=>if C'=C then match getF f fs with
  |some (.dic kvs)=>(dKey y).bind fun kk=>if kvs.length<lim/\v.imm=true then some (.nx (δ.set i (some (.ins C (bZ f (.dic (putD kvs kk v)) fs))))) else none
  |_=>none
  else none
 |_=>none
theorem zD (hu:X.A.units+1<cLine) (hi:(decide (i+1000∈ms)&&decide (i∉ms))=true) (c:Cls X.K C) (n:cu X.K C f) (hx:PE X (.Name x np) (tVar i)) (hk:PD X ms k1 kx mk) (h:PD X ms k2 e mv)
  (hb:attributeBase (.Name x np) f X.env (eval (.Name x np) X.env)=eval (.Name x np) X.env:=by rfl)
  (hs:swapsWith e (some (.Subscript (.Attribute (.Name x np) f apos) kx tpos)) pos.line X.env=pure false:=by rfl):
  PDs X ms rk (.Assign [.Subscript (.Attribute (.Name x np) f apos) kx tpos] e pos) (jd i C f mk mv):=by
 rw [Bool.and_eq_true] at hi
 have h1:=of_decide_eq_true hi.1
 have h2:=of_decide_eq_true hi.2
 obtain ⟨tk,pk,qk⟩:=hk
 obtain ⟨te,p,qe⟩:=h
 refine ⟨_,mK hu (jG hx hb) pk p hs,fun {W} δ σ H0 H D r R hm hq=> ?_⟩
 obtain ⟨v,hv,hm⟩:=Option.bind_eq_some_iff.mp hm
 obtain ⟨y,hy,hm⟩:=Option.bind_eq_some_iff.mp hm
 obtain ⟨z,hz,hm⟩:=Option.bind_eq_some_iff.mp hm
 cases z<;>simp only [reduceCtorEq] at hm
 split at hm
 rotate_left
 ·cases hm
 next ec=>
 rw [ec] at hz
 split at hm
 rotate_left
 ·cases hm
 next kvs hd=>
 obtain ⟨kk,hkk,hm⟩:=Option.bind_eq_some_iff.mp hm
 split at hm
 rotate_left
 ·cases hm
 next hl=>
 cases hm
 refine qe δ σ H0 H _ v R hv fun w H1 s1 g1=> ?_
 have R1:=R.same s1
 obtain ⟨Φ1,f1⟩:=R1.foot
 obtain ⟨a,dx,xs,F1,ha,hF1,hax1,t1⟩:=fh (H0:=H0) f1 h1 h2 (aQ hz)
 obtain ⟨b,zs,G1,hb1,hbz1,tz1⟩:=pR t1 hd
 refine ⟨_,ha,a,C,dx,xs,.ref b,rfl,hax1,c,n,hb1,?_⟩
 refine qk δ σ H0 H1 _ y R1 hy fun u3 H3 s3 g3=> ?_
 have R3:=R1.same s3
 obtain ⟨Φ,ft⟩:=R3.foot
 obtain ⟨a',dx',xs',F,ha',hF,hax,t⟩:=fh (H0:=H0) ft h1 h2 (aQ hz)
 rw [ha] at ha';cases ha'
 rw [s3 _ _ hax1] at hax
 cases hax
 have hbz:=s3 _ _ hbz1
 have tz:zs.length=kvs.length:=tz1.length
 obtain ⟨kb,rfl,hkb⟩:=eY g3.bor hkk
 refine ⟨b,_,rfl,DPut.t hbz hkb (by rw [tz];exact Nat.lt_trans hl.1 (by decide)),?_⟩
 have gv:RepF X.K Imm H3 w v:=(g1.same s3).bor.imm hl.2
 obtain ⟨W9,R9,st⟩:=pQ (d':= .dic (putD kvs kk v)) (ob:= .dT (putK zs kk w)) R3 ft h1 h2 ha hF (s3 _ _ hax1) t hb1 hd ⟨fun _ z=>(nomatch z),fun _ _ z=>(nomatch z)⟩ (fun Fj tj=>by
  cases tj with
  |imm r=>cases r with|dic s _ _=>exact s.elim
  | @dic _ zs' _ G h r=>
   rw [hbz] at h
   cases h
   refine ⟨G,rfl,?_⟩
   obtain ⟨G',sub,tr⟩:=ak.put1 (k:=kk) gv r
   exact ⟨G',sub,fun H4 e4 kp fk=> .dic (by rw [e4];exact ay) (tr.keep kp fun c hc o h=>fk c (sub.subset hc) o h)⟩)
 exact hq W9 σ _ ((Stp.sm (s1.tr s3)).tr st) R9
noncomputable def je (i:Nat) (C:Addr) (f:Str) (mk:EM):SM:=fun δ=>(mk δ).bind fun y=>(eVar i δ).bind fun x=>match x with
 | .ins C' fs=>if C'=C then match getF f fs with
  |some (.dic kvs)=>(dKey y).bind fun kk=>(valD kvs kk).bind fun _=>some (.nx (δ.set i (some (.ins C (bZ f (.dic (fi kvs kk)) fs)))))
  |_=>none
  else none
 |_=>none
theorem zE (hu:X.A.units+1<cLine) (hi:(decide (i+1000∈ms)&&decide (i∉ms))=true) (c:Cls X.K C) (n:cu X.K C f) (hx:PE X (.Name x np) (tVar i)) (hk:PD X ms k1 kx mk) (m1:M1 X (.Attribute (.Name x np) f tpos) "pop" apos kx cpos)
  (hb:attributeBase (.Name x np) f X.env (eval (.Name x np) X.env)=eval (.Name x np) X.env:=by rfl)
  (hs:swapsWith (.Call (.Attribute (.Attribute (.Name x np) f tpos) "pop" apos) [kx] [] cpos) none pos.line X.env=pure false:=by rfl):
  PDs X ms rk (.Expr (.Call (.Attribute (.Attribute (.Name x np) f tpos) "pop" apos) [kx] [] cpos) pos) (je i C f mk):=by
 rw [Bool.and_eq_true] at hi
 have h1:=of_decide_eq_true hi.1
 have h2:=of_decide_eq_true hi.2
 obtain ⟨tk,pk,qk⟩:=hk
 refine ⟨_,ii (zB hu (jG hx hb) pk m1) hs,fun {W} δ σ H0 H D r R hm hq=> ?_⟩
 obtain ⟨y,hy,hm⟩:=Option.bind_eq_some_iff.mp hm
 obtain ⟨z,hz,hm⟩:=Option.bind_eq_some_iff.mp hm
 cases z<;>simp only [reduceCtorEq] at hm
 split at hm
 rotate_left
 ·cases hm
 next ec=>
 rw [ec] at hz
 split at hm
 rotate_left
 ·cases hm
 next kvs hd=>
 obtain ⟨kk,hkk,hm⟩:=Option.bind_eq_some_iff.mp hm
 obtain ⟨old,hold,hm⟩:=Option.bind_eq_some_iff.mp hm
 cases hm
 obtain ⟨Φ1,f1⟩:=R.foot
 obtain ⟨a,dx,xs,F1,ha,hF1,hax1,t1⟩:=fh (H0:=H0) f1 h1 h2 (aQ hz)
 obtain ⟨b,zs,G1,hb1,hbz1,tz1⟩:=pR t1 hd
 refine ⟨_,ha,a,C,dx,xs,.ref b,rfl,hax1,c,n,hb1,b,rfl,.inr ⟨_,.inl hbz1⟩,?_⟩
 refine qk δ σ H0 H _ y R hy fun u3 H3 s3 g3=> ?_
 have R3:=R.same s3
 obtain ⟨Φ,ft⟩:=R3.foot
 obtain ⟨a',dx',xs',F,ha',hF,hax,t⟩:=fh (H0:=H0) ft h1 h2 (aQ hz)
 rw [ha] at ha';cases ha'
 rw [s3 _ _ hax1] at hax
 cases hax
 have hbz:=s3 _ _ hbz1
 obtain ⟨kb,rfl,hkb⟩:=eY g3.bor hkk
 obtain ⟨vv,hvv⟩:=tz1.val1 hold
 refine ⟨zs,kk,kb,vv,hbz,rfl,hkb,hvv,?_⟩
 obtain ⟨W9,R9,st⟩:=pQ (d':= .dic (fi kvs kk)) (ob:= .dT (dG zs kk)) R3 ft h1 h2 ha hF (s3 _ _ hax1) t hb1 hd ⟨fun _ z=>(nomatch z),fun _ _ z=>(nomatch z)⟩ (fun Fj tj=>by
  cases tj with
  |imm r=>cases r with|dic s _ _=>exact s.elim
  | @dic _ zs' _ G h r=>
   rw [hbz] at h
   cases h
   refine ⟨G,rfl,?_⟩
   obtain ⟨G',sub,tr⟩:=ak.drop1 (k:=kk) r
   exact ⟨G',sub,fun H4 e4 kp fk=> .dic (by rw [e4];exact ay) (tr.keep kp fun c hc o h=>fk c (sub.subset hc) o h)⟩)
 exact hq W9 σ _ ((Stp.sm s3).tr st) R9
end
noncomputable def MDef (P:Program) (w:World) (K:PySem.W.Frag) (mg:Str->Option Value) (base:Heap) (k:Nat) (C:Addr) (m:Str) (ps:List Str) (sp:Sp):Prop:=
 ∃f fd,FnOk P w K mg base CX0 k f fd ps sp/\Meth K C m f/\cm K fd ps []
noncomputable def CDef (P:Program) (w:World) (K:PySem.W.Frag) (mg:Str->Option Value) (base:Heap) (k:Nat) (C:Addr) (x:Str) (ps:List Str) (sp:Sp):Prop:=
 ∃f fd,FnOk P w K mg base CX0 k f fd ps sp/\Mk K C f/\cm K fd ps []/\mg x=some (.ref C)
noncomputable def PDn (X:Cx) (ms:List Nat) (i:Nat) (e:Expr) (m:EM):Prop:= ∃te,PE X e te/\
 ∀{W:Addr->Prop} (δ:Dt) (σ:St) (H0 H:Hp) (Q:VK) (d:Dv),Rel X.K ms W H0 δ σ H->m δ=some d->(∀v H',Same H H'->(∀Φ,Foot X.K ms W H0 δ σ H' Φ->RepF X.K (fun b=>b∉Φ i) H' v d)->Q v H')->te σ H Q
section
variable {X:Cx}{ms:List Nat}{fl:Bool}{rk k1:Kd}{i j:Nat}{e:Expr}{ma:EM}{x y m:Str}{ps:List Str}{np p pos apos:Pos}{es:List Expr}{C:Addr}{M:List Dv->Option (Dv×Dv)}
theorem jf (h:PD X ms .any e ma):PDn X ms i e ma:=by
 obtain ⟨te,p,q⟩:=h
 refine ⟨te,p,fun {W} δ σ H0 H Q d R hm hq=>q δ σ H0 H Q d R hm fun v H' s g=>hq v H' s fun Φ f=> ?_⟩
 exact RepF.mono (fun b _ n z=>n (f.wr i b z).1) g
theorem zF (hj:decide (j∈ms)=true) (hij:decide (i≠j)=true) (hx:PE X (.Name x np) (tVar j)):PDn X ms i (.Name x np) (eVar j):=by
 have hj:=of_decide_eq_true hj
 have hij:=of_decide_eq_true hij
 refine ⟨_,hx,fun {W} δ σ H0 H Q d R hm hq=> ?_⟩
 obtain ⟨a,ha,h0,c⟩:=R.own1 hj (aQ hm)
 refine ⟨_,ha,hq _ H (fun _ _ z=>z) fun Φ f=> ?_⟩
 obtain ⟨a',ha',o⟩:=f.at_ j d (du hj) (aQ hm)
 rw [ha] at ha';cases ha'
 rcases o with ⟨_,eF,c⟩|⟨n,_⟩|⟨n,_⟩
 ·exact c.rep fun z=>hij (f.dj i j a z (by rw [eF];exact List.mem_cons_self ..))
 ·exact absurd hj n
 ·exact absurd hj n
noncomputable def cf (i:Nat) (C:Addr) (m:Str) (M:List Dv->Option (Dv×Dv)) (ma:EM):Dt->Option (Dv×Dv):=fun δ=>(eVar i δ).bind fun d=>match d with
 | .ins C' fs=>if C'=C/\getF m fs=none then (ma δ).bind fun a=>M [d,a] else none
 |_=>none
theorem g9 {k:Nat}{pl:Sem Bool} (hi:flAt false ms i=true) (c:Cls X.K C) (D:MDef X.prog X.w X.K X.mg X.base k C m ps (spIO X.K false rk M)) (hr:Room k X.A) (hx:PE X (.Name y np) (tVar i)) (ha:PDn X ms i e ma)
  (hst:starEach [e] X.env=(false,eval e X.env)::starEach [] X.env:=by rfl) (hpl:(backTo pos (starEach [] X.env)).any (·.1)=false:=by rfl)
  (ht:eval (.Call (.Attribute (.Name y np) m apos) [e] [] pos) X.env=(do
   let ov<-eval (.Name y np) X.env
   standAt apos.atName
   let (f,first)<-holding [ov] (getMethod ov m pl)
   callWith pos f first (backTo pos (starEach [e] X.env)) (backToKw pos (keywordEach [] X.env))):=by rfl):
  PIO X ms i false rk (.Call (.Attribute (.Name y np) m apos) [e] [] pos) (cf i C m M ma):=by
 obtain ⟨f,fd,F,hm,hb⟩:=D
 obtain ⟨te,pe,qe⟩:=ha
 refine ⟨_,sJ (E:=E0) (dvs:=[]) (ds:=[]) hx c hm F hr hb .nil jO (bK pe cY hst) hst hpl ht,fun {W} δ σ H0 H Q d' r R hmm hq=> ?_⟩
 obtain ⟨d,hd,e1⟩:=Option.bind_eq_some_iff.mp hmm
 cases d<;>simp only [reduceCtorEq] at e1
 split at e1
 rotate_left
 ·cases e1
 next hc=>
 obtain ⟨rfl,hn⟩:=hc
 obtain ⟨da,hda,e1⟩:=Option.bind_eq_some_iff.mp e1
 have h12:i+1000∈ms/\i∉ms:=by
  unfold flAt at hi
  rw [if_neg (by decide),Bool.and_eq_true] at hi
  exact ⟨of_decide_eq_true hi.1,of_decide_eq_true hi.2⟩
 obtain ⟨Φ0,f0⟩:=R.foot
 obtain ⟨a,dx,xs,F0,ha0,hF0,hax0,t0⟩:=fh (H0:=H0) f0 h12.1 h12.2 (aQ hd)
 have ln:xs.lookup m=none:=by
  rcases (t0.rep (S:=fun _=>True) fun _ _=>trivial).look (f:=m) with ⟨_,z⟩|⟨v,d,z,_⟩
  ·exact z
  ·rw [hn] at z;cases z
 refine ⟨_,ha0,a,dx,xs,rfl,hax0,ln,?_⟩
 refine qe δ σ H0 H _ da R hda fun v H1 s1 g=> ?_
 obtain ⟨Φ,ft⟩:=(R.same s1).foot
 obtain ⟨a',ha',o⟩:=ft.at_ i _ (flAt.own hi) (aQ hd)
 rw [ha0] at ha';cases ha'
 exact ⟨a,_,Φ i,[v],[da],d',r,rfl,ft.nd i,flAt.of hi o,.cons (g Φ ft) .nil,e1,fun v H' F' n1 c1 c2 c4 t' res=>hq v H' ⟨⟨H1,a,F',Φ,s1,ft,ha0,n1,c1,c2,c4,t',res⟩⟩⟩
noncomputable def eNew (C:Addr) (M:List Dv->Option (Dv×Dv)):EM:=fun _=>(M [.ins C []]).bind fun p=>match p.2 with
 | .non=>some p.1
 |_=>none
theorem pS {k:Nat} (D:CDef X.prog X.w X.K X.mg X.base k C x ps (spIO X.K false .imm M)) (hr:Room (k+1) X.A) (hg:Gl X x:=by rfl) (hdb:(x==("__debug__":Str))=false:=by decide):PD X ms .dp (.Call (.Name x p) [] [] pos) (eNew C M):=by
 obtain ⟨f,fd,F,hm,hb,hmg⟩:=D
 refine ⟨_,sL (E:=E0) (dvs:=[]) (ds:=[]) hm F hr hg hmg hb .nil jO hdb,fun {W} δ σ H0 H Q d R hmm hq=> ?_⟩
 obtain ⟨⟨d',r⟩,hd,e1⟩:=Option.bind_eq_some_iff.mp hmm
 cases r<;>simp only [reduceCtorEq,Option.some.injEq] at e1
 subst e1
 intro x dx hx hdx hne
 have hx1:(upd (upd H dx (.own x)) x (.ins C dx [])) x=some (.ins C dx []):=ay
 refine ⟨x,.ins C [],[x],[],[],d',.non,rfl,by simp,.ins hx1 .nil,.nil,hd,fun v H' F' n1 c1 c2 c4 t' res=>⟨?_,?_⟩⟩
 ·cases res;rfl
 ·have up: ∀b,b≠x->b≠dx->(upd (upd H dx (.own x)) x (.ins C dx [])) b=H b:=fun b h1 h2=>by rw [ag h1,ag h2]
  refine hq _ H' (fun b o hb=> ?_) ⟨F',n1,fun b hb=> ?_,t'⟩
  ·have b1:b≠x:=fun z=>by rw [z,hx] at hb;cases hb
   have b2:b≠dx:=fun z=>by rw [z,hdx] at hb;cases hb
   exact c1 b o (by rw [up b b1 b2];exact hb) (by simpa using b1)
  ·rcases c4 b hb with z|z
   ·rw [List.mem_singleton.mp z];exact hx
   ·have b1:b≠x:=fun y=>by rw [y,hx1] at z;cases z
    have b2:b≠dx:=fun y=>by rw [y,ag hne,ay] at z;cases z
    rw [up b b1 b2] at z
    exact z
end
end L2
set_option maxHeartbeats 4000000
namespace L2
open PySem PySem.Spec PyProof.Rows
variable {KF:PySem.W.Frag}{W W':Addr->Prop}
noncomputable def PX (X:Cx) (ms:List Nat) (e:Expr) (mx:Dt->Option (Dt×Dv)):Prop:= ∃te,PE X e te/\
 ∀{W:Addr->Prop} (δ:Dt) (σ:St) (H0 H:Hp) (Q:VK) (δ':Dt) (d:Dv),Rel X.K ms W H0 δ σ H->mx δ=some (δ',d)->(∀(v:V) (W':Addr->Prop) (H':Hp),Stp ms H0 W σ H W' σ H'->Rel X.K ms W' H0 δ' σ H'->RepF X.K (fun a=> ¬W' a) H' v d->Q v H')->te σ H Q
noncomputable def PXt (X:Cx) (ms:List Nat) (e:Expr) (mx:Dt->Option (Dt×Bool)):Prop:= ∃tt,PT X e tt/\
 ∀{W:Addr->Prop} (δ:Dt) (σ:St) (H0 H:Hp) (Q:Bool->Hp->Prop) (δ':Dt) (b:Bool),Rel X.K ms W H0 δ σ H->mx δ=some (δ',b)->(∀(W':Addr->Prop) (H':Hp),Stp ms H0 W σ H W' σ H'->Rel X.K ms W' H0 δ' σ H'->Q b H')->tt σ H Q
noncomputable def PXw (X:Cx) (ms:List Nat) (e:Expr) (mx:Dt->Option (Dt×Bool)):Prop:= ∃tt,PW X e tt/\
 ∀{W:Addr->Prop} (δ:Dt) (σ:St) (H0 H:Hp) (Q:Bool->Hp->Prop) (δ':Dt) (b:Bool),Rel X.K ms W H0 δ σ H->mx δ=some (δ',b)->(∀(W':Addr->Prop) (H':Hp),Stp ms H0 W σ H W' σ H'->Rel X.K ms W' H0 δ' σ H'->Q b H')->tt σ H Q
noncomputable def xIO (i:Nat) (mm:Dt->Option (Dv×Dv)):Dt->Option (Dt×Dv):=fun δ=>(mm δ).map fun p=>(δ.set i (some p.1),p.2)
noncomputable def fj (m:List Dv->Option Dv) (mx:Dt->Option (Dt×Dv)) (m2:EM):Dt->Option (Dt×Dv):=fun δ=>(mx δ).bind fun p=>(m2 p.1).bind fun d2=>(m [p.2,d2]).map fun r=>(p.1,r)
noncomputable def xOf (mx:Dt->Option (Dt×Dv)):Dt->Option (Dt×Bool):=fun δ=>(mx δ).bind fun p=>match p.2 with
 | .bl b=>some (p.1,b)
 |_=>none
noncomputable def xNot (mx:Dt->Option (Dt×Bool)):Dt->Option (Dt×Bool):=fun δ=>(mx δ).map fun p=>(p.1,!p.2)
noncomputable def xOr (ma mb:Dt->Option (Dt×Bool)):Dt->Option (Dt×Bool):=fun δ=>(ma δ).bind fun p=>if p.2=true then some p else mb p.1
noncomputable def sIfX (mx:Dt->Option (Dt×Bool)) (ma mb:SM):SM:=fun δ=>(mx δ).bind fun p=>if p.2=true then ma p.1 else mb p.1
section
variable {X:Cx}{ms:List Nat}{fl:Bool}{rk k2:Kd}{i:Nat}{e e2 a b:Expr}{mm:Dt->Option (Dv×Dv)}{m2:EM}{x:Str}{ps:List Str}{p pos:Pos}{mx ma mb:Dt->Option (Dt×Dv)}{ta tb:Dt->Option (Dt×Bool)}
theorem lc (hi:flAt fl ms i=true) (h:PIO X ms i fl rk e mm):PX X ms e (xIO i mm):=by
 obtain ⟨te,p,q⟩:=h
 refine ⟨te,p,fun {W} δ σ H0 H Q δ' d R hm hq=> ?_⟩
 obtain ⟨⟨d',rr⟩,hd,e⟩:=Option.map_eq_some_iff.mp hm
 cases e
 refine q δ σ H0 H _ d' rr R hd fun v H' po=> ?_
 obtain ⟨W2,Φ,R2,st,ft,res⟩:=po.core R hi
 cases rk with
 |one=>
  obtain ⟨c,rfl,w,h0,nc,ce⟩:=res
  obtain ⟨R3,st3⟩:=R2.free ft nc h0
  exact hq _ _ H' (st.tr st3) R3 (ce.rep (S:=fun b=> ¬(W2 b/\b≠c)) fun z=>z.2 rfl)
 |imm=>exact hq _ _ H' st R2 (RepF.mono (S':=fun b=> ¬W2 b) (fun _ _ z=>z.elim) res)
 |_=>exact res.elim
theorem ld {k:Nat}{m:List Dv->Option Dv} (D:Def X.prog X.w X.K X.mg X.base k x ps (spD X.K .imm m)) (hr:Room k X.A) (h:PX X ms e mx) (h2:PD X ms k2 e2 m2) (hg:Gl X x:=by rfl)
  (hdb:(x==("__debug__":Str))=false:=by decide) (he:starEach [e,e2] X.env=(false,eval e X.env)::starEach [e2] X.env:=by rfl) (he2:starEach [e2] X.env=(false,eval e2 X.env)::starEach [] X.env:=by rfl) (hpl:(backTo pos (starEach [e2] X.env)).any (·.1)=false:=by rfl):
  PX X ms (.Call (.Name x p) [e,e2] [] pos) (fj m mx m2):=by
 obtain ⟨te,pe,q⟩:=h
 obtain ⟨te2,pe2,q2⟩:=h2
 refine ⟨_,iw D hr (bK pe (bK pe2 cY he2) he) hg hdb he hpl,fun {W} δ σ H0 H Q δ' d R hm hq=> ?_⟩
 obtain ⟨⟨δ1,d1⟩,h1,hm⟩:=Option.bind_eq_some_iff.mp hm
 obtain ⟨d2,h2,hm⟩:=Option.bind_eq_some_iff.mp hm
 obtain ⟨r,hr',e⟩:=Option.map_eq_some_iff.mp hm
 cases e
 refine q δ σ H0 H _ δ1 d1 R h1 fun v W1 H1 st R1 g1=> ?_
 refine q2 δ1 σ H0 H1 _ d2 R1 h2 fun v2 H2 s2 g2=> ?_
 refine ⟨[d1,d2],d,.cons ((RepF.same s2 g1).mono fun _ _ _=>trivial) (.cons g2.bor .nil),hr',fun v3 H3 s3 g3=> ?_⟩
 have g3:RepF X.K Imm H3 v3 d:=g3
 exact hq v3 W1 H3 (st.tr (Stp.sm (s2.tr s3))) (R1.same (s2.tr s3)) (g3.mono fun _ _ z=>z.elim)
theorem lf (h:PX X ms e mx) (he: ∀whole,isTrue e X.env whole=(do let v<-whole;standAt e.pos;holding [v] (truthy v)):=by intro _;rfl):PXt X ms e (xOf mx):=by
 obtain ⟨te,pe,q⟩:=h
 refine ⟨_,lL pe he,fun {W} δ σ H0 H Q δ' b R hm hq=> ?_⟩
 obtain ⟨⟨δ1,d1⟩,h1,hm⟩:=Option.bind_eq_some_iff.mp hm
 refine q δ σ H0 H _ δ1 d1 R h1 fun v W1 H1 st R1 g1=> ?_
 cases g1 with
 |bl z=>cases hm;exact ⟨_,rfl,hq W1 H1 st R1⟩
 |_=>cases hm
theorem lg (h:PXt X ms a ta):PXt X ms (.UnaryOp .Not a pos) (xNot ta):=by
 obtain ⟨t,p,q⟩:=h
 refine ⟨_,lP p,fun {W} δ σ H0 H Q δ' b R hm hq=> ?_⟩
 obtain ⟨⟨δ1,b1⟩,h1,e⟩:=Option.map_eq_some_iff.mp hm
 cases e
 exact q δ σ H0 H _ δ1 b1 R h1 fun W' H' st R'=>hq W' H' st R'
theorem zG (h:PXt X ms a ta):PXw X ms (.BoolOp .Or [a] pos) ta:=by
 obtain ⟨t,p,q⟩:=h
 exact ⟨t,lM p,q⟩
theorem zH {rest:List Expr} (h:PXt X ms a ta) (hb:PXw X ms (.BoolOp .Or (b::rest) pos) tb):PXw X ms (.BoolOp .Or (a::b::rest) pos) (xOr ta tb):=by
 obtain ⟨t,p,q⟩:=h
 obtain ⟨u,p2,q2⟩:=hb
 refine ⟨_,lO p p2,fun {W} δ σ H0 H Q δ' c R hm hq=> ?_⟩
 obtain ⟨⟨δ1,b1⟩,h1,e⟩:=Option.bind_eq_some_iff.mp hm
 refine q δ σ H0 H _ δ1 b1 R h1 fun W1 H1 st R1=> ?_
 cases b1 with
 |false=>exact q2 δ1 σ H0 H1 _ δ' c R1 e fun W2 H2 st2 R2=>hq W2 H2 (st.tr st2) R2
 |true=>cases e;exact hq W1 H1 st R1
theorem PXw.pt (h:PXw X ms a ta):PXt X ms a ta:=by
 obtain ⟨t,p,q⟩:=h
 exact ⟨t,p.pt,q⟩
theorem pT {c:Expr}{sa sb:List Stmt}{ma mb:SM} (hc:PXt X ms c ta) (ha:PDss X ms rk sa ma) (hb:PDss X ms rk sb mb):PDs X ms rk (.If c sa sb pos) (sIfX ta ma mb):=by
 obtain ⟨t,p,q⟩:=hc
 obtain ⟨tsa,pa,qa⟩:=ha
 obtain ⟨tsb,pb,qb⟩:=hb
 refine ⟨_,lQ p pa pb,fun {W} δ σ H0 H D r R hm hq=> ?_⟩
 obtain ⟨⟨δ1,b1⟩,h1,e⟩:=Option.bind_eq_some_iff.mp hm
 refine q δ σ H0 H _ δ1 b1 R h1 fun W1 H1 st R1=> ?_
 have hq':=hq.step st
 cases b1 with
 |true=>exact qa δ1 σ H0 H1 D r R1 e hq'
 |false=>exact qb δ1 σ H0 H1 D r R1 e hq'
end
end L2
set_option maxHeartbeats 4000000
namespace L2
open PySem PySem.Spec PyProof.Rows
variable {KF:PySem.W.Frag}{W W':Addr->Prop}
noncomputable def Itr3 (lo st:Int) (n:Nat):It:=⟨fun i _=>i<n,fun i H x H'=>H'=H/\x= .int (lo+(i:Int)*st),fun i _=>n<=i⟩
theorem zI {P:Program}{w:World}{K:PySem.W.Frag}{tg:Expr} (it:Addr) (lo st:Int) (n:Nat):Turn P w K tg (Itr3 lo st n) [it] it (fun i h=>IsRangeIter h it (lo+(i:Nat)*st) ((n:Int)-(i:Nat)) st) where
 mem:=by simp
 obj:=fun i h st b hb=>by
  have e:b=it:=by simpa using hb
  subst e
  exact ⟨_,st,fun v z=>by
   have z':Data.fields _=Data.cell v:=z
   cases z'⟩
 keep:=fun i h h' st k=>k it (by simp) _ st
 item:=by
  intro X hP hw hK hc i pins s σ H E I hf st' hg
  subst hP hw hK
  obtain ⟨f0,f1,f2,f3,f4,f5⟩:=hf it (by simp)
  have W:=Walks.range (prog:=X.prog) (w:=X.w) (I.ok.hd hc) it lo st n
  refine W.item i s _ _ hg st' fun v h' tk hv st' kk=> ?_
  obtain ⟨t,rfl⟩:=hv
  have I1:Inv X pins σ H {s with heap:=h',toks:=tk}:=I.turned (fun b o hb e=>kk b o (by simpa using hb) e) f0 f1 f3 f4 f5
  exact ⟨_,rfl,fU (s:={s with heap:=h',toks:=tk}) (n:="range_iterator") st' rfl rfl (by decide) ⟨.int (lo+(i:Int)*st),H,I1,⟨t,rfl⟩,⟨rfl,rfl⟩,st',fun b hb=>(hf b hb).1⟩⟩
 done:=by
  intro X hP hw hK hc i pins s σ H E I hf st' hg
  subst hP hw hK
  obtain ⟨f0,f1,f2,f3,f4,f5⟩:=hf it (by simp)
  exact wpAny_pyNext_range_end (I.ok.hd hc) st' (by have:n<=i:=hg;lia) fun h' eb=>⟨rfl,I.turned (t':=s.toks) (fun b o hb e=>eb b o hb e) f0 f1 f3 f4 f5⟩
 self:=fun _ _ _ _ _ st h=>wpAny_pyIter_rangeiter st h
section
variable {X:Cx}{tg:Expr}
noncomputable def size3 (a b c:Int):Nat:=(Builtin.Range.rangeSize a b c).toNat
theorem jg (a b c:Int):((size3 a b c:Nat):Int)=Builtin.Range.rangeSize a b c:=by
 unfold size3
 refine Int.toNat_of_nonneg ?_
 unfold Builtin.Range.rangeSize
 split
 ·split
  ·have:0<=(b-a-1)/c:=Int.ediv_nonneg (by lia) (by lia)
   lia
  ·lia
 ·split
  ·have:0<=(a-b-1)/(-c):=Int.ediv_nonneg (by lia) (by lia)
   lia
  ·lia
noncomputable def sm3 (a b c:Int):Bool:=decide (-1000000<=a/\a<=1000000/\ -1000000<=b/\b<=1000000/\ -1000<=c/\c<=1000/\c≠0)
noncomputable def zJ (ta:TA):TI:=fun σ H R=>ta σ H fun vs H1=> ∃a b c:Int,vs=[.int a,.int b,.int c]/\sm3 a b c=true/\R (Itr3 a c (size3 a b c)) H1
theorem zK {a b c:Expr}{ta:TA}{p pos:Pos} (hg:Gl X "range") (hm:X.mg "range"=none) (ha:PA X [a,b,c] ta) (hs:starEach [a,b,c] X.env=[(false,eval a X.env),(false,eval b X.env),(false,eval c X.env)]:=by rfl) (hs2:starEach [b,c] X.env=[(false,eval b X.env),(false,eval c X.env)]:=by rfl):
  PI X tg (.Call (.Name "range" p) [a,b,c] [] pos) (zJ ta):=by
 intro pins s σ H R I h
 refine Call_ (eJ I hg hm boot_range (PyProof.Rows.callWith_type1 (thn (ha pos pins s σ H _ I h) fun us s1 ⟨vs,H1,I1,r1,q1⟩=> ?_) (by rw [hs,hs2]) (by rw [hs2];rfl)))
 obtain ⟨i,j,l,e,q1,q⟩:=q1
 subst e
 have q1:=of_decide_eq_true q1
 cases r1 with
 |cons r rr=>
  cases rr with
  |cons r' rr=>
   cases rr with
   |cons r'' rr=>
    cases rr
    obtain ⟨t,rfl⟩:=r
    obtain ⟨t',rfl⟩:=r'
    obtain ⟨t'',rfl⟩:=r''
    refine call_range_3 (by lia) ?_ (.inl (PyProof.noPylong_small (by lia)))
    have sz:=jg i j l
    have lt:Builtin.Range.rangeSize i j l<=2000001:=by
     unfold Builtin.Range.rangeSize
     split
     ·split
      ·have:(j-i-1)/l<=j-i-1:=Int.ediv_le_self _ (by lia)
       lia
      ·lia
     ·split
      ·have:(i-j-1)/(-l)<=i-j-1:=Int.ediv_le_self _ (by lia)
       lia
      ·lia
    have ge:0<=Builtin.Range.rangeSize i j l:=by lia
    have hsm:Builtin.Range.small i j l=true:=by
     unfold Builtin.Range.small
     simp only [Builtin.Range.rangeFitsLong,Bool.and_eq_true,Bool.or_eq_true,decide_eq_true_eq,beq_iff_eq]
     generalize Builtin.Range.rangeSize i j l=z at*
     refine ⟨by lia,.inr ?_⟩
     split
     ·rw [decide_eq_true (by lia),decide_eq_true (by lia)];rfl
     ·rw [decide_eq_true (by lia),decide_eq_true (by lia)];rfl
    refine wpAny_pyIter_range (IsRange.new ..) hsm ?_
    have I2:Inv X pins σ H1 {s1 with heap:=s1.heap.push {cls:= .type "range",data:= .fields #[.int i t,.int j t',.int l t'']},toks:=s1.toks}:=I1.kept fun b o e=>Heap.get?_push_of_some _ e
    refine ⟨(s1.heap.push {cls:= .type "range",data:= .fields #[.int i t,.int j t',.int l t'']}).objs.size,[(s1.heap.push {cls:= .type "range",data:= .fields #[.int i t,.int j t',.int l t'']}).objs.size],_,_,H1,rfl,
     I2.kept (t':=s1.toks) fun b o e=>Heap.get?_push_of_some _ e,zI _ i l (size3 i j l),?_,fun b hb=> ?_,q⟩
    ·show IsRangeIter _ _ (i+((0:Nat):Int)*l) (((size3 i j l:Nat):Int)-((0:Nat):Int)) l
     rw [sz,show i+((0:Nat):Int)*l=i by simp,show Builtin.Range.rangeSize i j l-((0:Nat):Int)=Builtin.Range.rangeSize i j l by simp]
     exact Heap.get?_push_size _ rfl
    ·have e:b=(s1.heap.push {cls:= .type "range",data:= .fields #[.int i t,.int j t',.int l t'']}).objs.size:=by simpa using hb
     subst e
     exact I2.fpOk (Nat.le_refl _) (I2.hok.fresh (Nat.le_refl _))
noncomputable def bj (lo st:Int) (n:Nat):List Dv:=(List.range n).map fun (k:Nat)=>Dv.int (lo+(k:Int)*st)
noncomputable def iR3 (m m2 m3:EM):Dt->Option (List Dv):=fun δ=>(m δ).bind fun x=>(m2 δ).bind fun y=>(m3 δ).bind fun z=>match x,y,z with
 | .int a,.int b,.int c=>if sm3 a b c=true/\size3 a b c<=lim then some (bj a c (size3 a b c)) else none
 |_,_,_=>none
theorem zL {H:Hp}{lp:Bool}{lo st:Int}{n:Nat} (hz:n<=lim):IOk KF W lp H (Itr3 lo st n) (bj lo st n):=by
 have hl:(bj lo st n).length=n:=by unfold bj;rw [List.length_map,List.length_range]
 refine ⟨by rw [hl];exact hz,fun H' s=> ?_⟩
 rw [hl]
 refine ⟨fun i hi=>hi,fun i x H'' hi y=> ?_,Nat.le_refl n⟩
 obtain ⟨e1,e2⟩:=y
 subst e2
 refine ⟨e1,_,?_,.int _⟩
 unfold bj
 rw [List.getElem?_map,List.getElem?_range hi]
 rfl
variable {ms:List Nat}{lp:Bool}{k k2 k3:Kd}{a b c:Expr}{ma mb mc:EM}{pos:Pos}
theorem pU {p:Pos} (hg:Gl X "range") (hm:X.mg "range"=none) (h:PD X ms k a ma) (h2:PD X ms k2 b mb) (h3:PD X ms k3 c mc) (hs:starEach [a,b,c] X.env=[(false,eval a X.env),(false,eval b X.env),(false,eval c X.env)]:=by rfl)
  (hs2:starEach [b,c] X.env=[(false,eval b X.env),(false,eval c X.env)]:=by rfl) (hs3:starEach [c] X.env=[(false,eval c X.env)]:=by rfl):
  PDi X ms lp tg (.Call (.Name "range" p) [a,b,c] [] pos) (iR3 ma mb mc):=by
 obtain ⟨te,pe,q⟩:=h
 obtain ⟨te2,pe2,q2⟩:=h2
 obtain ⟨te3,pe3,q3⟩:=h3
 refine ⟨_,zK hg hm (bK pe (bK pe2 (bK pe3 cY hs3) (by rw [hs2,hs3])) (by rw [hs,hs2])) hs hs2,fun δ σ H0 H R ds L hm hq=> ?_⟩
 obtain ⟨x,hx,e⟩:=Option.bind_eq_some_iff.mp hm
 obtain ⟨y,hy,e⟩:=Option.bind_eq_some_iff.mp e
 obtain ⟨z,hz,e⟩:=Option.bind_eq_some_iff.mp e
 refine q δ σ H0 H _ x L hx fun v H1 s1 g=> ?_
 refine q2 δ σ H0 H1 _ y (L.same s1) hy fun u H2 s2 g2=> ?_
 refine q3 δ σ H0 H2 _ z (L.same (s1.tr s2)) hz fun w H3 s3 g3=> ?_
 have g:=((g.same s2).same s3).bor
 have g2:=(g2.same s3).bor
 have g3:=g3.bor
 have sh: ∃i j l,x= .int i/\y= .int j/\z= .int l:=by
  cases x<;>first|(cases e;done)|(cases y<;>first|(cases e;done)|(cases z<;>first|(cases e;done)|exact ⟨_,_,_,rfl,rfl,rfl⟩))
 obtain ⟨i,j,l,rfl,rfl,rfl⟩:=sh
 cases g
 cases g2
 cases g3
 simp only at e
 split at e
 ·next c=>
  cases e
  exact ⟨i,j,l,rfl,c.1,hq _ H3 (s1.tr (s2.tr s3)) (zL c.2)⟩
 ·cases e
end
end L2
set_option maxHeartbeats 4000000
namespace L2
open PySem PySem.Spec PyProof.Rows
variable {KF:PySem.W.Frag}{W W':Addr->Prop}
section
variable {X:Cx}{ms:List Nat}{rk:Kd}{e:Expr}{m:EM}{pos pos':Pos}
noncomputable def eu (i:Nat) (m:EM):SM:=fun δ=>(m δ).bind fun d=>match d with
 | .ins C fs=>some (.nx (δ.set i (some (.ins C fs))))
 |_=>none
theorem pV {i:Nat}{x:Str} (hi:(decide (i+1000∈ms)&&decide (i∉ms))=true) (h:PD X ms .dp e m) (hN:X.N.Nodup) (hx:X.N[i]?=some x) (hl:Loc X.env.scope x) (hs:swapsWith e (some (.Name x pos')) pos.line X.env=pure false:=by rfl)
  (hf:X.fn x=true \/X.env.scope.names.lookup x=some .local:=by first|exact .inl rfl|exact .inr rfl|assumption) (hz:decide (i+3000∈ms)=false:=by rfl):PDs X ms rk (.Assign [.Name x pos'] e pos) (eu i m):=by
 obtain ⟨te,p,q⟩:=h
 refine ⟨_,eL hN hx hl p hs hf,fun {W} δ σ H0 H D r R hm hq=> ?_⟩
 obtain ⟨d,hd,e⟩:=Option.bind_eq_some_iff.mp hm
 rw [Bool.and_eq_true] at hi
 have h1:=of_decide_eq_true hi.1
 have h2:=of_decide_eq_true hi.2
 refine q δ σ H0 H _ d R hd fun v H' s g=> ?_
 obtain ⟨F,nd,fr,t⟩:=g
 cases d<;>simp only [reduceCtorEq,Option.some.injEq] at e
 subst e
 have: ∃a,v= .ref a:=by
  cases t with
  |imm r=>cases r with|ins s _ _=>exact s.elim
  |ins _ _=>exact ⟨_,rfl⟩
 obtain ⟨a,rfl⟩:=this
 obtain ⟨W',R',st⟩:=R.setDeep h1 h2 s nd fr t (of_decide_eq_false hz)
 exact hq W' _ H' st R'
end
theorem FnOk.weak {P:Program}{w:World}{K:PySem.W.Frag}{mg:Str->Option Value}{base:Heap}{CX:CXT}{k:Nat}{f:Addr}{fd:FuncData}{ps:List Str}{sp sp':Sp} (F:FnOk P w K mg base CX k f fd ps sp) (h: ∀vs H Q E,sp' vs H Q E->sp vs H Q E):FnOk P w K mg base CX k f fd ps sp':=
 ⟨fun vs H Q E z=>F.len vs H Q E (h vs H Q E z),fun A outer s H args us vs Q E hr h0 hb r z=>F.run A outer s H args us vs Q E hr h0 hb r (h vs H Q E z)⟩
end L2
set_option maxHeartbeats 4000000
namespace K25
open PySem L2
noncomputable def top (i:Nat):Stmt:=PySem.Challenge.pw_deltahouse_k25_once_kept.main.body.getD i (.Pass ⟨0,0,0,0⟩)
structure jh (K:PySem.W.Frag) (C:Addr):Prop where
 cl:Cls K C
 n_weights:cu K C "weights"
structure Blt (mg:Str->Option Value):Prop where
 bool_:mg "bool"=none
 int_:mg "int"=none
 isinstance_:mg "isinstance"=none
 len_:mg "len"=none
 list_:mg "list"=none
 min_:mg "min"=none
 range_:mg "range"=none
 sorted_:mg "sorted"=none
 sum_:mg "sum"=none
 tuple_:mg "tuple"=none
noncomputable abbrev fm:Stmt:=top 1
theorem jj:aP ["pairs","sums","row","weight"] ["pairs"] (ar fm):=⟨rfl,rfl,rfl,by decide+kernel,rfl,by decide+kernel,by decide+kernel⟩
noncomputable abbrev fo:Stmt:=top 2
theorem zM:aP ["one"] ["one"] (ar fo):=⟨rfl,rfl,rfl,by decide+kernel,rfl,by decide+kernel,by decide+kernel⟩
noncomputable abbrev fq:Stmt:=top 5
theorem zN:aP ["one","number"] ["one","number"] (ar fq):=⟨rfl,rfl,rfl,by decide+kernel,rfl,by decide+kernel,by decide+kernel⟩
noncomputable abbrev fu:Stmt:=top 11
theorem pW:aP ["_law_cell","_law_k","_law_number_here"] ["_law_cell","_law_k"] (ar fu):=⟨rfl,rfl,rfl,by decide+kernel,rfl,by decide+kernel,by decide+kernel⟩
noncomputable abbrev fw:Stmt:=top 12
theorem pX:aP ["_law_cell","_law_scale"] ["_law_cell"] (ar fw):=⟨rfl,rfl,rfl,by decide+kernel,rfl,by decide+kernel,by decide+kernel⟩
noncomputable abbrev fx:Stmt:=top 15
theorem zO:aP ["_law_weights"] ["_law_weights"] (ar fx):=⟨rfl,rfl,rfl,by decide+kernel,rfl,by decide+kernel,by decide+kernel⟩
noncomputable abbrev fy:Stmt:=top 17
theorem zP:aP ["_law_found"] ["_law_found"] (ar fy):=⟨rfl,rfl,rfl,by decide+kernel,rfl,by decide+kernel,by decide+kernel⟩
noncomputable abbrev fz:Stmt:=top 19
theorem hE:aP ["_law_now","_law_change","_law_due_here","_law_row_here","_law_weight_here","_law_before"] ["_law_now","_law_change"] (ar fz):=⟨rfl,rfl,rfl,by decide+kernel,rfl,by decide+kernel,by decide+kernel⟩
noncomputable abbrev fA:Stmt:=mN (top 9) 0
theorem zQ:aP ["self"] ["self"] (ar fA):=⟨rfl,rfl,rfl,by decide+kernel,rfl,by decide+kernel,by decide+kernel⟩
noncomputable abbrev fB:Stmt:=top 3
theorem zR:aP ["one","other"] ["one","other"] (ar fB):=⟨rfl,rfl,rfl,by decide+kernel,rfl,by decide+kernel,by decide+kernel⟩
noncomputable abbrev fC:Stmt:=top 4
theorem zS:aP ["one","other"] ["one","other"] (ar fC):=⟨rfl,rfl,rfl,by decide+kernel,rfl,by decide+kernel,by decide+kernel⟩
noncomputable abbrev fD:Stmt:=top 7
theorem zT:aP ["one"] ["one"] (ar fD):=⟨rfl,rfl,rfl,by decide+kernel,rfl,by decide+kernel,by decide+kernel⟩
noncomputable abbrev fE:Stmt:=top 13
theorem pY:aP ["_law_cell","_law_width","_law_way","_law_base","_law_place"] ["_law_cell","_law_width","_law_way","_law_base"] (ar fE):=⟨rfl,rfl,rfl,by decide+kernel,rfl,by decide+kernel,by decide+kernel⟩
noncomputable abbrev fF:Stmt:=top 14
theorem jk:aP ["_law_cell","_law_weight_here"] ["_law_cell"] (ar fF):=⟨rfl,rfl,rfl,by decide+kernel,rfl,by decide+kernel,by decide+kernel⟩
noncomputable abbrev fG:Stmt:=top 18
theorem jl:aP ["_law_found","_law_due_here","_law_k","_law_pair","_law_number_here"] ["_law_found","_law_due_here"] (ar fG):=⟨rfl,rfl,rfl,by decide+kernel,rfl,by decide+kernel,by decide+kernel⟩
noncomputable abbrev fH:Stmt:=top 16
theorem cg:aP ["_law_cells","_law_width","_law_way","_law_base","_law_now","_law_changes_here","_law_k","_law_step","_law_j","_law_cell","_law_row_here","_law_weight_here"] ["_law_cells","_law_width","_law_way"] (ar fH):=⟨rfl,rfl,rfl,by decide+kernel,rfl,by decide+kernel,by decide+kernel⟩
noncomputable abbrev fI:Stmt:=mN (top 9) 1
theorem eA:aP ["self","one","before","now","row","weight"] ["self","one"] (ar fI):=⟨rfl,rfl,rfl,by decide+kernel,rfl,by decide+kernel,by decide+kernel⟩
noncomputable abbrev dE:Stmt:=top 20
theorem bC:aP ["_law_script","_law_cells","_law_number_here","_law_width","_law_changes_here","_law_keeper","_law_beside","_law_now","_law_held","_law_change","_law_due_here","_law_handed","_law_found","_law_k","_law_changed"] ["_law_script"] (ar dE):=⟨rfl,rfl,rfl,by decide+kernel,rfl,by decide+kernel,by decide+kernel⟩
noncomputable def zU:SM:=
 (sPut 1 (eVar 2) (eOp dAdd (dS (eVar 1) (eVar 2) (eC (.int 0))) (eVar 3)))
noncomputable def zV:Dt->Option Bool:=
 (tOf (eOp dNe (eOp dGet (eVar 1) (eVar 0)) (eC (.int 0))))
noncomputable def zW:EM:=
 (eTup (ad (eVar 0) (ad (eImm (eOp dGet (eVar 1) (eVar 0))) aNil)))
noncomputable def zX:SM:=
 (sSeq (sSet 1 (eC (.dic [])))
  (sSeq (sFor (iL (eVar 0)) (gT 2 (gC (gN 2) (gC (gN 3) gZ))) zU)
  (sRet (ba [none,some 1] (iL (ah cI (ad (eVar 1) aNil))) (gN 0) zV zW))))
noncomputable def fJ:List Dv->Option Dv:=aI 4 1 zX
noncomputable def jn:Dt->Option Bool:=
 (tOf (eOp dGt (eVar 1) (eC (.int 0))))
noncomputable def jo:EM:=
 (eVar 0)
noncomputable def pZ:SM:=
 (sRet (ba [none,none] (iL (eVar 0)) (gT 2 (gC (gN 0) (gC (gN 1) gZ))) jn jo))
noncomputable def hJ:List Dv->Option Dv:=aI 1 1 pZ
noncomputable def zY:EM:=
 (eTup (ad (eVar 0) (ad (eOp dMul (eVar 1) (eVar 2)) aNil)))
noncomputable def zZ:SM:=
 (sSeq (sIf (tOf (eOp dEq (eVar 1) (eC (.int 0))))
   (sRet (be aNil))
   aR)
  (sRet (ba [none,none,some 1] (iL (eVar 0)) (gT 2 (gC (gN 0) (gC (gN 1) gZ))) tyes zY)))
noncomputable def jp:List Dv->Option Dv:=aI 2 2 zZ
noncomputable def p6:SM:=
 (sSeq (sSet 2 (eOp dMod (eOp dMul (eOp dAdd (eOp dAdd (eVar 0) (eVar 1)) (eC (.int 1))) (eOp dAdd (eC (.int 48271)) (eOp dMul (eOp dMul (eC (.int 2)) (eVar 1)) (eVar 1)))) (eC (.int 2147483647))))
  (sRet (eOp dMod (eOp dMul (eVar 2) (eVar 2)) (eC (.int 2147483629)))))
noncomputable def cW:List Dv->Option Dv:=aI 3 2 p6
noncomputable def p7:SM:=
 (sSeq (sSet 1 (eOp dIx (be (ad (eC (.int 1)) (ad (eC (.int 1)) (ad (eC (.int 1)) (ad (eOp dPow (eC (.int 10)) (eC (.int 9))) (ad (eOp dPow (eC (.int 10)) (eC (.int 54))) (ad (eOp dMul (eOp dMul (eOp dPow (eC (.int 10)) (eC (.int 64))) (eOp dPow (eC (.int 10)) (eC (.int 64)))) (eOp dPow (eC (.int 10)) (eC (.int 64)))) aNil))))))) (eOp dMod (eOp dDiv (eVar 0) (eC (.int 2000003))) (eC (.int 6)))))
  (sRet (eOp dAdd (eOp dMul (eOp dSub (eOp dMod (eVar 0) (eC (.int 2000003))) (eC (.int 1000001))) (eVar 1)) (eOp dMod (eOp dMod (eVar 0) (eC (.int 11))) (eC (.int 2))))))
noncomputable def dF:List Dv->Option Dv:=aI 2 1 p7
noncomputable def jq:Dt->Option Bool:=
 (tOf (eOp dNe (eOp dGet (eVar 1) (eVar 0)) (eC (.int 0))))
noncomputable def jr:EM:=
 (eTup (ad (eVar 0) (ad (eImm (eOp dGet (eVar 1) (eVar 0))) aNil)))
noncomputable def p8:SM:=
 (sRet (ba [none,some 0] (iL (ah cI (ad (eVar 0) aNil))) (gN 0) jq jr))
noncomputable def cX:List Dv->Option Dv:=aI 1 1 p8
noncomputable def p9:SM:=
 (sRet (eImm (eAnd (eIsi "int" (eVar 0)) (eUn dNot (eIsi "bool" (eVar 0))))))
noncomputable def fK:List Dv->Option Dv:=aI 1 1 p9
noncomputable def fL:SM:=
 (sSeq (sSet 5 (dS (eVar 0) (eVar 3) (eC (.int 0))))
  (sSeq (sPut 0 (eVar 3) (eOp dAdd (eVar 5) (eVar 4)))
  (sSeq (sIf (tand (tOf (eOp dGt (eVar 5) (eC (.int 0)))) (tOf (eOp dLe (eOp dGet (eVar 0) (eVar 3)) (eC (.int 0)))))
   (sApp 2 (eTup (ad (eVar 3) (ad (eUn dNeg (eC (.int 1))) aNil))))
   aR)
  (sIf (tand (tOf (eOp dLe (eVar 5) (eC (.int 0)))) (tOf (eOp dGt (eOp dGet (eVar 0) (eVar 3)) (eC (.int 0)))))
   (sApp 2 (eTup (ad (eVar 3) (ad (eC (.int 1)) aNil))))
   aR))))
noncomputable def lh:SM:=
 (sSeq (sSet 2 (be aNil))
  (sSeq (sFor (iL (eVar 1)) (gT 2 (gC (gN 3) (gC (gN 4) gZ))) fL)
  (sRet (eVar 2))))
noncomputable def M_w_due:List Dv->Option (Dv×Dv):=ioM false 6 2 lh
noncomputable def jt (C_OnceKeeper:Addr):SM:=
 (lb 0 C_OnceKeeper "weights" (eC (.dic [])))
noncomputable def dX (C_OnceKeeper:Addr):List Dv->Option (Dv×Dv):=ioM true 1 1 (jt C_OnceKeeper)
noncomputable def Aa:SM:=
 (sRet (ah fJ (ad (eOp dN (eVar 0) (eVar 1)) aNil)))
noncomputable def ju:List Dv->Option Dv:=aI 2 2 Aa
noncomputable def Ab:SM:=
 (sRet (ah fJ (ad (eOp dN (eVar 0) (ah jp (ad (eVar 1) (ad (eUn dNeg (eC (.int 1))) aNil)))) aNil)))
noncomputable def jv:List Dv->Option Dv:=aI 2 2 Ab
noncomputable def lj:EM:=
 (eTup (ad (eVar 0) (ad (eC (.int 1)) aNil)))
noncomputable def qd:SM:=
 (sRet (ba [none] (iL (ah hJ (ad (eVar 0) aNil))) (gN 0) tyes lj))
noncomputable def fM:List Dv->Option Dv:=aI 1 1 qd
noncomputable def ll:EM:=
 (eOp dSub (eOp dMod (eOp dMul (eOp dMod (eVar 1) (eC (.int 12))) (eOp dAdd (eVar 0) (eC (.int 2)))) (eC (.int 5))) (eC (.int 2)))
noncomputable def lm:EM:=
 (eOp dAdd (eOp dIx (eVar 1) (eVar 0)) (eOp dMul (eOp dSub (eOp dMod (eOp dDiv (eVar 2) (eC (.int 8))) (eC (.int 5))) (eC (.int 2))) (ah fInt (ad (eOp dEq (eVar 0) (eVar 3)) aNil))))
noncomputable def lq:EM:=
 (ah dF (ad (ah cW (ad (eOp dMod (eVar 1) (eC (.int 9))) (ad (eVar 0) aNil))) aNil))
noncomputable def jw:SM:=
 (sSeq (sIf (tOf (eOp dEq (eVar 2) (eC (.int 0))))
   (sRet (ah dM (ad (ba [none,some 0] (iR1 (eVar 1)) (gN 0) tyes ll) aNil)))
   aR)
  (sSeq (sIf (tOf (eOp dEq (eVar 2) (eC (.int 1))))
   (sSeq (sSet 4 (eOp dMod (eVar 0) (eVar 1)))
  (sRet (ah dM (ad (ba [none,some 3,some 0,some 4] (iR1 (eVar 1)) (gN 0) tyes lm) aNil))))
   aR)
  (sRet (ah dM (ad (ba [none,some 0] (iR1 (eVar 1)) (gN 0) tyes lq) aNil)))))
noncomputable def eB:List Dv->Option Dv:=aI 5 4 jw
noncomputable def hU:SM:=
 (sSeq (sSet 1 (eOp dSub (eOp dMod (eVar 0) (eC (.int 5))) (eC (.int 2))))
  (sSeq (sIf (tOf (eOp dEq (eOp dMod (eVar 0) (eC (.int 7))) (eC (.int 3))))
   (sSet 1 (ah dF (ad (eVar 0) aNil)))
   aR)
  (sSeq (sIf (tOf (eOp dEq (eVar 1) (eC (.int 0))))
   (sSet 1 (eC (.int 1)))
   aR)
  (sRet (eImm (eVar 1))))))
noncomputable def dY:List Dv->Option Dv:=aI 2 1 hU
noncomputable def lr:SM:=
 (sIf (tnot (tOf (ah fK (ad (eVar 4) aNil))))
   (sRet (eC (.bl false)))
   aR)
noncomputable def lu:SM:=
 (sSeq (sSet 3 (eOp dIx (eVar 0) (eVar 2)))
  (sSeq (sIf (tor (tnot (tOf (eIsi "tuple" (eVar 3)))) (tor (tOf (eOp dNe (ah fLen (ad (eVar 3) aNil)) (eC (.int 2)))) (tnot (tOf (eIsi "tuple" (eOp dIx (eVar 3) (eC (.int 0))))))))
   (sRet (eC (.bl false)))
   aR)
  (sSeq (sIf (tor (tnot (tOf (ah fK (ad (eOp dIx (eVar 3) (eC (.int 1))) aNil)))) (tOf (eOp dNe (eVar 3) (eOp dIx (eVar 1) (eVar 2)))))
   (sRet (eC (.bl false)))
   aR)
  (sFor (iT (eOp dIx (eVar 3) (eC (.int 0)))) (gN 4) lr))))
noncomputable def qf:SM:=
 (sSeq (sIf (tor (tnot (tOf (eIsi "list" (eVar 0)))) (tOf (eOp dNe (ah fLen (ad (eVar 0) aNil)) (ah fLen (ad (eVar 1) aNil)))))
   (sRet (eC (.bl false)))
   aR)
  (sSeq (sFor (iR1 (ah fLen (ad (eVar 1) aNil))) (gN 2) lu)
  (sRet (eC (.bl true)))))
noncomputable def ci:List Dv->Option Dv:=aI 5 2 qf
noncomputable def lv:EM:=
 (ah dF (ad (ah cW (ad (ah fLen (ad (eVar 1) aNil)) (ad (eVar 0) aNil))) aNil))
noncomputable def fN:SM:=
 (sSeq (sSet 9 (ah cW (ad (eOp dIx (eVar 0) (eVar 8)) (ad (eVar 8) aNil))))
  (sSeq (sSet 10 (ah eB (ad (eOp dDiv (eVar 9) (eC (.int 3))) (ad (eVar 1) (ad (eVar 2) (ad (eVar 3) aNil))))))
  (sSeq (sSet 11 (ah dY (ad (eOp dDiv (eVar 9) (eC (.int 64))) aNil)))
  (sSeq (sIf (tand (tOf (eOp dEq (eOp dMod (eVar 9) (eC (.int 3))) (eC (.int 1)))) (tOf (eOp dNe (dS (eVar 4) (eVar 10) (eC (.int 0))) (eC (.int 0)))))
   (sSet 11 (eUn dNeg (eOp dGet (eVar 4) (eVar 10))))
   aR)
  (sPut 7 (eVar 10) (eVar 11))))))
noncomputable def fO:SM:=
 (sPut 4 (eVar 10) (eOp dAdd (dS (eVar 4) (eVar 10) (eC (.int 0))) (eOp dGet (eVar 7) (eVar 10))))
noncomputable def hV:SM:=
 (sSeq (sSet 7 (eC (.dic [])))
  (sSeq (sFor (iR2 (eVar 6) (ah fg (ad (eOp dAdd (eVar 6) (eC (.int 3))) (ad (ah fLen (ad (eVar 0) aNil)) aNil)))) (gN 8) fN)
  (sSeq (sIf (tOf (eOp dEq (eOp dMod (eOp dIx (eVar 0) (eVar 6)) (eC (.int 9))) (eC (.int 4))))
   (sSet 7 (eC (.dic [])))
   aR)
  (sLet 7 (sSeq (g6 (iD (eVar 7)) (gN 10) fO)
  (ff 5 (ah cX (ad (eVar 7) aNil))))))))
noncomputable def qj:SM:=
 (sSeq (sSet 3 (ba [none,some 0] (iR1 (eVar 1)) (gN 0) tyes lv))
  (sSeq (sSet 4 (eC (.dic [])))
  (sSeq (g0 5 (be aNil))
  (sSeq (sFor (iR3 (eC (.int 0)) (ah fLen (ad (eVar 0) aNil)) (eC (.int 3))) (gN 6) hV)
  (sRet (eVar 5))))))
noncomputable def hX:List Dv->Option Dv:=aI 12 3 qj
noncomputable def hZ (C_OnceKeeper:Addr):Dt->Option Bool:=
 (tOf2 dIn (eVar 0) (eFld C_OnceKeeper "weights" (eVar 2)))
noncomputable def h7 (C_OnceKeeper:Addr):EM:=
 (eTup (ad (eVar 0) (ad (eImm (eOp dGet (eFld C_OnceKeeper "weights" (eVar 2)) (eVar 0))) aNil)))
noncomputable def lw (C_OnceKeeper:Addr):SM:=
 (je 0 C_OnceKeeper "weights" (eVar 4))
noncomputable def lx (C_OnceKeeper:Addr):SM:=
 (jd 0 C_OnceKeeper "weights" (eVar 4) (eVar 5))
noncomputable def ly (C_OnceKeeper:Addr):SM:=
 (sSeq (sSet 2 (ba [none,none,some 0] (iL (eVar 1)) (gT 2 (gC (gN 0) (gC (gN 1) gZ))) (hZ C_OnceKeeper) (h7 C_OnceKeeper)))
  (sSeq (sSet 3 (ah ju (ad (eVar 2) (ad (eVar 1) aNil))))
  (sSeq (sFor (iL (eVar 2)) (gT 2 (gC (gN 4) (gC (gN 5) gZ))) (lw C_OnceKeeper))
  (sSeq (sFor (iL (eVar 3)) (gT 2 (gC (gN 4) (gC (gN 5) gZ))) (lx C_OnceKeeper))
  (sRet (ah jv (ad (ah fM (ad (eVar 3) aNil)) (ad (ah fM (ad (eVar 2) aNil)) aNil))))))))
noncomputable def M_OnceKeeper_change (C_OnceKeeper:Addr):List Dv->Option (Dv×Dv):=ioM false 6 2 (ly C_OnceKeeper)
noncomputable def h8 (C_OnceKeeper:Addr):SM:=
 (sSeq (cV 7 10 (g8 7 M_w_due (ad (eVar 9) aNil)))
  (sSeq (sSet 11 (ah cN (ad (eVar 9) aNil)))
  (sSeq (cV 5 12 (cf 5 C_OnceKeeper "change" (M_OnceKeeper_change C_OnceKeeper) (eVar 11)))
  (sSeq (sIf (tor (tOf (eOp dNe (eVar 11) (eVar 9))) (tnot (tOf (ah ci (ad (eVar 12) (ad (eVar 10) aNil))))))
   (sRet (eC (.bl false)))
   aR)
  (sSeq (sApp 11 (eTup (ad (eOp e7 (eTup (ad (eC (.int 0)) aNil)) (eVar 3)) (ad (eC (.int 5)) aNil))))
  (sSeq (sIf (tOf (eOp dEq (eOp dMod (ah fLen (ad (eVar 8) aNil)) (eC (.int 2))) (eC (.int 0))))
   (gO 12)
   (sApp 12 (eTup (ad (eOp e7 (eTup (ad (eC (.int 0)) aNil)) (eVar 3)) (ad (eC (.int 1)) aNil)))))
  (sLet 12 (ff 8 (eTup (ad (eVar 12) (ad (ah cN (ad (eVar 12) aNil)) (ad (eVar 10) aNil))))))))))))
noncomputable def fP (C_OnceKeeper:Addr):Dt->Option Bool:=
 (tOf (eOp dGt (eOp dGet (eVar 1) (eVar 0)) (eC (.int 0))))
noncomputable def fQ (C_OnceKeeper:Addr):EM:=
 (eTup (ad (eVar 0) (ad (eC (.int 1)) aNil)))
noncomputable def eE (C_OnceKeeper:Addr):EM:=
 (eTup (ad (eVar 0) (ad (eUn dNeg (eVar 1)) aNil)))
noncomputable def fR (C_OnceKeeper:Addr):SM:=
 (sSeq (cV 5 12 (cf 5 C_OnceKeeper "change" (M_OnceKeeper_change C_OnceKeeper) (ba [none,none] (iL (eOp dIx (eVar 4) (eVar 13))) (gT 2 (gC (gN 0) (gC (gN 1) gZ))) tyes (eE C_OnceKeeper))))
  (sIf (tnot (tOf (ah ci (ad (eVar 12) (ad (ba [none,none] (iL (eOp dIx (eOp dIx (eVar 8) (eVar 13)) (eC (.int 2)))) (gT 2 (gC (gN 0) (gC (gN 1) gZ))) tyes (eE C_OnceKeeper)) aNil)))))
   (sRet (eC (.bl false)))
   aR))
noncomputable def fS (C_OnceKeeper:Addr):SM:=
 (sIf (tOf (eOp dNe (eVar 12) (eVar 14)))
   (sRet (eC (.bl false)))
   aR)
noncomputable def qm (C_OnceKeeper:Addr):SM:=
 (sSeq (sSet 1 (ah cN (ad (eSl (eVar 0) jY (iF (eC (.int 63)))) aNil)))
  (sSeq (sSet 2 (ah cW (ad (ah fSum (ad (eVar 1) aNil)) (ad (eC (.int 1)) aNil))))
  (sSeq (sSet 3 (eOp dAdd (eC (.int 1)) (eOp dMod (eVar 2) (eC (.int 8)))))
  (sSeq (sSet 4 (ah hX (ad (eVar 1) (ad (eVar 3) (ad (eOp dMod (eOp dDiv (eVar 2) (eC (.int 8))) (eC (.int 3))) aNil)))))
  (sSeq (eu 5 (eNew C_OnceKeeper (dX C_OnceKeeper)))
  (sSeq (eu 6 (eNew C_OnceKeeper (dX C_OnceKeeper)))
  (sSeq (sSet 7 (eC (.dic [])))
  (sSeq (g0 8 (be aNil))
  (sSeq (sFor (iL (eVar 4)) (gN 9) (h8 C_OnceKeeper))
  (sSeq (sIfX (xNot (xOf (fj ci (xIO 6 (cf 6 C_OnceKeeper "change" (M_OnceKeeper_change C_OnceKeeper) (ah cX (ad (eVar 7) aNil)))) (fe [none,some 7] (iL (ah cI (ad (eVar 7) aNil))) (gN 0) (fP C_OnceKeeper) (fQ C_OnceKeeper)))))
   (sRet (eC (.bl false)))
   aR)
  (sSeq (sFor (iR3 (eOp dSub (ah fLen (ad (eVar 4) aNil)) (eC (.int 1))) (eUn dNeg (eC (.int 1))) (eUn dNeg (eC (.int 1)))) (gN 13) (fR C_OnceKeeper))
  (sSeq (sIfX (xOr (xNot (xOf (fj ci (xIO 5 (cf 5 C_OnceKeeper "change" (M_OnceKeeper_change C_OnceKeeper) (be aNil))) (be aNil)))) (xNot (xOf (fj ci (xIO 6 (cf 6 C_OnceKeeper "change" (M_OnceKeeper_change C_OnceKeeper) (be aNil))) (be aNil)))))
   (sRet (eC (.bl false)))
   aR)
  (sLet 12 (sLet 8 (sSeq (sFor (iL (eVar 8)) (gT 3 (gC (gN 12) (gC (gN 14) (gC (gN 10) gZ)))) (fS C_OnceKeeper))
  (sRet (eC (.bl true))))))))))))))))))
noncomputable def jy (C_OnceKeeper:Addr):List Dv->Option Dv:=aI 15 1 (qm C_OnceKeeper)
section
variable {P:Program}{w:World}{K:PySem.W.Frag}{mg:Str->Option Value}{base:Heap}
theorem Ac {f:Addr}{fd:FuncData} (F:Fun K "heap_of" "heap_of" fm f fd) (B:Blt mg):
  FnOk P w K mg base CX0 1 f fd ["pairs"] (spD K .one fJ):=
 bQ (rk:= .one) (k:=0) [1] F jj rfl rfl fun cdv A outer s H E hr=>
   (am (ee (i:=1) rfl eZ jj.nd rfl (Or.inr rfl))
   (am (cC PassesOwn.never rfl (bO (aa 0 rfl (pv 0))) (cP rfl (aZ (aB rfl (aA (i:=2) jj.nd rfl (Or.inl rfl))) (aZ (aB rfl (aA (i:=3) jj.nd rfl (Or.inl rfl))) cO)))
   (av (iW (aX hr) rfl (pv 1) (aa 2 rfl (pv 2)) (aq cr cA (iV (aX hr) (bf 1 (pv 1)) (aa 2 rfl (pv 2)) af ⟨rfl,rfl,rfl,rfl⟩) (aa 3 rfl (pv 3))) rfl)))
   (av (aM (cR ["row","sums"] [none,some 1] [1] (hc:=rfl) (hi:=(bO (PD.le (bP (k1:= .bor) (kF rfl) kG rfl B.sorted_ jQ (ae (bf 1 (pv 1)) ai)) Kd.le.one_any))) (hg:=fun _ _ _ _=>(aB rfl (aA (i:=0) (show (["row","sums"]:List Str).Nodup by decide+kernel) rfl (Or.inl rfl)))) (ht:=fun _ _ _ _=>(gE (aW (dI hr.units) dL (cT (aX hr) (bf 1 (pv 1)) (aa 0 rfl (pv 0)) (fun _ _=>rfl)) af (aS _)))) (he:=fun _ _ _ _=>(bM (ae (aa 0 rfl (pv 0)) (ae (PD.le (gj (cT (aX hr) (bf 1 (pv 1)) (aa 0 rfl (pv 0)) (fun _ _=>rfl))) Kd.le.imm_any) ai)) (.inr (.inr (.inl rfl))))) (hz:=(bv 0)) (ck:=rfl) (hp:=rfl) (hz':=rfl)) (Kd.le.refl _) bg))))
theorem Ad {f:Addr}{fd:FuncData} (F:Fun K "rows_there" "rows_there" fo f fd) (B:Blt mg):
  FnOk P w K mg base CX0 1 f fd ["one"] (spD K .one hJ):=
 bQ (rk:= .one) (k:=0) [] F zM rfl rfl fun cdv A outer s H E hr=>
   (av (aM (cR ["row","weight"] [none,none] [] (hc:=rfl) (hi:=(bO (aa 0 rfl (pv 0)))) (hg:=fun _ _ _ _=>(cP rfl (aZ (aB rfl (aA (i:=0) (show (["row","weight"]:List Str).Nodup by decide+kernel) rfl (Or.inl rfl))) (aZ (aB rfl (aA (i:=1) (show (["row","weight"]:List Str).Nodup by decide+kernel) rfl (Or.inl rfl))) cO)))) (ht:=fun _ _ _ _=>(gE (aW ik iC (aa 1 rfl (pv 1)) af (aS _)))) (he:=fun _ _ _ _=>(aa 0 rfl (pv 0))) (hz:=(gD (cQ (bv 0) (cQ (bv 1) gB)))) (ck:=rfl) (hp:=rfl) (hz':=rfl)) (Kd.le.refl _) bg))
theorem Ae {f:Addr}{fd:FuncData} (F:Fun K "times" "times" fq f fd) (B:Blt mg):
  FnOk P w K mg base CX0 1 f fd ["one","number"] (spD K .one jp):=
 bQ (rk:= .one) (k:=0) [] F zN rfl rfl fun cdv A outer s H E hr=>
   (am (bF (aW (db hr.units) de (aa 1 rfl (pv 1)) af (aS _))
    (av (aM (df (k:= .bor) ai) (Kd.le.refl _) bg))
    bz)
   (av (aM (cR ["row","weight","number"] [none,none,some 1] [] (hc:=rfl) (hi:=(bO (aa 0 rfl (pv 0)))) (hg:=fun _ _ _ _=>(cP rfl (aZ (aB rfl (aA (i:=0) (show (["row","weight","number"]:List Str).Nodup by decide+kernel) rfl (Or.inl rfl))) (aZ (aB rfl (aA (i:=1) (show (["row","weight","number"]:List Str).Nodup by decide+kernel) rfl (Or.inl rfl))) cO)))) (ht:=fun _ _ _ _=>dO) (he:=fun _ _ _ _=>(bM (ae (aa 0 rfl (pv 0)) (ae (PD.le (aq cL cM (aa 1 rfl (pv 1)) (aa 2 rfl (pv 2))) Kd.le.imm_any) ai)) (.inr (.inr (.inl rfl))))) (hz:=(gD (cQ (bv 0) (cQ (bv 1) gB)))) (ck:=rfl) (hp:=rfl) (hz':=rfl)) (Kd.le.refl _) bg)))
theorem Af {f:Addr}{fd:FuncData} (F:Fun K "_law_mixed" "_law_mixed" fu f fd) (B:Blt mg):
  FnOk P w K mg base CX0 1 f fd ["_law_cell","_law_k"] (spD K .imm cW):=
 bQ (rk:= .imm) (k:=0) [] F pW rfl rfl fun cdv A outer s H E hr=>
   (am (bH (i:=2) rfl (PD.le (aq bo br (aq cL cM (aq cr cA (aq cr cA (aa 0 rfl (pv 0)) (aa 1 rfl (pv 1))) af) (aq cr cA af (aq cL cM (aq cL cM af (aa 1 rfl (pv 1))) (aa 1 rfl (pv 1))))) af) Kd.le.imm_any) (Kd.le.refl _) pW.nd rfl (Or.inl rfl))
   (av (aM (aq bo br (aq cL cM (aa 2 rfl (pv 2)) (aa 2 rfl (pv 2))) af) (Kd.le.refl _) aG)))
theorem Ag {f:Addr}{fd:FuncData} (F:Fun K "_law_number" "_law_number" fw f fd) (B:Blt mg):
  FnOk P w K mg base CX0 1 f fd ["_law_cell"] (spD K .imm dF):=
 bQ (rk:= .imm) (k:=0) [] F pX rfl rfl fun cdv A outer s H E hr=>
   (am (bH (i:=1) rfl (PD.le (cB (df (k:= .bor) (ae (PD.le af (Kd.le.bor _)) (ae (PD.le af (Kd.le.bor _)) (ae (PD.le af (Kd.le.bor _)) (ae (PD.le (aq gg gq af af) (Kd.le.bor _)) (ae (PD.le (aq gg gq af af) (Kd.le.bor _)) (ae (PD.le (aq cL cM (aq cL cM (aq gg gq af af) (aq gg gq af af)) (aq gg gq af af)) (Kd.le.bor _)) ai))))))) (aq bo br (aq fX gp (aa 0 rfl (pv 0)) af) af) (fun _ _=>rfl)) Kd.le.imm_any) (Kd.le.refl _) pX.nd rfl (Or.inl rfl))
   (av (aM (aq cr cA (aq cL cM (aq fW gm (aq bo br (aa 0 rfl (pv 0)) af) af) (aa 1 rfl (pv 1))) (aq bo br (aq bo br (aa 0 rfl (pv 0)) af) af)) (Kd.le.refl _) aG)))
theorem Ah {f:Addr}{fd:FuncData} (F:Fun K "_law_heap_by" "_law_heap_by" fx f fd) (B:Blt mg):
  FnOk P w K mg base CX0 1 f fd ["_law_weights"] (spD K .one cX):=
 bQ (rk:= .one) (k:=0) [] F zO rfl rfl fun cdv A outer s H E hr=>
   (av (aM (cR ["_law_row_here","_law_weights"] [none,some 0] [] (hc:=rfl) (hi:=(bO (PD.le (bP (k1:= .bor) (kF rfl) kG rfl B.sorted_ jQ (ae (PD.le (aa 0 rfl (pv 0)) (Kd.le.bor _)) ai)) Kd.le.one_any))) (hg:=fun _ _ _ _=>(aB rfl (aA (i:=0) (show (["_law_row_here","_law_weights"]:List Str).Nodup by decide+kernel) rfl (Or.inl rfl)))) (ht:=fun _ _ _ _=>(gE (aW (dI hr.units) dL (cT (aX hr) (aa 1 rfl (pv 1)) (aa 0 rfl (pv 0)) (fun _ _=>rfl)) af (aS _)))) (he:=fun _ _ _ _=>(bM (ae (aa 0 rfl (pv 0)) (ae (PD.le (gj (cT (aX hr) (aa 1 rfl (pv 1)) (aa 0 rfl (pv 0)) (fun _ _=>rfl))) Kd.le.imm_any) ai)) (.inr (.inr (.inl rfl))))) (hz:=(bv 0)) (ck:=rfl) (hp:=rfl) (hz':=rfl)) (Kd.le.refl _) bg))
theorem Ai {f:Addr}{fd:FuncData} (F:Fun K "_law_whole" "_law_whole" fy f fd) (B:Blt mg):
  FnOk P w K mg base CX0 1 f fd ["_law_found"] (spD K .imm fK):=
 bQ (rk:= .imm) (k:=0) [] F zP rfl rfl fun cdv A outer s H E hr=>
   (av (aM (gj (uD (gF "int" (aa 0 rfl (pv 0)) rfl B.isinstance_ rfl B.int_ m4) (uC (uB (gF "bool" (aa 0 rfl (pv 0)) rfl B.isinstance_ rfl B.bool_ ux))))) (Kd.le.refl _) aG))
theorem Aj {f:Addr}{fd:FuncData} (F:Fun K "_law_due" "_law_due" fz f fd) (B:Blt mg):
  FnOk P w K mg base CX0 1 f fd ["_law_now","_law_change"] (spIO K true .one M_w_due):=
 kZ (rk:= .one) (k:=0) [0,3000,2] F hE rfl rfl (.inr ⟨rfl,rfl⟩) rfl rfl fun cdv A outer s H E hr=>
   (am (ee (i:=2) rfl (df (k:= .bor) ai) hE.nd rfl (Or.inl rfl))
   (am (cC PassesOwn.never rfl (bO (aa 1 rfl (pv 1))) (cP rfl (aZ (aB rfl (aA (i:=3) hE.nd rfl (Or.inl rfl))) (aZ (aB rfl (aA (i:=4) hE.nd rfl (Or.inl rfl))) cO)))
   (am (bH (i:=5) rfl (PD.le (iV (aX hr) (bf 0 (pv 0)) (aa 3 rfl (pv 3)) af ⟨rfl,rfl,rfl,rfl⟩) Kd.le.imm_any) (Kd.le.refl _) hE.nd rfl (Or.inl rfl))
   (am (iW (aX hr) rfl (pv 0) (aa 3 rfl (pv 3)) (aq cr cA (aa 5 rfl (pv 5)) (aa 4 rfl (pv 4))) rfl)
   (am (bF (PDw.pt (jX (aW ik iC (aa 5 rfl (pv 5)) af (aS _)) (jW (aW lT nA (cT (aX hr) (bf 0 (pv 0)) (aa 3 rfl (pv 3)) (fun _ _=>rfl)) af (aS _)))))
    (av (iJ rfl (pv 2) (bM (ae (aa 3 rfl (pv 3)) (ae (PD.le (d6 af) Kd.le.imm_any) ai)) (.inr (.inr (.inl rfl))))))
    bz)
   (av (bF (PDw.pt (jX (aW lT nA (aa 5 rfl (pv 5)) af (aS _)) (jW (aW ik iC (cT (aX hr) (bf 0 (pv 0)) (aa 3 rfl (pv 3)) (fun _ _=>rfl)) af (aS _)))))
    (av (iJ rfl (pv 2) (bM (ae (aa 3 rfl (pv 3)) (ae (PD.le af Kd.le.imm_any) ai)) (.inr (.inr (.inl rfl))))))
    bz))))))
   (av (uU 2 rfl (pv 2)))))
theorem Ak {f:Addr}{fd:FuncData} (F:Fun K "__init__" "OnceKeeper.__init__" fA f fd) (B:Blt mg) {C_OnceKeeper:Addr} (T_OnceKeeper:jh K C_OnceKeeper):
  FnOk P w K mg base CX0 1 f fd ["self"] (spIO K false .imm (dX C_OnceKeeper)):=
 kZ (rk:= .imm) (k:=0) [1000,3000] F zQ rfl rfl (.inl rfl) rfl rfl fun cdv A outer s H E hr=>
   (av (zC rfl T_OnceKeeper.cl T_OnceKeeper.n_weights (pv 0) (PD.le eZ Kd.le.one_dp)))
theorem Al {f:Addr}{fd:FuncData} (F:Fun K "plus" "plus" fB f fd) (B:Blt mg) (D_heap_of:Def P w K mg base 1 "heap_of" ["pairs"] (spD K .one fJ)):
  FnOk P w K mg base CX0 2 f fd ["one","other"] (spD K .one ju):=
 bQ (rk:= .one) (k:=1) [] F zR rfl rfl fun cdv A outer s H E hr=>
   (av (aM (aV (k1:= .bor) D_heap_of (hr.mono (by decide)) bg (ae (PD.le (nC (aa 0 rfl (pv 0)) (aa 1 rfl (pv 1))) (Kd.le.bor _)) ai)) (Kd.le.refl _) bg))
theorem Am {f:Addr}{fd:FuncData} (F:Fun K "less" "less" fC f fd) (B:Blt mg) (D_heap_of:Def P w K mg base 1 "heap_of" ["pairs"] (spD K .one fJ)) (D_times:Def P w K mg base 1 "times" ["one","number"] (spD K .one jp)):
  FnOk P w K mg base CX0 2 f fd ["one","other"] (spD K .one jv):=
 bQ (rk:= .one) (k:=1) [] F zS rfl rfl fun cdv A outer s H E hr=>
   (av (aM (aV (k1:= .bor) D_heap_of (hr.mono (by decide)) bg (ae (PD.le (nC (aa 0 rfl (pv 0)) (aV (k1:= .bor) D_times (hr.mono (by decide)) bg (ae (PD.le (aa 1 rfl (pv 1)) (Kd.le.bor _)) (ae (PD.le (d6 af) (Kd.le.bor _)) ai)))) (Kd.le.bor _)) ai)) (Kd.le.refl _) bg))
theorem An {f:Addr}{fd:FuncData} (F:Fun K "once" "once" fD f fd) (B:Blt mg) (D_rows_there:Def P w K mg base 1 "rows_there" ["one"] (spD K .one hJ)):
  FnOk P w K mg base CX0 2 f fd ["one"] (spD K .one fM):=
 bQ (rk:= .one) (k:=1) [] F zT rfl rfl fun cdv A outer s H E hr=>
   (av (aM (cR ["row"] [none] [] (hc:=rfl) (hi:=(bO (PD.le (aV (k1:= .bor) D_rows_there (hr.mono (by decide)) bg (ae (PD.le (aa 0 rfl (pv 0)) (Kd.le.bor _)) ai)) Kd.le.one_any))) (hg:=fun _ _ _ _=>(aB rfl (aA (i:=0) (show (["row"]:List Str).Nodup by decide+kernel) rfl (Or.inl rfl)))) (ht:=fun _ _ _ _=>dO) (he:=fun _ _ _ _=>(bM (ae (aa 0 rfl (pv 0)) (ae (PD.le af Kd.le.imm_any) ai)) (.inr (.inr (.inl rfl))))) (hz:=(bv 0)) (ck:=rfl) (hp:=rfl) (hz':=rfl)) (Kd.le.refl _) bg))
theorem Ao {f:Addr}{fd:FuncData} (F:Fun K "_law_row" "_law_row" fE f fd) (B:Blt mg) (D_w_number:Def P w K mg base 1 "_law_number" ["_law_cell"] (spD K .imm dF)) (D_w_mixed:Def P w K mg base 1 "_law_mixed" ["_law_cell","_law_k"] (spD K .imm cW)):
  FnOk P w K mg base CX0 2 f fd ["_law_cell","_law_width","_law_way","_law_base"] (spD K .imm eB):=
 bQ (rk:= .imm) (k:=1) [] F pY rfl rfl fun cdv A outer s H E hr=>
   (am (bF (aW (db hr.units) de (aa 2 rfl (pv 2)) af (aS _))
    (av (aM (d9 (k1:= .bor) jL jZ rfl B.tuple_ gh (ae (PD.le (cR ["_law_j","_law_cell"] [none,some 0] [] (hc:=rfl) (hi:=(gu rfl B.range_ (aa 1 rfl (pv 1)))) (hg:=fun _ _ _ _=>(aB rfl (aA (i:=0) (show (["_law_j","_law_cell"]:List Str).Nodup by decide+kernel) rfl (Or.inl rfl)))) (ht:=fun _ _ _ _=>dO) (he:=fun _ _ _ _=>(aq fW gm (aq bo br (aq cL cM (aq bo br (aa 1 rfl (pv 1)) af) (aq cr cA (aa 0 rfl (pv 0)) af)) af) af)) (hz:=(bv 0)) (ck:=rfl) (hp:=rfl) (hz':=rfl)) (Kd.le.bor _)) ai)) (Kd.le.refl _) aG))
    bz)
   (am (bF (aW (db hr.units) de (aa 2 rfl (pv 2)) af (aS _))
    (am (bH (i:=4) rfl (PD.le (aq bo br (aa 0 rfl (pv 0)) (aa 1 rfl (pv 1))) Kd.le.imm_any) (Kd.le.refl _) pY.nd rfl (Or.inr rfl))
   (av (aM (d9 (k1:= .bor) jL jZ rfl B.tuple_ gh (ae (PD.le (cR ["_law_j","_law_base","_law_cell","_law_place"] [none,some 3,some 0,some 4] [] (hc:=rfl) (hi:=(gu rfl B.range_ (aa 1 rfl (pv 1)))) (hg:=fun _ _ _ _=>(aB rfl (aA (i:=0) (show (["_law_j","_law_base","_law_cell","_law_place"]:List Str).Nodup by decide+kernel) rfl (Or.inl rfl)))) (ht:=fun _ _ _ _=>dO) (he:=fun _ _ _ _=>(aq cr cA (cB (aa 1 rfl (pv 1)) (aa 0 rfl (pv 0)) (fun _ _=>rfl)) (aq cL cM (aq fW gm (aq bo br (aq fX gp (aa 2 rfl (pv 2)) af) af) af) (d9 (k1:= .bor) se vb rfl B.int_ m4 (ae (PD.le (uy (db hr.units) de (aa 0 rfl (pv 0)) (aa 3 rfl (pv 3)) (aS _)) (Kd.le.bor _)) ai))))) (hz:=(bv 0)) (ck:=rfl) (hp:=rfl) (hz':=rfl)) (Kd.le.bor _)) ai)) (Kd.le.refl _) aG)))
    bz)
   (av (aM (d9 (k1:= .bor) jL jZ rfl B.tuple_ gh (ae (PD.le (cR ["_law_j","_law_cell"] [none,some 0] [] (hc:=rfl) (hi:=(gu rfl B.range_ (aa 1 rfl (pv 1)))) (hg:=fun _ _ _ _=>(aB rfl (aA (i:=0) (show (["_law_j","_law_cell"]:List Str).Nodup by decide+kernel) rfl (Or.inl rfl)))) (ht:=fun _ _ _ _=>dO) (he:=fun _ _ _ _=>(aV (k1:= .bor) D_w_number (hr.mono (by decide)) aG (ae (PD.le (aV (k1:= .bor) D_w_mixed (hr.mono (by decide)) aG (ae (PD.le (aq bo br (aa 1 rfl (pv 1)) af) (Kd.le.bor _)) (ae (PD.le (aa 0 rfl (pv 0)) (Kd.le.bor _)) ai))) (Kd.le.bor _)) ai))) (hz:=(bv 0)) (ck:=rfl) (hp:=rfl) (hz':=rfl)) (Kd.le.bor _)) ai)) (Kd.le.refl _) aG))))
theorem Ap {f:Addr}{fd:FuncData} (F:Fun K "_law_weight" "_law_weight" fF f fd) (B:Blt mg) (D_w_number:Def P w K mg base 1 "_law_number" ["_law_cell"] (spD K .imm dF)):
  FnOk P w K mg base CX0 2 f fd ["_law_cell"] (spD K .imm dY):=
 bQ (rk:= .imm) (k:=1) [] F jk rfl rfl fun cdv A outer s H E hr=>
   (am (bH (i:=1) rfl (PD.le (aq fW gm (aq bo br (aa 0 rfl (pv 0)) af) af) Kd.le.imm_any) (Kd.le.refl _) jk.nd rfl (Or.inl rfl))
   (am (bF (aW (db hr.units) de (aq bo br (aa 0 rfl (pv 0)) af) af (aS _))
    (av (bH (i:=1) rfl (PD.le (aV (k1:= .bor) D_w_number (hr.mono (by decide)) aG (ae (PD.le (aa 0 rfl (pv 0)) (Kd.le.bor _)) ai)) Kd.le.imm_any) (Kd.le.refl _) jk.nd rfl (Or.inl rfl)))
    bz)
   (am (bF (aW (db hr.units) de (aa 1 rfl (pv 1)) af (aS _))
    (av (bH (i:=1) rfl (PD.le af Kd.le.imm_any) (Kd.le.refl _) jk.nd rfl (Or.inl rfl)))
    bz)
   (av (aM (gj (aa 1 rfl (pv 1))) (Kd.le.refl _) aG)))))
theorem Aq {f:Addr}{fd:FuncData} (F:Fun K "_law_alike" "_law_alike" fG f fd) (B:Blt mg) (D_w_whole:Def P w K mg base 1 "_law_whole" ["_law_found"] (spD K .imm fK)):
  FnOk P w K mg base CX0 2 f fd ["_law_found","_law_due_here"] (spD K .imm ci):=
 bQ (rk:= .imm) (k:=1) [] F jl rfl rfl fun cdv A outer s H E hr=>
   (am (bF (PDw.pt (gr (d8 (d7 (gF "list" (aa 0 rfl (pv 0)) rfl B.isinstance_ rfl B.list_ iz))) (iE (aW (dI hr.units) dL (bP (k1:= .bor) cZ di rfl B.len_ c0 (ae (PD.le (aa 0 rfl (pv 0)) (Kd.le.bor _)) ai)) (bP (k1:= .bor) cZ di rfl B.len_ c0 (ae (PD.le (aa 1 rfl (pv 1)) (Kd.le.bor _)) ai)) (aS _)))))
    (av (aM cw (Kd.le.refl _) aG))
    bz)
   (am (cC PassesOwn.never rfl (gu rfl B.range_ (bP (k1:= .bor) cZ di rfl B.len_ c0 (ae (PD.le (aa 1 rfl (pv 1)) (Kd.le.bor _)) ai))) (aB rfl (aA (i:=2) jl.nd rfl (Or.inl rfl)))
   (am (bH (i:=3) rfl (cB (aa 0 rfl (pv 0)) (aa 2 rfl (pv 2)) (fun _ _=>rfl)) (Kd.le.refl _) jl.nd rfl (Or.inl rfl))
   (am (bF (PDw.pt (gr (d8 (d7 (gF "tuple" (aa 3 rfl (pv 3)) rfl B.isinstance_ rfl B.tuple_ gh))) (gr (aW (dI hr.units) dL (bP (k1:= .bor) cZ di rfl B.len_ c0 (ae (PD.le (aa 3 rfl (pv 3)) (Kd.le.bor _)) ai)) af (aS _)) (iE (d8 (d7 (gF "tuple" (cB (aa 3 rfl (pv 3)) af (fun _ _=>rfl)) rfl B.isinstance_ rfl B.tuple_ gh)))))))
    (av (aM cw (Kd.le.refl _) aG))
    bz)
   (am (bF (PDw.pt (gr (d8 (d7 (aV (k1:= .bor) D_w_whole (hr.mono (by decide)) aG (ae (PD.le (cB (aa 3 rfl (pv 3)) af (fun _ _=>rfl)) (Kd.le.bor _)) ai)))) (iE (aW (dI hr.units) dL (aa 3 rfl (pv 3)) (cB (aa 1 rfl (pv 1)) (aa 2 rfl (pv 2)) (fun _ _=>rfl)) (aS _)))))
    (av (aM cw (Kd.le.refl _) aG))
    bz)
   (av (cC PassesOwn.never rfl (uN (cB (aa 3 rfl (pv 3)) af (fun _ _=>rfl))) (aB rfl (aA (i:=4) jl.nd rfl (Or.inl rfl)))
   (av (bF (d8 (d7 (aV (k1:= .bor) D_w_whole (hr.mono (by decide)) aG (ae (PD.le (aa 4 rfl (pv 4)) (Kd.le.bor _)) ai))))
    (av (aM cw (Kd.le.refl _) aG))
    bz))))))))
   (av (aM cw (Kd.le.refl _) aG))))
theorem Ar {f:Addr}{fd:FuncData} (F:Fun K "_law_changes" "_law_changes" fH f fd) (B:Blt mg) (D_w_number:Def P w K mg base 1 "_law_number" ["_law_cell"] (spD K .imm dF)) (D_w_mixed:Def P w K mg base 1 "_law_mixed" ["_law_cell","_law_k"] (spD K .imm cW)) (D_w_row:Def P w K mg base 2 "_law_row" ["_law_cell","_law_width","_law_way","_law_base"] (spD K .imm eB)) (D_w_weight:Def P w K mg base 2 "_law_weight" ["_law_cell"] (spD K .imm dY)) (D_w_heap_by:Def P w K mg base 1 "_law_heap_by" ["_law_weights"] (spD K .one cX)):
  FnOk P w K mg base CX0 3 f fd ["_law_cells","_law_width","_law_way"] (spA K hX):=
 zb (k:=2) [4,7,2005] F cg rfl rfl fun cdv A outer s H E hr=>
   (am (nJ (i:=3) (hi':=rfl) (hN:=cg.nd) (hx:=rfl) (hl:=Or.inl rfl) ["_law_j","_law_cells"] [none,some 0] [] (hc:=rfl) (hi:=(gu rfl B.range_ (aa 1 rfl (pv 1)))) (hg:=fun _ _ _ _=>(aB rfl (aA (i:=0) (show (["_law_j","_law_cells"]:List Str).Nodup by decide+kernel) rfl (Or.inl rfl)))) (ht:=fun _ _ _ _=>dO) (he:=fun _ _ _ _=>(aV (k1:= .bor) D_w_number (hr.mono (by decide)) aG (ae (PD.le (aV (k1:= .bor) D_w_mixed (hr.mono (by decide)) aG (ae (PD.le (bP (k1:= .bor) cZ di rfl B.len_ c0 (ae (PD.le (aa 1 rfl (pv 1)) (Kd.le.bor _)) ai)) (Kd.le.bor _)) (ae (PD.le (aa 0 rfl (pv 0)) (Kd.le.bor _)) ai))) (Kd.le.bor _)) ai))) (hz:=(bv 0)) (ck:=rfl) (hp:=rfl) (hz':=rfl))
   (am (ee (i:=4) rfl eZ cg.nd rfl (Or.inl rfl))
   (am (pG (i:=5) rfl (df (k:= .bor) ai) cg.nd rfl (Or.inl rfl))
   (am (cC PassesOwn.never rfl (pU rfl B.range_ af (bP (k1:= .bor) cZ di rfl B.len_ c0 (ae (PD.le (aa 0 rfl (pv 0)) (Kd.le.bor _)) ai)) af) (aB rfl (aA (i:=6) cg.nd rfl (Or.inl rfl)))
   (am (ee (i:=7) rfl eZ cg.nd rfl (Or.inl rfl))
   (am (cC PassesOwn.never rfl (uP rfl B.range_ (aa 6 rfl (pv 6)) (bP (k1:= .bor) (r8 rfl) zr rfl B.min_ zd (ae (PD.le (aq cr cA (aa 6 rfl (pv 6)) af) (Kd.le.bor _)) (ae (PD.le (bP (k1:= .bor) cZ di rfl B.len_ c0 (ae (PD.le (aa 0 rfl (pv 0)) (Kd.le.bor _)) ai)) (Kd.le.bor _)) ai)))) (aB rfl (aA (i:=8) cg.nd rfl (Or.inl rfl)))
   (am (bH (i:=9) rfl (PD.le (aV (k1:= .bor) D_w_mixed (hr.mono (by decide)) aG (ae (PD.le (cB (aa 0 rfl (pv 0)) (aa 8 rfl (pv 8)) (fun _ _=>rfl)) (Kd.le.bor _)) (ae (PD.le (aa 8 rfl (pv 8)) (Kd.le.bor _)) ai))) Kd.le.imm_any) (Kd.le.refl _) cg.nd rfl (Or.inl rfl))
   (am (bH (i:=10) rfl (PD.le (aV (k1:= .bor) D_w_row (hr.mono (by decide)) aG (ae (PD.le (aq fX gp (aa 9 rfl (pv 9)) af) (Kd.le.bor _)) (ae (PD.le (aa 1 rfl (pv 1)) (Kd.le.bor _)) (ae (PD.le (aa 2 rfl (pv 2)) (Kd.le.bor _)) (ae (PD.le (aa 3 rfl (pv 3)) (Kd.le.bor _)) ai))))) Kd.le.imm_any) (Kd.le.refl _) cg.nd rfl (Or.inl rfl))
   (am (bH (i:=11) rfl (PD.le (aV (k1:= .bor) D_w_weight (hr.mono (by decide)) aG (ae (PD.le (aq fX gp (aa 9 rfl (pv 9)) af) (Kd.le.bor _)) ai)) Kd.le.imm_any) (Kd.le.refl _) cg.nd rfl (Or.inl rfl))
   (am (bF (PDw.pt (jX (aW (db hr.units) de (aq bo br (aa 9 rfl (pv 9)) af) af (aS _)) (jW (aW (dI hr.units) dL (iV (aX hr) (bf 4 (pv 4)) (aa 10 rfl (pv 10)) af ⟨rfl,rfl,rfl,rfl⟩) af (aS _)))))
    (av (bH (i:=11) rfl (PD.le (d6 (cT (aX hr) (bf 4 (pv 4)) (aa 10 rfl (pv 10)) (fun _ _=>rfl))) Kd.le.imm_any) (Kd.le.refl _) cg.nd rfl (Or.inl rfl)))
    bz)
   (av (iW (aX hr) rfl (pv 7) (aa 10 rfl (pv 10)) (aa 11 rfl (pv 11)) rfl)))))))
   (am (bF (aW (db hr.units) de (aq bo br (cB (aa 0 rfl (pv 0)) (aa 6 rfl (pv 6)) (fun _ _=>rfl)) af) af (aS _))
    (av (ee (i:=7) rfl eZ cg.nd rfl (Or.inl rfl)))
    bz)
   (jc (ms:=[4,7,2005]) (ms':=[4,2005]) 7 (am (zk PassesOwn.never rfl rfl (pv 7) (aB rfl (aA (i:=10) cg.nd rfl (Or.inl rfl)))
   (av (iW (aX hr) rfl (pv 4) (aa 10 rfl (pv 10)) (aq cr cA (iV (aX hr) (bf 4 (pv 4)) (aa 10 rfl (pv 10)) af ⟨rfl,rfl,rfl,rfl⟩) (cT (aX hr) (aa 7 rfl (pv 7)) (aa 10 rfl (pv 10)) (fun _ _=>rfl))) rfl)))
   (av (pH rfl (pv 5) (PD.le (aV (k1:= .bor) D_w_heap_by (hr.mono (by decide)) bg (ae (PD.le (aa 7 rfl (pv 7)) (Kd.le.bor _)) ai)) Kd.le.one_any)))))))))
   (av (zl 5 rfl (pv 5)))))))
theorem As {f:Addr}{fd:FuncData} (F:Fun K "change" "OnceKeeper.change" fI f fd) (B:Blt mg) {C_OnceKeeper:Addr} (T_OnceKeeper:jh K C_OnceKeeper) (D_plus:Def P w K mg base 2 "plus" ["one","other"] (spD K .one ju)) (D_less:Def P w K mg base 2 "less" ["one","other"] (spD K .one jv)) (D_once:Def P w K mg base 2 "once" ["one"] (spD K .one fM)):
  FnOk P w K mg base CX0 3 f fd ["self","one"] (spIO K false .one (M_OnceKeeper_change C_OnceKeeper)):=
 kZ (rk:= .one) (k:=2) [1000,3000] F eA rfl rfl (.inr ⟨rfl,rfl⟩) rfl rfl fun cdv A outer s H E hr=>
   (am (nJ (i:=2) (hi':=rfl) (hN:=eA.nd) (hx:=rfl) (hl:=Or.inl rfl) ["row","weight","self"] [none,none,some 0] [1002] (hc:=rfl) (hi:=(bO (aa 1 rfl (pv 1)))) (hg:=fun _ _ _ _=>(cP rfl (aZ (aB rfl (aA (i:=0) (show (["row","weight","self"]:List Str).Nodup by decide+kernel) rfl (Or.inl rfl))) (aZ (aB rfl (aA (i:=1) (show (["row","weight","self"]:List Str).Nodup by decide+kernel) rfl (Or.inl rfl))) cO)))) (ht:=fun _ _ _ _=>(gE (za (aX hr) (aa 0 rfl (pv 0)) (pP T_OnceKeeper.cl T_OnceKeeper.n_weights (bf 2 (pv 2)))))) (he:=fun _ _ _ _=>(bM (ae (aa 0 rfl (pv 0)) (ae (PD.le (gj (cT (aX hr) (pP T_OnceKeeper.cl T_OnceKeeper.n_weights (bf 2 (pv 2))) (aa 0 rfl (pv 0)) (fun _ _=>rfl))) Kd.le.imm_any) ai)) (.inr (.inr (.inl rfl))))) (hz:=(gD (cQ (bv 0) (cQ (bv 1) gB)))) (ck:=rfl) (hp:=rfl) (hz':=rfl))
   (am (bH (i:=3) rfl (PD.le (aV (k1:= .bor) D_plus (hr.mono (by decide)) bg (ae (PD.le (aa 2 rfl (pv 2)) (Kd.le.bor _)) (ae (PD.le (aa 1 rfl (pv 1)) (Kd.le.bor _)) ai))) Kd.le.one_any) (Kd.le.refl _) eA.nd rfl (Or.inl rfl))
   (am (cC PassesOwn.never rfl (bO (aa 2 rfl (pv 2))) (cP rfl (aZ (aB rfl (aA (i:=4) eA.nd rfl (Or.inl rfl))) (aZ (aB rfl (aA (i:=5) eA.nd rfl (Or.inl rfl))) cO)))
   (av (zE (aX hr) rfl T_OnceKeeper.cl T_OnceKeeper.n_weights (pv 0) (aa 4 rfl (pv 4)) ⟨rfl,rfl,rfl,rfl⟩)))
   (am (cC PassesOwn.never rfl (bO (aa 3 rfl (pv 3))) (cP rfl (aZ (aB rfl (aA (i:=4) eA.nd rfl (Or.inl rfl))) (aZ (aB rfl (aA (i:=5) eA.nd rfl (Or.inl rfl))) cO)))
   (av (zD (aX hr) rfl T_OnceKeeper.cl T_OnceKeeper.n_weights (pv 0) (aa 4 rfl (pv 4)) (aa 5 rfl (pv 5)))))
   (av (aM (aV (k1:= .bor) D_less (hr.mono (by decide)) bg (ae (PD.le (aV (k1:= .bor) D_once (hr.mono (by decide)) bg (ae (PD.le (aa 3 rfl (pv 3)) (Kd.le.bor _)) ai)) (Kd.le.bor _)) (ae (PD.le (aV (k1:= .bor) D_once (hr.mono (by decide)) bg (ae (PD.le (aa 2 rfl (pv 2)) (Kd.le.bor _)) ai)) (Kd.le.bor _)) ai))) (Kd.le.refl _) bg))))))
theorem At {f:Addr}{fd:FuncData} (F:Fun K "law" "law" dE f fd) (B:Blt mg) {C_OnceKeeper:Addr} (T_OnceKeeper:jh K C_OnceKeeper) (D_w_mixed:Def P w K mg base 1 "_law_mixed" ["_law_cell","_law_k"] (spD K .imm cW)) (D_w_changes:Def P w K mg base 3 "_law_changes" ["_law_cells","_law_width","_law_way"] (spA K hX)) (D_OnceKeeper:CDef P w K mg base 1 C_OnceKeeper "OnceKeeper" ["self"] (spIO K false .imm (dX C_OnceKeeper))) (D_w_due:Def P w K mg base 1 "_law_due" ["_law_now","_law_change"] (spIO K true .one M_w_due)) (D_OnceKeeper_change:MDef P w K mg base 3 C_OnceKeeper "change" ["self","one"] (spIO K false .one (M_OnceKeeper_change C_OnceKeeper))) (D_w_alike:Def P w K mg base 2 "_law_alike" ["_law_found","_law_due_here"] (spD K .imm ci)) (D_w_heap_by:Def P w K mg base 1 "_law_heap_by" ["_law_weights"] (spD K .one cX)):
  FnOk P w K mg base CX0 4 f fd ["_law_script"] (spD K .imm (jy C_OnceKeeper)):=
 bQ (rk:= .imm) (k:=3) [7,11,12,1005,1006,2008] F bC rfl rfl fun cdv A outer s H E hr=>
   (am (bH (i:=1) rfl (PD.le (d9 (k1:= .bor) jK j3 rfl B.list_ iz (ae (PD.le (uH (aa 0 rfl (pv 0)) uF (uG af)) (Kd.le.bor _)) ai)) Kd.le.one_any) (Kd.le.refl _) bC.nd rfl (Or.inl rfl))
   (am (bH (i:=2) rfl (PD.le (aV (k1:= .bor) D_w_mixed (hr.mono (by decide)) aG (ae (PD.le (bP (k1:= .bor) (u7 rfl) va rfl B.sum_ uw (ae (PD.le (aa 1 rfl (pv 1)) (Kd.le.bor _)) ai)) (Kd.le.bor _)) (ae (PD.le af (Kd.le.bor _)) ai))) Kd.le.imm_any) (Kd.le.refl _) bC.nd rfl (Or.inl rfl))
   (am (bH (i:=3) rfl (PD.le (aq cr cA af (aq bo br (aa 2 rfl (pv 2)) af)) Kd.le.imm_any) (Kd.le.refl _) bC.nd rfl (Or.inl rfl))
   (am (bH (i:=4) rfl (zc D_w_changes (hr.mono (by decide)) (ae (aa 1 rfl (pv 1)) (ae (aa 3 rfl (pv 3)) (ae (PD.le (aq bo br (aq fX gp (aa 2 rfl (pv 2)) af) af) Kd.le.imm_any) ai)))) (Kd.le.refl _) bC.nd rfl (Or.inl rfl))
   (am (pV (i:=5) rfl (pS D_OnceKeeper (hr.mono (by decide))) bC.nd rfl (Or.inl rfl))
   (am (pV (i:=6) rfl (pS D_OnceKeeper (hr.mono (by decide))) bC.nd rfl (Or.inl rfl))
   (am (ee (i:=7) rfl eZ bC.nd rfl (Or.inr rfl))
   (am (pG (i:=8) rfl (df (k:= .bor) ai) bC.nd rfl (Or.inl rfl))
   (am (cC PassesOwn.never rfl (bO (aa 4 rfl (pv 4))) (aB rfl (aA (i:=9) bC.nd rfl (Or.inl rfl)))
   (am (zv (j:=10) rfl rfl (zw rfl D_w_due (hr.mono (by decide)) (pv 7) (ae (aa 9 rfl (pv 9)) ai)) bC.nd rfl (Or.inl rfl))
   (am (ee (i:=11) rfl (d9 (k1:= .bor) jK j3 rfl B.list_ iz (ae (PD.le (aa 9 rfl (pv 9)) (Kd.le.bor _)) ai)) bC.nd rfl (Or.inl rfl))
   (am (pM (j:=12) rfl rfl (g9 rfl T_OnceKeeper.cl D_OnceKeeper_change (hr.mono (by decide)) (pv 5) (zF (j:=11) rfl rfl (pv 11))) bC.nd rfl (Or.inl rfl))
   (am (bF (PDw.pt (gr (aW (dI hr.units) dL (bf 11 (pv 11)) (aa 9 rfl (pv 9)) (aS _)) (iE (d8 (d7 (aV (k1:= .bor) D_w_alike (hr.mono (by decide)) aG (ae (bf 12 (pv 12)) (ae (PD.le (aa 10 rfl (pv 10)) (Kd.le.bor _)) ai))))))))
    (av (aM cw (Kd.le.refl _) aG))
    bz)
   (am (iJ rfl (pv 11) (bM (ae (oW (bM (ae af ai) (.inl rfl)) (aa 3 rfl (pv 3))) (ae af ai)) (.inl rfl)))
   (am (bF (aW (db hr.units) de (aq bo br (bP (k1:= .bor) cZ di rfl B.len_ c0 (ae (bf 8 (pv 8)) ai)) af) af (aS _))
    (av (yf rfl (pv 12)))
    (av (iJ rfl (pv 12) (bM (ae (oW (bM (ae af ai) (.inl rfl)) (aa 3 rfl (pv 3))) (ae af ai)) (.inl rfl)))))
   (jc (ms:=[7,11,12,1005,1006,2008]) (ms':=[7,11,1005,1006,2008]) 12 (av (pH rfl (pv 8) (bM (ae (aa 12 rfl (pv 12)) (ae (PD.le (d9 (k1:= .bor) jK j3 rfl B.list_ iz (ae (PD.le (aa 12 rfl (pv 12)) (Kd.le.bor _)) ai)) Kd.le.one_any) (ae (aa 10 rfl (pv 10)) ai))) (.inr (.inr (.inl rfl))))))))))))))
   (am (pT (lg (lf (ld D_w_alike (hr.mono (by decide)) (lc rfl (g9 rfl T_OnceKeeper.cl D_OnceKeeper_change (hr.mono (by decide)) (pv 6) (jf (PD.le (aV (k1:= .bor) D_w_heap_by (hr.mono (by decide)) bg (ae (bf 7 (pv 7)) ai)) Kd.le.one_any)))) (zg ["_law_row_here","_law_now"] [none,some 7] [1] (hc:=rfl) (hi:=(bO (PD.le (bP (k1:= .bor) (kF rfl) kG rfl B.sorted_ jQ (ae (bf 7 (pv 7)) ai)) Kd.le.one_any))) (hg:=fun _ _ _ _=>(aB rfl (aA (i:=0) (show (["_law_row_here","_law_now"]:List Str).Nodup by decide+kernel) rfl (Or.inl rfl)))) (ht:=fun _ _ _ _=>(gE (aW ik iC (cT (aX hr) (bf 1 (pv 1)) (aa 0 rfl (pv 0)) (fun _ _=>rfl)) af (aS _)))) (he:=fun _ _ _ _=>(bM (ae (aa 0 rfl (pv 0)) (ae (PD.le af Kd.le.imm_any) ai)) (.inr (.inr (.inl rfl))))) (hz:=(bv 0)) (ck:=rfl) (hp:=rfl) (hz':=rfl)))))
    (av (aM cw (Kd.le.refl _) aG))
    bz)
   (am (cC PassesOwn.never rfl (pU rfl B.range_ (aq fW gm (bP (k1:= .bor) cZ di rfl B.len_ c0 (ae (PD.le (aa 4 rfl (pv 4)) (Kd.le.bor _)) ai)) af) (d6 af) (d6 af)) (aB rfl (aA (i:=13) bC.nd rfl (Or.inl rfl)))
   (am (pM (j:=12) rfl rfl (g9 rfl T_OnceKeeper.cl D_OnceKeeper_change (hr.mono (by decide)) (pv 5) (jf (PD.le (cR ["_law_row_here","_law_weight_here"] [none,none] [] (hc:=rfl) (hi:=(bO (cB (aa 4 rfl (pv 4)) (aa 13 rfl (pv 13)) (fun _ _=>rfl)))) (hg:=fun _ _ _ _=>(cP rfl (aZ (aB rfl (aA (i:=0) (show (["_law_row_here","_law_weight_here"]:List Str).Nodup by decide+kernel) rfl (Or.inl rfl))) (aZ (aB rfl (aA (i:=1) (show (["_law_row_here","_law_weight_here"]:List Str).Nodup by decide+kernel) rfl (Or.inl rfl))) cO)))) (ht:=fun _ _ _ _=>dO) (he:=fun _ _ _ _=>(bM (ae (aa 0 rfl (pv 0)) (ae (PD.le (d6 (aa 1 rfl (pv 1))) Kd.le.imm_any) ai)) (.inr (.inr (.inl rfl))))) (hz:=(gD (cQ (bv 0) (cQ (bv 1) gB)))) (ck:=rfl) (hp:=rfl) (hz':=rfl)) Kd.le.one_any))) bC.nd rfl (Or.inl rfl))
   (av (bF (d8 (d7 (aV (k1:= .bor) D_w_alike (hr.mono (by decide)) aG (ae (bf 12 (pv 12)) (ae (PD.le (cR ["_law_row_here","_law_weight_here"] [none,none] [] (hc:=rfl) (hi:=(bO (cB (zm rfl (pv 8) (aa 13 rfl (pv 13)) (fun _ _=>rfl)) af (fun _ _=>rfl)))) (hg:=fun _ _ _ _=>(cP rfl (aZ (aB rfl (aA (i:=0) (show (["_law_row_here","_law_weight_here"]:List Str).Nodup by decide+kernel) rfl (Or.inl rfl))) (aZ (aB rfl (aA (i:=1) (show (["_law_row_here","_law_weight_here"]:List Str).Nodup by decide+kernel) rfl (Or.inl rfl))) cO)))) (ht:=fun _ _ _ _=>dO) (he:=fun _ _ _ _=>(bM (ae (aa 0 rfl (pv 0)) (ae (PD.le (d6 (aa 1 rfl (pv 1))) Kd.le.imm_any) ai)) (.inr (.inr (.inl rfl))))) (hz:=(gD (cQ (bv 0) (cQ (bv 1) gB)))) (ck:=rfl) (hp:=rfl) (hz':=rfl)) (Kd.le.bor _)) ai)))))
    (av (aM cw (Kd.le.refl _) aG))
    bz))))
   (am (pT (PXw.pt (zH (lg (lf (ld D_w_alike (hr.mono (by decide)) (lc rfl (g9 rfl T_OnceKeeper.cl D_OnceKeeper_change (hr.mono (by decide)) (pv 5) (jf (PD.le (df (k:= .bor) ai) Kd.le.one_any)))) (df (k:= .bor) ai)))) (zG (lg (lf (ld D_w_alike (hr.mono (by decide)) (lc rfl (g9 rfl T_OnceKeeper.cl D_OnceKeeper_change (hr.mono (by decide)) (pv 6) (jf (PD.le (df (k:= .bor) ai) Kd.le.one_any)))) (df (k:= .bor) ai)))))))
    (av (aM cw (Kd.le.refl _) aG))
    bz)
   (jc (ms:=[7,11,12,1005,1006,2008]) (ms':=[7,11,1005,1006,2008]) 12 (jc (ms:=[7,11,1005,1006,2008]) (ms':=[7,11,1005,1006]) 8 (am (cC PassesOwn.never rfl (bO (aa 8 rfl (pv 8))) (cP rfl (aZ (aB rfl (aA (i:=12) bC.nd rfl (Or.inl rfl))) (aZ (aB rfl (aA (i:=14) bC.nd rfl (Or.inl rfl))) (aZ (aB rfl (aA (i:=10) bC.nd rfl (Or.inl rfl))) cO))))
   (av (bF (aW (dI hr.units) dL (aa 12 rfl (pv 12)) (aa 14 rfl (pv 14)) (aS _))
    (av (aM cw (Kd.le.refl _) aG))
    bz)))
   (av (aM cw (Kd.le.refl _) aG)))))))))))))))))
end
end K25
set_option maxHeartbeats 1000000
namespace K25
open PySem L2
theorem jz (c k:Int) (k0:0<=k) (k1:k<=1000): ∃x:Int,cW [.int c,.int k]=some (.int x)/\0<=x/\x<2147483629:=by
 have a:0<=2*k*k:=Int.mul_nonneg (by lia) k0
 have b:2*k*k<=2000*1000:=Int.mul_le_mul (by lia) k1 k0 (by lia)
 obtain ⟨y0,y1⟩:=cJ ((c+k+1)*(48271+2*k*k)) 2147483647 (by decide)
 refine ⟨_,?_,cJ ((c+k+1)*(48271+2*k*k)%2147483647*((c+k+1)*(48271+2*k*k)%2147483647)) 2147483629 (by decide)⟩
 simp_arith only [cW,p6,cS (ka (i:=c+k+1) (j:=48271+2*k*k) ⟨by lia,by lia⟩),cS (gH (i:=2) (j:=k) ⟨by decide,by decide⟩),cS (ka (i:=2*k) (j:=k) ⟨by lia,by lia⟩),cS (gH (i:=(c+k+1)*(48271+2*k*k)%2147483647) (j:=(c+k+1)*(48271+2*k*k)%2147483647) ⟨by lia,by lia⟩)]
noncomputable def Bn (z:Int):Prop:=z.natAbs<=1000002*10^192
noncomputable def Bz (z:Int):Prop:=z.natAbs<2*10^198
theorem Au {a s b:Int} (ha:a.natAbs<=1000001) (hs:s.natAbs<=10^192) (hb:b.natAbs<=10):Bn (a*s+b):=by
 unfold Bn
 have h1:(a*s+b).natAbs<=(a*s).natAbs+b.natAbs:=Int.natAbs_add_le _ _
 have h2:(a*s).natAbs<=1000001*10^192:=by rw [Int.natAbs_mul];exact Nat.mul_le_mul ha hs
 have h3:1000001*10^192+10<=1000002*10^192:=by decide+kernel
 lia
theorem bn_z {a b:Int} (ha:Bn a) (hb:b.natAbs<=100):Bz (a+b):=by
 unfold Bn at ha
 unfold Bz
 have h1:(a+b).natAbs<=a.natAbs+b.natAbs:=Int.natAbs_add_le _ _
 have h3:1000002*10^192+100<2*10^198:=by decide+kernel
 lia
theorem Av {a:Int} (ha:a.natAbs<=1000):Bz a:=by
 unfold Bz
 have h3:1000<2*10^198:=by decide+kernel
 lia
theorem lA (c:Int): ∃n:Int,dF [.int c]=some (.int n)/\Bn n:=by
 obtain ⟨p1,e1,b1⟩: ∃p,dPow (.int 10) (.int 9)=some (.int p)/\p.natAbs<=10^192:=⟨_,kg (by decide+kernel),by decide+kernel⟩
 obtain ⟨p2,e2,b2⟩: ∃p,dPow (.int 10) (.int 54)=some (.int p)/\p.natAbs<=10^192:=⟨_,kg (by decide+kernel),by decide+kernel⟩
 obtain ⟨p3,p4,p5,e3,e4,e5,b5⟩: ∃p q r,dPow (.int 10) (.int 64)=some (.int p)/\dMul (.int p) (.int p)=some (.int q)/\dMul (.int q) (.int p)=some (.int r)/\r.natAbs<=10^192:=⟨_,_,_,kg (by decide+kernel),cS (oV (by decide+kernel) (by decide+kernel)),cS (oV (by decide+kernel) (by decide+kernel)),by decide+kernel⟩
 obtain ⟨t0,t1⟩:=cJ (c/2000003) 6 (by decide)
 obtain ⟨u0,u1⟩:=cJ c 2000003 (by decide)
 obtain ⟨v0,v1⟩:=cJ (c%11) 2 (by decide)
 obtain ⟨d,hd,ef⟩:=xq (xs:=[Dv.int 1,.int 1,.int 1,.int p1,.int p2,.int p5]) t0 t1
 obtain ⟨s,hs,rfl⟩:=yx (zs:=[1,1,1,p1,p2,p5]) hd
 have bs:s.natAbs<=10^192:=by
  simp only [List.mem_cons,List.not_mem_nil,or_false] at hs
  rcases hs with rfl|rfl|rfl|rfl|rfl|rfl
  ·decide+kernel
  ·decide+kernel
  ·decide+kernel
  ·exact b1
  ·exact b2
  ·exact b5
 refine ⟨_,?_,Au (a:=c%2000003-1000001) (s:=s) (b:=c%11%2) (by lia) bs (by lia)⟩
 simp_arith only [dF,p7,e1,e2,e3,e4,e5,ef,cS (gH (i:=c%2000003-1000001) (j:=s) ⟨by lia,by lia⟩)]
theorem h9 {g:Dv->Dt->Option Dt}{c:Dt->Option Bool}{el:EM}{δ:Dt}{P:Int->Prop}: ∀(ds:List Dv),(∀d,d∈ds-> ∃z:Int,celM g c el δ d=some (some (.int z))/\P z)-> ∃zs:List Int,zs.length=ds.length/\bu g c el δ ds=some (zs.map .int)/\ ∀z∈zs,P z
 |[],_=>⟨[],rfl,rfl,fun _ z=>nomatch z⟩
 |d::ds,h=>by
  obtain ⟨z,e,p⟩:=h d (List.mem_cons_self ..)
  obtain ⟨zs,hl,hc,hp⟩:=h9 ds fun d hd=>h d (List.mem_cons_of_mem _ hd)
  refine ⟨z::zs,by rw [List.length_cons,List.length_cons,hl],?_,fun y hy=> ?_⟩
  ·rw [bu]
   unfold celM at e
   revert e
   cases g d δ with
   |none=>intro e;cases e
   |some δ1=>
    dsimp only [Option.bind_some]
    cases c δ1 with
    |none=>intro e;cases e
    |some b=>
     dsimp only [Option.bind_some]
     cases b with
     |false=>intro e;cases e
     |true=>
      rw [if_pos rfl]
      cases el δ1 with
      |none=>intro e;cases e
      |some x=>
       dsimp only [Option.bind_some]
       intro e
       have ex:x= .int z:=by
        revert e
        split
        ·intro e;exact Option.some.inj (Option.some.inj e)
        ·intro e;cases e
       subst ex
       rw [if_pos (show (Dv.int z).imm=true from rfl),hc]
       rfl
  ·rcases List.mem_cons.mp hy with rfl|hy
   ·exact p
   ·exact hp y hy
noncomputable def Rw8 (wd:Int) (r:List Int):Prop:=(r.length:Int)=wd/\ ∀x∈r,Bz x
theorem Aw (c wd way:Int) (base:List Int) (w0:1<=wd) (w1:wd<=8) (y0:0<=way) (y1:way<3) (hb:(base.length:Int)=wd) (bb: ∀x∈base,Bn x):
  ∃r:List Int,eB [.int c,.int wd,.int way,.lst (base.map .int)]=some (.tup (r.map .int))/\Rw8 wd r:=by
 have hr: ∀v,iR1 (eVar 1) [some (.int c),some (.int wd),some (.int way),some (.lst (base.map .int)),v]=some (aY 0 wd.toNat):=fun v=>j9 (by simp_arith only [eW]) (by lia)
 by_cases h0:way=0
 ·subst h0
  obtain ⟨zs,hz,hc,hp⟩:=h9 (P:=Bz) (g:=gN 0) (c:=tyes) (el:=ll) (δ:=[none,some (.int c)]) (aY 0 wd.toNat) (by
   intro d hd
   obtain ⟨i,hi,rfl⟩:=iM hd
   obtain ⟨q0,q1⟩:=cJ c 12 (by decide)
   obtain ⟨s0,s1⟩:=cJ (c%12*(0+(i:Int)+2)) 5 (by decide)
   refine ⟨c%12*(0+(i:Int)+2)%5-2,?_,Av (by lia)⟩
   simp_arith only [ll,cS (gH (i:=c%12) (j:=0+(i:Int)+2) ⟨by lia,by lia⟩)])
  rw [dq] at hz
  exact ⟨zs,by simp_arith only [eB,jw,decide_true,hr,hc],by lia,hp⟩
 ·by_cases h1:way=1
  ·subst h1
   obtain ⟨t0,t1⟩:=cJ c wd (by lia)
   obtain ⟨zs,hz,hc,hp⟩:=h9 (P:=Bz) (g:=gN 0) (c:=tyes) (el:=lm) (δ:=[none,some (.lst (base.map .int)),some (.int c),some (.int (c%wd))]) (aY 0 wd.toNat) (by
    intro d hd
    obtain ⟨i,hi,rfl⟩:=iM hd
    obtain ⟨q0,q1⟩:=cJ (c/8) 9 (by decide)
    have hx:base.getD (0+(i:Int)).toNat 0∈base:=by
     rw [List.getD_eq_getElem?_getD,List.getElem?_eq_getElem (by lia)]
     exact List.getElem_mem _
    refine ⟨base.getD (0+(i:Int)).toNat 0+(c/8%5-2)*(if decide (0+(i:Int)=c%wd)=true then 1 else 0),?_,bn_z (bb _ hx) (by split<;>lia)⟩
    simp_arith only [lm,j7 (zs:=base) (i:=0+(i:Int)) (by lia) (by lia),cS (gH (i:=c/8%5-2) (j:=if decide (0+(i:Int)=c%wd)=true then 1 else 0) ⟨by lia,by lia⟩)])
   rw [dq] at hz
   exact ⟨zs,by simp_arith only [eB,jw,decide_eq_false h0,decide_true,hr,hc,show (0:Int)<wd by lia],by lia,hp⟩
  ·obtain ⟨zs,hz,hc,hp⟩:=h9 (P:=Bz) (g:=gN 0) (c:=tyes) (el:=lq) (δ:=[none,some (.int c)]) (aY 0 wd.toNat) (by
    intro d hd
    obtain ⟨i,hi,rfl⟩:=iM hd
    obtain ⟨x,ex,_⟩:=jz (c%9) (0+(i:Int)) (by lia) (by lia)
    obtain ⟨n,en,bn⟩:=lA x
    exact ⟨n,by simp_arith only [lq,ex,en],by have:=bn_z (b:=0) bn (by decide);rwa [Int.add_zero] at this⟩)
   rw [dq] at hz
   exact ⟨zs,by simp_arith only [eB,jw,decide_eq_false h0,decide_eq_false h1,hr,hc],by lia,hp⟩
theorem Ax (c:Int): ∃n:Int,dY [.int c]=some (.int n)/\n≠0:=by
 by_cases h:c%7=3
 ·obtain ⟨n,en,bn⟩:=lA c
  by_cases h2:n=0
  ·exact ⟨1,by simp_arith only [dY,hU,h,en,h2,decide_true],by decide⟩
  ·exact ⟨n,by simp_arith only [dY,hU,h,en,decide_eq_false h2,decide_true],h2⟩
 ·by_cases h2:c%5-2=0
  ·exact ⟨1,by simp_arith only [dY,hU,decide_eq_false h,h2,decide_true],by decide⟩
  ·exact ⟨c%5-2,by simp_arith only [dY,hU,decide_eq_false h,decide_eq_false h2],h2⟩
theorem dNeF {F:Hl} (h:F≠[]):dNe (.lst (F.map ent)) (.lst [])=some (.bl true):=by
 cases F with
 |nil=>exact absurd rfl h
 |cons p F=>exact yF
theorem Ay (a b:Hl) (hl:a.length+b.length<=10000) (ha: ∀p∈a,p.1≠[]) (hb: ∀p∈b,p.1≠[]):ju [.lst (a.map ent),.lst (b.map ent)]=some (.lst ((heapL (a++b)).map ent)):=m_pl a b hl ha hb
theorem Az (a b:Hl) (hl:a.length+b.length<=10000) (ha: ∀p∈a,p.1≠[]) (hb: ∀p∈b,p.1≠[]):jv [.lst (a.map ent),.lst (b.map ent)]=some (.lst ((heapL (a++negH b)).map ent)):=m_ls a b hl ha hb
theorem A9 (ps:Hl) (hl:ps.length<=10000) (ne: ∀p∈ps,p.1≠[]):fJ [.lst (ps.map ent)]=some (.lst ((heapL ps).map ent)):=m_hp ps hl ne
theorem Ba (h:Hl) (n:Int) (hl:h.length<=10000) (ok: ∀p∈h,bU p.2 n=true):jp [.lst (h.map ent),.int n]=some (.lst ((mulH n h).map ent)):=m_tm h n hl ok
noncomputable def pos (h:List (List Int×Int)):List (List Int):=(h.filter fun p=>decide (0<p.2)).map (·.1)
theorem pos_len (h:List (List Int×Int)):(pos h).length<=h.length:=by unfold pos;rw [List.length_map];exact List.length_filter_le ..
theorem AA (h:List (List Int×Int)) (hl:h.length<=1000):hJ [.lst (h.map ent)]=some (.lst ((pos h).map aJ)):=by
 have hl':h.length<=100000:=by lia
 have hc:=i0 (g:=gT 2 (gC (gN 0) (gC (gN 1) gZ))) (c:=jn) (el:=jo) (δ:=[none,none]) ent (fun p=>aJ p.1) (fun p=>decide (0<p.2)) h (fun p hp=>by
  by_cases e:0<p.2
  ·simp_arith only [jn,jo,ent,decide_eq_true e,if_true];rfl
  ·simp_arith only [jn,jo,ent,decide_eq_false e,Bool.false_eq_true,if_false])
 unfold pos
 rw [List.map_map]
 simp_arith only [hJ,pZ,hl',hc]
 rfl
theorem iD_b {i:Nat}{δ:Dt}{kws:Hl} (h:eVar i δ=some (.dic (dct kws))) (hl:kws.length<=100000):iD (eVar i) δ=some ((kws.map (·.1)).map aJ):=by
 unfold iD
 rw [h]
 show (if _ then _ else _)=_
 rw [if_pos (by rw [e6,cD];exact hl)]
 unfold dct
 rw [List.map_map,List.map_map]
 congr 1
 refine List.map_congr_left fun p _=> ?_
 show Dv.tup ((p.1.map Sum.inl).map keyD)=aJ p.1
 unfold aJ
 rw [List.map_map]
 rfl
theorem Bb (kws:Hl):((kws.map (·.1)).filter fun r=> !decide (wOf kws r=0)).length=(nzOf kws).length:=by
 unfold nzOf hOf
 rw [show∀l:List (List Int),((l.map fun r=>(r,wOf kws r)).filter fun p=> !decide (p.2=0))=(l.filter fun r=> !decide (wOf kws r=0)).map fun r=>(r,wOf kws r) from fun l=>List.filter_map,List.length_map]
 exact ((cp _).symm.filter _).length_eq
noncomputable abbrev encH (h:Hl):Dv:= .lst (h.map ent)
noncomputable def on1 (rs:List (List Int)):Hl:=rs.map fun r=>(r,1)
theorem qo (h:Hl) (hl:h.length<=1000):fM [encH h]=some (encH (on1 (pos h))):=by
 have e1:=AA h hl
 have pl:=pos_len h
 have hl':(pos h).length<=100000:=by lia
 have hc:=kL (g:=gN 0) (c:=tyes) (el:=lj) (δ:=[none]) aJ (fun r=>ent (r,1)) (pos h) (fun r hr=>by
  simp_arith only [lj,gR]
  rfl)
 have hh:(pos h).map (fun r=>ent (r,1))=(on1 (pos h)).map ent:=by unfold on1;rw [List.map_map];rfl
 rw [hh] at hc
 simp_arith only [fM,qd,e1,hl',hc]
noncomputable def ind (w:Int):Int:=if 0<w then 1 else 0
theorem qp {rs:List (List Int)} (nd:rs.Nodup) (r:List Int):tot (on1 rs) r=if r∈rs then 1 else 0:=by
 unfold on1
 by_cases h:r∈rs
 ·rw [if_pos h]
  exact bX (by rw [List.map_map];exact (List.map_id' rs).symm▸nd) (List.mem_map.mpr ⟨r,h,rfl⟩)
 ·rw [if_neg h]
  exact bh (by rw [List.map_map];exact (List.map_id' rs).symm▸h)
theorem AB {h:Hl} (nd:(h.map (·.1)).Nodup):(pos h).Nodup:=(List.filter_sublist.map _).nodup nd
theorem qq {h:Hl} (nd:(h.map (·.1)).Nodup) (r:List Int):r∈pos h↔0<wOf h r:=by
 unfold pos
 constructor
 ·intro hr
  obtain ⟨⟨q,w⟩,hp,rfl⟩:=List.mem_map.mp hr
  obtain ⟨hp1,hp2⟩:=List.mem_filter.mp hp
  rw [dW nd,bX nd hp1]
  exact of_decide_eq_true hp2
 ·intro hw
  have hm:r∈h.map (·.1):=Classical.byContradiction fun n=>by
   rw [dW nd,bh n] at hw
   exact absurd hw (by decide)
  obtain ⟨⟨q,w⟩,hp,rfl⟩:=List.mem_map.mp hm
  rw [dW nd,bX nd hp] at hw
  exact List.mem_map.mpr ⟨_,List.mem_filter.mpr ⟨hp,decide_eq_true hw⟩,rfl⟩
theorem tot_pos {h:Hl} (nd:(h.map (·.1)).Nodup) (r:List Int):tot (on1 (pos h)) r=ind (wOf h r):=by
 rw [qp (AB nd)]
 unfold ind
 by_cases c:0<wOf h r
 ·rw [if_pos ((qq nd r).mpr c),if_pos c]
 ·rw [if_neg (fun z=>c ((qq nd r).mp z)),if_neg c]
theorem qt {h:Hl} (hk: ∀p∈h,p.1≠[]): ∀p∈on1 (pos h),p.1≠[]:=fun p hp=>by
 obtain ⟨r,hr,rfl⟩:=List.mem_map.mp hp
 obtain ⟨q,hq,rfl⟩:=List.mem_map.mp hr
 exact hk q (List.mem_filter.mp hq).1
theorem on1_len (h:Hl):(on1 (pos h)).length<=h.length:=by unfold on1;rw [List.length_map];exact pos_len h
noncomputable def ic (W:Hl) (r:List Int):Hl:=W.filter fun p=>decide (p.1≠r)
theorem AC (W:Hl) (r:List Int):fi (dct W) (r.map Sum.inl)=dct (ic W r):=by
 unfold fi dct ic
 rw [List.filter_map]
 congr 1
 refine List.filter_congr fun p _=> ?_
 show decide (p.1.map (Sum.inl:Int->Key)≠r.map Sum.inl)=decide (p.1≠r)
 exact decide_eq_decide.mpr (not_congr gS)
end K25
set_option maxHeartbeats 1000000
namespace K25
open PySem L2
noncomputable abbrev kp (C:Addr) (W:Hl):Dv:= .ins C [("weights",.dic (dct W))]
theorem AD {C:Addr}{m:EM}{δ:Dt}{W:Hl} (h:m δ=some (kp C W)):eFld C "weights" m δ=some (.dic (dct W)):=by
 unfold eFld
 rw [h]
 show (if C=C then getF "weights" [("weights",.dic (dct W))] else none)=_
 rw [if_pos rfl,getF,if_pos rfl]
theorem AE {C:Addr}{mk:EM}{δ:Dt}{W:Hl}{r:List Int} (h1:mk δ=some (.tup (r.map .int))) (h2:eVar 0 δ=some (kp C W)) (hr:r∈W.map (·.1)):je 0 C "weights" mk δ=some (.nx (δ.set 0 (some (kp C (ic W r))))):=by
 obtain ⟨w,e,_⟩:=et hr
 unfold je
 rw [h1,h2]
 simp only [Option.bind_some,if_true,getF,bW,gU,e,Option.map_some,AC,bZ]
theorem AF {C:Addr}{mk mv:EM}{δ:Dt}{W:Hl}{r:List Int}{w:Int} (h0:mv δ=some (.int w)) (h1:mk δ=some (.tup (r.map .int))) (h2:eVar 0 δ=some (kp C W)) (hl:W.length<100000):jd 0 C "weights" mk mv δ=some (.nx (δ.set 0 (some (kp C (putL W r w))))):=by
 have hl2:(dct W).length<lim:=by rw [e6,cD];exact hl
 unfold jd
 rw [h0,h1,h2]
 simp only [Option.bind_some,if_true,getF,bW,ej,bZ,hl2,cE,and_self]
noncomputable def bef (W one:Hl):Hl:=(one.filter fun p=>decide (p.1∈W.map (·.1))).map fun p=>(p.1,wOf W p.1)
theorem qu {W:Hl}{r:List Int}:dIn (.tup (r.map .int)) (.dic (dct W))=some (.bl (decide (r∈W.map (·.1)))):=by
 show ((dKey _).map _)=_
 rw [bW]
 show some (Dv.bl (valD (dct W) (r.map Sum.inl)).isSome)=_
 rw [gU,Option.isSome_map]
 congr 2
 by_cases h:r∈W.map (·.1)
 ·obtain ⟨w,e,_⟩:=et h
  rw [e,decide_eq_true h]
  rfl
 ·rw [decide_eq_false h,cU h]
  rfl
theorem AG (C:Addr) (W one:Hl):bu (gT 2 (gC (gN 0) (gC (gN 1) gZ))) (hZ C) (h7 C) [none,none,some (kp C W)] (one.map ent)=some ((bef W one).map ent):=by
 have hc:=i0 (g:=gT 2 (gC (gN 0) (gC (gN 1) gZ))) (c:=hZ C) (el:=h7 C) (δ:=[none,none,some (kp C W)]) ent (fun p=>ent (p.1,wOf W p.1)) (fun p=>decide (p.1∈W.map (·.1))) one (fun p hp=>by
  have ef:=AD (C:=C) (m:=eVar 2) (δ:=[some (.tup (p.1.map .int)),some (.int p.2),some (kp C W)]) (W:=W) rfl
  by_cases e:p.1∈W.map (·.1)
  ·have dg:dGet (.dic (dct W)) (.tup (p.1.map .int))=some (.int (wOf W p.1)):=dC e
   simp_arith only [hZ,h7,ent,ef,qu,dg,decide_eq_true e,if_true,dA]
  ·simp_arith only [hZ,h7,ent,ef,qu,decide_eq_false e,Bool.false_eq_true,if_false])
 rw [hc]
 unfold bef
 rw [List.map_map]
 rfl
theorem fT (W one:Hl):(bef W one).map (·.1)=(one.map (·.1)).filter fun r=>decide (r∈W.map (·.1)):=by
 unfold bef
 rw [List.map_map,List.filter_map]
 rfl
theorem qw {W one:Hl} (nd:(one.map (·.1)).Nodup):((bef W one).map (·.1)).Nodup:=by
 rw [fT]
 exact List.filter_sublist.nodup nd
theorem qx {W one:Hl} (nd:(one.map (·.1)).Nodup) (r:List Int):tot (bef W one) r=if r∈one.map (·.1) then wOf W r else 0:=by
 by_cases h:r∈(bef W one).map (·.1)
 ·obtain ⟨p,hp,rfl⟩:=List.mem_map.mp h
  have h1:=h
  rw [fT] at h1
  have h2:=(List.mem_filter.mp h1).1
  rw [if_pos h2,bX (qw nd) hp]
  unfold bef at hp
  obtain ⟨q,_,rfl⟩:=List.mem_map.mp hp
  rfl
 ·rw [bh h]
  by_cases h2:r∈one.map (·.1)
  ·rw [if_pos h2]
   have:r∉W.map (·.1):=fun z=>h (by rw [fT];exact List.mem_filter.mpr ⟨h2,decide_eq_true z⟩)
   unfold wOf
   rw [cU this]
   rfl
  ·rw [if_neg h2]
noncomputable def wo (W:Hl) (rs:List (List Int)):Hl:=W.filter fun p=>decide (p.1∉rs)
theorem AH (W:Hl) (rs:List (List Int)) (r:List Int):ic (wo W rs) r=wo W (rs++[r]):=by
 unfold ic wo
 rw [List.filter_filter]
 refine List.filter_congr fun p _=> ?_
 by_cases h1:p.1=r<;>by_cases h2:p.1∈rs<;>simp [h1,h2]
theorem lB {W:Hl} (nd:(W.map (·.1)).Nodup) (rs:List (List Int)):((wo W rs).map (·.1)).Nodup:=(List.filter_sublist.map _).nodup nd
theorem wo_w {W:Hl} (nd:(W.map (·.1)).Nodup) (rs:List (List Int)) (r:List Int):wOf (wo W rs) r=if r∈rs then 0 else wOf W r:=by
 rw [dW (lB nd rs),dW nd]
 by_cases h:r∈rs
 ·rw [if_pos h]
  refine bh fun z=> ?_
  obtain ⟨p,hp,rfl⟩:=List.mem_map.mp z
  exact of_decide_eq_true (List.mem_filter.mp hp).2 h
 ·rw [if_neg h]
  by_cases hm:r∈W.map (·.1)
  ·obtain ⟨⟨q,w⟩,hp,rfl⟩:=List.mem_map.mp hm
   rw [bX nd hp]
   exact bX (lB nd rs) (List.mem_filter.mpr ⟨hp,decide_eq_true h⟩)
  ·rw [bh hm]
   exact bh fun z=>hm (by obtain ⟨p,hp,rfl⟩:=List.mem_map.mp z;exact List.mem_map.mpr ⟨p,(List.mem_filter.mp hp).1,rfl⟩)
theorem AI (C:Addr) (W B:Hl) (nd:(B.map (·.1)).Nodup) (sub: ∀p∈B,p.1∈W.map (·.1)) (v1 v2 v3 v4 v5:Option Dv):
  ∃u4 u5,loopM (gT 2 (gC (gN 4) (gC (gN 5) gZ))) (lw C) (B.map ent) [some (kp C W),v1,v2,v3,v4,v5]=some (.nx [some (kp C (wo W (B.map (·.1)))),v1,v2,v3,u4,u5]):=by
 obtain ⟨δ',e,u4,u5,rfl⟩:=bV (g:=gT 2 (gC (gN 4) (gC (gN 5) gZ))) (body:=lw C) (ds:=B.map ent) (δ:=[some (kp C W),v1,v2,v3,v4,v5])
  (fun i δ=> ∃u4 u5:Option Dv,δ=[some (kp C (wo W ((B.map (·.1)).take i))),v1,v2,v3,u4,u5]) ⟨v4,v5,by rw [List.take_zero];unfold wo;rw [List.filter_eq_self.mpr fun _ _=>by simp]⟩ (by
  rintro i d δ hd ⟨u4,u5,rfl⟩
  rw [List.getElem?_map] at hd
  obtain ⟨⟨r,w⟩,hp,rfl⟩:=Option.map_eq_some_iff.mp hd
  have hk:(B.map (·.1))[i]?=some r:=by rw [List.getElem?_map,hp];rfl
  have ni:r∉(B.map (·.1)).take i:=fun z=>by
   rw [<-List.take_append_drop i (B.map (·.1)),List.nodup_append] at nd
   have:r∈(B.map (·.1)).drop i:=by
    refine List.mem_of_getElem? (i:=0) ?_
    rw [List.getElem?_drop,Nat.add_zero]
    exact hk
   exact nd.2.2 r z r this rfl
  have hin:r∈(wo W ((B.map (·.1)).take i)).map (·.1):=by
   obtain ⟨p,hp1,hp2⟩:=List.mem_map.mp (sub _ (List.mem_of_getElem? hp))
   exact List.mem_map.mpr ⟨p,List.mem_filter.mpr ⟨hp1,decide_eq_true (by rw [hp2];exact ni)⟩,hp2⟩
  have po:=AE (C:=C) (mk:=eVar 4) (δ:=[some (kp C (wo W ((B.map (·.1)).take i))),v1,v2,v3,some (.tup (r.map .int)),some (.int w)]) rfl rfl hin
  rw [AH] at po
  have tk:(B.map (·.1)).take (i+1)=(B.map (·.1)).take i++[r]:=by rw [List.take_add_one,hk];rfl
  rw [tk]
  exact ⟨_,_,rfl,po,⟨_,_,rfl⟩⟩)
 rw [List.length_map] at e
 have:(B.map (·.1)).take B.length=B.map (·.1):=List.take_of_length_le (by rw [List.length_map];exact Nat.le_refl _)
 rw [this] at e
 exact ⟨u4,u5,e⟩
noncomputable def puts (K now:Hl):Hl:=now.foldl (fun k p=>putL k p.1 p.2) K
theorem AJ {now:Hl}: ∀{K:Hl},(K.map (·.1)).Nodup->((puts K now).map (·.1)).Nodup:=by
 induction now with
 |nil=>exact fun h=>h
 |cons p now ih=>exact fun h=>ih (iY h)
theorem qy {now:Hl}: ∀{K:Hl},(puts K now).length<=K.length+now.length:=by
 induction now with
 |nil=>exact Nat.le_refl _
 |cons p now ih=>
  intro K
  have:=gX K p.1 p.2
  have:=ih (K:=putL K p.1 p.2)
  rw [List.length_cons]
  show (puts (putL K p.1 p.2) now).length<=_
  lia
theorem AK {now:Hl}: ∀{K:Hl} (r:List Int),(now.map (·.1)).Nodup->wOf (puts K now) r=if r∈now.map (·.1) then tot now r else wOf K r:=by
 induction now with
 |nil=>intro K r _;rw [if_neg (by simp)];rfl
 |cons p now ih=>
  intro K r nd
  rw [List.map_cons,List.nodup_cons] at nd
  show wOf (puts (putL K p.1 p.2) now) r=_
  rw [ih r nd.2,i4,List.map_cons]
  by_cases h:r∈now.map (·.1)
  ·rw [if_pos h,if_pos (List.mem_cons_of_mem _ h)]
   have:p.1≠r:=fun z=>nd.1 (z▸h)
   show tot now r=tot (p::now) r
   rw [show p::now=[p]++now from rfl,fb,bh (ps:=[p]) (by simpa using fun z=>this z.symm)]
   lia
  ·rw [if_neg h]
   by_cases e:p.1=r
   ·rw [if_pos e,if_pos (by rw [e];exact List.mem_cons_self ..),show p::now=[p]++now from rfl,fb,bh (ps:=now) h]
    have:tot [p] r=p.2:=bX (ps:=[p]) (by simp) (by rw [<-e];exact List.mem_singleton.mpr rfl)
    lia
   ·rw [if_neg e,if_neg (fun z=>by rcases List.mem_cons.mp z with z|z;exact e z.symm;exact h z)]
theorem puts_mem {now:Hl}: ∀{K:Hl}{p:List Int×Int},p∈puts K now->p∈K \/p∈now:=by
 induction now with
 |nil=>exact fun h=> .inl h
 |cons q now ih=>
  intro K p h
  rcases ih (K:=putL K q.1 q.2) h with z|z
  ·rcases putL_mem z with z|rfl
   ·exact .inl z
   ·exact .inr (List.mem_cons_self ..)
  ·exact .inr (List.mem_cons_of_mem _ z)
theorem AL (C:Addr) (K now:Hl) (hl:K.length+now.length<=10000) (v1 v2 v3 v4 v5:Option Dv):
  ∃u4 u5,loopM (gT 2 (gC (gN 4) (gC (gN 5) gZ))) (lx C) (now.map ent) [some (kp C K),v1,v2,v3,v4,v5]=some (.nx [some (kp C (puts K now)),v1,v2,v3,u4,u5]):=by
 obtain ⟨δ',e,u4,u5,rfl⟩:=bV (g:=gT 2 (gC (gN 4) (gC (gN 5) gZ))) (body:=lx C) (ds:=now.map ent) (δ:=[some (kp C K),v1,v2,v3,v4,v5])
  (fun i δ=> ∃u4 u5:Option Dv,δ=[some (kp C (puts K (now.take i))),v1,v2,v3,u4,u5]) ⟨v4,v5,rfl⟩ (by
  rintro i d δ hd ⟨u4,u5,rfl⟩
  rw [List.getElem?_map] at hd
  obtain ⟨⟨r,w⟩,hp,rfl⟩:=Option.map_eq_some_iff.mp hd
  have pl:=qy (K:=K) (now:=now.take i)
  have tl:(now.take i).length<=now.length:=by rw [List.length_take];lia
  have po:=AF (C:=C) (mk:=eVar 4) (mv:=eVar 5) (δ:=[some (kp C (puts K (now.take i))),v1,v2,v3,some (.tup (r.map .int)),some (.int w)]) (r:=r) (w:=w) rfl rfl rfl (by lia)
  have tk:puts K (now.take (i+1))=putL (puts K (now.take i)) r w:=by
   rw [List.take_add_one,hp]
   exact List.foldl_append (f:=fun k (p:List Int×Int)=>putL k p.1 p.2) (b:=K) (l:=now.take i) (l':=[(r,w)])
  rw [tk]
  exact ⟨_,_,rfl,po,⟨_,_,rfl⟩⟩)
 rw [List.length_map,List.take_length] at e
 exact ⟨u4,u5,e⟩
structure Kept (W:Hl) (S:List Int->Int):Prop where
 nd:(W.map (·.1)).Nodup
 ne: ∀p∈W,p.1≠[]
 w: ∀r,wOf W r=S r
theorem jA (C:Addr) (W one:Hl) (S:List Int->Int) (k:Kept W S) (nd:(one.map (·.1)).Nodup) (ne: ∀p∈one,p.1≠[]) (hl:one.length<=200) (hw:W.length<=1000):
  ∃W' D,M_OnceKeeper_change C [kp C W,encH one]=some (kp C W',encH D)/\Kept W' (fun r=>S r+tot one r)/\W'.length<=W.length+one.length+one.length/\IsH D/\(∀r,tot D r=ind (S r+tot one r)-ind (S r))/\D.length<=1000:=by
 have bl:(bef W one).length<=one.length:=by
  unfold bef
  rw [List.length_map]
  exact List.length_filter_le ..
 have bn:=qw (W:=W) nd
 have bk: ∀p∈bef W one,p.1≠[]:=fun p hp=>by
  unfold bef at hp
  obtain ⟨q,hq,rfl⟩:=List.mem_map.mp hp
  exact ne q (List.mem_filter.mp hq).1
 have bs: ∀p∈bef W one,p.1∈W.map (·.1):=fun p hp=>by
  unfold bef at hp
  obtain ⟨q,hq,rfl⟩:=List.mem_map.mp hp
  exact of_decide_eq_true (List.mem_filter.mp hq).2
 have mb:=AG C W one
 have pl:=Ay (bef W one) one (by lia) bk ne
 have nl:=o7 (bef W one++one)
 rw [List.length_append] at nl
 have nr:=kP (bef W one++one)
 have nk: ∀p∈heapL (bef W one++one),p.1≠[]:=y7 (P:=fun r=>r≠[]) fun p hp=>by
  rcases List.mem_append.mp hp with z|z
  ·exact bk p z
  ·exact ne p z
 have nw: ∀r,wOf (heapL (bef W one++one)) r=if r∈one.map (·.1) then S r+tot one r else 0:=fun r=>by
  rw [dW nr.nd,o8,fb,qx nd]
  by_cases h:r∈one.map (·.1)
  ·rw [if_pos h,if_pos h,k.w]
  ·rw [if_neg h,if_neg h,bh h]
   rfl
 have hkeys: ∀r,r∈(heapL (bef W one++one)).map (·.1)->r∈one.map (·.1):=fun r hr=>by
  obtain ⟨p,hp,rfl⟩:=List.mem_map.mp hr
  have:=o9 hp
  rw [List.map_append] at this
  rcases List.mem_append.mp this with z|z
  ·rw [fT] at z
   exact (List.mem_filter.mp z).1
  ·exact z
 have nt: ∀r,tot (heapL (bef W one++one)) r=wOf (heapL (bef W one++one)) r:=fun r=>(dW nr.nd r).symm
 generalize heapL (bef W one++one)=now at*
 generalize hB:bef W one=B at*
 obtain ⟨u4,u5,e1⟩:=AI C W B bn bs (some (encH one)) (some (encH B)) (some (encH now)) none none
 have wl:(wo W (B.map (·.1))).length<=W.length:=List.length_filter_le ..
 obtain ⟨w4,w5,e2⟩:=AL C (wo W (B.map (·.1))) now (by lia) (some (encH one)) (some (encH B)) (some (encH now)) u4 u5
 have o1:=qo now (by lia)
 have o2:=qo B (by lia)
 have l1:=on1_len now
 have l2:=on1_len B
 have ls:=Az (on1 (pos now)) (on1 (pos B)) (by lia) (qt nk) (qt bk)
 have hl1:one.length<=100000:=by lia
 have hl2:B.length<=100000:=by lia
 have hl3:now.length<=100000:=by lia
 have pl2:=qy (K:=wo W (B.map (·.1))) (now:=now)
 have dl:=o7 (on1 (pos now)++negH (on1 (pos B)))
 rw [List.length_append,gY] at dl
 refine ⟨puts (wo W (B.map (·.1))) now,heapL (on1 (pos now)++negH (on1 (pos B))),?_,⟨AJ (lB k.nd _),fun p hp=> ?_,fun r=> ?_⟩,by lia,yL _,fun r=> ?_,by lia⟩
 ·unfold M_OnceKeeper_change ioM
  rw [if_pos (show [kp C W,encH one].length=2 from rfl)]
  have eb:ly C (bc 6 [kp C W,encH one])=some (.rt (encH (heapL (on1 (pos now)++negH (on1 (pos B))))) [some (kp C (puts (wo W (B.map (·.1))) now)),some (encH one),some (encH B),some (encH now),w4,w5]):=by
   simp_arith only [ly,show bc 6 [kp C W,encH one]=[some (kp C W),some (encH one),none,none,none,none] from rfl,hl1,mb,pl,hl2,e1,hl3,e2,o1,o2,ls]
  rw [eb]
  rfl
 ·rcases puts_mem hp with z|z
  ·exact k.ne p (List.mem_filter.mp z).1
  ·exact nk p z
 ·rw [AK r nr.nd,nt,nw,wo_w k.nd,k.w]
  by_cases h1:r∈now.map (·.1)
  ·rw [if_pos h1,if_pos (hkeys r h1)]
  ·rw [if_neg h1]
   by_cases h2:r∈one.map (·.1)
   ·have z0:S r+tot one r=0:=by
     have:=nt r
     rw [nw,if_pos h2,bh h1] at this
     exact this.symm
    rw [z0]
    by_cases h3:r∈B.map (·.1)
    ·rw [if_pos h3]
    ·rw [if_neg h3]
     have:r∉W.map (·.1):=fun z=>h3 (by rw [<-hB,fT];exact List.mem_filter.mpr ⟨h2,decide_eq_true z⟩)
     have w0:=k.w r
     unfold wOf at w0
     rw [cU this] at w0
     exact w0.symm
   ·have h3:r∉B.map (·.1):=fun z=>h2 (by rw [<-hB,fT] at z;exact (List.mem_filter.mp z).1)
    rw [if_neg h3,bh h2]
    lia
 ·rw [o8,fb,kQ,tot_pos nr.nd,tot_pos bn,nw,dW bn]
  have bt:=qx (W:=W) nd r
  rw [hB] at bt
  rw [bt]
  by_cases h2:r∈one.map (·.1)
  ·rw [if_pos h2,if_pos h2,k.w]
   lia
  ·rw [if_neg h2,if_neg h2,bh h2,Int.add_zero]
   lia
end K25
set_option maxHeartbeats 1000000
namespace K25
open PySem L2
theorem lex_irr: ∀a:List Int,HT.aD a a=false
 |[]=>rfl
 |x::a=>by rw [HT.dZ,if_pos rfl,lex_irr a]
theorem AM {h:Hl}{r:List Int}{x:Int} (rs:Rise h) (lt: ∀p∈h,HT.aD p.1 r=true):Rise (h++[(r,x)]):=by
 unfold Rise at*
 rw [List.pairwise_append]
 refine ⟨rs,List.pairwise_singleton ..,fun p hp q hq=> ?_⟩
 rw [List.mem_singleton.mp hq]
 exact lt p hp
theorem lC (h:Hl) (q r:List Int) (x:Int):tot (h++[(r,x)]) q=tot h q+if r=q then x else 0:=by
 rw [fb]
 by_cases e:r=q
 ·rw [if_pos e,bX (ps:=[(r,x)]) (r:=q) (w:=x) (by simp) (by rw [e];exact List.mem_singleton.mpr rfl)]
 ·rw [if_neg e,bh (ps:=[(r,x)]) (by simpa using fun z=>e z.symm)]
structure ie (N:Hl) (S:List Int->Int) (ch due N':Hl):Prop where
 nd:(N'.map (·.1)).Nodup
 len:N'.length<=N.length+ch.length
 ne: ∀p∈N',p.1≠[]
 w: ∀r,wOf N' r=S r+tot ch r
 h:IsH due
 dl:due.length<=ch.length
 dk: ∀p∈due,p.1∈ch.map (·.1)
 t: ∀r,tot due r=ind (S r+tot ch r)-ind (S r)
theorem AN (N ch:Hl) (S:List Int->Int) (k:Kept N S) (rs:Rise ch) (ne: ∀p∈ch,p.1≠[]) (hl:ch.length<=200) (hn:N.length<=1000):
  ∃N' due,M_w_due [.dic (dct N),encH ch]=some (.dic (dct N'),encH due)/\ie N S ch due N':=by
 obtain ⟨δ',e,N',due,v3,v4,v5,rfl,ok⟩:=bV (g:=gT 2 (gC (gN 3) (gC (gN 4) gZ))) (body:=fL) (ds:=ch.map ent) (δ:=[some (.dic (dct N)),some (encH ch),some (.lst []),none,none,none])
  (fun i δ=> ∃(N' due:Hl) (v3 v4 v5:Option Dv),δ=[some (.dic (dct N')),some (encH ch),some (encH due),v3,v4,v5]/\ie N S (ch.take i) due N') ⟨N,[],none,none,none,rfl,⟨k.nd,by simp,k.ne,fun r=>by rw [k.w,List.take_zero];show S r=S r+0;lia,⟨List.Pairwise.nil,fun _ z=>nomatch z⟩,Nat.zero_le _,(fun _ z=>nomatch z),fun r=>by rw [List.take_zero];show (0:Int)=ind (S r+0)-ind (S r);rw [Int.add_zero];lia⟩⟩ (by
  rintro i d δ hd ⟨N',due,v3,v4,v5,rfl,ok⟩
  rw [List.getElem?_map] at hd
  obtain ⟨⟨r,w⟩,hp,rfl⟩:=Option.map_eq_some_iff.mp hd
  have tk:ch.take (i+1)=ch.take i++[(r,w)]:=by rw [List.take_add_one,hp];rfl
  have hil:i<ch.length:=(List.getElem?_eq_some_iff.mp hp).1
  have til:(ch.take i).length=i:=by rw [List.length_take];lia
  have lts: ∀p∈ch.take i,HT.aD p.1 r=true:=fun p hp'=>by
   have:(ch.take i++[(r,w)]).Pairwise fun p q=>HT.aD p.1 q.1=true:=by rw [<-tk];exact List.Pairwise.sublist (List.take_sublist ..) rs
   exact (List.pairwise_append.mp this).2.2 p hp' (r,w) (List.mem_singleton.mpr rfl)
  have nin:r∉(ch.take i).map (·.1):=fun z=>by
   obtain ⟨p,hp',e⟩:=List.mem_map.mp z
   have:=lts p hp'
   rw [e] at this
   have irr:HT.aD r r=false:=lex_irr r
   rw [irr] at this
   cases this
  have t0:tot (ch.take i) r=0:=bh nin
  have wb:wOf N' r=S r:=by rw [ok.w,t0,Int.add_zero]
  have hl2:(dct N').length<lim:=by rw [e6,cD];have:=ok.len;lia
  have pd:=ej N' r (S r+w)
  have hin:r∈(putL N' r (S r+w)).map (·.1):=oZ.mpr (.inl rfl)
  have g2:dGet (.dic (dct (putL N' r (S r+w)))) (.tup (r.map .int))=some (.int (S r+w)):=by
   have:=dC hin
   rw [i4,if_pos rfl] at this
   exact this
  have ge:=i3 N' r
  rw [wb] at ge
  have ln:=gX N' r (S r+w)
  have dln:due.length<100000:=by have:=ok.dl;lia
  have rne:r≠[]:=ne (r,w) (List.mem_of_getElem? hp)
  have base: ∀due':Hl,IsH due'->due'.length<=i+1->(∀p∈due',p.1∈(ch.take (i+1)).map (·.1))->(∀q,tot due' q=tot due q+if r=q then ind (S r+w)-ind (S r) else 0)->ie N S (ch.take (i+1)) due' (putL N' r (S r+w)):=fun due' h1 h2 h3 h4=>by
   refine ⟨iY ok.nd,by rw [List.length_take];have:=ok.len;rw [til] at this;lia,fun p hp=> ?_,fun q=> ?_,h1,by rw [List.length_take];lia,h3,fun q=> ?_⟩
   ·rcases putL_mem hp with z|rfl
    ·exact ok.ne p z
    ·exact rne
   ·rw [i4,tk,lC]
    by_cases e:r=q
    ·subst e
     rw [if_pos rfl,if_pos rfl,t0]
     lia
    ·rw [if_neg e,if_neg e,ok.w]
     lia
   ·rw [h4,ok.t,tk,lC]
    by_cases e:r=q
    ·subst e
     rw [if_pos rfl,if_pos rfl,t0,Int.add_zero]
     rw [show S r+(0+w)=S r+w by lia]
     lia
    ·rw [if_neg e,if_neg e,Int.add_zero,Int.add_zero]
  have dk2: ∀p∈due,p.1∈(ch.take (i+1)).map (·.1):=fun p hp=>by
   rw [tk,List.map_append]
   exact List.mem_append_left _ (ok.dk p hp)
  have snoc: ∀x:Int,x≠0->x=ind (S r+w)-ind (S r)->ie N S (ch.take (i+1)) (due++[(r,x)]) (putL N' r (S r+w)):=fun x x0 hx=>base _ ⟨AM ok.h.rise fun p hp=>by
    obtain ⟨q,hq,e⟩:=List.mem_map.mp (ok.dk p hp)
    rw [<-e]
    exact lts q hq,fun p hp=>by
    rcases List.mem_append.mp hp with z|z
    ·exact ok.h.nz p z
    ·rw [List.mem_singleton.mp z];exact x0⟩ (by rw [List.length_append];have:=ok.dl;rw [til] at this;simp;lia) (fun p hp=>by
    rcases List.mem_append.mp hp with z|z
    ·exact dk2 p z
    ·rw [List.mem_singleton.mp z,tk,List.map_append]
     exact List.mem_append_right _ (List.mem_singleton.mpr rfl)) fun q=>by rw [lC,hx]
  have same:ind (S r+w)-ind (S r)=0->ie N S (ch.take (i+1)) due (putL N' r (S r+w)):=fun h0=>base due ok.h (by have:=ok.dl;rw [til] at this;lia) dk2 fun q=>by rw [h0];by_cases e:r=q<;>simp [e]
  by_cases c1:0<S r
  ·by_cases c2:0<S r+w
   ·refine ⟨_,_,rfl,?_,⟨putL N' r (S r+w),due,some (.tup (r.map .int)),some (.int w),some (.int (S r)),rfl,same (by unfold ind;rw [if_pos c1,if_pos c2];rfl)⟩⟩
    simp_arith only [decide_true,decide_false,fL,ent,dU,ge,dB (bW r) hl2 cE,pd,g2,decide_eq_true c1,decide_eq_false (show¬S r+w<=0 by lia),decide_eq_false (show¬S r<=0 by lia)]
   ·refine ⟨_,_,rfl,?_,⟨putL N' r (S r+w),due++[(r,-1)],some (.tup (r.map .int)),some (.int w),some (.int (S r)),rfl,snoc (-1) (by decide) (by unfold ind;rw [if_pos c1,if_neg c2];rfl)⟩⟩
    rw [show encH (due++[(r,-1)])= .lst (due.map ent++[.tup [.tup (r.map .int),.int (-1)]]) from congrArg Dv.lst (List.map_append ..)]
    simp_arith only [decide_true,decide_false,fL,ent,dU,ge,dB (bW r) hl2 cE,pd,g2,decide_eq_true c1,decide_eq_true (show S r+w<=0 by lia),decide_eq_false (show¬S r<=0 by lia),dln,dA]
  ·by_cases c2:0<S r+w
   ·refine ⟨_,_,rfl,?_,⟨putL N' r (S r+w),due++[(r,1)],some (.tup (r.map .int)),some (.int w),some (.int (S r)),rfl,snoc 1 (by decide) (by unfold ind;rw [if_neg c1,if_pos c2];rfl)⟩⟩
    rw [show encH (due++[(r,1)])= .lst (due.map ent++[.tup [.tup (r.map .int),.int 1]]) from congrArg Dv.lst (List.map_append ..)]
    simp_arith only [decide_true,decide_false,fL,ent,dU,ge,dB (bW r) hl2 cE,pd,g2,decide_eq_false c1,decide_eq_true (show S r<=0 by lia),decide_eq_true c2,dln,dA]
   ·refine ⟨_,_,rfl,?_,⟨putL N' r (S r+w),due,some (.tup (r.map .int)),some (.int w),some (.int (S r)),rfl,same (by unfold ind;rw [if_neg c1,if_neg c2];rfl)⟩⟩
    simp_arith only [decide_true,decide_false,fL,ent,dU,ge,dB (bW r) hl2 cE,pd,g2,decide_eq_false c1,decide_eq_true (show S r<=0 by lia),decide_eq_false c2])
 rw [List.length_map,List.take_length] at ok
 have hl1:ch.length<=100000:=by lia
 refine ⟨N',due,?_,ok⟩
 unfold M_w_due ioM
 rw [if_pos (show [Dv.dic (dct N),encH ch].length=2 from rfl)]
 have eb:lh (bc 6 [.dic (dct N),encH ch])=some (.rt (encH due) [some (.dic (dct N')),some (encH ch),some (encH due),v3,v4,v5]):=by
  simp_arith only [lh,show bc 6 [Dv.dic (dct N),encH ch]=[some (.dic (dct N)),some (encH ch),none,none,none,none] from rfl,hl1,e]
 rw [eb]
 rfl
theorem qz (z:Int):fK [.int z]=some (.bl true):=by
 simp_arith only [fK,p9,show isiN "int" "int"=true from by decide+kernel,show isiN "int" "bool"=false from by decide+kernel,Nat.sub_self,List.replicate_zero,if_true]
theorem jB (h:Hl) (hl:h.length<=1000) (hr: ∀p∈h,p.1.length<=100):ci [encH h,encH h]=some (.bl true):=by
 have hrg: ∀v2 v3 v4,iR1 (ah fLen (ad (eVar 1) aNil)) [some (encH h),some (encH h),v2,v3,v4]=some (aY 0 h.length):=fun _ _ _=>j9 (j:=(h.length:Int)) (by simp_arith only [eW]) (by lia)
 obtain ⟨δ',e,v2,v3,v4,rfl⟩:=bV (g:=gN 2) (body:=lu) (ds:=aY 0 h.length) (δ:=[some (encH h),some (encH h),none,none,none])
  (fun i δ=> ∃v2 v3 v4:Option Dv,δ=[some (encH h),some (encH h),v2,v3,v4]) ⟨_,_,_,rfl⟩ (by
  rintro i d δ hd ⟨v2,v3,v4,rfl⟩
  have hi:i<h.length:=by
   have:=(List.getElem?_eq_some_iff.mp hd).1
   rwa [dq] at this
  rw [j4 hi] at hd
  cases hd
  obtain ⟨⟨r,w⟩,hp⟩: ∃p,h[i]?=some p:=⟨_,List.getElem?_eq_getElem hi⟩
  have a0:atI (h.map ent) (0+(i:Int))=some (.tup [.tup (r.map .int),.int w]):=by
   refine gG (by lia) ?_
   rw [show (0+(i:Int)).toNat=i by lia,List.getElem?_map,hp]
   rfl
  have ww:=qz w
  have dn:=yw r w
  have rl:r.length<=100000:=by have:=hr _ (List.mem_of_getElem? hp);simp only at this;lia
  obtain ⟨δ2,e2,u4,rfl⟩:=bV (g:=gN 4) (body:=lr) (ds:=r.map .int) (δ:=[some (encH h),some (encH h),some (.int (0+(i:Int))),some (.tup [.tup (r.map .int),.int w]),v4])
   (fun j δ=> ∃u4:Option Dv,δ=[some (encH h),some (encH h),some (.int (0+(i:Int))),some (.tup [.tup (r.map .int),.int w]),u4]) ⟨_,rfl⟩ (by
   rintro j d δ hd ⟨u4,rfl⟩
   obtain ⟨z,_,rfl⟩:=List.mem_map.mp (List.mem_of_getElem? hd)
   have wz:=qz z
   exact ⟨_,_,rfl,by simp_arith only [lr,wz];rfl,⟨_,rfl⟩⟩)
  exact ⟨_,_,rfl,by simp_arith only [lu,a0,show isiN "tuple" "tuple"=true from by decide+kernel,if_true,ww,dn,rl,e2,decide_true];rfl,⟨_,_,_,rfl⟩⟩)
 have n1:dNe (.int (h.length:Int)) (.int (h.length:Int))=some (.bl false):=by rw [nX,decide_eq_true rfl];rfl
 simp_arith only [ci,qf,show List.replicate (5-2) (none:Option Dv)=[none,none,none] from rfl,show isiN "list" "list"=true from by decide+kernel,if_true,n1,hrg,e]
theorem qA (N:Hl) (ne: ∀p∈N,p.1≠[]) (hl:N.length<=1000):cX [.dic (dct N)]=some (encH (nzOf N)):=by
 have mem: ∀r∈srt (N.map (·.1)),r∈N.map (·.1):=fun r h=>(cp _).mem_iff.mp h
 have sd:=kK ne
 have sl:(srt (N.map (·.1))).length<=100000:=by rw [iZ,List.length_map];lia
 have hc:=i0 (g:=gN 0) (c:=jq) (el:=jr) (δ:=[none,some (.dic (dct N))]) aJ (fun r=>ent (r,wOf N r)) (fun r=> !decide (wOf N r=0)) (srt (N.map (·.1))) (fun r hr=>by
  by_cases h0:wOf N r=0
  ·simp_arith only [jr,jq,dC (mem r hr),h0,decide_true,Bool.false_eq_true,if_false]
  ·simp_arith only [jr,jq,dC (mem r hr),gR,decide_eq_false h0,if_true]
   rfl)
 have hn:((srt (N.map (·.1))).filter fun r=> !decide (wOf N r=0)).map (fun r=>ent (r,wOf N r))=(nzOf N).map ent:=by
  unfold nzOf hOf
  rw [List.filter_map,List.map_map]
  rfl
 rw [hn] at hc
 simp_arith only [cX,p8,Nat.sub_self,List.replicate_zero,sd,sl,hc]
end K25
set_option maxHeartbeats 1000000
namespace K25
open PySem L2
theorem qB {i:Nat}{m:SM}{δ δ1:Dt} (h:m δ=some (.nx δ1)) (h1:δ.length<1000) (h2:δ1.length<1000):sLet i m δ=some (.nx (δ1.set i none)):=by
 unfold sLet
 rw [if_pos h1,h]
 show (if δ1.length<1000 then _ else _)=_
 rw [if_pos h2]
 rfl
theorem qC {i:Nat}{m:SM}{δ δ1:Dt}{d:Dv} (h:m δ=some (.rt d δ1)) (h1:δ.length<1000) (h2:δ1.length<1000):sLet i m δ=some (.rt d (δ1.set i none)):=by
 unfold sLet
 rw [if_pos h1,h]
 show (if δ1.length<1000 then _ else _)=_
 rw [if_pos h2]
 rfl
theorem AO {it:Dt->Option (List Dv)}{g:Dv->Dt->Option Dt}{body:SM}{δ δ1:Dt}{ds:List Dv} (h:it δ=some ds) (e:loopM g body ds δ=some (.nx δ1)):g6 it g body δ=some (.nx δ1):=by
 unfold g6
 rw [h]
 show ((loopM g body ds δ).bind _)=_
 rw [e]
 rfl
theorem qD {i:Nat}{m:EM}{δ:Dt}{ds:List Dv}{d:Dv} (h1:m δ=some d) (h2:eVar i δ=some (.lst ds)) (hl:ds.length<100000):ff i m δ=some (.nx (δ.set i (some (.lst (ds++[d]))))):=by
 unfold ff
 rw [h1]
 show ((eVar i δ).bind _)=_
 rw [h2]
 show (if _ then _ else _)=_
 rw [if_pos (by rw [cD];exact hl)]
structure Rows (wd:Int) (T:Hl):Prop where
 nd:(T.map (·.1)).Nodup
 w: ∀p∈T,(p.1.length:Int)=wd
theorem Rows.put {wd:Int}{T:Hl} (h:Rows wd T) {r:List Int}{w:Int} (hr:(r.length:Int)=wd):Rows wd (putL T r w):=⟨iY h.nd,fun p hp=>by
 rcases putL_mem hp with z|rfl
 ·exact h.w p z
 ·exact hr⟩
theorem Rows.ne {wd:Int}{T:Hl} (h:Rows wd T) (w1:1<=wd): ∀p∈T,p.1≠[]:=fun p hp z=>by have:=h.w p hp;rw [z] at this;simp at this;lia
section
variable (cells:List Int) (wd way:Int) (base:List Int) (hl:cells.length<=63) (w0:1<=wd) (w1:wd<=8) (y0:0<=way) (y1:way<3) (hb:(base.length:Int)=wd) (bb: ∀x∈base,Bn x)
include hl w0 w1 y0 y1 hb bb
theorem AQ (N:Hl) (lo cnt:Nat) (hc:lo+cnt<=cells.length) (v5 v6 v8 v9 v10 v11:Option Dv):
  ∃(T:Hl) (u8 u9 u10 u11:Option Dv),loopM (gN 8) fN (aY (lo:Int) cnt) [some (.lst (cells.map .int)),some (.int wd),some (.int way),some (.lst (base.map .int)),some (.dic (dct N)),v5,v6,some (.dic []),v8,v9,v10,v11]=some (.nx [some (.lst (cells.map .int)),some (.int wd),some (.int way),some (.lst (base.map .int)),some (.dic (dct N)),v5,v6,some (.dic (dct T)),u8,u9,u10,u11])/\Rows wd T/\T.length<=cnt:=by
 obtain ⟨δ',e,T,u8,u9,u10,u11,rfl,ok,le⟩:=bV (g:=gN 8) (body:=fN) (ds:=aY (lo:Int) cnt) (δ:=[some (.lst (cells.map .int)),some (.int wd),some (.int way),some (.lst (base.map .int)),some (.dic (dct N)),v5,v6,some (.dic []),v8,v9,v10,v11])
  (fun i δ=> ∃(T:Hl) (u8 u9 u10 u11:Option Dv),δ=[some (.lst (cells.map .int)),some (.int wd),some (.int way),some (.lst (base.map .int)),some (.dic (dct N)),v5,v6,some (.dic (dct T)),u8,u9,u10,u11]/\Rows wd T/\T.length<=i) ⟨[],_,_,_,_,rfl,⟨List.nodup_nil,fun _ z=>nomatch z⟩,Nat.le_refl _⟩ (by
  rintro i d δ hd ⟨T,u8,u9,u10,u11,rfl,ok,le⟩
  have hi:i<cnt:=by
   have:=(List.getElem?_eq_some_iff.mp hd).1
   rwa [dq] at this
  rw [j4 hi] at hd
  cases hd
  have ac:=j7 (zs:=cells) (i:=(lo:Int)+(i:Int)) (by lia) (by lia)
  obtain ⟨x,ex,_⟩:=jz (cells.getD ((lo:Int)+(i:Int)).toNat 0) ((lo:Int)+(i:Int)) (by lia) (by lia)
  obtain ⟨r,er,hr⟩:=Aw (x/3) wd way base w0 w1 y0 y1 hb bb
  obtain ⟨n,en,_⟩:=Ax (x/64)
  have hl2:(dct T).length<lim:=by rw [e6,cD];lia
  have ge:=i3 N r
  have pl: ∀w,(putL T r w).length<=i+1:=fun w=>by have:=gX T r w;lia
  by_cases c1:x%3=1
  ·by_cases c2:wOf N r=0
   ·refine ⟨_,_,rfl,?_,⟨putL T r n,some (.int ((lo:Int)+(i:Int))),some (.int x),some (.tup (r.map .int)),some (.int n),rfl,ok.put hr.1,pl n⟩⟩
    simp_arith only [decide_true,decide_false,fN,ac,ex,er,en,dU,ge,decide_eq_true c1,decide_eq_true c2,dB (bW r) hl2 cE,ej]
   ·have hin:r∈N.map (·.1):=Classical.byContradiction fun z=>c2 (by unfold wOf;rw [cU z];rfl)
    have dg:dGet (.dic (dct N)) (.tup (r.map .int))=some (.int (wOf N r)):=dC hin
    refine ⟨_,_,rfl,?_,⟨putL T r (-wOf N r),some (.int ((lo:Int)+(i:Int))),some (.int x),some (.tup (r.map .int)),some (.int (-wOf N r)),rfl,ok.put hr.1,pl _⟩⟩
    simp_arith only [decide_true,decide_false,fN,ac,ex,er,en,dU,ge,decide_eq_true c1,decide_eq_false c2,dg,dB (bW r) hl2 cE,ej]
  ·refine ⟨_,_,rfl,?_,⟨putL T r n,some (.int ((lo:Int)+(i:Int))),some (.int x),some (.tup (r.map .int)),some (.int n),rfl,ok.put hr.1,pl n⟩⟩
   simp_arith only [decide_true,decide_false,fN,ac,ex,er,en,decide_eq_false c1,dB (bW r) hl2 cE,ej])
 rw [dq] at le
 exact ⟨T,u8,u9,u10,u11,e,ok,le⟩
omit hl w0 w1 y0 y1 hb bb in
theorem AR (N T:Hl) (hn:Rows wd N) (ht:Rows wd T) (hln:N.length+T.length<=1000) (v0 v1 v2 v3 v5 v6 v8 v9 v10 v11:Option Dv):
  ∃(N':Hl) (u10:Option Dv),loopM (gN 10) fO ((T.map (·.1)).map aJ) [v0,v1,v2,v3,some (.dic (dct N)),v5,v6,some (.dic (dct T)),v8,v9,v10,v11]=some (.nx [v0,v1,v2,v3,some (.dic (dct N')),v5,v6,some (.dic (dct T)),v8,v9,u10,v11])/\Rows wd N'/\N'.length<=N.length+T.length:=by
 obtain ⟨δ',e,N',u10,rfl,ok,le⟩:=bV (g:=gN 10) (body:=fO) (ds:=(T.map (·.1)).map aJ) (δ:=[v0,v1,v2,v3,some (.dic (dct N)),v5,v6,some (.dic (dct T)),v8,v9,v10,v11])
  (fun i δ=> ∃(N':Hl) (u10:Option Dv),δ=[v0,v1,v2,v3,some (.dic (dct N')),v5,v6,some (.dic (dct T)),v8,v9,u10,v11]/\Rows wd N'/\N'.length<=N.length+i) ⟨N,_,rfl,hn,Nat.le_refl _⟩ (by
  rintro i d δ hd ⟨N',u10,rfl,ok,le⟩
  have hil:=(List.getElem?_eq_some_iff.mp hd).1
  rw [List.length_map,List.length_map] at hil
  obtain ⟨r,hr,rfl⟩:=List.mem_map.mp (List.mem_of_getElem? hd)
  have dg:dGet (.dic (dct T)) (.tup (r.map .int))=some (.int (wOf T r)):=dC hr
  have ge:=i3 N' r
  have hl2:(dct N').length<lim:=by rw [e6,cD];lia
  have pl:=gX N' r (wOf N' r+wOf T r)
  obtain ⟨p,hp,hpr⟩:=List.mem_map.mp hr
  refine ⟨_,_,rfl,?_,⟨putL N' r (wOf N' r+wOf T r),some (aJ r),rfl,ok.put (by rw [<-hpr];exact ht.w p hp),by lia⟩⟩
  simp_arith only [aJ,fO,dU,ge,dg,dB (bW r) hl2 cE,ej])
 rw [List.length_map,List.length_map] at le
 exact ⟨N',u10,e,ok,le⟩
theorem AS (N:Hl) (hn:Rows wd N) (chs:List Hl) (lo:Nat) (hlo:lo<cells.length) (hln:N.length<=500) (hch:chs.length<=500) (v7 v8 v9 v10 v11:Option Dv):
  ∃(N' T:Hl) (u8 u9 u10 u11:Option Dv),hV [some (.lst (cells.map .int)),some (.int wd),some (.int way),some (.lst (base.map .int)),some (.dic (dct N)),some (.lst (chs.map encH)),some (.int (lo:Int)),v7,v8,v9,v10,v11]=some (.nx [some (.lst (cells.map .int)),some (.int wd),some (.int way),some (.lst (base.map .int)),some (.dic (dct N')),some (.lst ((chs++[nzOf T]).map encH)),some (.int (lo:Int)),none,u8,u9,u10,u11])/\Rows wd N'/\N'.length<=N.length+3/\Rows wd T/\T.length<=3:=by
 obtain ⟨cnt,hcnt,hc3,hc4⟩: ∃cnt:Nat,((if (cells.length:Int)<(lo:Int)+3 then (cells.length:Int) else (lo:Int)+3)-(lo:Int)).toNat=cnt/\cnt<=3/\lo+cnt<=cells.length:=⟨_,rfl,by split<;>lia,by split<;>lia⟩
 have hr: ∀v7 v8 v9 v10 v11,iR2 (eVar 6) (ah fg (ad (eOp dAdd (eVar 6) (eC (.int 3))) (ad (ah fLen (ad (eVar 0) aNil)) aNil))) [some (.lst (cells.map .int)),some (.int wd),some (.int way),some (.lst (base.map .int)),some (.dic (dct N)),some (.lst (chs.map encH)),some (.int (lo:Int)),v7,v8,v9,v10,v11]=some (aY (lo:Int) cnt):=fun v7 v8 v9 v10 v11=>by
  have e1:ah fg (ad (eOp dAdd (eVar 6) (eC (.int 3))) (ad (ah fLen (ad (eVar 0) aNil)) aNil)) [some (.lst (cells.map .int)),some (.int wd),some (.int way),some (.lst (base.map .int)),some (.dic (dct N)),some (.lst (chs.map encH)),some (.int (lo:Int)),v7,v8,v9,v10,v11]=some (.int (if (cells.length:Int)<(lo:Int)+3 then (cells.length:Int) else (lo:Int)+3)):=by simp_arith only [zt]
  unfold iR2
  rw [e1]
  show (if _ then _ else _)=_
  rw [if_pos (by rw [cD];split<;>lia),hcnt]
 obtain ⟨T0,t8,t9,t10,t11,e1,ok0,le0⟩:=AQ cells wd way base hl w0 w1 y0 y1 hb bb N lo cnt hc4 (some (.lst (chs.map encH))) (some (.int (lo:Int))) v8 v9 v10 v11
 have ac:=j7 (zs:=cells) (i:=(lo:Int)) (by lia) (by lia)
 obtain ⟨T,ok,le,ei⟩: ∃T:Hl,Rows wd T/\T.length<=3/\sIf (tOf (eOp dEq (eOp dMod (eOp dIx (eVar 0) (eVar 6)) (eC (.int 9))) (eC (.int 4)))) (sSet 7 (eC (.dic []))) aR [some (.lst (cells.map .int)),some (.int wd),some (.int way),some (.lst (base.map .int)),some (.dic (dct N)),some (.lst (chs.map encH)),some (.int (lo:Int)),some (.dic (dct T0)),t8,t9,t10,t11]=some (.nx [some (.lst (cells.map .int)),some (.int wd),some (.int way),some (.lst (base.map .int)),some (.dic (dct N)),some (.lst (chs.map encH)),some (.int (lo:Int)),some (.dic (dct T)),t8,t9,t10,t11]):=by
  by_cases c:cells.getD (lo:Int).toNat 0%9=4
  ·exact ⟨[],⟨List.nodup_nil,fun _ z=>nomatch z⟩,Nat.zero_le _,by simp_arith only [ac,decide_eq_true c];rfl⟩
  ·exact ⟨T0,ok0,by lia,by simp_arith only [ac,decide_eq_false c]⟩
 obtain ⟨N',u10,e2,okn,len⟩:=AR wd N T hn ok (by lia) (some (.lst (cells.map .int))) (some (.int wd)) (some (.int way)) (some (.lst (base.map .int))) (some (.lst (chs.map encH))) (some (.int (lo:Int))) t8 t9 t10 t11
 have e3:=AO (it:=iD (eVar 7)) (g:=gN 10) (body:=fO) (δ:=[some (.lst (cells.map .int)),some (.int wd),some (.int way),some (.lst (base.map .int)),some (.dic (dct N)),some (.lst (chs.map encH)),some (.int (lo:Int)),some (.dic (dct T)),t8,t9,t10,t11]) (iD_b rfl (by lia)) e2
 have mh:=qA T (ok.ne w0) (by lia)
 have ap:=qD (i:=5) (m:=ah cX (ad (eVar 7) aNil)) (δ:=[some (.lst (cells.map .int)),some (.int wd),some (.int way),some (.lst (base.map .int)),some (.dic (dct N')),some (.lst (chs.map encH)),some (.int (lo:Int)),some (.dic (dct T)),t8,t9,u10,t11]) (d:=encH (nzOf T)) (ds:=chs.map encH) (by simp_arith only [mh]) rfl (by rw [List.length_map];lia)
 have lt:=qB (i:=7) (m:=sSeq (g6 (iD (eVar 7)) (gN 10) fO) (ff 5 (ah cX (ad (eVar 7) aNil)))) (δ:=[some (.lst (cells.map .int)),some (.int wd),some (.int way),some (.lst (base.map .int)),some (.dic (dct N)),some (.lst (chs.map encH)),some (.int (lo:Int)),some (.dic (dct T)),t8,t9,t10,t11]) (δ1:=[some (.lst (cells.map .int)),some (.int wd),some (.int way),some (.lst (base.map .int)),some (.dic (dct N')),some (.lst (chs.map encH++[encH (nzOf T)])),some (.int (lo:Int)),some (.dic (dct T)),t8,t9,u10,t11]) (by
  simp_arith only [e3,ap]) (show 12<1000 by decide) (show 12<1000 by decide)
 refine ⟨N',T,t8,t9,u10,t11,?_,okn,by lia,ok,le⟩
 rw [List.map_append]
 simp_arith only [hV,hr,e1,ei,lt]
end
theorem AT (cells:List Int) (wd way:Int) (hl:cells.length<=63) (w0:1<=wd) (w1:wd<=8) (y0:0<=way) (y1:way<3):
  ∃chs:List Hl,chs.length<=63/\(∀h∈chs,IsH h/\h.length<=3/\ ∀p∈h,(p.1.length:Int)=wd)/\hX [.lst (cells.map .int),.int wd,.int way]=some (.lst (chs.map encH)):=by
 have hr: ∀v3 v4 v5 v6 v7 v8 v9 v10 v11,iR1 (eVar 1) [some (.lst (cells.map .int)),some (.int wd),some (.int way),v3,v4,v5,v6,v7,v8,v9,v10,v11]=some (aY 0 wd.toNat):=fun _ _ _ _ _ _ _ _ _=>j9 (by simp_arith only [eW]) (by lia)
 obtain ⟨base,hz,hc,bb⟩:=h9 (P:=Bn) (g:=gN 0) (c:=tyes) (el:=lv) (δ:=[none,some (.lst (cells.map .int))]) (aY 0 wd.toNat) (by
  intro d hd
  obtain ⟨i,hi,rfl⟩:=iM hd
  obtain ⟨x,ex,_⟩:=jz (cells.length:Int) (0+(i:Int)) (by lia) (by lia)
  obtain ⟨n,en,bn⟩:=lA x
  exact ⟨n,by simp_arith only [lv,ex,en],bn⟩)
 rw [dq] at hz
 have hb:(base.length:Int)=wd:=by lia
 have szb: ∀i:Nat,i<size3 0 (cells.length:Int) 3->3*i<cells.length:=fun i hi=>by
  have:=jg 0 (cells.length:Int) 3
  unfold Builtin.Range.rangeSize at this
  rw [if_pos (by decide)] at this
  split at this<;>lia
 have szl:size3 0 (cells.length:Int) 3<=63:=by
  have:=jg 0 (cells.length:Int) 3
  unfold Builtin.Range.rangeSize at this
  rw [if_pos (by decide)] at this
  split at this<;>lia
 have hr3: ∀v3 v4 v5 v6 v7 v8 v9 v10 v11,iR3 (eC (.int 0)) (ah fLen (ad (eVar 0) aNil)) (eC (.int 3)) [some (.lst (cells.map .int)),some (.int wd),some (.int way),v3,v4,v5,v6,v7,v8,v9,v10,v11]=some (bj 0 3 (size3 0 (cells.length:Int) 3)):=fun v3 v4 v5 v6 v7 v8 v9 v10 v11=>by
  have e1:ah fLen (ad (eVar 0) aNil) [some (.lst (cells.map .int)),some (.int wd),some (.int way),v3,v4,v5,v6,v7,v8,v9,v10,v11]=some (.int (cells.length:Int)):=by simp_arith only [eW]
  unfold iR3
  rw [e1]
  show (if _ then _ else _)=_
  rw [if_pos ⟨decide_eq_true (by lia),by rw [cD];lia⟩]
 obtain ⟨δ',e,N,chs,v6,v8,v9,v10,v11,v7,rfl,hn,nl,hcl,ok⟩:=bV (g:=gN 6) (body:=hV) (ds:=bj 0 3 (size3 0 (cells.length:Int) 3)) (δ:=[some (.lst (cells.map .int)),some (.int wd),some (.int way),some (.lst (base.map .int)),some (.dic []),some (.lst []),none,none,none,none,none,none])
  (fun i δ=> ∃(N:Hl) (chs:List Hl) (v6 v8 v9 v10 v11 v7:Option Dv),δ=[some (.lst (cells.map .int)),some (.int wd),some (.int way),some (.lst (base.map .int)),some (.dic (dct N)),some (.lst (chs.map encH)),v6,v7,v8,v9,v10,v11]/\Rows wd N/\N.length<=3*i/\chs.length=i/\ ∀h∈chs,IsH h/\h.length<=3/\ ∀p∈h,(p.1.length:Int)=wd) ⟨[],[],_,_,_,_,_,_,rfl,⟨List.nodup_nil,fun _ z=>nomatch z⟩,Nat.zero_le _,rfl,fun _ z=>nomatch z⟩ (by
  rintro i d δ hd ⟨N,chs,v6,v8,v9,v10,v11,v7,rfl,hn,nl,hcl,ok⟩
  have hi:i<size3 0 (cells.length:Int) 3:=by
   have:=(List.getElem?_eq_some_iff.mp hd).1
   unfold bj at this
   rwa [List.length_map,List.length_range] at this
  unfold bj at hd
  rw [List.getElem?_map,List.getElem?_range hi] at hd
  cases hd
  have h3:=szb i hi
  obtain ⟨N',T,u8,u9,u10,u11,eb,okn,ln,okT,leT⟩:=AS cells wd way base hl w0 w1 y0 y1 hb bb N hn chs (3*i) h3 (by lia) (by lia) v7 v8 v9 v10 v11
  refine ⟨_,_,rfl,?_,⟨N',chs++[nzOf T],some (.int (0+(i:Int)*3)),u8,u9,u10,u11,none,rfl,okn,by lia,by rw [List.length_append,hcl];rfl,fun h hh=> ?_⟩⟩
  ·rw [show (0:Int)+(i:Int)*3=((3*i:Nat):Int) by lia]
   have z:(0:Int)+(i:Int)*3=((3*i:Nat):Int):=by lia
   show hV [some (.lst (cells.map .int)),some (.int wd),some (.int way),some (.lst (base.map .int)),some (.dic (dct N)),some (.lst (chs.map encH)),some (.int ((0:Int)+(i:Int)*3)),v7,v8,v9,v10,v11]=_
   rw [z]
   exact eb
  ·rcases List.mem_append.mp hh with z|z
   ·exact ok h z
   ·rw [List.mem_singleton.mp z]
    refine ⟨yM okT.nd,?_,fun p hp=> ?_⟩
    ·unfold nzOf
     refine Nat.le_trans (List.length_filter_le ..) ?_
     rw [kM]
     exact leT
    ·exact okT.w p (oX (List.mem_filter.mp hp).1))
 have rl:(bj 0 3 (size3 0 (cells.length:Int) 3)).length=size3 0 (cells.length:Int) 3:=by unfold bj;rw [List.length_map,List.length_range]
 rw [rl] at hcl
 have sl: ∀v3 v4 v5 v6 v7 v8 v9 v10 v11:Option Dv,g0 5 (be aNil) [some (.lst (cells.map .int)),some (.int wd),some (.int way),v3,v4,v5,v6,v7,v8,v9,v10,v11]=some (.nx [some (.lst (cells.map .int)),some (.int wd),some (.int way),v3,v4,some (.lst []),v6,v7,v8,v9,v10,v11]):=fun _ _ _ _ _ _ _ _ _=>rfl
 refine ⟨chs,by lia,ok,?_⟩
 simp_arith only [hX,qj,show List.replicate (12-3) (none:Option Dv)=[none,none,none,none,none,none,none,none,none] from rfl,hr,hc,sl,hr3,e]
end K25
set_option maxHeartbeats 1000000
namespace K25
open PySem L2
theorem lE {i j:Nat}{mm:Dt->Option (Dv×Dv)}{δ:Dt}{a b:Dv} (h:mm δ=some (a,b)):cV i j mm δ=some (.nx ((δ.set i (some a)).set j (some b))):=by
 unfold cV
 rw [h]
 rfl
theorem AU {i:Nat}{m:List Dv->Option (Dv×Dv)}{ml:Dt->Option (List Dv)}{δ:Dt}{d:Dv}{ds:List Dv} (h1:eVar i δ=some d) (h2:ml δ=some ds):g8 i m ml δ=m (d::ds):=by
 unfold g8
 rw [h1,h2]
 rfl
theorem ig {i:Nat}{C:Addr}{M:List Dv->Option (Dv×Dv)}{ma:EM}{δ:Dt}{W:Hl}{a:Dv} (h1:eVar i δ=some (kp C W)) (h2:ma δ=some a):cf i C "change" M ma δ=M [kp C W,a]:=by
 unfold cf
 rw [h1,h2]
 show (if C=C/\getF "change" [("weights",.dic (dct W))]=none then _ else none)=_
 rw [if_pos ⟨rfl,by rw [getF,if_neg (by decide+kernel)];rfl⟩]
 rfl
theorem qE {mx:Dt->Option (Dt×Bool)}{ma mb:SM}{δ δ':Dt} (h:mx δ=some (δ',false)):sIfX mx ma mb δ=mb δ':=by
 unfold sIfX
 rw [h]
 rfl
theorem lF {i:Nat}{mm:Dt->Option (Dv×Dv)}{m2:EM}{δ:Dt}{d':Dv}{D:Hl} (h1:mm δ=some (d',encH D)) (h2:m2 (δ.set i (some d'))=some (encH D)) (al:ci [encH D,encH D]=some (.bl true)):xNot (xOf (fj ci (xIO i mm) m2)) δ=some (δ.set i (some d'),false):=by
 unfold xNot xOf fj xIO
 rw [h1]
 show (((m2 (δ.set i (some d'))).bind _).bind _).map _=_
 rw [h2]
 show (((ci [encH D,encH D]).map _).bind _).map _=_
 rw [al]
 rfl
theorem x_or {ma mb:Dt->Option (Dt×Bool)}{δ δ1:Dt}{r:Dt×Bool} (h1:ma δ=some (δ1,false)) (h2:mb δ1=some r):xOr ma mb δ=some r:=by
 unfold xOr
 rw [h1]
 exact h2
theorem AV {N:Hl} (nd:(N.map (·.1)).Nodup) (r:List Int):tot (nzOf N) r=wOf N r:=by
 by_cases h:wOf N r=0
 ·rw [h]
  refine bh fun z=> ?_
  obtain ⟨p,hp,rfl⟩:=List.mem_map.mp z
  have:=(i5 nd p).mp hp
  exact this.2 (this.1.trans h)
 ·exact bX (i7 nd).nd ((i5 nd (r,wOf N r)).mpr ⟨rfl,h⟩)
theorem qF {h:Hl} (i:IsH h):IsH (negH h):=by
 refine ⟨?_,fun p hp=> ?_⟩
 ·unfold negH Rise
  rw [List.pairwise_map]
  exact i.rise
 ·unfold negH at hp
  obtain ⟨q,hq,rfl⟩:=List.mem_map.mp hp
  have:=i.nz q hq
  show q.2* -1≠0
  lia
theorem qG (C:Addr) (h:Hl):bu (gT 2 (gC (gN 0) (gC (gN 1) gZ))) tyes (eE C) [none,none] (h.map ent)=some ((negH h).map ent):=by
 have:=kL (g:=gT 2 (gC (gN 0) (gC (gN 1) gZ))) (c:=tyes) (el:=eE C) (δ:=[none,none]) ent (fun p:List Int×Int=>ent (p.1,-p.2)) h (fun p hp=>by
  simp_arith only [eE,ent])
 rw [this]
 unfold negH
 rw [List.map_map]
 congr 1
 refine List.map_congr_left fun p _=> ?_
 show ent (p.1,-p.2)=ent (p.1,p.2* -1)
 rw [Int.mul_neg,Int.mul_one]
theorem qH {i:Nat}{c:Dt->Option Bool}{el:EM}{δ:Dt}{α:Type} (enc F:α->Dv) (t:α->Bool): ∀xs:List α,(∀x∈xs,c (δ.set i (some (enc x)))=some (t x)/\el (δ.set i (some (enc x)))=some (F x))->cq (gN i) c el δ (xs.map enc)=some ((xs.filter t).map F)
 |[],_=>rfl
 |x::xs,h=>by
  obtain ⟨h1,h2⟩:=h x (.head _)
  have ih:=qH enc F t xs fun y hy=>h y (.tail _ hy)
  show (c (δ.set i (some (enc x)))).bind (fun b=>if b=true then (el (δ.set i (some (enc x)))).bind fun y=>(cq (gN i) c el δ (xs.map enc)).map (y:: ·) else cq (gN i) c el δ (xs.map enc))=_
  rw [h1,h2,ih]
  cases ht:t x with
  |true=>
   rw [List.filter_cons_of_pos ht]
   rfl
  |false=>
   rw [List.filter_cons_of_neg (by rw [ht];exact Bool.false_ne_true)]
   rfl
noncomputable def posN (N:Hl):Hl:=on1 ((srt (N.map (·.1))).filter fun r=>decide (0<wOf N r))
theorem AW {N:Hl} (nd:(N.map (·.1)).Nodup):IsH (posN N)/\ ∀r,tot (posN N) r=ind (wOf N r):=by
 have hs:(srt (N.map (·.1))).Nodup:=(cp _).symm.nodup nd
 have rs:=o6 nd
 unfold Rise hOf at rs
 rw [List.pairwise_map] at rs
 refine ⟨⟨?_,fun p hp=> ?_⟩,fun r=> ?_⟩
 ·unfold posN on1 Rise
  rw [List.pairwise_map]
  exact List.Pairwise.filter _ rs
 ·unfold posN on1 at hp
  obtain ⟨q,_,rfl⟩:=List.mem_map.mp hp
  show (1:Int)≠0
  decide
 ·unfold posN
  rw [qp (List.filter_sublist.nodup hs)]
  unfold ind
  by_cases c:0<wOf N r
  ·rw [if_pos c]
   have hm:r∈N.map (·.1):=Classical.byContradiction fun z=>by
    unfold wOf at c
    rw [cU z] at c
    exact absurd c (by decide)
   rw [if_pos (List.mem_filter.mpr ⟨(cp _).mem_iff.mpr hm,decide_eq_true c⟩)]
  ·have nm:r∉(srt (N.map (·.1))).filter fun r=>decide (0<wOf N r):=fun z=>c (of_decide_eq_true (List.mem_filter.mp z).2)
   rw [if_neg c,if_neg nm]
theorem AX (C:Addr) (N:Hl) (ne: ∀p∈N,p.1≠[]) (hl:N.length<=1000) (v0 v1 v2 v3 v4 v5 v6 v8 v9 v10 v11 v12 v13 v14:Option Dv):
  fe [none,some 7] (iL (ah cI (ad (eVar 7) aNil))) (gN 0) (fP C) (fQ C) [v0,v1,v2,v3,v4,v5,v6,some (.dic (dct N)),v8,v9,v10,v11,v12,v13,v14]=some (encH (posN N)):=by
 have mem: ∀r∈srt (N.map (·.1)),r∈N.map (·.1):=fun r h=>(cp _).mem_iff.mp h
 have sd:=kK ne
 have sl:(srt (N.map (·.1))).length<=100000:=by rw [iZ,List.length_map];lia
 have hi:iL (ah cI (ad (eVar 7) aNil)) [v0,v1,v2,v3,v4,v5,v6,some (.dic (dct N)),v8,v9,v10,v11,v12,v13,v14]=some ((srt (N.map (·.1))).map aJ):=by simp_arith only [sd,sl]
 have hc:=qH (i:=0) (c:=fP C) (el:=fQ C) (δ:=[none,some (.dic (dct N))]) aJ (fun r=>ent (r,1)) (fun r=>decide (0<wOf N r)) (srt (N.map (·.1))) (fun r hr=>by
  have dg:=dC (mem r hr)
  exact ⟨by simp_arith only [fP,dg],by simp_arith only [fQ,gR];rfl⟩)
 unfold fe
 rw [hi]
 show ((cq (gN 0) (fP C) (fQ C) [none,some (.dic (dct N))] ((srt (N.map (·.1))).map aJ)).map _)=_
 rw [hc]
 unfold posN on1 encH
 rw [List.map_map]
 rfl
end K25
set_option maxHeartbeats 1000000
namespace K25
open PySem L2
noncomputable def Sm (chs:List Hl) (i:Nat) (r:List Int):Int:=tot (chs.take i).flatten r
theorem jC {chs:List Hl}{i:Nat}{h:Hl} (hh:chs[i]?=some h) (r:List Int):Sm chs (i+1) r=Sm chs i r+tot h r:=by
 unfold Sm
 rw [List.take_add_one,hh,List.flatten_append,fb]
 simp
noncomputable abbrev hd (p:Hl×Hl):Dv:= .tup [encH p.1,encH p.1,encH p.2]
structure Good (chs:List Hl) (j:Nat) (d:Hl):Prop where
 h:IsH d
 len:d.length<=1000
 w: ∀q∈d,q.1.length<=100
 t: ∀r,tot d r=ind (Sm chs (j+1) r)-ind (Sm chs j r)
structure ChOk (wd:Int) (chs:List Hl):Prop where
 len:chs.length<=63
 ok: ∀h∈chs,IsH h/\h.length<=3/\ ∀p∈h,(p.1.length:Int)=wd
section
variable (C:Addr) (wd:Int) (chs:List Hl) (ok:ChOk wd chs) (w0:1<=wd) (w8:wd<=8)
include ok w0 w8
theorem AY (i:Nat) (h:Hl) (hh:chs[i]?=some h) (W N:Hl) (kW:Kept W (Sm chs i)) (kN:Kept N (Sm chs i)) (lW:W.length<=6*i) (lN:N.length<=3*i) (ps:List (Hl×Hl)) (lps:ps.length=i) (v0 v1 v2 v6 v10 v11 v12 v13 v14:Option Dv):
  ∃(W' N' F D:Hl) (u10 u11:Option Dv),h8 C [v0,v1,v2,some (.int wd),some (.lst (chs.map encH)),some (kp C W),v6,some (.dic (dct N)),some (.lst (ps.map hd)),some (encH h),v10,v11,v12,v13,v14]=some (.nx [v0,v1,v2,some (.int wd),some (.lst (chs.map encH)),some (kp C W'),v6,some (.dic (dct N')),some (.lst ((ps++[(F,D)]).map hd)),some (encH h),u10,u11,none,v13,v14])/\Kept W' (Sm chs (i+1))/\Kept N' (Sm chs (i+1))/\W'.length<=6*(i+1)/\N'.length<=3*(i+1)/\Good chs i D:=by
 have il:=(List.getElem?_eq_some_iff.mp hh).1
 have cl:=ok.len
 obtain ⟨hH,h3,hw⟩:=ok.ok h (List.mem_of_getElem? hh)
 have hne: ∀p∈h,p.1≠[]:=fun p hp z=>by have:=hw p hp;rw [z] at this;simp at this;lia
 obtain ⟨N',due,ed,dok⟩:=AN N h (Sm chs i) kN hH.rise hne (by lia) (by lia)
 obtain ⟨W',D,ec,kW',lW',hD,tD,lD⟩:=jA C W h (Sm chs i) kW hH.rise.nd hne (by lia) (by lia)
 have eD:D=due:=IsH.ext hD dok.h fun r=>by rw [tD,dok.t]
 subst eD
 have dw: ∀q∈D,q.1.length<=100:=fun q hq=>by
  obtain ⟨p,hp,e⟩:=List.mem_map.mp (dok.dk q hq)
  have:=hw p hp
  rw [e] at this
  lia
 have al:=jB D lD dw
 have dl:=dok.dl
 have e1:cV 7 10 (g8 7 M_w_due (ad (eVar 9) aNil)) [v0,v1,v2,some (.int wd),some (.lst (chs.map encH)),some (kp C W),v6,some (.dic (dct N)),some (.lst (ps.map hd)),some (encH h),v10,v11,v12,v13,v14]=some (.nx [v0,v1,v2,some (.int wd),some (.lst (chs.map encH)),some (kp C W),v6,some (.dic (dct N')),some (.lst (ps.map hd)),some (encH h),some (encH D),v11,v12,v13,v14]):=lE (by rw [AU (d:= .dic (dct N)) (ds:=[encH h]) rfl rfl];exact ed)
 have e2:cV 5 12 (cf 5 C "change" (M_OnceKeeper_change C) (eVar 11)) [v0,v1,v2,some (.int wd),some (.lst (chs.map encH)),some (kp C W),v6,some (.dic (dct N')),some (.lst (ps.map hd)),some (encH h),some (encH D),some (encH h),v12,v13,v14]=some (.nx [v0,v1,v2,some (.int wd),some (.lst (chs.map encH)),some (kp C W'),v6,some (.dic (dct N')),some (.lst (ps.map hd)),some (encH h),some (encH D),some (encH h),some (encH D),v13,v14]):=lE (by rw [ig (W:=W) (a:=encH h) rfl rfl];exact ec)
 have dn:=oR h
 have er:=y3 (z:=0) (wd:=wd) (by lia) (by lia)
 generalize List.replicate wd.toNat (0:Int)=zs at er
 have hl4:h.length<100000:=by lia
 have hl5:D.length<100000:=by lia
 have lps':((ps.map hd).length:Int)=(i:Int):=by rw [List.length_map,lps]
 obtain ⟨F,ei⟩: ∃F:Hl,sIf (tOf (eOp dEq (eOp dMod (ah fLen (ad (eVar 8) aNil)) (eC (.int 2))) (eC (.int 0)))) (gO 12) (sApp 12 (eTup (ad (eOp e7 (eTup (ad (eC (.int 0)) aNil)) (eVar 3)) (ad (eC (.int 1)) aNil)))) [v0,v1,v2,some (.int wd),some (.lst (chs.map encH)),some (kp C W'),v6,some (.dic (dct N')),some (.lst (ps.map hd)),some (encH h),some (encH D),some (.lst (h.map ent++[.tup [.tup (zs.map .int),.int 5]])),some (encH D),v13,v14]=some (.nx [v0,v1,v2,some (.int wd),some (.lst (chs.map encH)),some (kp C W'),v6,some (.dic (dct N')),some (.lst (ps.map hd)),some (encH h),some (encH D),some (.lst (h.map ent++[.tup [.tup (zs.map .int),.int 5]])),some (encH F),v13,v14]):=by
  by_cases c:(ps.length:Int)%2=0
  ·exact ⟨[],by simp_arith only [decide_eq_true c];rfl⟩
  ·refine ⟨D++[(zs,1)],?_⟩
   rw [show encH (D++[(zs,1)])= .lst (D.map ent++[.tup [.tup (zs.map .int),.int 1]]) from congrArg Dv.lst (List.map_append ..)]
   simp_arith only [decide_eq_false c,er,hl5,dA]
 have ap:=qD (i:=8) (m:=eTup (ad (eVar 12) (ad (ah cN (ad (eVar 12) aNil)) (ad (eVar 10) aNil)))) (δ:=[v0,v1,v2,some (.int wd),some (.lst (chs.map encH)),some (kp C W'),v6,some (.dic (dct N')),some (.lst (ps.map hd)),some (encH h),some (encH D),some (.lst (h.map ent++[.tup [.tup (zs.map .int),.int 5]])),some (encH F),v13,v14]) (d:=hd (F,D)) (ds:=ps.map hd) (by simp_arith only [iX]) rfl (by rw [List.length_map];lia)
 have lt:=qB (i:=12) ap (show 15<1000 by decide) (show 15<1000 by decide)
 refine ⟨W',N',F,D,some (encH D),some (.lst (h.map ent++[.tup [.tup (zs.map .int),.int 5]])),?_,⟨kW'.nd,kW'.ne,fun r=>by rw [kW'.w,jC hh]⟩,⟨dok.nd,dok.ne,fun r=>by rw [dok.w,jC hh]⟩,by lia,by have:=dok.len;lia,hD,lD,dw,fun r=>by rw [tD,jC hh]⟩
 rw [List.map_append]
 simp_arith only [h8,e1,iX,e2,dn,al,er,hl4,dA,ei,lt]
theorem AZ (v0 v1 v2 v6:Option Dv):
  ∃(W N:Hl) (ps:List (Hl×Hl)) (u9 u10 u11:Option Dv),loopM (gN 9) (h8 C) (chs.map encH) [v0,v1,v2,some (.int wd),some (.lst (chs.map encH)),some (kp C []),v6,some (.dic []),some (.lst []),none,none,none,none,none,none]=some (.nx [v0,v1,v2,some (.int wd),some (.lst (chs.map encH)),some (kp C W),v6,some (.dic (dct N)),some (.lst (ps.map hd)),u9,u10,u11,none,none,none])/\Kept W (Sm chs chs.length)/\Kept N (Sm chs chs.length)/\W.length<=6*chs.length/\N.length<=3*chs.length/\ps.length=chs.length/\ ∀j p,ps[j]?=some p->Good chs j p.2:=by
 have k0:Kept [] (Sm chs 0):=⟨List.nodup_nil,(fun _ z=>nomatch z),fun r=>rfl⟩
 obtain ⟨δ',e,W,N,ps,u9,u10,u11,rfl,kW,kN,lW,lN,lp,gd⟩:=bV (g:=gN 9) (body:=h8 C) (ds:=chs.map encH) (δ:=[v0,v1,v2,some (.int wd),some (.lst (chs.map encH)),some (kp C []),v6,some (.dic []),some (.lst []),none,none,none,none,none,none])
  (fun i δ=> ∃(W N:Hl) (ps:List (Hl×Hl)) (u9 u10 u11:Option Dv),δ=[v0,v1,v2,some (.int wd),some (.lst (chs.map encH)),some (kp C W),v6,some (.dic (dct N)),some (.lst (ps.map hd)),u9,u10,u11,none,none,none]/\Kept W (Sm chs i)/\Kept N (Sm chs i)/\W.length<=6*i/\N.length<=3*i/\ps.length=i/\ ∀(j:Nat) (p:Hl×Hl),ps[j]?=some p->Good chs j p.2) ⟨[],[],[],_,_,_,rfl,k0,k0,Nat.zero_le _,Nat.zero_le _,rfl,fun j p z=>by simp at z⟩ (by
  rintro i d δ hd' ⟨W,N,ps,u9,u10,u11,rfl,kW,kN,lW,lN,lp,gd⟩
  rw [List.getElem?_map] at hd'
  obtain ⟨h,hh,rfl⟩:=Option.map_eq_some_iff.mp hd'
  obtain ⟨W',N',F,D,w10,w11,eb,kW',kN',lW',lN',g'⟩:=AY C wd chs ok w0 w8 i h hh W N kW kN lW lN ps lp v0 v1 v2 v6 u10 u11 none none none
  refine ⟨_,_,rfl,eb,⟨W',N',ps++[(F,D)],some (encH h),w10,w11,rfl,kW',kN',lW',lN',by rw [List.length_append,lp];rfl,fun j p hp=> ?_⟩⟩
  rcases Nat.lt_or_ge j i with z|z
  ·rw [List.getElem?_append_left (by lia)] at hp
   exact gd j p hp
  ·rw [List.getElem?_append_right (by lia)] at hp
   have z0:j-ps.length=0:=by
    have:=(List.getElem?_eq_some_iff.mp hp).1
    simp at this
    lia
   rw [z0] at hp
   cases hp
   have:j=i:=by lia
   rw [this]
   exact g')
 rw [List.length_map] at kW kN lW lN lp
 exact ⟨W,N,ps,u9,u10,u11,e,kW,kN,lW,lN,lp,gd⟩
theorem A0 (W:Hl) (kW:Kept W (Sm chs chs.length)) (lW:W.length<=6*chs.length) (ps:List (Hl×Hl)) (lp:ps.length=chs.length) (gd: ∀(j:Nat) (p:Hl×Hl),ps[j]?=some p->Good chs j p.2) (v0 v1 v2 v3 v6 v7 v9 v10 v11:Option Dv):
  ∃(W':Hl) (u12 u13:Option Dv),loopM (gN 13) (fR C) (bj ((chs.length:Int)-1) (-1) chs.length) [v0,v1,v2,v3,some (.lst (chs.map encH)),some (kp C W),v6,v7,some (.lst (ps.map hd)),v9,v10,v11,none,none,none]=some (.nx [v0,v1,v2,v3,some (.lst (chs.map encH)),some (kp C W'),v6,v7,some (.lst (ps.map hd)),v9,v10,v11,u12,u13,none])/\Kept W' (Sm chs 0)/\W'.length<=1000:=by
 have cl:=ok.len
 obtain ⟨δ',e,W',u12,u13,rfl,kW',lW'⟩:=bV (g:=gN 13) (body:=fR C) (ds:=bj ((chs.length:Int)-1) (-1) chs.length) (δ:=[v0,v1,v2,v3,some (.lst (chs.map encH)),some (kp C W),v6,v7,some (.lst (ps.map hd)),v9,v10,v11,none,none,none])
  (fun i δ=> ∃(W':Hl) (u12 u13:Option Dv),δ=[v0,v1,v2,v3,some (.lst (chs.map encH)),some (kp C W'),v6,v7,some (.lst (ps.map hd)),v9,v10,v11,u12,u13,none]/\Kept W' (Sm chs (chs.length-i))/\W'.length<=6*chs.length+6*i) ⟨W,_,_,rfl,by rw [Nat.sub_zero];exact kW,by lia⟩ (by
  rintro i d δ hd' ⟨W',u12,u13,rfl,kW',lW'⟩
  have hi:i<chs.length:=by
   have:=(List.getElem?_eq_some_iff.mp hd').1
   unfold bj at this
   rwa [List.length_map,List.length_range] at this
  unfold bj at hd'
  rw [List.getElem?_map,List.getElem?_range hi] at hd'
  cases hd'
  have ek:(chs.length:Int)-1+(i:Int)*(-1)=((chs.length-1-i:Nat):Int):=by lia
  obtain ⟨h,hh⟩: ∃h,chs[chs.length-1-i]?=some h:=⟨_,List.getElem?_eq_getElem (by lia)⟩
  obtain ⟨p,hp⟩: ∃p,ps[chs.length-1-i]?=some p:=⟨_,List.getElem?_eq_getElem (by lia)⟩
  obtain ⟨hH,h3,hw⟩:=ok.ok h (List.mem_of_getElem? hh)
  have g:=gd _ p hp
  have e1:chs.length-i=chs.length-1-i+1:=by lia
  have e2:chs.length-(i+1)=chs.length-1-i:=by lia
  rw [e1] at kW'
  have nw: ∀q∈negH h,(q.1.length:Int)=wd:=kR (P:=fun r=>(r.length:Int)=wd) hw
  have hne: ∀p∈negH h,p.1≠[]:=fun p hp z=>by have:=nw p hp;rw [z] at this;simp at this;lia
  have nl:=gY h
  obtain ⟨W2,D,ec,kW2,lW2,hD,tD,lD⟩:=jA C W' (negH h) _ kW' (qF hH).rise.nd hne (by lia) (by lia)
  have tS: ∀r,Sm chs (chs.length-1-i+1) r+tot (negH h) r=Sm chs (chs.length-1-i) r:=fun r=>by rw [jC hh,kQ];lia
  have eD:D=negH p.2:=IsH.ext hD (qF g.h) fun r=>by rw [tD,tS,kQ,g.t];lia
  subst eD
  have al:=jB (negH p.2) (by rw [gY];exact g.len) (kR (P:=fun r=>r.length<=100) g.w)
  have a0:atI (chs.map encH) ((chs.length-1-i:Nat):Int)=some (encH h):=by
   refine gG (by lia) ?_
   rw [Int.toNat_natCast,List.getElem?_map,hh]
   rfl
  have a1:atI (ps.map hd) ((chs.length-1-i:Nat):Int)=some (.tup [encH p.1,encH p.1,encH p.2]):=by
   refine gG (by lia) ?_
   rw [Int.toNat_natCast,List.getElem?_map,hp]
   rfl
  have a2:atI [encH p.1,encH p.1,encH p.2] 2=some (encH p.2):=rfl
  have hl1:h.length<=100000:=by lia
  have hl2:p.2.length<=100000:=by have:=g.len;lia
  have n1:=qG C h
  have n2:=qG C p.2
  have em:ba [none,none] (iL (eOp dIx (eVar 4) (eVar 13))) (gT 2 (gC (gN 0) (gC (gN 1) gZ))) tyes (eE C) [v0,v1,v2,v3,some (.lst (chs.map encH)),some (kp C W'),v6,v7,some (.lst (ps.map hd)),v9,v10,v11,u12,some (.int ((chs.length-1-i:Nat):Int)),none]=some (encH (negH h)):=by simp_arith only [a0,hl1,n1]
  have e3:cV 5 12 (cf 5 C "change" (M_OnceKeeper_change C) (ba [none,none] (iL (eOp dIx (eVar 4) (eVar 13))) (gT 2 (gC (gN 0) (gC (gN 1) gZ))) tyes (eE C))) [v0,v1,v2,v3,some (.lst (chs.map encH)),some (kp C W'),v6,v7,some (.lst (ps.map hd)),v9,v10,v11,u12,some (.int ((chs.length-1-i:Nat):Int)),none]=some (.nx [v0,v1,v2,v3,some (.lst (chs.map encH)),some (kp C W2),v6,v7,some (.lst (ps.map hd)),v9,v10,v11,some (encH (negH p.2)),some (.int ((chs.length-1-i:Nat):Int)),none]):=lE (by rw [ig (W:=W') (a:=encH (negH h)) rfl em];exact ec)
  have eb:fR C [v0,v1,v2,v3,some (.lst (chs.map encH)),some (kp C W'),v6,v7,some (.lst (ps.map hd)),v9,v10,v11,u12,some (.int ((chs.length-1-i:Nat):Int)),none]=some (.nx [v0,v1,v2,v3,some (.lst (chs.map encH)),some (kp C W2),v6,v7,some (.lst (ps.map hd)),v9,v10,v11,some (encH (negH p.2)),some (.int ((chs.length-1-i:Nat):Int)),none]):=by
   simp_arith only [fR,↓e3,a1,a2,hl2,n2,al]
  refine ⟨_,_,rfl,?_,⟨W2,some (encH (negH p.2)),some (.int ((chs.length-1-i:Nat):Int)),rfl,by rw [e2];exact ⟨kW2.nd,kW2.ne,fun r=>by rw [kW2.w,tS]⟩,by lia⟩⟩
  show fR C [v0,v1,v2,v3,some (.lst (chs.map encH)),some (kp C W'),v6,v7,some (.lst (ps.map hd)),v9,v10,v11,u12,some (.int ((chs.length:Int)-1+(i:Int)*(-1))),none]=_
  rw [ek]
  exact eb)
 have rl:(bj ((chs.length:Int)-1) (-1) chs.length).length=chs.length:=by unfold bj;rw [List.length_map,List.length_range]
 rw [rl,Nat.sub_self] at kW'
 rw [rl] at lW'
 exact ⟨W',u12,u13,e,kW',by lia⟩
end
end K25
set_option maxHeartbeats 1000000
namespace K25
open PySem L2
theorem qI (C:Addr) (δ:Dt):eNew C (dX C) δ=some (kp C []):=by
 have e:jt C [some (.ins C [])]=some (.nx [some (kp C [])]):=by
  unfold jt lb
  show (if C=C/\([]:List (Str×Dv)).length<100 then _ else _)=_
  rw [if_pos ⟨rfl,by decide⟩]
  rfl
 unfold eNew dX ioM
 show Option.bind (if [Dv.ins C []].length=1 then (jt C [some (.ins C [])]).bind _ else none) _=_
 rw [if_pos (show [Dv.ins C []].length=1 from rfl),e]
 rfl
theorem qJ {i:Nat}{m:EM}{δ:Dt}{C:Addr}{W:Hl} (h:m δ=some (kp C W)):eu i m δ=some (.nx (δ.set i (some (kp C W)))):=by
 unfold eu
 rw [h]
 rfl
theorem A1 (C:Addr) (ps:List (Hl×Hl)) (hl:ps.length<=1000) (v0 v1 v2 v3 v4 v5 v6 v7 v9 v10 v11 v12 v13 v14:Option Dv):
  ∃δ1,sLet 12 (sLet 8 (sSeq (sFor (iL (eVar 8)) (gT 3 (gC (gN 12) (gC (gN 14) (gC (gN 10) gZ)))) (fS C)) (sRet (eC (.bl true))))) [v0,v1,v2,v3,v4,v5,v6,v7,some (.lst (ps.map hd)),v9,v10,v11,v12,v13,v14]=some (.rt (.bl true) δ1):=by
 obtain ⟨δ',e,u10,u12,u14,rfl⟩:=bV (g:=gT 3 (gC (gN 12) (gC (gN 14) (gC (gN 10) gZ)))) (body:=fS C) (ds:=ps.map hd) (δ:=[v0,v1,v2,v3,v4,v5,v6,v7,some (.lst (ps.map hd)),v9,v10,v11,v12,v13,v14])
  (fun i δ=> ∃u10 u12 u14:Option Dv,δ=[v0,v1,v2,v3,v4,v5,v6,v7,some (.lst (ps.map hd)),v9,u10,v11,u12,v13,u14]) ⟨_,_,_,rfl⟩ (by
  rintro i d δ hd' ⟨u10,u12,u14,rfl⟩
  obtain ⟨p,_,rfl⟩:=List.mem_map.mp (List.mem_of_getElem? hd')
  have dn:=oR p.1
  refine ⟨_,_,rfl,?_,⟨some (encH p.2),some (encH p.1),some (encH p.1),rfl⟩⟩
  show fS C [v0,v1,v2,v3,v4,v5,v6,v7,some (.lst (ps.map hd)),v9,some (encH p.2),v11,some (encH p.1),v13,some (encH p.1)]=_
  simp_arith only [fS,dn])
 have hl':ps.length<=100000:=by lia
 have e1:(sSeq (sFor (iL (eVar 8)) (gT 3 (gC (gN 12) (gC (gN 14) (gC (gN 10) gZ)))) (fS C)) (sRet (eC (.bl true)))) [v0,v1,v2,v3,v4,v5,v6,v7,some (.lst (ps.map hd)),v9,v10,v11,v12,v13,v14]=some (.rt (.bl true) [v0,v1,v2,v3,v4,v5,v6,v7,some (.lst (ps.map hd)),v9,u10,v11,u12,v13,u14]):=by
  simp_arith only [hl',e]
 exact ⟨_,qC (i:=12) (qC (i:=8) e1 (show 15<1000 by decide) (show 15<1000 by decide)) (show 15<1000 by decide) (show 15<1000 by decide)⟩
theorem qK (C:Addr) (W:Hl) (S:List Int->Int) (k:Kept W S) (hw:W.length<=1000): ∃W',M_OnceKeeper_change C [kp C W,.lst []]=some (kp C W',.lst []):=by
 obtain ⟨W',D,ec,_,_,hD,tD,_⟩:=jA C W [] S k List.nodup_nil (fun _ z=>nomatch z) (Nat.zero_le _) hw
 have:D=[]:=IsH.ext hD ⟨List.Pairwise.nil,fun _ z=>nomatch z⟩ fun r=>by
  rw [tD]
  show ind (S r+0)-ind (S r)=0
  rw [Int.add_zero]
  lia
 subst this
 exact ⟨W',ec⟩
theorem A2 (C:Addr) (ns:List Int) (hl:ns.length<=63):jy C [.scr ns]=some (.bl true):=by
 have hc:cutD (ns.map Dv.int) none (some 63)=(ns.take 63).map .int:=by
  rw [xk]
  exact congrArg _ (xj ns 63)
 have hcl:(ns.take 63).length<=63:=by rw [List.length_take];lia
 generalize ns.take 63=cs at hc hcl
 obtain ⟨x,ex,x0,x1⟩:=jz cs.sum 1 (by decide) (by decide)
 obtain ⟨a0,a1⟩:=cJ x 8 (by decide)
 obtain ⟨b0,b1⟩:=cJ (x/8) 3 (by decide)
 obtain ⟨chs,hn,okc,ech⟩:=AT cs (1+x%8) (x/8%3) hcl (by lia) (by lia) b0 b1
 have ok:ChOk (1+x%8) chs:=⟨hn,okc⟩
 obtain ⟨W,N,ps,u9,u10,u11,e1,kW,kN,lW,lN,lp,gd⟩:=AZ C (1+x%8) chs ok (by lia) (by lia) (some (.scr ns)) (some (.lst (cs.map .int))) (some (.int x)) (some (kp C []))
 have hb:=qA N kN.ne (by lia)
 have nzl:(nzOf N).length<=N.length:=by
  unfold nzOf
  refine Nat.le_trans (List.length_filter_le ..) ?_
  rw [kM]
  exact Nat.le_refl _
 have nzn: ∀p∈nzOf N,p.1≠[]:=fun p hp=>kN.ne p (oX (List.mem_filter.mp hp).1)
 obtain ⟨W6,D6,ec6,kW6,lW6,hD6,tD6,lD6⟩:=jA C [] (nzOf N) (fun _=>0) ⟨List.nodup_nil,(fun _ z=>nomatch z),fun _=>rfl⟩ (i7 kN.nd).nd nzn (by lia) (Nat.zero_le _)
 obtain ⟨hpN,tpN⟩:=AW kN.nd
 have eD6:D6=posN N:=IsH.ext hD6 hpN fun r=>by
  rw [tD6,tpN,AV kN.nd,Int.zero_add]
  show ind (wOf N r)-0=ind (wOf N r)
  lia
 subst eD6
 have pw: ∀q∈posN N,q.1.length<=100:=fun q hq=>by
  unfold posN on1 at hq
  obtain ⟨r,hr,rfl⟩:=List.mem_map.mp hq
  have h1:=of_decide_eq_true (List.mem_filter.mp hr).2
  rw [kN.w] at h1
  have h2:r∈(chs.take chs.length).flatten.map (·.1):=kO (by unfold Sm at h1;lia)
  obtain ⟨p,hp,rfl⟩:=List.mem_map.mp h2
  rw [List.take_length] at hp
  obtain ⟨h,hh,hp⟩:=List.mem_flatten.mp hp
  have:=(okc h hh).2.2 p hp
  show p.1.length<=100
  lia
 have al6:=jB (posN N) lD6 pw
 have mp:=AX C N kN.ne (by lia)
 have x1':=lF (i:=6) (mm:=cf 6 C "change" (M_OnceKeeper_change C) (ah cX (ad (eVar 7) aNil))) (m2:=fe [none,some 7] (iL (ah cI (ad (eVar 7) aNil))) (gN 0) (fP C) (fQ C)) (δ:=[some (.scr ns),some (.lst (cs.map .int)),some (.int x),some (.int (1+x%8)),some (.lst (chs.map encH)),some (kp C W),some (kp C []),some (.dic (dct N)),some (.lst (ps.map hd)),u9,u10,u11,none,none,none]) (d':=kp C W6) (D:=posN N) (by rw [ig (W:=[]) (a:=encH (nzOf N)) rfl (by simp_arith only [hb])];exact ec6) (mp ..) al6
 obtain ⟨W',u12,u13,e2,kW',lW'⟩:=A0 C (1+x%8) chs ok (by lia) (by lia) W kW lW ps lp gd (some (.scr ns)) (some (.lst (cs.map .int))) (some (.int x)) (some (.int (1+x%8))) (some (kp C W6)) (some (.dic (dct N))) u9 u10 u11
 have hr3: ∀v5 v6 v7 v8 v9 v10 v11 v12 v13 v14,iR3 (eOp dSub (ah fLen (ad (eVar 4) aNil)) (eC (.int 1))) (eUn dNeg (eC (.int 1))) (eUn dNeg (eC (.int 1))) [some (.scr ns),some (.lst (cs.map .int)),some (.int x),some (.int (1+x%8)),some (.lst (chs.map encH)),v5,v6,v7,v8,v9,v10,v11,v12,v13,v14]=some (bj ((chs.length:Int)-1) (-1) chs.length):=fun v5 v6 v7 v8 v9 v10 v11 v12 v13 v14=>by
  have e1:eOp dSub (ah fLen (ad (eVar 4) aNil)) (eC (.int 1)) [some (.scr ns),some (.lst (cs.map .int)),some (.int x),some (.int (1+x%8)),some (.lst (chs.map encH)),v5,v6,v7,v8,v9,v10,v11,v12,v13,v14]=some (.int ((chs.length:Int)-1)):=by simp_arith only [eW]
  have sz:size3 ((chs.length:Int)-1) (-1) (-1)=chs.length:=by
   have:=jg ((chs.length:Int)-1) (-1) (-1)
   unfold Builtin.Range.rangeSize at this
   rw [if_neg (by decide)] at this
   split at this
   ·rw [show (- -1:Int)=1 from rfl,Int.ediv_one] at this
    lia
   ·lia
  unfold iR3
  rw [e1]
  show (if sm3 ((chs.length:Int)-1) (-1) (-1)=true/\size3 ((chs.length:Int)-1) (-1) (-1)<=lim then some (bj ((chs.length:Int)-1) (-1) (size3 ((chs.length:Int)-1) (-1) (-1))) else none)=_
  rw [sz,if_pos ⟨decide_eq_true (by lia),by rw [cD];lia⟩]
 obtain ⟨W7,ec7⟩:=qK C W' _ kW' lW'
 obtain ⟨W8,ec8⟩:=qK C W6 _ kW6 (by rw [List.length_nil] at lW6;lia)
 have al0:ci [encH [],encH []]=some (.bl true):=jB [] (by decide) fun _ z=>nomatch z
 have x2a:=lF (i:=5) (mm:=cf 5 C "change" (M_OnceKeeper_change C) (be aNil)) (m2:=be aNil) (δ:=[some (.scr ns),some (.lst (cs.map .int)),some (.int x),some (.int (1+x%8)),some (.lst (chs.map encH)),some (kp C W'),some (kp C W6),some (.dic (dct N)),some (.lst (ps.map hd)),u9,u10,u11,u12,u13,none]) (d':=kp C W7) (D:=[]) (by rw [ig (W:=W') (a:= .lst []) rfl rfl];exact ec7) rfl al0
 have x2b:=lF (i:=6) (mm:=cf 6 C "change" (M_OnceKeeper_change C) (be aNil)) (m2:=be aNil) (δ:=[some (.scr ns),some (.lst (cs.map .int)),some (.int x),some (.int (1+x%8)),some (.lst (chs.map encH)),some (kp C W7),some (kp C W6),some (.dic (dct N)),some (.lst (ps.map hd)),u9,u10,u11,u12,u13,none]) (d':=kp C W8) (D:=[]) (by rw [ig (W:=W6) (a:= .lst []) rfl rfl];exact ec8) rfl al0
 have x2:=x_or x2a x2b
 obtain ⟨δ9,e9⟩:=A1 C ps (by lia) (some (.scr ns)) (some (.lst (cs.map .int))) (some (.int x)) (some (.int (1+x%8))) (some (.lst (chs.map encH))) (some (kp C W7)) (some (kp C W8)) (some (.dic (dct N))) u9 u10 u11 u12 u13 none
 have n5: ∀v0 v1 v2 v3 v4 v5 v6 v7 v8 v9 v10 v11 v12 v13 v14:Option Dv,eu 5 (eNew C (dX C)) [v0,v1,v2,v3,v4,v5,v6,v7,v8,v9,v10,v11,v12,v13,v14]=some (.nx [v0,v1,v2,v3,v4,some (kp C []),v6,v7,v8,v9,v10,v11,v12,v13,v14]):=fun _ _ _ _ _ _ _ _ _ _ _ _ _ _ _=>qJ (qI C _)
 have n6: ∀v0 v1 v2 v3 v4 v5 v6 v7 v8 v9 v10 v11 v12 v13 v14:Option Dv,eu 6 (eNew C (dX C)) [v0,v1,v2,v3,v4,v5,v6,v7,v8,v9,v10,v11,v12,v13,v14]=some (.nx [v0,v1,v2,v3,v4,v5,some (kp C []),v7,v8,v9,v10,v11,v12,v13,v14]):=fun _ _ _ _ _ _ _ _ _ _ _ _ _ _ _=>qJ (qI C _)
 have s8: ∀v0 v1 v2 v3 v4 v5 v6 v7 v8 v9 v10 v11 v12 v13 v14:Option Dv,g0 8 (be aNil) [v0,v1,v2,v3,v4,v5,v6,v7,v8,v9,v10,v11,v12,v13,v14]=some (.nx [v0,v1,v2,v3,v4,v5,v6,v7,some (.lst []),v9,v10,v11,v12,v13,v14]):=fun _ _ _ _ _ _ _ _ _ _ _ _ _ _ _=>rfl
 have hl5:chs.length<=100000:=by lia
 have f1:=qE (ma:=sRet (eC (.bl false))) (mb:=aR) x1'
 have f2:=qE (ma:=sRet (eC (.bl false))) (mb:=aR) x2
 simp_arith-implicitDefEqProofs only [jy,qm,hc,ex,ech,n5,n6,s8,hl5,e1,↓f1,hr3,e2,↓f2,↓e9]
end K25
set_option maxHeartbeats 4000000
namespace K25
open PySem L2
noncomputable def spL (K:PySem.W.Frag):Sp:=fun vs H Q E=> ∀C_OnceKeeper:Addr,spD K .imm (jy C_OnceKeeper) vs H Q E
theorem A3 {l:PySem.W.OpenLaw}{w:World}{K:PySem.W.Frag}{h:Heap}{mg:Str->Option Value}{fa C_OnceKeeper f1 f2 f3 f4 f5 f6 f7 f8 f9 f10 f11 f12 f13 f14 f15 f16 f17 f18:Addr} (X:K.In h) (G:h.Ns mainGlobals mg) (hfa:mg "law"=some (.ref fa))
  {od1 an1 od2 an2 od3 an3 od4 an4 od5 an5 od6 an6 od7 an7 od8 an8 od9 an9 od10 an10 od11 an11 od12 an12 od13 an13 od14 an14 od15 an15 od16 an16 od17 an17 od18 an18:Option Addr}{sl1 sl2 sl3 sl4 sl5 sl6 sl7 sl8 sl9 sl10 sl11 sl12 sl13 sl14 sl15 sl16 sl17 sl18:Array (Option Value)}{oc1 kV1 dc1 pm1 cd1 ct1 oc2 kV2 dc2 pm2 cd2 ct2 oc3 kV3 dc3 pm3 cd3 ct3 oc4 kV4 dc4 pm4 cd4 ct4 oc5 kV5 dc5 pm5 cd5 ct5 oc6 kV6 dc6 pm6 cd6 ct6 oc7 kV7 dc7 pm7 cd7 ct7 oc8 kV8 dc8 pm8 cd8 ct8 oc9 kV9 dc9 pm9 cd9 ct9 oc10 kV10 dc10 pm10 cd10 ct10 oc11 kV11 dc11 pm11 cd11 ct11 oc12 kV12 dc12 pm12 cd12 ct12 oc13 kV13 dc13 pm13 cd13 ct13 oc14 kV14 dc14 pm14 cd14 ct14 oc15 kV15 dc15 pm15 cd15 ct15 oc16 kV16 dc16 pm16 cd16 ct16 oc17 kV17 dc17 pm17 cd17 ct17 oc18 kV18 dc18 pm18 cd18 ct18:Value}
  (aC_OnceKeeper:PySem.W.nsIn K mainGlobals "OnceKeeper"=some (some (.ref C_OnceKeeper))) (pg_OnceKeeper:PySem.W.plainGet K C_OnceKeeper Str.empty=true) (hd_OnceKeeper:PySem.W.hasDictIn K C_OnceKeeper=true) (po_OnceKeeper:PySem.W.plainOver K C_OnceKeeper=true) (sa_OnceKeeper:PySem.W.findIn K (.ref C_OnceKeeper) "__setattr__"=some (some (.builtin "object.__setattr__"))) (mk_OnceKeeper:PySem.W.makesIn K C_OnceKeeper=true) (kc_OnceKeeper:PySem.W.keepIn K (.ref C_OnceKeeper)=true)
  (n_OnceKeeper_weights:PySem.W.findIn K (.ref C_OnceKeeper) "weights"=some none)
  (a1:PySem.W.nsIn K mainGlobals "heap_of"=some (some (.ref f1)))
  (l1:K.lookup f1=some ⟨oc1,od1,.func (PySem.W.fnOf "heap_of" "heap_of" (aT fm) (aL fm) (ar fm) .none kV1 dc1 pm1 an1 cd1 ct1),sl1⟩) (c1:PySem.W.codeIn K cd1 "heap_of"=true) (k1:PySem.W.keepIn K (.ref f1)=true)
  (a2:PySem.W.nsIn K mainGlobals "rows_there"=some (some (.ref f2)))
  (l2:K.lookup f2=some ⟨oc2,od2,.func (PySem.W.fnOf "rows_there" "rows_there" (aT fo) (aL fo) (ar fo) .none kV2 dc2 pm2 an2 cd2 ct2),sl2⟩) (c2:PySem.W.codeIn K cd2 "rows_there"=true) (k2:PySem.W.keepIn K (.ref f2)=true)
  (a3:PySem.W.nsIn K mainGlobals "times"=some (some (.ref f3)))
  (l3:K.lookup f3=some ⟨oc3,od3,.func (PySem.W.fnOf "times" "times" (aT fq) (aL fq) (ar fq) .none kV3 dc3 pm3 an3 cd3 ct3),sl3⟩) (c3:PySem.W.codeIn K cd3 "times"=true) (k3:PySem.W.keepIn K (.ref f3)=true)
  (a4:PySem.W.nsIn K mainGlobals "_law_mixed"=some (some (.ref f4)))
  (l4:K.lookup f4=some ⟨oc4,od4,.func (PySem.W.fnOf "_law_mixed" "_law_mixed" (aT fu) (aL fu) (ar fu) .none kV4 dc4 pm4 an4 cd4 ct4),sl4⟩) (c4:PySem.W.codeIn K cd4 "_law_mixed"=true) (k4:PySem.W.keepIn K (.ref f4)=true)
  (a5:PySem.W.nsIn K mainGlobals "_law_number"=some (some (.ref f5)))
  (l5:K.lookup f5=some ⟨oc5,od5,.func (PySem.W.fnOf "_law_number" "_law_number" (aT fw) (aL fw) (ar fw) .none kV5 dc5 pm5 an5 cd5 ct5),sl5⟩) (c5:PySem.W.codeIn K cd5 "_law_number"=true) (k5:PySem.W.keepIn K (.ref f5)=true)
  (a6:PySem.W.nsIn K mainGlobals "_law_heap_by"=some (some (.ref f6)))
  (l6:K.lookup f6=some ⟨oc6,od6,.func (PySem.W.fnOf "_law_heap_by" "_law_heap_by" (aT fx) (aL fx) (ar fx) .none kV6 dc6 pm6 an6 cd6 ct6),sl6⟩) (c6:PySem.W.codeIn K cd6 "_law_heap_by"=true) (k6:PySem.W.keepIn K (.ref f6)=true)
  (a7:PySem.W.nsIn K mainGlobals "_law_whole"=some (some (.ref f7)))
  (l7:K.lookup f7=some ⟨oc7,od7,.func (PySem.W.fnOf "_law_whole" "_law_whole" (aT fy) (aL fy) (ar fy) .none kV7 dc7 pm7 an7 cd7 ct7),sl7⟩) (c7:PySem.W.codeIn K cd7 "_law_whole"=true) (k7:PySem.W.keepIn K (.ref f7)=true)
  (a8:PySem.W.nsIn K mainGlobals "_law_due"=some (some (.ref f8)))
  (l8:K.lookup f8=some ⟨oc8,od8,.func (PySem.W.fnOf "_law_due" "_law_due" (aT fz) (aL fz) (ar fz) .none kV8 dc8 pm8 an8 cd8 ct8),sl8⟩) (c8:PySem.W.codeIn K cd8 "_law_due"=true) (k8:PySem.W.keepIn K (.ref f8)=true)
  (a9:PySem.W.findIn K (.ref C_OnceKeeper) "__init__"=some (some (.ref f9))) (i9:PySem.W.isFn K (.ref f9)=true)
  (l9:K.lookup f9=some ⟨oc9,od9,.func (PySem.W.fnOf "__init__" "OnceKeeper.__init__" (aT fA) (aL fA) (ar fA) .none kV9 dc9 pm9 an9 cd9 ct9),sl9⟩) (c9:PySem.W.codeIn K cd9 "OnceKeeper.__init__"=true) (k9:PySem.W.keepIn K (.ref f9)=true)
  (a10:PySem.W.nsIn K mainGlobals "plus"=some (some (.ref f10)))
  (l10:K.lookup f10=some ⟨oc10,od10,.func (PySem.W.fnOf "plus" "plus" (aT fB) (aL fB) (ar fB) .none kV10 dc10 pm10 an10 cd10 ct10),sl10⟩) (c10:PySem.W.codeIn K cd10 "plus"=true) (k10:PySem.W.keepIn K (.ref f10)=true)
  (a11:PySem.W.nsIn K mainGlobals "less"=some (some (.ref f11)))
  (l11:K.lookup f11=some ⟨oc11,od11,.func (PySem.W.fnOf "less" "less" (aT fC) (aL fC) (ar fC) .none kV11 dc11 pm11 an11 cd11 ct11),sl11⟩) (c11:PySem.W.codeIn K cd11 "less"=true) (k11:PySem.W.keepIn K (.ref f11)=true)
  (a12:PySem.W.nsIn K mainGlobals "once"=some (some (.ref f12)))
  (l12:K.lookup f12=some ⟨oc12,od12,.func (PySem.W.fnOf "once" "once" (aT fD) (aL fD) (ar fD) .none kV12 dc12 pm12 an12 cd12 ct12),sl12⟩) (c12:PySem.W.codeIn K cd12 "once"=true) (k12:PySem.W.keepIn K (.ref f12)=true)
  (a13:PySem.W.nsIn K mainGlobals "_law_row"=some (some (.ref f13)))
  (l13:K.lookup f13=some ⟨oc13,od13,.func (PySem.W.fnOf "_law_row" "_law_row" (aT fE) (aL fE) (ar fE) .none kV13 dc13 pm13 an13 cd13 ct13),sl13⟩) (c13:PySem.W.codeIn K cd13 "_law_row"=true) (k13:PySem.W.keepIn K (.ref f13)=true)
  (a14:PySem.W.nsIn K mainGlobals "_law_weight"=some (some (.ref f14)))
  (l14:K.lookup f14=some ⟨oc14,od14,.func (PySem.W.fnOf "_law_weight" "_law_weight" (aT fF) (aL fF) (ar fF) .none kV14 dc14 pm14 an14 cd14 ct14),sl14⟩) (c14:PySem.W.codeIn K cd14 "_law_weight"=true) (k14:PySem.W.keepIn K (.ref f14)=true)
  (a15:PySem.W.nsIn K mainGlobals "_law_alike"=some (some (.ref f15)))
  (l15:K.lookup f15=some ⟨oc15,od15,.func (PySem.W.fnOf "_law_alike" "_law_alike" (aT fG) (aL fG) (ar fG) .none kV15 dc15 pm15 an15 cd15 ct15),sl15⟩) (c15:PySem.W.codeIn K cd15 "_law_alike"=true) (k15:PySem.W.keepIn K (.ref f15)=true)
  (a16:PySem.W.nsIn K mainGlobals "_law_changes"=some (some (.ref f16)))
  (l16:K.lookup f16=some ⟨oc16,od16,.func (PySem.W.fnOf "_law_changes" "_law_changes" (aT fH) (aL fH) (ar fH) .none kV16 dc16 pm16 an16 cd16 ct16),sl16⟩) (c16:PySem.W.codeIn K cd16 "_law_changes"=true) (k16:PySem.W.keepIn K (.ref f16)=true)
  (a17:PySem.W.findIn K (.ref C_OnceKeeper) "change"=some (some (.ref f17))) (i17:PySem.W.isFn K (.ref f17)=true)
  (l17:K.lookup f17=some ⟨oc17,od17,.func (PySem.W.fnOf "change" "OnceKeeper.change" (aT fI) (aL fI) (ar fI) .none kV17 dc17 pm17 an17 cd17 ct17),sl17⟩) (c17:PySem.W.codeIn K cd17 "OnceKeeper.change"=true) (k17:PySem.W.keepIn K (.ref f17)=true)
  (a18:PySem.W.nsIn K mainGlobals "law"=some (some (.ref f18)))
  (l18:K.lookup f18=some ⟨oc18,od18,.func (PySem.W.fnOf "law" "law" (aT dE) (aL dE) (ar dE) .none kV18 dc18 pm18 an18 cd18 ct18),sl18⟩) (c18:PySem.W.codeIn K cd18 "law"=true) (k18:PySem.W.keepIn K (.ref f18)=true)
  (z1:PySem.W.nsIn K mainGlobals "bool"=some none)
  (z2:PySem.W.nsIn K mainGlobals "int"=some none)
  (z3:PySem.W.nsIn K mainGlobals "isinstance"=some none)
  (z4:PySem.W.nsIn K mainGlobals "len"=some none)
  (z5:PySem.W.nsIn K mainGlobals "list"=some none)
  (z6:PySem.W.nsIn K mainGlobals "min"=some none)
  (z7:PySem.W.nsIn K mainGlobals "range"=some none)
  (z8:PySem.W.nsIn K mainGlobals "sorted"=some none)
  (z9:PySem.W.nsIn K mainGlobals "sum"=some none)
  (z10:PySem.W.nsIn K mainGlobals "tuple"=some none)
  : ∃fd:FuncData,(∀(s:Shared) (v:Value),BindsTo s fd ⟨[v],[]⟩ [("_law_script",v)])/\ ∀base:Heap,K.In base->base.Ns mainGlobals mg->FnOk l.prog w K mg base CX0 4 fa fd ["_law_script"] (spL K):=by
 have e:=hfa.symm.trans (PySem.W.mg_of X G a18)
 cases e
 have B:Blt mg:=⟨PySem.W.mg_none_of X G z1,PySem.W.mg_none_of X G z2,PySem.W.mg_none_of X G z3,PySem.W.mg_none_of X G z4,PySem.W.mg_none_of X G z5,PySem.W.mg_none_of X G z6,PySem.W.mg_none_of X G z7,PySem.W.mg_none_of X G z8,PySem.W.mg_none_of X G z9,PySem.W.mg_none_of X G z10⟩
 have T_OnceKeeper:jh K C_OnceKeeper:=⟨⟨pg_OnceKeeper,hd_OnceKeeper,po_OnceKeeper,sa_OnceKeeper⟩,n_OnceKeeper_weights⟩
 have F1:=bq (st:=fm) l1 c1 k1
 have b1:=F1.binds (ps:=["pairs"]) fun _ _ _ _ _ _ us hl=>match us,hl with|[_],_=>rfl
 have F2:=bq (st:=fo) l2 c2 k2
 have b2:=F2.binds (ps:=["one"]) fun _ _ _ _ _ _ us hl=>match us,hl with|[_],_=>rfl
 have F3:=bq (st:=fq) l3 c3 k3
 have b3:=F3.binds (ps:=["one","number"]) fun _ _ _ _ _ _ us hl=>match us,hl with|[_,_],_=>rfl
 have F4:=bq (st:=fu) l4 c4 k4
 have b4:=F4.binds (ps:=["_law_cell","_law_k"]) fun _ _ _ _ _ _ us hl=>match us,hl with|[_,_],_=>rfl
 have F5:=bq (st:=fw) l5 c5 k5
 have b5:=F5.binds (ps:=["_law_cell"]) fun _ _ _ _ _ _ us hl=>match us,hl with|[_],_=>rfl
 have F6:=bq (st:=fx) l6 c6 k6
 have b6:=F6.binds (ps:=["_law_weights"]) fun _ _ _ _ _ _ us hl=>match us,hl with|[_],_=>rfl
 have F7:=bq (st:=fy) l7 c7 k7
 have b7:=F7.binds (ps:=["_law_found"]) fun _ _ _ _ _ _ us hl=>match us,hl with|[_],_=>rfl
 have F8:=bq (st:=fz) l8 c8 k8
 have b8:=F8.binds (ps:=["_law_now","_law_change"]) fun _ _ _ _ _ _ us hl=>match us,hl with|[_,_],_=>rfl
 have F9:=bq (st:=fA) l9 c9 k9
 have b9:=F9.binds (ps:=["self"]) fun _ _ _ _ _ _ us hl=>match us,hl with|[_],_=>rfl
 have F10:=bq (st:=fB) l10 c10 k10
 have b10:=F10.binds (ps:=["one","other"]) fun _ _ _ _ _ _ us hl=>match us,hl with|[_,_],_=>rfl
 have F11:=bq (st:=fC) l11 c11 k11
 have b11:=F11.binds (ps:=["one","other"]) fun _ _ _ _ _ _ us hl=>match us,hl with|[_,_],_=>rfl
 have F12:=bq (st:=fD) l12 c12 k12
 have b12:=F12.binds (ps:=["one"]) fun _ _ _ _ _ _ us hl=>match us,hl with|[_],_=>rfl
 have F13:=bq (st:=fE) l13 c13 k13
 have b13:=F13.binds (ps:=["_law_cell","_law_width","_law_way","_law_base"]) fun _ _ _ _ _ _ us hl=>match us,hl with|[_,_,_,_],_=>rfl
 have F14:=bq (st:=fF) l14 c14 k14
 have b14:=F14.binds (ps:=["_law_cell"]) fun _ _ _ _ _ _ us hl=>match us,hl with|[_],_=>rfl
 have F15:=bq (st:=fG) l15 c15 k15
 have b15:=F15.binds (ps:=["_law_found","_law_due_here"]) fun _ _ _ _ _ _ us hl=>match us,hl with|[_,_],_=>rfl
 have F16:=bq (st:=fH) l16 c16 k16
 have b16:=F16.binds (ps:=["_law_cells","_law_width","_law_way"]) fun _ _ _ _ _ _ us hl=>match us,hl with|[_,_,_],_=>rfl
 have F17:=bq (st:=fI) l17 c17 k17
 have b17:=F17.binds (ps:=["self","one"]) fun _ _ _ _ _ _ us hl=>match us,hl with|[_,_],_=>rfl
 have F18:=bq (st:=dE) l18 c18 k18
 refine ⟨PySem.W.fnOf "law" "law" (aT dE) (aL dE) (ar dE) .none kV18 dc18 pm18 an18 cd18 ct18,fun s v=> .of_eq rfl,fun base _ _=> ?_⟩
 have D_heap_of:=bL (P:=l.prog) (w:=w) (base:=base) F1 (PySem.W.mg_of X G a1) (Ac F1 B) b1
 have D_rows_there:=bL (P:=l.prog) (w:=w) (base:=base) F2 (PySem.W.mg_of X G a2) (Ad F2 B) b2
 have D_times:=bL (P:=l.prog) (w:=w) (base:=base) F3 (PySem.W.mg_of X G a3) (Ae F3 B) b3
 have D_w_mixed:=bL (P:=l.prog) (w:=w) (base:=base) F4 (PySem.W.mg_of X G a4) (Af F4 B) b4
 have D_w_number:=bL (P:=l.prog) (w:=w) (base:=base) F5 (PySem.W.mg_of X G a5) (Ag F5 B) b5
 have D_w_heap_by:=bL (P:=l.prog) (w:=w) (base:=base) F6 (PySem.W.mg_of X G a6) (Ah F6 B) b6
 have D_w_whole:=bL (P:=l.prog) (w:=w) (base:=base) F7 (PySem.W.mg_of X G a7) (Ai F7 B) b7
 have D_w_due:=bL (P:=l.prog) (w:=w) (base:=base) F8 (PySem.W.mg_of X G a8) (Aj F8 B) b8
 have D_OnceKeeper:CDef l.prog w K mg base _ C_OnceKeeper "OnceKeeper" _ _:=⟨_,_,Ak F9 B T_OnceKeeper (P:=l.prog) (w:=w) (base:=base),⟨mk_OnceKeeper,a9,i9,kc_OnceKeeper⟩,b9,PySem.W.mg_of X G aC_OnceKeeper⟩
 have D_plus:=bL (P:=l.prog) (w:=w) (base:=base) F10 (PySem.W.mg_of X G a10) (Al F10 B D_heap_of) b10
 have D_less:=bL (P:=l.prog) (w:=w) (base:=base) F11 (PySem.W.mg_of X G a11) (Am F11 B D_heap_of D_times) b11
 have D_once:=bL (P:=l.prog) (w:=w) (base:=base) F12 (PySem.W.mg_of X G a12) (An F12 B D_rows_there) b12
 have D_w_row:=bL (P:=l.prog) (w:=w) (base:=base) F13 (PySem.W.mg_of X G a13) (Ao F13 B D_w_number D_w_mixed) b13
 have D_w_weight:=bL (P:=l.prog) (w:=w) (base:=base) F14 (PySem.W.mg_of X G a14) (Ap F14 B D_w_number) b14
 have D_w_alike:=bL (P:=l.prog) (w:=w) (base:=base) F15 (PySem.W.mg_of X G a15) (Aq F15 B D_w_whole) b15
 have D_w_changes:=bL (P:=l.prog) (w:=w) (base:=base) F16 (PySem.W.mg_of X G a16) (Ar F16 B D_w_number D_w_mixed D_w_row D_w_weight D_w_heap_by) b16
 have D_OnceKeeper_change:MDef l.prog w K mg base _ C_OnceKeeper "change" _ _:=⟨_,_,As F17 B T_OnceKeeper D_plus D_less D_once (P:=l.prog) (w:=w) (base:=base),⟨a17,i17,k17⟩,b17⟩
 exact FnOk.weak (At F18 B T_OnceKeeper D_w_mixed D_w_changes D_OnceKeeper D_w_due D_OnceKeeper_change D_w_alike D_w_heap_by) fun _ _ _ _ z=>z C_OnceKeeper
theorem walk {l:PySem.W.OpenLaw}{q:Program}{loose:List Str}{XP:(Str->Option Value)->Heap->Prop}{YP:World->Heap->Prop}{d:DefRec}{K:Params->PySem.W.Frag} (hn:l.most=some 63) (hdf:d.params.defaults=[])
  (hY: ∀(w:World) (h:Heap),YP w h->(K w.params).In h)
  (F: ∀(w:World) (mg:Str->Option Value) (fa:Addr) (h:Heap),(K w.params).In h->h.Ns mainGlobals mg->mg d.name=some (.ref fa)->
   ∃fd:FuncData,(∀(s:Shared) (u:Value),BindsTo s fd ⟨[u],[]⟩ [("_law_script",u)])/\ ∀base:Heap,(K w.params).In base->base.Ns mainGlobals mg->FnOk l.prog w (K w.params) mg base CX0 4 fa fd ["_law_script"] (spL (K w.params))):
  PySem.W.WalkO q loose XP YP l.row.toRowW d [] (fun f vs=>PySem.call f vs):=
 L2.ue (n:=63) (k:=4) (x:="_law_script") (CX:=fun _=>CX0) (sp:=fun w=>spL (K w.params)) hn (by decide) hdf ⟨rfl,by decide,by decide⟩ hY F (fun _ _ a ns hl hO hS C_OnceKeeper=>vc hO hS (A2 C_OnceKeeper ns hl)) fun _ _ _ _ _ z=>z
end K25
open PySem PySem.W PyProof.Rows
set_option maxRecDepth 100000 in
set_option maxHeartbeats 0 in
theorem PySem.Challenge.cw_deltahouse_k25_once_kept_holds : PySem.Challenge.rw_deltahouse_k25_once_kept.Holds := by
 w_on;o_law;k_head;(case hw=>w_witness2)
 k_fill
 refine K25.walk (l:=PySem.Challenge.rw_deltahouse_k25_once_kept) rfl rfl (fun w h Y=>PySem.W.kIn_of Y) ?F
 case F=>
  intro w mg fa h KX G hmg
  refine' K25.A3 KX G hmg ?aC_OnceKeeper ?pg_OnceKeeper ?hd_OnceKeeper ?po_OnceKeeper ?sa_OnceKeeper ?mk_OnceKeeper ?kc_OnceKeeper ?n_OnceKeeper_weights ?a1 ?l1 ?c1 ?k1 ?a2 ?l2 ?c2 ?k2 ?a3 ?l3 ?c3 ?k3 ?a4 ?l4 ?c4 ?k4 ?a5 ?l5 ?c5 ?k5 ?a6 ?l6 ?c6 ?k6 ?a7 ?l7 ?c7 ?k7 ?a8 ?l8 ?c8 ?k8 ?a9 ?i9 ?l9 ?c9 ?k9 ?a10 ?l10 ?c10 ?k10 ?a11 ?l11 ?c11 ?k11 ?a12 ?l12 ?c12 ?k12 ?a13 ?l13 ?c13 ?k13 ?a14 ?l14 ?c14 ?k14 ?a15 ?l15 ?c15 ?k15 ?a16 ?l16 ?c16 ?k16 ?a17 ?i17 ?l17 ?c17 ?k17 ?a18 ?l18 ?c18 ?k18 ?z1 ?z2 ?z3 ?z4 ?z5 ?z6 ?z7 ?z8 ?z9 ?z10
  (case aC_OnceKeeper=>k_is);(case pg_OnceKeeper=>k_is);(case hd_OnceKeeper=>k_is);(case po_OnceKeeper=>k_is)
  (case sa_OnceKeeper=>k_is);(case mk_OnceKeeper=>k_is);(case kc_OnceKeeper=>k_is);(case n_OnceKeeper_weights=>k_is)
  (case a1=>k_is);(case l1=>k_is);(case c1=>k_is);(case k1=>k_is)
  (case a2=>k_is);(case l2=>k_is);(case c2=>k_is);(case k2=>k_is)
  (case a3=>k_is);(case l3=>k_is);(case c3=>k_is);(case k3=>k_is)
  (case a4=>k_is);(case l4=>k_is);(case c4=>k_is);(case k4=>k_is)
  (case a5=>k_is);(case l5=>k_is);(case c5=>k_is);(case k5=>k_is)
  (case a6=>k_is);(case l6=>k_is);(case c6=>k_is);(case k6=>k_is)
  (case a7=>k_is);(case l7=>k_is);(case c7=>k_is);(case k7=>k_is)
  (case a8=>k_is);(case l8=>k_is);(case c8=>k_is);(case k8=>k_is)
  (case a9=>k_is);(case i9=>k_is);(case l9=>k_is);(case c9=>k_is)
  (case k9=>k_is);(case a10=>k_is);(case l10=>k_is);(case c10=>k_is)
  (case k10=>k_is);(case a11=>k_is);(case l11=>k_is);(case c11=>k_is)
  (case k11=>k_is);(case a12=>k_is);(case l12=>k_is);(case c12=>k_is)
  (case k12=>k_is);(case a13=>k_is);(case l13=>k_is);(case c13=>k_is)
  (case k13=>k_is);(case a14=>k_is);(case l14=>k_is);(case c14=>k_is)
  (case k14=>k_is);(case a15=>k_is);(case l15=>k_is);(case c15=>k_is)
  (case k15=>k_is);(case a16=>k_is);(case l16=>k_is);(case c16=>k_is)
  (case k16=>k_is);(case a17=>k_is);(case i17=>k_is);(case l17=>k_is)
  (case c17=>k_is);(case k17=>k_is);(case a18=>k_is);(case l18=>k_is)
  (case c18=>k_is);(case k18=>k_is);(case z1=>k_is);(case z2=>k_is)
  (case z3=>k_is);(case z4=>k_is);(case z5=>k_is);(case z6=>k_is)
  (case z7=>k_is);(case z8=>k_is);(case z9=>k_is);(case z10=>k_is)
