import PyProof.Rows.All
import Wide.All
import OpenK.AllK
import Wide.FinOn
import Lean
import PyProof.EqAt
import PyProof.EqKinds
import PyProof.TupleCall
import KE.KLam
import KE.KNestM
import PyProof.P3Eq
import PyProof.NeData
import KE.KIsAll
import PyProof.SumAny
import PyProof.Rows.SortShell
import PyProof.Rows.SortRuns
import KE.KSortTup
import KE.KDictSum
import PyProof.ZipIter
import KE.KRevIter
import PyProof.P3In
import KE.KDictList
import PyProof.DictFindH
import PyProof.DictRoadsH
import PyProof.Rows.ListMulArg
import PyProof.AttrMissHeap
import KE.KDictOf
import PyProof.CollectWalk
import PyProof.MaxThree
import PyProof.AutoSeq1
import PyProof.Rows.MinMaxN
import KE.KIntText
import PyProof.Rows.StrJoin2
import PyProof.Rows.StrSplitAre
import PyProof.StrOps2
import PyProof.Rows.SetFrom
import PyProof.SetRoads
import KE.KEqDict
import PySem.Challenge.RW_deltahouse_k01_a_row
set_option Elab.async false
set_option linter.all false
set_option maxRecDepth 100000
set_option maxHeartbeats 4000000
namespace L2
open PySem PySem.Spec PyProof.Rows
noncomputable abbrev Key:=Sum Int Str
noncomputable def bK:Key->Value->Bool
 | .inl k,v=>Value.isInt k v
 | .inr x,v=>Value.isStrOf x v
noncomputable def keyH (w:World):Key->Int
 | .inl k=>hashInt k
 | .inr x=>hashStr w x
theorem keyIs_shape: ∀{k:Key}{v:Value},bK k v=true->(∃i t,k=Sum.inl i/\v=Value.int i t) \/(∃x t,k=Sum.inr x/\v=Value.str x t)
 | .inl i,v,h=>by
  obtain ⟨t,e⟩:=Value.isInt_shape (k:=i) (v:=v) h
  exact .inl ⟨i,t,rfl,e⟩
 | .inr x,v,h=>by
  obtain ⟨t,e⟩:=Value.isStrOf_shape (x:=x) (v:=v) h
  exact .inr ⟨x,t,rfl,e⟩
theorem gY (i:Int) (t:Tok):bK (.inl i) (.int i t)=true:=by simp [bK,Value.isInt]
theorem g0 (x:Str) (t:Tok):bK (.inr x) (.str x t)=true:=by simp [bK,Value.isStrOf]
theorem g4 (a b:Int):decide ((Sum.inl a:Key)=Sum.inl b)=(a==b):=by
 by_cases e:a=b
 ·subst e;simp
 ·have h: ¬(Sum.inl a:Key)=Sum.inl b:=fun q=>e (Sum.inl.inj q)
  rw [decide_eq_false h]
  exact (beq_eq_false_iff_ne.mpr e).symm
theorem g5 (a b:Str):decide ((Sum.inr a:Key)=Sum.inr b)=decide (a=b):=by
 by_cases e:a=b
 ·subst e;simp
 ·have h: ¬(Sum.inr a:Key)=Sum.inr b:=fun q=>e (Sum.inr.inj q)
  rw [decide_eq_false h,decide_eq_false e]
theorem g6 (a:Int) (b:Str):decide ((Sum.inl a:Key)=Sum.inr b)=false:=decide_eq_false (fun q=>nomatch q)
theorem g7 (a:Str) (b:Int):decide ((Sum.inr a:Key)=Sum.inl b)=false:=decide_eq_false (fun q=>nomatch q)
noncomputable def aW (prog:Program) (w:World):PySem.KeyKind prog w Key where
 is:=bK
 hash:=keyH w
 inj:=fun v a b ha hb=>by
  rcases keyIs_shape ha with ⟨i,t,rfl,rfl⟩|⟨x,t,rfl,rfl⟩
  ·rcases keyIs_shape hb with ⟨j,u,rfl,e⟩|⟨y,u,rfl,e⟩
   ·injection e with e1 _;rw [e1]
   ·exact nomatch e
  ·rcases keyIs_shape hb with ⟨j,u,rfl,e⟩|⟨y,u,rfl,e⟩
   ·exact nomatch e
   ·injection e with e1 _;rw [e1]
 byValue:=fun k v h=>by
  rcases keyIs_shape h with ⟨i,t,rfl,rfl⟩|⟨x,t,rfl,rfl⟩<;>rfl
 pyHash:=fun hv h=>by
  rcases keyIs_shape hv with ⟨i,t,rfl,rfl⟩|⟨x,t,rfl,rfl⟩
  ·exact wpAny_pyHash_int h
  ·exact wpAny_pyHash_str h
 eqBool:=fun hu hv h=>by
  rcases keyIs_shape hu with ⟨i,t,rfl,rfl⟩|⟨x,t,rfl,rfl⟩
  ·rcases keyIs_shape hv with ⟨j,u,rfl,rfl⟩|⟨y,u,rfl,rfl⟩
   ·rw [g4] at h;exact wpAny_eqBool_int h
   ·rw [g6] at h;exact SeqAt.EqAt.int_str i t y u _ _ _ _ h
  ·rcases keyIs_shape hv with ⟨j,u,rfl,rfl⟩|⟨y,u,rfl,rfl⟩
   ·rw [g7] at h;exact SeqAt.EqAt.str_int x t j u _ _ _ _ h
   ·rw [g5] at h;exact wpAny_eqBool_str h
 «strs»:=fun k x t v h=>by
  rcases keyIs_shape h with ⟨i,u,rfl,e⟩|⟨y,u,rfl,e⟩
  ·exact nomatch e
  ·injection e with e1 _
   subst e1
   cases v<;>rfl
theorem g8 (prog:Program) (w:World) (i:Int) (t:Tok):(aW prog w).is (.inl i) (.int i t)=true:=gY i t
theorem g9 (prog:Program) (w:World) (x:Str) (t:Tok):(aW prog w).is (.inr x) (.str x t)=true:=g0 x t
end L2
namespace L2
open PySem PySem.Spec PyProof.Rows
inductive V where
 |non|bl (b:Bool)|int (i:Int)|str (x:Str)|byt (b:Array UInt8)|flt (b:UInt64)|ref (a:Addr)|ty (n:String)
 deriving DecidableEq
noncomputable def RelV:V->Value->Prop
 | .non,u=>u=Value.none
 | .bl b,u=>u=Value.bool b
 | .int i,u=> ∃t,u=Value.int i t
 | .str x,u=> ∃t,u=Value.str x t
 | .byt b,u=> ∃t,u=Value.bytes b t
 | .flt b,u=> ∃t,u=Value.float b t
 | .ref a,u=>u=Value.ref a
 | .ty n,u=>u=Value.type n
noncomputable abbrev Vals:List V->List Value->Prop:=Paired RelV
theorem Vals.length {xs:List V}{us:List Value} (r:Vals xs us):xs.length=us.length:=Paired.length r
theorem Vals.get: ∀{xs:List V}{us:List Value}{i:Nat}{x:V},Vals xs us->xs[i]?=some x-> ∃u,us[i]?=some u/\RelV x u
 |_,_,_,_,.nil,e=>by simp at e
 |_,_,0,_,.cons r _,e=>by simp at e;subst e;exact ⟨_,rfl,r⟩
 |_,_,i+1,x,.cons _ t,e=>by
  obtain ⟨u,h1,h2⟩:=Vals.get (i:=i) (x:=x) t (by simpa using e)
  exact ⟨u,by simpa using h1,h2⟩
theorem Vals.set {x:V}{u:Value} (r:RelV x u): ∀{xs:List V}{us:List Value} (i:Nat),Vals xs us->Vals (xs.set i x) (us.set i u)
 |_,_,_,.nil=> .nil
 |_,_,0,.cons _ t=> .cons r t
 |_,_,i+1,.cons q t=> .cons q (Vals.set r i t)
theorem Vals.append: ∀{xs ys:List V}{us ws:List Value},Vals xs us->Vals ys ws->Vals (xs++ys) (us++ws)
 |_,_,_,_,.nil,s=>s
 |_,_,_,_,.cons r t,s=> .cons r (Vals.append t s)
theorem Vals.take: ∀{xs:List V}{us:List Value} (n:Nat),Vals xs us->Vals (xs.take n) (us.take n)
 |_,_,0,_=> .nil
 |_,_,_+1,.nil=> .nil
 |_,_,n+1,.cons r t=> .cons r (Vals.take n t)
theorem Vals.drop: ∀{xs:List V}{us:List Value} (n:Nat),Vals xs us->Vals (xs.drop n) (us.drop n)
 |_,_,0,r=>r
 |_,_,_+1,.nil=> .nil
 |_,_,n+1,.cons _ t=>Vals.drop n t
theorem Vals.none_of: ∀{xs:List V}{us:List Value}{i:Nat},Vals xs us->xs[i]?=none->us[i]?=none:=fun {xs us i} r e=>by
 have h1:=r.length
 have h2:xs.length<=i:=List.getElem?_eq_none_iff.mp e
 exact List.getElem?_eq_none_iff.mpr (by omega)
noncomputable def RelO:Option V->Option Value->Prop
 |some v,some u=>RelV v u
 |none,none=>True
 |_,_=>False
noncomputable def KV {κ:Type}:List (κ×V)->List (κ×Value)->Prop:=Paired fun (p:κ×V) (q:κ×Value)=>p.1=q.1/\RelV p.2 q.2
noncomputable def kV:Key->V
 | .inl i=> .int i
 | .inr x=> .str x
inductive HO where
 |lst (xs:List V)
 |tup (xs:List V)
 |dK (kvs:List (Key×V))|dT (kvs:List (List Key×V))
 |set (S:Int->Bool) (n:Nat)
 |ins (C dx:Addr) (fs:List (Str×V))
 |own (x:Addr)
 |xd (fs:List (Str×V))
 |met (f x:Addr)
 |rng (lo hi:Int)
 |frz (o:Obj) (u:HO)
 |tbl (q:Str)
 |ext (φ:Heap->Prop)
noncomputable abbrev Hp:=Addr->Option HO
noncomputable def upd (H:Hp) (a:Addr) (o:HO):Hp:=fun b=>if b=a then some o else H b
theorem ap {H:Hp}{a:Addr}{o:HO}:upd H a o a=some o:=by unfold upd;rw [if_pos rfl]
theorem ab {H:Hp}{a b:Addr}{o:HO} (h:b≠a):upd H a o b=H b:=by unfold upd;rw [if_neg h]
theorem aF {H:Hp}{a b:Addr}{o:HO} (h:H a=some o) (h':H b=none):a≠b:=by
 intro e;subst e;rw [h] at h';cases h'
noncomputable def bL (h:Heap) (a:Addr) (items:Array Value):Prop:= ∃o,h.get? a=some o/\o.cls= .type "tuple"/\(∃n,o.data= .seq items n)/\o.dict=none
theorem bL.tup {h:Heap}{a:Addr}{items:Array Value} (x:bL h a items):IsTup h a items:=let ⟨o,h1,h2,h3,_⟩:=x;⟨o,h1,h2,h3⟩
theorem bL.new (h:Heap) (items:Array Value):bL (h.push {cls:= .type "tuple",data:= .seq items}) h.objs.size items:=⟨_,Heap.get?_push_size _ rfl,rfl,⟨_,rfl⟩,rfl⟩
section
variable (P:Program) (w:World)
noncomputable def aq (H:Hp) (h:Heap) (a:Addr):HO->Prop
 | .lst xs=>xs.length<=sizeLine/\ ∃(its:List Value) (n:Nat),Vals xs its/\h.get? a=some {cls:= .type "list",data:= .seq its.toArray n}
 | .tup xs=>xs.length<=sizeLine/\ ∃its:List Value,Vals xs its/\bL h a its.toArray
 | .dK kvs=>kvs.length<=sizeLine/\(a==sysModules)=false/\ ∃vs,KV kvs vs/\h.DictOf (aW P w) a vs
 | .dT kvs=>kvs.length<=sizeLine/\(a==sysModules)=false/\ ∃xs:List (List Key×Addr×Value),
   Paired (fun (p:List Key×V) (q:List Key×Addr×Value)=>p.1=q.1/\H q.2.1=some (.tup (p.1.map kV))/\RelV p.2 q.2.2) kvs xs/\
   ∃o es ep,h.get? a=some o/\o.ExactDict/\o.data= .dict es ep/\es.toList=xs.map (entryOfKey (tupleKind (aW P w)))/\(xs.map (·.1)).Nodup
 | .set S n=>h.SetOf (intKind P w) a S n
 | .ins C dx fs=>H dx=some (.own a)/\fs.length<=1000/\dx≠a/\h.get? a=some (PySem.W.instObj C dx)/\
   ∃mA,h.Ns1 dx mA/\(∀f,RelO (fs.lookup f) (mA f))/\PySem.Within mA (fs.map (·.1))
 | .own _=> ∃o,h.get? a=some o
 | .xd fs=> ∃mA,h.Ns1 a mA/\ ∀f,RelO (fs.lookup f) (mA f)
 | .rng lo hi=> ∃t u v,h.get? a=some {cls:= .type "range",data:= .fields #[.int lo t,.int hi u,.int 1 v]}
 | .frz o u=>h.get? a=some o/\aq H h a u
 | .tbl q=> ∃ps:Array Value,h.get? a=some {cls:= .none,data:= .fields ps}/\TriplesOk ps.toList/\ ∀pos cv,codeAmong pos ps.toList=some cv-> ∃(c:Addr) (oc:Obj) (vs:Array Value) (t:Tok),cv= .ref c/\H c=some (.frz oc (.own 0))/\oc.data= .fields vs/\vs[1]?=some (.str q t)
 | .met f x=>h.get? a=some (PySem.W.methodObj (.ref f) (.ref x))
 | .ext φ=>φ h/\(∃o,h.get? a=some o)/\ ∀h1 h2:Heap,φ h1->(∀o,h1.get? a=some o->h2.get? a=some o)->φ h2
noncomputable def HOk (H:Hp) (h:Heap):Prop:= ∀a o,H a=some o->aq P w H h a o
end
section
variable {P:Program}{w:World}{H H':Hp}{h h':Heap}{a:Addr}{o:HO}
theorem aq.lt (x:aq P w H h a o):a<h.objs.size:=by
 cases o with
 |lst xs=>obtain ⟨_,_,_,_,e⟩:=x;exact Heap.lt_size e
 |tup xs=>obtain ⟨_,_,_,p⟩:=x;exact p.tup.lt
 |dK kvs=>obtain ⟨_,_,_,_,o,_,_,e,_⟩:=x;exact Heap.lt_size e
 |dT kvs=>obtain ⟨_,_,_,_,o,_,_,e,_⟩:=x;exact Heap.lt_size e
 |set S n=>obtain ⟨o,_,_,_,e,_⟩:=x;exact Heap.lt_size e
 |ins C dx fs=>obtain ⟨_,_,_,e,_⟩:=x;exact Heap.lt_size e
 |own y=>obtain ⟨_,e⟩:=x;exact Heap.lt_size e
 |xd fs=>obtain ⟨_,⟨_,_,_,e,_⟩,_⟩:=x;exact Heap.lt_size e
 |rng lo hi=>obtain ⟨_,_,_,e⟩:=x;exact Heap.lt_size e
 |frz ob u=>obtain ⟨e,_⟩:=x;exact Heap.lt_size e
 |tbl q=>obtain ⟨_,e,_⟩:=x;exact Heap.lt_size e
 |met f y=>exact Heap.lt_size (show h.get? a=some _ from x)
 |ext φ=>obtain ⟨_,⟨_,e⟩,_⟩:=x;exact Heap.lt_size e
theorem Paired.mapP {α β:Type}{F G:α->β->Prop}: ∀{l₁:List α}{l₂:List β},Paired F l₁ l₂->(∀a b,F a b->G a b)->Paired G l₁ l₂
 |_,_,.nil,_=> .nil
 |_,_,.cons r t,f=> .cons (f _ _ r) (Paired.mapP t f)
theorem Paired.imp' {α β:Type}{F G:α->β->Prop} (f: ∀a b,F a b->G a b) {l₁:List α}{l₂:List β} (r:Paired F l₁ l₂):Paired G l₁ l₂:=Paired.mapP r f
theorem aq.stay (x:aq P w H h a o) (k: ∀b u,(b=a \/H b=some (.own a))->h.get? b=some u->h'.get? b=some u)
  (ho: ∀b,H b=some (.own a)->H' b=some (.own a)) (ht: ∀b xs,H b=some (.tup xs)->H' b=some (.tup xs)) (hc: ∀b ob u,(∃vs,ob.data= .fields vs)->H b=some (.frz ob u)->H' b=some (.frz ob u):=by exact fun _ _ _ _ q=>q):aq P w H' h' a o:=by
 induction o with
 |lst xs=>obtain ⟨z,its,n,r,e⟩:=x;exact ⟨z,its,n,r,k _ _ (.inl rfl) e⟩
 |tup xs=>obtain ⟨z,its,r,ob,e,c⟩:=x;exact ⟨z,its,r,ob,k _ _ (.inl rfl) e,c⟩
 |dK kvs=>obtain ⟨z,y,vs,r,ob,es,ep,e,c⟩:=x;exact ⟨z,y,vs,r,ob,es,ep,k _ _ (.inl rfl) e,c⟩
 |dT kvs=>
  obtain ⟨z,y,xs,r,ob,es,ep,e,c⟩:=x
  exact ⟨z,y,xs,Paired.mapP r fun p q z=>⟨z.1,ht _ _ z.2.1,z.2.2⟩,ob,es,ep,k _ _ (.inl rfl) e,c⟩
 |set S n=>obtain ⟨ob,es,ep,t,e,c⟩:=x;exact ⟨ob,es,ep,t,k _ _ (.inl rfl) e,c⟩
 |ins C dx fs=>
  obtain ⟨d,z,ne,e,mA,⟨od,es,ep,e2,c⟩,r⟩:=x
  exact ⟨ho _ d,z,ne,k _ _ (.inl rfl) e,mA,⟨od,es,ep,k _ _ (.inr d) e2,c⟩,r⟩
 |own y=>obtain ⟨ob,e⟩:=x;exact ⟨ob,k _ _ (.inl rfl) e⟩
 |xd fs=>obtain ⟨mA,⟨od,es,ep,e,c⟩,r⟩:=x;exact ⟨mA,⟨od,es,ep,k _ _ (.inl rfl) e,c⟩,r⟩
 |rng lo hi=>obtain ⟨t,u,v,e⟩:=x;exact ⟨t,u,v,k _ _ (.inl rfl) e⟩
 |frz ob u ih=>obtain ⟨e,q⟩:=x;exact ⟨k _ _ (.inl rfl) e,ih q⟩
 |tbl q=>
  obtain ⟨ps,e,t,l⟩:=x
  exact ⟨ps,k _ _ (.inl rfl) e,t,fun pos cv ec=>by obtain ⟨c,oc,vs,t,r,z,d,g⟩:=l pos cv ec;exact ⟨c,oc,vs,t,r,hc c oc (.own 0) ⟨vs,d⟩ z,d,g⟩⟩
 |met f y=>
  have e:h.get? a=some (PySem.W.methodObj (.ref f) (.ref y)):=x
  show h'.get? a=some (PySem.W.methodObj (.ref f) (.ref y))
  exact k a _ (.inl rfl) e
 |ext φ=>obtain ⟨p,⟨o,e⟩,st⟩:=x;exact ⟨st _ _ p fun o q=>k _ _ (.inl rfl) q,⟨o,k _ _ (.inl rfl) e⟩,st⟩
theorem HOk.lt (x:HOk P w H h) (e:H a=some o):a<h.objs.size:=(x a o e).lt
theorem HOk.fresh (x:HOk P w H h) (e:h.objs.size<=a):H a=none:=by
 cases q:H a with
 |none=>rfl
 |some u=>exact absurd (Nat.lt_of_lt_of_le (x.lt q) e) (Nat.lt_irrefl _)
theorem HOk.kept (x:HOk P w H h) (k: ∀b u,h.get? b=some u->h'.get? b=some u):HOk P w H h':=fun a o e=>
 (x a o e).stay (fun b u _ q=>k b u q) (fun _ q=>q) fun _ _ q=>q
theorem HOk.laid (x:HOk P w H h) (k: ∀b u,h.get? b=some u->h'.get? b=some u) (hp:h.objs.size<=a) (new:aq P w (upd H a o) h' a o):HOk P w (upd H a o) h':=fun b u e=>by
 have hn:=x.fresh hp
 by_cases hb:b=a
 ·subst hb;rw [ap] at e;cases e;exact new
 ·rw [ab hb] at e
  exact (x b u e).stay (fun c v _ q=>k c v q) (fun c q=>by rw [ab (aF q hn)];exact q) (fun c xs q=>by rw [ab (aF q hn)];exact q) fun c _ _ _ q=>by rw [ab (aF q hn)];exact q
end
noncomputable def Rd (H:Hp) (a:Addr) (u:HO):Prop:=H a=some u \/ ∃o,H a=some (.frz o u)
theorem Rd.of {H:Hp}{a:Addr}{u:HO} (h:H a=some u):Rd H a u:= .inl h
theorem Rd.ok {P:Program}{w:World}{H:Hp}{h:Heap}{a:Addr}{u:HO} (r:Rd H a u) (x:HOk P w H h):aq P w H h a u:=by
 rcases r with r|⟨o,r⟩
 ·exact x a u r
 ·obtain ⟨_,q⟩:=x a _ r
  exact q
noncomputable def Mut:Option HO->Prop
 |some (.lst _)=>True
 |some (.dK _)=>True
 |some (.dT _)=>True
 |some (.set _ _)=>True
 |some (.ins _ _ _)=>True
 |some (.ext _)=>True
 |_=>False
section
variable {P:Program}{w:World}{H:Hp}{h h':Heap}{x e:Addr}{o':HO}
theorem HOk.write (ok:HOk P w H h) (mu:Mut (H x)) (he:e=x \/H e=some (.own x)) (k: ∀b u,b≠e->h.get? b=some u->h'.get? b=some u) (heo: ∃u,h'.get? e=some u)
  (new:aq P w (upd H x o') h' x o'):HOk P w (upd H x o') h':=fun b u q=>by
 have nown: ∀c y,H c=some (.own y)->c≠x:=fun c y r z=>by subst z;rw [r] at mu;exact mu
 have ntup: ∀c xs,H c=some (.tup xs)->c≠x:=fun c xs r z=>by subst z;rw [r] at mu;exact mu
 have nfrz: ∀c ob u,H c=some (.frz ob u)->c≠x:=fun c ob u r z=>by subst z;rw [r] at mu;exact mu
 by_cases hb:b=x
 ·subst hb;rw [ap] at q;cases q;exact new
 ·rw [ab hb] at q
  by_cases hbe:b=e
  ·have q':H b=some (.own x):=by
    rcases he with z|z
    ·exact absurd (hbe.trans z) hb
    ·rw [hbe];exact z
   rw [q] at q';cases q'
   obtain ⟨v,hv⟩:=heo
   exact ⟨v,by rw [hbe];exact hv⟩
  ·refine (ok b u q).stay (fun c v hc r=>k c v ?_ r) (fun c r=>by rw [ab (nown c b r)];exact r) (fun c xs r=>by rw [ab (ntup c xs r)];exact r) fun c _ _ _ r=>by rw [ab (nfrz c _ _ r)];exact r
   rcases hc with rfl|hc
   ·exact hbe
   ·rintro rfl
    rcases he with z|z
    ·exact nown c b hc z
    ·rw [hc] at z;cases z;exact hb rfl
end
structure Un (fs ex:List Addr) (H H':Hp) (h h':Heap):Prop where
 keep: ∀b o,h.get? b=some o->H b=none->b∉fs->b∉ex->h'.get? b=some o
 slot: ∀b o,h.get? b=some o->H b=none->b∈fs->b∉ex-> ∃sl,h'.get? b=some {o with slots:=sl}
 free: ∀b o,h.get? b=some o->H b=none->b∉ex->H' b=none
 there: ∀b o,h.get? b=some o->b∉ex-> ∃o',h'.get? b=some o'
 tups: ∀b xs,H b=some (.tup xs)->H' b=some (.tup xs)
 frzs: ∀b o u,H b=some (.frz o u)->H' b=some (.frz o u)
 tbls: ∀b q,H b=some (.tbl q)->H' b=some (.tbl q)
section
variable {fs fs' ex ex':List Addr}{H H1 H2:Hp}{h h1 h2 h':Heap}{a x e:Addr}{o:HO}
theorem Un.any (u:Un fs ex H H1 h h1) {b:Addr}{ob:Obj} (q:h.get? b=some ob) (n:H b=none) (hx:b∉ex): ∃sl,h1.get? b=some {ob with slots:=sl}:=by
 by_cases hb:b∈fs
 ·exact u.slot b ob q n hb hx
 ·exact ⟨ob.slots,u.keep b ob q n hb hx⟩
theorem Un.trans (a:Un fs ex H H1 h h1) (b:Un fs ex H1 H2 h1 h2):Un fs ex H H2 h h2 where
 keep:=fun c ob q n hc hx=>b.keep c ob (a.keep c ob q n hc hx) (a.free c ob q n hx) hc hx
 slot:=fun c ob q n hc hx=>by
  obtain ⟨sl,e1⟩:=a.slot c ob q n hc hx
  obtain ⟨sl',e2⟩:=b.slot c _ e1 (a.free c ob q n hx) hc hx
  exact ⟨sl',e2⟩
 free:=fun c ob q n hx=>by
  obtain ⟨o',e1⟩:=a.there c ob q hx
  exact b.free c o' e1 (a.free c ob q n hx) hx
 there:=fun c ob q hx=>by
  obtain ⟨o',e1⟩:=a.there c ob q hx
  exact b.there c o' e1 hx
 tups:=fun c xs q=>b.tups c xs (a.tups c xs q)
 frzs:=fun c ob xs q=>b.frzs c ob xs (a.frzs c ob xs q)
 tbls:=fun c ps q=>b.tbls c ps (a.tbls c ps q)
theorem Un.kept (k: ∀b u,h.get? b=some u->h'.get? b=some u):Un fs ex H H h h':=
 ⟨fun b ob q _ _ _=>k b ob q,fun b ob q _ _ _=>⟨ob.slots,k b ob q⟩,fun _ _ _ n _=>n,fun b ob q _=>⟨ob,k b ob q⟩,fun _ _ q=>q,fun _ _ _ q=>q,fun _ _ q=>q⟩
theorem Un.refl:Un fs ex H H h h:=Un.kept fun _ _ q=>q
theorem Un.laid (k: ∀b u,h.get? b=some u->h'.get? b=some u) (hp:h.objs.size<=a) (hn:H a=none):Un fs ex H (upd H a o) h h' where
 keep:=fun b u q _ _ _=>k b u q
 slot:=fun b u q _ _ _=>⟨u.slots,k b u q⟩
 free:=fun b u q n _=>by rw [ab (Nat.ne_of_lt (Nat.lt_of_lt_of_le (Heap.lt_size q) hp))];exact n
 there:=fun b u q _=>⟨u,k b u q⟩
 tups:=fun b xs q=>by rw [ab (aF q hn)];exact q
 frzs:=fun b u xs q=>by rw [ab (aF q hn)];exact q
 tbls:=fun b ps q=>by rw [ab (aF q hn)];exact q
theorem Un.write (mu:Mut (H x)) (he:e=x \/H e=some (.own x)) (k: ∀b u,b≠e->h.get? b=some u->h'.get? b=some u) (heo: ∃u,h'.get? e=some u):Un fs ex H (upd H x o) h h':=by
 have hx: ∀b,H b=none->b≠x:=fun b n z=>by subst z;rw [n] at mu;exact mu
 have hb: ∀b,H b=none->b≠e:=fun b n z=>by
  subst z
  rcases he with r|r
  ·exact hx b n r
  ·rw [n] at r;cases r
 have hm: ∀b u,H b=some u-> ¬Mut (some u)->b≠x:=fun b u q nm z=>by subst z;rw [q] at mu;exact nm mu
 refine ⟨fun b u q n _ _=>k b u (hb b n) q,fun b u q n _ _=>⟨u.slots,k b u (hb b n) q⟩,fun b u q n _=>by rw [ab (hx b n)];exact n,fun b u q _=> ?_,
  fun b xs q=>by rw [ab (hm b _ q fun z=>z)];exact q,fun b u xs q=>by rw [ab (hm b _ q fun z=>z)];exact q,fun b ps q=>by rw [ab (hm b _ q fun z=>z)];exact q⟩
 by_cases hbe:b=e
 ·subst hbe;exact heo
 ·exact ⟨u,k b u hbe q⟩
theorem Un.mono (u:Un fs ex H H1 h h1) (hs: ∀b∈fs,b∈fs') (hx: ∀b∈ex,b∈ex'):Un fs' ex' H H1 h h1:=
 ⟨fun b ob q n hb he=>u.keep b ob q n (fun z=>hb (hs b z)) fun z=>he (hx b z),fun _ _ q n _ he=>u.any q n fun z=>he (hx _ z),fun b ob q n he=>u.free b ob q n fun z=>he (hx b z),fun b ob q he=>u.there b ob q fun z=>he (hx b z),u.tups,u.frzs,u.tbls⟩
end
noncomputable def trk (h:Heap) (H:Hp):List Addr:=(List.range h.objs.size).filter fun a=>(H a).isSome
noncomputable def hidT (h:Heap) (H:Hp):Heap:=PySem.W.hideAll h (trk h H)
theorem hE (h:Heap) (H:Hp):(hidT h H).objs.size=h.objs.size:=PySem.W.hideAll_size _ _
theorem hG {h:Heap}{H:Hp}{b:Addr}{o:Obj} (e:h.get? b=some o) (n:H b=none):(hidT h H).get? b=some o:=
 PySem.W.hideAll_get _ e fun hm=>by
  have q:(H b).isSome=true:=(List.mem_filter.mp hm).2
  rw [n] at q;simp at q
theorem hJ {h:Heap}{H:Hp}{b:Addr}{o:Obj} (e:(hidT h H).get? b=some o):h.get? b=some o/\H b=none:=by
 have e':h.get? b=some o:=PySem.W.of_hideAll (trk h H) e
 refine ⟨e',?_⟩
 cases q:H b with
 |none=>rfl
 |some x=>
  have hm:b∈trk h H:=List.mem_filter.mpr ⟨List.mem_range.mpr (Heap.lt_size e'),by simp [q]⟩
  have z:(hidT h H).get? b=none:=PySem.W.hideAll_none (trk h H) hm
  rw [z] at e;cases e
noncomputable def hR (g h:Heap) (L:Addr):List (Addr×Obj):=(List.range h.objs.size).filterMap fun a=>if a=L \/(g.get? a).isSome=true then none else (h.get? a).map fun o=>(a,o)
noncomputable def rest (g h:Heap) (L d:Addr):List (Addr×Obj):=(hR g h L).filter fun p=>decide (p.1≠d)
end L2
namespace L2
open PySem PySem.Spec PyProof.Rows
structure Mod (K:PySem.W.Frag) (mg:Str->Option Value) (base:Heap):Prop where
 kin:K.In base
 glob:base.Ns mainGlobals mg
 blt: ∃mb,base.Ns builtinsNs mb/\ ∀x:Str,x≠"__name__"->mb x=bootBuiltins x
 nolimit:base.NoLimit
structure Cx where
 prog:Program
 w:World
 K:PySem.W.Frag
 mg:Str->Option Value
 base:Heap
 A:Around
 N:List Str
 s₀:Shared
 H₀:Hp
 env:Env
 outer:List Env
 stack:List Env
 ex:List Addr
 fn:Str->Bool
 calm:Bool
 pn:List (Addr×Obj)
 xe:Value->Shared->Prop
noncomputable def frs (l:List Env):List Addr:=l.filterMap (·.frame)
noncomputable abbrev Cx.fs (X:Cx):List Addr:=frs X.outer
noncomputable def Vis (sc:Scope) (x:Str):Prop:=sc.names.lookup x=some .local \/sc.names.lookup x=some .cell \/sc.names.lookup x=some .free
noncomputable def Loc (sc:Scope) (x:Str):Prop:=sc.names.lookup x=some .local \/sc.names.lookup x=some .cell
noncomputable def Look (env:Env) (h:Heap) (m:Str->Option Value) (x:Str) (u:Value):Prop:=
 (env.kindOf x=some .local/\m x=some u) \/((env.kindOf x=some .cell \/env.kindOf x=some .free)/\ ∃c,env.cells.lookup x=some c/\h.IsCell c (some u))
structure Cx.Ok (X:Cx):Prop where
 mod:Mod X.K X.mg X.base
 kind:X.env.scope.kind= .function
 glob:X.env.globals=mainGlobals
 blt:X.env.builtins=builtinsNs
 above:X.s₀.heap.objs.size<=X.env.locals
 inj: ∀x y c,X.env.cells.lookup x=some c->X.env.cells.lookup y=some c->x=y
 has: ∀x,(X.env.kindOf x=some .cell \/X.env.kindOf x=some .free)-> ∃c,X.env.cells.lookup x=some c
 cab: ∀x c,X.fn x=true->X.env.cells.lookup x=some c->X.s₀.heap.objs.size<=c
 hd:X.calm=true->X.A.handled=none
 frames:X.A.frames=some X.stack
 stk:X.stack=X.outer \/(X.stack=X.env::X.outer/\X.env.frame=some X.env.locals)
 exf: ∀b∈X.ex,b≠X.env.locals/\ ∀x c,X.env.cells.lookup x=some c->c≠b
 bs: ∀b o,X.base.get? b=some o->X.s₀.heap.get? b=some o/\X.H₀ b=none
 bsz:X.base.objs.size<=X.s₀.heap.objs.size
 noex: ∀b o,X.base.get? b=some o->b∉X.ex
 exfs: ∀b∈X.ex,b∉X.fs
 funs:X.s₀.heap.FunFrames X.base X.outer
 frf: ∀b∈X.fs,X.H₀ b=none
structure Inv (X:Cx) (pins:List (Addr×Obj)) (σ:List (Option V)) (H:Hp) (s:Shared):Prop where
 ok:X.Ok
 os:s.os=X.s₀.os
 bare:AllBare s.gens
 base:Un X.fs X.ex X.H₀ H X.s₀.heap s.heap
 loc: ∃m,s.heap.Ns X.env.locals m/\ ∀(i:Nat) (x:Str) (v:V),X.N[i]?=some x->σ[i]?=some (some v)->Vis X.env.scope x-> ∃u,RelV v u/\Look X.env s.heap m x u
 cell: ∀x c,X.env.cells.lookup x=some c-> ∃v,s.heap.IsCell c v
 free:H X.env.locals=none
 freeC: ∀x c,X.env.cells.lookup x=some c->H c=none
 pin: ∀p∈X.pn++pins,s.heap.get? p.1=some p.2/\H p.1=none/\p.1≠X.env.locals/\p.1∉X.fs/\ ∀v,p.2.data≠ .cell v
 hok:HOk X.prog X.w H s.heap
 len:σ.length=X.N.length
section
variable {X:Cx}{pins:List (Addr×Obj)}{σ:List (Option V)}{H H':Hp}{s:Shared}{h':Heap}
theorem Cx.Ok.nofr (ok:X.Ok) {b:Addr}{o:Obj} (e:X.base.get? b=some o):b∉X.fs:=fun hb=>by
 have:=(ok.funs.mem hb).1
 rw [e] at this;cases this
theorem Inv.bs (I:Inv X pins σ H s): ∀b o,X.base.get? b=some o->s.heap.get? b=some o/\H b=none:=fun b o e=>
 ⟨I.base.keep b o (I.ok.bs b o e).1 (I.ok.bs b o e).2 (I.ok.nofr e) (I.ok.noex b o e),I.base.free b o (I.ok.bs b o e).1 (I.ok.bs b o e).2 (I.ok.noex b o e)⟩
theorem Inv.bk (I:Inv X pins σ H s): ∀b o,X.base.get? b=some o->s.heap.get? b=some o:=fun b o e=>(I.bs b o e).1
theorem Inv.mod (I:Inv X pins σ H s):Mod X.K X.mg X.base:=I.ok.mod
theorem Inv.kIn (I:Inv X pins σ H s):X.K.In s.heap:=I.ok.mod.kin.keeps I.bk
theorem Inv.lt (I:Inv X pins σ H s):X.env.locals<s.heap.objs.size:=let ⟨_,hn,_⟩:=I.loc;hn.lt
theorem Inv.sz (I:Inv X pins σ H s):X.s₀.heap.objs.size<=s.heap.objs.size:=Nat.le_trans I.ok.above (Nat.le_of_lt I.lt)
theorem Inv.nofs (I:Inv X pins σ H s) {a:Addr} (h:s.heap.objs.size<=a):a∉X.fs:=fun hb=>by
 obtain ⟨_,o,ho,_⟩:=I.ok.funs.mem hb
 exact absurd (Nat.lt_of_lt_of_le (Heap.lt_size ho) (Nat.le_trans I.sz h)) (Nat.lt_irrefl _)
theorem Inv.cne (I:Inv X pins σ H s): ∀x c,X.env.cells.lookup x=some c->c≠X.env.locals:=fun x c e z=>by
 obtain ⟨v,o,ho,hd⟩:=I.cell x c e
 obtain ⟨m,⟨o',es,ep,ho',hd',_⟩,_⟩:=I.loc
 rw [z,ho'] at ho;cases ho;rw [hd'] at hd;cases hd
theorem Inv.funs (I:Inv X pins σ H s):s.heap.FunFrames X.base X.outer:=by
 have all: ∀(l:List Env),(∀b∈frs l,b∈X.fs)->X.s₀.heap.FunFrames X.base l->s.heap.FunFrames X.base l:=by
  intro l
  induction l with
  |nil=>intro _ _;trivial
  |cons env r ih=>
   intro hs hl
   obtain ⟨hk,⟨L,o,hf,hn,ho,hd⟩,hr⟩:=hl
   have hL:L∈X.fs:=hs L (by unfold frs;rw [List.filterMap_cons,hf];exact List.mem_cons_self)
   obtain ⟨sl,e⟩:=I.base.slot L o ho (I.ok.frf L hL) hL fun z=>I.ok.exfs L z hL
   exact ⟨hk,⟨L,_,hf,hn,e,hd⟩,ih (fun b hb=>hs b (by unfold frs;rw [List.filterMap_cons,hf];exact List.mem_cons_of_mem _ hb)) hr⟩
 exact all X.outer (fun _ hb=>hb) I.ok.funs
theorem Inv.stack (I:Inv X pins σ H s):s.heap.FunFrames X.base X.stack:=by
 rcases I.ok.stk with e|⟨e,hf⟩
 ·rw [e];exact I.funs
 ·rw [e]
  obtain ⟨m,hn,_⟩:=I.loc
  refine .cons (by rw [I.ok.kind];decide) hf hn ?_ I.funs
  exact Heap.get?_none_of_le (Nat.le_trans I.ok.bsz I.ok.above)
theorem Inv.stkSub (I:Inv X pins σ H s): ∀b∈frs X.stack,b∈X.env.locals::X.fs:=fun b hb=>by
 rcases I.ok.stk with e|⟨e,hf⟩
 ·rw [e] at hb;exact List.mem_cons_of_mem _ hb
 ·rw [e] at hb
  unfold frs at hb
  rw [List.filterMap_cons,hf] at hb
  exact hb
theorem Inv.stkFree (I:Inv X pins σ H s): ∀b∈frs X.stack,H b=none:=fun b hb=>by
 rcases List.mem_cons.mp (I.stkSub b hb) with e|hb
 ·rw [e];exact I.free
 ·obtain ⟨_,o,ho,_⟩:=I.ok.funs.mem hb
  exact I.base.free b o ho (I.ok.frf b hb) fun z=>I.ok.exfs b z hb
theorem Inv.step {g':Array GenState}{t':Nat}{d':Drawn}{ch:List Addr} (I:Inv X pins σ H s)
  (hch: ∀b∈ch,(b∈X.ex \/X.s₀.heap.objs.size<=b)/\b≠X.env.locals/\(∀x c,X.env.cells.lookup x=some c->c≠b)/\ ∀p∈X.pn++pins,p.1≠b)
  (keep: ∀b o,b≠X.env.locals->b∉X.fs->b∉ch->s.heap.get? b=some o->H b=none->h'.get? b=some o)
  (slot: ∀b o,b≠X.env.locals->b∈X.fs->b∉ch->s.heap.get? b=some o->H b=none-> ∃sl,h'.get? b=some {o with slots:=sl}) (free: ∀b o,b∉ch->s.heap.get? b=some o->H b=none->H' b=none)
  (there: ∀b o,b∉ch->s.heap.get? b=some o-> ∃o',h'.get? b=some o')
  (tups: ∀b xs,H b=some (.tup xs)->H' b=some (.tup xs)) (frzs: ∀b o u,H b=some (.frz o u)->H' b=some (.frz o u)) (tbls: ∀b q,H b=some (.tbl q)->H' b=some (.tbl q))
  (ns: ∀m,s.heap.Ns X.env.locals m->h'.Ns X.env.locals m) (hok:HOk X.prog X.w H' h') (hg:AllBare g'):
  Inv X pins σ H' {s with heap:=h',gens:=g',drawn:=d',toks:=t'}:=by
 have neL: ∀b o,X.s₀.heap.get? b=some o->b≠X.env.locals:=fun b o e=>Nat.ne_of_lt (Nat.lt_of_lt_of_le (Heap.lt_size e) I.ok.above)
 have neC: ∀b o,X.s₀.heap.get? b=some o->b∉X.ex->b∉ch:=fun b o e hx hb=>by
  rcases (hch b hb).1 with z|z
  ·exact hx z
  ·exact absurd (Nat.lt_of_lt_of_le (Heap.lt_size e) z) (Nat.lt_irrefl _)
 have cellK: ∀x c,X.env.cells.lookup x=some c-> ∀v,s.heap.IsCell c v->h'.IsCell c v:=fun x c e v ⟨o,ho,hd⟩=>by
  have nch:c∉ch:=fun z=>(hch c z).2.2.1 x c e rfl
  by_cases hc:c∈X.fs
  ·obtain ⟨sl,q⟩:=slot c o (I.cne x c e) hc nch ho (I.freeC x c e)
   exact ⟨_,q,hd⟩
  ·exact ⟨o,keep c o (I.cne x c e) hc nch ho (I.freeC x c e),hd⟩
 refine ⟨I.ok,I.os,hg,⟨fun b o e n hb hx=> ?_,fun b o e n hb hx=> ?_,fun b o e n hx=> ?_,fun b o e hx=> ?_,fun b xs e=>tups b xs (I.base.tups b xs e),fun b o xs e=>frzs b o xs (I.base.frzs b o xs e),fun b ps e=> ?_⟩,?_,fun x c e=> ?_,?_,fun x c e=> ?_,fun p hp=> ?_,hok,I.len⟩
 ·exact keep b o (neL b o e) hb (neC b o e hx) (I.base.keep b o e n hb hx) (I.base.free b o e n hx)
 ·obtain ⟨sl,e1⟩:=I.base.slot b o e n hb hx
  obtain ⟨sl',e2⟩:=slot b _ (neL b o e) hb (neC b o e hx) e1 (I.base.free b o e n hx)
  exact ⟨sl',e2⟩
 ·obtain ⟨o',e1⟩:=I.base.there b o e hx
  exact free b o' (neC b o e hx) e1 (I.base.free b o e n hx)
 ·obtain ⟨o',e1⟩:=I.base.there b o e hx
  exact there b o' (neC b o e hx) e1
 ·exact tbls b _ (I.base.tbls b ps e)
 ·obtain ⟨m,hn,hl⟩:=I.loc
  refine ⟨m,ns m hn,fun i x v e1 e2 e3=> ?_⟩
  obtain ⟨u,r,l⟩:=hl i x v e1 e2 e3
  refine ⟨u,r,?_⟩
  rcases l with l|⟨k,c,e,z⟩
  ·exact .inl l
  ·exact .inr ⟨k,c,e,cellK x c e _ z⟩
 ·obtain ⟨v,z⟩:=I.cell x c e
  exact ⟨v,cellK x c e v z⟩
 ·obtain ⟨m,⟨o,_,_,ho,_⟩,_⟩:=I.loc
  exact free _ o (fun z=>(hch _ z).2.1 rfl) ho I.free
 ·obtain ⟨v,o,ho,hd⟩:=I.cell x c e
  exact free c o (fun z=>(hch c z).2.2.1 x c e rfl) ho (I.freeC x c e)
 ·obtain ⟨e,n,ne,nf,d⟩:=I.pin p hp
  have nch:p.1∉ch:=fun z=>(hch p.1 z).2.2.2 p hp rfl
  exact ⟨keep p.1 p.2 ne nf nch e n,free p.1 p.2 nch e n,ne,nf,d⟩
theorem Inv.un {t':Nat} (I:Inv X pins σ H s) (u:Un X.fs [] H H' s.heap h') (hok:HOk X.prog X.w H' h'):Inv X pins σ H' {s with heap:=h',toks:=t'}:=by
 obtain ⟨m,⟨o,es,ep,ho,r⟩,_⟩:=id I.loc
 obtain ⟨sl,hL⟩:=u.any ho I.free (by simp)
 exact I.step (g':=s.gens) (d':=s.drawn) (ch:=[]) (fun _ z=>nomatch z) (fun b o _ hb _ e n=>u.keep b o e n hb (by simp)) (fun b o _ hb _ e n=>u.slot b o e n hb (by simp)) (fun b o _ e n=>u.free b o e n (by simp)) (fun b o _ e=>u.there b o e (by simp)) u.tups u.frzs u.tbls (fun m' hm=>by
  obtain ⟨o',es',ep',ho',r'⟩:=hm
  rw [ho] at ho';cases ho'
  exact ⟨_,es',ep',hL,r'⟩) hok I.bare
theorem Inv.call {g':Array GenState}{t':Nat}{d':Drawn}{ch:List Addr} (I:Inv X pins σ H s) (u:Un (frs X.stack) ch H H' s.heap h') (hok:HOk X.prog X.w H' h') (hg:AllBare g')
  (hch: ∀b∈ch,(b∈X.ex \/X.s₀.heap.objs.size<=b)/\b≠X.env.locals/\(∀x c,X.env.cells.lookup x=some c->c≠b)/\ ∀p∈X.pn++pins,p.1≠b):
  Inv X pins σ H' {s with heap:=h',gens:=g',drawn:=d',toks:=t'}:=by
 obtain ⟨m,⟨o,es,ep,ho,r⟩,_⟩:=id I.loc
 obtain ⟨sl,hL⟩:=u.any ho I.free fun z=>(hch _ z).2.1 rfl
 exact I.step (ch:=ch) hch (fun b o hL hb hc e n=>u.keep b o e n (fun z=>(List.mem_cons.mp (I.stkSub b z)).elim hL hb) hc) (fun b o _ _ hc e n=>u.any e n hc) (fun b o hc e n=>u.free b o e n hc) (fun b o hc e=>u.there b o e hc) u.tups u.frzs u.tbls (fun m' hm=>by
  obtain ⟨o',es',ep',ho',r'⟩:=hm
  rw [ho] at ho';cases ho'
  exact ⟨_,es',ep',hL,r'⟩) hok hg
theorem Inv.turned {t':Nat}{it:Addr} (I:Inv X pins σ H s) (k: ∀b o,b≠it->s.heap.get? b=some o->h'.get? b=some o) (hn:H it=none) (hL:it≠X.env.locals)
  (h1:it∈X.ex \/X.s₀.heap.objs.size<=it) (h2: ∀x c,X.env.cells.lookup x=some c->c≠it) (h3: ∀p∈X.pn++pins,p.1≠it):Inv X pins σ H {s with heap:=h',toks:=t'}:=by
 have nit: ∀b u,H b=some u->b≠it:=fun b u e z=>by rw [z,hn] at e;cases e
 refine I.step (g':=s.gens) (d':=s.drawn) (ch:=[it]) (fun b hb=> ?_) (fun b o _ _ hc e _=>k b o (fun z=>hc (by simp [z])) e) (fun b o _ _ hc e _=>⟨o.slots,k b o (fun z=>hc (by simp [z])) e⟩) (fun _ _ _ _ n=>n)
  (fun b o hc e=>⟨o,k b o (fun z=>hc (by simp [z])) e⟩) (fun _ _ e=>e) (fun _ _ _ e=>e) (fun _ _ e=>e) (fun m hm=> ?_) (fun b u e=> ?_) I.bare
 ·have e:b=it:=by simpa using hb
  subst e
  exact ⟨h1,hL,h2,h3⟩
 ·obtain ⟨o,es,ep,ho,r⟩:=hm
  exact ⟨o,es,ep,k _ o (Ne.symm hL) ho,r⟩
 ·refine (I.hok b u e).stay (fun c v hc q=>k c v ?_ q) (fun _ q=>q) fun _ _ q=>q
  rcases hc with z|z
  ·rw [z];exact nit b u e
  ·exact nit c _ z
theorem Inv.tok (I:Inv X pins σ H s) (t:Nat):Inv X pins σ H {s with toks:=t}:=I.un (h':=s.heap) (t':=t) Un.refl I.hok
theorem Inv.kept {t':Nat} (I:Inv X pins σ H s) (k: ∀b u,s.heap.get? b=some u->h'.get? b=some u):Inv X pins σ H {s with heap:=h',toks:=t'}:=I.un (Un.kept k) (I.hok.kept k)
theorem Inv.laid {a:Addr}{o:HO}{t':Nat} (I:Inv X pins σ H s) (k: ∀b u,s.heap.get? b=some u->h'.get? b=some u) (hp:s.heap.objs.size<=a) (new:aq X.prog X.w (upd H a o) h' a o):
  Inv X pins σ (upd H a o) {s with heap:=h',toks:=t'}:=I.un (Un.laid k hp (I.hok.fresh hp)) (I.hok.laid k hp new)
theorem Inv.write {x e:Addr}{o:HO}{t':Nat} (I:Inv X pins σ H s) (mu:Mut (H x)) (he:e=x \/H e=some (.own x)) (k: ∀b u,b≠e->s.heap.get? b=some u->h'.get? b=some u) (heo: ∃u,h'.get? e=some u)
  (new:aq X.prog X.w (upd H x o) h' x o):Inv X pins σ (upd H x o) {s with heap:=h',toks:=t'}:=I.un (Un.write mu he k heo) (I.hok.write mu he k heo new)
theorem Inv.pins_of {pins':List (Addr×Obj)} (I:Inv X pins σ H s) (h: ∀p∈pins',s.heap.get? p.1=some p.2/\H p.1=none/\p.1≠X.env.locals/\p.1∉X.fs/\ ∀v,p.2.data≠ .cell v):Inv X pins' σ H s:=
 ⟨I.ok,I.os,I.bare,I.base,I.loc,I.cell,I.free,I.freeC,fun p hp=>(List.mem_append.mp hp).elim (fun z=>I.pin p (List.mem_append_left _ z)) (h p),I.hok,I.len⟩
theorem eD {N:List Str} (hN:N.Nodup) {i j:Nat}{x:Str} (a:N[i]?=some x) (b:N[j]?=some x):i=j:=by
 obtain ⟨h1,e1⟩:=List.getElem?_eq_some_iff.mp a
 obtain ⟨h2,e2⟩:=List.getElem?_eq_some_iff.mp b
 exact (List.getElem_inj hN).mp (e1.trans e2.symm)
theorem hU {M:Model}{A:Around}{E:Value->Shared->Prop}{i:Nat}{x:Str}{v:V}{u:Value}{Q:Unit->Shared->Prop} (I:Inv X pins σ H s) (hN:X.N.Nodup) (hi:X.N[i]?=some x) (hx:Loc X.env.scope x) (r:RelV v u)
  (h: ∀s',Inv X pins (σ.set i (some v)) H s'->(∃a,Heap.SameBut a s.heap s'.heap/\(a=X.env.locals \/X.env.cells.lookup x=some a))->Q () s') (hf:X.fn x=true \/X.env.scope.names.lookup x=some .local:=by first|exact .inl rfl|exact .inr rfl|assumption):wpAny M A (storeName X.env x u) Q E s:=by
 obtain ⟨m,hn,hl⟩:=id I.loc
 have hcls:(X.env.scope.kind== .class||(X.env.scope.kind== .module&&X.env.locals !=X.env.globals))=false:=by rw [I.ok.kind];rfl
 have hiσ:i<σ.length:=by rw [I.len];exact (List.getElem?_eq_some_iff.mp hi).1
 have cne:=I.cne
 have tracked: ∀{a:Addr}{h':Heap},(∃o,s.heap.get? a=some o/\H a=none)->Heap.SameBut a s.heap h'->HOk X.prog X.w H h':=fun {a h'} ha hs b ob e=>by
  obtain ⟨_,_,hfree⟩:=ha
  refine (I.hok b ob e).stay (fun c w' hc q=>(hs.2 c ?_).trans q) (fun _ q=>q) fun _ _ q=>q
  rintro rfl
  rcases hc with rfl|hc
  ·rw [hfree] at e;cases e
  ·rw [hfree] at hc;cases hc
 rcases hx with hk|hk
 ·refine wpAny_storeName_local hk hn (fun h' hn' hs=> ?_) hcls
  obtain ⟨oL,_,_,hoL,_⟩:=id hn
  refine h _ ⟨I.ok,I.os,I.bare,⟨fun b o e n hb hx=> ?_,fun b o e n hb hx=> ?_,I.base.free,fun b o e hx=> ?_,I.base.tups,I.base.frzs,I.base.tbls⟩,⟨_,hn',fun j y v' e1 e2 e3=> ?_⟩,fun y c e=> ?_,I.free,I.freeC,fun p hp=> ?_,tracked ⟨oL,hoL,I.free⟩ hs,by simpa using I.len⟩ ⟨_,hs,.inl rfl⟩
  ·exact (hs.2 b (Nat.ne_of_lt (Nat.lt_of_lt_of_le (Heap.lt_size e) I.ok.above))).trans (I.base.keep b o e n hb hx)
  ·obtain ⟨sl,e1⟩:=I.base.slot b o e n hb hx
   exact ⟨sl,(hs.2 b (Nat.ne_of_lt (Nat.lt_of_lt_of_le (Heap.lt_size e) I.ok.above))).trans e1⟩
  ·obtain ⟨o',e1⟩:=I.base.there b o e hx
   exact ⟨o',(hs.2 b (Nat.ne_of_lt (Nat.lt_of_lt_of_le (Heap.lt_size e) I.ok.above))).trans e1⟩
  ·by_cases hj:j=i
   ·subst hj
    rw [hi] at e1;cases e1
    rw [List.getElem?_set_self hiσ] at e2
    cases e2
    exact ⟨u,r,.inl ⟨hk,by simp⟩⟩
   ·rw [List.getElem?_set_ne (Ne.symm hj)] at e2
    obtain ⟨u',r',q⟩:=hl j y v' e1 e2 e3
    refine ⟨u',r',?_⟩
    rcases q with ⟨k,e⟩|⟨k,c,e,z⟩
    ·refine .inl ⟨k,?_⟩
     have:y≠x:=fun e=>hj (eD hN e1 (e▸hi))
     simp [this,e]
    ·exact .inr ⟨k,c,e,z.sameBut hs (cne y c e)⟩
  ·obtain ⟨w',z⟩:=I.cell y c e
   exact ⟨w',z.sameBut hs (cne y c e)⟩
  ·obtain ⟨e,n,ne,nf,d⟩:=I.pin p hp
   exact ⟨(hs.2 p.1 ne).trans e,n,ne,nf,d⟩
 ·have hfn:X.fn x=true:=by
   rcases hf with z|z
   ·exact z
   ·rw [z] at hk;cases hk
  obtain ⟨c,hc⟩:=I.ok.has x (.inl hk)
  obtain ⟨w',z⟩:=I.cell x c hc
  refine wpAny_storeName_cell I.ok.kind hk hc z (fun h' hc' hs=> ?_)
  obtain ⟨oc,hoc,hocd⟩:=id z
  refine h {s with heap:=h'} ⟨I.ok,I.os,I.bare,⟨fun b o e n hb hx=> ?_,fun b o e n hb hx=> ?_,I.base.free,fun b o e hx=> ?_,I.base.tups,I.base.frzs,I.base.tbls⟩,⟨m,hn.sameBut hs (Ne.symm (cne x c hc)),fun j y v' e1 e2 e3=> ?_⟩,fun y c' e=> ?_,I.free,I.freeC,fun p hp=> ?_,tracked ⟨oc,hoc,I.freeC x c hc⟩ hs,by simpa using I.len⟩ ⟨c,hs,.inr hc⟩
  ·exact (hs.2 b (Nat.ne_of_lt (Nat.lt_of_lt_of_le (Heap.lt_size e) (I.ok.cab x c hfn hc)))).trans (I.base.keep b o e n hb hx)
  ·obtain ⟨sl,e1⟩:=I.base.slot b o e n hb hx
   exact ⟨sl,(hs.2 b (Nat.ne_of_lt (Nat.lt_of_lt_of_le (Heap.lt_size e) (I.ok.cab x c hfn hc)))).trans e1⟩
  ·obtain ⟨o',e1⟩:=I.base.there b o e hx
   exact ⟨o',(hs.2 b (Nat.ne_of_lt (Nat.lt_of_lt_of_le (Heap.lt_size e) (I.ok.cab x c hfn hc)))).trans e1⟩
  ·by_cases hj:j=i
   ·subst hj
    rw [hi] at e1;cases e1
    rw [List.getElem?_set_self hiσ] at e2
    cases e2
    exact ⟨u,r,.inr ⟨.inl hk,c,hc,hc'⟩⟩
   ·rw [List.getElem?_set_ne (Ne.symm hj)] at e2
    obtain ⟨u',r',q⟩:=hl j y v' e1 e2 e3
    refine ⟨u',r',?_⟩
    rcases q with q|⟨k,c',e,z'⟩
    ·exact .inl q
    ·refine .inr ⟨k,c',e,z'.sameBut hs ?_⟩
     rintro rfl
     exact hj (eD hN e1 (I.ok.inj _ _ _ e hc▸hi))
  ·by_cases hcc:c'=c
   ·subst hcc;exact ⟨_,hc'⟩
   ·obtain ⟨w2,z2⟩:=I.cell y c' e
    exact ⟨w2,z2.sameBut hs hcc⟩
  ·obtain ⟨e,n,ne,nf,d⟩:=I.pin p hp
   refine ⟨(hs.2 p.1 ?_).trans e,n,ne,nf,d⟩
   intro q
   rw [q,hoc] at e
   have q':oc=p.2:=Option.some.inj e
   exact d w' (by rw [<-q'];exact hocd)
theorem eE {M:Model}{A:Around}{E:Value->Shared->Prop}{i:Nat}{x:Str}{v:V}{u:Value}{Q:Unit->Shared->Prop} (I:Inv X pins σ H s) (hN:X.N.Nodup) (hi:X.N[i]?=some x) (hx:Loc X.env.scope x) (r:RelV v u)
  (h: ∀s',Inv X pins (σ.set i (some v)) H s'->Q () s') (hf:X.fn x=true \/X.env.scope.names.lookup x=some .local:=by first|exact .inl rfl|exact .inr rfl|assumption):wpAny M A (storeName X.env x u) Q E s:=
 hU I hN hi hx r (fun s' I' _=>h s' I') hf
theorem Inv.call' {s':Shared}{ch:List Addr} (I:Inv X pins σ H s) (ho:s'.os=s.os) (u:Un (frs X.stack) ch H H' s.heap s'.heap) (hok:HOk X.prog X.w H' s'.heap) (hg:AllBare s'.gens)
  (hch: ∀b∈ch,(b∈X.ex \/X.s₀.heap.objs.size<=b)/\b≠X.env.locals/\(∀x c,X.env.cells.lookup x=some c->c≠b)/\ ∀p∈X.pn++pins,p.1≠b):Inv X pins σ H' s':=by
 obtain ⟨h',g',d',t',o'⟩:=s'
 have e:o'=s.os:=ho
 subst e
 exact I.call (g':=g') (t':=t') (d':=d') u hok hg hch
end
noncomputable abbrev XK:=Value->Option Addr->Hp->Prop
noncomputable abbrev St:=List (Option V)
noncomputable abbrev VK:=V->Hp->Prop
noncomputable abbrev TE:=St->Hp->VK->Prop
noncomputable abbrev TT:=St->Hp->(Bool->Hp->Prop)->Prop
noncomputable abbrev TA:=St->Hp->(List V->Hp->Prop)->Prop
structure Ends where
 nx:St->Hp->Prop
 rt:VK
 bk:St->Hp->Prop:=fun _ _=>False
 ct:St->Hp->Prop:=fun _ _=>False
noncomputable abbrev TS:=Ends->St->Hp->Prop
noncomputable def EP (X:Cx) (pins:List (Addr×Obj)) (σ:St) (Q:VK) (u:Value) (s':Shared):Prop:= ∃v H',Inv X pins σ H' s'/\RelV v u/\Q v H'
noncomputable def TP (X:Cx) (pins:List (Addr×Obj)) (σ:St) (Q:Bool->Hp->Prop) (b:Bool) (s':Shared):Prop:= ∃H',Inv X pins σ H' s'/\Q b H'
noncomputable def AP (X:Cx) (pins:List (Addr×Obj)) (σ:St) (Q:List V->Hp->Prop) (us:List Value) (s':Shared):Prop:= ∃vs H',Inv X pins σ H' s'/\Vals vs us/\Q vs H'
noncomputable def SP (X:Cx) (pins:List (Addr×Obj)) (D:Ends) (f:Flow) (s':Shared):Prop:=
 match f with
 | .next=> ∃σ' H',Inv X pins σ' H' s'/\D.nx σ' H'
 | .brk=> ∃σ' H',Inv X pins σ' H' s'/\D.bk σ' H'
 | .cont=> ∃σ' H',Inv X pins σ' H' s'/\D.ct σ' H'
 | .ret u=> ∃v σ' H',Inv X pins σ' H' s'/\RelV v u/\D.rt v H'
noncomputable def PE (X:Cx) (e:Expr) (t:TE):Prop:=
 ∀(pins:List (Addr×Obj)) (s:Shared) (σ:St) (H:Hp) (Q:VK),Inv X pins σ H s->t σ H Q->wpAny (model X.prog X.w) X.A (eval e X.env) (EP X pins σ Q) X.xe s
noncomputable def PT (X:Cx) (e:Expr) (t:TT):Prop:=
 ∀(pins:List (Addr×Obj)) (s:Shared) (σ:St) (H:Hp) (Q:Bool->Hp->Prop),Inv X pins σ H s->t σ H Q->wpAny (model X.prog X.w) X.A (isTrue e X.env (eval e X.env)) (TP X pins σ Q) X.xe s
noncomputable def PW (X:Cx) (e:Expr) (t:TT):Prop:=
 ∀(whole:Sem Value) (pins:List (Addr×Obj)) (s:Shared) (σ:St) (H:Hp) (Q:Bool->Hp->Prop),Inv X pins σ H s->t σ H Q->wpAny (model X.prog X.w) X.A (isTrue e X.env whole) (TP X pins σ Q) X.xe s
theorem PW.pt {X:Cx}{e:Expr}{t:TT} (h:PW X e t):PT X e t:=h _
noncomputable def PA (X:Cx) (es:List Expr) (t:TA):Prop:=
 ∀(pos:Pos) (pins:List (Addr×Obj)) (s:Shared) (σ:St) (H:Hp) (Q:List V->Hp->Prop),Inv X pins σ H s->t σ H Q->wpAny (model X.prog X.w) X.A (spliced (backTo pos (starEach es X.env))) (AP X pins σ Q) X.xe s
noncomputable def PS (X:Cx) (st:Stmt) (t:TS):Prop:=
 ∀(pins:List (Addr×Obj)) (s:Shared) (σ:St) (H:Hp) (D:Ends),Inv X pins σ H s->t D σ H->wpAny (model X.prog X.w) X.A (exec st X.env) (SP X pins D) X.xe s
noncomputable def PSs (X:Cx) (st:List Stmt) (t:TS):Prop:=
 ∀(pins:List (Addr×Obj)) (s:Shared) (σ:St) (H:Hp) (D:Ends),Inv X pins σ H s->t D σ H->wpAny (model X.prog X.w) X.A (execs st X.env) (SP X pins D) X.xe s
theorem thn {α:Type}{t:Sem α}{Q Q':α->Shared->Prop}{M:Model}{A:Around}{E:Value->Shared->Prop}{s:Shared} (h:wpAny M A t Q E s) (hQ: ∀a s,Q a s->Q' a s):wpAny M A t Q' E s:=wpAny_mono h hQ fun _ _ x=>x
end L2
namespace L2
open PySem PySem.Spec PyProof.Rows
section
variable {X:Cx}
theorem bin {a b:Expr}{ta tb:TE} (ha:PE X a ta) (hb:PE X b tb) {pins:List (Addr×Obj)}{s:Shared}{σ:St}{H:Hp}{R:V->V->Hp->Prop} (I:Inv X pins σ H s) (h:ta σ H fun x H1=>tb σ H1 fun y H2=>R x y H2)
  {α:Type}{Q:α->Shared->Prop}{f:Value->Value->Sem α}
  (hf: ∀v u s2 x y H2,Inv X pins σ H2 s2->RelV x v->RelV y u->R x y H2->wpAny (model X.prog X.w) X.A (f v u) Q X.xe s2):
  wpAny (model X.prog X.w) X.A (eval a X.env) (fun v s₁=>wpAny (model X.prog X.w) X.A (eval b X.env) (fun u s₂=>wpAny (model X.prog X.w) X.A (f v u) Q X.xe s₂) X.xe s₁) X.xe s:=by
 refine thn (ha pins s σ H _ I h) fun v s1 ⟨x,H1,I1,r1,q1⟩=> ?_
 refine thn (hb pins s1 σ H1 _ I1 q1) fun u s2 ⟨y,H2,I2,r2,q2⟩=> ?_
 exact hf v u s2 x y H2 I2 r1 r2 q2
noncomputable def tVar (i:Nat):TE:=fun σ H Q=> ∃v,σ[i]?=some (some v)/\Q v H
noncomputable def tC (v:V):TE:=fun _ H Q=>Q v H
theorem hV {i:Nat}{x:Str}{pos:Pos} (hN:X.N[i]?=some x) (hv:Vis X.env.scope x) (hd:(x==("__debug__":Str))=false:=by decide) (hcd:(x==("__classdict__":Str))=false:=by decide):PE X (.Name x pos) (tVar i):=by
 intro pins s σ H Q I h
 obtain ⟨v,e,h⟩:=h
 obtain ⟨m,hn,hl⟩:=I.loc
 obtain ⟨u,r,l⟩:=hl i x v hN e hv
 have fin:EP X pins σ Q u s:=⟨v,H,I,r,h⟩
 rcases l with ⟨hk,hm⟩|⟨hk,c,hc,hcell⟩
 ·exact wpAny_Name (wpAny_loadName_local I.ok.kind hk hn hm fin) hd
 ·rcases hk with hk|hk
  ·exact wpAny_Name (wpAny_loadName_cell I.ok.kind hk hc hcell fin) hd
  ·exact wpAny_Name (wpAny_loadName_free I.ok.kind hk hc hcell fin hcd) hd
theorem hX {i j pos}:PE X (.Constant (.int i) j pos) (tC (.int i)):=fun _ _ _ H _ I h=>wpAny_Constant_int ⟨.int i,H,I.tok _,⟨_,rfl⟩,h⟩
theorem hZ {b j pos}:PE X (.Constant (.bool b) j pos) (tC (.bl b)):=fun _ _ _ H _ I h=>Constant_bool ⟨.bl b,H,I,rfl,h⟩
theorem h6 {j pos}:PE X (.Constant .none j pos) (tC .non):=fun _ _ _ H _ I h=>Constant_none ⟨.non,H,I,rfl,h⟩
theorem ic {x j pos}:PE X (.Constant (.str x) j pos) (tC (.str x)):=fun _ _ _ H _ I h=>Calls.Constant_str ⟨.str x,H,I.tok _,⟨_,rfl⟩,h⟩
noncomputable def Gl (X:Cx) (x:Str):Prop:=X.env.kindOf x=some .globalImplicit
theorem eG {E:Value->Shared->Prop}{pins:List (Addr×Obj)}{s:Shared}{σ:St}{H:Hp}{x:Str}{u:Value}{pos:Pos}{Q:Value->Shared->Prop} (I:Inv X pins σ H s) (hg:Gl X x) (hm:X.mg x=some u) (h:Q u s)
  (hd:(x==("__debug__":Str))=false:=by decide):wpAny (model X.prog X.w) X.A (eval (.Name x pos) X.env) Q E s:=
 Calls.Name_function_global I.ok.kind hg (Calls.loadGlobal_global (by rw [I.ok.glob];exact I.mod.glob.keeps I.bk) hm h) hd
theorem cn {E:Value->Shared->Prop}{pins:List (Addr×Obj)}{s:Shared}{σ:St}{H:Hp}{x:Str}{u:Value}{pos:Pos}{Q:Value->Shared->Prop} (I:Inv X pins σ H s) (hg:Gl X x) (hm:X.mg x=none) (hv:bootBuiltins x=some u) (h:Q u s)
  (hn:x≠"__name__":=by decide) (hd:(x==("__debug__":Str))=false:=by decide):wpAny (model X.prog X.w) X.A (eval (.Name x pos) X.env) Q E s:=by
 obtain ⟨mb,h1,h2⟩:=I.mod.blt
 exact Calls.Name_function_global I.ok.kind hg (Calls.loadGlobal_builtin (by rw [I.ok.glob];exact I.mod.glob.keeps I.bk) hm (by rw [I.ok.blt];exact h1.keeps I.bk) ((h2 x hn).trans hv) h) hd
theorem ie {x:Str}{v:V}{u:Value}{pos:Pos} (hg:Gl X x) (hm:X.mg x=some u) (r:RelV v u) (hd:(x==("__debug__":Str))=false:=by decide):PE X (.Name x pos) (tC v):=
 fun _ _ _ H _ I h=>eG I hg hm ⟨v,H,I,r,h⟩ hd
theorem ig {x:Str}{v:V}{u:Value}{pos:Pos} (hg:Gl X x) (hm:X.mg x=none) (hv:bootBuiltins x=some u) (r:RelV v u) (hn:x≠"__name__":=by decide) (hd:(x==("__debug__":Str))=false:=by decide):PE X (.Name x pos) (tC v):=
 fun _ _ _ H _ I h=>cn I hg hm hv ⟨v,H,I,r,h⟩ hn hd
variable {a b:Expr}{ta tb:TE}{pos:Pos}
noncomputable def PC (X:Cx) (op:CmpOp) (a b:Expr) (t:TE):Prop:=
 ∀(pins:List (Addr×Obj)) (s:Shared) (σ:St) (H:Hp) (Q:VK),Inv X pins σ H s->t σ H Q->
  wpAny (model X.prog X.w) X.A (eval a X.env) (fun v s₁=>wpAny (model X.prog X.w) X.A (eval b X.env) (fun u s₂=>wpAny (model X.prog X.w) X.A (compareOp op v u) (EP X pins σ Q) X.xe s₂) X.xe s₁) X.xe s
theorem ii (b:Expr) {op:CmpOp} (h:op≠ .In) (h2:op≠ .NotIn):behindInMarks op b=false:=by
 have e1:(op==CmpOp.In)=false:=by cases op<;>first|rfl|exact absurd rfl h
 have e2:(op==CmpOp.NotIn)=false:=by cases op<;>first|rfl|exact absurd rfl h2
 cases b<;>simp [behindInMarks,e1,e2]
noncomputable def tB (t:TE):TT:=fun σ H Q=>t σ H fun x H1=> ∃c,x= .bl c/\Q c H1
theorem oP {op:CmpOp}{t:TE} (h:PC X op a b t) (h1:behindInMarks op b=false:=by first|exact ii _ (by decide) (by decide)|rfl):PT X (.Compare a [op] [b] pos) (tB t):=by
 intro pins s σ H Q I hw
 refine wpAny_isTrue_Compare1 (thn (h pins s σ H _ I hw) fun v s1 h1=>thn h1 fun u s2 h2=>thn h2 fun c s3 ⟨x,H1,I1,r1,q1⟩=> ?_) h1
 obtain ⟨d,rfl,q⟩:=q1
 cases r1
 exact wpAny_truthy_bool ⟨H1,I1,q⟩
theorem ij {e:Expr}{t:TE} (h:PE X e t) (he: ∀whole,isTrue e X.env whole=(do let v<-whole;standAt e.pos;holding [v] (truthy v)):=by intro _;rfl):PT X e (tB t):=by
 intro pins s σ H Q I hw
 refine isTrue_plain (thn (h pins s σ H _ I hw) fun v s1 ⟨x,H1,I1,r1,q1⟩=> ?_) (he _)
 obtain ⟨d,rfl,q⟩:=q1
 cases r1
 exact wpAny_truthy_bool ⟨H1,I1,q⟩
variable {tA tB':TT}{rest:List Expr}
noncomputable def tOr (t u:TT):TT:=fun σ H Q=>t σ H fun c H1=>if c=true then Q true H1 else u σ H1 Q
noncomputable def tNot (t:TT):TT:=fun σ H Q=>t σ H fun c H1=>Q (!c) H1
theorem ik (ha:PT X a tA):PW X (.BoolOp .Or [a] pos) tA:=by
 intro wh pins s σ H Q I h
 refine isTrue_or (thn (ha pins s σ H Q I h) fun c s1 e=> ?_)
 cases c with
 |false=>exact isTrue_or_nil e
 |true=>exact e
theorem il (ha:PT X a tA) (hb:PW X (.BoolOp .Or (b::rest) pos) tB'):PW X (.BoolOp .Or (a::b::rest) pos) (tOr tA tB'):=by
 intro wh pins s σ H Q I h
 refine isTrue_or (thn (ha pins s σ H _ I h) fun c s1 ⟨H1,I1,q1⟩=> ?_)
 cases c with
 |true=>exact ⟨H1,I1,q1⟩
 |false=>exact hb wh pins s1 σ H1 Q I1 q1
theorem io (ha:PT X a tA):PT X (.UnaryOp .Not a pos) (tNot tA):=by
 intro pins s σ H Q I h
 exact isTrue_not (ha pins s σ H (fun c H1=>Q (!c) H1) I h)
noncomputable def ip (ta tb:TE):TE:=fun σ H Q=>ta σ H fun x H1=> ∃c,x= .bl c/\if c=true then tb σ H1 Q else Q (.bl false) H1
noncomputable def iq (ta:TE):TE:=fun σ H Q=>ta σ H fun x H1=> ∃c,x= .bl c/\Q (.bl (!c)) H1
theorem ir {op}{t:TE} (h:PE X a t):PE X (.BoolOp op [a] pos) t:=fun pins s σ H Q I hw=>BoolOp_one (h pins s σ H Q I hw)
theorem iu (ha:PE X a ta) (hb:PE X (.BoolOp .And (b::rest) pos) tb):PE X (.BoolOp .And (a::b::rest) pos) (ip ta tb):=by
 intro pins s σ H Q I h
 refine BoolOp_and (thn (ha pins s σ H _ I h) fun v s1 ⟨x,H1,I1,r1,q1⟩=> ?_)
 obtain ⟨c,rfl,q1⟩:=q1
 cases r1
 refine wpAny_truthy_bool ?_
 cases c with
 |true=>exact hb pins s1 σ H1 Q I1 q1
 |false=>exact ⟨.bl false,H1,I1,rfl,q1⟩
theorem iy (ha:PE X a ta):PE X (.UnaryOp .Not a pos) (iq ta):=by
 intro pins s σ H Q I h
 refine UnaryOp_ (thn (ha pins s σ H _ I h) fun v s1 ⟨x,H1,I1,r1,q1⟩=> ?_)
 obtain ⟨c,rfl,q1⟩:=q1
 cases r1
 exact not_of (wpAny_truthy_bool ⟨.bl (!c),H1,I1,rfl,q1⟩)
end
end L2
namespace L2
open PySem PySem.Spec PyProof.Rows
noncomputable def SqL (K:PySem.W.Frag) (H:Hp) (a:Addr) (xs:List V):Prop:=
 Rd H a (.lst xs) \/
  ∃(o:Obj) (its:Array Value) (n:Nat),K.lookup a=some o/\o.cls= .type "list"/\o.dict=none/\o.data= .seq its n/\its.size<=sizeLine/\Vals xs its.toList
noncomputable def SqT (K:PySem.W.Frag) (H:Hp) (a:Addr) (xs:List V):Prop:=
 Rd H a (.tup xs) \/
  ∃(o:Obj) (its:Array Value) (n:Nat),K.lookup a=some o/\o.cls= .type "tuple"/\o.data= .seq its n/\its.size<=sizeLine/\Vals xs its.toList
noncomputable def absV:Value->Option V
 | .none=>some .non
 | .bool b=>some (.bl b)
 | .int i _=>some (.int i)
 | .str x _=>some (.str x)
 | .bytes b _=>some (.byt b)
 | .float b _=>some (.flt b)
 | .ref a=>some (.ref a)
 | .type n=>some (.ty n)
 |_=>none
theorem RelV.abs {x:V}{u:Value} (r:RelV x u):absV u=some x:=by
 cases x with
 |non=>cases r;rfl
 |bl _=>cases r;rfl
 |int _=>obtain ⟨t,rfl⟩:=r;rfl
 |str _=>obtain ⟨t,rfl⟩:=r;rfl
 |byt _=>obtain ⟨t,rfl⟩:=r;rfl
 |flt _=>obtain ⟨t,rfl⟩:=r;rfl
 |ref _=>cases r;rfl
 |ty _=>cases r;rfl
theorem RelV.inj {x y:V}{u:Value} (r:RelV x u) (q:RelV y u):x=y:=Option.some.inj (r.abs.symm.trans q.abs)
theorem Vals.inj: ∀{xs ys:List V}{us:List Value},Vals xs us->Vals ys us->xs=ys
 |_,_,_,.nil,.nil=>rfl
 |_,_,_,.cons r t,.cons r' t'=>by rw [r.inj r',Vals.inj t t']
section
variable {X:Cx}{pins:List (Addr×Obj)}{σ:St}{H:Hp}{s:Shared}{a:Addr}{xs ys:List V}
theorem SqL.of {K:PySem.W.Frag} (h:H a=some (.lst xs)):SqL K H a xs:= .inl (.inl h)
theorem SqT.of {K:PySem.W.Frag} (h:H a=some (.tup xs)):SqT K H a xs:= .inl (.inl h)
theorem Inv.list (I:Inv X pins σ H s) (h:SqL X.K H a xs): ∃its:List Value,Vals xs its/\PlainL s.heap a its.toArray/\xs.length<=sizeLine:=by
 rcases h with h|⟨o,its,n,hk,hc,hd,hs,hz,r⟩
 ·obtain ⟨z,its,n,r,e⟩:=h.ok I.hok
  exact ⟨its,r,⟨_,n,e,rfl,rfl,rfl⟩,z⟩
 ·refine ⟨its.toList,r,⟨o,n,I.kIn a o hk,hc,hd,by simpa using hs⟩,?_⟩
  have e:=r.length
  simp only [Array.length_toList] at e
  omega
theorem Inv.tuple (I:Inv X pins σ H s) (h:SqT X.K H a xs): ∃its:List Value,Vals xs its/\IsTup s.heap a its.toArray/\xs.length<=sizeLine:=by
 rcases h with h|⟨o,its,n,hk,hc,hs,hz,r⟩
 ·obtain ⟨z,its,r,p⟩:=h.ok I.hok
  exact ⟨its,r,p.tup,z⟩
 ·refine ⟨its.toList,r,⟨o,I.kIn a o hk,hc,n,by simpa using hs⟩,?_⟩
  have e:=r.length
  simp only [Array.length_toList] at e
  omega
theorem Inv.list_inj (I:Inv X pins σ H s) (h:SqL X.K H a xs) (h':SqL X.K H a ys):xs=ys:=by
 obtain ⟨its,r,⟨o,n,e,_,_,d⟩,_⟩:=I.list h
 obtain ⟨its',r',⟨o',n',e',_,_,d'⟩,_⟩:=I.list h'
 rw [e] at e';cases e'
 rw [d] at d'
 injection d' with d1 _
 have:its=its':=by simpa using congrArg Array.toList d1
 subst this
 exact r.inj r'
theorem Inv.tuple_inj (I:Inv X pins σ H s) (h:SqT X.K H a xs) (h':SqT X.K H a ys):xs=ys:=by
 obtain ⟨its,r,⟨o,e,_,n,d⟩,_⟩:=I.tuple h
 obtain ⟨its',r',⟨o',e',_,n',d'⟩,_⟩:=I.tuple h'
 rw [e] at e';cases e'
 rw [d] at d'
 injection d' with d1 _
 have:its=its':=by simpa using congrArg Array.toList d1
 subst this
 exact r.inj r'
end
noncomputable abbrev Cx.wish (X:Cx) (E:Value->Shared->Prop):Cx:={X with xe:=E}
noncomputable abbrev Cx.nox (X:Cx):Cx:=X.wish fun _ _=>False
theorem Cx.Ok.wish {X:Cx} (ok:X.Ok) (E:Value->Shared->Prop):(X.wish E).Ok:=
 ⟨ok.mod,ok.kind,ok.glob,ok.blt,ok.above,ok.inj,ok.has,ok.cab,ok.hd,ok.frames,ok.stk,ok.exf,ok.bs,ok.bsz,ok.noex,ok.exfs,ok.funs,ok.frf⟩
theorem Cx.Ok.unwish {X:Cx}{E:Value->Shared->Prop} (ok:(X.wish E).Ok):X.Ok:=
 ⟨ok.mod,ok.kind,ok.glob,ok.blt,ok.above,ok.inj,ok.has,ok.cab,ok.hd,ok.frames,ok.stk,ok.exf,ok.bs,ok.bsz,ok.noex,ok.exfs,ok.funs,ok.frf⟩
section
variable {X:Cx}{pins:List (Addr×Obj)}{σ:St}{H:Hp}{s:Shared}{E:Value->Shared->Prop}
theorem Inv.wish (I:Inv X pins σ H s) (E:Value->Shared->Prop):Inv (X.wish E) pins σ H s:=⟨I.ok.wish E,I.os,I.bare,I.base,I.loc,I.cell,I.free,I.freeC,I.pin,I.hok,I.len⟩
theorem Inv.unwish (I:Inv (X.wish E) pins σ H s):Inv X pins σ H s:=⟨I.ok.unwish,I.os,I.bare,I.base,I.loc,I.cell,I.free,I.freeC,I.pin,I.hok,I.len⟩
theorem SP.unwish {D:Ends}{f:Flow}{s':Shared} (h:SP (X.wish E) pins D f s'):SP X pins D f s':=by
 cases f with
 |next=>obtain ⟨σ',H',I,q⟩:=h;exact ⟨σ',H',I.unwish,q⟩
 |brk=>obtain ⟨σ',H',I,q⟩:=h;exact ⟨σ',H',I.unwish,q⟩
 |cont=>obtain ⟨σ',H',I,q⟩:=h;exact ⟨σ',H',I.unwish,q⟩
 |ret u=>obtain ⟨v,σ',H',I,r,q⟩:=h;exact ⟨v,σ',H',I.unwish,r,q⟩
theorem PSs.nox {st:List Stmt}{t:TS} (h:PSs X.nox st t):PSs X st t:=fun pins s σ H D I hw=>
 wpAny_mono (h pins s σ H D (I.wish _) hw) (fun _ _ q=>q.unwish) fun _ _ z=>False.elim z
end
section
variable {X:Cx}{st:Stmt}{rest:List Stmt}{t u:TS}{e:Expr}{te:TE}{pos:Pos}
noncomputable def iz:TS:=fun D σ H=>D.nx σ H
noncomputable def tSeq (t u:TS):TS:=fun D σ H=>t {D with nx:=u D} σ H
theorem iA:PSs X [] iz:=fun _ _ σ H _ I h=>wpAny_execs_nil ⟨σ,H,I,h⟩
theorem iB (h1:PS X st t) (h2:PSs X rest u):PSs X (st::rest) (tSeq t u):=by
 intro pins s σ H D I h
 refine wpAny_execs_cons (thn (h1 pins s σ H {D with nx:=u D} I h) fun f s1 q=> ?_)
 cases f with
 |next=>
  obtain ⟨σ',H',I',q⟩:=q
  exact h2 pins s1 σ' H' D I' q
 |ret v=>exact q
 |brk=>exact q
 |cont=>exact q
theorem iC (h1:PS X st t):PSs X [st] t:=by
 intro pins s σ H D I h
 refine wpAny_execs_cons (thn (h1 pins s σ H D I h) fun f s1 q=> ?_)
 cases f with
 |next=>exact wpAny_execs_nil q
 |ret v=>exact q
 |brk=>exact q
 |cont=>exact q
noncomputable def tRet (te:TE):TS:=fun D σ H=>te σ H D.rt
theorem iD (he:PE X e te):PS X (.Return (some e) pos) (tRet te):=by
 intro pins s σ H D I h
 exact wpAny_Return_some (thn (he pins s σ H _ I h) fun v s1 ⟨x,H1,I1,r1,q1⟩=>⟨x,σ,H1,I1,r1,q1⟩)
noncomputable def tIfS (c:TT) (t u:TS):TS:=fun D σ H=>c σ H fun b H1=>if b=true then t D σ H1 else u D σ H1
theorem iE {c:Expr}{a b:List Stmt}{tc:TT} (hc:PT X c tc) (ha:PSs X a t) (hb:PSs X b u):PS X (.If c a b pos) (tIfS tc t u):=by
 intro pins s σ H D I h
 refine wpAny_If (thn (hc pins s σ H _ I h) fun d s1 ⟨H1,I1,q1⟩=> ?_)
 cases d with
 |true=>exact ha pins s1 σ H1 D I1 q1
 |false=>exact hb pins s1 σ H1 D I1 q1
end
noncomputable abbrev TG:=V->St->Hp->(St->Hp->Prop)->Prop
noncomputable def PG (X:Cx) (target:Expr) (t:TG):Prop:=
 ∀(pins:List (Addr×Obj)) (s:Shared) (σ:St) (H:Hp) (v:V) (u:Value) (Q:St->Hp->Prop),Inv X pins σ H s->RelV v u->t v σ H Q->
  wpAny (model X.prog X.w) X.A (assign target X.env u) (fun _ s'=> ∃σ' H',Inv X pins σ' H' s'/\Q σ' H') X.xe s
noncomputable abbrev TSet:=V->V->V->Hp->(Hp->Prop)->Prop
noncomputable def PSet (X:Cx) (t:TSet):Prop:=
 ∀(pins:List (Addr×Obj)) (s:Shared) (σ:St) (H:Hp) (o i v:V) (ov iv u:Value) (Q:Hp->Prop),Inv X pins σ H s->RelV o ov->RelV i iv->RelV v u->t o i v H Q->
  wpAny (model X.prog X.w) X.A (setItem ov iv u) (fun _ s'=> ∃H',Inv X pins σ H' s'/\Q H') X.xe s
section
variable {X:Cx}{pos:Pos}
noncomputable def cL (i:Nat):TG:=fun v σ H Q=>Q (σ.set i (some v)) H
theorem cp {i:Nat}{x:Str} (hN:X.N.Nodup) (hi:X.N[i]?=some x) (hx:Loc X.env.scope x) (hf:X.fn x=true \/X.env.scope.names.lookup x=some .local:=by first|exact .inl rfl|exact .inr rfl|assumption):PG X (.Name x pos) (cL i):=by
 intro pins s σ H v u Q I r h
 exact wpAny_assign_Name (eE I hN hi hx r (fun s' I'=>⟨_,H,I',h⟩) hf)
noncomputable def gSub (to ti:TE) (t:TSet):TG:=fun v σ H Q=>to σ H fun o H1=>ti σ H1 fun i H2=>t o i v H2 fun H3=>Q σ H3
theorem iF {o i:Expr}{to ti:TE}{t:TSet} (ho:PE X o to) (hi:PE X i ti) (hs:PSet X t)
  (ha: ∀v,assign (.Subscript o i pos) X.env v=(do
   let ov<-holding [v] (eval o X.env)
   let iv<-holding [v,ov] (eval i X.env)
   standAt pos
   holding [v,ov,iv] (setItem ov iv v)
   release [v,ov,iv] []):=by intro _;rfl):PG X (.Subscript o i pos) (gSub to ti t):=by
 intro pins s σ H v u Q I r h
 rw [ha]
 refine wpAny_bind (wpAny_holding (thn (ho pins s σ H _ I h) fun ov s1 ⟨x,H1,I1,r1,q1⟩=> ?_))
 refine wpAny_bind (wpAny_holding (thn (hi pins s1 σ H1 _ I1 q1) fun iv s2 ⟨y,H2,I2,r2,q2⟩=> ?_))
 refine wpAny_bind (wpAny_standAt (wpAny_bind (wpAny_holding (thn (hs pins s2 σ H2 x y v ov iv u _ I2 r1 r2 r q2) fun _ s3 ⟨H3,I3,q3⟩=> ?_))))
 exact wpAny_release ⟨σ,H3,I3,q3⟩
noncomputable def tAsg (te:TE) (g:TG):TS:=fun D σ H=>te σ H fun x H1=>g x σ H1 D.nx
theorem iG {tg e:Expr}{te:TE}{g:TG} (he:PE X e te) (hg:PG X tg g) (hs:swapsWithSole [tg] e pos.line X.env=pure false:=by rfl) (hw:swappedStores [tg] e X.env=pure none:=by rfl)
  (h1:(assignEach [tg] X.env).map (·.2)=[assign tg X.env]:=by rfl):PS X (.Assign [tg] e pos) (tAsg te g):=by
 intro pins s σ H D I h
 refine wpAny_Assign_stores (thn (he pins s σ H _ I h) fun v s1 ⟨x,H1,I1,r1,q1⟩=> ?_) hs hw
 rw [h1]
 exact thn (hg pins s1 σ H1 x v _ I1 r1 q1) fun _ s2 q=>q
theorem eH {i:Nat}{x:Str}{e:Expr}{te:TE}{pos':Pos} (hN:X.N.Nodup) (hi:X.N[i]?=some x) (hx:Loc X.env.scope x) (he:PE X e te) (hs:swapsWith e (some (.Name x pos')) pos.line X.env=pure false:=by rfl) (hf:X.fn x=true \/X.env.scope.names.lookup x=some .local:=by first|exact .inl rfl|exact .inr rfl|assumption):
  PS X (.Assign [.Name x pos'] e pos) (tAsg te (cL i)):=by
 intro pins s σ H D I h
 refine wpAny_Assign_Name (thn (he pins s σ H _ I h) fun v s1 ⟨y,H1,I1,r1,q1⟩=> ?_) hs
 exact eE I1 hN hi hx r1 (fun s2 I2=>⟨_,H1,I2,q1⟩) hf
end
section
variable {X:Cx}{pos:Pos}
end
structure It where
 go:Nat->Hp->Prop
 yld:Nat->Hp->V->Hp->Prop
 stop:Nat->Hp->Prop
noncomputable def FpOk (X:Cx) (pins:List (Addr×Obj)) (H:Hp) (b:Addr):Prop:=
 H b=none/\b≠X.env.locals/\b∉X.fs/\(b∈X.ex \/X.s₀.heap.objs.size<=b)/\(∀x c,X.env.cells.lookup x=some c->c≠b)/\ ∀p∈X.pn++pins,p.1≠b
theorem Inv.fpOk {X:Cx}{pins:List (Addr×Obj)}{σ:St}{H H':Hp}{s:Shared}{b:Addr} (I:Inv X pins σ H s) (hb:s.heap.objs.size<=b) (hn:H' b=none):FpOk X pins H' b:=by
 refine ⟨hn,Nat.ne_of_gt (Nat.lt_of_lt_of_le I.lt hb),I.nofs hb,.inr (Nat.le_trans I.sz hb),fun x c e z=> ?_,fun p hp z=> ?_⟩
 ·obtain ⟨v,q⟩:=I.cell x c e
  exact absurd (Nat.lt_of_lt_of_le q.lt (by rw [z];exact hb)) (Nat.lt_irrefl _)
 ·exact absurd (Nat.lt_of_lt_of_le (Heap.lt_size (I.pin p hp).1) (by rw [z];exact hb)) (Nat.lt_irrefl _)
structure Turn (P:Program) (w:World) (K:PySem.W.Frag) (tg:Expr) (J:It) (fp:List Addr) (it:Addr) (tn:Nat->Heap->Prop):Prop where
 mem:it∈fp
 obj: ∀i h,tn i h-> ∀b∈fp,∃o,h.get? b=some o/\ ∀v,o.data≠ .cell v
 keep: ∀i h h',tn i h->(∀b∈fp,∀o,h.get? b=some o->h'.get? b=some o)->tn i h'
 item: ∀(X:Cx),X.prog=P->X.w=w->X.K=K->X.calm=true-> ∀(i:Nat) (pins:List (Addr×Obj)) (s:Shared) (σ:St) (H:Hp) (E:Value->Shared->Prop),Inv X pins σ H s->(∀b∈fp,FpOk X pins H b)->tn i s.heap->J.go i H->
  wpAny (model P w) X.A (pyNext (.ref it)) (fun r s1=> ∃u,r=some u/\
   wpAny (model P w) X.A (letOwnedTupleGo tg (.ref it) u) (fun _ s2=> ∃x H',Inv X pins σ H' s2/\RelV x u/\J.yld i H x H'/\tn (i+1) s2.heap/\ ∀b∈fp,H' b=none) E s1) E s
 done: ∀(X:Cx),X.prog=P->X.w=w->X.K=K->X.calm=true-> ∀(i:Nat) (pins:List (Addr×Obj)) (s:Shared) (σ:St) (H:Hp) (E:Value->Shared->Prop),Inv X pins σ H s->(∀b∈fp,FpOk X pins H b)->tn i s.heap->J.stop i H->
  wpAny (model P w) X.A (pyNext (.ref it)) (fun r s1=>r=none/\Inv X pins σ H s1) E s
 self: ∀(A:Around) (i:Nat) (s:Shared) (Q:Value->Shared->Prop) (E:Value->Shared->Prop),tn i s.heap->Q (.ref it) s->wpAny (model P w) A (pyIter (.ref it)) Q E s
noncomputable abbrev TI:=St->Hp->(It->Hp->Prop)->Prop
noncomputable def PIE (X:Cx) (pins:List (Addr×Obj)) (σ:St) (tg:Expr) (R:It->Hp->Prop) (itv:Value) (s2:Shared):Prop:=
 ∃(it:Addr) (fp:List Addr) (tn:Nat->Heap->Prop) (J:It) (H':Hp),itv= .ref it/\Inv X pins σ H' s2/\Turn X.prog X.w X.K tg J fp it tn/\tn 0 s2.heap/\(∀b∈fp,FpOk X pins H' b)/\R J H'
noncomputable def PI (X:Cx) (tg iter:Expr) (wi:TI):Prop:=
 ∀(pins:List (Addr×Obj)) (s:Shared) (σ:St) (H:Hp) (R:It->Hp->Prop),Inv X pins σ H s->wi σ H R->
  wpAny (model X.prog X.w) X.A (eval iter X.env) (fun v s1=>wpAny (model X.prog X.w) X.A (pyIter v) (PIE X pins σ tg R) X.xe s1) X.xe s
theorem dr {M:Model}{A:Around}{E:Value->Shared->Prop}{s:Shared}{tg:Expr}{it:Addr}{u:Value}{o:Obj}{n:String}{vs:Array Value}{Q:Unit->Shared->Prop} (ho:s.heap.get? it=some o) (hc:o.cls= .type n) (hd:o.data= .fields vs)
  (hn:["enumerate","zip","dict_itemiterator","dict_reverseitemiterator","odict_iterator","itertools.zip_longest","itertools.pairwise"].contains n=false) (hQ:Q () s):wpAny M A (letOwnedTupleGo tg (.ref it) u) Q E s:=by
 unfold letOwnedTupleGo
 cases tg<;>first
  |exact wpAny_pure hQ
  |(cases u<;>first
    |exact wpAny_pure hQ
    |(refine wpAny_bind (wpAny_load ho ?_);rw [hc,hd];show wpAny M A (if (["enumerate","zip","dict_itemiterator","dict_reverseitemiterator","odict_iterator","itertools.zip_longest","itertools.pairwise"].contains n&&vs[0]?==some (rawInt _))=true then _ else _) Q E s;rw [if_neg (by intro h;rw [hn,Bool.false_and] at h;cases h)];exact wpAny_pure hQ))
noncomputable def Itl (K:PySem.W.Frag) (a:Addr):It:=
 ⟨fun i H=> ∃xs x,SqL K H a xs/\xs[i]?=some x,fun i H x H'=>H'=H/\ ∀xs,SqL K H a xs->xs[i]?=some x,fun i H=> ∃xs,SqL K H a xs/\xs.length<=i⟩
noncomputable def Itt (K:PySem.W.Frag) (a:Addr):It:=
 ⟨fun i H=> ∃xs x,SqT K H a xs/\xs[i]?=some x,fun i H x H'=>H'=H/\ ∀xs,SqT K H a xs->xs[i]?=some x,fun i H=> ∃xs,SqT K H a xs/\xs.length<=i⟩
noncomputable def Itr (lo:Int) (n:Nat):It:=⟨fun i _=>i<n,fun i H x H'=>H'=H/\x= .int (lo+i),fun i _=>n<=i⟩
theorem oQ {P:Program}{w:World}{K:PySem.W.Frag}{tg:Expr} (a it:Addr):Turn P w K tg (Itl K a) [it] it (fun i h=>h.IsListIter it a i) where
 mem:=by simp
 obj:=fun i h st b hb=>by
  have e:b=it:=by simpa using hb
  subst e
  obtain ⟨o,e,c,d⟩:=st
  exact ⟨o,e,fun v z=>by rw [d] at z;cases z⟩
 keep:=fun i h h' st k=>st.at fun o e=>k it (by simp) o e
 item:=by
  intro X hP hw hK hc i pins s σ H E I hf st hg
  subst hP hw hK
  obtain ⟨xs,x,hq,hx⟩:=hg
  obtain ⟨its,rv,p,hz⟩:=I.list hq
  obtain ⟨u,hu,ru⟩:=rv.get hx
  obtain ⟨f0,f1,f2,f3,f4,f5⟩:=hf it (by simp)
  refine wpAny_pyNext_list_item st p.isList (x:=u) (by simpa using hu) fun h' st' sb=> ?_
  have I1:Inv X pins σ H {s with heap:=h'}:=I.turned (t':=s.toks) (fun b o hb e=>(sb.2 b hb).trans e) f0 f1 f3 f4 f5
  obtain ⟨o,e,c,d⟩:=id st'
  exact ⟨u,rfl,dr (s:={s with heap:=h'}) e c d (by decide) ⟨x,H,I1,ru,⟨rfl,fun ys hy=>by rw [I.list_inj hy hq];exact hx⟩,st',fun b hb=>(hf b hb).1⟩⟩
 done:=by
  intro X hP hw hK hc i pins s σ H E I hf st hg
  subst hP hw hK
  obtain ⟨xs,hq,hx⟩:=hg
  obtain ⟨its,rv,p,hz⟩:=I.list hq
  obtain ⟨f0,f1,f2,f3,f4,f5⟩:=hf it (by simp)
  have hl:=rv.length
  exact wpAny_pyNext_list_end (I.ok.hd hc) st p.isList (by simp;omega) fun h' eb=>⟨rfl,I.turned (t':=s.toks) (fun b o hb e=>eb b o hb e) f0 f1 f3 f4 f5⟩
 self:=fun _ _ _ _ _ st h=>wpAny_pyIter_listiter st h
theorem iH {P:Program}{w:World}{K:PySem.W.Frag}{tg:Expr} (a it:Addr):Turn P w K tg (Itt K a) [it] it (fun i h=>h.IsTupleIter it a i) where
 mem:=by simp
 obj:=fun i h st b hb=>by
  have e:b=it:=by simpa using hb
  subst e
  obtain ⟨o,e,c,d⟩:=st
  exact ⟨o,e,fun v z=>by rw [d] at z;cases z⟩
 keep:=fun i h h' st k=>st.at fun o e=>k it (by simp) o e
 item:=by
  intro X hP hw hK hc i pins s σ H E I hf st hg
  subst hP hw hK
  obtain ⟨xs,x,hq,hx⟩:=hg
  obtain ⟨its,rv,p,hz⟩:=I.tuple hq
  obtain ⟨u,hu,ru⟩:=rv.get hx
  obtain ⟨f0,f1,f2,f3,f4,f5⟩:=hf it (by simp)
  refine wpAny_pyNext_tuple_item st (show s.heap.IsTuple a its.toArray from p) (x:=u) (by simpa using hu) fun h' st' sb=> ?_
  have I1:Inv X pins σ H {s with heap:=h'}:=I.turned (t':=s.toks) (fun b o hb e=>(sb.2 b hb).trans e) f0 f1 f3 f4 f5
  obtain ⟨o,e,c,d⟩:=id st'
  exact ⟨u,rfl,dr (s:={s with heap:=h'}) e c d (by decide) ⟨x,H,I1,ru,⟨rfl,fun ys hy=>by rw [I.tuple_inj hy hq];exact hx⟩,st',fun b hb=>(hf b hb).1⟩⟩
 done:=by
  intro X hP hw hK hc i pins s σ H E I hf st hg
  subst hP hw hK
  obtain ⟨xs,hq,hx⟩:=hg
  obtain ⟨its,rv,p,hz⟩:=I.tuple hq
  obtain ⟨f0,f1,f2,f3,f4,f5⟩:=hf it (by simp)
  have hl:=rv.length
  exact wpAny_pyNext_tuple_end (I.ok.hd hc) st (show s.heap.IsTuple a its.toArray from p) (by simp;omega) fun h' eb=>⟨rfl,I.turned (t':=s.toks) (fun b o hb e=>eb b o hb e) f0 f1 f3 f4 f5⟩
 self:=fun _ _ _ _ _ st h=>wpAny_pyIter_tupleiter st h
theorem iI {P:Program}{w:World}{K:PySem.W.Frag}{tg:Expr} (it:Addr) (lo:Int) (n:Nat):Turn P w K tg (Itr lo n) [it] it (fun i h=>IsRangeIter h it (lo+(i:Nat)*1) ((n:Int)-(i:Nat)) 1) where
 mem:=by simp
 obj:=fun i h st b hb=>by
  have e:b=it:=by simpa using hb
  subst e
  exact ⟨_,st,fun v z=>by
   have z':Data.fields _=Data.cell v:=z
   cases z'⟩
 keep:=fun i h h' st k=>k it (by simp) _ st
 item:=by
  intro X hP hw hK hc i pins s σ H E I hf st hg
  subst hP hw hK
  obtain ⟨f0,f1,f2,f3,f4,f5⟩:=hf it (by simp)
  have W:=Walks.range (prog:=X.prog) (w:=X.w) (I.ok.hd hc) it lo 1 n
  refine W.item i s _ _ hg st fun v h' tk hv st' kk=> ?_
  obtain ⟨t,rfl⟩:=hv
  have I1:Inv X pins σ H {s with heap:=h',toks:=tk}:=I.turned (fun b o hb e=>kk b o (by simpa using hb) e) f0 f1 f3 f4 f5
  refine ⟨_,rfl,dr (s:={s with heap:=h',toks:=tk}) (n:="range_iterator") st' rfl rfl (by decide) ⟨.int (lo+i),H,I1,⟨t,?_⟩,⟨rfl,rfl⟩,st',fun b hb=>(hf b hb).1⟩⟩
  rw [Int.mul_one]
 done:=by
  intro X hP hw hK hc i pins s σ H E I hf st hg
  subst hP hw hK
  obtain ⟨f0,f1,f2,f3,f4,f5⟩:=hf it (by simp)
  exact wpAny_pyNext_range_end (I.ok.hd hc) st (by have:n<=i:=hg;omega) fun h' eb=>⟨rfl,I.turned (t':=s.toks) (fun b o hb e=>eb b o hb e) f0 f1 f3 f4 f5⟩
 self:=fun _ _ _ _ _ st h=>wpAny_pyIter_rangeiter st h
end L2
namespace L2
open PySem PySem.Spec PyProof.Rows
section
variable {X:Cx}{tg:Expr}
noncomputable def iTup (K:PySem.W.Frag) (tl:TE):TI:=fun σ H R=>tl σ H fun x H1=> ∃a,x= .ref a/\(∃xs,SqT K H1 a xs)/\R (Itt K a) H1
theorem iJ {l:Expr}{tl:TE} (hl:PE X l tl):PI X tg l (iTup X.K tl):=by
 intro pins s σ H R I h
 refine thn (hl pins s σ H _ I h) fun v s1 ⟨x,H1,I1,r1,q1⟩=> ?_
 obtain ⟨a,e,⟨xs,hq⟩,q⟩:=q1
 subst e
 cases r1
 obtain ⟨its,rv,p,hz⟩:=I1.tuple hq
 refine wpAny_pyIter_tuple (show s1.heap.IsTuple a its.toArray from p) ?_
 refine ⟨s1.heap.objs.size,[s1.heap.objs.size],_,_,H1,rfl,I1.kept (t':=s1.toks) fun b o e=>Heap.get?_push_of_some _ e,iH a _,⟨_,Heap.get?_push_size _ rfl,rfl,rfl⟩,fun b hb=> ?_,q⟩
 have e:b=s1.heap.objs.size:=by simpa using hb
 subst e
 exact I1.fpOk (Nat.le_refl _) (I1.hok.fresh (Nat.le_refl _))
theorem eI {pins:List (Addr×Obj)}{σ:St}{H:Hp}{s:Shared}{R:It->Hp->Prop}{E:Value->Shared->Prop}{lo hi:Int}{t u v:Tok}{tk:Nat} (I:Inv X pins σ H s) (h1: -(2^62)<=lo) (h2:lo<2^62) (h3: -(2^62)<=hi) (h4:hi<2^62)
  (q:R (Itr lo (hi-lo).toNat) H):wpAny (model X.prog X.w) X.A (pyIter (.ref s.heap.objs.size)) (PIE X pins σ tg R) E {s with heap:=s.heap.push {cls:= .type "range",data:= .fields #[.int lo t,.int hi u,.int 1 v]},toks:=tk}:=by
 refine wpAny_pyIter_range (IsRange.new ..) (small_one h1 h2 h3 h4) ?_
 have I1:Inv X pins σ H {s with heap:=s.heap.push {cls:= .type "range",data:= .fields #[.int lo t,.int hi u,.int 1 v]},toks:=tk}:=I.kept fun b o e=>Heap.get?_push_of_some _ e
 refine ⟨(s.heap.push {cls:= .type "range",data:= .fields #[.int lo t,.int hi u,.int 1 v]}).objs.size,[(s.heap.push {cls:= .type "range",data:= .fields #[.int lo t,.int hi u,.int 1 v]}).objs.size],_,_,H,rfl,
  I1.kept (t':=tk) fun b o e=>Heap.get?_push_of_some _ e,iI _ lo (hi-lo).toNat,?_,fun b hb=> ?_,q⟩
 ·have e1:lo+((0:Nat):Int)*1=lo:=by simp
  have e2:(((hi-lo).toNat:Nat):Int)-((0:Nat):Int)=Builtin.Range.rangeSize lo hi 1:=by rw [rangeSize_one];split<;>omega
  show IsRangeIter _ _ (lo+((0:Nat):Int)*1) ((((hi-lo).toNat:Nat):Int)-((0:Nat):Int)) 1
  rw [e1,e2]
  exact Heap.get?_push_size _ rfl
 ·have e:b=(s.heap.push {cls:= .type "range",data:= .fields #[.int lo t,.int hi u,.int 1 v]}).objs.size:=by simpa using hb
  subst e
  exact I1.fpOk (Nat.le_refl _) (I1.hok.fresh (Nat.le_refl _))
noncomputable def iK (ta:TA):TI:=fun σ H R=>ta σ H fun vs H1=> ∃j:Int,vs=[.int j]/\ -(2^62)<=j/\j<2^62/\R (Itr 0 j.toNat) H1
noncomputable def iM (ta:TA):TI:=fun σ H R=>ta σ H fun vs H1=> ∃i j:Int,vs=[.int i,.int j]/\(-(2^62)<=i/\i<2^62/\ -(2^62)<=j/\j<2^62)/\R (Itr i (j-i).toNat) H1
theorem iN {a:Expr}{ta:TA}{p pos:Pos} (hg:Gl X "range") (hm:X.mg "range"=none) (ha:PA X [a] ta) (hs:starEach [a] X.env=[(false,eval a X.env)]:=by rfl):PI X tg (.Call (.Name "range" p) [a] [] pos) (iK ta):=by
 intro pins s σ H R I h
 refine Call_ (cn I hg hm boot_range (PyProof.Rows.callWith_type1 (thn (ha pos pins s σ H _ I h) fun us s1 ⟨vs,H1,I1,r1,q1⟩=> ?_) hs rfl))
 obtain ⟨j,e,q1,q2,q⟩:=q1
 subst e
 cases r1 with
 |cons r rr=>
  cases rr
  obtain ⟨t,rfl⟩:=r
  exact call_range_1 (eI I1 (by omega) (by omega) q1 q2 (by simpa using q))
theorem iO {a b:Expr}{ta:TA}{p pos:Pos} (hg:Gl X "range") (hm:X.mg "range"=none) (ha:PA X [a,b] ta) (hs:starEach [a,b] X.env=[(false,eval a X.env),(false,eval b X.env)]:=by rfl) (hs2:starEach [b] X.env=[(false,eval b X.env)]:=by rfl):
  PI X tg (.Call (.Name "range" p) [a,b] [] pos) (iM ta):=by
 intro pins s σ H R I h
 refine Call_ (cn I hg hm boot_range (PyProof.Rows.callWith_type1 (thn (ha pos pins s σ H _ I h) fun us s1 ⟨vs,H1,I1,r1,q1⟩=> ?_) (by rw [hs,hs2]) (by rw [hs2];rfl)))
 obtain ⟨i,j,e,⟨q1,q2,q3,q4⟩,q⟩:=q1
 subst e
 cases r1 with
 |cons r rr=>
  cases rr with
  |cons r' rr=>
   cases rr
   obtain ⟨t,rfl⟩:=r
   obtain ⟨t',rfl⟩:=r'
   exact call_range_2 (eI I1 q1 q2 q3 q4 q)
noncomputable def tFor (wi:TI) (g:TG) (tb:TS):TS:=fun D σ H=>wi σ H fun J H1=> ∃W:Nat->Nat->St->Hp->Prop,(∃m,W 0 m σ H1)/\ ∀i m σ H,W i m σ H->
 (J.stop i H/\D.nx σ H) \/(J.go i H/\ ∃N:St->Hp->Prop,(∀σ' H',N σ' H'-> ∃m',m'<m/\W (i+1) m' σ' H')/\ ∀x H',J.yld i H x H'->g x σ H' fun σ2 H2=>tb {D with nx:=N,ct:=N,bk:=D.nx} σ2 H2)
noncomputable def cq (fp:List Addr) (h:Heap):List (Addr×Obj):=fp.filterMap fun b=>(h.get? b).map fun o=>(b,o)
theorem cM {fp:List Addr}{h:Heap}{b:Addr}{o:Obj} (hb:b∈fp) (e:h.get? b=some o):(b,o)∈cq fp h:=List.mem_filterMap.mpr ⟨b,hb,by rw [e];rfl⟩
theorem iP {fp:List Addr}{h:Heap}{p:Addr×Obj} (hp:p∈cq fp h):p.1∈fp/\h.get? p.1=some p.2:=by
 obtain ⟨b,hb,e⟩:=List.mem_filterMap.mp hp
 cases q:h.get? b with
 |none=>rw [q] at e;cases e
 |some o=>
  rw [q] at e
  have e':(b,o)=p:=Option.some.inj e
  subst e'
  exact ⟨hb,q⟩
theorem Inv.pinned {pins:List (Addr×Obj)}{σ:St}{H:Hp}{s:Shared}{fp:List Addr} (I:Inv X pins σ H s) (hf: ∀b∈fp,FpOk X pins H b) (ho: ∀b∈fp,∃o,s.heap.get? b=some o/\ ∀v,o.data≠ .cell v):Inv X (pins++cq fp s.heap) σ H s:=
 I.pins_of fun p hp=>(List.mem_append.mp hp).elim (fun z=>I.pin p (List.mem_append_right _ z)) fun z=>by
  obtain ⟨hb,e⟩:=iP z
  obtain ⟨f0,f1,f2,_⟩:=hf p.1 hb
  obtain ⟨o,e',d⟩:=ho p.1 hb
  rw [e] at e';cases e'
  exact ⟨e,f0,f1,f2,d⟩
theorem Inv.unpinned {pins pl:List (Addr×Obj)}{σ:St}{H:Hp}{s:Shared} (I:Inv X (pins++pl) σ H s):Inv X pins σ H s:=I.pins_of fun p hp=>I.pin p (List.mem_append_right _ (List.mem_append_left _ hp))
theorem iQ {iter:Expr}{body:List Stmt}{wi:TI}{g:TG}{tb:TS}{pos:Pos} (hp:PassesOwn (model X.prog X.w) X.A X.env X.xe) (hc:X.calm=true) (hi:PI X tg iter wi) (hg:PG X tg g) (hb:PSs X body tb)
  (hs: ∀x,foldedSetIterable iter X.env x=pure x:=by intro _;rfl):PS X (.For tg iter body [] pos) (tFor wi g tb):=by
 intro pins s σ H D I h
 refine wpAny_For (thn (hi pins s σ H _ I h) fun v s1 h1=>thn h1 fun itv s2 h2=> ?_) hs
 obtain ⟨it,fp,tn,J,H2,e,I2,T,st2,f2,W,⟨m0,w0⟩,turn⟩:=h2
 subst e
 have stat: ∀{H':Hp},(∀b∈fp,H' b=none)-> ∀b∈fp,FpOk X pins H' b:=fun hn b hb=>⟨hn b hb,(f2 b hb).2⟩
 refine codeAny_forLoop_any (fun n s'=> ∃i σ' H',Inv X pins σ' H' s'/\tn i s'.heap/\(∀b∈fp,H' b=none)/\W i n σ' H') ?_ m0 ⟨0,σ,H2,I2,st2,fun b hb=>(f2 b hb).1,w0⟩
 rintro n s3 ⟨i,σ3,H3,I3,st3,fr3,w3⟩
 rcases turn i n σ3 H3 w3 with ⟨stop,qn⟩|⟨go,N,hN,step⟩
 ·refine wpAny_passesOwn hp (thn (T.done X rfl rfl rfl hc i pins s3 σ3 H3 X.xe I3 (stat fr3) st3 stop) fun r s4 ⟨hr,I4⟩=> ?_)
  subst hr
  exact wpAny_execs_nil ⟨σ3,H3,I4,qn⟩
 ·refine wpAny_passesOwn hp (thn (T.item X rfl rfl rfl hc i pins s3 σ3 H3 X.xe I3 (stat fr3) st3 go) fun r s4 ⟨u,hr,h4⟩=> ?_)
  subst hr
  refine wpAny_passesOwn hp (thn h4 fun _ s5 ⟨x,H5,I5,r5,y5,st5,fr5⟩=> ?_)
  have I5':=I5.pinned (stat fr5) (T.obj _ _ st5)
  refine wpAny_passesOwn hp (thn (hg _ s5 σ3 H5 x u _ I5' r5 (step x H5 y5)) fun _ s6 ⟨σ6,H6,I6,q6⟩=> ?_)
  refine wpAny_passesOwn hp (thn (hb _ s6 σ6 H6 _ I6 q6) fun f s7 q7=> ?_)
  have again: ∀{σ7:St}{H7:Hp},Inv X (pins++cq fp s5.heap) σ7 H7 s7->N σ7 H7-> ∃m,m<n/\ ∃i σ' H',Inv X pins σ' H' s7/\tn i s7.heap/\(∀b∈fp,H' b=none)/\W i m σ' H':=fun {σ7 H7} I7 n7=>by
   obtain ⟨m',hm,w7⟩:=hN σ7 H7 n7
   refine ⟨m',hm,i+1,σ7,H7,I7.unpinned,T.keep _ _ _ st5 fun b hb o e=>(I7.pin (b,o) (List.mem_append_right _ (List.mem_append_right _ (cM hb e)))).1,fun b hb=> ?_,w7⟩
   obtain ⟨o,e,d⟩:=T.obj _ _ st5 b hb
   exact (I7.pin (b,o) (List.mem_append_right _ (List.mem_append_right _ (cM hb e)))).2.1
  cases f with
  |next=>obtain ⟨σ7,H7,I7,n7⟩:=q7;exact again I7 n7
  |cont=>obtain ⟨σ7,H7,I7,n7⟩:=q7;exact again I7 n7
  |brk=>obtain ⟨σ7,H7,I7,q7⟩:=q7;exact ⟨σ7,H7,I7.unpinned,q7⟩
  |ret v=>obtain ⟨x7,σ7,H7,I7,r7,q7⟩:=q7;exact ⟨x7,σ7,H7,I7.unpinned,r7,q7⟩
end
end L2
namespace L2
open PySem PySem.Spec PyProof.Rows
noncomputable abbrev R2:=V->V->Hp->VK->Prop
noncomputable def OpR (X:Cx) (f:Value->Value->Sem Value) (r:R2):Prop:=
 ∀(pins:List (Addr×Obj)) (s:Shared) (σ:St) (H:Hp) (x y:V) (v u:Value) (Q:VK),Inv X pins σ H s->RelV x v->RelV y u->r x y H Q->
  wpAny (model X.prog X.w) X.A (f v u) (EP X pins σ Q) X.xe s
noncomputable def aX (X:Cx) (f:Value) (r:List V->Hp->VK->Prop):Prop:=
 ∀(pins:List (Addr×Obj)) (s:Shared) (σ:St) (H:Hp) (xs:List V) (us:List Value) (Q:VK),Inv X pins σ H s->Vals xs us->r xs H Q->
  wpAny (model X.prog X.w) X.A (call f us) (EP X pins σ Q) X.xe s
noncomputable def tOp (r:R2) (ta tb:TE):TE:=fun σ H Q=>ta σ H fun x H1=>tb σ H1 fun y H2=>r x y H2 Q
noncomputable def rI (C:Int->Int->Prop) (g:Int->Int->V):R2:=fun x y H Q=> ∃i j,x= .int i/\y= .int j/\C i j/\Q (g i j) H
noncomputable def rI0 (g:Int->Int->V):R2:=fun x y H Q=> ∃i j,x= .int i/\y= .int j/\Q (g i j) H
section
variable {X:Cx}{a b c:Expr}{ta tb tc:TE}{pos:Pos}
theorem binT (ha:PE X a ta) (hb:PE X b tb) {pins:List (Addr×Obj)}{s:Shared}{σ:St}{H:Hp}{R:V->V->Hp->Prop} (I:Inv X pins σ H s)
  (h:ta σ H fun x H1=>tb σ H1 fun y H2=>R x y H2) {Q:Value->Shared->Prop}{f:Value->Value->Sem Value}
  (hf: ∀v u s2 x y H2,Inv X pins σ H2 s2->RelV x v->RelV y u->R x y H2->wpAny (model X.prog X.w) X.A (f v u) Q X.xe s2):
  wpAny (model X.prog X.w) X.A (eval a X.env) (fun v s₁=>wpAny (model X.prog X.w) X.A (eval b X.env) (fun u s₂=>wpAny (model X.prog X.w) X.A (f v u) Q X.xe s₂) X.xe s₁) X.xe s:=by
 refine thn (ha pins s σ H _ I h) fun v s1 ⟨x,H1,I1,r1,q1⟩=> ?_
 refine thn (hb pins s1 σ H1 _ I1 q1) fun u s2 ⟨y,H2,I2,r2,q2⟩=> ?_
 exact hf v u s2 x y H2 I2 r1 r2 q2
theorem eJ {op:Operator}{r:R2} (ho:OpR X (binaryOp op) r) (ha:PE X a ta) (hb:PE X b tb):PE X (.BinOp a op b pos) (tOp r ta tb):=by
 intro pins s σ H Q I h
 exact wpAny_BinOp (binT ha hb I h fun v u s2 x y H2 I2 rx ry q=>ho pins s2 σ H2 x y v u Q I2 rx ry q)
theorem opI {f:Value->Value->Sem Value}{C:Int->Int->Prop}{g:Int->Int->Int}
  (rule: ∀(i j:Int) (t u:Tok) (s:Shared) (Q:Value->Shared->Prop) (E:Value->Shared->Prop),C i j->Q (.int (g i j) s.toks) {s with toks:=s.toks+1}->wpAny (model X.prog X.w) X.A (f (.int i t) (.int j u)) Q E s):
  OpR X f (rI C fun i j=> .int (g i j)):=by
 intro pins s σ H x y v u Q I rx ry h
 obtain ⟨i,j,rfl,rfl,hc,q⟩:=h
 obtain ⟨t,rfl⟩:=rx
 obtain ⟨t',rfl⟩:=ry
 exact rule i j t t' s _ _ hc ⟨.int (g i j),H,I.tok _,⟨_,rfl⟩,q⟩
theorem opI0 {f:Value->Value->Sem Value}{g:Int->Int->Int}
  (rule: ∀(i j:Int) (t u:Tok) (s:Shared) (Q:Value->Shared->Prop) (E:Value->Shared->Prop),Q (.int (g i j) s.toks) {s with toks:=s.toks+1}->wpAny (model X.prog X.w) X.A (f (.int i t) (.int j u)) Q E s):
  OpR X f (rI0 fun i j=> .int (g i j)):=by
 intro pins s σ H x y v u Q I rx ry h
 obtain ⟨i,j,rfl,rfl,q⟩:=h
 obtain ⟨t,rfl⟩:=rx
 obtain ⟨t',rfl⟩:=ry
 exact rule i j t t' s _ _ ⟨.int (g i j),H,I.tok _,⟨_,rfl⟩,q⟩
theorem opB0 {f:Value->Value->Sem Value}{g:Int->Int->Bool}
  (rule: ∀(i j:Int) (t u:Tok) (s:Shared) (Q:Value->Shared->Prop) (E:Value->Shared->Prop),Q (.bool (g i j)) s->wpAny (model X.prog X.w) X.A (f (.int i t) (.int j u)) Q E s):
  OpR X f (rI0 fun i j=> .bl (g i j)):=by
 intro pins s σ H x y v u Q I rx ry h
 obtain ⟨i,j,rfl,rfl,q⟩:=h
 obtain ⟨t,rfl⟩:=rx
 obtain ⟨t',rfl⟩:=ry
 exact rule i j t t' s _ _ ⟨.bl (g i j),H,I,rfl,q⟩
noncomputable def CDiv (i j:Int):Prop:=0<j/\j<1073741824
noncomputable def CMul (i j:Int):Prop:=(-(2^64)<i/\i<2^64) \/(-(2^64)<j/\j<2^64)
theorem CMul.ok {i j:Int} (h:CMul i j):IntMulOk i j:=by
 rcases h with ⟨h1,h2⟩|⟨h1,h2⟩
 ·exact .of_left (intBits_le_64 h1 h2)
 ·exact .of_right (intBits_le_64 h1 h2)
theorem bM:OpR X (binaryOp .Add) (rI0 fun i j=> .int (i+j)):=opI0 fun _ _ _ _ _ _ _ q=>add_int q
theorem cN:OpR X (binaryOp .Sub) (rI0 fun i j=> .int (i-j)):=opI0 fun _ _ _ _ _ _ _ q=>sub_int q
theorem cr:OpR X (binaryOp .FloorDiv) (rI CDiv fun i j=> .int (i/j)):=opI fun i j _ _ _ _ _ hc q=>by
 have h1:(0:Int)<j:=hc.1
 have h2:j<1073741824:=hc.2
 exact floordiv_int (by omega) (by rw [Int.fdiv_eq_ediv_of_nonneg i (by omega)];exact q) (.inl (PyProof.noPylong_small (by omega)))
theorem aN:OpR X (binaryOp .Mod) (rI (fun _ j=>0<j) fun i j=> .int (i%j)):=opI fun i j _ _ _ _ _ hc q=>by
 have h1:(0:Int)<j:=hc
 exact mod_int' (by omega) (by rw [Int.fmod_eq_emod_of_nonneg i (by omega)];exact q)
end
section
variable {X:Cx}{a b c:Expr}{ta tb tc:TE}{pos:Pos}
theorem eK:OpR X (compareOp .Lt) (rI0 fun i j=> .bl (decide (i<j))):=opB0 fun _ _ _ _ _ _ _ q=>lt_int q
theorem iR:OpR X (compareOp .Gt) (rI0 fun i j=> .bl (decide (j<i))):=opB0 fun _ _ _ _ _ _ _ q=>gt_int q
theorem OpR.or {f:Value->Value->Sem Value}{r r':R2} (h:OpR X f r) (h':OpR X f r'):OpR X f (fun x y H Q=>r x y H Q \/r' x y H Q):=by
 intro pins s σ H x y v u Q I rx ry q
 rcases q with q|q
 ·exact h pins s σ H x y v u Q I rx ry q
 ·exact h' pins s σ H x y v u Q I rx ry q
theorem aJ (b:Expr) {op:CmpOp} (h:op≠ .In:=by decide) (h2:op≠ .NotIn:=by decide):behindInMarks op b=false:=by
 have e1:(op==CmpOp.In)=false:=by cases op<;>first|rfl|exact absurd rfl h
 have e2:(op==CmpOp.NotIn)=false:=by cases op<;>first|rfl|exact absurd rfl h2
 cases b<;>simp [behindInMarks,e1,e2]
theorem iS {op:CmpOp}{r:R2} (ho:OpR X (compareOp op) r) (ha:PE X a ta) (hb:PE X b tb) (hm:behindInMarks op b=false):PE X (.Compare a [op] [b] pos) (tOp r ta tb):=by
 intro pins s σ H Q I h
 exact wpAny_Compare1 (binT ha hb I h fun v u s2 x y H2 I2 rx ry q=>ho pins s2 σ H2 x y v u Q I2 rx ry q) hm
noncomputable def iU (t:TE):TT:=fun σ H Q=>t σ H fun x H'=> ∃k,x= .bl k/\Q k H'
theorem iV {op:CmpOp}{r:R2} (ho:OpR X (compareOp op) r) (ha:PE X a ta) (hb:PE X b tb) (hm:behindInMarks op b=false):PT X (.Compare a [op] [b] pos) (iU (tOp r ta tb)):=by
 intro pins s σ H Q I h
 refine wpAny_isTrue_Compare1 (thn (ha pins s σ H _ I h) fun v s1 ⟨x,H1,I1,r1,q1⟩=>thn (hb pins s1 σ H1 _ I1 q1) fun u s2 ⟨y,H2,I2,r2,q2⟩=>
  thn (ho pins s2 σ H2 x y v u _ I2 r1 r2 q2) fun c s3 ⟨z,H3,I3,r3,k,e,q3⟩=> ?_) hm
 subst e
 cases r3
 exact wpAny_truthy_bool ⟨H3,I3,q3⟩
theorem cu:(sizeLine:Nat)<2^63:=by rw [sizeLine_eq];decide
theorem cO {x:V}{us:List Value} (r:Vals [x] us): ∃u,us=[u]/\RelV x u:=by
 cases r with
 |cons r1 r2=>cases r2;exact ⟨_,rfl,r1⟩
theorem iW:aX X (.type "str") (fun xs H Q=> ∃i,xs=[.int i]/\i.natAbs.log2<1920/\Q (.str (toString i)) H):=by
 intro pins s σ H xs us Q I r h
 obtain ⟨i,rfl,hz,q⟩:=h
 obtain ⟨u,rfl,t,rfl⟩:=cO r
 exact PySem.P.str_of_int hz ⟨.str _,H,I.tok _,⟨_,rfl⟩,q⟩
end
end L2
namespace L2
open PySem PySem.Spec PyProof.Rows
structure ObjM (h:Heap) (x dx C:Addr) (mA:Str->Option Value):Prop where
 obj:h.get? x=some (PySem.W.instObj C dx)
 ns:h.Ns1 dx mA
 ne:dx≠x
theorem iX {h:Heap}{dx:Addr}{mA:Str->Option Value} (n:h.Ns1 dx mA): ∃od,h.get? dx=some od/\ ∀name,PySem.W.lookIn name od=some (mA name):=by
 obtain ⟨o,es,ep,ho,hd,hk,_,hm⟩:=n
 refine ⟨o,ho,fun name=> ?_⟩
 have e:=hm name
 unfold nsFind findBy at e
 rw [<-Array.find?_toList] at e
 unfold PySem.W.lookIn
 rw [hd]
 dsimp only
 split
 ·rename_i y q
  rw [q] at e
  exact congrArg some e
 ·rename_i q
  rw [q] at e
  have a:es.toList.any (·.refKey)=false:=by
   rw [List.any_eq_false]
   intro y hy
   obtain ⟨z,t,hkey⟩:=hk y (Array.mem_toList_iff.mp hy)
   simp [DictEntry.refKey,hkey]
  have a': ¬es.toList.any (·.refKey)=true:=by rw [a];exact Bool.false_ne_true
  rw [if_neg a']
  exact congrArg some e
theorem ObjM.look {h:Heap}{x dx C:Addr}{mA:Str->Option Value} (I:ObjM h x dx C mA): ∃od,PySem.W.InstAt h x (PySem.W.instObj C dx) C (some od)/\ ∀name,PySem.W.lookIn name od=some (mA name):=
 let ⟨od,ho,hl⟩:=iX I.ns
 ⟨od,⟨I.obj,rfl,rfl,ho⟩,hl⟩
section
variable {prog:Program}{w:World}{A:Around}{E:Value->Shared->Prop}{s:Shared}{K:PySem.W.Frag}{x dx C f:Addr}{mA:Str->Option Value}{name:Str}{v:Value}
end
theorem RelO.some_of {v:V}{o:Option Value} (r:RelO (some v) o): ∃u,o=some u/\RelV v u:=by
 cases o with
 |none=>exact (show False from r).elim
 |some u=>exact ⟨u,rfl,r⟩
theorem RelO.none_of {o:Option Value} (r:RelO none o):o=none:=by
 cases o with
 |none=>rfl
 |some u=>exact (show False from r).elim
section
variable {P:Program}{w:World}{H H':Hp}{h h':Heap}{a C dx:Addr}{fs fs':List (Str×V)}
theorem iY (hok:HOk P w H h) (e:H a=some (.ins C dx fs)): ∃mA,ObjM h a dx C mA/\(∀f,RelO (fs.lookup f) (mA f))/\PySem.Within mA (fs.map (·.1))/\fs.length<=1000/\H dx=some (.own a):=by
 obtain ⟨d,z,ne,ob,mA,n,r,q⟩:=(show aq P w H h a (.ins C dx fs) from hok a _ e)
 exact ⟨mA,⟨ob,n,ne⟩,r,q,z,d⟩
end
structure Cls (K:PySem.W.Frag) (C:Addr):Prop where
 pg:PySem.W.plainGet K C Str.empty=true
 hd:PySem.W.hasDictIn K C=true
 po:PySem.W.plainOver K C=true
 sa:PySem.W.findIn K (.ref C) "__setattr__"=some (some (.builtin "object.__setattr__"))
theorem Cls.get {K:PySem.W.Frag}{C:Addr} (c:Cls K C) (f:Str):PySem.W.plainGet K C f=true:=c.pg
section
variable {X:Cx}{pins:List (Addr×Obj)}{σ:St}{H:Hp}{s:Shared}{a C dx:Addr}{fs:List (Str×V)}{f:Str}{v:V}{A:Around}{E:Value->Shared->Prop}
end
section
variable {X:Cx}{o e value:Expr}{f:Str}{pos pos' tpos:Pos}{ta tv:TE}
end
section
variable {X:Cx}{pins:List (Addr×Obj)}{σ:St}{H:Hp}{s:Shared}{A:Around}{E:Value->Shared->Prop}{Q:Value->Shared->Prop}{c:Value}{b:Bool}
inductive TyOf (K:PySem.W.Frag) (H:Hp):V->Value->Prop where
 |non:TyOf K H .non (.type "NoneType")
 |bl (x:Bool):TyOf K H (.bl x) (.type "bool")
 |int (i:Int):TyOf K H (.int i) (.type "int")
 |str (x:Str):TyOf K H (.str x) (.type "str")
 |flt (x:UInt64):TyOf K H (.flt x) (.type "float")
 |lst {a:Addr}{xs:List V} (e:H a=some (.lst xs)):TyOf K H (.ref a) (.type "list")
 |frz {a:Addr}{o:Obj}{xs:List V} (e:H a=some (.frz o (.lst xs))):TyOf K H (.ref a) (.type "list")
 |tup {a:Addr}{xs:List V} (e:H a=some (.tup xs)):TyOf K H (.ref a) (.type "tuple")
 |dK {a:Addr}{kvs:List (Key×V)} (e:Rd H a (.dK kvs)):TyOf K H (.ref a) (.type "dict")
 |dT {a:Addr}{kvs:List (List Key×V)} (e:Rd H a (.dT kvs)):TyOf K H (.ref a) (.type "dict")
 |ins {a C dx:Addr}{fs:List (Str×V)} (e:H a=some (.ins C dx fs)) (cl:Cls K C) (ha:PySem.W.findIn K (.ref C) "__class__"=some (some (.builtin "object.__class__")))
   (hn:PySem.W.specialIn K (.builtin "object.__class__") "__get__"=some (some (.builtin "getset_descriptor.__get__"))) (htk:PySem.W.takesIn K (.builtin "object.__class__")=some true)
   (hm:PySem.W.mroIn K C (.type "object")=some true):TyOf K H (.ref a) (.ref C)
theorem iZ {x:V}{u t:Value} (I:Inv X pins σ H s) (rx:RelV x u) (ty:TyOf X.K H x t) (e:PySem.W.kitOne X.K t c=some b) (h: ∀tk,Q (.bool b) {s with toks:=tk}):
  wpAny (model X.prog X.w) A (call (.builtin "isinstance") [u,c]) Q E s:=by
 cases ty with
 |non=>cases (show u=Value.none from rx);exact PySem.W.kia_one PySem.W.kitx_none I.kIn True.intro e (fun z=>nomatch z) h
 |bl y=>cases (show u=Value.bool y from rx);exact PySem.W.kia_one PySem.W.kitx_bool I.kIn True.intro e (fun z=>nomatch z) h
 |int i=>obtain ⟨t,q⟩:=(show∃t,u=Value.int i t from rx);cases q;exact PySem.W.kia_one PySem.W.kitx_int I.kIn True.intro e (fun z=>nomatch z) h
 |str y=>obtain ⟨t,q⟩:=(show∃t,u=Value.str y t from rx);cases q;exact PySem.W.kia_one PySem.W.kitx_str I.kIn True.intro e (fun z=>nomatch z) h
 |flt y=>obtain ⟨t,q⟩:=(show∃t,u=Value.float y t from rx);cases q;exact PySem.W.kia_one PySem.W.kitx_float I.kIn True.intro e (fun z=>nomatch z) h
 | @lst a xs ea=>
  cases (show u=Value.ref a from rx)
  obtain ⟨_,_,n,_,h1⟩:=(show aq X.prog X.w H s.heap a (.lst xs) from I.hok a _ ea)
  exact PySem.W.kia_one PySem.W.kitx_list I.kIn ⟨_,h1,rfl⟩ e (fun z=>nomatch z) h
 | @frz a ob xs ea=>
  cases (show u=Value.ref a from rx)
  obtain ⟨_,_,_,n,_,h1⟩:=(show aq X.prog X.w H s.heap a (.frz ob (.lst xs)) from I.hok a _ ea)
  exact PySem.W.kia_one PySem.W.kitx_list I.kIn ⟨_,h1,rfl⟩ e (fun z=>nomatch z) h
 | @tup a xs ea=>
  cases (show u=Value.ref a from rx)
  obtain ⟨_,_,_,p⟩:=(show aq X.prog X.w H s.heap a (.tup xs) from I.hok a _ ea)
  obtain ⟨o,h1,h2,_⟩:=p
  exact PySem.W.kia_one PySem.W.kitx_tuple I.kIn ⟨o,h1,h2⟩ e (fun z=>nomatch z) h
 | @dK a kvs ea=>
  cases (show u=Value.ref a from rx)
  obtain ⟨_,_,vs,_,p⟩:=(show aq X.prog X.w H s.heap a (.dK kvs) from ea.ok I.hok)
  obtain ⟨o,es,ep,h1,h2,_⟩:=p
  exact PySem.W.kia_one PySem.W.kitx_dict I.kIn ⟨o,h1,h2.1⟩ e (fun z=>nomatch z) h
 | @dT a kvs ea=>
  cases (show u=Value.ref a from rx)
  obtain ⟨_,_,xs,_,o,es,ep,h1,h2,_⟩:=(show aq X.prog X.w H s.heap a (.dT kvs) from ea.ok I.hok)
  exact PySem.W.kia_one PySem.W.kitx_dict I.kIn ⟨o,h1,h2.1⟩ e (fun z=>nomatch z) h
 | @ins a C dx fs ea cl ha hn htk hm=>
  cases (show u=Value.ref a from rx)
  obtain ⟨mA,O,_⟩:=iY I.hok ea
  obtain ⟨od,J,_⟩:=O.look
  exact PySem.W.kia_one (PySem.W.kitx_own (cl.get _) cl.hd ha hn htk hm) I.kIn J e (fun z=>nomatch z) h
end
end L2
namespace L2
open PySem PySem.Spec PyProof.Rows
structure Room (k:Nat) (A:Around):Prop where
 hd:A.handled=none
 dp:A.depth+3*k+5<recursionLimit
 un:A.units+16*k+200<cLine
theorem Room.mono {j k:Nat}{A:Around} (r:Room k A) (h:j<=k):Room j A:=⟨r.hd,by have:=r.dp;omega,by have:=r.un;omega⟩
theorem Room.deeper {k:Nat}{A:Around} (r:Room (k+1) A) (env:Env):Room k (A.deeper env):=
 ⟨r.hd,by have:=r.dp;show A.depth+1+3*k+5<_;omega,by have:=r.un;show A.units+3+16*k+200<_;omega⟩
theorem Room.depth {k:Nat}{A:Around} (r:Room k A):A.depth<recursionLimit:=by have:=r.dp;omega
theorem Room.units {k:Nat}{A:Around} (r:Room k A):A.units+64<cLine:=by have:=r.un;omega
noncomputable def tNil:TA:=fun _ H Q=>Q [] H
noncomputable def i0 (ta:TE) (tr:TA):TA:=fun σ H Q=>ta σ H fun x H1=>tr σ H1 fun xs H2=>Q (x::xs) H2
section
variable {X:Cx}{e:Expr}{es:List Expr}{te:TE}{t:TA}{pos:Pos}
theorem cw:PA X [] tNil:=fun _ _ _ _ H Q I h=>Calls.spliced_nil ⟨[],H,I,.nil,h⟩
theorem bp (ha:PE X e te) (hr:PA X es t) (hs:starEach (e::es) X.env=(false,eval e X.env)::starEach es X.env:=by rfl):PA X (e::es) (i0 te t):=by
 intro pos pins s σ H Q I h
 rw [hs]
 show wpAny _ _ (spliced ((false,eval e X.env)::backTo pos (starEach es X.env))) _ _ s
 refine Calls.spliced_cons (thn (ha pins s σ H _ I h) fun u s1 ⟨x,H1,I1,r1,q1⟩=> ?_)
 exact thn (hr pos pins s1 σ H1 _ I1 q1) fun us s2 ⟨xs,H2,I2,r2,q2⟩=>⟨x::xs,H2,I2,.cons r1 r2,q2⟩
noncomputable def tTup (t:TA):TE:=fun σ H Q=>t σ H fun xs H1=>xs.length<=sizeLine/\ ∀p,H1 p=none->Q (.ref p) (upd H1 p (.tup xs))
noncomputable def tLst (t:TA):TE:=fun σ H Q=>t σ H fun xs H1=>xs.length<=sizeLine/\ ∀p,H1 p=none->Q (.ref p) (upd H1 p (.lst xs))
theorem i1 {x1} (h:PA X es t):PE X (.Tuple es x1 pos) (tTup t):=by
 intro pins s σ H Q I hq
 refine wpAny_Tuple_spliced (thn (h pos pins s σ H _ I hq) fun us s1 ⟨xs,H1,I1,r,z,q⟩=>⟨by rw [<-r.length];exact z,?_⟩)
 have hf:H1 s1.heap.objs.size=none:=I1.hok.fresh (Nat.le_refl _)
 refine ⟨.ref s1.heap.objs.size,upd H1 s1.heap.objs.size (.tup xs),I1.laid (t':=s1.toks) (fun b u e=>Heap.get?_push_of_some _ e) (Nat.le_refl _) ?_,rfl,q _ hf⟩
 exact ⟨z,us,r,⟨_,Heap.get?_push_size _ rfl,rfl,⟨_,rfl⟩,rfl⟩⟩
theorem eL (h:PA X es t):PE X (.List es pos) (tLst t):=by
 intro pins s σ H Q I hq
 refine wpAny_List_spliced (thn (h pos pins s σ H _ I hq) fun us s1 ⟨xs,H1,I1,r,z,q⟩=>⟨by rw [<-r.length];exact z,?_⟩)
 have hf:H1 s1.heap.objs.size=none:=I1.hok.fresh (Nat.le_refl _)
 refine ⟨.ref s1.heap.objs.size,upd H1 s1.heap.objs.size (.lst xs),I1.laid (t':=s1.toks) (fun b u e=>Heap.get?_push_of_some _ e) (Nat.le_refl _) ?_,rfl,q _ hf⟩
 exact ⟨z,us,0,r,Heap.get?_push_size _ rfl⟩
end
noncomputable abbrev Sp:=List V->Hp->VK->XK->Prop
noncomputable abbrev CXT:=List Env->Hp->Shared->XK->Value->Shared->Prop
structure Env0 (P:Program) (w:World) (K:PySem.W.Frag) (mg:Str->Option Value) (base:Heap) (A:Around) (outer:List Env) (s:Shared) (H:Hp):Prop where
 frames:A.frames=some outer
 mod:Mod K mg base
 bs: ∀b o,base.get? b=some o->s.heap.get? b=some o/\H b=none
 bsz:base.objs.size<=s.heap.objs.size
 funs:s.heap.FunFrames base outer
 frf: ∀b∈frs outer,H b=none
 hok:HOk P w H s.heap
 bare:AllBare s.gens
noncomputable def CE (outer:List Env) (P:Program) (w:World) (H:Hp) (s:Shared) (Q:VK) (u:Value) (s':Shared):Prop:=
 ∃v H',s'.os=s.os/\AllBare s'.gens/\Un (frs outer) [] H H' s.heap s'.heap/\HOk P w H' s'.heap/\RelV v u/\Q v H'
noncomputable def CR (CX:CXT) (outer:List Env) (P:Program) (w:World) (H:Hp) (s:Shared) (Q:VK) (E:XK) (r:Result) (s':Shared):Prop:=
 match r with
 | .ok (.ret u)=>CE outer P w H s Q u s'
 | .ok _=>False
 | .error e=>CX outer H s E e s'
structure FnOk (P:Program) (w:World) (K:PySem.W.Frag) (mg:Str->Option Value) (base:Heap) (CX:CXT) (k:Nat) (f:Addr) (fd:FuncData) (ps:List Str) (sp:Sp):Prop where
 len: ∀vs H Q E,sp vs H Q E->vs.length=ps.length
 run: ∀(A:Around) (outer:List Env) (s:Shared) (H:Hp) (args:Args) (us:List Value) (vs:List V) (Q:VK) (E:XK),Room k A->Env0 P w K mg base A outer s H->BindsTo s fd args (ps.zip us)->Vals vs us->sp vs H Q E->
  codeAny (model P w) A (.call (.ref f) args) (CR CX outer P w H s Q E) s
theorem FnOk.mono {P:Program}{w:World}{K:PySem.W.Frag}{mg:Str->Option Value}{base:Heap}{CX:CXT}{j k:Nat}{f:Addr}{fd:FuncData}{ps:List Str}{sp:Sp} (F:FnOk P w K mg base CX j f fd ps sp) (h:j<=k):
  FnOk P w K mg base CX k f fd ps sp:=⟨F.len,fun A outer s H args us vs Q E hr=>F.run A outer s H args us vs Q E (hr.mono h)⟩
theorem FnOk.imp {P:Program}{w:World}{K:PySem.W.Frag}{mg:Str->Option Value}{base:Heap}{CX:CXT}{k:Nat}{f:Addr}{fd:FuncData}{ps:List Str}{sp sp':Sp} (F:FnOk P w K mg base CX k f fd ps sp)
  (h: ∀vs H Q E,sp' vs H Q E->sp vs H Q E):FnOk P w K mg base CX k f fd ps sp':=
 ⟨fun vs H Q E q=>F.len vs H Q E (h _ _ _ _ q),fun A outer s H args us vs Q E hr he hb hv hs=>F.run A outer s H args us vs Q E hr he hb hv (h _ _ _ _ hs)⟩
section
variable {X:Cx}{pins:List (Addr×Obj)}{σ:St}{H:Hp}{s s':Shared}
theorem Inv.env0 (I:Inv X pins σ H s):Env0 X.prog X.w X.K X.mg X.base X.A X.stack s H:=
 ⟨I.ok.frames,I.ok.mod,I.bs,Nat.le_trans I.ok.bsz I.sz,I.stack,I.stkFree,I.hok,I.bare⟩
theorem Inv.after {Q:VK}{u:Value} (I:Inv X pins σ H s) (h:CE X.stack X.prog X.w H s Q u s'):EP X pins σ Q u s':=by
 obtain ⟨v,H',os,bare,un,hok,r,q⟩:=h
 obtain ⟨hh,g,d,t,os'⟩:=s'
 obtain rfl:os'=s.os:=os
 exact ⟨v,H',I.call (h':=hh) (g':=g) (d':=d) (t':=t) (ch:=[]) un hok bare (fun b z=>absurd z (by simp)),r,q⟩
end
noncomputable def dt (sp:Sp) (dvs:List V) (E:XK) (t:TA):TE:=fun σ H Q=>t σ H fun vs H1=>sp (vs++dvs) H1 Q E
noncomputable def bq (K:PySem.W.Frag) (fd:FuncData) (ps:List Str) (ds:List Value):Prop:=
 ∀(s:Shared) (us:List Value),K.In s.heap->(us++ds).length=ps.length->BindsTo s fd ⟨us,[]⟩ (ps.zip (us++ds))
theorem bq.all {K:PySem.W.Frag}{fd:FuncData}{ps:List Str} (h: ∀us:List Value,us.length=ps.length->bindArgs fd ⟨us,[]⟩=pure (ps.zip us)):bq K fd ps []:=fun s us _ hl=>by
 rw [List.append_nil] at hl|-
 exact .of_eq (h us hl)
noncomputable def du (CX:CXT) (X:Cx) (E:XK):Prop:= ∀(pins:List (Addr×Obj)) (σ:St) (H:Hp) (s:Shared) (e:Value) (s':Shared),Inv X pins σ H s->CX X.stack H s E e s'->X.xe e s'
section
variable {X:Cx}{CX:CXT}{k:Nat}{f C:Addr}{fd:FuncData}{ps:List Str}{sp:Sp}{dvs:List V}{ds:List Value}{E:XK}{x m:Str}{p pos apos:Pos}{e o:Expr}{es:List Expr}{ta:TE}{t:TA}
theorem i2 {pins:List (Addr×Obj)}{σ:St}{H:Hp}{s:Shared}{Q:VK}{us:List Value}{vs:List V} (F:FnOk X.prog X.w X.K X.mg X.base CX k f fd ps sp) (hr:Room k X.A) (hb:bq X.K fd ps ds) (hd:Vals dvs ds) (hx:du CX X E)
  (I:Inv X pins σ H s) (r:Vals vs us) (h:sp (vs++dvs) H Q E):wpAny (model X.prog X.w) X.A (call (.ref f) us) (EP X pins σ Q) X.xe s:=by
 have r2:Vals (vs++dvs) (us++ds):=r.append hd
 have hl:(us++ds).length=ps.length:=by rw [<-r2.length];exact F.len _ _ _ _ h
 refine wpAny_call (codeAny_mono (F.run X.A X.stack s H ⟨us,[]⟩ (us++ds) (vs++dvs) Q E hr I.env0 (hb s us I.kIn hl) r2 h) fun r s' hq=> ?_)
 cases r with
 |error e=>exact hx pins σ H s e s' I hq
 |ok fl=>
  cases fl with
  |ret u=>exact I.after hq
  |next=>exact False.elim hq
  |brk=>exact False.elim hq
  |cont=>exact False.elim hq
theorem i3 (F:FnOk X.prog X.w X.K X.mg X.base CX k f fd ps sp) (hr:Room k X.A) (hg:Gl X x) (hm:X.mg x=some (.ref f)) (hk:PySem.W.keepIn X.K (.ref f)=true) (hb:bq X.K fd ps ds) (hd:Vals dvs ds) (hx:du CX X E)
  (ha:PA X (e::es) t) (hdb:(x==("__debug__":Str))=false:=by decide) (he:starEach (e::es) X.env=(false,eval e X.env)::starEach es X.env:=by rfl) (hpl:(backTo pos (starEach es X.env)).any (·.1)=false:=by rfl):
  PE X (.Call (.Name x p) (e::es) [] pos) (dt sp dvs E t):=by
 intro pins s σ H Q I h
 refine wpAny_Call_Name_kw (eG I hg hm ?_ hdb)
 refine PySem.W.callWith_K (h₀:=X.base) I.ok.mod.kin hk (thn (ha pos pins s σ H _ I h) fun us s1 ⟨vs,H1,I1,r,q⟩=>⟨I1.kIn,?_⟩) he hpl
 exact i2 F hr hb hd hx I1 r q
end
section
variable {X:Cx}{CX:CXT}{k:Nat}{f C:Addr}{fd:FuncData}{ps ks:List Str}{sp:Sp}{E:XK}{x m:Str}{p pos apos kpos:Pos}{e o:Expr}{es:List Expr}{kws:List Keyword}{te ta:TE}{t tk:TA}{nm:Option Str}
variable {g:List Value->List Value->List Value}{gV:List V->List V->List V}
end
structure aG (N P:List Str) (sc:Scope):Prop where
 kind:sc.kind= .function
 co:sc.isCoroutine=false
 gen:sc.isGenerator=false
 nd:N.Nodup
 pre:N.take P.length=P
 par: ∀x∈P,sc.names.lookup x=some .local \/sc.names.lookup x=some .cell
 nofree: ∀y∈sc.names,y.2≠ .free
theorem eM {kindOf:Str->Option NameKind}{x:Str}: ∀{binds:List (Str×Value)}{m:Str->Option Value},(∀v,(x,v)∉binds)->bindL kindOf binds m x=m x
 |[],_,_=>rfl
 |(n,v)::r,m,h=>by
  unfold bindL
  rw [eM fun w hw=>h w (List.mem_cons_of_mem _ hw)]
  split
  ·have:x≠n:=by rintro rfl;exact h v List.mem_cons_self
   simp [this]
  ·rfl
theorem eN {kindOf:Str->Option NameKind}{x:Str}: ∀{binds:List (Str×Value)}{m:Str->Option Value},(∀v,(x,v)∉binds)->bindC kindOf binds m x=m x
 |[],_,_=>rfl
 |(n,v)::r,m,h=>by
  unfold bindC
  rw [eN fun w hw=>h w (List.mem_cons_of_mem _ hw)]
  split
  ·rfl
  ·have:x≠n:=by rintro rfl;exact h v List.mem_cons_self
   simp [this]
theorem eO {kindOf:Str->Option NameKind}{x:Str}{v:Value}: ∀{P:List Str}{vs:List Value}{i:Nat}{m:Str->Option Value},P.Nodup->P[i]?=some x->vs[i]?=some v->kindOf x=some .local->
  bindL kindOf (P.zip vs) m x=some v
 |[],_,_,_,_,h,_,_=>by simp at h
 |_::_,[],_,_,_,_,h,_=>by simp at h
 |p::P,w::vs,0,m,nd,h1,h2,hk=>by
  simp at h1 h2;subst h1;subst h2
  show bindL kindOf ((p,w)::P.zip vs) m p=_
  unfold bindL
  rw [eM fun v hv=>(List.nodup_cons.mp nd).1 (List.of_mem_zip hv).1,if_pos hk]
  simp
 |p::P,w::vs,i+1,m,nd,h1,h2,hk=>by
  show bindL kindOf ((p,w)::P.zip vs) m x=_
  unfold bindL
  exact eO (i:=i) (List.nodup_cons.mp nd).2 (by simpa using h1) (by simpa using h2) hk
theorem eP {kindOf:Str->Option NameKind}{x:Str}{v:Value}: ∀{P:List Str}{vs:List Value}{i:Nat}{m:Str->Option Value},P.Nodup->P[i]?=some x->vs[i]?=some v->kindOf x≠some .local->
  bindC kindOf (P.zip vs) m x=some v
 |[],_,_,_,_,h,_,_=>by simp at h
 |_::_,[],_,_,_,_,h,_=>by simp at h
 |p::P,w::vs,0,m,nd,h1,h2,hk=>by
  simp at h1 h2;subst h1;subst h2
  show bindC kindOf ((p,w)::P.zip vs) m p=_
  unfold bindC
  rw [eN fun v hv=>(List.nodup_cons.mp nd).1 (List.of_mem_zip hv).1,if_neg hk]
  simp
 |p::P,w::vs,i+1,m,nd,h1,h2,hk=>by
  show bindC kindOf ((p,w)::P.zip vs) m x=_
  unfold bindC
  exact eP (i:=i) (List.nodup_cons.mp nd).2 (by simpa using h1) (by simpa using h2) hk
noncomputable def aH (N:List Str) (vs:List V):St:=vs.map some++List.replicate (N.length-vs.length) none
noncomputable def cxOf (CX:CXT) (P:Program) (w:World) (K:PySem.W.Frag) (mg:Str->Option Value) (base:Heap) (N:List Str) (qual:Str) (scope:Scope) (f:Addr) (cd:Value) (A:Around) (outer:List Env) (s:Shared) (H:Hp) (E:XK):Cx where
 prog:=P
 w:=w
 K:=K
 mg:=mg
 base:=base
 A:=A.deeper (envOfC qual scope s.heap.objs.size f cd)
 N:=N
 s₀:=s
 H₀:=H
 env:=envOfC qual scope s.heap.objs.size f cd
 outer:=outer
 stack:=envOfC qual scope s.heap.objs.size f cd::outer
 ex:=[]
 calm:=true
 fn:=fun _=>true
 pn:=[]
 xe:=fun e s'=>wpAny (model P w) (A.deeper (envOfC qual scope s.heap.objs.size f cd)) (leaving (envOfC qual scope s.heap.objs.size f cd) e) (fun _ s''=>CX outer H s E e s'') (fun e' s''=>CX outer H s E e' s'') s'
theorem eQ {sc:Scope}{n:Nat}{x:Str} (h:sc.names.lookup x=some .cell): ∃c,(cellsFrom n sc.names []).lookup x=some c:=by
 have q:=PySem.W.cellsFrom_some sc.names n [] (.inl h)
 exact Option.isSome_iff_exists.mp q
theorem i4 {CX:CXT}{P:Program}{w:World}{K:PySem.W.Frag}{mg:Str->Option Value}{base:Heap}{N ps:List Str}{qual:Str}{scope:Scope}{f:Addr}{cd:Value}{A:Around}{outer:List Env}{s s1:Shared}{H:Hp}{E:XK}{us:List Value}{vs:List V}
  (S:aG N ps scope) (hd:A.handled=none) (e0:Env0 P w K mg base A outer s H) (hl:vs.length=ps.length) (r:Vals vs us)
  (x:InCallC s s.heap.objs.size (bindL (envOfC qual scope s.heap.objs.size f cd).kindOf (ps.zip us) fun _=>none) (cellsFrom (s.heap.objs.size+1) scope.names []) (bindC (envOfC qual scope s.heap.objs.size f cd).kindOf (ps.zip us) fun _=>none) s1):
  Inv (cxOf CX P w K mg base N qual scope f cd A outer s H E) [] (aH N vs) H s1:=by
 have hpl:ps.length<=N.length:=by have:=congrArg List.length S.pre;rw [List.length_take] at this;omega
 obtain ⟨h1,tk,rfl,hk⟩:=x.done
 have noA: ∀b:Addr,b∉(cxOf CX P w K mg base N qual scope f cd A outer s H E).ex:=fun b z=>absurd (show b∈([]:List Addr) from z) (by simp)
 refine ⟨⟨e0.mod,S.kind,rfl,rfl,Nat.le_refl _,fun y z c h1 h2=> ?_,fun y hy=> ?_,fun y c _ h=> ?_,fun _=>hd,Around.frames_deeper e0.frames,.inr ⟨rfl,rfl⟩,fun b z=>absurd z (noA b),e0.bs,e0.bsz,fun b _ _=>noA b,fun b z=>absurd z (noA b),e0.funs,e0.frf⟩,
  rfl,e0.bare,Un.kept hk,⟨_,x.toInCall.ns,fun i y v h1 h2 h3=> ?_⟩,fun y c h=>⟨_,x.cell y c h⟩,e0.hok.fresh (Nat.le_refl _),fun y c h=> ?_,fun p hp=>absurd (show p∈([]:List (Addr×Obj)) from hp) (by simp),e0.hok.kept hk,?_⟩
 ·exact name_of_addr x.apart (PySem.mem_of_lookup h1) (PySem.mem_of_lookup h2)
 ·have hy:scope.names.lookup y=some .cell \/scope.names.lookup y=some .free:=hy
  rcases hy with hy|hy
  ·exact eQ hy
  ·exact absurd rfl (S.nofree _ (PySem.mem_of_lookup hy))
 ·exact Nat.le_of_lt (x.above y c (PySem.mem_of_lookup h))
 ·have hi:i<vs.length:=by
   unfold aH at h2
   by_cases hi:i<vs.length
   ·exact hi
   ·rw [List.getElem?_append_right (by simpa using hi)] at h2
    rw [List.getElem?_replicate] at h2
    split at h2<;>cases h2
  have ha:vs[i]?=some v:=by
   unfold aH at h2
   rw [List.getElem?_append_left (by simpa using hi),List.getElem?_map] at h2
   cases e:vs[i]? with
   |none=>rw [e] at h2;cases h2
   |some a=>rw [e] at h2;cases h2;rfl
  obtain ⟨u,hu,rv⟩:=r.get ha
  have hp:ps[i]?=some y:=by
   rw [<-S.pre,List.getElem?_take_of_lt (by omega)];exact h1
  have ndP:ps.Nodup:=by rw [<-S.pre];exact S.nd.sublist (List.take_sublist _ _)
  refine ⟨u,rv,?_⟩
  rcases S.par y (List.mem_of_getElem? hp) with k|k
  ·exact .inl ⟨k,eO ndP hp hu k⟩
  ·obtain ⟨c,e⟩:=eQ (n:=s.heap.objs.size+1) k
   refine .inr ⟨.inl k,c,e,?_⟩
   have q:=x.cell y c e
   rw [eP ndP hp hu (by show scope.names.lookup y≠_;rw [k];decide)] at q
   exact q
 ·exact e0.hok.fresh (Nat.le_of_lt (x.above y c (PySem.mem_of_lookup h)))
 ·unfold aH
  show _=N.length
  rw [List.length_append,List.length_map,List.length_replicate]
  omega
theorem i5 {CX:CXT}{P:Program}{w:World}{K:PySem.W.Frag}{mg:Str->Option Value}{base:Heap}{k:Nat}{f:Addr}{name qual:Str}{params:Arguments}{body:List Stmt}{scope:Scope}{dV kV doc pm cdv ct oc:Value}{an od:Option Addr}
  {osl:Array (Option Value)}{N ps:List Str}{sp:Sp} (lk:K.lookup f=some ⟨oc,od,.func (PySem.W.fnOf name qual params body scope dV kV doc pm an cdv ct),osl⟩) (hcd:PySem.W.codeIn K cdv qual=true) (S:aG N ps scope)
  (len: ∀vs H Q E,sp vs H Q E->vs.length=ps.length)
  (hbody: ∀(A:Around) (outer:List Env) (s:Shared) (H:Hp) (vs:List V) (Q:VK) (E:XK),Room k (A.deeper (envOfC qual scope s.heap.objs.size f cdv))->sp vs H Q E->
   ∃t,PSs (cxOf CX P w K mg base N qual scope f cdv A outer s H E) body t/\t {nx:=fun _ H'=>Q .non H',rt:=Q} (aH N vs) H):
  FnOk P w K mg base CX (k+1) f (PySem.W.fnOf name qual params body scope dV kV doc pm an cdv ct) ps sp:=by
 refine ⟨len,fun A outer s H args us vs Q E hr e0 hb r hsp=> ?_⟩
 have hl:=len _ _ _ _ hsp
 have KX:K.In s.heap:=e0.mod.kin.keeps fun b o e=>(e0.bs b o e).1
 have lim:s.heap.NoLimit:=e0.mod.nolimit.keeps fun b o e=>(e0.bs b o e).1
 have hkind: ∀y∈ps.zip us,scope.names.lookup y.1=some .local \/(scope.names.lookup y.1=some .cell/\((cellsFrom (s.heap.objs.size+1) scope.names []).lookup y.1).isSome=true):=fun ⟨n,v⟩ hy=>by
  rcases S.par n (List.of_mem_zip hy).1 with q|q
  ·exact .inl q
  ·exact .inr ⟨q,PySem.W.cellsFrom_some _ _ _ (.inl q)⟩
 refine codeAny_call_function hr.depth (KX _ _ lk) rfl S.co S.gen rfl (PySem.W.codeRec_of KX hcd) (hb _ _ _ _ ?_)
 refine wpAny_newFunctionEnv_cells S.kind hkind fun env he s1 x=> ?_
 subst he
 refine ⟨lim.keeps x.toInCall.keep,codeAny_func ?_⟩
 obtain ⟨t,ht,hq⟩:=hbody A outer s H vs Q E (hr.deeper _) hsp
 have I:Inv (cxOf CX P w K mg base N qual scope f cdv A outer s H E) [] (aH N vs) H s1:=i4 S hr.hd e0 hl r x
 refine wpAny_mono (ht [] s1 (aH N vs) H _ I hq) (fun fl s' hs=> ?_) fun e s' hs=>hs
 have fin: ∀{σ':St}{H':Hp}{v:V}{u:Value},Inv (cxOf CX P w K mg base N qual scope f cdv A outer s H E) [] σ' H' s'->RelV v u->Q v H'->CE outer P w H s Q u s':=
  fun {σ' H' v u} J rv q=>⟨v,H',J.os,J.bare,J.base,J.hok,rv,q⟩
 cases fl with
 |ret u=>
  obtain ⟨v,σ',H',J,rv,q⟩:=hs
  exact fin J rv q
 |next=>
  obtain ⟨σ',H',J,q⟩:=hs
  exact fin (v:=V.non) (u:=Value.none) J rfl q
 |brk=>
  obtain ⟨_,_,_,q⟩:=hs
  exact False.elim q
 |cont=>
  obtain ⟨_,_,_,q⟩:=hs
  exact False.elim q
end L2
namespace L2
open PySem PySem.Spec PyProof.Rows
section
variable {X:Cx}{x:Str}{p pos:Pos}{e:Expr}{es:List Expr}{t:TA}{id T:String}{r:List V->Hp->VK->Prop}
noncomputable def tCB (r:List V->Hp->VK->Prop) (t:TA):TE:=fun σ H Q=>t σ H fun vs H1=>r vs H1 Q
theorem eR (hc:aX X (.builtin id) r) (hg:Gl X x) (hm:X.mg x=none) (hv:bootBuiltins x=some (.builtin id)) (ha:PA X (e::es) t) (hn:x≠"__name__":=by decide) (hdb:(x==("__debug__":Str))=false:=by decide)
  (he:starEach (e::es) X.env=(false,eval e X.env)::starEach es X.env:=by rfl) (hpl:(backTo pos (starEach es X.env)).any (·.1)=false:=by rfl):PE X (.Call (.Name x p) (e::es) [] pos) (tCB r t):=by
 intro pins s σ H Q I h
 refine wpAny_Call_Name_kw (cn I hg hm hv ?_ hn hdb)
 exact PyProof.Rows.callWith_builtin1 (thn (ha pos pins s σ H _ I h) fun us s1 ⟨vs,H1,I1,r1,q1⟩=>hc pins s1 σ H1 vs us Q I1 r1 q1) he hpl
theorem eS (hc:aX X (.type T) r) (hg:Gl X x) (hm:X.mg x=none) (hv:bootBuiltins x=some (.type T)) (ha:PA X (e::es) t) (hn:x≠"__name__":=by decide) (hdb:(x==("__debug__":Str))=false:=by decide)
  (he:starEach (e::es) X.env=(false,eval e X.env)::starEach es X.env:=by rfl) (hpl:(backTo pos (starEach es X.env)).any (·.1)=false:=by rfl):PE X (.Call (.Name x p) (e::es) [] pos) (tCB r t):=by
 intro pins s σ H Q I h
 refine wpAny_Call_Name_kw (cn I hg hm hv ?_ hn hdb)
 exact PyProof.Rows.callWith_type1 (thn (ha pos pins s σ H _ I h) fun us s1 ⟨vs,H1,I1,r1,q1⟩=>hc pins s1 σ H1 vs us Q I1 r1 q1) he hpl
end
end L2
namespace HT
open PySem PyProof.Rows
noncomputable def br:List Int->List Int->Bool
 |[],[]=>false
 |[],_::_=>true
 |_::_,[]=>false
 |x::xs,y::ys=>if x=y then br xs ys else decide (x<y)
theorem i6 (x y:Int) (xs ys:List Int):br (x::xs) (y::ys)=if x=y then br xs ys else decide (x<y):=rfl
section
open PySem.SeqAt
open PySem.AutoSeq1 (wpAny_loadPart')
open PySem.MeetsSeq PySem.MeetsSeq2 PySem.MeetsSeq3
end
section
variable {prog:Program}{w:World}{A:Around}{E:Value->Shared->Prop}{s:Shared}
noncomputable def sIx (n d:Nat):Option Int->Nat
 |none=>d
 |some v=>if v<0 then (v+(n:Int)).toNat else min v.toNat n
theorem eT (n d:Nat):sIx n d none=d:=rfl
theorem eU (n d k:Nat):sIx n d (some (k:Int))=min k n:=by
 show (if (k:Int)<0 then ((k:Int)+(n:Int)).toNat else min (k:Int).toNat n)=min k n
 rw [if_neg (by omega),Int.toNat_natCast]
end
end HT
namespace L2
open PySem PySem.Spec PyProof.Rows
noncomputable abbrev TO:=St->Hp->(Option Int->Hp->Prop)->Prop
noncomputable def PO (X:Cx) (e:Option Expr) (t:TO):Prop:=
 ∀(pins:List (Addr×Obj)) (s:Shared) (σ:St) (H:Hp) (Q:Option Int->Hp->Prop),Inv X pins σ H s->t σ H Q->
  wpAny (model X.prog X.w) X.A (evalPart e X.env) (fun u s'=> ∃o H',Inv X pins σ H' s'/\IsPart u o/\Q o H') X.xe s
noncomputable def i7:TO:=fun _ H Q=>Q none H
noncomputable def i8 (t:TE):TO:=fun σ H Q=>t σ H fun x H1=> ∃i,x= .int i/\Q (some i) H1
section
variable {X:Cx}{e:Expr}{te:TE}{lo hi:Option Expr}{tl th:TO}{pos p2:Pos}
theorem i9:PO X none i7:=by
 intro pins s σ H Q I h
 rw [evalPart_none]
 exact wpAny_pure ⟨none,H,I,.none,h⟩
theorem ja (h:PE X e te):PO X (some e) (i8 te):=by
 intro pins s σ H Q I hw
 rw [evalPart_some]
 refine thn (h pins s σ H _ I hw) fun u s1 ⟨x,H1,I1,r1,q1⟩=> ?_
 obtain ⟨i,rfl,q⟩:=q1
 obtain ⟨t,rfl⟩:=r1
 exact ⟨some i,H1,I1,.int i t,q⟩
noncomputable def SlR (X:Cx) (r:V->Option Int->Option Int->Hp->VK->Prop):Prop:=
 ∀(pins:List (Addr×Obj)) (s:Shared) (σ:St) (H:Hp) (x:V) (v vl vu:Value) (lo hi:Option Int) (sl:Addr) (Q:VK),Inv X pins σ H s->RelV x v->s.heap.IsSliceOf sl vl vu .none->IsPart vl lo->IsPart vu hi->r x lo hi H Q->
  ∃T id,typeLookup (.type T) "__getitem__"=pure (some (.builtin id))/\s.TypeIs v T/\wpAny (model X.prog X.w) X.A (getItem v (.ref sl)) (EP X pins σ Q) X.xe s
noncomputable def tSl (r:V->Option Int->Option Int->Hp->VK->Prop) (te:TE) (tl th:TO):TE:=fun σ H Q=>te σ H fun x H1=>tl σ H1 fun l H2=>th σ H2 fun u H3=>r x l u H3 Q
theorem jb {r:V->Option Int->Option Int->Hp->VK->Prop} (hr:SlR X r) (he:PE X e te) (hl:PO X lo tl) (hu:PO X hi th):PE X (.Subscript e (.Slice lo hi none p2) pos) (tSl r te tl th):=by
 intro pins s σ H Q I h
 refine Subscript_ (thn (he pins s σ H _ I h) fun v s1 ⟨x,H1,I1,r1,q1⟩=> ?_)
 refine wpAny_Slice (thn (hl pins s1 σ H1 _ I1 q1) fun vl s2 ⟨l,H2,I2,pl,q2⟩=>thn (hu pins s2 σ H2 _ I2 q2) fun vu s3 ⟨u,H3,I3,pu,q3⟩=> ?_)
 rw [evalPart_none]
 refine wpAny_pure ?_
 have I4:Inv X pins σ H3 {s3 with heap:=s3.heap.push {cls:= .type "slice",data:= .fields #[vl,vu,.none]}}:=I3.kept (t':=s3.toks) fun b ob q=>Heap.get?_push_of_some _ q
 obtain ⟨T,id,hT,ht,hg⟩:=hr pins {s3 with heap:=s3.heap.push {cls:= .type "slice",data:= .fields #[vl,vu,.none]}} σ H3 x v vl vu l u s3.heap.objs.size Q I4 r1 (Heap.IsSliceOf.new ..) pl pu q3
 show wpAny (model X.prog X.w) X.A (subscriptTail e (.Slice lo hi none p2) v (.ref s3.heap.objs.size)) (EP X pins σ Q) X.xe {s3 with heap:=s3.heap.push {cls:= .type "slice",data:= .fields #[vl,vu,.none]}}
 exact tail_any (ops:=[.ref s3.heap.objs.size,v]) ht hT hg (by with_unfolding_all rfl)
noncomputable def cutV (xs:List V) (lo hi:Option Int):List V:=(xs.drop (HT.sIx xs.length 0 lo)).take (HT.sIx xs.length xs.length hi-HT.sIx xs.length 0 lo)
theorem jc (xs:List V) (lo hi:Option Int):(cutV xs lo hi).length<=xs.length:=by
 unfold cutV
 rw [List.length_take,List.length_drop]
 omega
theorem Vals.nil_iff {xs:List V}{us:List Value} (r:Vals xs us):us=[]↔xs=[]:=by
 cases r with
 |nil=>simp
 |cons _ _=>simp
end
end L2
namespace L2
open PySem PySem.Spec PyProof.Rows
noncomputable def ixN (n:Nat) (i:Int):Option Nat:=if 0<=i then (if i<n then some i.toNat else none) else if-(n:Int)<=i then some (i+n).toNat else none
noncomputable def atI {α:Type} (xs:List α) (i:Int):Option α:=(ixN xs.length i).bind fun j=>xs[j]?
theorem eV {n:Nat}{i:Int}{j:Nat} (h:ixN n i=some j):seqIndex? i n=some j/\j<n/\ -(n:Int)<=i/\i<n:=by
 unfold ixN at h
 by_cases h0:0<=i
 ·rw [if_pos h0] at h
  by_cases h1:i<n
  ·rw [if_pos h1] at h
   have e:i.toNat=j:=Option.some.inj h
   exact ⟨by rw [seqIndex_of h0 h1,e],by omega,by omega,h1⟩
  ·rw [if_neg h1] at h;cases h
 ·rw [if_neg h0] at h
  by_cases h1: -(n:Int)<=i
  ·rw [if_pos h1] at h
   have e:(i+n).toNat=j:=Option.some.inj h
   exact ⟨by rw [seqIndex_neg (by omega) h1,e],by omega,h1,by omega⟩
  ·rw [if_neg h1] at h;cases h
theorem dw {α:Type}{xs:List α}{i:Int}{v:α} (h:atI xs i=some v): ∃j,seqIndex? i xs.length=some j/\xs[j]?=some v/\j<xs.length/\ -(xs.length:Int)<=i/\i<xs.length:=by
 unfold atI at h
 cases e:ixN xs.length i with
 |none=>rw [e] at h;cases h
 |some j=>
  rw [e] at h
  obtain ⟨h1,h2,h3,h4⟩:=eV e
  exact ⟨j,h1,h,h2,h3,h4⟩
theorem jd {α:Type}{xs:List α}{j:Nat}{v:α} (h:xs[j]?=some v):atI xs (j:Int)=some v:=by
 have hj:j<xs.length:=(List.getElem?_eq_some_iff.mp h).1
 have e:ixN xs.length (j:Int)=some j:=by
  unfold ixN
  rw [if_pos (by omega),if_pos (by omega)];simp
 unfold atI;rw [e];exact h
noncomputable def eW (b:Expr):Prop:= ∀o i,subscripted b false o i=operate [o,i] (getItem o i)
noncomputable def IxR (X:Cx) (r:R2):Prop:=
 ∀(value slice:Expr) (pins:List (Addr×Obj)) (s:Shared) (σ:St) (H:Hp) (x y:V) (v u:Value) (Q:VK),Inv X pins σ H s->RelV x v->RelV y u->r x y H Q->
  subscripted slice false v u=operate [v,u] (getItem v u)->wpAny (model X.prog X.w) X.A (subscriptTail value slice v u) (EP X pins σ Q) X.xe s
section
variable {X:Cx}{a b:Expr}{ta tb:TE}{pos:Pos}
theorem IxR.or {r r':R2} (h:IxR X r) (h':IxR X r'):IxR X (fun x y H Q=>r x y H Q \/r' x y H Q):=by
 intro value slice pins s σ H x y v u Q I rx ry q hs
 rcases q with q|q
 ·exact h value slice pins s σ H x y v u Q I rx ry q hs
 ·exact h' value slice pins s σ H x y v u Q I rx ry q hs
theorem je {r:R2} (hr:IxR X r) (ha:PE X a ta) (hb:PE X b tb) (hs:eW b):PE X (.Subscript a b pos) (tOp r ta tb):=by
 intro pins s σ H Q I h
 exact Subscript_ (binT ha hb I h fun v u s2 x y H2 I2 rx ry q=>hr a b pins s2 σ H2 x y v u Q I2 rx ry q (hs _ _))
noncomputable def rIxL (K:PySem.W.Frag):R2:=fun x y H Q=> ∃p xs i v,x= .ref p/\y= .int i/\SqL K H p xs/\atI xs i=some v/\Q v H
noncomputable def rIxT (K:PySem.W.Frag):R2:=fun x y H Q=> ∃p xs i v,x= .ref p/\y= .int i/\SqT K H p xs/\atI xs i=some v/\Q v H
noncomputable def rIxS:R2:=fun x y H Q=> ∃z i c,x= .str z/\y= .int i/\z.length<=sizeLine/\atI z.cps.toList i=some c/\Q (.str ⟨#[c]⟩) H
theorem jf:IxR X (rIxL X.K):=by
 intro value slice pins s σ H x y v u Q I rx ry h hs
 obtain ⟨p,xs,i,z,rfl,rfl,hq,he,q⟩:=h
 cases rx
 obtain ⟨t,rfl⟩:=ry
 obtain ⟨its,r,pl,hz⟩:=I.list hq
 obtain ⟨j,h1,h2,h3,h4,h5⟩:=dw he
 obtain ⟨w,ew,rw'⟩:=r.get h2
 have hl:=r.length
 have hn:=cu
 have fin:EP X pins σ Q w s:=⟨z,H,I,rw',q⟩
 by_cases h0:0<=i
 ·have hj:i.toNat=j:=by
   rw [seqIndex_of h0 h5] at h1
   exact Option.some.inj h1
  exact item_listR pl.isList h0 (by omega) (by rw [hj];simpa using ew) fin hs
 ·have hj:(i+(its.toArray.size:Int)).toNat=j:=by
   rw [seqIndex_neg (by omega) h4] at h1
   rw [List.size_toArray,<-hl]
   exact Option.some.inj h1
  exact subscriptTail_builtinR (x:=w) pl.isList.typeIs slot_list_getitem.lookup
   (wpAny_getItem_list_neg (Q:=fun r s'=>r=w/\EP X pins σ Q r s') pl.isList (by omega) (by rw [List.size_toArray]<;>omega) (by omega) (by rw [hj];simpa using ew) ⟨rfl,fin⟩) hs
theorem jg:IxR X (rIxT X.K):=by
 intro value slice pins s σ H x y v u Q I rx ry h hs
 obtain ⟨p,xs,i,z,rfl,rfl,hq,he,q⟩:=h
 cases rx
 obtain ⟨t,rfl⟩:=ry
 obtain ⟨its,r,pl,hz⟩:=I.tuple hq
 obtain ⟨j,h1,h2,h3,h4,h5⟩:=dw he
 obtain ⟨w,ew,rw'⟩:=r.get h2
 have hl:=r.length
 have hn:=cu
 have fin:EP X pins σ Q w s:=⟨z,H,I,rw',q⟩
 exact subscriptTail_builtinR (x:=w) pl.typeIs slot_tuple_getitem.lookup
  (getItem_tuple (j:=j) (Q:=fun r s'=>r=w/\EP X pins σ Q r s') pl (by omega) (by omega) (by rw [List.size_toArray,<-hl];exact h1) (by simpa using ew) ⟨rfl,fin⟩) hs
theorem jh:IxR X rIxS:=by
 intro value slice pins s σ H x y v u Q I rx ry h hs
 obtain ⟨z,i,c,rfl,rfl,hz,he,q⟩:=h
 obtain ⟨t,rfl⟩:=rx
 obtain ⟨t',rfl⟩:=ry
 obtain ⟨j,h1,h2,h3,h4,h5⟩:=dw he
 have hl:z.cps.toList.length=z.length:=by simp [Str.length]
 rw [hl] at h1 h4 h5
 have hn:=cu
 exact tail_any (typeIs_str s z t) slot_str_getitem.lookup (getItem_str (c:=c) (by
  have e1:decide (i< -(2^63:Int))=false:=decide_eq_false (by omega)
  have e2:decide (i>=2^63)=false:=decide_eq_false (by omega)
  rw [e1,e2,Bool.or_false]) (by rw [h1];simpa using h2) ⟨.str ⟨#[c]⟩,H,I.tok _,⟨_,rfl⟩,q⟩) hs
noncomputable def rIx (K:PySem.W.Frag):R2:=fun x y H Q=>rIxL K x y H Q \/rIxT K x y H Q \/rIxS x y H Q
theorem ji:IxR X (rIx X.K):=jf.or (jg.or jh)
theorem jj (its:List Value) (n j:Nat) (u:Value):Obj.mapSeq (·.setIfInBounds j u) {cls:= .type "list",data:= .seq its.toArray n}={cls:= .type "list",data:= .seq (its.set j u).toArray n}:=by
 simp [Obj.mapSeq]
theorem Inv.lst {pins:List (Addr×Obj)}{σ:St}{H:Hp}{s:Shared}{p:Addr}{xs:List V} (I:Inv X pins σ H s) (h:H p=some (.lst xs)):
  ∃(its:List Value) (n:Nat),Vals xs its/\s.heap.get? p=some {cls:= .type "list",data:= .seq its.toArray n}/\xs.length<=sizeLine:=by
 obtain ⟨z,its,n,r,e⟩:=I.hok p _ h
 exact ⟨its,n,r,e,z⟩
theorem Inv.lstUpd {pins:List (Addr×Obj)}{σ:St}{H:Hp}{s:Shared}{p:Addr}{xs ys:List V}{its its':List Value}{n n':Nat}{f:Obj->Obj} (I:Inv X pins σ H s) (h:H p=some (.lst xs))
  (ho:s.heap.get? p=some {cls:= .type "list",data:= .seq its.toArray n}) (hf:f {cls:= .type "list",data:= .seq its.toArray n}={cls:= .type "list",data:= .seq its'.toArray n'}) (r:Vals ys its') (hz:ys.length<=sizeLine) (t:Nat):
  Inv X pins σ (upd H p (.lst ys)) {s with heap:=s.heap.update p f,toks:=t}:=by
 have e:(s.heap.update p f).get? p=some {cls:= .type "list",data:= .seq its'.toArray n'}:=by
  rw [Heap.get?_update_self f ho (by rw [hf]<;>rfl),hf]
 refine I.write (x:=p) (e:=p) (by rw [h];trivial) (.inl rfl) (fun b u hb q=>(Heap.get?_update_other _ _ (Ne.symm hb)).trans q) ⟨_,e⟩ ?_
 exact ⟨hz,its',n',r,e⟩
noncomputable def jk:V->V->V->Hp->(Hp->Prop)->Prop:=fun o i v H Q=> ∃p xs k j,o= .ref p/\i= .int k/\H p=some (.lst xs)/\ixN xs.length k=some j/\Q (upd H p (.lst (xs.set j v)))
theorem jl:PSet X jk:=by
 intro pins s σ H o i v ov iv u Q I ro ri rv h
 obtain ⟨p,xs,k,j,rfl,rfl,hp,hj,q⟩:=h
 cases ro
 obtain ⟨t,rfl⟩:=ri
 obtain ⟨its,n,r,ho,hz⟩:=I.lst hp
 obtain ⟨h1,h2,h3,h4⟩:=eV hj
 have hl:=r.length
 have hn:=cu
 have I':Inv X pins σ (upd H p (.lst (xs.set j v))) {s with heap:=s.heap.update p (Obj.mapSeq (·.setIfInBounds j u))}:=
  I.lstUpd hp ho (jj its n j u) (r.set rv j) (by rw [List.length_set];exact hz) s.toks
 by_cases h0:0<=k
 ·have hk:k.toNat=j:=by
   rw [seqIndex_of h0 h4] at h1
   exact Option.some.inj h1
  exact PySem.W.ki_setAt ho h0 (by omega) (by rw [List.size_toArray,<-hl];exact h4) (by rw [hk];exact ⟨_,I',q⟩)
 ·have hk:(k+(its.toArray.size:Int)).toNat=j:=by
   rw [seqIndex_neg (by omega) h3] at h1
   rw [List.size_toArray,<-hl]
   exact Option.some.inj h1
  exact PySem.W.ki_setBack ho (by omega) (by rw [List.size_toArray,<-hl];exact h3) (by omega) (by rw [hk];exact ⟨_,I',q⟩)
theorem jm (lo hi:Option Int) (n:Nat):(sliceBounds lo hi none n).1=((HT.sIx n 0 lo:Nat):Int)/\(sliceBounds lo hi none n).2.1=((HT.sIx n n hi:Nat):Int)/\(sliceBounds lo hi none n).2.2=1:=by
 refine ⟨?_,?_,rfl⟩
 ·cases lo with
  |none=>simp [sliceBounds,HT.sIx]
  |some i=>
   simp only [sliceBounds,HT.sIx,Option.getD_none,show (1:Int)>0 by decide,if_true]
   by_cases h:i<0
   ·simp only [h,if_true]<;>omega
   ·simp only [h,if_false]<;>omega
 ·cases hi with
  |none=>simp [sliceBounds,HT.sIx]
  |some i=>
   simp only [sliceBounds,HT.sIx,Option.getD_none,show (1:Int)>0 by decide,if_true]
   by_cases h:i<0
   ·simp only [h,if_true]<;>omega
   ·simp only [h,if_false]<;>omega
theorem jn (its:List Value) (lo hi:Option Int):slicePick its.toArray lo hi none=((its.drop (HT.sIx its.length 0 lo)).take (HT.sIx its.length its.length hi-HT.sIx its.length 0 lo)).toArray:=by
 obtain ⟨h1,h2,h3⟩:=jm lo hi its.toArray.size
 unfold slicePick
 rw [h1,h2,h3]
 simp only [sliceRange_one,pick_run,List.size_toArray]<;>rfl
noncomputable def rSlL (K:PySem.W.Frag):V->Option Int->Option Int->Hp->VK->Prop:=fun x lo hi H Q=> ∃a xs,x= .ref a/\SqL K H a xs/\ ∀p,H p=none->Q (.ref p) (upd H p (.lst (cutV xs lo hi)))
theorem jo:SlR X (rSlL X.K):=by
 intro pins s σ H x v vl vu lo hi sl Q I rx hs pl pu h
 obtain ⟨a,xs,rfl,hx,q⟩:=h
 cases rx
 obtain ⟨its,r,ht,hz⟩:=I.list hx
 have hlen:=r.length
 refine ⟨"list",_,slot_list_getitem.lookup,ht.isList.typeIs,?_⟩
 refine wpAny_getItem_list_slice ht.isList hs pl pu .none (by simp) ?_ (by rw [List.size_toArray]<;>omega)
 rw [jn,<-hlen]
 refine ⟨.ref s.heap.objs.size,_,I.laid (t':=s.toks) (o:= .lst (cutV xs lo hi)) (fun b ob q=>Heap.get?_push_of_some _ q) (Nat.le_refl _) ?_,rfl,q _ (I.hok.fresh (Nat.le_refl _))⟩
 exact ⟨Nat.le_trans (jc xs lo hi) hz,_,0,(r.drop (HT.sIx xs.length 0 lo)).take (HT.sIx xs.length xs.length hi-HT.sIx xs.length 0 lo),Heap.get?_push_size _ rfl⟩
theorem cP:aX X (.builtin "len") (fun xs H Q=> ∃p ys,xs=[.ref p]/\(SqL X.K H p ys \/SqT X.K H p ys)/\Q (.int ys.length) H):=by
 intro pins s σ H xs us Q I r h
 obtain ⟨p,ys,rfl,hq,q⟩:=h
 obtain ⟨u,rfl,rx⟩:=cO r
 cases rx
 have hn:=cu
 rcases hq with hq|hq
 ·obtain ⟨its,r',pl,hz⟩:=I.list hq
  have hlen:=r'.length
  exact Calls.call_len_list pl.isList (by simp only [List.size_toArray]<;>omega) ⟨.int ys.length,H,I.tok _,⟨s.toks+1,by rw [List.size_toArray,hlen]⟩,q⟩
 ·obtain ⟨its,r',pl,hz⟩:=I.tuple hq
  have hlen:=r'.length
  exact len_tuple pl (by simp only [List.size_toArray]<;>omega) ⟨.int ys.length,H,I.tok _,⟨s.toks+1,by rw [List.size_toArray,hlen]⟩,q⟩
theorem dz:aX X (.type "list") (fun xs H Q=> ∃p ys,xs=[.ref p]/\(SqL X.K H p ys \/SqT X.K H p ys)/\ ∀l,H l=none->Q (.ref l) (upd H l (.lst ys))):=by
 intro pins s σ H xs us Q I r h
 obtain ⟨p,ys,rfl,hq,q⟩:=h
 obtain ⟨u,rfl,rx⟩:=cO r
 cases rx
 have fin: ∀(its:List Value),Vals ys its->ys.length<=sizeLine-> ∀(h':Heap) (c':Nat),(∀b o',s.heap.get? b=some o'->h'.get? b=some o')->
   h'.get? s.heap.objs.size=some {cls:= .type "list",dict:=none,data:= .seq its.toArray c',slots:= #[]}->EP X pins σ Q (.ref s.heap.objs.size) {s with heap:=h'}:=fun its r' hz h' c' kp e=>
  ⟨.ref s.heap.objs.size,_,I.laid (t':=s.toks) kp (Nat.le_refl _) (show aq X.prog X.w _ h' _ (.lst ys) from ⟨hz,its,c',r',e⟩),rfl,q _ (I.hok.fresh (Nat.le_refl _))⟩
 rcases hq with hq|hq
 ·obtain ⟨its,r',pl,hz⟩:=I.list hq
  have hlen:=r'.length
  obtain ⟨o,ho,hc,n,hd⟩:=pl.isList
  exact call_list_seq p (.inl rfl) ho hc hd (fun h' c' kp e=>fin its r' hz h' c' kp e) (by simp only [List.size_toArray]<;>omega)
 ·obtain ⟨its,r',pl,hz⟩:=I.tuple hq
  have hlen:=r'.length
  obtain ⟨o,ho,hc,n,hd⟩:=pl
  exact call_list_seq p (.inr rfl) ho hc hd (fun h' c' kp e=>fin its r' hz h' c' kp e) (by simp only [List.size_toArray]<;>omega)
theorem cz:aX X (.type "tuple") (fun xs H Q=> ∃p ys,xs=[.ref p]/\((SqL X.K H p ys/\ ∀l,H l=none->Q (.ref l) (upd H l (.tup ys))) \/(SqT X.K H p ys/\Q (.ref p) H))):=by
 intro pins s σ H xs us Q I r h
 obtain ⟨p,ys,rfl,h⟩:=h
 obtain ⟨u,rfl,rx⟩:=cO r
 cases rx
 rcases h with ⟨hq,q⟩|⟨hq,q⟩
 ·obtain ⟨its,r',pl,hz⟩:=I.list hq
  have hlen:=r'.length
  refine call_tuple_list pl.isList (fun h' kp=> ?_) (by simp only [List.size_toArray]<;>omega)
  have I1:Inv X pins σ H {s with heap:=h'}:=I.kept (t':=s.toks) kp
  have I2:Inv X pins σ (upd H h'.objs.size (.tup ys)) {s with heap:=h'.push {cls:= .type "tuple",data:= .seq its.toArray}}:=
   I1.laid (t':=s.toks) (fun b o e=>Heap.get?_push_of_some _ e) (Nat.le_refl _) (show aq X.prog X.w _ _ _ (.tup ys) from ⟨hz,its,r',bL.new _ _⟩)
  exact ⟨.ref h'.objs.size,_,I2,rfl,q _ (I1.hok.fresh (Nat.le_refl _))⟩
 ·obtain ⟨its,r',pl,hz⟩:=I.tuple hq
  exact call_tuple_same pl ⟨.ref p,H,I,rfl,q⟩
variable {o e:Expr}{es:List Expr}{to:TE}{t:TA}{name:Str}{apos cpos:Pos}{T id:String}{r:V->List V->Hp->VK->Prop}
end
end L2
namespace L2
open PySem PySem.Spec PyProof.Rows
theorem Vals.one: ∀{x:V}{us:List Value},Vals [x] us-> ∃u,us=[u]/\RelV x u
 |_,_,.cons r .nil=>⟨_,rfl,r⟩
theorem Vals.two: ∀{x y:V}{us:List Value},Vals [x,y] us-> ∃u v,us=[u,v]/\RelV x u/\RelV y v
 |_,_,_,.cons r (.cons q .nil)=>⟨_,_,rfl,r,q⟩
theorem Vals.zero: ∀{us:List Value},Vals [] us->us=[]
 |_,.nil=>rfl
theorem Vals.dropLast {xs:List V}{us:List Value} (h:Vals xs us):Vals xs.dropLast us.dropLast:=by
 induction h with
 |nil=>exact .nil
 |cons r t ih=>
  cases t with
  |nil=>exact .nil
  |cons q t'=>exact .cons r ih
theorem Vals.eraseIdx: ∀{xs:List V}{us:List Value} (i:Nat),Vals xs us->Vals (xs.eraseIdx i) (us.eraseIdx i)
 |_,_,_,.nil=> .nil
 |_,_,0,.cons _ t=>t
 |_,_,i+1,.cons r t=> .cons r (Vals.eraseIdx i t)
theorem Vals.reverse {xs:List V}{us:List Value} (h:Vals xs us):Vals xs.reverse us.reverse:=by
 induction h with
 |nil=>exact .nil
 |cons r t ih=>rw [List.reverse_cons,List.reverse_cons];exact Vals.append ih (.cons r .nil)
theorem Vals.rep {xs:List V}{us:List Value} (h:Vals xs us): ∀k:Nat,Vals (List.replicate k xs).flatten (List.replicate k us).flatten
 |0=> .nil
 |k+1=>by
  rw [List.replicate_succ,List.replicate_succ,List.flatten_cons,List.flatten_cons]
  exact Vals.append h (Vals.rep h k)
section
variable {X:Cx}{pins:List (Addr×Obj)}{σ:St}{H:Hp}{s:Shared}{l b:Addr}{xs ys zs:List V}
theorem Inv.lnew {its:List Value}{t':Nat} (I:Inv X pins σ H s) (hv:Vals ys its) (hz:ys.length<=sizeLine):
  Inv X pins σ (upd H s.heap.objs.size (.lst ys)) {s with heap:=s.heap.push {cls:= .type "list",data:= .seq its.toArray},toks:=t'}:=
 I.laid (fun _ _ q=>Heap.get?_push_of_some _ q) (Nat.le_refl _) ⟨hz,its,0,hv,Heap.get?_push_size _ rfl⟩
theorem Inv.fresh (I:Inv X pins σ H s):H s.heap.objs.size=none:=I.hok.fresh (Nat.le_refl _)
theorem eX {n:Nat} (h:n<=sizeLine):Builtin.List.listTooLong n=false:=by
 unfold Builtin.List.listTooLong
 exact decide_eq_false (by omega)
end
section
variable {X:Cx}
end
section
variable {prog:Program}{w:World}{A:Around}{E:Value->Shared->Prop}{s:Shared}
theorem jp {a c n:Nat} (hac:a<=c) (hc:c<=n):sliceBounds (some (a:Int)) (some (c:Int)) none n=((a:Int),(c:Int),1):=by
 simp only [sliceBounds,Option.getD_none]
 have h1: ¬((a:Int)<0):=by omega
 have h2: ¬((c:Int)<0):=by omega
 simp only [h1,h2,if_false,show (1:Int)>0 by decide,if_true]
 congr 1
 ·omega
 ·congr 1;omega
set_option maxRecDepth 100000 in
theorem oR {l b sl:Addr}{items new:Array Value}{n n2:Nat}{vl vu:Value}{a c:Nat}{Q:Unit->Shared->Prop}
  (e:s.heap.get? l=some {cls:= .type "list",data:= .seq items n}) (e2:s.heap.get? b=some {cls:= .type "list",data:= .seq new n2}) (hne:l≠b)
  (hs:s.heap.IsSliceOf sl vl vu .none) (pl:IsPart vl (some (a:Int))) (pu:IsPart vu (some (c:Int))) (hac:a<=c) (hc:c<=items.size)
  (hsz:items.size+new.size<=sizeLine) (h:Q () {s with heap:=s.heap.update l (Obj.mapSeq fun xs=>xs.extract 0 a++new++xs.extract c xs.size)}):
  wpAny (model prog w) A (setItem (.ref l) (.ref sl) (.ref b)) Q E s:=by
 have hl:s.heap.IsList l items:=PySem.IsL.isList e
 have hb:s.heap.IsList b new:=PySem.IsL.isList e2
 obtain ⟨os,hos,hcs,hds⟩:=id hs
 have hTs:s.TypeIs (.ref sl) "slice":=⟨os,hos,hcs⟩
 have hstep: ¬((rawPart none==rawInt 0)=true):=Bool.false_ne_true
 have hsame:Builtin.List.listSameRef (.ref l) (.ref b)=false:=by
  unfold Builtin.List.listSameRef
  exact beq_eq_false_iff_ne.mpr hne
 have hmax:(max (a:Int) (c:Int)).toNat=c:=by omega
 have hz':((fun xs:Array Value=>xs.extract 0 a++new++xs.extract c xs.size) items).size<=sizeLine+1:=by
  simp only [Array.size_append,Array.size_extract]
  omega
 unfold setItem
 try with_reducible refine wpAny_holding ?_
 first|refine wpAny_bind (wpAny_pure ?_)|skip
 refine wpAny_bind (wpAny_sequenceKey hl.typeIs (by decide) ?_)
 refine wpAny_bind (wpAny_callSpecial?_slot (name:=Str.ofString "__setitem__") hl.typeIs slot_list_setitem
  (wpAny_call_entry slot_list_setitem hl.typeIs entry_list_setitem ?_ (args_list_setitem _ _ _)))
 show wpAny _ _ (Builtin.List.listSubscript? (.ref sl)>>=_) _ _ s
 refine wpAny_bind ?_
 unfold Builtin.List.listSubscript?
 refine wpAny_bind (wpAny_specialOf hTs slice_no_index ?_)
 simp only [Option.isNone_none,if_true]
 refine wpAny_pure ?_
 show wpAny _ _ (typeOf (.ref sl)>>=_) _ _ s
 refine wpAny_bind (wpAny_typeOf hTs ?_)
 first
  |rw [if_neg (by decide)]
  |refine PySem.W.KFB.if_not (by decide) ?_
 rw [listSliceParts_eq]
 refine wpAny_bind (wpAny_bind (wpAny_field hos hds (x:= .none) rfl (wpAny_bind (wpAny_listPart .none ?_))))
 rw [if_neg hstep]
 refine wpAny_bind (wpAny_field hos hds (x:=vl) rfl (wpAny_bind (wpAny_listPart pl ?_)))
 refine wpAny_bind (wpAny_field hos hds (x:=vu) rfl (wpAny_bind (wpAny_listPart pu (wpAny_pure ?_))))
 first
  |simp only [hsame,Bool.false_eq_true,if_false]
  |refine PySem.W.KFB.if_not hsame ?_
  |(dsimp only;rw [if_neg (by rw [hsame];exact Bool.false_ne_true)])
 refine wpAny_bind (m:=Builtin.List.listAllItems (.ref b) "must assign iterable to extended slice") ?_
 unfold Builtin.List.listAllItems
 refine wpAny_bind (wpAny_typeOf hb.typeIs ?_)
 first
  |refine PySem.W.KFB.if_so (by decide) ?_
  |rw [if_pos (by decide)]
  |simp only [beq_self_eq_true,Bool.true_or,if_true]
 unfold Builtin.List.listItems
 refine wpAny_bind (wpAny_seqItems e2 rfl (wpAny_pure ?_))
 refine wpAny_bind (wpAny_bind (wpAny_seqItems e rfl (wpAny_pure ?_)))
 refine wpAny_bind (wpAny_of_eq ((sliceIndices_raw (some (a:Int)) (some (c:Int)) none items.size (by simp)).trans (congrArg (pure:Int×Int×Int->Sem (Int×Int×Int)) (jp hac hc))) ?_)
 show wpAny _ _ (if ((1:Int)==1)=true then _ else _) _ _ s
 rw [if_pos (by decide)]
 refine wpAny_bind (wpAny_rule ?_)
 first
  |simp only [eX hsz,Bool.false_eq_true,if_false]
  |refine PySem.W.KFB.if_not (eX hsz) ?_
 first|refine wpAny_bind (wpAny_pure ?_)|skip
 show wpAny _ _ (updateSeq l (fun xs=>xs.extract 0 ((a:Int)).toNat++new++xs.extract (max (a:Int) (c:Int)).toNat xs.size)>>=_) _ _ s
 rw [hmax,Int.toNat_natCast]
 refine wpAny_bind (wpAny_updateSeq (hz:=Nat.le_trans (Nat.le_add_right _ _) hsz) (_hz':=hz') e rfl ?_)
 refine wpAny_bind (wpAny_letGo ?_)
 first
  |exact wpAny_bind (wpAny_pure (wpAny_pure ⟨.none,rfl,wpAny_pure h⟩))
  |exact wpAny_pure ⟨.none,rfl,wpAny_pure h⟩
end
section
variable {X:Cx}
end
end L2
namespace L2
open PySem PySem.Spec PyProof.Rows
section
variable {κ:Type} [DecidableEq κ]
noncomputable def valV (kvs:List (κ×V)) (k:κ):Option V:=(kvs.find? fun kv=>decide (kv.1=k)).map (·.2)
noncomputable def putK (kvs:List (κ×V)) (k:κ) (v:V):List (κ×V):=
 if (kvs.any fun kv=>decide (kv.1=k))=true then kvs.map (fun kv=>if kv.1=k then (kv.1,v) else kv) else kvs++[(k,v)]
theorem jq {p:κ×V}{r:List (κ×V)}{k:κ} (e:p.1=k):valV (p::r) k=some p.2:=by simp [valV,List.find?_cons,e]
theorem jr {p:κ×V}{r:List (κ×V)}{k:κ} (e: ¬p.1=k):valV (p::r) k=valV r k:=by simp [valV,List.find?_cons,e]
theorem js (kvs:List (κ×V)) (k:κ) (v:V):(putK kvs k v).length<=kvs.length+1:=by
 unfold putK
 split
 ·rw [List.length_map];omega
 ·rw [List.length_append,List.length_cons,List.length_nil];omega
theorem RelO.getD {o:Option V}{u:Option Value}{d:V}{d':Value} (r:RelO o u) (rd:RelV d d'):RelV (o.getD d) (u.getD d'):=by
 cases o with
 |none=>cases u with
  |none=>exact rd
  |some _=>exact (show False from r).elim
 |some _=>cases u with
  |none=>exact (show False from r).elim
  |some _=>exact r
theorem KV.val {kvs:List (κ×V)}{vs:List (κ×Value)} (r:KV kvs vs) (k:κ):RelO (valV kvs k) (valueAt vs k):=by
 unfold KV at r
 induction r with
 |nil=>exact True.intro
 | @cons p q ps qs h t ih=>
  obtain ⟨h1,h2⟩:=h
  by_cases e:p.1=k
  ·have e':q.1=k:=h1.symm.trans e
   have b:valueAt (q::qs) k=some q.2:=by simp [valueAt,List.find?_cons,e']
   rw [jq e,b];exact h2
  ·have e': ¬q.1=k:=fun z=>e (h1.trans z)
   have b:valueAt (q::qs) k=valueAt qs k:=by simp [valueAt,List.find?_cons,e']
   rw [jr e,b];exact ih
theorem KV.any {kvs:List (κ×V)}{vs:List (κ×Value)} (r:KV kvs vs) (k:κ):(kvs.any fun kv=>decide (kv.1=k))=vs.any fun kv=>decide (kv.1=k):=by
 unfold KV at r
 induction r with
 |nil=>rfl
 |cons h t ih=>rw [List.any_cons,List.any_cons,ih,h.1]
theorem KV.repl {kvs:List (κ×V)}{vs:List (κ×Value)} (r:KV kvs vs) (k:κ) {y:V}{u:Value} (ry:RelV y u):
  KV (kvs.map fun kv=>if kv.1=k then (kv.1,y) else kv) (vs.map fun kv=>if kv.1=k then (kv.1,u) else kv):=by
 unfold KV at r|-
 induction r with
 |nil=>exact .nil
 | @cons p q ps qs h t ih=>
  rw [List.map_cons,List.map_cons]
  refine .cons ?_ ih
  obtain ⟨h1,h2⟩:=h
  by_cases e:p.1=k
  ·rw [if_pos e,if_pos (h1.symm.trans e)];exact ⟨h1,ry⟩
  ·rw [if_neg e,if_neg (fun z=>e (h1.trans z))];exact ⟨h1,h2⟩
theorem KV.put {kvs:List (κ×V)}{vs:List (κ×Value)} (r:KV kvs vs) (k:κ) {y:V}{u:Value} (ry:RelV y u):KV (putK kvs k y) (stored vs k u):=by
 unfold putK stored
 rw [r.any k]
 by_cases e:(vs.any fun kv=>decide (kv.1=k))=true
 ·rw [if_pos e,if_pos e];exact r.repl k ry
 ·rw [if_neg e,if_neg e];exact Paired.snoc r ⟨rfl,ry⟩
theorem KV.length {kvs:List (κ×V)}{vs:List (κ×Value)} (r:KV kvs vs):kvs.length=vs.length:=Paired.length r
end
theorem jt {P:Program}{w:World}{k:Key}{u:Value} (r:RelV (kV k) u):(aW P w).is k u=true:=by
 cases k with
 |inl i=>obtain ⟨t,e⟩:=(show∃t,u=Value.int i t from r);subst e;exact g8 P w i t
 |inr x=>obtain ⟨t,e⟩:=(show∃t,u=Value.str x t from r);subst e;exact g9 P w x t
section
variable {P:Program}{w:World}{H:Hp}{h:Heap}{a:Addr}
theorem ju {u:HO} (ok:HOk P w H h) (e:Rd H a u):aq P w H h a u:=e.ok ok
theorem jv {kvs:List (Key×V)} (ok:HOk P w H h) (e:Rd H a (.dK kvs)):kvs.length<=sizeLine/\(a==sysModules)=false/\ ∃vs,KV kvs vs/\h.DictOf (aW P w) a vs:=
 show aq P w H h a (.dK kvs) from ju ok e
theorem jw {kvs:List (Key×V)} (ok:HOk P w H h) (e:H a=some (.dK kvs)):kvs.length<=sizeLine/\(a==sysModules)=false/\ ∃vs,KV kvs vs/\h.DictOf (aW P w) a vs:=jv ok (.inl e)
end
section
variable {X:Cx}{pins:List (Addr×Obj)}{σ:St}{H:Hp}{s:Shared}{a:Addr}{y v:V}{u r:Value}{o:Option V}{A:Around}{E:Value->Shared->Prop}
theorem Inv.big (I:Inv X pins σ H s):sysModules<s.heap.objs.size:=by
 have h:mainGlobals<s.heap.objs.size:=(I.mod.glob.keeps I.bk).lt
 exact Nat.lt_trans (by decide) h
theorem jy {h':Heap}{t':Nat}{ob:HO} (I:Inv X pins σ H s) (mu:Mut (H a)) (hs:Heap.SameBut a s.heap h') (he: ∃q,h'.get? a=some q) (new:aq X.prog X.w (upd H a ob) h' a ob):
  Inv X pins σ (upd H a ob) {s with heap:=h',toks:=t'}:=
 I.write (x:=a) (e:=a) mu (.inl rfl) (fun b q hb z=>(hs.2 b hb).trans z) he new
theorem jz {P:Program}{w:World}{H':Hp}{h':Heap}{kvs:List (Key×V)}{vs:List (Key×Value)} (z:kvs.length<=sizeLine) (hd:(a==sysModules)=false) (rel:KV kvs vs) (dd:h'.DictOf (aW P w) a vs):
  aq P w H' h' a (.dK kvs):=⟨z,hd,vs,rel,dd⟩
end
section
variable {X:Cx}{pins:List (Addr×Obj)}{σ:St}{H:Hp}{s:Shared}{a:Addr}{kvs:List (Key×V)}{k:Key}{u:Value}{A:Around}{E:Value->Shared->Prop}
end
section
variable {X:Cx}{o i e value:Expr}{pos pos' tpos:Pos}{td ty tv:TE}
end
theorem jA {P:Program}{w:World}{H:Hp} (h:Heap) (hb:sysModules<h.objs.size):aq P w H (h.push {cls:= .type "dict",data:= .dict #[]}) h.objs.size (.dK []):=
 ⟨Nat.zero_le _,beq_eq_false_iff_ne.mpr (Ne.symm (Nat.ne_of_lt hb)),[],.nil,Heap.DictOf.new h⟩
section
variable {X:Cx}{pos:Pos}
end
noncomputable def dA:List (TE×TE)->St->Hp->(List (V×V)->Hp->Prop)->Prop
 |[],_,H,Q=>Q [] H
 |(tk,tv)::r,σ,H,Q=>tk σ H fun x H1=>tv σ H1 fun y H2=>dA r σ H2 fun ps H3=>Q ((x,y)::ps) H3
noncomputable abbrev VV:List (V×V)->List (Value×Value)->Prop:=Paired fun p q=>RelV p.1 q.1/\RelV p.2 q.2
noncomputable def PPs (X:Cx) (pos:Pos) (keys:List (Option Expr)) (values:List Expr) (trs:List (TE×TE)):Prop:=
 ∀(pins:List (Addr×Obj)) (s:Shared) (σ:St) (H:Hp) (Q:List (V×V)->Hp->Prop),Inv X pins σ H s->dA trs σ H Q->
  wpAny (model X.prog X.w) X.A (evalPairs (pairTrees keys values X.env pos)) (fun vs s'=> ∃ps H',Inv X pins σ H' s'/\VV ps vs/\Q ps H') X.xe s
theorem jB {X:Cx}{pos:Pos}:PPs X pos [] [] []:=fun pins s σ H Q I h=>pairTrees_nil_walk ⟨[],H,I,.nil,h⟩
theorem jC {X:Cx}{pos:Pos}{k v:Expr}{ks:List (Option Expr)}{vs:List Expr}{tk tv:TE}{trs:List (TE×TE)} (hk:PE X k tk) (hv:PE X v tv) (hr:PPs X pos ks vs trs):
  PPs X pos (some k::ks) (v::vs) ((tk,tv)::trs):=fun pins s σ H Q I h=>
 pairTrees_cons_walk (thn (hk pins s σ H _ I h) fun u s1 ⟨x,H1,I1,rx,q1⟩=>thn (hv pins s1 σ H1 _ I1 q1) fun w2 s2 ⟨y,H2,I2,ry,q2⟩=>
  thn (hr pins s2 σ H2 _ I2 q2) fun ws s3 ⟨ps,H3,I3,rel,q3⟩=>⟨(x,y)::ps,H3,I3,.cons ⟨rx,ry⟩ rel,q3⟩)
noncomputable def bN (kvs more:List (Key×V)):List (Key×V):=more.foldl (fun acc kv=>putK acc kv.1 kv.2) kvs
theorem KV.merge: ∀{more:List (Key×V)}{rs:List (Key×Value)}{kvs:List (Key×V)}{vs:List (Key×Value)},KV more rs->KV kvs vs->KV (bN kvs more) (merged vs rs):=by
 intro more rs kvs vs r
 unfold KV at r
 induction r generalizing kvs vs with
 |nil=>intro q;exact q
 | @cons p q ps qs h t ih=>
  intro r0
  have e:KV (putK kvs p.1 p.2) (stored vs q.1 q.2):=by
   have:=r0.put p.1 h.2
   rw [<-h.1];exact this
  exact ih e
theorem eY: ∀(more kvs:List (Key×V)),(bN kvs more).length<=kvs.length+more.length
 |[],kvs=>by show kvs.length<=kvs.length+0;omega
 |p::r,kvs=>by
  have h1:=eY r (putK kvs p.1 p.2)
  have h2:=js kvs p.1 p.2
  show (bN (putK kvs p.1 p.2) r).length<=_
  rw [List.length_cons];omega
theorem eZ {P:Program}{w:World}: ∀{kvs:List (Key×V)}{ws:List (Value×Value)},VV (kvs.map fun kv=>(kV kv.1,kv.2)) ws-> ∃rs,Carries (aW P w) ws rs/\KV kvs rs
 |[],_,r=>by rw [List.map_nil] at r;cases r;exact ⟨[],True.intro,.nil⟩
 |p::kvs,_,r=>by
  rw [List.map_cons] at r
  cases r with
  | @cons a b as bs h t=>
   obtain ⟨rs,c,q⟩:=eZ (P:=P) (w:=w) t
   obtain ⟨b1,b2⟩:=b
   exact ⟨(p.1,b2)::rs,⟨jt h.1,rfl,c⟩,.cons ⟨rfl,h.2⟩ q⟩
noncomputable def jD (trs:List (TE×TE)):TE:=fun σ H Q=> ∀p,H p=none->dA trs σ (upd H p (.dK [])) fun ps H2=>H2 p=some (.dK [])/\ ∃kvs:List (Key×V),ps=kvs.map (fun kv=>(kV kv.1,kv.2))/\kvs.length<=15/\Q (.ref p) (upd H2 p (.dK (bN [] kvs)))
theorem jE {X:Cx}{pos:Pos}{keys:List (Option Expr)}{values:List Expr}{trs:List (TE×TE)} (h:PPs X pos keys values trs) (hall:keys.all (·.isSome)=true) (hl:keys.length=values.length) (h0:keys≠[])
  (h15:keys.length<=15):PE X (.Dict keys values pos) (jD trs):=by
 intro pins s σ H Q I q
 have hn:=I.hok.fresh (Nat.le_refl s.heap.objs.size)
 have I1:=I.laid (a:=s.heap.objs.size) (o:= .dK []) (h':=s.heap.push {cls:= .type "dict",data:= .dict #[]}) (t':=s.toks) (fun _ _ q=>Heap.get?_push_of_some _ q) (Nat.le_refl _) (jA s.heap I.big)
 refine wpAny_Dict_walk (knd:=aW X.prog X.w) hall hl h0 h15 (thn (h pins _ σ _ _ I1 (q _ hn)) fun ws s2 ⟨ps,H2,I2,rel,e,kvs,ep,lk,q2⟩=> ?_)
 subst ep
 obtain ⟨rs,c,rk⟩:=eZ (P:=X.prog) (w:=X.w) rel
 obtain ⟨z,hd,vs0,r0,dd⟩:=jw I2.hok e
 cases r0
 refine ⟨rs,c,dd,fun h' dd' hs=>⟨.ref s.heap.objs.size,_,?_,rfl,q2⟩⟩
 have hz:(bN [] kvs).length<=sizeLine:=by
  have h1:=eY kvs []
  rw [List.length_nil] at h1
  rw [sizeLine_eq];omega
 have he: ∃q,h'.get? s.heap.objs.size=some q:=let ⟨q,_,_,hq,_⟩:=dd';⟨q,hq⟩
 exact jy I2 (by rw [e];exact True.intro) hs he (jz hz hd (rk.merge .nil) dd')
section
variable {X:Cx}{pins:List (Addr×Obj)}{σ:St}{H:Hp}{s:Shared}{a:Addr}{y d:V}{u r:Value}{o:Option V}{A:Around}{E:Value->Shared->Prop}
end
section
variable {X:Cx}{o e f:Expr}{apos cpos:Pos}{td ty tx:TE}
end
section
variable {X:Cx}{pins:List (Addr×Obj)}{σ:St}{H:Hp}{s:Shared}{a:Addr}{kvs:List (Key×V)}{A:Around}{E:Value->Shared->Prop}
end
section
variable {X:Cx}{pins:List (Addr×Obj)}{σ:St}{H:Hp}{s:Shared}{a:Addr}{y:V}{u:Value}{A:Around}{E:Value->Shared->Prop}
end
end L2
namespace Att
open PySem PySem.W PySem.Calls PyProof.Rows
theorem jF {P:Params}{h:Heap}: ∀(ns:List Int) (vs:List Value),WellAll P h vs (ns.map WData.int)->IntsAre vs ns:=by
 intro ns
 induction ns with
 |nil=>
  intro vs w
  rw [List.map_nil] at w
  cases w
  exact .nil
 |cons n ns ih=>
  intro vs w
  rw [List.map_cons] at w
  cases w with
  |cons a b=>
   cases a
   exact .cons _ _ (ih _ b)
theorem jG {l:OpenLaw}{n:Nat} (hn:l.most=some n) {P:Params}{h:Heap}{args:List WData}{vals:List Value}
  (hpre:l.row.toRowW.claim.pre args=true) (hwl:WellAll P h vals args):
  ∃a vs ns,vals=[Value.ref a]/\args=[WData.list (ns.map WData.int)]/\h.get? a=some {cls:= .type "list",data:= .seq vs.toArray}/\IntsAre vs ns/\ns.length<=n:=by
 have hsh:WShape.hasAll [] args [.list .int]=true:=(pre_splitW hpre).1
 have hc:l.pre.holds [] {args:=args}=true:=(pre_splitW hpre).2
 obtain ⟨d,r,rfl,h1,h2⟩:=hasAllW_cons hsh
 obtain rfl:=hasAllW_nil h2
 obtain ⟨xs,rfl,h3⟩:=hasW_list h1
 obtain ⟨ns,rfl⟩:=items_int h3
 have hlen:ns.length<=n:=by
  unfold OpenLaw.pre at hc
  have h4:(WTm.not (.lt (.lit (.int (n:Int))) (.len (.arg 0)))).holds [] {args:=[.list (ns.map .int)]}=true:=by
   have h4:=(holds_andW hc).1
   rw [hn] at h4
   exact h4
  have h5:=condW_of h4 (w_not (w_lt w_lit (w_len_list (w_arg rfl))))
  rw [List.length_map] at h5
  refine Nat.le_of_not_lt fun q=> ?_
  have q':(n:Int)<((ns.length:Nat):Int):=by omega
  first
   |(rw [decide_eq_true q'] at h5;exact absurd h5 (by decide))
   |(simp at h5;omega)
 cases hwl with
 |cons w1 w2=>
  cases w2
  cases w1 with
  |list ho hall=>exact ⟨_,_,ns,rfl,rfl,ho,jF ns _ hall,hlen⟩
theorem jH (l:OpenLaw) (args:List WData):l.row.toRowW.claim.post args (.bool true) args=true:=
 postW_of (r:=l.row.toRowW) (X:=(true==true))
  (show WShape.has [] (.bool true) .bool=true by first|rfl|decide|simp [WShape.has,WShape.arms,WShape.armsAll])
  (show (WTm.eq .res (.lit (.bool true))).value [] {args:=args,res:=some (.bool true),after:=args}=some (.bool (true==true)) from w_eq_bool (w_res rfl) w_lit) rfl
theorem jI {l:OpenLaw}{n:Nat}{q:Program}{loose:List Str}{XP:(Str->Option Value)->Heap->Prop}{YP:World->Heap->Prop}{d:DefRec}
  (hn:l.most=some n) (hdf:d.params.defaults=[])
  (call: ∀(w:World) (s₀ s₁:Shared) (mg mb:Str->Option Value) (fa:Addr) (o:Obj) (pm cd doc:Value) (a:Addr) (vs:List Value) (ns:List Int),
   Ground q loose [] XP w s₀ mg mb s₁.heap->YP w s₁.heap->
   s₁.heap.get? fa=some o->o.data= .func (docDef d.name d.params d.body d.scope pm cd doc)->s₁.heap.CodeRec cd d.name->mg d.name=some (.ref fa)->
   s₁.heap.get? a=some {cls:= .type "list",data:= .seq vs.toArray}->IntsAre vs ns->ns.length<=n->s₁.gens= #[]->
   codeAny (model l.prog w) callerA (.call (.ref fa) ⟨[.ref a],[]⟩) (fun r s'=>r= .ok (.ret (.bool true))/\OldK s₁.heap s'.heap/\s'.os=s₁.os/\AllBare s'.gens) s₁):
  WalkO q loose XP YP l.row.toRowW d [] (fun f vs=>PySem.call f vs):=by
 intro w s₀ s₁ mg mb G Y fa o pm cd doc dV kV ho hd hcd hD hmg hg args vals as hpre hlay hrd hwl hlo
 obtain rfl:dV= .none:=Dflts.none hD hdf
 obtain rfl:kV= .none:=Dflts.noKw hD
 obtain ⟨a,vs,ns,rfl,rfl,hobj,hints,hlen⟩:=jG hn hpre hwl
 refine enter_call (codeAny_mono (call w s₀ s₁ mg mb fa o pm cd doc a vs ns G Y ho (fd_plain hd) hcd hmg hobj hints hlen hg) fun r s' hq=> ?_)
 obtain ⟨rfl,h2,h3,h4⟩:=hq
 exact ⟨.inl ⟨.bool true,.bool true,[],rfl,fun _=>rfl,.bool true,jH l _,fun _=>⟨List.Pairwise.nil,fun _ hm=>(nomatch hm)⟩⟩,h2,h3,h4⟩
section
variable {prog:Program}{w:World}{A:Around}{E:Value->Shared->Prop}{s:Shared}{K:Frag}
end
end Att
namespace L2
open PySem PySem.Spec PyProof.Rows
theorem e6: ∀{vs:List Value}{ns:List Int},IntsAre vs ns->Vals (ns.map V.int) vs
 |_,_,.nil=> .nil
 |_,_,.cons n t h=> .cons ⟨t,rfl⟩ (e6 h)
noncomputable def Only (H:Hp):Prop:= ∀b,H b=none \/ ∃o xs,H b=some (.frz o (.lst xs))
theorem jJ {P:Program}{w:World}{K:PySem.W.Frag}{mg mb:Str->Option Value}{CX:CXT}{k:Nat}{fa a:Addr}{fd:FuncData}{x:Str}{sp:Sp}{s₁:Shared}{vs:List Value}{ns:List Int}
  (KX:K.In s₁.heap) (hns:s₁.heap.Ns mainGlobals mg) (hb:s₁.heap.Ns builtinsNs mb) (hbb: ∀x:Str,x≠"__name__"->mb x=bootBuiltins x) (hlim:s₁.heap.NoLimit) (hg:s₁.gens= #[])
  (ha:s₁.heap.get? a=some {cls:= .type "list",data:= .seq vs.toArray}) (hi:IntsAre vs ns) (hl:ns.length<=sizeLine) (hr:Room k callerA)
  (F: ∀base:Heap,K.In base->base.Ns mainGlobals mg->FnOk P w K mg base CX k fa fd [x] sp) (hbind: ∀(s:Shared) (u:Value),BindsTo s fd ⟨[u],[]⟩ [(x,u)])
  (hsp: ∀H:Hp,Only H->SqL K H a (ns.map V.int)->sp [.ref a] H (fun v _=>v= .bl true) fun _ _ _=>False)
  (hCX: ∀H e s',CX [] H s₁ (fun _ _ _=>False) e s'->False):
  codeAny (model P w) callerA (.call (.ref fa) ⟨[.ref a],[]⟩) (fun r s'=>r= .ok (.ret (.bool true))/\OldK s₁.heap s'.heap/\s'.os=s₁.os/\AllBare s'.gens) s₁:=by
 have rv:=e6 hi
 have lenV:=hi.length
 have core: ∀H:Hp,Only H->SqL K H a (ns.map V.int)->HOk P w H s₁.heap->(∀b,H b≠none->b=a)->(H a≠none->K.lookup a=none)->
   codeAny (model P w) callerA (.call (.ref fa) ⟨[.ref a],[]⟩) (fun r s'=>r= .ok (.ret (.bool true))/\OldK s₁.heap s'.heap/\s'.os=s₁.os/\AllBare s'.gens) s₁:=by
  intro H hO hS hok hA hK
  have base_of: ∀{b:Addr}{o:Obj},s₁.heap.get? b=some o->H b=none->(hidT s₁.heap H).get? b=some o:=fun e n=>hG e n
  have noA: ∀{b:Addr}{o:Obj}{es:Array DictEntry}{ep:Nat},s₁.heap.get? b=some o->o.data= .dict es ep->H b=none:=fun {b o es ep} e d=>by
   cases q:H b with
   |none=>rfl
   |some u=>
    have e':b=a:=hA b (by rw [q];simp)
    subst e'
    rw [ha] at e;cases e
    have d':Data.seq vs.toArray _=Data.dict es ep:=d
    cases d'
  have nsK: ∀{b:Addr}{m:Str->Option Value},s₁.heap.Ns b m->(hidT s₁.heap H).Ns b m:=fun {b m} ⟨o,es,ep,e,d,r⟩=>⟨o,es,ep,base_of e (noA e d),d,r⟩
  have hKb:K.In (hidT s₁.heap H):=fun b o e=>base_of (KX b o e) (by
   cases q:H b with
   |none=>rfl
   |some u=>
    have e':b=a:=hA b (by rw [q];simp)
    subst e'
    rw [hK (by rw [q];simp)] at e;cases e)
  have hM:Mod K mg (hidT s₁.heap H):=⟨hKb,nsK hns,⟨mb,nsK hb,hbb⟩,let ⟨mc,h1,h2⟩:=hlim;⟨mc,nsK h1,h2⟩⟩
  have e0:Env0 P w K mg (hidT s₁.heap H) callerA [] s₁ H:=⟨rfl,hM,fun b o e=>hJ e,Nat.le_of_eq (hE _ _),trivial,fun b hb=>absurd (show b∈([]:List Addr) from hb) (by simp),hok,.of_eq hg⟩
  refine codeAny_mono ((F _ hKb (nsK hns)).run callerA [] s₁ H ⟨[.ref a],[]⟩ [.ref a] [.ref a] _ _ hr e0 (hbind s₁ (.ref a)) (.cons rfl .nil) (hsp H hO hS)) fun r s' h=> ?_
  cases r with
  |error e=>exact (hCX H e s' h).elim
  |ok fl=>
   cases fl with
   |next=>exact False.elim h
   |brk=>exact False.elim h
   |cont=>exact False.elim h
   |ret u=>
    obtain ⟨v,H',os,bare,un,hok',r',q⟩:=h
    have q':v= .bl true:=q
    subst q'
    obtain rfl:u=Value.bool true:=r'
    refine ⟨rfl,OldK.of_keep fun b o e=> ?_,os,bare⟩
    cases q:H b with
    |none=>exact un.keep b o e q (by intro z;exact absurd (show b∈([]:List Addr) from z) (by simp)) (by simp)
    |some u=>
     rcases hO b with z|⟨ob,xs,z⟩
     ·rw [q] at z;cases z
     ·have z2:=un.frzs b ob _ z
      obtain ⟨e1,_⟩:=hok b _ z
      obtain ⟨e2,_⟩:=hok' b _ z2
      rw [e] at e1;cases e1
      exact e2
 cases hk:K.lookup a with
 |some o=>
  have e:=KX a o hk
  rw [ha] at e
  cases e
  refine core (fun _=>none) (fun _=> .inl rfl) (.inr ⟨_,vs.toArray,_,hk,rfl,rfl,rfl,by rw [List.size_toArray,lenV];exact hl,by simpa using rv⟩) (fun b u z=>by have z':(none:Option HO)=some u:=z;cases z') (fun b z=>absurd rfl z) fun z=>absurd rfl z
 |none=>
  refine core (fun b=>if b=a then some (.frz {cls:= .type "list",data:= .seq vs.toArray} (.lst (ns.map V.int))) else none) (fun b=> ?_) (.inl (.inr ⟨{cls:= .type "list",data:= .seq vs.toArray},if_pos rfl⟩)) (fun b u z=> ?_) (fun b z=> ?_) fun _=>hk
  ·by_cases hb:b=a
   ·exact .inr ⟨_,_,if_pos hb⟩
   ·exact .inl (if_neg hb)
  ·by_cases hb:b=a
   ·have z':=(if_pos hb).symm.trans z
    cases z'
    subst hb
    exact ⟨ha,by rw [List.length_map];exact hl,vs,_,rv,ha⟩
   ·have z':=(if_neg hb).symm.trans z
    cases z'
  ·by_cases hb:b=a
   ·exact hb
   ·exact absurd (if_neg hb) z
end L2
namespace L2
open PySem PySem.Spec PyProof.Rows
theorem jK {l:PySem.W.OpenLaw}{n k:Nat}{q:Program}{loose:List Str}{XP:(Str->Option Value)->Heap->Prop}{YP:World->Heap->Prop}{d:DefRec}{K:Params->PySem.W.Frag}{CX:World->CXT}{sp:World->Sp}{x:Str}
  (hn:l.most=some n) (hn2:n<=sizeLine) (hdf:d.params.defaults=[]) (hr:Room k callerA)
  (hY: ∀(w:World) (h:Heap),YP w h->(K w.params).In h)
  (F: ∀(w:World) (mg:Str->Option Value) (fa:Addr) (h:Heap),(K w.params).In h->h.Ns mainGlobals mg->mg d.name=some (.ref fa)->
   ∃fd:FuncData,(∀(s:Shared) (u:Value),BindsTo s fd ⟨[u],[]⟩ [(x,u)])/\
    ∀base:Heap,(K w.params).In base->base.Ns mainGlobals mg->FnOk l.prog w (K w.params) mg base (CX w) k fa fd [x] (sp w))
  (hsp: ∀(w:World) (H:Hp) (a:Addr) (ns:List Int),ns.length<=n->Only H->SqL (K w.params) H a (ns.map V.int)->sp w [.ref a] H (fun v _=>v= .bl true) fun _ _ _=>False)
  (hCX: ∀(w:World) (H:Hp) (s:Shared) (e:Value) (s':Shared),CX w [] H s (fun _ _ _=>False) e s'->False):
  PySem.W.WalkO q loose XP YP l.row.toRowW d [] (fun f vs=>PySem.call f vs):=by
 refine Att.jI hn hdf fun w s₀ s₁ mg mb fa o pm cd doc a vs ns G Y ho hd hcd hmg hobj hints hlen hg=> ?_
 have KX:=hY w _ Y
 obtain ⟨fd,hb,hF⟩:=F w mg fa _ KX G.T.g hmg
 exact jJ KX G.T.g G.T.b G.T.builtins G.T.nolimit hg hobj hints (Nat.le_trans hlen hn2) hr hF hb (fun H hO hS=>hsp w H a ns hlen hO hS) fun H e s'=>hCX w H s₁ e s'
end L2
namespace L2
open PySem PySem.Spec PyProof.Rows
noncomputable def aI (s:Stmt):Arguments:=match s with
 | .FunctionDef _ a _ _ _ _ _ _ _ _=>a
 |_=>{posonlyargs:=[],args:=[],vararg:=none,kwonlyargs:=[],kw_defaults:=[],kwarg:=none,defaults:=[]}
noncomputable def aA (s:Stmt):List Stmt:=match s with
 | .FunctionDef _ _ b _ _ _ _ _ _ _=>b
 |_=>[]
noncomputable def am (s:Stmt):Scope:=match s with
 | .FunctionDef _ _ _ _ _ _ sc _ _ _=>sc
 |_=>{kind:= .function,names:=[],isGenerator:=false,isCoroutine:=false}
noncomputable abbrev CX0:CXT:=fun _ _ _ _ _ _=>False
noncomputable abbrev E0:XK:=fun _ _ _=>False
theorem jL {X:Cx}:du CX0 X E0:=fun _ _ _ _ _ _ _ h=>h.elim
structure Fun (K:PySem.W.Frag) (x qual:Str) (st:Stmt) (f:Addr) (fd:FuncData):Prop where
 ex: ∃(oc:Value) (od:Option Addr) (kV doc pm:Value) (an:Option Addr) (cdv ct:Value) (osl:Array (Option Value)),
  fd=PySem.W.fnOf x qual (aI st) (aA st) (am st) .none kV doc pm an cdv ct/\K.lookup f=some ⟨oc,od,.func fd,osl⟩/\PySem.W.codeIn K cdv qual=true
 kp:PySem.W.keepIn K (.ref f)=true
section
variable {P:Program}{w:World}{K:PySem.W.Frag}{mg:Str->Option Value}{base:Heap}
theorem Fun.ok {x qual:Str}{st:Stmt}{f:Addr}{fd:FuncData}{N ps:List Str}{k:Nat}{sp:Sp} (F:Fun K x qual st f fd) (S:aG N ps (am st)) (len: ∀vs H Q E,sp vs H Q E->vs.length=ps.length)
  (hbody: ∀(cdv:Value) (A:Around) (outer:List Env) (s:Shared) (H:Hp) (vs:List V) (Q:VK) (E:XK),Room k (A.deeper (envOfC qual (am st) s.heap.objs.size f cdv))->sp vs H Q E->
   ∃t,PSs (cxOf CX0 P w K mg base N qual (am st) f cdv A outer s H E).nox (aA st) t/\t {nx:=fun _ H'=>Q .non H',rt:=Q} (aH N vs) H):FnOk P w K mg base CX0 (k+1) f fd ps sp:=by
 obtain ⟨oc,od,kV,doc,pm,an,cdv,ct,osl,rfl,lk,hcd⟩:=F.ex
 refine i5 lk hcd S len fun A outer s H vs Q E hr hsp=> ?_
 obtain ⟨t,h,q⟩:=hbody cdv A outer s H vs Q E hr hsp
 exact ⟨t,h.nox,q⟩
theorem Fun.binds {x qual:Str}{st:Stmt}{f:Addr}{fd:FuncData}{ps:List Str} (F:Fun K x qual st f fd)
  (h: ∀(kV doc pm:Value) (an:Option Addr) (cdv ct:Value) (us:List Value),us.length=ps.length->bindArgs (PySem.W.fnOf x qual (aI st) (aA st) (am st) .none kV doc pm an cdv ct) ⟨us,[]⟩=pure (ps.zip us)):bq K fd ps []:=by
 obtain ⟨oc,od,kV,doc,pm,an,cdv,ct,osl,rfl,lk,hcd⟩:=F.ex
 exact .all (h kV doc pm an cdv ct)
theorem bc {x qual:Str}{st:Stmt}{f:Addr}{oc:Value}{od an:Option Addr}{osl:Array (Option Value)}{kV doc pm cdv ct:Value} (l:K.lookup f=some ⟨oc,od,.func (PySem.W.fnOf x qual (aI st) (aA st) (am st) .none kV doc pm an cdv ct),osl⟩)
  (c:PySem.W.codeIn K cdv qual=true) (k:PySem.W.keepIn K (.ref f)=true):Fun K x qual st f (PySem.W.fnOf x qual (aI st) (aA st) (am st) .none kV doc pm an cdv ct):=⟨⟨oc,od,kV,doc,pm,an,cdv,ct,osl,rfl,l,c⟩,k⟩
end
section
variable {X:Cx}
theorem pv (i:Nat) {x:Str}{pos:Pos} (hN:X.N[i]?=some x:=by rfl) (hv:Vis X.env.scope x:=by first|exact Or.inl rfl|exact Or.inr (Or.inl rfl)|exact Or.inr (Or.inr rfl)) (hd:(x==("__debug__":Str))=false:=by decide)
  (hcd:(x==("__classdict__":Str))=false:=by decide):PE X (.Name x pos) (tVar i):=hV hN hv hd hcd
end
noncomputable def Same (H H':Hp):Prop:= ∀b o,H b=some o->H' b=some o
theorem Same.refl (H:Hp):Same H H:=fun _ _ h=>h
theorem Same.trans {H H1 H2:Hp} (a:Same H H1) (b:Same H1 H2):Same H H2:=fun c o h=>b c o (a c o h)
theorem Same.free {H H':Hp} (e:Same H H') {l:Addr} (h:H' l=Option.none):H l=Option.none:=by
 cases q:H l with
 |none=>rfl
 |some o=>
  rw [e l o q] at h
  cases h
section
variable {κ:Type} [DecidableEq κ]
end
end L2
set_option maxHeartbeats 4000000
namespace L2
open PySem PySem.Spec PyProof.Rows
noncomputable def pull (ρ:List (Option Nat)) (σ:St):St:=ρ.map fun o=>match o with
 |none=>none
 |some j=>(σ[j]?).getD none
theorem jM {ρ:List (Option Nat)}{σ:St}{i:Nat}{v:V} (h:(pull ρ σ)[i]?=some (some v)): ∃j,ρ[i]?=some (some j)/\σ[j]?=some (some v):=by
 unfold pull at h
 rw [List.getElem?_map] at h
 cases e:ρ[i]? with
 |none=>rw [e] at h;cases h
 |some o=>
  rw [e] at h
  cases o with
  |none=>cases h
  |some j=>
   refine ⟨j,rfl,?_⟩
   have h':(σ[j]?).getD none=some v:=Option.some.inj h
   cases q:σ[j]? with
   |none=>rw [q] at h';cases h'
   |some z=>rw [q] at h';exact congrArg some h'
noncomputable def aY (scope:Scope) (env:Env):List (Str×Addr):=scope.names.foldl (fun cs x=>if x.2= .free then (x.1,(env.cells.lookup x.1).getD 0)::cs else cs) []
theorem e7 {env:Env}: ∀{names:List (Str×NameKind)}{cs:List (Str×Addr)},(∀x∈names,x.2= .free-> ∃c,env.cells.lookup x.1=some c)->
  (forIn names cs fun (x:Str×NameKind) (r:List (Str×Addr))=>(match x with
   |(name,kind)=>if (kind== .free)=true then do
     let a<-cellOf env name
     pure (ForInStep.yield ((name,a)::r))
    else pure (ForInStep.yield r):Sem (ForInStep (List (Str×Addr)))))=pure (names.foldl (fun cs x=>if x.2= .free then (x.1,(env.cells.lookup x.1).getD 0)::cs else cs) cs)
 |[],cs,_=>rfl
 |(n,k)::r,cs,h=>by
  rw [List.forIn_cons,List.foldl_cons]
  have ih:=fun cs=>e7 (names:=r) (cs:=cs) fun x hx=>h x (List.mem_cons_of_mem _ hx)
  by_cases hk:k= .free
  ·subst hk
   obtain ⟨c,e⟩:=h (n,.free) List.mem_cons_self rfl
   have e':env.cells.lookup n=some c:=e
   simp only [beq_self_eq_true,if_true,cellOf,e',pure_bind,Option.getD_some]
   exact ih _
  ·have hb:(k==NameKind.free)=false:=by simpa using hk
   simp only [hb,Bool.false_eq_true,if_false,hk,pure_bind]
   exact ih _
theorem jN {scope:Scope}{env:Env} (h: ∀x∈scope.names,x.2= .free-> ∃c,env.cells.lookup x.1=some c):closureFor scope env=pure (aY scope env):=by
 unfold closureFor aY
 have q:=e7 (cs:=[]) h
 simp only [] at q|-
 rw [q]
 rfl
theorem dB {env:Env}: ∀{names:List (Str×NameKind)}{cs:List (Str×Addr)},(∀x∈names,x.2= .free-> ∃c,env.cells.lookup x.1=some c)->(∀p∈cs,env.cells.lookup p.1=some p.2)->
  ∀p∈names.foldl (fun cs x=>if x.2= .free then (x.1,(env.cells.lookup x.1).getD 0)::cs else cs) cs,env.cells.lookup p.1=some p.2
 |[],_,_,hc=>hc
 |(n,k)::r,cs,h,hc=>by
  rw [List.foldl_cons]
  refine dB (names:=r) (fun x hx=>h x (List.mem_cons_of_mem _ hx)) ?_
  by_cases hk:k= .free
  ·subst hk
   obtain ⟨c,e⟩:=h (n,.free) List.mem_cons_self rfl
   have e':env.cells.lookup n=some c:=e
   rw [if_pos rfl]
   intro p hp
   rcases List.mem_cons.mp hp with z|z
   ·subst z
    show env.cells.lookup n=some ((env.cells.lookup n).getD 0)
    rw [e']
    all_goals rfl
   ·exact hc p z
  ·rw [if_neg hk]
   exact hc
theorem e8 {env:Env}{x:Str}: ∀{names:List (Str×NameKind)}{cs:List (Str×Addr)},((x,NameKind.free)∈names \/ ∃c,(x,c)∈cs)->
  ∃c,(x,c)∈names.foldl (fun cs x=>if x.2= .free then (x.1,(env.cells.lookup x.1).getD 0)::cs else cs) cs
 |[],cs,h=>h.elim (fun z=>nomatch z) fun z=>z
 |(n,k)::r,cs,h=>by
  rw [List.foldl_cons]
  refine e8 (names:=r) ?_
  rcases h with h|⟨c,h⟩
  ·rcases List.mem_cons.mp h with z|z
   ·cases z
    rw [if_pos rfl]
    exact .inr ⟨_,List.mem_cons_self⟩
   ·exact .inl z
  ·right
   by_cases hk:k= .free
   ·rw [if_pos hk];exact ⟨c,List.mem_cons_of_mem _ h⟩
   ·rw [if_neg hk];exact ⟨c,h⟩
theorem e9 {α:Type}: ∀{l:List (Str×α)}{x:Str}{c:α},(x,c)∈l-> ∃d,l.lookup x=some d
 |[],_,_,h=>nomatch h
 |(n,a)::r,x,c,h=>by
  rw [List.lookup_cons]
  cases hx:x==n with
  |true=>exact ⟨a,rfl⟩
  |false=>
   rcases List.mem_cons.mp h with z|z
   ·injection z with z1 z2
    rw [z1] at hx
    simp at hx
   ·exact e9 z
theorem fb {scope:Scope}{env:Env}{x:Str} (h: ∀x∈scope.names,x.2= .free-> ∃c,env.cells.lookup x.1=some c) (hx:scope.names.lookup x=some .free): ∃c,(aY scope env).lookup x=some c/\env.cells.lookup x=some c:=by
 obtain ⟨c,hc⟩:=e8 (env:=env) (cs:=[]) (.inl (PySem.mem_of_lookup hx))
 obtain ⟨d,hd⟩:=e9 hc
 exact ⟨d,hd,dB (cs:=[]) h (fun p hp=>absurd hp (List.not_mem_nil)) _ (PySem.mem_of_lookup hd)⟩
theorem bt {scope:Scope}{env:Env}{x:Str}{c:Addr} (h: ∀x∈scope.names,x.2= .free-> ∃c,env.cells.lookup x.1=some c) (e:(aY scope env).lookup x=some c):env.cells.lookup x=some c:=
 dB (cs:=[]) h (fun p hp=>absurd hp (List.not_mem_nil)) _ (PySem.mem_of_lookup e)
theorem fe {f:Str×NameKind->NameKind}{x:Str}: ∀{names:List (Str×NameKind)},(names.map fun y=>(y.1,f y)).lookup x=(names.lookup x).map fun k=>f (x,k)
 |[]=>rfl
 |(n,k)::r=>by
  rw [List.map_cons,List.lookup_cons,List.lookup_cons]
  cases hx:x==n with
  |true=>
   have e:x=n:=by simpa using hx
   subst e
   rfl
  |false=>exact fe
theorem ff {env:Env}{names:List (Str×NameKind)}{x:Str}:(names.map fun (n,k)=>if (k==NameKind.free&&env.scope.kind== .function&&env.kindOf n==some .cell) then (n,NameKind.cell) else (n,k)).lookup x=
  (names.lookup x).map fun k=>if (k==NameKind.free&&env.scope.kind== .function&&env.kindOf x==some .cell) then NameKind.cell else k:=by
 have e:(fun (y:Str×NameKind)=>match y with|(n,k)=>if (k==NameKind.free&&env.scope.kind== .function&&env.kindOf n==some .cell) then (n,NameKind.cell) else (n,k))=
   fun y=>(y.1,if (y.2==NameKind.free&&env.scope.kind== .function&&env.kindOf y.1==some .cell) then NameKind.cell else y.2):=by
  funext ⟨n,k⟩
  dsimp only
  split<;>rfl
 rw [e]
 exact fe
theorem jO {env:Env}{names:List (Str×NameKind)}{x:Str} (h:names.lookup x=some .free):
  (names.map fun (n,k)=>if (k==NameKind.free&&env.scope.kind== .function&&env.kindOf n==some .cell) then (n,NameKind.cell) else (n,k)).lookup x=some .cell \/
  (names.map fun (n,k)=>if (k==NameKind.free&&env.scope.kind== .function&&env.kindOf n==some .cell) then (n,NameKind.cell) else (n,k)).lookup x=some .free:=by
 rw [ff,h,Option.map_some]
 split
 ·exact .inl rfl
 ·exact .inr rfl
theorem relabel_of {env:Env}{names:List (Str×NameKind)}{x:Str}
  (h:(names.map fun (n,k)=>if (k==NameKind.free&&env.scope.kind== .function&&env.kindOf n==some .cell) then (n,NameKind.cell) else (n,k)).lookup x=some .cell \/
  (names.map fun (n,k)=>if (k==NameKind.free&&env.scope.kind== .function&&env.kindOf n==some .cell) then (n,NameKind.cell) else (n,k)).lookup x=some .free):names.lookup x=some .cell \/names.lookup x=some .free:=by
 rw [ff] at h
 cases e:names.lookup x with
 |none=>rw [e] at h;rcases h with h|h<;>cases h
 |some k=>
  rw [e,Option.map_some] at h
  by_cases hk:k= .free
  ·rw [hk];exact .inr rfl
  ·have hb:(k==NameKind.free)=false:=by simpa using hk
   rw [hb] at h
   simp only [Bool.false_and,Bool.false_eq_true,if_false] at h
   exact h
theorem bO: ∀(names:List (Str×NameKind)) (n:Nat) (acc:List (Str×Addr)),cellsFrom n names acc=cellsFrom n names []++acc
 |[],_,_=>rfl
 |(y,k)::r,n,acc=>by
  unfold cellsFrom
  split
  ·rw [bO r (n+1) ((y,n)::acc),bO r (n+1) [(y,n)],List.append_assoc]
   rfl
  ·exact bO r n acc
theorem cf_mem {x:Str}{c:Addr}: ∀(names:List (Str×NameKind)) (n:Nat) (acc:List (Str×Addr)),(x,c)∈cellsFrom n names acc->((x,NameKind.cell)∈names/\n<=c) \/(x,c)∈acc
 |[],_,_,h=> .inr h
 |(y,k)::r,n,acc,h=>by
  unfold cellsFrom at h
  split at h
  ·next hk=>
   have ek:k= .cell:=by simpa using hk
   rcases cf_mem r (n+1) _ h with ⟨h1,h2⟩|h1
   ·exact .inl ⟨List.mem_cons_of_mem _ h1,by omega⟩
   ·rcases List.mem_cons.mp h1 with z|z
    ·cases z
     exact .inl ⟨by rw [ek];exact List.mem_cons_self,Nat.le_refl _⟩
    ·exact .inr z
  ·rcases cf_mem r n acc h with ⟨h1,h2⟩|h1
   ·exact .inl ⟨List.mem_cons_of_mem _ h1,h2⟩
   ·exact .inr h1
theorem cQ {x:Str}: ∀{a b:List (Str×Addr)},(a++b).lookup x=(a.lookup x).or (b.lookup x)
 |[],_=>rfl
 |(y,c)::r,b=>by
  rw [List.cons_append,List.lookup_cons,List.lookup_cons]
  cases x==y with
  |true=>rfl
  |false=>exact cQ
theorem cf_look {names:List (Str×NameKind)}{n:Nat}{acc:List (Str×Addr)}{x:Str}{c:Addr} (h:(cellsFrom n names acc).lookup x=some c):
  ((x,NameKind.cell)∈names/\n<=c/\(x,c)∈cellsFrom n names []) \/acc.lookup x=some c:=by
 rw [bO,cQ] at h
 cases e:(cellsFrom n names []).lookup x with
 |some d=>
  rw [e] at h
  cases h
  have m:=PySem.mem_of_lookup e
  rcases cf_mem _ _ _ m with ⟨h1,h2⟩|z
  ·exact .inl ⟨h1,h2,m⟩
  ·exact nomatch z
 |none=>rw [e] at h;exact .inr h
theorem jP {names:List (Str×NameKind)}{n:Nat}{acc:List (Str×Addr)}{x:Str}{c:Addr} (nc:(x,NameKind.cell)∉names) (h:acc.lookup x=some c):(cellsFrom n names acc).lookup x=some c:=by
 rw [bO,cQ]
 cases e:(cellsFrom n names []).lookup x with
 |some d=>
  rcases cf_mem _ _ _ (PySem.mem_of_lookup e) with ⟨h1,_⟩|z
  ·exact absurd h1 nc
  ·exact nomatch z
 |none=>exact h
theorem jQ {M:Model}{A:Around}{E:Value->Shared->Prop}{s:Shared}{scope:Scope}{globals:Addr}{cl:List (Str×Addr)}{qual:Str}{env:Env}{builtins:Addr}{Q:Env->Shared->Prop}
  (hQ: ∀h',h'.Ns s.heap.objs.size (fun _=>none)->(∀b o,s.heap.get? b=some o->h'.get? b=some o)->(∀n c,(n,c)∈cellsFrom (s.heap.objs.size+1) scope.names []->h'.IsCell c none)->((cellsFrom (s.heap.objs.size+1) scope.names []).Pairwise fun x y=>x.2≠y.2)->
   Q (newEnv scope s.heap.objs.size globals (cellsFrom (s.heap.objs.size+1) scope.names cl) qual none .none (some env) builtins) {s with heap:=h'}):
  wpAny M A (newFunctionEnv scope globals cl [] qual none .none (some env) builtins) Q E s:=by
 simp only [newFunctionEnv,Option.isSome_some,if_true]
 refine wpAny_bind (wpAny_alloc ?_)
 refine wpAny_bind (wpAny_layCells _ (fun name kind cells=>by cases hkc:kind==NameKind.cell<;>simp [hkc]) _ _ _ _ ?_)
 have ok:=cellsFrom_ok scope.names (s.heap.push {cls:= .type "dict",data:= .dict #[]}) (s.heap.objs.size+1) [] ⟨fun _ _ hm=>(nomatch hm),List.Pairwise.nil⟩ (by rw [Heap.size_push];exact Nat.le_refl _)
 rw [Heap.size_push] at ok
 rw [show ({s with heap:=s.heap.push {cls:= .type "dict",data:= .dict #[]}}:Shared).heap.objs.size=s.heap.objs.size+1 from Heap.size_push ..]
 rw [List.forIn_nil]
 refine wpAny_bind (wpAny_pure (wpAny_pure ?_))
 exact hQ _ ((Heap.Ns.new s.heap (.type "dict")).keeps (pushCells_keeps _ _)) (fun b o e=>pushCells_keeps _ _ b o (Heap.get?_push_of_some _ e)) (fun n c hm=>(ok.empty n c hm).1) ok.apart
noncomputable def cR (sc osc:Scope) (N N':List Str) (ρ:List (Option Nat)):Bool:=
 decide (sc.kind= .function)&&decide (N'.length=ρ.length)&&
 sc.names.all (fun y=>(decide (y.2≠ .cell)||decide (sc.names.lookup y.1=some .cell))&&(decide (y.2≠ .local)||decide (sc.names.lookup y.1=some .local))&&(decide (y.2≠ .free)||(decide (osc.names.lookup y.1=some .cell)||decide (osc.names.lookup y.1=some .free))))&&
 (N'.zip ρ).all (fun p=>match p.2 with
  |none=>true
  |some j=>decide (N[j]?=some p.1)&&decide (sc.names.lookup p.1=some .free))
structure cS (sc osc:Scope) (N N':List Str) (ρ:List (Option Nat)):Prop where
 kind:sc.kind= .function
 len:N'.length=ρ.length
 cell: ∀y∈sc.names,y.2= .cell->sc.names.lookup y.1=some .cell
 loc: ∀y∈sc.names,y.2= .local->sc.names.lookup y.1=some .local
 free: ∀y∈sc.names,y.2= .free->osc.names.lookup y.1=some .cell \/osc.names.lookup y.1=some .free
 from_: ∀(i j:Nat) (x:Str),N'[i]?=some x->ρ[i]?=some (some j)->N[j]?=some x/\sc.names.lookup x=some .free
theorem jR {sc osc:Scope}{N N':List Str}{ρ:List (Option Nat)} (h:cR sc osc N N' ρ=true):cS sc osc N N' ρ:=by
 unfold cR at h
 rw [Bool.and_eq_true,Bool.and_eq_true,Bool.and_eq_true] at h
 obtain ⟨⟨⟨h1,h2⟩,h3⟩,h4⟩:=h
 have h3':=List.all_eq_true.mp h3
 have h4':=List.all_eq_true.mp h4
 refine ⟨of_decide_eq_true h1,of_decide_eq_true h2,fun y hy e=> ?_,fun y hy e=> ?_,fun y hy e=> ?_,fun i j x e1 e2=> ?_⟩
 ·have q:=h3' y hy
  rw [Bool.and_eq_true,Bool.and_eq_true,Bool.or_eq_true] at q
  rcases q.1.1 with z|z
  ·exact absurd e (of_decide_eq_true z)
  ·exact of_decide_eq_true z
 ·have q:=h3' y hy
  rw [Bool.and_eq_true,Bool.and_eq_true,Bool.or_eq_true,Bool.or_eq_true] at q
  rcases q.1.2 with z|z
  ·exact absurd e (of_decide_eq_true z)
  ·exact of_decide_eq_true z
 ·have q:=h3' y hy
  rw [Bool.and_eq_true,Bool.or_eq_true,Bool.or_eq_true] at q
  rcases q.2 with z|z|z
  ·exact absurd e (of_decide_eq_true z)
  ·exact .inl (of_decide_eq_true z)
  ·exact .inr (of_decide_eq_true z)
 ·have hm:(x,some j)∈N'.zip ρ:=by
   refine List.mem_of_getElem? (i:=i) ?_
   rw [List.getElem?_zip_eq_some]
   exact ⟨e1,e2⟩
  have q:=h4' _ hm
  rw [Bool.and_eq_true] at q
  exact ⟨of_decide_eq_true q.1,of_decide_eq_true q.2⟩
noncomputable def aw (X:Cx) (scope:Scope) (N':List Str) (C:Addr) (s:Shared) (H:Hp) (fp:List Addr):Cx where
 prog:=X.prog
 w:=X.w
 K:=X.K
 mg:=X.mg
 base:=X.base
 A:=X.A
 N:=N'
 s₀:=s
 H₀:=H
 env:=compEnvC scope (cellsFrom (C+1) scope.names (aY scope X.env)) C X.env
 outer:=X.stack
 stack:=X.stack
 ex:=fp
 fn:=fun x=>scope.names.lookup x==some .cell
 calm:=X.calm
 pn:=[]
 xe:=fun _ _=>False
section
variable {X:Cx}{pins:List (Addr×Obj)}{σ:St}{H:Hp}{s:Shared}{scope:Scope}{N':List Str}{ρ:List (Option Nat)}
theorem Inv.cells_of (I:Inv X pins σ H s) (ck:cS scope X.env.scope X.N N' ρ): ∀x∈scope.names,x.2= .free-> ∃c,X.env.cells.lookup x.1=some c:=fun x hx e=>I.ok.has x.1 (ck.free x hx e)
theorem jS (I:Inv X pins σ H s) {fp:List Addr} (hf: ∀b∈fp,FpOk X pins H b) {b:Addr}{o:Obj} (e:X.base.get? b=some o):b∉fp:=fun hb=>by
 obtain ⟨_,_,_,h,_⟩:=hf b hb
 rcases h with h|h
 ·exact I.ok.noex b o e h
 ·exact absurd (Nat.lt_of_lt_of_le (Heap.lt_size (I.ok.bs b o e).1) h) (Nat.lt_irrefl _)
theorem fg (I:Inv X pins σ H s) {fp:List Addr} (hf: ∀b∈fp,FpOk X pins H b) {b:Addr} (hb:b∈fp):b∉frs X.stack:=fun h=>by
 obtain ⟨_,n1,n2,_⟩:=hf b hb
 rcases List.mem_cons.mp (I.stkSub b h) with z|z
 ·exact n1 z
 ·exact n2 z
theorem Inv.block (I:Inv X pins σ H s) (ck:cS scope X.env.scope X.N N' ρ) {fp:List Addr} (hf: ∀b∈fp,FpOk X pins H b) (hfo: ∀b∈fp,∃o,s.heap.get? b=some o)
  {C l:Addr}{lo:Obj}{h':Heap}{t':Nat} (hk: ∀b o,s.heap.get? b=some o->h'.get? b=some o) (hC:s.heap.objs.size<=C) (hn:h'.Ns C fun _=>none) (hcl: ∀n c,(n,c)∈cellsFrom (C+1) scope.names []->h'.IsCell c none) (hap:(cellsFrom (C+1) scope.names []).Pairwise fun x y=>x.2≠y.2)
  (hl:s.heap.objs.size<=l) (hlC:l≠C) (hlo:h'.get? l=some lo) (hld: ∀v,lo.data≠ .cell v):Inv (aw X scope N' C s H fp) [(l,lo)] (pull ρ σ) H {s with heap:=h',toks:=t'}:=by
 have hfr:=I.cells_of ck
 have young: ∀{b:Addr}{o:Obj},s.heap.get? b=some o-> ∀{a:Addr},s.heap.objs.size<=a->b≠a:=fun e _ ha z=>by
  subst z
  exact absurd (Nat.lt_of_lt_of_le (Heap.lt_size e) ha) (Nat.lt_irrefl _)
 have cold: ∀{x:Str}{c:Addr},(aY scope X.env).lookup x=some c->c<s.heap.objs.size:=fun {x c} e=>by
  obtain ⟨v,o,ho,_⟩:=I.cell x c (bt hfr e)
  exact Heap.lt_size ho
 refine ⟨⟨I.ok.mod,ck.kind,I.ok.glob,I.ok.blt,hC,fun x y c h1 h2=> ?_,fun x hx=> ?_,fun x c hfn h=> ?_,I.ok.hd,I.ok.frames,.inl rfl,fun b hb=>⟨?_,fun x c e=> ?_⟩,I.bs,Nat.le_trans I.ok.bsz I.sz,fun b o e=>jS I hf e,
  fun b hb=>fg I hf hb,I.stack,I.stkFree⟩,rfl,I.bare,Un.kept hk,⟨_,hn,fun i x v e1 e2 e3=> ?_⟩,fun x c e=> ?_,I.hok.fresh hC,fun x c e=> ?_,fun p hp=> ?_,I.hok.kept hk,?_⟩
 ·rcases cf_look h1 with ⟨_,g1,m1⟩|h1<;>rcases cf_look h2 with ⟨_,g2,m2⟩|h2
  ·exact PySem.name_of_addr hap m1 m2
  ·exact absurd (Nat.lt_of_lt_of_le (Nat.lt_of_lt_of_le (cold h2) hC) (Nat.le_of_succ_le g1)) (Nat.lt_irrefl _)
  ·exact absurd (Nat.lt_of_lt_of_le (Nat.lt_of_lt_of_le (cold h1) hC) (Nat.le_of_succ_le g2)) (Nat.lt_irrefl _)
  ·exact I.ok.inj x y c (bt hfr h1) (bt hfr h2)
 ·rcases relabel_of hx with hx|hx
  ·exact Option.isSome_iff_exists.mp (PySem.W.cellsFrom_some scope.names (C+1) (aY scope X.env) (.inl hx))
  ·obtain ⟨c,e,_⟩:=fb hfr hx
   exact Option.isSome_iff_exists.mp (PySem.W.cellsFrom_some scope.names (C+1) (aY scope X.env) (.inr (by rw [e];rfl)))
 ·have hfn':scope.names.lookup x=some .cell:=by
   have q:(scope.names.lookup x==some NameKind.cell)=true:=hfn
   simpa using q
  have hh:(cellsFrom (C+1) scope.names (aY scope X.env)).lookup x=some c:=h
  obtain ⟨d,hd⟩:=Option.isSome_iff_exists.mp (PySem.W.cellsFrom_some scope.names (C+1) [] (.inl hfn'))
  rw [bO,cQ,hd] at hh
  cases hh
  rcases cf_mem _ _ _ (PySem.mem_of_lookup hd) with ⟨_,g⟩|z
  ·exact Nat.le_trans hC (Nat.le_of_succ_le g)
  ·exact nomatch z
 ·obtain ⟨o,e⟩:=hfo b hb
  exact young e hC
 ·rcases cf_look e with ⟨_,g,_⟩|e
  ·obtain ⟨o,eo⟩:=hfo b hb
   exact Ne.symm (young eo (by omega))
  ·exact (hf b hb).2.2.2.2.1 x c (bt hfr e)
 ·obtain ⟨j,r1,r2⟩:=jM e2
  obtain ⟨n1,n2⟩:=ck.from_ i j x e1 r1
  obtain ⟨m,hm,hl'⟩:=I.loc
  have kd:=ck.free _ (PySem.mem_of_lookup n2) rfl
  obtain ⟨u,r,lk⟩:=hl' j x v n1 r2 (.inr kd)
  refine ⟨u,r,.inr ⟨jO n2,?_⟩⟩
  obtain ⟨c,c1,c2⟩:=fb hfr n2
  refine ⟨c,jP (fun z=>by have:=ck.cell _ z rfl;rw [n2] at this;cases this) c1,?_⟩
  rcases lk with ⟨k,_⟩|⟨_,c',e',⟨o,ho,hd⟩⟩
  ·rcases kd with kd|kd
   ·have k':X.env.scope.names.lookup x=some .local:=k
    rw [show X.env.scope.names.lookup x=some .cell from kd] at k';cases k'
   ·have k':X.env.scope.names.lookup x=some .local:=k
    rw [show X.env.scope.names.lookup x=some .free from kd] at k';cases k'
  ·rw [c2] at e';cases e'
   exact ⟨o,hk _ o ho,hd⟩
 ·rcases cf_look e with ⟨_,_,m⟩|e
  ·exact ⟨none,hcl x c m⟩
  ·obtain ⟨v,o,ho,hd⟩:=I.cell x c (bt hfr e)
   exact ⟨v,o,hk _ o ho,hd⟩
 ·rcases cf_look e with ⟨_,g,_⟩|e
  ·exact I.hok.fresh (by omega)
  ·exact I.freeC x c (bt hfr e)
 ·have hp':p∈[(l,lo)]:=hp
  rcases List.mem_cons.mp hp' with z|z
  ·subst z
   refine ⟨hlo,I.hok.fresh hl,hlC,fun z=> ?_,hld⟩
   have z':l∈frs X.stack:=z
   rcases List.mem_cons.mp (I.stkSub l z') with q|q
   ·exact absurd (Nat.lt_of_lt_of_le (q▸I.lt) hl) (Nat.lt_irrefl _)
   ·exact I.nofs hl q
  ·exact nomatch z
 ·show (pull ρ σ).length=N'.length
  unfold pull
  rw [List.length_map,ck.len]
theorem Inv.unblock {s':Shared}{fp:List Addr}{C l:Addr}{σc:St}{Hc:Hp}{acc:List V}{its:List Value}{n:Nat} (I:Inv X pins σ H s) (hf: ∀b∈fp,FpOk X pins H b)
  (hC:s.heap.objs.size<=C) (hl:s.heap.objs.size<=l) (J:Inv (aw X scope N' C s H fp) [(l,{cls:= .type "list",data:= .seq its.toArray n})] σc Hc s') (r:Vals acc its) (hz:acc.length<=sizeLine):
  Hc l=none/\Inv X pins σ (upd Hc l (.lst acc)) s':=by
 obtain ⟨hlo,hln,hlC,hlf,_⟩:=J.pin (l,{cls:= .type "list",data:= .seq its.toArray n}) (List.mem_append_right _ List.mem_cons_self)
 have hln:Hc l=none:=hln
 have hlo:s'.heap.get? l=some {cls:= .type "list",data:= .seq its.toArray n}:=hlo
 refine ⟨hln,?_⟩
 have hb:=J.base
 have young: ∀{b:Addr}{o:Obj},s.heap.get? b=some o->b≠l:=fun e z=>by
  subst z
  exact absurd (Nat.lt_of_lt_of_le (Heap.lt_size e) hl) (Nat.lt_irrefl _)
 refine I.call' (ch:=fp) J.os ⟨fun b o e n h1 h2=>hb.keep b o e n h1 h2,fun b o e n h1 h2=>hb.slot b o e n h1 h2,fun b o e n h2=> ?_,fun b o e h2=>hb.there b o e h2,fun b xs e=> ?_,fun b o u e=> ?_,fun b ps e=> ?_⟩ ?_ J.bare fun b hb'=> ?_
 ·rw [ab (young e)]
  exact hb.free b o e n h2
 ·have q:=hb.tups b xs e
  rw [ab (aF q hln)]
  exact q
 ·have q:=hb.frzs b o u e
  rw [ab (aF q hln)]
  exact q
 ·have q:=hb.tbls b ps e
  rw [ab (aF q hln)]
  exact q
 ·intro a o e
  by_cases ha:a=l
  ·subst ha
   rw [ap] at e
   cases e
   exact ⟨hz,its,n,r,hlo⟩
  ·rw [ab ha] at e
   exact (J.hok a o e).stay (fun _ _ _ q=>q) (fun c q=>by rw [ab (aF q hln)];exact q) (fun c xs q=>by rw [ab (aF q hln)];exact q) fun c _ _ _ q=>by rw [ab (aF q hln)];exact q
 ·obtain ⟨f0,f1,f2,f3,f4,f5⟩:=hf b hb'
  exact ⟨f3,f1,f4,f5⟩
end
section
variable {prog:Program}{w:World}{A:Around}{R:Result->Shared->Prop}{s:Shared}
noncomputable abbrev X0:Value->Shared->Prop:=fun _ _=>False
theorem jT {α:Type}{t:Sem α}{M:Model}{Q:α->Shared->Prop}{E:Value->Shared->Prop} (h:wpAny M A t Q X0 s):wpAny M A t Q E s:=wpAny_mono h (fun _ _ q=>q) fun _ _ z=>False.elim z
theorem jU {l:Addr}{its:List Value}{k:Nat}{y:Value}{E:Value->Shared->Prop}{Q:Value->Shared->Prop} (hl:s.heap.get? l=some {cls:= .type "list",data:= .seq its.toArray k}) (hz:its.length<=sizeLine)
  (h: ∀h' k',h'.get? l=some {cls:= .type "list",data:= .seq (its++[y]).toArray k'}->(∀b o,b≠l->s.heap.get? b=some o->h'.get? b=some o)->Q .none {s with heap:=h'}):
  wpAny (model prog w) A (call (.builtin "list.append") [.ref l,y]) Q E s:=by
 refine wpAny_list_append_plain ⟨k,hl⟩ (fun h' hp sb=> ?_) (by rw [List.size_toArray];exact hz)
 obtain ⟨k',e⟩:=hp
 refine h h' k' ?_ fun b o hb q=>(sb.2 b hb).trans q
 rw [e]
 simp
theorem jV {elt target iter:Expr}{ifs:List Expr}{scope:Scope}{pos:Pos}{it acc:Value}{env:Env} (I:Nat->Shared->Prop)
  (turn: ∀n s,I n s->wpAny (model prog w) A (pyNext it) (fun r s₁=>match r with
   |none=>R (.ok .next) s₁
   |some v=>wpAny (model prog w) A (letOwnedTupleGo target it v) (fun _ s₁'=>wpAny (model prog w) A (assign target env v) (fun _ s₂=>
     wpAny (model prog w) A (forIn ifs true fun c r=>if r=true then do let ok<-isTrue c env (eval c env);pure (ForInStep.yield ok) else pure (ForInStep.yield r)) (fun ok s₃=>
      if ok=true then wpAny (model prog w) A (eval elt env) (fun x s₄=>
       wpAny (model prog w) A (call (.builtin "list.append") [acc,x]) (fun _ s₅=> ∃m,m<n/\I m s₅) X0 s₄) X0 s₃
      else∃m,m<n/\I m s₃) X0 s₂) X0 s₁') X0 s₁) X0 s)
  (n:Nat) (h:I n s):codeAny (model prog w) A (.compLoop (.ListComp elt [⟨target,iter,ifs,0⟩] scope pos) 0 it acc env) R s:=by
 refine codeAny_loop rfl I (fun n s hI=> ?_) n h
 show wpAny _ A ((compTurn (.ListComp elt [⟨target,iter,ifs,0⟩] scope pos) 0 it acc env).onRaise (fun x=>do noteFrame x env;theTreesLotGoes x)) _ _ s
 refine wpAny_noted ?_
 rw [compTurn_list]
 refine wpAny_bind (wpAny_standAt (wpAny_bind (jT (wpAny_mono (turn n s hI) (fun r s₁ h₁=> ?_) fun _ _ h'=>False.elim h'))))
 cases r with
 |none=>exact wpAny_pure h₁
 |some v=>
  refine wpAny_bind (wpAny_mono h₁ (fun _ s₁' h₁'=> ?_) fun _ _ h'=>False.elim h')
  refine wpAny_bind (wpAny_mono h₁' (fun _ s₂ h₂=>wpAny_bind (wpAny_mono h₂ (fun ok s₃ h₃=> ?_) fun _ _ h'=>False.elim h')) fun _ _ h'=>False.elim h')
  cases ok with
  |false=>exact wpAny_pure ⟨rfl,h₃⟩
  |true=>
   exact wpAny_bind (wpAny_bind (wpAny_mono h₃ (fun x s₄ h₄=>wpAny_bind (wpAny_mono h₄ (fun _ s₅ h₅=>wpAny_pure (wpAny_pure ⟨rfl,h₅⟩)) fun _ _ h'=>False.elim h')) fun _ _ h'=>False.elim h'))
end
noncomputable def PTs (X:Cx) (ifs:List Expr) (t:TT):Prop:=
 ∀(pins:List (Addr×Obj)) (s:Shared) (σ:St) (H:Hp) (Q:Bool->Hp->Prop),Inv X pins σ H s->t σ H Q->
  wpAny (model X.prog X.w) X.A (forIn ifs true fun c r=>if r=true then do let ok<-isTrue c X.env (eval c X.env);pure (ForInStep.yield ok) else pure (ForInStep.yield r)) (TP X pins σ Q) X.xe s
noncomputable def tYes:TT:=fun _ H Q=>Q true H
theorem jW {X:Cx}:PTs X [] tYes:=fun _ _ _ H _ I h=>wpAny_tests_nil ⟨H,I,h⟩
noncomputable def dC (ρ:List (Option Nat)) (wi:TI) (g:TG) (tt:TT) (te:TE):TE:=fun σ H Q=>wi σ H fun J H1=> ∃W:Nat->Nat->List V->St->Hp->Prop,(∃m,W 0 m [] (pull ρ σ) H1)/\ ∀i m acc σc Hc,W i m acc σc Hc->
 (J.stop i Hc/\acc.length<=sizeLine/\ ∀l,Hc l=none->Q (.ref l) (upd Hc l (.lst acc))) \/
 (J.go i Hc/\acc.length<sizeLine/\ ∃N:List V->St->Hp->Prop,(∀acc' σ' H',N acc' σ' H'-> ∃m',m'<m/\W (i+1) m' acc' σ' H')/\
  ∀x H',J.yld i Hc x H'->g x σc H' fun σ2 H2=>tt σ2 H2 fun b H3=>if b=true then te σ2 H3 fun v H4=>N (acc++[v]) σ2 H4 else N acc σ2 H3)
section
variable {X:Cx}{scope:Scope}{N':List Str}{ρ:List (Option Nat)}{tg iter elt:Expr}{ifs:List Expr}{pos:Pos}{wi:TI}{g:TG}{tt:TT}{te:TE}
theorem jX {use:Option (Value->Sem Unit)}{pins:List (Addr×Obj)}{s:Shared}{σ:St}{H:Hp}{Q:VK}{QQ:Value->Shared->Prop} (hc:X.calm=true) (hi:PI X tg iter wi)
  (hg: ∀C s H fp,PG (aw X scope N' C s H fp) tg g) (ht: ∀C s H fp,PTs (aw X scope N' C s H fp) ifs tt) (he: ∀C s H fp,PE (aw X scope N' C s H fp) elt te)
  (ck:cS scope X.env.scope X.N N' ρ) (hs: ∀x,foldedSetIterable iter X.env x=pure x) (I:Inv X pins σ H s) (h:dC ρ wi g tt te σ H Q)
  (post: ∀(l C:Addr) (m:Str->Option Value) (H':Hp) (s':Shared),Inv X pins σ H' s'->Q (.ref l) H'->s'.heap.Ns C m->H' C=none->C≠X.env.locals->(X.s₀.heap.objs.size<=C)->(∀x c,X.env.cells.lookup x=some c->c≠C)->(∀p∈X.pn++pins,p.1≠C)->
   compPost (model X.prog X.w) X.A X.xe use QQ (.ref l) C (.ok .next) s'):
  wpAny (model X.prog X.w) X.A (comprehension (.ListComp elt [⟨tg,iter,ifs,0⟩] scope pos) scope X.env (firstIterPos [⟨tg,iter,ifs,0⟩] pos) (newList []) false (eval iter X.env) use) QQ X.xe s:=by
 have hfr:=I.cells_of ck
 refine wpAny_comprehension_free rfl hs (jN hfr) ck.kind ck.loc ?_
 refine thn (hi pins s σ H _ I h) fun v s1 h1=>thn h1 fun itv s2 h2=> ?_
 obtain ⟨it,fp,tn,J,H2,e,I2,T,st2,f2,W,⟨m0,w0⟩,turn⟩:=h2
 subst e
 refine wpAny_newObj_type (jQ fun h₁ hns₁ hsb₁ hcl₁ hap₁=> ?_)
 dsimp only at hns₁ hsb₁ hcl₁ hap₁|-
 generalize hH2:s2.heap.push {cls:= .type "list",dict:=none,data:= .seq ([]:List Value).toArray}=G2 at hns₁ hsb₁ hcl₁ hap₁|-
 have hCs:G2.objs.size=s2.heap.objs.size+1:=by rw [<-hH2,Heap.size_push]
 have hlC:s2.heap.objs.size≠G2.objs.size:=by rw [hCs];exact Nat.ne_of_lt (Nat.lt_succ_self _)
 have hC:s2.heap.objs.size<=G2.objs.size:=by rw [hCs];exact Nat.le_succ _
 have old: ∀b o,s2.heap.get? b=some o->h₁.get? b=some o:=fun b o e=>hsb₁ b o (hH2▸Heap.get?_push_of_some _ e)
 have hlo:h₁.get? s2.heap.objs.size=some {cls:= .type "list",data:= .seq ([]:List Value).toArray}:=hsb₁ _ _ (hH2▸Heap.get?_push_size _ rfl)
 have hfo: ∀b∈fp,∃o,s2.heap.get? b=some o:=fun b hb=>let ⟨o,e,_⟩:=T.obj _ _ st2 b hb;⟨o,e⟩
 have I3:Inv (aw X scope N' G2.objs.size s2 H2 fp) [(s2.heap.objs.size,{cls:= .type "list",data:= .seq ([]:List Value).toArray})] (pull ρ σ) H2 {s2 with heap:=h₁}:=
  I2.block (t':=s2.toks) ck f2 hfo old hC hns₁ hcl₁ hap₁ (Nat.le_refl _) hlC hlo (fun v z=>nomatch z)
 have st3:tn 0 h₁:=T.keep _ _ _ st2 fun b _ o e=>old b o e
 have fpok: ∀{Hc:Hp}{lo:Obj},(∀b∈fp,Hc b=none)-> ∀b∈fp,FpOk (aw X scope N' G2.objs.size s2 H2 fp) [(s2.heap.objs.size,lo)] Hc b:=fun {Hc lo} hn b hb=>by
  obtain ⟨o,ho⟩:=hfo b hb
  have ne: ∀{a:Addr},s2.heap.objs.size<=a->b≠a:=fun ha z=>by
   subst z
   exact absurd (Nat.lt_of_lt_of_le (Heap.lt_size ho) ha) (Nat.lt_irrefl _)
  refine ⟨hn b hb,ne hC,fg I2 f2 hb,.inl hb,fun x c e=>by
   rcases cf_look e with ⟨_,g,_⟩|e
   ·exact Ne.symm (ne (by omega))
   ·exact (f2 b hb).2.2.2.2.1 x c (bt hfr e),fun p hp=> ?_⟩
  have hp':p∈[(s2.heap.objs.size,lo)]:=hp
  rcases List.mem_cons.mp hp' with z|z
  ·subst z;exact Ne.symm (ne (Nat.le_refl _))
  ·exact nomatch z
 have loop: ∀s₃:Shared,s₃={s2 with heap:=h₁}->
   codeAny (model X.prog X.w) X.A (.compLoop (.ListComp elt [⟨tg,iter,ifs,0⟩] scope pos) 0 (.ref it) (.ref s2.heap.objs.size) (compEnvC scope (cellsFrom (G2.objs.size+1) scope.names (aY scope X.env)) G2.objs.size X.env))
    (compPost (model X.prog X.w) X.A X.xe use QQ (.ref s2.heap.objs.size) G2.objs.size) s₃:=by
  rintro s₃ rfl
  refine jV (fun n s'=> ∃i acc its k σc Hc,Inv (aw X scope N' G2.objs.size s2 H2 fp) [(s2.heap.objs.size,{cls:= .type "list",data:= .seq (its:List Value).toArray k})] σc Hc s'/\Vals acc its/\tn i s'.heap/\(∀b∈fp,Hc b=none)/\W i n acc σc Hc) ?_ m0
   ⟨0,[],[],0,_,_,I3,.nil,st3,fun b hb=>(f2 b hb).1,w0⟩
  rintro n s4 ⟨i,acc,its,k,σ4,H4,I4,rv,st4,fr4,w4⟩
  rcases turn i n acc σ4 H4 w4 with ⟨stop,hz,q⟩|⟨go,hz,N,hN,step⟩
  ·refine thn (T.done (aw X scope N' G2.objs.size s2 H2 fp) rfl rfl rfl hc i _ s4 σ4 H4 X0 I4 (fpok fr4) st4 stop) fun r s5 ⟨hr,I5⟩=> ?_
   subst hr
   obtain ⟨hln,I6⟩:=I2.unblock f2 hC (Nat.le_refl _) I5 rv hz
   obtain ⟨m,hm,_⟩:=I5.loc
   have hcn:H4 G2.objs.size=none:=I5.free
   have f6:=I2.fpOk hC (H':=H2) (I2.hok.fresh hC)
   exact post s2.heap.objs.size G2.objs.size m _ s5 I6 (q _ hln) hm (by rw [ab (Ne.symm hlC)];exact hcn) f6.2.1 (Nat.le_trans I2.sz hC) f6.2.2.2.2.1 f6.2.2.2.2.2
  ·refine thn (T.item (aw X scope N' G2.objs.size s2 H2 fp) rfl rfl rfl hc i _ s4 σ4 H4 X0 I4 (fpok fr4) st4 go) fun r s5 ⟨u,hr,h5⟩=> ?_
   subst hr
   refine thn h5 fun _ s6 ⟨x,H6,I6,r6,y6,st6,fr6⟩=> ?_
   have I6':=I6.pinned (fpok fr6) (T.obj _ _ st6)
   refine thn (hg G2.objs.size s2 H2 fp _ s6 σ4 H6 x u _ I6' r6 (step x H6 y6)) fun _ s7 ⟨σ7,H7,I7,q7⟩=> ?_
   refine thn (ht G2.objs.size s2 H2 fp _ s7 σ7 H7 _ I7 q7) fun b s8 ⟨H8,I8,q8⟩=> ?_
   have stay: ∀{σ9:St}{H9:Hp}{s9:Shared},Inv (aw X scope N' G2.objs.size s2 H2 fp) ([(s2.heap.objs.size,{cls:= .type "list",data:= .seq its.toArray k})]++cq fp s6.heap) σ9 H9 s9->tn (i+1) s9.heap/\ ∀b∈fp,H9 b=none:=fun {σ9 H9 s9} I9=>by
    refine ⟨T.keep _ _ _ st6 fun b hb o e=>(I9.pin (b,o) (List.mem_append_right _ (List.mem_append_right _ (cM hb e)))).1,fun b hb=> ?_⟩
    obtain ⟨o,e,d⟩:=T.obj _ _ st6 b hb
    exact (I9.pin (b,o) (List.mem_append_right _ (List.mem_append_right _ (cM hb e)))).2.1
   cases b with
   |false=>
    rw [if_neg Bool.false_ne_true]
    rw [if_neg Bool.false_ne_true] at q8
    obtain ⟨m',hm,w9⟩:=hN _ _ _ q8
    obtain ⟨a1,a2⟩:=stay I8
    exact ⟨m',hm,i+1,acc,its,k,σ7,H8,I8.unpinned,rv,a1,a2,w9⟩
   |true=>
    rw [if_pos rfl]
    rw [if_pos rfl] at q8
    refine thn (he G2.objs.size s2 H2 fp _ s8 σ7 H8 _ I8 q8) fun y s9 ⟨v,H9,I9,r9,q9⟩=> ?_
    obtain ⟨m',hm,w9⟩:=hN _ _ _ q9
    obtain ⟨a1,a2⟩:=stay I9
    have J9:=I9.unpinned
    obtain ⟨p1,p2,p3,p4,p5⟩:=J9.pin (s2.heap.objs.size,{cls:= .type "list",data:= .seq its.toArray k}) (List.mem_append_right _ List.mem_cons_self)
    have p1:s9.heap.get? s2.heap.objs.size=some {cls:= .type "list",data:= .seq its.toArray k}:=p1
    have hlen:=rv.length
    refine jU p1 (by omega) fun h10 k' g10 sb10=>⟨m',hm,i+1,acc++[v],its++[y],k',σ7,H9,?_,Vals.append rv (.cons r9 .nil),?_,a2,w9⟩
    ·have nfp:s2.heap.objs.size∉fp:=fun z=>by
      obtain ⟨o,e⟩:=hfo _ z
      exact absurd (Heap.lt_size e) (Nat.lt_irrefl _)
     have J10:Inv (aw X scope N' G2.objs.size s2 H2 fp) [] σ7 H9 s9:=J9.pins_of fun p hp=>nomatch hp
     have ncell: ∀x c,(aw X scope N' G2.objs.size s2 H2 fp).env.cells.lookup x=some c->c≠s2.heap.objs.size:=fun x c e z=>by
      obtain ⟨v',o',ho',hd'⟩:=J10.cell x c e
      rw [z,p1] at ho'
      cases ho'
      cases hd'
     have J11:Inv (aw X scope N' G2.objs.size s2 H2 fp) [] σ7 H9 {s9 with heap:=h10}:=J10.turned (t':=s9.toks) (it:=s2.heap.objs.size) (fun b o hb e=>sb10 b o hb e) p2 p3 (.inr (Nat.le_refl _)) ncell (fun p hp=>nomatch hp)
     refine J11.pins_of fun p hp=> ?_
     rcases List.mem_cons.mp hp with z|z
     ·subst z
      exact ⟨g10,p2,p3,p4,fun v z=>nomatch z⟩
     ·exact nomatch z
    ·refine T.keep _ _ _ a1 fun b hb o e=>sb10 b o (fun z=> ?_) e
     subst z
     obtain ⟨o',e'⟩:=hfo _ hb
     exact absurd (Heap.lt_size e') (Nat.lt_irrefl _)
 exact codeAny_compStart_list (loop _ rfl) (T.self X.A 0 _ _ _ st3 (loop _ rfl))
theorem jY (N':List Str) (ρ:List (Option Nat)) (hc:X.calm=true) (hi:PI X tg iter wi)
  (hg: ∀C s H fp,PG (aw X scope N' C s H fp) tg g) (ht: ∀C s H fp,PTs (aw X scope N' C s H fp) ifs tt) (he: ∀C s H fp,PE (aw X scope N' C s H fp) elt te)
  (ck:cR scope X.env.scope X.N N' ρ=true) (hs: ∀x,foldedSetIterable iter X.env x=pure x:=by intro _;rfl):
  PE X (.ListComp elt [⟨tg,iter,ifs,0⟩] scope pos) (dC ρ wi g tt te):=by
 intro pins s σ H Q I h
 rw [eval_ListComp]
 refine jX (use:=none) hc hi hg ht he (jR ck) hs I h fun l C m H' s' I' q hm hC h1 h2 h3 h4=> ?_
 refine ⟨m,hm,fun h'' sb=> ?_⟩
 refine ⟨.ref l,H',?_,rfl,q⟩
 exact I'.turned (t':=s'.toks) (it:=C) (fun b o hb e=>(sb.2 b hb).trans e) hC h1 (.inr h2) h3 h4
end
end L2
set_option maxHeartbeats 4000000
namespace L2
open PySem PySem.Spec PyProof.Rows
section
variable {X:Cx}
theorem jZ:aX X (.builtin "isinstance") (fun xs H Q=> ∃x T t b,xs=[x,.ty T]/\TyOf X.K H x t/\PySem.W.kitOne X.K t (.type T)=some b/\Q (.bl b) H):=by
 intro pins s σ H xs us Q I r h
 obtain ⟨x,T,t,b,rfl,ty,e,q⟩:=h
 obtain ⟨u,v,rfl,ru,rv⟩:=r.two
 have ev:v=Value.type T:=rv
 subst ev
 exact iZ I ru ty e fun tk=>⟨.bl b,H,I.tok _,rfl,q⟩
noncomputable def fh (i j:Int):Prop:=0<=j/\(Builtin.Int.intBits i:Int)*j<=2^27
theorem cA:OpR X (binaryOp .Pow) (rI fh fun i j=> .int (i^j.toNat)):=opI fun _ _ _ _ _ _ _ hc q=>pow_int hc.1 hc.2 q
noncomputable def fi (i j:Int):Prop:=IntMulOk i j
theorem bu:OpR X (binaryOp .Mult) (rI fi fun i j=> .int (i*j)):=opI fun _ _ _ _ _ _ _ hc q=>mul_int q hc
noncomputable def Def (P:Program) (w:World) (K:PySem.W.Frag) (mg:Str->Option Value) (base:Heap) (k:Nat) (x:Str) (ps:List Str) (sp:Sp):Prop:=
 ∃f fd,FnOk P w K mg base CX0 k f fd ps sp/\mg x=some (.ref f)/\PySem.W.keepIn K (.ref f)=true/\bq K fd ps []
noncomputable def tCal (sp:Sp) (t:TA):TE:=fun σ H Q=>t σ H fun vs H1=>sp vs H1 Q E0
theorem fj {k:Nat}{x:Str}{ps:List Str}{sp:Sp}{e:Expr}{es:List Expr}{t:TA}{p pos:Pos} (D:Def X.prog X.w X.K X.mg X.base k x ps sp) (hr:Room k X.A) (ha:PA X (e::es) t) (hg:Gl X x:=by rfl)
  (hdb:(x==("__debug__":Str))=false:=by decide) (he:starEach (e::es) X.env=(false,eval e X.env)::starEach es X.env:=by rfl) (hpl:(backTo pos (starEach es X.env)).any (·.1)=false:=by rfl):
  PE X (.Call (.Name x p) (e::es) [] pos) (tCal sp t):=by
 obtain ⟨f,fd,F,hm,kp,hb⟩:=D
 intro pins s σ H Q I h
 refine i3 (E:=E0) (dvs:=[]) (ds:=[]) F hr hg hm kp hb .nil jL ha hdb he hpl pins s σ H Q I ?_
 have e:dt sp [] E0 t=tCal sp t:=by
  funext σ H Q
  unfold dt tCal
  congr 1
  funext vs H1
  rw [List.append_nil]
 rw [e]
 exact h
theorem bj {P:Program}{w:World}{K:PySem.W.Frag}{mg:Str->Option Value}{base:Heap}{k:Nat}{x:Str}{ps:List Str}{sp:Sp}{st:Stmt}{f:Addr}{fd:FuncData} (F:Fun K x x st f fd) (hm:mg x=some (.ref f))
  (G:FnOk P w K mg base CX0 k f fd ps sp) (b:bq K fd ps []):Def P w K mg base k x ps sp:=⟨f,fd,G,hm,F.kp,b⟩
end
theorem Same.upd {H:Hp}{a:Addr}{o:HO} (h:H a=none):Same H (upd H a o):=fun b u e=>by
 rw [ab (aF e h)]
 exact e
theorem cT:bootBuiltins "len"=some (.builtin "len"):=by decide+kernel
theorem j0:bootBuiltins "isinstance"=some (.builtin "isinstance"):=by decide+kernel
theorem j1:bootBuiltins "all"=some (.builtin "all"):=by decide+kernel
theorem fk:bootBuiltins "bool"=some (.type "bool"):=by decide+kernel
theorem j2:bootBuiltins "int"=some (.type "int"):=by decide+kernel
theorem j3:bootBuiltins "str"=some (.type "str"):=by decide+kernel
theorem dD:bootBuiltins "list"=some (.type "list"):=by decide+kernel
theorem bP:bootBuiltins "tuple"=some (.type "tuple"):=by decide+kernel
end L2
set_option maxHeartbeats 4000000
namespace L2
open PySem PySem.Spec PyProof.Rows
variable {KF:PySem.W.Frag}
structure LamD where
 qual:Str
 params:Arguments
 body:Expr
 scope:Scope
noncomputable def FnG (H:Hp) (a:Addr) (L:LamD):Prop:= ∃(pm ctv:Value) (c:Addr) (oc:Obj) (vs:Array Value) (t:Tok),H a=some (.frz (PySem.W.kla_obj "<lambda>" L.qual L.params L.body L.scope [] pm c ctv) (.own 0))/\H c=some (.frz oc (.own 0))/\oc.data= .fields vs/\vs[1]?=some (.str L.qual t)
noncomputable def FnC (H:Hp) (a:Addr) (L:LamD) (x:Str) (i:Int):Prop:= ∃(pm ctv:Value) (c cl:Addr) (oc ol:Obj) (vs:Array Value) (t tk:Tok),H a=some (.frz (PySem.W.kla_obj "<lambda>" L.qual L.params L.body L.scope [(x,cl)] pm c ctv) (.own 0))/\H c=some (.frz oc (.own 0))/\H cl=some (.frz ol (.own 0))/\oc.data= .fields vs/\vs[1]?=some (.str L.qual t)/\ol.data= .cell (some (.int i tk))
inductive Dv where
 |non|bl (b:Bool)|int (i:Int)|str (x:Str)|lst (xs:List Dv)|tup (xs:List Dv)|dic (kvs:List (List Key×Dv))
 |scr (ns:List Int)
 |fn (L:LamD)
 |fc (L:LamD) (x:Str) (i:Int)
 |dik (kvs:List (Key×Dv))
 |ins (C:Addr) (fs:List (Str×Dv))
instance:Inhabited Dv:=⟨.non⟩
mutual
noncomputable def Dv.toPy:Dv->PyData
 | .non=> .none
 | .bl b=> .bool b
 | .int i=> .int i
 | .str x=> .str x
 | .lst xs=> .list (ax xs)
 | .tup xs=> .tuple (ax xs)
 | .dic _=> .dict []
 | .scr _=> .dict []
 | .fn _=> .dict []
 | .fc _ _ _=> .dict []
 | .dik _=> .dict []
 | .ins _ _=> .dict []
noncomputable def ax:List Dv->List PyData
 |[]=>[]
 |x::r=>x.toPy::ax r
end
mutual
noncomputable def Dv.imm:Dv->Bool
 | .lst _=>false
 | .dic _=>false
 | .scr _=>false
 | .fn _=>false
 | .fc _ _ _=>false
 | .dik _=>false
 | .ins _ _=>false
 | .tup xs=>imms xs
 |_=>true
noncomputable def imms:List Dv->Bool
 |[]=>true
 |x::r=>x.imm&&imms r
end
noncomputable def Scr (KF:PySem.W.Frag) (H:Hp) (a:Addr) (ns:List Int):Prop:=(∃o,H a=some (.frz o (.lst (ns.map V.int)))) \/
 ∃(o:Obj) (its:Array Value) (n:Nat),KF.lookup a=some o/\o.cls= .type "list"/\o.dict=none/\o.data= .seq its n/\its.size<=sizeLine/\Vals (ns.map V.int) its.toList
theorem Scr.sq {KF:PySem.W.Frag}{H:Hp}{a:Addr}{ns:List Int} (h:Scr KF H a ns):SqL KF H a (ns.map V.int):=by
 rcases h with ⟨o,h⟩|h
 ·exact .inl (.inr ⟨o,h⟩)
 ·exact .inr h
mutual
inductive RepF (KF:PySem.W.Frag) (S:Addr->Prop) (H:Hp):V->Dv->Prop
 |non:RepF KF S H .non .non
 |bl (b:Bool):RepF KF S H (.bl b) (.bl b)
 |int (i:Int):RepF KF S H (.int i) (.int i)
 |str (x:Str):RepF KF S H (.str x) (.str x)
 |lst {a:Addr}{xs:List V}{ds:List Dv}:S a->H a=some (.lst xs)->RepsF KF S H xs ds->RepF KF S H (.ref a) (.lst ds)
 |tup {a:Addr}{xs:List V}{ds:List Dv}:H a=some (.tup xs)->RepsF KF S H xs ds->RepF KF S H (.ref a) (.tup ds)
 |dic {a:Addr}{xs:List (List Key×V)}{ds:List (List Key×Dv)}:S a->Rd H a (.dT xs)->ag KF S H xs ds->RepF KF S H (.ref a) (.dic ds)
 |scr {a:Addr}{ns:List Int}:Scr KF H a ns->RepF KF S H (.ref a) (.scr ns)
 |fn {a:Addr}{L:LamD}:FnG H a L->RepF KF S H (.ref a) (.fn L)
 |fc {a:Addr}{L:LamD}{x:Str}{i:Int}:FnC H a L x i->RepF KF S H (.ref a) (.fc L x i)
 |dik {a:Addr}{xs:List (Key×V)}{ds:List (Key×Dv)}:S a->Rd H a (.dK xs)->ag KF S H xs ds->RepF KF S H (.ref a) (.dik ds)
 |ins {a C dx:Addr}{xs:List (Str×V)}{ds:List (Str×Dv)}:S a->H a=some (.ins C dx xs)->ag KF S H xs ds->RepF KF S H (.ref a) (.ins C ds)
inductive RepsF (KF:PySem.W.Frag) (S:Addr->Prop) (H:Hp):List V->List Dv->Prop
 |nil:RepsF KF S H [] []
 |cons {v:V}{vs:List V}{d:Dv}{ds:List Dv}:RepF KF S H v d->RepsF KF S H vs ds->RepsF KF S H (v::vs) (d::ds)
inductive ag (KF:PySem.W.Frag) (S:Addr->Prop) (H:Hp):{κ:Type}->List (κ×V)->List (κ×Dv)->Prop
 |nil {κ:Type}:ag KF S H ([]:List (κ×V)) []
 |cons {κ:Type}{k:κ}{v:V}{vs:List (κ×V)}{d:Dv}{ds:List (κ×Dv)}:RepF KF S H v d->ag KF S H vs ds->ag KF S H ((k,v)::vs) ((k,d)::ds)
end
noncomputable abbrev Imm:Addr->Prop:=fun _=>False
noncomputable def au (S:Addr->Prop) (H H':Hp):Prop:= ∀a o,H a=some o->((∃xs,o= .tup xs) \/(∃b u,o= .frz b u) \/S a)->H' a=some o
theorem au.of {S:Addr->Prop}{H H':Hp} (e:Same H H'):au S H H':=fun a o h _=>e a o h
theorem au.mono {S S':Addr->Prop}{H H':Hp} (e:au S' H H') (m: ∀a,S a->S' a):au S H H':=fun a o h c=>e a o h (c.imp id (.imp id (m a)))
mutual
theorem RepF.keep {S:Addr->Prop}{H H':Hp} (e:au S H H'): ∀{v:V}{d:Dv},RepF KF S H v d->RepF KF S H' v d
 |_,_,.non=> .non
 |_,_,.bl b=> .bl b
 |_,_,.int i=> .int i
 |_,_,.str x=> .str x
 |_,_,.lst s h r=> .lst s (e _ _ h (.inr (.inr s))) (RepsF.keep e r)
 |_,_,.tup h r=> .tup (e _ _ h (.inl ⟨_,rfl⟩)) (RepsF.keep e r)
 |_,_,.dic s h r=> .dic s (h.elim (fun h=> .inl (e _ _ h (.inr (.inr s)))) fun ⟨o,h⟩=> .inr ⟨o,e _ _ h (.inr (.inl ⟨_,_,rfl⟩))⟩) (ag.keep e r)
 |_,_,.scr h=> .scr (h.imp (fun ⟨o,q⟩=>⟨o,e _ _ q (.inr (.inl ⟨_,_,rfl⟩))⟩) id)
 |_,_,.fc ⟨pm,ctv,c,cl,oc,ol,vs,t,tk,h1,h2,h3,h4⟩=> .fc ⟨pm,ctv,c,cl,oc,ol,vs,t,tk,e _ _ h1 (.inr (.inl ⟨_,_,rfl⟩)),e _ _ h2 (.inr (.inl ⟨_,_,rfl⟩)),e _ _ h3 (.inr (.inl ⟨_,_,rfl⟩)),h4⟩
 |_,_,.fn ⟨pm,ctv,c,oc,vs,t,h1,h2,h3⟩=> .fn ⟨pm,ctv,c,oc,vs,t,e _ _ h1 (.inr (.inl ⟨_,_,rfl⟩)),e _ _ h2 (.inr (.inl ⟨_,_,rfl⟩)),h3⟩
 |_,_,.dik s h r=> .dik s (h.elim (fun h=> .inl (e _ _ h (.inr (.inr s)))) fun ⟨o,h⟩=> .inr ⟨o,e _ _ h (.inr (.inl ⟨_,_,rfl⟩))⟩) (ag.keep e r)
 |_,_,.ins s h r=> .ins s (e _ _ h (.inr (.inr s))) (ag.keep e r)
theorem RepsF.keep {S:Addr->Prop}{H H':Hp} (e:au S H H'): ∀{vs:List V}{ds:List Dv},RepsF KF S H vs ds->RepsF KF S H' vs ds
 |_,_,.nil=> .nil
 |_,_,.cons h r=> .cons (RepF.keep e h) (RepsF.keep e r)
theorem ag.keep {S:Addr->Prop}{H H':Hp} (e:au S H H'): ∀{κ:Type}{vs:List (κ×V)}{ds:List (κ×Dv)},ag KF S H vs ds->ag KF S H' vs ds
 |_,_,_,.nil=> .nil
 |_,_,_,.cons h r=> .cons (RepF.keep e h) (ag.keep e r)
end
mutual
theorem RepF.mono {S S':Addr->Prop}{H:Hp} (m: ∀a,H a≠none->S a->S' a): ∀{v:V}{d:Dv},RepF KF S H v d->RepF KF S' H v d
 |_,_,.non=> .non
 |_,_,.bl b=> .bl b
 |_,_,.int i=> .int i
 |_,_,.str x=> .str x
 |_,_,.lst s h r=> .lst (m _ (by rw [h];exact fun z=>nomatch z) s) h (RepsF.mono m r)
 |_,_,.tup h r=> .tup h (RepsF.mono m r)
 |_,_,.dic s h r=> .dic (m _ (h.elim (fun h=>by rw [h];exact fun z=>nomatch z) fun ⟨_,h⟩=>by rw [h];exact fun z=>nomatch z) s) h (ag.mono m r)
 |_,_,.scr h=> .scr h
 |_,_,.fn h=> .fn h
 |_,_,.fc h=> .fc h
 |_,_,.dik s h r=> .dik (m _ (h.elim (fun h=>by rw [h];exact fun z=>nomatch z) fun ⟨_,h⟩=>by rw [h];exact fun z=>nomatch z) s) h (ag.mono m r)
 |_,_,.ins s h r=> .ins (m _ (by rw [h];exact fun z=>nomatch z) s) h (ag.mono m r)
theorem RepsF.mono {S S':Addr->Prop}{H:Hp} (m: ∀a,H a≠none->S a->S' a): ∀{vs:List V}{ds:List Dv},RepsF KF S H vs ds->RepsF KF S' H vs ds
 |_,_,.nil=> .nil
 |_,_,.cons h r=> .cons (RepF.mono m h) (RepsF.mono m r)
theorem ag.mono {S S':Addr->Prop}{H:Hp} (m: ∀a,H a≠none->S a->S' a): ∀{κ:Type}{vs:List (κ×V)}{ds:List (κ×Dv)},ag KF S H vs ds->ag KF S' H vs ds
 |_,_,_,.nil=> .nil
 |_,_,_,.cons h r=> .cons (RepF.mono m h) (ag.mono m r)
end
mutual
theorem RepF.imm {S S':Addr->Prop}{H:Hp}: ∀{v:V}{d:Dv},RepF KF S H v d->d.imm=true->RepF KF S' H v d
 |_,_,.non,_=> .non
 |_,_,.bl b,_=> .bl b
 |_,_,.int i,_=> .int i
 |_,_,.str x,_=> .str x
 |_,_,.lst _ _ _,h=>by simp [Dv.imm] at h
 |_,_,.tup e r,h=> .tup e (RepsF.imm r (by simpa [Dv.imm] using h))
 |_,_,.dic _ _ _,h=>by simp [Dv.imm] at h
 |_,_,.scr _,h=>by simp [Dv.imm] at h
 |_,_,.fn _,h=>by simp [Dv.imm] at h
 |_,_,.fc _,h=>by simp [Dv.imm] at h
 |_,_,.dik _ _ _,h=>by simp [Dv.imm] at h
 |_,_,.ins _ _ _,h=>by simp [Dv.imm] at h
theorem RepsF.imm {S S':Addr->Prop}{H:Hp}: ∀{vs:List V}{ds:List Dv},RepsF KF S H vs ds->imms ds=true->RepsF KF S' H vs ds
 |_,_,.nil,_=> .nil
 |_,_,.cons a r,h=>by
  rw [imms,Bool.and_eq_true] at h
  exact .cons (RepF.imm a h.1) (RepsF.imm r h.2)
end
theorem RepF.same {S:Addr->Prop}{H H':Hp} (e:Same H H') {v:V}{d:Dv} (r:RepF KF S H v d):RepF KF S H' v d:=r.keep (.of e)
theorem RepsF.same {S:Addr->Prop}{H H':Hp} (e:Same H H') {v:List V}{d:List Dv} (r:RepsF KF S H v d):RepsF KF S H' v d:=r.keep (.of e)
theorem RepsF.append {S:Addr->Prop}{H:Hp}: ∀{xs ys:List V}{ds es:List Dv},RepsF KF S H xs ds->RepsF KF S H ys es->RepsF KF S H (xs++ys) (ds++es)
 |_,_,_,_,.nil,s=>s
 |_,_,_,_,.cons h r,s=> .cons h (RepsF.append r s)
theorem RepsF.length {S:Addr->Prop}{H:Hp}: ∀{xs:List V}{ds:List Dv},RepsF KF S H xs ds->xs.length=ds.length
 |_,_,.nil=>rfl
 |_,_,.cons _ r=>congrArg (· +1) (RepsF.length r)
theorem RepsF.get {S:Addr->Prop}{H:Hp}: ∀{xs:List V}{ds:List Dv}{i:Nat}{d:Dv},RepsF KF S H xs ds->ds[i]?=some d-> ∃x,xs[i]?=some x/\RepF KF S H x d
 |_,_,_,_,.nil,e=>by simp at e
 |_,_,0,_,.cons h _,e=>by simp at e;subst e;exact ⟨_,rfl,h⟩
 |_,_,i+1,x,.cons _ r,e=>by
  obtain ⟨d,h1,h2⟩:=RepsF.get (i:=i) r (by simpa using e)
  exact ⟨d,by simpa using h1,h2⟩
theorem RepsF.get' {S:Addr->Prop}{H:Hp}: ∀{xs:List V}{ds:List Dv}{i:Nat}{x:V},RepsF KF S H xs ds->xs[i]?=some x-> ∃d,ds[i]?=some d/\RepF KF S H x d
 |_,_,_,_,.nil,e=>by simp at e
 |_,_,0,_,.cons h _,e=>by simp at e;subst e;exact ⟨_,rfl,h⟩
 |_,_,i+1,x,.cons _ r,e=>by
  obtain ⟨d,h1,h2⟩:=RepsF.get' (i:=i) r (by simpa using e)
  exact ⟨d,by simpa using h1,h2⟩
theorem RepsF.drop {S:Addr->Prop}{H:Hp}: ∀(k:Nat) {xs:List V}{ds:List Dv},RepsF KF S H xs ds->RepsF KF S H (xs.drop k) (ds.drop k)
 |0,_,_,r=>by simpa using r
 |k+1,_,_,.nil=>by simpa using RepsF.nil
 |k+1,_,_,.cons _ r=>by simpa using RepsF.drop k r
theorem RepsF.take {S:Addr->Prop}{H:Hp}: ∀(k:Nat) {xs:List V}{ds:List Dv},RepsF KF S H xs ds->RepsF KF S H (xs.take k) (ds.take k)
 |0,_,_,_=>by simpa using RepsF.nil
 |k+1,_,_,.nil=>by simpa using RepsF.nil
 |k+1,_,_,.cons h r=>by simpa using RepsF.cons h (RepsF.take k r)
theorem RepsF.reverse {S:Addr->Prop}{H:Hp}: ∀{xs:List V}{ds:List Dv},RepsF KF S H xs ds->RepsF KF S H xs.reverse ds.reverse
 |_,_,.nil=> .nil
 |_,_,.cons h r=>by
  rw [List.reverse_cons,List.reverse_cons]
  exact RepsF.append (RepsF.reverse r) (.cons h .nil)
theorem RepsF.set {S:Addr->Prop}{H:Hp}: ∀{xs:List V}{ds:List Dv} (i:Nat) {x:V}{d:Dv},RepsF KF S H xs ds->RepF KF S H x d->RepsF KF S H (xs.set i x) (ds.set i d)
 |_,_,_,_,_,.nil,_=> .nil
 |_,_,0,_,_,.cons _ r,h=> .cons h r
 |_,_,i+1,_,_,.cons a r,h=> .cons a (RepsF.set i r h)
theorem cU {S:Addr->Prop}{H:Hp}: ∀(r:List Int),RepsF KF S H (r.map V.int) (r.map Dv.int)
 |[]=> .nil
 |i::r=> .cons (.int i) (cU r)
theorem RepsF.bls {S:Addr->Prop}{H:Hp}: ∀{xs:List V}{r:List Bool},RepsF KF S H xs (r.map Dv.bl)->xs=r.map V.bl
 |_,[],.nil=>rfl
 |_,i::r,.cons h q=>by
  cases h
  rw [RepsF.bls q]
  all_goals rfl
section
variable {X:Cx}{pins:List (Addr×Obj)}{σ:St}{H:Hp}{s:Shared}{S:Addr->Prop}
mutual
theorem RepF.reads (I:Inv X pins σ H s): ∀{v:V}{d:Dv}{u:Value},RepF KF S H v d->RelV v u->PyData.canLay0 d.toPy=true-> ∃as,Reads s.heap u d.toPy as
 |_,_,_,.non,r,_=>by cases r;exact ⟨_,.none⟩
 |_,_,_,.bl b,r,_=>by cases r;exact ⟨_,.bool b⟩
 |_,_,_,.int i,r,_=>by obtain ⟨t,rfl⟩:=r;exact ⟨_,.int i t⟩
 |_,_,_,.str x,r,_=>by obtain ⟨t,rfl⟩:=r;exact ⟨_,.str x t⟩
 |_,_,_,.lst _ h q,r,c=>by
  cases r
  obtain ⟨its,rv,⟨o,n,ho,hc,_,hd⟩,_⟩:=I.list (SqL.of h)
  obtain ⟨as,ra⟩:=RepsF.reads I q rv (by simpa [Dv.toPy,PyData.canLay0] using c)
  exact ⟨_,.list ho hc hd (by simpa using ra)⟩
 |_,_,_,.tup h q,r,c=>by
  cases r
  obtain ⟨its,rv,⟨o,ho,hc,n,hd⟩,_⟩:=I.tuple (SqT.of h)
  obtain ⟨as,ra⟩:=RepsF.reads I q rv (by simpa [Dv.toPy,PyData.canLay0] using c)
  exact ⟨_,.tuple ho hc hd (by simpa using ra)⟩
 |_,_,_,.dic _ _ _,_,c=>by simp [Dv.toPy,PyData.canLay0] at c
 |_,_,_,.scr _,_,c=>by simp [Dv.toPy,PyData.canLay0] at c
 |_,_,_,.fn _,_,c=>by simp [Dv.toPy,PyData.canLay0] at c
 |_,_,_,.fc _,_,c=>by simp [Dv.toPy,PyData.canLay0] at c
 |_,_,_,.dik _ _ _,_,c=>by simp [Dv.toPy,PyData.canLay0] at c
 |_,_,_,.ins _ _ _,_,c=>by simp [Dv.toPy,PyData.canLay0] at c
theorem RepsF.reads (I:Inv X pins σ H s): ∀{vs:List V}{ds:List Dv}{us:List Value},RepsF KF S H vs ds->Vals vs us->PyData.canLayAll0 (ax ds)=true-> ∃as,ReadsAll s.heap us (ax ds) as
 |_,_,_,.nil,r,_=>by cases r;exact ⟨_,.nil⟩
 |_,_,_,.cons h q,r,c=>by
  rw [ax,PyData.canLayAll0,Bool.and_eq_true] at c
  cases r with
  |cons r1 r2=>
   obtain ⟨as,ra⟩:=RepF.reads I h r1 c.1
   obtain ⟨bs,rb⟩:=RepsF.reads I q r2 c.2
   exact ⟨_,.cons ra rb⟩
end
noncomputable def eqOk (x y:Dv):Bool:=x.toPy.canLay0&&y.toPy.canLay0&&decide (min x.toPy.depth y.toPy.depth<=60)
noncomputable def rEqF (KF:PySem.W.Frag):R2:=fun x y H Q=> ∃dx dy,RepF KF (fun _=>True) H x dx/\RepF KF (fun _=>True) H y dy/\eqOk dx dy=true/\Q (.bl (PyData.eqv dx.toPy dy.toPy)) H
noncomputable def rNeF (KF:PySem.W.Frag):R2:=fun x y H Q=> ∃dx dy,RepF KF (fun _=>True) H x dx/\RepF KF (fun _=>True) H y dy/\eqOk dx dy=true/\Q (.bl (!PyData.eqv dx.toPy dy.toPy)) H
theorem fm {x y:Dv} (h:eqOk x y=true):x.toPy.canLay0=true/\y.toPy.canLay0=true/\min x.toPy.depth y.toPy.depth<=60:=by
 unfold eqOk at h
 rw [Bool.and_eq_true,Bool.and_eq_true] at h
 exact ⟨h.1.1,h.1.2,of_decide_eq_true h.2⟩
theorem bv (hu:X.A.units+64<cLine):OpR X (compareOp .Eq) (rEqF X.K):=by
 intro pins s σ H x y v u Q I rx ry h
 obtain ⟨dx,dy,hx,hy,ok,q⟩:=h
 obtain ⟨cx,cy,dp⟩:=fm ok
 obtain ⟨as,ra⟩:=hx.reads I rx cx
 obtain ⟨bs,rb⟩:=hy.reads I ry cy
 exact SeqAt.compareEq_reads ra rb cx cy (by omega) ⟨.bl _,H,I,rfl,q⟩
theorem fo (hu:X.A.units+64<cLine):OpR X (compareOp .NotEq) (rNeF X.K):=by
 intro pins s σ H x y v u Q I rx ry h
 obtain ⟨dx,dy,hx,hy,ok,q⟩:=h
 obtain ⟨cx,cy,dp⟩:=fm ok
 obtain ⟨as,ra⟩:=hx.reads I rx cx
 obtain ⟨bs,rb⟩:=hy.reads I ry cy
 exact SeqAt.compareNe_reads ra rb cx cy (by omega) ⟨.bl _,H,I,rfl,q⟩
end
end L2
set_option maxHeartbeats 4000000
namespace L2
open PySem PySem.Spec PyProof.Rows
variable {KF:PySem.W.Frag}{W W':Addr->Prop}
noncomputable abbrev Dt:=List (Option Dv)
noncomputable abbrev EM:=Dt->Option Dv
noncomputable def isOwn (ms:List Nat) (i:Nat):Bool:=decide (i∈ms)||(decide (i+1000∈ms)||decide (i+2000∈ms))
noncomputable abbrev W0:Addr->Prop:=fun _=>False
noncomputable def Cell (KF:PySem.W.Frag) (H:Hp) (a:Addr):Dv->Prop
 | .lst ds=> ∃xs,H a=some (.lst xs)/\RepsF KF Imm H xs ds
 | .dic ds=> ∃xs,H a=some (.dT xs)/\ag KF Imm H xs ds
 |_=>False
mutual
inductive Tree (KF:PySem.W.Frag) (H:Hp):V->Dv->List Addr->Prop
 |imm {v:V}{d:Dv}:RepF KF Imm H v d->Tree KF H v d []
 |lst {a:Addr}{xs:List V}{ds:List Dv}{F:List Addr}:H a=some (.lst xs)->ao KF H xs ds F->Tree KF H (.ref a) (.lst ds) (a::F)
 |dic {a:Addr}{xs:List (List Key×V)}{ds:List (List Key×Dv)}{F:List Addr}:H a=some (.dT xs)->ai KF H xs ds F->Tree KF H (.ref a) (.dic ds) (a::F)
 |dik {a:Addr}{xs:List (Key×V)}{ds:List (Key×Dv)}{F:List Addr}:H a=some (.dK xs)->ai KF H xs ds F->Tree KF H (.ref a) (.dik ds) (a::F)
 |ins {a C dx:Addr}{xs:List (Str×V)}{ds:List (Str×Dv)}{F:List Addr}:H a=some (.ins C dx xs)->ai KF H xs ds F->Tree KF H (.ref a) (.ins C ds) (a::F)
inductive ao (KF:PySem.W.Frag) (H:Hp):List V->List Dv->List Addr->Prop
 |nil:ao KF H [] [] []
 |cons {v:V}{vs:List V}{d:Dv}{ds:List Dv}{F G:List Addr}:Tree KF H v d F->ao KF H vs ds G->ao KF H (v::vs) (d::ds) (F++G)
inductive ai (KF:PySem.W.Frag) (H:Hp):{κ:Type}->List (κ×V)->List (κ×Dv)->List Addr->Prop
 |nil {κ:Type}:ai KF H ([]:List (κ×V)) [] []
 |cons {κ:Type}{k:κ}{v:V}{vs:List (κ×V)}{d:Dv}{ds:List (κ×Dv)}{F G:List Addr}:Tree KF H v d F->ai KF H vs ds G->ai KF H ((k,v)::vs) ((k,d)::ds) (F++G)
end
inductive Kd where
 |one|imm|frh|any|bor|dp
noncomputable def Got (KF:PySem.W.Frag) (k:Kd) (W:Addr->Prop) (H H':Hp) (v:V) (d:Dv):Prop:=match k with
 | .one=> ∃a,v= .ref a/\H a=none/\Cell KF H' a d
 | .dp=> ∃F:List Addr,F.Nodup/\(∀b∈F,H b=none)/\Tree KF H' v d F
 | .imm=>RepF KF Imm H' v d
 | .frh=>RepF KF (fun a=>H a=none) H' v d
 | .any=>RepF KF (fun a=> ¬W a) H' v d
 | .bor=>RepF KF (fun _=>True) H' v d
noncomputable def Sft (o:HO):Prop:=(∀xs,o≠ .tup xs)/\ ∀b u,o≠ .frz b u
noncomputable def AnyL (KF:PySem.W.Frag) (W:Addr->Prop) (H:Hp) (a:Addr) (d:Dv):Prop:= ∃xs ds,d= .lst ds/\H a=some (.lst xs)/\RepsF KF (fun b=> ¬W b) H xs ds
noncomputable def bd (KF:PySem.W.Frag) (ms:List Nat) (W:Addr->Prop) (H:Hp) (i:Nat) (a:Addr) (d:Dv) (F:List Addr):Prop:=(i∈ms/\F=[a]/\Cell KF H a d) \/(i∉ms/\i+1000∈ms/\Tree KF H (.ref a) d F) \/(i∉ms/\i+1000∉ms/\F=[a]/\AnyL KF W H a d)
structure Foot (KF:PySem.W.Frag) (ms:List Nat) (W:Addr->Prop) (H0:Hp) (δ:Dt) (σ:St) (H:Hp) (Φ:Nat->List Addr):Prop where
 wr: ∀i b,b∈Φ i->W b/\H0 b=none
 dj: ∀i j b,b∈Φ i->b∈Φ j->i=j
 nd: ∀i,(Φ i).Nodup
 at_: ∀i d,isOwn ms i=true->δ[i]?=some (some d)-> ∃a,σ[i]?=some (some (.ref a))/\bd KF ms W H i a d (Φ i)
structure Rel (KF:PySem.W.Frag) (ms:List Nat) (W:Addr->Prop) (H0:Hp) (δ:Dt) (σ:St) (H:Hp):Prop where
 len:σ.length=δ.length
 keep:Same H0 H
 soft: ∀a,W a-> ∃o,H a=some o/\Sft o
 get: ∀i d,isOwn ms i=false->δ[i]?=some (some d)-> ∃v,σ[i]?=some (some v)/\RepF KF (fun a=> ¬W a) H v d
 foot: ∃Φ,Foot KF ms W H0 δ σ H Φ
theorem Cell.there {H:Hp}{a:Addr}{d:Dv} (h:Cell KF H a d): ∃o,H a=some o/\Sft o:=by
 cases d with
 |lst ds=>obtain ⟨xs,h,_⟩:=h;exact ⟨_,h,fun _ z=>(nomatch z),fun _ _ z=>(nomatch z)⟩
 |dic ds=>obtain ⟨xs,h,_⟩:=h;exact ⟨_,h,fun _ z=>(nomatch z),fun _ _ z=>(nomatch z)⟩
 |_=>exact h.elim
theorem Cell.keep {H H':Hp}{a:Addr}{d:Dv} (h:Cell KF H a d) (e:au Imm H H') (ha: ∀o,H a=some o->H' a=some o):Cell KF H' a d:=by
 cases d with
 |lst ds=>obtain ⟨xs,h,r⟩:=h;exact ⟨xs,ha _ h,r.keep e⟩
 |dic ds=>obtain ⟨xs,h,r⟩:=h;exact ⟨xs,ha _ h,r.keep e⟩
 |_=>exact h.elim
theorem Cell.same {H H':Hp}{a:Addr}{d:Dv} (h:Cell KF H a d) (e:Same H H'):Cell KF H' a d:=h.keep (.of e) fun o q=>e a o q
theorem Cell.rep {H:Hp}{a:Addr}{d:Dv}{S:Addr->Prop} (h:Cell KF H a d) (s:S a):RepF KF S H (.ref a) d:=by
 cases d with
 |lst ds=>obtain ⟨xs,h,r⟩:=h;exact .lst s h (r.mono fun _ _ z=>z.elim)
 |dic ds=>obtain ⟨xs,h,r⟩:=h;exact .dic s (.inl h) (r.mono fun _ _ z=>z.elim)
 |_=>exact h.elim
section
variable {ms:List Nat}{σ σ':St}{H0 H H1 H2:Hp}{δ:Dt}{v:V}{d:Dv}{k:Kd}
theorem Rel.own (R:Rel KF ms W H0 δ σ H) {a:Addr} (h:W a): ∃o,H a=some o/\Sft o:=R.soft a h
theorem Rel.fresh (R:Rel KF ms W H0 δ σ H) {a:Addr} (h:H a=none): ¬W a:=fun z=>by
 obtain ⟨o,e,_⟩:=R.own z
 rw [h] at e;cases e
mutual
theorem Tree.keep (e:au Imm H H1): ∀{v:V}{d:Dv}{F:List Addr},Tree KF H v d F->(∀b∈F,∀o,H b=some o->H1 b=some o)->Tree KF H1 v d F
 |_,_,_,.imm r,_=> .imm (r.keep e)
 |_,_,_,.lst h r,f=> .lst (f _ (List.mem_cons_self ..) _ h) (ao.keep e r fun b hb=>f b (List.mem_cons_of_mem _ hb))
 |_,_,_,.dic h r,f=> .dic (f _ (List.mem_cons_self ..) _ h) (ai.keep e r fun b hb=>f b (List.mem_cons_of_mem _ hb))
 |_,_,_,.dik h r,f=> .dik (f _ (List.mem_cons_self ..) _ h) (ai.keep e r fun b hb=>f b (List.mem_cons_of_mem _ hb))
 |_,_,_,.ins h r,f=> .ins (f _ (List.mem_cons_self ..) _ h) (ai.keep e r fun b hb=>f b (List.mem_cons_of_mem _ hb))
theorem ao.keep (e:au Imm H H1): ∀{v:List V}{d:List Dv}{F:List Addr},ao KF H v d F->(∀b∈F,∀o,H b=some o->H1 b=some o)->ao KF H1 v d F
 |_,_,_,.nil,_=> .nil
 |_,_,_,.cons h r,f=> .cons (Tree.keep e h fun b hb=>f b (List.mem_append_left _ hb)) (ao.keep e r fun b hb=>f b (List.mem_append_right _ hb))
theorem ai.keep (e:au Imm H H1): ∀{κ:Type}{v:List (κ×V)}{d:List (κ×Dv)}{F:List Addr},ai KF H v d F->(∀b∈F,∀o,H b=some o->H1 b=some o)->ai KF H1 v d F
 |_,_,_,_,.nil,_=> .nil
 |_,_,_,_,.cons h r,f=> .cons (Tree.keep e h fun b hb=>f b (List.mem_append_left _ hb)) (ai.keep e r fun b hb=>f b (List.mem_append_right _ hb))
end
mutual
theorem Tree.rep {S:Addr->Prop}: ∀{v:V}{d:Dv}{F:List Addr},Tree KF H v d F->(∀b∈F,S b)->RepF KF S H v d
 |_,_,_,.imm r,_=>r.mono fun _ _ z=>z.elim
 |_,_,_,.lst h r,f=> .lst (f _ (List.mem_cons_self ..)) h (ao.rep r fun b hb=>f b (List.mem_cons_of_mem _ hb))
 |_,_,_,.dic h r,f=> .dic (f _ (List.mem_cons_self ..)) (.inl h) (ai.rep r fun b hb=>f b (List.mem_cons_of_mem _ hb))
 |_,_,_,.dik h r,f=> .dik (f _ (List.mem_cons_self ..)) (.inl h) (ai.rep r fun b hb=>f b (List.mem_cons_of_mem _ hb))
 |_,_,_,.ins h r,f=> .ins (f _ (List.mem_cons_self ..)) h (ai.rep r fun b hb=>f b (List.mem_cons_of_mem _ hb))
theorem ao.rep {S:Addr->Prop}: ∀{v:List V}{d:List Dv}{F:List Addr},ao KF H v d F->(∀b∈F,S b)->RepsF KF S H v d
 |_,_,_,.nil,_=> .nil
 |_,_,_,.cons h r,f=> .cons (Tree.rep h fun b hb=>f b (List.mem_append_left _ hb)) (ao.rep r fun b hb=>f b (List.mem_append_right _ hb))
theorem ai.rep {S:Addr->Prop}: ∀{κ:Type}{v:List (κ×V)}{d:List (κ×Dv)}{F:List Addr},ai KF H v d F->(∀b∈F,S b)->ag KF S H v d
 |_,_,_,_,.nil,_=> .nil
 |_,_,_,_,.cons h r,f=> .cons (Tree.rep h fun b hb=>f b (List.mem_append_left _ hb)) (ai.rep r fun b hb=>f b (List.mem_append_right _ hb))
end
mutual
theorem Tree.there: ∀{v:V}{d:Dv}{F:List Addr},Tree KF H v d F-> ∀b∈F,∃o,H b=some o/\Sft o
 |_,_,_,.imm _,b,hb=>nomatch hb
 |_,_,_,.lst h r,b,hb=>by
  rcases List.mem_cons.mp hb with rfl|hb
  ·exact ⟨_,h,fun _ z=>(nomatch z),fun _ _ z=>(nomatch z)⟩
  ·exact ao.there r b hb
 |_,_,_,.dic h r,b,hb=>by
  rcases List.mem_cons.mp hb with rfl|hb
  ·exact ⟨_,h,fun _ z=>(nomatch z),fun _ _ z=>(nomatch z)⟩
  ·exact ai.there r b hb
 |_,_,_,.dik h r,b,hb=>by
  rcases List.mem_cons.mp hb with rfl|hb
  ·exact ⟨_,h,fun _ z=>(nomatch z),fun _ _ z=>(nomatch z)⟩
  ·exact ai.there r b hb
 |_,_,_,.ins h r,b,hb=>by
  rcases List.mem_cons.mp hb with rfl|hb
  ·exact ⟨_,h,fun _ z=>(nomatch z),fun _ _ z=>(nomatch z)⟩
  ·exact ai.there r b hb
theorem ao.there: ∀{v:List V}{d:List Dv}{F:List Addr},ao KF H v d F-> ∀b∈F,∃o,H b=some o/\Sft o
 |_,_,_,.nil,b,hb=>nomatch hb
 |_,_,_,.cons h r,b,hb=>by
  rcases List.mem_append.mp hb with hb|hb
  ·exact Tree.there h b hb
  ·exact ao.there r b hb
theorem ai.there: ∀{κ:Type}{v:List (κ×V)}{d:List (κ×Dv)}{F:List Addr},ai KF H v d F-> ∀b∈F,∃o,H b=some o/\Sft o
 |_,_,_,_,.nil,b,hb=>nomatch hb
 |_,_,_,_,.cons h r,b,hb=>by
  rcases List.mem_append.mp hb with hb|hb
  ·exact Tree.there h b hb
  ·exact ai.there r b hb
end
theorem fq: ∀{xs:List V}{ds:List Dv},RepsF KF Imm H xs ds->ao KF H xs ds []
 |_,_,.nil=> .nil
 |_,_,.cons h r=> .cons (F:=[]) (G:=[]) (.imm h) (fq r)
theorem ft: ∀{xs:List (List Key×V)}{ds:List (List Key×Dv)},ag KF Imm H xs ds->ai KF H xs ds []
 |_,_,.nil=> .nil
 |_,_,.cons h r=> .cons (F:=[]) (G:=[]) (.imm h) (ft r)
theorem Cell.tree {a:Addr} (c:Cell KF H a d):Tree KF H (.ref a) d [a]:=by
 cases d with
 |lst ds=>obtain ⟨xs,h,r⟩:=c;exact .lst h (fq r)
 |dic ds=>obtain ⟨xs,h,r⟩:=c;exact .dic h (ft r)
 |_=>exact c.elim
theorem bd.keep {W':Addr->Prop}{i:Nat}{a:Addr}{F:List Addr} (h:bd KF ms W H i a d F) (e:au (fun b=> ¬W b) H H1) (f: ∀b∈F,∀o,H b=some o->H1 b=some o) (g: ∀b,¬W b->H b≠none-> ¬W' b):bd KF ms W' H1 i a d F:=by
 have ei:au Imm H H1:=e.mono fun _ z=>z.elim
 rcases h with ⟨m,ef,c⟩|⟨n,n3,r⟩|⟨n,n2,ef,xs,ds,rfl,h,r⟩
 ·subst ef;exact .inl ⟨m,rfl,c.keep ei (f a (List.mem_cons_self ..))⟩
 ·exact .inr (.inl ⟨n,n3,r.keep ei f⟩)
 ·subst ef
  refine .inr (.inr ⟨n,n2,rfl,xs,ds,rfl,f a (List.mem_cons_self ..) _ h,?_⟩)
  exact (RepsF.keep (S:=fun b=> ¬W b/\H b≠none) (e.mono fun _ z=>z.1) (r.mono fun _ h n=>⟨n,h⟩)).mono fun b _ z=>g b z.1 z.2
theorem bd.rep {i:Nat}{a:Addr}{F:List Addr}{S:Addr->Prop} (h:bd KF ms W H i a d F) (f: ∀b∈F,S b) (g: ∀b,¬W b->S b):RepF KF S H (.ref a) d:=by
 rcases h with ⟨m,ef,c⟩|⟨n,n3,r⟩|⟨n,n2,ef,xs,ds,rfl,h,r⟩
 ·subst ef;exact c.rep (f a (List.mem_cons_self ..))
 ·exact r.rep f
 ·subst ef;exact .lst (f a (List.mem_cons_self ..)) h (r.mono fun b _ z=>g b z)
theorem bd.there {i:Nat}{a:Addr}{F:List Addr} (h:bd KF ms W H i a d F): ∀b∈F,∃o,H b=some o/\Sft o:=by
 rcases h with ⟨m,ef,c⟩|⟨n,n3,r⟩|⟨n,n2,ef,xs,ds,rfl,h,r⟩
 ·subst ef
  intro b hb
  rw [List.mem_singleton.mp hb]
  exact c.there
 ·exact r.there
 ·subst ef
  intro b hb
  rw [List.mem_singleton.mp hb]
  exact ⟨_,h,fun _ z=>(nomatch z),fun _ _ z=>(nomatch z)⟩
theorem Rel.same (R:Rel KF ms W H0 δ σ H) (e:Same H H1):Rel KF ms W H0 δ σ H1:=by
 refine ⟨R.len,fun a o h=>e a o (R.keep a o h),fun a w=> ?_,fun i d n hd=> ?_,?_⟩
 ·obtain ⟨o,ho,so⟩:=R.soft a w
  exact ⟨o,e a o ho,so⟩
 ·obtain ⟨v,hv,r⟩:=R.get i d n hd
  exact ⟨v,hv,r.same e⟩
 ·obtain ⟨Φ,f⟩:=R.foot
  refine ⟨Φ,f.wr,f.dj,f.nd,fun i d n hd=> ?_⟩
  obtain ⟨a,ha,o⟩:=f.at_ i d n hd
  exact ⟨a,ha,o.keep (.of e) (fun b _ o h=>e b o h) fun _ z _=>z⟩
theorem Rel.any (R:Rel KF ms W H0 δ σ H) {i:Nat}{d:Dv} (hd:δ[i]?=some (some d)): ∃v,σ[i]?=some (some v)/\RepF KF (fun _=>True) H v d:=by
 cases n:isOwn ms i with
 |false=>
  obtain ⟨v,hv,r⟩:=R.get i d n hd
  exact ⟨v,hv,r.mono fun _ _ _=>trivial⟩
 |true=>
  obtain ⟨Φ,f⟩:=R.foot
  obtain ⟨a,ha,o⟩:=f.at_ i d n hd
  exact ⟨_,ha,o.rep (fun _ _=>trivial) fun _ _=>trivial⟩
theorem Got.same (g:Got KF k W H H1 v d) (e:Same H1 H2):Got KF k W H H2 v d:=by
 cases k with
 |dp=>obtain ⟨F,nd,h,c⟩:=g;exact ⟨F,nd,h,c.keep (.of e) fun b _ o z=>e b o z⟩
 |one=>obtain ⟨a,ea,h,c⟩:=g;exact ⟨a,ea,h,c.same e⟩
 |imm=>exact RepF.same e g
 |frh=>exact RepF.same e g
 |any=>exact RepF.same e g
 |bor=>exact RepF.same e g
theorem aE (e:Same H H1) {a:Addr} (h:H1 a=none):H a=none:=by
 cases q:H a with
 |none=>rfl
 |some o=>rw [e a o q] at h;cases h
theorem Got.back (g:Got KF k W H1 H2 v d) (e:Same H H1):Got KF k W H H2 v d:=by
 cases k with
 |dp=>obtain ⟨F,nd,h,c⟩:=g;exact ⟨F,nd,fun b hb=>aE e (h b hb),c⟩
 |one=>obtain ⟨a,ea,h,c⟩:=g;exact ⟨a,ea,aE e h,c⟩
 |imm=>exact g
 |frh=>exact RepF.mono (fun a _ h=>aE e h) g
 |any=>exact g
 |bor=>exact g
theorem Got.bor (g:Got KF k W H H1 v d):RepF KF (fun _=>True) H1 v d:=by
 cases k with
 |dp=>obtain ⟨F,nd,h,c⟩:=g;exact c.rep fun _ _=>trivial
 |one=>obtain ⟨a,ea,h,c⟩:=g;subst ea;exact c.rep trivial
 |imm=>exact RepF.mono (fun _ _ z=>z.elim) g
 |frh=>exact RepF.mono (fun _ _ z=>trivial) g
 |any=>exact RepF.mono (fun _ _ z=>trivial) g
 |bor=>exact g
inductive Kd.le:Kd->Kd->Prop
 |refl (k:Kd):Kd.le k k
 |one_frh:Kd.le .one .frh
 |one_any:Kd.le .one .any
 |imm_frh:Kd.le .imm .frh
 |imm_any:Kd.le .imm .any
 |frh_any:Kd.le .frh .any
 |bor (k:Kd):Kd.le k .bor
 |dp_frh:Kd.le .dp .frh
 |dp_any:Kd.le .dp .any
 |one_dp:Kd.le .one .dp
 |imm_dp:Kd.le .imm .dp
theorem Got.le (R:Rel KF ms W H0 δ σ H) {k':Kd} (l:Kd.le k k') (g:Got KF k W H H1 v d):Got KF k' W H H1 v d:=by
 cases l with
 |refl=>exact g
 |one_frh=>obtain ⟨a,ea,h,c⟩:=g;subst ea;exact c.rep h
 |one_any=>obtain ⟨a,ea,h,c⟩:=g;subst ea;exact c.rep (R.fresh h)
 |imm_frh=>exact RepF.mono (fun _ _ z=>z.elim) g
 |imm_any=>exact RepF.mono (fun _ _ z=>z.elim) g
 |frh_any=>exact RepF.mono (fun _ _ z=>R.fresh z) g
 |bor=>exact g.bor
 |dp_frh=>obtain ⟨F,nd,h,c⟩:=g;exact c.rep h
 |dp_any=>obtain ⟨F,nd,h,c⟩:=g;exact c.rep fun b hb=>R.fresh (h b hb)
 |one_dp=>
  obtain ⟨a,ea,h,c⟩:=g
  subst ea
  exact ⟨[a],by simp,fun b hb=>by rw [List.mem_singleton.mp hb];exact h,c.tree⟩
 |imm_dp=>exact ⟨[],List.nodup_nil,fun b hb=>(List.not_mem_nil hb).elim,.imm g⟩
theorem Got.imm (g:Got KF k W H H1 v d) (h:d.imm=true):RepF KF Imm H1 v d:=g.bor.imm h
end
noncomputable def DE (KF:PySem.W.Frag) (ms:List Nat) (k:Kd) (te:TE) (m:EM):Prop:=
 ∀{W:Addr->Prop} (δ:Dt) (σ:St) (H0 H:Hp) (Q:VK) (d:Dv),Rel KF ms W H0 δ σ H->m δ=some d->(∀v H',Same H H'->Got KF k W H H' v d->Q v H')->te σ H Q
noncomputable def PD (X:Cx) (ms:List Nat) (k:Kd) (e:Expr) (m:EM):Prop:= ∃te,PE X e te/\DE X.K ms k te m
noncomputable def DTs (KF:PySem.W.Frag) (ms:List Nat) (tt:TT) (m:Dt->Option Bool):Prop:=
 ∀{W:Addr->Prop} (δ:Dt) (σ:St) (H0 H:Hp) (Q:Bool->Hp->Prop) (b:Bool),Rel KF ms W H0 δ σ H->m δ=some b->(∀H',Same H H'->Q b H')->tt σ H Q
noncomputable def PDt (X:Cx) (ms:List Nat) (e:Expr) (m:Dt->Option Bool):Prop:= ∃tt,PT X e tt/\DTs X.K ms tt m
noncomputable def PDw (X:Cx) (ms:List Nat) (e:Expr) (m:Dt->Option Bool):Prop:= ∃tt,PW X e tt/\DTs X.K ms tt m
noncomputable def Gots (KF:PySem.W.Frag) (k:Kd) (W:Addr->Prop) (H H':Hp):List V->List Dv->Prop
 |[],[]=>True
 |v::vs,d::ds=>Got KF k W H H' v d/\Gots KF k W H H' vs ds
 |_,_=>False
noncomputable def DA (KF:PySem.W.Frag) (ms:List Nat) (k:Kd) (ta:TA) (m:Dt->Option (List Dv)):Prop:=
 ∀{W:Addr->Prop} (δ:Dt) (σ:St) (H0 H:Hp) (Q:List V->Hp->Prop) (ds:List Dv),Rel KF ms W H0 δ σ H->m δ=some ds->(∀vs H',Same H H'->Gots KF k W H H' vs ds->Q vs H')->ta σ H Q
noncomputable def PDa (X:Cx) (ms:List Nat) (k:Kd) (es:List Expr) (m:Dt->Option (List Dv)):Prop:= ∃ta,PA X es ta/\DA X.K ms k ta m
section
variable {ms:List Nat}{σ:St}{H H1 H2:Hp}{k:Kd}
theorem Gots.back: ∀{vs:List V}{ds:List Dv},Gots KF k W H1 H2 vs ds->Same H H1->Gots KF k W H H2 vs ds
 |[],[],_,_=>trivial
 |_::_,_::_,h,e=>⟨h.1.back e,Gots.back h.2 e⟩
 |[],_::_,h,_=>h.elim
 |_::_,[],h,_=>h.elim
theorem Gots.length: ∀{vs:List V}{ds:List Dv},Gots KF k W H H1 vs ds->vs.length=ds.length
 |[],[],_=>rfl
 |_::_,_::_,h=>congrArg (· +1) (Gots.length h.2)
 |[],_::_,h=>h.elim
 |_::_,[],h=>h.elim
theorem Gots.bor: ∀{vs:List V}{ds:List Dv},Gots KF k W H H1 vs ds->RepsF KF (fun _=>True) H1 vs ds
 |[],[],_=> .nil
 |_::_,_::_,h=> .cons h.1.bor (Gots.bor h.2)
 |[],_::_,h=>h.elim
 |_::_,[],h=>h.elim
theorem Gots.anys: ∀{vs:List V}{ds:List Dv},Gots KF .any W H H1 vs ds->RepsF KF (fun a=> ¬W a) H1 vs ds
 |[],[],_=> .nil
 |_::_,_::_,h=> .cons h.1 (Gots.anys h.2)
 |[],_::_,h=>h.elim
 |_::_,[],h=>h.elim
theorem Gots.frhs: ∀{vs:List V}{ds:List Dv},Gots KF .frh W H H1 vs ds->RepsF KF (fun a=>H a=none) H1 vs ds
 |[],[],_=> .nil
 |_::_,_::_,h=> .cons h.1 (Gots.frhs h.2)
 |[],_::_,h=>h.elim
 |_::_,[],h=>h.elim
theorem Gots.imms: ∀{vs:List V}{ds:List Dv},Gots KF .imm W H H1 vs ds->RepsF KF Imm H1 vs ds
 |[],[],_=> .nil
 |_::_,_::_,h=> .cons h.1 (Gots.imms h.2)
 |[],_::_,h=>h.elim
 |_::_,[],h=>h.elim
end
noncomputable def eVar (i:Nat):EM:=fun δ=>(δ[i]?).join
noncomputable def eC (d:Dv):EM:=fun _=>some d
noncomputable def eOp (f:Dv->Dv->Option Dv) (a b:EM):EM:=fun δ=>(a δ).bind fun x=>(b δ).bind fun y=>f x y
noncomputable def eUn (f:Dv->Option Dv) (a:EM):EM:=fun δ=>(a δ).bind f
noncomputable def eImm (a:EM):EM:=fun δ=>(a δ).bind fun x=>if x.imm=true then some x else none
noncomputable def eAnd (a b:EM):EM:=fun δ=>(a δ).bind fun x=>match x with
 | .bl true=>b δ
 | .bl false=>some (.bl false)
 |_=>none
noncomputable def eOr (a b:EM):EM:=fun δ=>(a δ).bind fun x=>match x with
 | .bl true=>some (.bl true)
 | .bl false=>b δ
 |_=>none
noncomputable def eIf (c:Dt->Option Bool) (a b:EM):EM:=fun δ=>(c δ).bind fun x=>if x=true then a δ else b δ
noncomputable def fu:Dv->Option Bool
 | .bl b=>some b
 |_=>none
noncomputable def tOf (a:EM):Dt->Option Bool:=fun δ=>(a δ).bind fu
noncomputable def tyes:Dt->Option Bool:=fun _=>some true
noncomputable def tnot (a:Dt->Option Bool):Dt->Option Bool:=fun δ=>(a δ).map (!·)
noncomputable def tand (a b:Dt->Option Bool):Dt->Option Bool:=fun δ=>(a δ).bind fun x=>if x=true then b δ else some false
noncomputable def tor (a b:Dt->Option Bool):Dt->Option Bool:=fun δ=>(a δ).bind fun x=>if x=true then some true else b δ
noncomputable def aNil:Dt->Option (List Dv):=fun _=>some []
noncomputable def ad (a:EM) (r:Dt->Option (List Dv)):Dt->Option (List Dv):=fun δ=>(a δ).bind fun x=>(r δ).bind fun xs=>some (x::xs)
noncomputable def lim:Nat:=100000
theorem bQ {n:Nat} (h:n<=lim):n<sizeLine:=Nat.lt_of_le_of_lt h (by decide)
noncomputable def eTup (a:Dt->Option (List Dv)):EM:=fun δ=>(a δ).bind fun xs=>if xs.length<=lim then some (.tup xs) else none
noncomputable def eLst (a:Dt->Option (List Dv)):EM:=fun δ=>(a δ).bind fun xs=>if xs.length<=lim then some (.lst xs) else none
noncomputable def bw (a:Dt->Option (List Dv)):EM:=fun δ=>(a δ).bind fun xs=>if xs.length<=lim/\imms xs=true then some (.lst xs) else none
noncomputable def dAdd:Dv->Dv->Option Dv
 | .int i,.int j=>some (.int (i+j))
 |_,_=>none
noncomputable def dSub:Dv->Dv->Option Dv
 | .int i,.int j=>some (.int (i-j))
 |_,_=>none
noncomputable def aO (i j:Int):Bool:=decide (i.natAbs<2^64)||decide (j.natAbs<2^64)||(decide (i.natAbs<2^2048)&&decide (j.natAbs<2^2048))
noncomputable def dMul:Dv->Dv->Option Dv
 | .int i,.int j=>if aO i j=true then some (.int (i*j)) else none
 |_,_=>none
noncomputable def dDiv:Dv->Dv->Option Dv
 | .int i,.int j=>if 0<j/\j<1073741824 then some (.int (i/j)) else none
 |_,_=>none
noncomputable def dMod:Dv->Dv->Option Dv
 | .int i,.int j=>if 0<j then some (.int (i%j)) else none
 |_,_=>none
noncomputable def dPow:Dv->Dv->Option Dv
 | .int i,.int j=>if 0<=j/\j<=1000/\i.natAbs<2^2048 then some (.int (i^j.toNat)) else none
 |_,_=>none
noncomputable def dNeg:Dv->Option Dv
 | .int i=>some (.int (-i))
 |_=>none
noncomputable def dNot:Dv->Option Dv
 | .bl b=>some (.bl (!b))
 |_=>none
noncomputable def dLt:Dv->Dv->Option Dv
 | .int i,.int j=>some (.bl (decide (i<j)))
 |_,_=>none
noncomputable def dLe:Dv->Dv->Option Dv
 | .int i,.int j=>some (.bl (decide (i<=j)))
 |_,_=>none
noncomputable def dGt:Dv->Dv->Option Dv
 | .int i,.int j=>some (.bl (decide (j<i)))
 |_,_=>none
noncomputable def dGe:Dv->Dv->Option Dv
 | .int i,.int j=>some (.bl (decide (j<=i)))
 |_,_=>none
noncomputable def dEq (x y:Dv):Option Dv:=if eqOk x y=true then some (.bl (PyData.eqv x.toPy y.toPy)) else none
noncomputable def dNe (x y:Dv):Option Dv:=if eqOk x y=true then some (.bl (!PyData.eqv x.toPy y.toPy)) else none
noncomputable def dIx:Dv->Dv->Option Dv
 | .lst xs,.int i=>atI xs i
 | .scr ns,.int i=>(atI ns i).map .int
 | .tup xs,.int i=>atI xs i
 |_,_=>none
noncomputable def dLen:Dv->Option Dv
 | .lst xs=>some (.int xs.length)
 | .scr xs=>some (.int xs.length)
 | .tup xs=>some (.int xs.length)
 |_=>none
noncomputable def dCat:Dv->Dv->Option Dv
 | .lst xs,.lst ys=>if xs.length+ys.length<=lim then some (.lst (xs++ys)) else none
 |_,_=>none
section
variable {X:Cx}{ms:List Nat}{k k':Kd}{e a b:Expr}{m ma mb:EM}{pos:Pos}
theorem PD.le (h:PD X ms k e m) (l:Kd.le k k'):PD X ms k' e m:=by
 obtain ⟨te,p,q⟩:=h
 exact ⟨te,p,fun δ σ H0 H Q d R hm hq=>q δ σ H0 H Q d R hm fun v H' s g=>hq v H' s (g.le R l)⟩
theorem fv (h:PD X ms k e m):PD X ms .imm e (eImm m):=by
 obtain ⟨te,p,q⟩:=h
 refine ⟨te,p,fun δ σ H0 H Q d R hm hq=> ?_⟩
 obtain ⟨x,hx,e⟩:=Option.bind_eq_some_iff.mp hm
 split at e
 ·next h=>cases e;exact q δ σ H0 H Q _ R hx fun v H' s g=>hq v H' s (g.imm h)
 ·cases e
theorem PE.pd_c {v:V}{d:Dv} (h:PE X e (tC v)) (r: ∀H,RepF X.K Imm H v d):PD X ms .imm e (eC d):=
 ⟨_,h,fun δ σ H0 H Q d' R hm hq=>by cases hm;exact hq v H (fun _ _ z=>z) (r H)⟩
theorem af {i j}:PD X ms .imm (.Constant (.int i) j pos) (eC (.int i)):=PE.pd_c hX fun _=> .int i
theorem be {i j}:PD X ms .imm (.Constant (.bool i) j pos) (eC (.bl i)):=PE.pd_c hZ fun _=> .bl i
theorem fw {j}:PD X ms .imm (.Constant .none j pos) (eC .non):=PE.pd_c h6 fun _=> .non
theorem j4 {i j}:PD X ms .imm (.Constant (.str i) j pos) (eC (.str i)):=PE.pd_c ic fun _=> .str i
theorem cV {i:Nat}{δ:Dt}{d:Dv} (h:eVar i δ=some d):δ[i]?=some (some d):=by
 unfold eVar at h
 cases e:δ[i]? with
 |none=>rw [e] at h;cases h
 |some o=>rw [e] at h;cases o with
  |none=>cases h
  |some x=>cases h;rfl
theorem aa (i:Nat) {x:Str} (hi:isOwn ms i=false) (h:PE X (.Name x pos) (tVar i)):PD X ms .any (.Name x pos) (eVar i):=by
 refine ⟨_,h,fun δ σ H0 H Q d R hm hq=> ?_⟩
 obtain ⟨v,hv,r⟩:=R.get i d hi (cV hm)
 exact ⟨v,hv,hq v H (fun _ _ z=>z) r⟩
noncomputable def OpD (KF:PySem.W.Frag) (r:R2) (f:Dv->Dv->Option Dv):Prop:=
 ∀(H:Hp) (x y:V) (dx dy d:Dv) (Q:VK),RepF KF (fun _=>True) H x dx->RepF KF (fun _=>True) H y dy->f dx dy=some d->(∀v,RepF KF Imm H v d->Q v H)->r x y H Q
theorem dE {r:R2}{f:Dv->Dv->Option Dv}{ta tb:TE}{k1 k2:Kd} (hf:OpD KF r f) (ha:DE KF ms k1 ta ma) (hb:DE KF ms k2 tb mb):DE KF ms .imm (tOp r ta tb) (eOp f ma mb):=by
 intro W δ σ H0 H Q d R hm hq
 obtain ⟨x,hx,e⟩:=Option.bind_eq_some_iff.mp hm
 obtain ⟨y,hy,e⟩:=Option.bind_eq_some_iff.mp e
 refine ha δ σ H0 H _ x R hx fun v H1 s1 g1=> ?_
 refine hb δ σ H0 H1 _ y (R.same s1) hy fun u H2 s2 g2=> ?_
 exact hf H2 v u x y d Q (g1.same s2).bor g2.bor e fun z rz=>hq z H2 (fun a o h=>s2 a o (s1 a o h)) rz
theorem ah {op:Operator}{r:R2}{f:Dv->Dv->Option Dv}{k1 k2:Kd} (ho:OpR X (binaryOp op) r) (hf:OpD X.K r f) (ha:PD X ms k1 a ma) (hb:PD X ms k2 b mb):PD X ms .imm (.BinOp a op b pos) (eOp f ma mb):=by
 obtain ⟨ta,pa,qa⟩:=ha
 obtain ⟨tb,pb,qb⟩:=hb
 exact ⟨_,eJ ho pa pb,dE hf qa qb⟩
theorem fx {op:CmpOp}{r:R2}{f:Dv->Dv->Option Dv}{k1 k2:Kd} (ho:OpR X (compareOp op) r) (hf:OpD X.K r f) (ha:PD X ms k1 a ma) (hb:PD X ms k2 b mb) (hm:behindInMarks op b=false):PD X ms .imm (.Compare a [op] [b] pos) (eOp f ma mb):=by
 obtain ⟨ta,pa,qa⟩:=ha
 obtain ⟨tb,pb,qb⟩:=hb
 exact ⟨_,iS ho pa pb hm,dE hf qa qb⟩
theorem aZ {op:CmpOp}{r:R2}{f:Dv->Dv->Option Dv}{k1 k2:Kd} (ho:OpR X (compareOp op) r) (hf:OpD X.K r f) (ha:PD X ms k1 a ma) (hb:PD X ms k2 b mb) (hm:behindInMarks op b=false):PDt X ms (.Compare a [op] [b] pos) (tOf (eOp f ma mb)):=by
 obtain ⟨ta,pa,qa⟩:=ha
 obtain ⟨tb,pb,qb⟩:=hb
 refine ⟨_,iV ho pa pb hm,fun δ σ H0 H Q c R hm hq=> ?_⟩
 obtain ⟨x,hx,e⟩:=Option.bind_eq_some_iff.mp hm
 refine dE hf qa qb δ σ H0 H _ x R hx fun v H' s g=> ?_
 cases x with
 |bl z=>cases e;cases g;exact ⟨_,rfl,hq H' s⟩
 |_=>cases e
theorem bR:OpD KF (rI0 fun i j=> .int (i+j)) dAdd:=by
 intro H x y dx dy d Q rx ry h hq
 unfold dAdd at h
 split at h
 ·cases h;cases rx;cases ry;exact ⟨_,_,rfl,rfl,hq _ (.int _)⟩
 ·cases h
theorem cW:OpD KF (rI0 fun i j=> .int (i-j)) dSub:=by
 intro H x y dx dy d Q rx ry h hq
 unfold dSub at h
 split at h
 ·cases h;cases rx;cases ry;exact ⟨_,_,rfl,rfl,hq _ (.int _)⟩
 ·cases h
theorem fy:OpD KF (rI0 fun i j=> .bl (decide (i<j))) dLt:=by
 intro H x y dx dy d Q rx ry h hq
 unfold dLt at h
 split at h
 ·cases h;cases rx;cases ry;exact ⟨_,_,rfl,rfl,hq _ (.bl _)⟩
 ·cases h
theorem j5:OpD KF (rI0 fun i j=> .bl (decide (j<i))) dGt:=by
 intro H x y dx dy d Q rx ry h hq
 unfold dGt at h
 split at h
 ·cases h;cases rx;cases ry;exact ⟨_,_,rfl,rfl,hq _ (.bl _)⟩
 ·cases h
theorem aP:OpD KF (rI (fun _ j=>0<j) fun i j=> .int (i%j)) dMod:=by
 intro H x y dx dy d Q rx ry h hq
 unfold dMod at h
 split at h
 rotate_left
 ·cases h
 cases rx
 cases ry
 split at h
 ·next c=>cases h;exact ⟨_,_,rfl,rfl,c,hq _ (.int _)⟩
 ·cases h
theorem cB:OpD KF (rI CDiv fun i j=> .int (i/j)) dDiv:=by
 intro H x y dx dy d Q rx ry h hq
 unfold dDiv at h
 split at h
 rotate_left
 ·cases h
 cases rx
 cases ry
 split at h
 ·next c=>cases h;exact ⟨_,_,rfl,rfl,c,hq _ (.int _)⟩
 ·cases h
theorem bx:OpD KF (rEqF KF) dEq:=by
 intro H x y dx dy d Q rx ry h hq
 unfold dEq at h
 split at h
 ·next c=>cases h;exact ⟨_,_,rx,ry,c,hq _ (.bl _)⟩
 ·cases h
theorem fz:OpD KF (rNeF KF) dNe:=by
 intro H x y dx dy d Q rx ry h hq
 unfold dNe at h
 split at h
 ·next c=>cases h;exact ⟨_,_,rx,ry,c,hq _ (.bl _)⟩
 ·cases h
theorem dF {i:Int}{n:Nat} (h:i.natAbs<2^n):Builtin.Int.intBits i<=n:=by
 unfold Builtin.Int.intBits
 split
 ·exact Nat.zero_le _
 ·next h0=>
  have hn:i.natAbs≠0:=fun z=>h0 (by simpa using z)
  exact (Nat.log2_lt hn).mpr h
theorem j6 {i j:Int} (h:aO i j=true):IntMulOk i j:=by
 unfold aO at h
 rw [Bool.or_eq_true,Bool.or_eq_true,Bool.and_eq_true] at h
 rcases h with (h|h)|⟨h1,h2⟩
 ·have:=of_decide_eq_true h
  exact (CMul.ok (.inl ⟨by omega,by omega⟩))
 ·have:=of_decide_eq_true h
  exact (CMul.ok (.inr ⟨by omega,by omega⟩))
 ·have h1:=of_decide_eq_true h1
  have h2:=of_decide_eq_true h2
  have b1:=dF h1
  have b2:=dF h2
  exact IntMulOk.of_bits (Nat.le_trans b1 (by decide)) (Nat.le_trans b2 (by decide))
theorem bA:OpD KF (rI fi fun i j=> .int (i*j)) dMul:=by
 intro H x y dx dy d Q rx ry h hq
 unfold dMul at h
 split at h
 rotate_left
 ·cases h
 cases rx
 cases ry
 split at h
 ·next c=>cases h;exact ⟨_,_,rfl,rfl,j6 c,hq _ (.int _)⟩
 ·cases h
theorem cC:OpD KF (rI fh fun i j=> .int (i^j.toNat)) dPow:=by
 intro H x y dx dy d Q rx ry h hq
 unfold dPow at h
 split at h
 rotate_left
 ·cases h
 cases rx
 cases ry
 split at h
 ·next c=>
  cases h
  refine ⟨_,_,rfl,rfl,⟨c.1,?_⟩,hq _ (.int _)⟩
  have b:=dF c.2.2
  refine Int.le_trans (Int.mul_le_mul (Int.ofNat_le.mpr b) c.2.1 c.1 (by decide)) (by decide)
 ·cases h
theorem j7 (ha:PD X ms k a ma):PD X ms .imm (.UnaryOp .Not a pos) (eUn dNot ma):=by
 obtain ⟨ta,pa,qa⟩:=ha
 refine ⟨_,iy pa,fun δ σ H0 H Q d R hm hq=> ?_⟩
 obtain ⟨x,hx,e⟩:=Option.bind_eq_some_iff.mp hm
 refine qa δ σ H0 H _ x R hx fun v H1 s1 g1=> ?_
 have g:=g1.bor
 cases g<;>simp only [dNot] at e<;>first|cases e|skip
 exact ⟨_,rfl,hq _ _ s1 (RepF.bl _)⟩
theorem fA {op} (h:PD X ms k a ma):PD X ms k (.BoolOp op [a] pos) ma:=by
 obtain ⟨ta,pa,qa⟩:=h
 exact ⟨ta,ir pa,qa⟩
theorem fB {rest:List Expr}{k2:Kd} (ha:PD X ms k a ma) (hb:PD X ms k2 (.BoolOp .And (b::rest) pos) mb):PD X ms .bor (.BoolOp .And (a::b::rest) pos) (eAnd ma mb):=by
 obtain ⟨ta,pa,qa⟩:=ha
 obtain ⟨tb,pb,qb⟩:=hb
 refine ⟨_,iu pa pb,fun δ σ H0 H Q d R hm hq=> ?_⟩
 obtain ⟨x,hx,e⟩:=Option.bind_eq_some_iff.mp hm
 refine qa δ σ H0 H _ x R hx fun v H1 s1 g1=> ?_
 have g:=g1.bor
 cases g with
 |bl c=>
  refine ⟨c,rfl,?_⟩
  cases c with
  |true=>exact qb δ σ H0 H1 _ d (R.same s1) e fun u H2 s2 g2=>hq u H2 (fun a o h=>s2 a o (s1 a o h)) g2.bor
  |false=>cases e;exact hq _ H1 s1 (.bl false)
 |_=>cases e
theorem dG (h:PD X ms k e m) (he: ∀whole,isTrue e X.env whole=(do let v<-whole;standAt e.pos;holding [v] (truthy v)):=by intro _;rfl):PDt X ms e (tOf m):=by
 obtain ⟨te,pe,qe⟩:=h
 refine ⟨_,ij pe he,fun δ σ H0 H Q c R hm hq=> ?_⟩
 obtain ⟨x,hx,e⟩:=Option.bind_eq_some_iff.mp hm
 refine qe δ σ H0 H _ x R hx fun v H' s g=> ?_
 have g:=g.bor
 cases g with
 |bl z=>cases e;exact ⟨_,rfl,hq H' s⟩
 |_=>cases e
variable {ta' tb':Dt->Option Bool}
theorem dH (h:PDt X ms a ta'):PDt X ms (.UnaryOp .Not a pos) (tnot ta'):=by
 obtain ⟨t,p,q⟩:=h
 refine ⟨_,io p,fun δ σ H0 H Q c R hm hq=> ?_⟩
 obtain ⟨x,hx,e⟩:=Option.map_eq_some_iff.mp hm
 subst e
 exact q δ σ H0 H _ x R hx fun H' s=>hq H' s
theorem fC (h:PDt X ms a ta'):PDw X ms (.BoolOp .Or [a] pos) ta':=by
 obtain ⟨t,p,q⟩:=h
 exact ⟨t,ik p,q⟩
theorem dI {rest:List Expr} (h:PDt X ms a ta') (hb:PDw X ms (.BoolOp .Or (b::rest) pos) tb'):PDw X ms (.BoolOp .Or (a::b::rest) pos) (tor ta' tb'):=by
 obtain ⟨t,p,q⟩:=h
 obtain ⟨u,p2,q2⟩:=hb
 refine ⟨_,il p p2,fun δ σ H0 H Q c R hm hq=> ?_⟩
 obtain ⟨x,hx,e⟩:=Option.bind_eq_some_iff.mp hm
 refine q δ σ H0 H _ x R hx fun H1 s1=> ?_
 cases x with
 |false=>exact q2 δ σ H0 H1 _ c (R.same s1) e fun H2 s2=>hq H2 fun a o h=>s2 a o (s1 a o h)
 |true=>cases e;exact hq H1 s1
theorem PDw.pt (h:PDw X ms a ta'):PDt X ms a ta':=by
 obtain ⟨t,p,q⟩:=h
 exact ⟨t,p.pt,q⟩
variable {es:List Expr}{ml:Dt->Option (List Dv)}
theorem aj:PDa X ms k [] aNil:=⟨_,cw,fun δ σ H0 H Q ds R hm hq=>by cases hm;exact hq [] H (fun _ _ z=>z) trivial⟩
theorem ae (ha:PD X ms k a ma) (hr:PDa X ms k es ml) (hs:starEach (a::es) X.env=(false,eval a X.env)::starEach es X.env:=by rfl):PDa X ms k (a::es) (ad ma ml):=by
 obtain ⟨ta,pa,qa⟩:=ha
 obtain ⟨tr,pr,qr⟩:=hr
 refine ⟨_,bp pa pr hs,fun δ σ H0 H Q ds R hm hq=> ?_⟩
 obtain ⟨x,hx,e⟩:=Option.bind_eq_some_iff.mp hm
 obtain ⟨xs,hxs,e⟩:=Option.bind_eq_some_iff.mp e
 cases e
 refine qa δ σ H0 H _ x R hx fun v H1 s1 g1=> ?_
 refine qr δ σ H0 H1 _ xs (R.same s1) hxs fun vs H2 s2 g2=> ?_
 exact hq (v::vs) H2 (fun a o h=>s2 a o (s1 a o h)) ⟨g1.same s2,g2.back s1⟩
theorem Same.new {H:Hp}{p:Addr}{o:HO} (h:H p=none):Same H (L2.upd H p o):=Same.upd h
theorem dJ {x1} (h:PDa X ms k es ml) (hk:k= .imm \/k= .frh \/k= .any \/k= .bor):PD X ms k (.Tuple es x1 pos) (eTup ml):=by
 obtain ⟨t,p,q⟩:=h
 refine ⟨_,i1 p,fun δ σ H0 H Q d R hm hq=> ?_⟩
 obtain ⟨xs,hx,e⟩:=Option.bind_eq_some_iff.mp hm
 split at e
 ·next hl=>
  cases e
  refine q δ σ H0 H _ xs R hx fun vs H1 s1 g1=>⟨?_,fun p hp=> ?_⟩
  ·rw [g1.length];exact Nat.le_of_lt (bQ hl)
  ·have s2:=Same.new (o:= .tup vs) hp
   refine hq _ _ (fun a o h=>s2 a o (s1 a o h)) ?_
   rcases hk with rfl|rfl|rfl|rfl
   ·exact .tup ap (g1.imms.same s2)
   ·exact .tup ap (g1.frhs.same s2)
   ·exact .tup ap (g1.anys.same s2)
   ·exact .tup ap (g1.bor.same s2)
 ·cases e
theorem cX (h:PDa X ms k es ml):PD X ms .one (.List es pos) (bw ml):=by
 obtain ⟨t,p,q⟩:=h
 refine ⟨_,eL p,fun δ σ H0 H Q d R hm hq=> ?_⟩
 obtain ⟨xs,hx,e⟩:=Option.bind_eq_some_iff.mp hm
 split at e
 ·next hl=>
  cases e
  refine q δ σ H0 H _ xs R hx fun vs H1 s1 g1=>⟨?_,fun p hp=> ?_⟩
  ·rw [g1.length];exact Nat.le_of_lt (bQ hl.1)
  ·have s2:=Same.new (o:= .lst vs) hp
   exact hq _ _ (fun a o h=>s2 a o (s1 a o h)) ⟨p,rfl,aE s1 hp,vs,ap,(g1.bor.imm hl.2).same s2⟩
 ·cases e
theorem fD (h:PDa X ms .any es ml):PD X ms .any (.List es pos) (eLst ml):=by
 obtain ⟨t,p,q⟩:=h
 refine ⟨_,eL p,fun δ σ H0 H Q d R hm hq=> ?_⟩
 obtain ⟨xs,hx,e⟩:=Option.bind_eq_some_iff.mp hm
 split at e
 ·next hl=>
  cases e
  refine q δ σ H0 H _ xs R hx fun vs H1 s1 g1=>⟨?_,fun p hp=> ?_⟩
  ·rw [g1.length];exact Nat.le_of_lt (bQ hl)
  ·have s2:=Same.new (o:= .lst vs) hp
   exact hq _ _ (fun a o h=>s2 a o (s1 a o h)) (.lst ((R.same s1).fresh hp) ap (g1.anys.same s2))
 ·cases e
end
end L2
set_option maxHeartbeats 4000000
namespace L2
open PySem PySem.Spec PyProof.Rows
variable {KF:PySem.W.Frag}{W W':Addr->Prop}
theorem Same.tr {H H1 H2:Hp} (a:Same H H1) (b:Same H1 H2):Same H H2:=fun x o h=>b x o (a x o h)
noncomputable def ixKd:Kd->Kd
 | .one=> .imm
 | .dp=> .frh
 |k=>k
section
variable {ms:List Nat}{σ:St}{H H1 H2:Hp}{k:Kd}
theorem RepsF.gots_imm: ∀{xs:List V}{ds:List Dv},RepsF KF Imm H1 xs ds->Gots KF .imm W H H1 xs ds
 |_,_,.nil=>trivial
 |_,_,.cons h r=>⟨h,RepsF.gots_imm r⟩
theorem RepsF.gots_frh: ∀{xs:List V}{ds:List Dv},RepsF KF (fun a=>H a=none) H1 xs ds->Gots KF .frh W H H1 xs ds
 |_,_,.nil=>trivial
 |_,_,.cons h r=>⟨h,RepsF.gots_frh r⟩
theorem RepsF.gots_any: ∀{xs:List V}{ds:List Dv},RepsF KF (fun a=> ¬W a) H1 xs ds->Gots KF .any W H H1 xs ds
 |_,_,.nil=>trivial
 |_,_,.cons h r=>⟨h,RepsF.gots_any r⟩
theorem RepsF.gots_bor: ∀{xs:List V}{ds:List Dv},RepsF KF (fun _=>True) H1 xs ds->Gots KF .bor W H H1 xs ds
 |_,_,.nil=>trivial
 |_,_,.cons h r=>⟨h,RepsF.gots_bor r⟩
theorem Got.lst {v:V}{ds:List Dv} (g:Got KF k W H H1 v (.lst ds)): ∃a xs,v= .ref a/\H1 a=some (.lst xs)/\Gots KF (ixKd k) W H H1 xs ds:=by
 cases k with
 |one=>obtain ⟨a,rfl,_,xs,e,r⟩:=g;exact ⟨a,xs,rfl,e,r.gots_imm⟩
 |dp=>
  obtain ⟨F,nd,h,c⟩:=g
  cases c.rep h with
  |lst s h r=>exact ⟨_,_,rfl,h,r.gots_frh⟩
 |imm=>cases g with|lst s h r=>exact s.elim
 |frh=>cases g with|lst s h r=>exact ⟨_,_,rfl,h,r.gots_frh⟩
 |any=>cases g with|lst s h r=>exact ⟨_,_,rfl,h,r.gots_any⟩
 |bor=>cases g with|lst s h r=>exact ⟨_,_,rfl,h,r.gots_bor⟩
theorem Got.tup {v:V}{ds:List Dv} (g:Got KF k W H H1 v (.tup ds)): ∃a xs,v= .ref a/\H1 a=some (.tup xs)/\Gots KF (ixKd k) W H H1 xs ds:=by
 cases k with
 |one=>obtain ⟨a,rfl,_,c⟩:=g;exact c.elim
 |dp=>
  obtain ⟨F,nd,h,c⟩:=g
  cases c.rep h with
  |tup h r=>exact ⟨_,_,rfl,h,r.gots_frh⟩
 |imm=>cases g with|tup h r=>exact ⟨_,_,rfl,h,r.gots_imm⟩
 |frh=>cases g with|tup h r=>exact ⟨_,_,rfl,h,r.gots_frh⟩
 |any=>cases g with|tup h r=>exact ⟨_,_,rfl,h,r.gots_any⟩
 |bor=>cases g with|tup h r=>exact ⟨_,_,rfl,h,r.gots_bor⟩
theorem j8 {v:V}{d:Dv} (r:RepF KF Imm H1 v d):Got KF (ixKd k) W H H1 v d:=by
 cases k with
 |one=>exact r
 |dp=>exact r.mono fun _ _ z=>z.elim
 |imm=>exact r
 |frh=>exact r.mono fun _ _ z=>z.elim
 |any=>exact r.mono fun _ _ z=>z.elim
 |bor=>exact r.mono fun _ _ z=>z.elim
theorem Gots.get: ∀{xs:List V}{ds:List Dv}{j:Nat}{d:Dv},Gots KF k W H H1 xs ds->ds[j]?=some d-> ∃u,xs[j]?=some u/\Got KF k W H H1 u d
 |[],[],_,_,_,e=>by simp at e
 |x::_,_::_,0,_,g,e=>by simp at e;subst e;exact ⟨x,rfl,g.1⟩
 |_::_,_::_,j+1,d,g,e=>by
  obtain ⟨u,h1,h2⟩:=Gots.get (j:=j) (d:=d) g.2 (by simpa using e)
  exact ⟨u,by simpa using h1,h2⟩
 |[],_::_,_,_,g,_=>g.elim
 |_::_,[],_,_,g,_=>g.elim
theorem Gots.atI {xs:List V}{ds:List Dv}{i:Int}{d:Dv} (g:Gots KF k W H H1 xs ds) (e:L2.atI ds i=some d): ∃u,L2.atI xs i=some u/\Got KF k W H H1 u d:=by
 unfold L2.atI at e|-
 rw [g.length]
 obtain ⟨j,hj,e⟩:=Option.bind_eq_some_iff.mp e
 obtain ⟨u,hu,q⟩:=g.get e
 exact ⟨u,by rw [hj];exact hu,q⟩
end
section
variable {X:Cx}{ms:List Nat}{k k1 k2:Kd}{e a b:Expr}{m ma mb:EM}{pos:Pos}
theorem bB (ha:PD X ms k a ma) (hb:PD X ms k2 b mb) (hs:eW b):PD X ms (ixKd k) (.Subscript a b pos) (eOp dIx ma mb):=by
 obtain ⟨ta,pa,qa⟩:=ha
 obtain ⟨tb,pb,qb⟩:=hb
 refine ⟨_,je ji pa pb hs,fun δ σ H0 H Q d R hm hq=> ?_⟩
 obtain ⟨x,hx,e⟩:=Option.bind_eq_some_iff.mp hm
 obtain ⟨y,hy,e⟩:=Option.bind_eq_some_iff.mp e
 refine qa δ σ H0 H _ x R hx fun v H1 s1 g1=> ?_
 refine qb δ σ H0 H1 _ y (R.same s1) hy fun u H2 s2 g2=> ?_
 have g1:=g1.same s2
 have s12:=s1.tr s2
 have g2:=g2.bor
 cases x with
 |lst ds=>
  cases g2<;>simp only [dIx] at e<;>first|cases e|skip
  obtain ⟨p,xs,rfl,h,r⟩:=g1.lst
  obtain ⟨z,hz,gz⟩:=r.atI e
  exact .inl ⟨p,xs,_,z,rfl,rfl,SqL.of h,hz,hq z H2 s12 gz⟩
 |scr ns=>
  cases g2<;>simp only [dIx] at e<;>first|cases e|skip
  have g:=g1.bor
  cases g with
  |scr h=>
   obtain ⟨z,hz,rfl⟩:=Option.map_eq_some_iff.mp e
   refine .inl ⟨_,_,_,.int z,rfl,rfl,h.sq,?_,hq _ H2 s12 (j8 (.int z))⟩
   unfold atI at hz|-
   rw [List.length_map]
   obtain ⟨j,hj,e⟩:=Option.bind_eq_some_iff.mp hz
   rw [hj]
   show (ns.map V.int)[j]?=_
   rw [List.getElem?_map,e]
   rfl
 |tup ds=>
  cases g2<;>simp only [dIx] at e<;>first|cases e|skip
  obtain ⟨p,xs,rfl,h,r⟩:=g1.tup
  obtain ⟨z,hz,gz⟩:=r.atI e
  exact .inr (.inl ⟨p,xs,_,z,rfl,rfl,SqT.of h,hz,hq z H2 s12 gz⟩)
 |_=>cases g2<;>simp only [dIx] at e<;>cases e
noncomputable def PDo (X:Cx) (ms:List Nat) (e:Option Expr) (m:Dt->Option (Option Int)):Prop:= ∃t,PO X e t/\
 ∀{W:Addr->Prop} (δ:Dt) (σ:St) (H0 H:Hp) (Q:Option Int->Hp->Prop) (o:Option Int),Rel X.K ms W H0 δ σ H->m δ=some o->(∀H',Same H H'->Q o H')->t σ H Q
noncomputable def cY:Dt->Option (Option Int):=fun _=>some none
noncomputable def fE:Dv->Option Int
 | .int i=>some i
 |_=>none
noncomputable def cD (m:EM):Dt->Option (Option Int):=fun δ=>(m δ).bind fun d=>(fE d).map some
theorem fF:PDo X ms none cY:=⟨_,i9,fun δ σ H0 H Q o R hm hq=>by cases hm;exact hq H fun _ _ z=>z⟩
theorem fG (h:PD X ms k e m):PDo X ms (some e) (cD m):=by
 obtain ⟨te,p,q⟩:=h
 refine ⟨_,ja p,fun δ σ H0 H Q o R hm hq=> ?_⟩
 obtain ⟨x,hx,e⟩:=Option.bind_eq_some_iff.mp hm
 refine q δ σ H0 H _ x R hx fun v H1 s1 g1=> ?_
 have g:=g1.bor
 cases g<;>simp only [fE] at e<;>cases e
 exact ⟨_,rfl,hq H1 s1⟩
noncomputable def cutD {α:Type} (xs:List α) (lo hi:Option Int):List α:=(xs.drop (HT.sIx xs.length 0 lo)).take (HT.sIx xs.length xs.length hi-HT.sIx xs.length 0 lo)
noncomputable def eSl (m:EM) (lo hi:Dt->Option (Option Int)):EM:=fun δ=>(m δ).bind fun x=>(lo δ).bind fun l=>(hi δ).bind fun h=>match x with
 | .lst ds=>if imms (cutD ds l h)=true then some (.lst (cutD ds l h)) else none
 | .scr ns=>some (.lst (cutD (ns.map Dv.int) l h))
 |_=>none
theorem fH {lo hi:Option Expr}{ml mh:Dt->Option (Option Int)}{p2:Pos} (he:PD X ms k e m) (hl:PDo X ms lo ml) (hh:PDo X ms hi mh):PD X ms .one (.Subscript e (.Slice lo hi none p2) pos) (eSl m ml mh):=by
 obtain ⟨te,p,q⟩:=he
 obtain ⟨tl,pl,ql⟩:=hl
 obtain ⟨th,ph,qh⟩:=hh
 refine ⟨_,jb jo p pl ph,fun δ σ H0 H Q d R hm hq=> ?_⟩
 obtain ⟨x,hx,e⟩:=Option.bind_eq_some_iff.mp hm
 obtain ⟨l,hl,e⟩:=Option.bind_eq_some_iff.mp e
 obtain ⟨h,hh,e⟩:=Option.bind_eq_some_iff.mp e
 refine q δ σ H0 H _ x R hx fun v H1 s1 g1=> ?_
 refine ql δ σ H0 H1 _ l (R.same s1) hl fun H2 s2=> ?_
 refine qh δ σ H0 H2 _ h (R.same (s1.tr s2)) hh fun H3 s3=> ?_
 have g:=(g1.same (s2.tr s3)).bor
 cases g with
 | @lst a xs ds _ hr r=>
  simp only at e
  split at e
  ·next hi=>
   cases e
   refine ⟨a,xs,rfl,SqL.of hr,fun p hp=> ?_⟩
   have s4:=Same.new (o:= .lst (cutV xs l h)) hp
   have s03:=s1.tr (s2.tr s3)
   refine hq _ _ (s03.tr s4) ⟨p,rfl,aE s03 hp,_,ap,?_⟩
   have rr:RepsF X.K (fun _=>True) H3 (cutV xs l h) (cutD ds l h):=by
    unfold cutV cutD
    rw [r.length]
    exact (r.drop _).take _
   exact (rr.imm hi).same s4
  ·cases e
 | @scr a ns hr=>
  cases e
  refine ⟨a,_,rfl,hr.sq,fun p hp=> ?_⟩
  have s4:=Same.new (o:= .lst (cutV (ns.map V.int) l h)) hp
  have s03:=s1.tr (s2.tr s3)
  refine hq _ _ (s03.tr s4) ⟨p,rfl,aE s03 hp,_,ap,?_⟩
  have r: ∀HH,RepsF X.K Imm HH (ns.map V.int) (ns.map Dv.int):=fun _=>cU ns
  generalize L2.upd H3 p (.lst (cutV (ns.map V.int) l h))=HH
  unfold cutV cutD
  have:=((r HH).drop (HT.sIx (ns.map V.int).length 0 l)).take (HT.sIx (ns.map V.int).length (ns.map V.int).length h-HT.sIx (ns.map V.int).length 0 l)
  simpa using this
 |_=>cases e
noncomputable def bC (KF:PySem.W.Frag) (r:List V->Hp->VK->Prop) (k:Kd) (f:List Dv->Option Dv):Prop:=
 ∀(W:Addr->Prop) (H:Hp) (vs:List V) (ds:List Dv) (d:Dv) (Q:VK),RepsF KF (fun _=>True) H vs ds->f ds=some d->(∀v H',Same H H'->Got KF k W H H' v d->Q v H')->r vs H Q
noncomputable def ak (f:List Dv->Option Dv) (a:Dt->Option (List Dv)):EM:=fun δ=>(a δ).bind f
variable {es:List Expr}{ml:Dt->Option (List Dv)}{r:List V->Hp->VK->Prop}{f:List Dv->Option Dv}{x:Str}{p:Pos}
theorem cE {id:String} (hc:aX X (.builtin id) r) (hf:bC X.K r k f) (hg:Gl X x) (hm:X.mg x=none) (hv:bootBuiltins x=some (.builtin id)) (ha:PDa X ms k1 (a::es) ml) (hn:x≠"__name__":=by decide) (hdb:(x==("__debug__":Str))=false:=by decide)
  (he:starEach (a::es) X.env=(false,eval a X.env)::starEach es X.env:=by rfl) (hpl:(backTo pos (starEach es X.env)).any (·.1)=false:=by rfl):
  PD X ms k (.Call (.Name x p) (a::es) [] pos) (ak f ml):=by
 obtain ⟨ta,pa,qa⟩:=ha
 refine ⟨_,eR hc hg hm hv pa hn hdb he hpl,fun δ σ H0 H Q d R hm hq=> ?_⟩
 obtain ⟨xs,hx,e⟩:=Option.bind_eq_some_iff.mp hm
 refine qa δ σ H0 H _ xs R hx fun vs H1 s1 g1=> ?_
 exact hf _ H1 vs xs d Q g1.bor e fun v H' s g=>hq v H' (s1.tr s) (g.back s1)
theorem bm {T:String} (hc:aX X (.type T) r) (hf:bC X.K r k f) (hg:Gl X x) (hm:X.mg x=none) (hv:bootBuiltins x=some (.type T)) (ha:PDa X ms k1 (a::es) ml) (hn:x≠"__name__":=by decide) (hdb:(x==("__debug__":Str))=false:=by decide)
  (he:starEach (a::es) X.env=(false,eval a X.env)::starEach es X.env:=by rfl) (hpl:(backTo pos (starEach es X.env)).any (·.1)=false:=by rfl):
  PD X ms k (.Call (.Name x p) (a::es) [] pos) (ak f ml):=by
 obtain ⟨ta,pa,qa⟩:=ha
 refine ⟨_,eS hc hg hm hv pa hn hdb he hpl,fun δ σ H0 H Q d R hm hq=> ?_⟩
 obtain ⟨xs,hx,e⟩:=Option.bind_eq_some_iff.mp hm
 refine qa δ σ H0 H _ xs R hx fun vs H1 s1 g1=> ?_
 exact hf _ H1 vs xs d Q g1.bor e fun v H' s g=>hq v H' (s1.tr s) (g.back s1)
noncomputable def fLen:List Dv->Option Dv
 |[d]=>dLen d
 |_=>none
theorem cZ:bC KF (fun xs H Q=> ∃p ys,xs=[.ref p]/\(SqL KF H p ys \/SqT KF H p ys)/\Q (.int ys.length) H) .imm fLen:=by
 intro W H vs ds d Q r e hq
 cases r with
 |nil=>cases e
 |cons h r=>
  cases r with
  |cons _ _=>cases e
  |nil=>
   cases h<;>simp only [fLen,dLen] at e<;>cases e
   ·next a xs ds s h q=>
    refine ⟨a,xs,rfl,.inl (SqL.of h),?_⟩
    rw [q.length]
    exact hq _ H (fun _ _ z=>z) (RepF.int _)
   ·next a xs ds h q=>
    refine ⟨a,xs,rfl,.inr (SqT.of h),?_⟩
    rw [q.length]
    exact hq _ H (fun _ _ z=>z) (RepF.int _)
   ·next a ns h=>
    refine ⟨a,_,rfl,.inl h.sq,?_⟩
    rw [List.length_map]
    exact hq _ H (fun _ _ z=>z) (RepF.int _)
noncomputable def bf:List Dv->Option Dv
 |[.scr ns]=>some (.tup (ns.map .int))
 |[.lst ds]=>if imms ds=true then some (.tup ds) else none
 |[.tup ds]=>if imms ds=true then some (.tup ds) else none
 |_=>none
theorem c0:bC KF (fun xs H Q=> ∃p ys,xs=[.ref p]/\((SqL KF H p ys/\ ∀l,H l=none->Q (.ref l) (upd H l (.tup ys))) \/(SqT KF H p ys/\Q (.ref p) H))) .imm bf:=by
 intro W H vs ds d Q r e hq
 cases r with
 |nil=>cases e
 |cons h r=>
  cases r with
  |cons _ _=>unfold bf at e;split at e<;>first|(next z=>cases z;done)|cases e
  |nil=>
   cases h<;>simp only [bf] at e<;>first|cases e|skip
   ·next a xs ds s h q=>
    split at e
    ·next hi=>
     cases e
     refine ⟨a,xs,rfl,.inl ⟨SqL.of h,fun l hl=> ?_⟩⟩
     have s:=Same.new (o:= .tup xs) hl
     exact hq _ _ s (RepF.tup ap ((q.imm hi).same s))
    ·cases e
   ·next a xs ds h q=>
    split at e
    ·next hi=>cases e;exact ⟨a,xs,rfl,.inr ⟨SqT.of h,hq _ H (fun _ _ z=>z) (RepF.tup h (q.imm hi))⟩⟩
    ·cases e
   ·next a ns h=>
    refine ⟨a,_,rfl,.inl ⟨h.sq,fun l hl=> ?_⟩⟩
    exact hq _ _ (Same.new hl) (RepF.tup ap (cU ns))
noncomputable def aQ:List Dv->Option Dv
 |[.scr ns]=>some (.lst (ns.map .int))
 |[.lst ds]=>if imms ds=true then some (.lst ds) else none
 |[.tup ds]=>if imms ds=true then some (.lst ds) else none
 |_=>none
theorem dL:bC KF (fun xs H Q=> ∃p ys,xs=[.ref p]/\(SqL KF H p ys \/SqT KF H p ys)/\ ∀l,H l=none->Q (.ref l) (upd H l (.lst ys))) .one aQ:=by
 intro W H vs ds d Q r e hq
 cases r with
 |nil=>cases e
 |cons h r=>
  cases r with
  |cons _ _=>unfold aQ at e;split at e<;>first|(next z=>cases z;done)|cases e
  |nil=>
   cases h<;>simp only [aQ] at e<;>first|cases e|skip
   ·next a xs ds s h q=>
    split at e
    ·next hi=>
     cases e
     refine ⟨a,xs,rfl,.inl (SqL.of h),fun l hl=> ?_⟩
     have s:=Same.new (o:= .lst xs) hl
     exact hq _ _ s ⟨l,rfl,hl,_,ap,(q.imm hi).same s⟩
    ·cases e
   ·next a xs ds h q=>
    split at e
    ·next hi=>
     cases e
     refine ⟨a,xs,rfl,.inr (SqT.of h),fun l hl=> ?_⟩
     have s:=Same.new (o:= .lst xs) hl
     exact hq _ _ s ⟨l,rfl,hl,_,ap,(q.imm hi).same s⟩
    ·cases e
   ·next a ns h=>
    refine ⟨a,_,rfl,.inl h.sq,fun l hl=> ?_⟩
    exact hq _ _ (Same.new hl) ⟨l,rfl,hl,_,ap,cU ns⟩
noncomputable def bD (x y:Dv):Option Dv:=(dCat x y).bind fun z=>match z with
 | .lst ds=>if imms ds=true then some (.lst ds) else none
 |_=>none
noncomputable def j9:R2:=fun x y H Q=> ∃l b xs zs,x= .ref l/\y= .ref b/\H l=some (.lst xs)/\H b=some (.lst zs)/\xs.length+zs.length<=sizeLine/\ ∀p,H p=none->Q (.ref p) (upd H p (.lst (xs++zs)))
theorem ka:OpR X (binaryOp .Add) j9:=by
 intro pins s σ H x y v u Q I rx ry h
 obtain ⟨l,b,xs,zs,rfl,rfl,hH,hB,hz,q⟩:=h
 cases rx
 cases ry
 obtain ⟨z,its,n,r,e⟩:=(show Rd H l (.lst xs) from .inl hH).ok I.hok
 obtain ⟨z2,its2,n2,r2,e2⟩:=(show Rd H b (.lst zs) from .inl hB).ok I.hok
 have hl:=r.length
 have hl2:=r2.length
 refine PySem.P.add_list e e2 ?_ (by rw [List.size_toArray,List.size_toArray];omega)
 have ea:its.toArray++its2.toArray=(its++its2).toArray:=by simp
 rw [ea]
 exact ⟨.ref _,_,I.lnew (t':=s.toks) (r.append r2) (by rw [List.length_append];omega),rfl,q _ I.fresh⟩
theorem fI (ha:PD X ms k1 a ma) (hb:PD X ms k2 b mb):PD X ms .one (.BinOp a .Add b pos) (eOp bD ma mb):=by
 obtain ⟨ta,pa,qa⟩:=ha
 obtain ⟨tb,pb,qb⟩:=hb
 refine ⟨_,eJ ka pa pb,fun δ σ H0 H Q d R hm hq=> ?_⟩
 obtain ⟨x,hx,e⟩:=Option.bind_eq_some_iff.mp hm
 obtain ⟨y,hy,e⟩:=Option.bind_eq_some_iff.mp e
 obtain ⟨z,hz,e⟩:=Option.bind_eq_some_iff.mp e
 refine qa δ σ H0 H _ x R hx fun v H1 s1 g1=> ?_
 refine qb δ σ H0 H1 _ y (R.same s1) hy fun u H2 s2 g2=> ?_
 have g1:=(g1.same s2).bor
 have g2:=g2.bor
 cases g1 with
 | @lst p1 vs xs _ e1 r1=>
  cases g2 with
  | @lst p2 us ys _ e2 r2=>
   simp only [dCat] at hz
   split at hz
   ·next hl=>
    cases hz
    simp only at e
    split at e
    ·next hi=>
     cases e
     refine ⟨p1,p2,vs,us,rfl,rfl,e1,e2,?_,fun p hp=> ?_⟩
     ·rw [r1.length,r2.length];exact Nat.le_of_lt (bQ hl)
     ·have s:=Same.new (o:= .lst (vs++us)) hp
      exact hq _ _ (s1.tr (s2.tr s)) ⟨p,rfl,aE (s1.tr s2) hp,_,ap,((r1.append r2).imm hi).same s⟩
    ·cases e
   ·cases hz
  |_=>cases hz
 |_=>cases hz
end
end L2
set_option maxHeartbeats 4000000
namespace L2
open PySem PySem.Spec PyProof.Rows
variable {KF:PySem.W.Frag}{W W':Addr->Prop}
noncomputable def bE (W:Addr->Prop) (H H':Hp):Prop:= ∀a o,H a=some o-> ¬W a->H' a=some o
noncomputable def IOk (KF:PySem.W.Frag) (W:Addr->Prop) (lp:Bool) (H:Hp) (J:It) (ds:List Dv):Prop:=
 ds.length<=lim/\ ∀H',Same H H' \/(lp=true/\bE W H H')->(∀i,i<ds.length->J.go i H')/\(∀i x H'',i<ds.length->J.yld i H' x H''->H''=H'/\ ∃d,ds[i]?=some d/\RepF KF (fun a=> ¬W a/\H a≠none) H' x d)/\J.stop ds.length H'
noncomputable def PDi (X:Cx) (ms:List Nat) (lp:Bool) (tg iter:Expr) (m:Dt->Option (List Dv)):Prop:= ∃wi,PI X tg iter wi/\
 ∀{W:Addr->Prop} (δ:Dt) (σ:St) (H0 H:Hp) (R:It->Hp->Prop) (ds:List Dv),Rel X.K ms W H0 δ σ H->m δ=some ds->(∀J H',Same H H'->IOk X.K W lp H' J ds->R J H')->wi σ H R
noncomputable def iL (m:EM):Dt->Option (List Dv):=fun δ=>(m δ).bind fun x=>match x with
 | .scr ns=>if ns.length<=lim then some (ns.map .int) else none
 | .lst ds=>if ds.length<=lim then some ds else none
 |_=>none
noncomputable def iLI (m:EM):Dt->Option (List Dv):=fun δ=>(m δ).bind fun x=>match x with
 | .lst ds=>if ds.length<=lim/\imms ds=true then some ds else none
 |_=>none
noncomputable def iT (m:EM):Dt->Option (List Dv):=fun δ=>(m δ).bind fun x=>match x with
 | .tup ds=>if ds.length<=lim then some ds else none
 |_=>none
noncomputable def iTI (m:EM):Dt->Option (List Dv):=fun δ=>(m δ).bind fun x=>match x with
 | .tup ds=>if ds.length<=lim/\imms ds=true then some ds else none
 |_=>none
noncomputable def aB (lo:Int) (n:Nat):List Dv:=(List.range n).map fun (i:Nat)=> .int (lo+(i:Int))
noncomputable def iR1 (m:EM):Dt->Option (List Dv):=fun δ=>(m δ).bind fun x=>match x with
 | .int j=>if-(2^60)<=j/\j<=lim then some (aB 0 j.toNat) else none
 |_=>none
noncomputable def iR2 (m m2:EM):Dt->Option (List Dv):=fun δ=>(m δ).bind fun x=>(m2 δ).bind fun y=>match x,y with
 | .int i,.int j=>if-(2^60)<=i/\i<=2^60/\j<=i+lim/\ -(2^61)<=j then some (aB i (j-i).toNat) else none
 |_,_=>none
theorem bE.keeps {ms:List Nat}{σ:St}{H H':Hp}{H0:Hp}{δ:Dt} (R:Rel KF ms W H0 δ σ H) (s:bE W H H'):au (fun a=> ¬W a) H H':=fun a o h c=>by
 rcases c with ⟨xs,rfl⟩|⟨b,u,rfl⟩|c
 ·exact s a _ h fun z=>by
   obtain ⟨o',e',n⟩:=R.own z
   rw [h] at e';cases e'
   exact n.1 xs rfl
 ·exact s a _ h fun z=>by
   obtain ⟨o',e',n⟩:=R.own z
   rw [h] at e';cases e'
   exact n.2 b u rfl
 ·exact s a o h c
theorem dM {lo:Int}{n i:Nat} (h:i<n):(aB lo n)[i]?=some (.int (lo+(i:Int))):=by
 unfold aB
 rw [List.getElem?_map,List.getElem?_range h]
 rfl
theorem bS (lo:Int) (n:Nat):(aB lo n).length=n:=by unfold aB;simp
section
variable {X:Cx}{ms:List Nat}{k:Kd}{lp:Bool}{tg e a b:Expr}{m ma mb:EM}{pos:Pos}
theorem kb {σ:St}{H H0:Hp}{δ:Dt}{p:Addr}{xs:List V}{ds:List Dv} (R:Rel KF ms W H0 δ σ H) (h:H p=some (.tup xs)) (r:RepsF KF (fun a=> ¬W a) H xs ds) (hz:ds.length<=lim):IOk KF W lp H (Itt KF p) ds:=by
 refine ⟨hz,fun H' s=> ?_⟩
 have kp:au (fun a=> ¬W a) H H':=by
  rcases s with s|⟨_,s⟩
  ·exact .of s
  ·exact bE.keeps R s
 have h':=kp _ _ h (.inl ⟨xs,rfl⟩)
 have r':=RepsF.keep (S:=fun a=> ¬W a/\H a≠none) (kp.mono fun _ z=>z.1) (r.mono fun _ h n=>⟨n,h⟩)
 refine ⟨fun i hi=> ?_,fun i x H'' hi y=> ?_,⟨xs,SqT.of h',by rw [r.length];exact Nat.le_refl _⟩⟩
 ·have hx:i<xs.length:=by rw [r.length];exact hi
  exact ⟨xs,xs[i],SqT.of h',by simp [hx]⟩
 ·obtain ⟨e1,e2⟩:=y
  obtain ⟨d,hd,rd⟩:=r'.get' (e2 xs (SqT.of h'))
  exact ⟨e1,d,hd,rd⟩
theorem fJ {H:Hp}{lo:Int}{n:Nat} (hz:n<=lim):IOk KF W lp H (Itr lo n) (aB lo n):=by
 refine ⟨by rw [bS];exact hz,fun H' s=> ?_⟩
 rw [bS]
 refine ⟨fun i hi=>hi,fun i x H'' hi y=> ?_,Nat.le_refl n⟩
 obtain ⟨e1,e2⟩:=y
 subst e2
 exact ⟨e1,_,dM hi,.int _⟩
theorem kc (h:PD X ms .any e m):PDi X ms lp tg e (iT m):=by
 obtain ⟨te,p,q⟩:=h
 refine ⟨_,iJ p,fun δ σ H0 H R ds L hm hq=> ?_⟩
 obtain ⟨x,hx,e⟩:=Option.bind_eq_some_iff.mp hm
 refine q δ σ H0 H _ x L hx fun v H1 s1 g=> ?_
 cases x with
 |tup zs=>
  simp only at e
  split at e
  ·next hz=>
   cases e
   cases g with
   |tup h r=>exact ⟨_,rfl,⟨_,SqT.of h⟩,hq _ H1 s1 (kb (L.same s1) h r hz)⟩
  ·cases e
 |_=>cases e
theorem kg {j:Int} (h:j<=(lim:Int)):j<2^62:=Int.lt_of_le_of_lt h (by decide)
theorem dN {p:Pos} (hg:Gl X "range") (hm:X.mg "range"=none) (h:PD X ms k a m) (hs:starEach [a] X.env=[(false,eval a X.env)]:=by rfl):PDi X ms lp tg (.Call (.Name "range" p) [a] [] pos) (iR1 m):=by
 obtain ⟨te,pe,q⟩:=h
 refine ⟨_,iN hg hm (bp pe cw hs) hs,fun δ σ H0 H R ds L hm hq=> ?_⟩
 obtain ⟨x,hx,e⟩:=Option.bind_eq_some_iff.mp hm
 refine q δ σ H0 H _ x L hx fun v H1 s1 g=> ?_
 have g:=g.bor
 cases g with
 |int j=>
  simp only at e
  split at e
  ·next hl=>
   cases e
   exact ⟨j,rfl,Int.le_trans (by decide) hl.1,kg hl.2,hq _ H1 s1 (fJ (by have:=hl.2;omega))⟩
  ·cases e
 |_=>cases e
theorem kh {p:Pos}{k2:Kd} (hg:Gl X "range") (hm:X.mg "range"=none) (h:PD X ms k a ma) (h2:PD X ms k2 b mb) (hs:starEach [a,b] X.env=[(false,eval a X.env),(false,eval b X.env)]:=by rfl) (hs2:starEach [b] X.env=[(false,eval b X.env)]:=by rfl):
  PDi X ms lp tg (.Call (.Name "range" p) [a,b] [] pos) (iR2 ma mb):=by
 obtain ⟨te,pe,q⟩:=h
 obtain ⟨te2,pe2,q2⟩:=h2
 refine ⟨_,iO hg hm (bp pe (bp pe2 cw hs2) (by rw [hs,hs2])) hs hs2,fun δ σ H0 H R ds L hm hq=> ?_⟩
 obtain ⟨x,hx,e⟩:=Option.bind_eq_some_iff.mp hm
 obtain ⟨y,hy,e⟩:=Option.bind_eq_some_iff.mp e
 refine q δ σ H0 H _ x L hx fun v H1 s1 g=> ?_
 refine q2 δ σ H0 H1 _ y (L.same s1) hy fun u H2 s2 g2=> ?_
 have g:=(g.same s2).bor
 have g2:=g2.bor
 cases g with
 |int i=>
  cases g2 with
  |int j=>
   simp only at e
   split at e
   ·next c=>
    cases e
    have hl:(lim:Int)=100000:=rfl
    exact ⟨i,j,rfl,⟨by omega,by omega,by omega,by omega⟩,hq _ H2 (s1.tr s2) (fJ (by omega))⟩
   ·cases e
  |_=>cases e
 |_=>cases e
end
noncomputable def aK (ms:List Nat) (σ σ':St):Prop:= ∀i,isOwn ms i=true->σ'[i]?=σ[i]?
theorem aK.refl {ms:List Nat}{σ:St}:aK ms σ σ:=fun _ _=>rfl
theorem aK.tr {ms:List Nat}{σ σ1 σ2:St} (a:aK ms σ σ1) (b:aK ms σ1 σ2):aK ms σ σ2:=fun i h=>(b i h).trans (a i h)
noncomputable def DG (KF:PySem.W.Frag) (ms:List Nat) (g:TG) (m:Dv->Dt->Option Dt):Prop:=
 ∀{W:Addr->Prop} (δ δ1:Dt) (σ:St) (H0 H:Hp) (v:V) (d:Dv) (Q:St->Hp->Prop),Rel KF ms W H0 δ σ H->RepF KF (fun a=> ¬W a) H v d->m d δ=some δ1->(∀σ1,Rel KF ms W H0 δ1 σ1 H->aK ms σ σ1->Q σ1 H)->g v σ H Q
noncomputable def PDg (X:Cx) (ms:List Nat) (tg:Expr) (m:Dv->Dt->Option Dt):Prop:= ∃g,PG X tg g/\DG X.K ms g m
noncomputable def gN (i:Nat):Dv->Dt->Option Dt:=fun d δ=>some (δ.set i (some d))
noncomputable def gZ:List Dv->Dt->Option Dt
 |[],δ=>some δ
 |_,_=>none
noncomputable def gC (g:Dv->Dt->Option Dt) (r:List Dv->Dt->Option Dt):List Dv->Dt->Option Dt
 |d::ds,δ=>(g d δ).bind (r ds)
 |_,_=>none
noncomputable def gT (n:Nat) (g:List Dv->Dt->Option Dt):Dv->Dt->Option Dt
 | .tup ds,δ=>if ds.length=n then g ds δ else none
 |_,_=>none
theorem Rel.set {ms:List Nat}{H0 H:Hp}{δ:Dt}{σ:St}{i:Nat}{v:V}{d:Dv} (R:Rel KF ms W H0 δ σ H) (hi:isOwn ms i=false) (r:RepF KF (fun a=> ¬W a) H v d):
  Rel KF ms W H0 (δ.set i (some d)) (σ.set i (some v)) H/\aK ms σ (σ.set i (some v)):=by
 refine ⟨⟨by rw [List.length_set,List.length_set];exact R.len,R.keep,R.soft,fun j d' n hd=> ?_,?_⟩,fun j hj=>List.getElem?_set_ne (fun z=>by subst z;rw [hi] at hj;cases hj)⟩
 ·by_cases hj:i=j
  ·subst hj
   have hl:i<δ.length:=by
    have:=(List.getElem?_eq_some_iff.mp hd).1
    rwa [List.length_set] at this
   rw [List.getElem?_set_self hl] at hd
   cases hd
   exact ⟨v,List.getElem?_set_self (by rw [R.len];exact hl),r⟩
  ·rw [List.getElem?_set_ne hj] at hd
   obtain ⟨u,hu,q⟩:=R.get j d' n hd
   exact ⟨u,by rw [List.getElem?_set_ne hj];exact hu,q⟩
 ·obtain ⟨Φ,f⟩:=R.foot
  refine ⟨Φ,f.wr,f.dj,f.nd,fun j d' n hd=> ?_⟩
  have hj:i≠j:=fun z=>by rw [z,n] at hi;cases hi
  rw [List.getElem?_set_ne hj] at hd|-
  exact f.at_ j d' n hd
section
variable {X:Cx}{ms:List Nat}{pos:Pos}
theorem cF {i:Nat}{x:Str} (hi:isOwn ms i=false) (h:PG X (.Name x pos) (cL i)):PDg X ms (.Name x pos) (gN i):=
 ⟨_,h,fun δ δ1 σ H0 H v d Q R r hm hq=>by
  cases hm
  obtain ⟨R',so⟩:=R.set hi r
  exact hq _ R' so⟩
end
noncomputable def aD (ρ:List (Option Nat)) (δ:Dt):Dt:=ρ.map fun o=>match o with
 |none=>none
 |some j=>(δ[j]?).join
noncomputable def aC (g:Dv->Dt->Option Dt) (c:Dt->Option Bool) (el:EM) (δ:Dt):List Dv->Option (List Dv)
 |[]=>some []
 |d::ds=>(g d δ).bind fun δ1=>(c δ1).bind fun b=>if b=true then (el δ1).bind fun x=>if x.imm=true then (aC g c el δ ds).map (x:: ·) else none else aC g c el δ ds
noncomputable def bF (ρ:List (Option Nat)) (it:Dt->Option (List Dv)) (g:Dv->Dt->Option Dt) (c:Dt->Option Bool) (el:EM):EM:=fun δ=>(it δ).bind fun ds=>(aC g c el (aD ρ δ) ds).map .lst
noncomputable def dO (ρ:List (Option Nat)) (ms ms':List Nat):Bool:=
 (List.range ρ.length).all (fun i=>match ρ[i]? with|some (some j)=>(decide (i∈ms')==decide (j∈ms))&&(decide (i+1000∈ms')==decide (j+1000∈ms))&&(decide (i+2000∈ms')==decide (j+2000∈ms))|_=>true)&&decide ((ρ.filterMap id).Nodup)
theorem dP {ρ:List (Option Nat)}{δ:Dt}{i:Nat}{d:Dv} (h:(aD ρ δ)[i]?=some (some d)): ∃j,ρ[i]?=some (some j)/\δ[j]?=some (some d):=by
 unfold aD at h
 rw [List.getElem?_map] at h
 cases e:ρ[i]? with
 |none=>rw [e] at h;cases h
 |some o=>
  rw [e] at h
  cases o with
  |none=>cases h
  |some j=>
   refine ⟨j,rfl,?_⟩
   have h':(δ[j]?).join=some d:=Option.some.inj h
   cases q:δ[j]? with
   |none=>rw [q] at h';cases h'
   |some z=>rw [q] at h';exact congrArg some h'
theorem fK {ρ:List (Option Nat)}{σ:St}{i j:Nat}{v:V} (h:ρ[i]?=some (some j)) (e:σ[j]?=some (some v)):(pull ρ σ)[i]?=some (some v):=by
 unfold pull
 rw [List.getElem?_map,h]
 show some ((σ[j]?).getD none)=_
 rw [e];rfl
theorem kj {ρ:List (Option Nat)} (h:(ρ.filterMap id).Nodup): ∀{i i' j:Nat},ρ[i]?=some (some j)->ρ[i']?=some (some j)->i=i':=by
 induction ρ with
 |nil=>intro i i' j e;simp at e
 |cons o r ih=>
  intro i i' j e e'
  have hr:(r.filterMap id).Nodup:=by
   cases o with
   |none=>simpa using h
   |some x=>simp only [List.filterMap_cons,id] at h;exact (List.nodup_cons.mp h).2
  have hm: ∀{q:Nat},r[q]?=some (some j)->j∈r.filterMap id:=fun {q} e=>by
   rw [List.mem_filterMap]
   exact ⟨some j,List.mem_of_getElem? e,rfl⟩
  cases i with
  |zero=>
   cases i' with
   |zero=>rfl
   |succ i'=>
    simp only [List.getElem?_cons_zero,Option.some.injEq] at e
    subst e
    simp only [List.filterMap_cons,id] at h
    exact absurd (hm (by simpa using e')) (List.nodup_cons.mp h).1
  |succ i=>
   cases i' with
   |zero=>
    simp only [List.getElem?_cons_zero,Option.some.injEq] at e'
    subst e'
    simp only [List.filterMap_cons,id] at h
    exact absurd (hm (by simpa using e)) (List.nodup_cons.mp h).1
   |succ i'=>exact congrArg (· +1) (ih hr (by simpa using e) (by simpa using e'))
structure cG (ρ:List (Option Nat)) (ms ms':List Nat):Prop where
 flat: ∀(i j:Nat),ρ[i]?=some (some j)->(i∈ms'↔j∈ms)
 deep: ∀(i j:Nat),ρ[i]?=some (some j)->(i+1000∈ms'↔j+1000∈ms)
 anyl: ∀(i j:Nat),ρ[i]?=some (some j)->(i+2000∈ms'↔j+2000∈ms)
 inj: ∀(i i' j:Nat),ρ[i]?=some (some j)->ρ[i']?=some (some j)->i=i'
theorem kl {ρ:List (Option Nat)}{ms ms':List Nat} (h:dO ρ ms ms'=true):cG ρ ms ms':=by
 unfold dO at h
 rw [Bool.and_eq_true] at h
 obtain ⟨h2,h3⟩:=h
 have key: ∀(i j:Nat),ρ[i]?=some (some j)->((i∈ms'↔j∈ms)/\(i+1000∈ms'↔j+1000∈ms))/\(i+2000∈ms'↔j+2000∈ms):=fun i j e=>by
  have hl:=(List.getElem?_eq_some_iff.mp e).1
  have q:=List.all_eq_true.mp h2 i (List.mem_range.mpr hl)
  rw [e] at q
  simp only [Bool.and_eq_true,beq_iff_eq,decide_eq_decide] at q
  exact q
 exact ⟨fun i j e=>(key i j e).1.1,fun i j e=>(key i j e).1.2,fun i j e=>(key i j e).2,fun i i' j e e'=>kj (of_decide_eq_true h3) e e'⟩
section
variable {ρ:List (Option Nat)}{ms ms':List Nat}{δ:Dt}{σ:St}{H0 H:Hp}
theorem cG.own (P:cG ρ ms ms') {i j:Nat} (h:ρ[i]?=some (some j)):isOwn ms' i=isOwn ms j:=by
 unfold isOwn
 rw [decide_eq_decide.mpr (P.flat i j h),decide_eq_decide.mpr (P.deep i j h),decide_eq_decide.mpr (P.anyl i j h)]
theorem Rel.pull (R:Rel KF ms W H0 δ σ H) (P:cG ρ ms ms'):Rel KF ms' W H0 (aD ρ δ) (L2.pull ρ σ) H:=by
 refine ⟨by unfold L2.pull aD;simp,R.keep,R.soft,fun i d n hd=> ?_,?_⟩
 ·obtain ⟨j,er,ed⟩:=dP hd
  rw [P.own er] at n
  obtain ⟨v,ev,q⟩:=R.get j d n ed
  exact ⟨v,fK er ev,q⟩
 ·obtain ⟨Φ,f⟩:=R.foot
  refine ⟨fun i=>match ρ[i]? with|some (some j)=>Φ j|_=>[],fun i b hb=> ?_,fun i i' b hb hb'=> ?_,fun i=> ?_,fun i d n hd=> ?_⟩
  ·split at hb
   ·exact f.wr _ b hb
   ·exact nomatch hb
  ·split at hb
   ·next j e=>
    split at hb'
    ·next j' e'=>
     have:=f.dj j j' b hb hb'
     subst this
     exact P.inj i i' j e e'
    ·exact nomatch hb'
   ·exact nomatch hb
  ·split
   ·exact f.nd _
   ·exact List.nodup_nil
  ·obtain ⟨j,er,ed⟩:=dP hd
   rw [P.own er] at n
   obtain ⟨a,ha,o⟩:=f.at_ j d n ed
   refine ⟨a,fK er ha,?_⟩
   rw [er]
   rcases o with ⟨m,e,c⟩|⟨m,m3,r⟩|⟨m,m2,e,c⟩
   ·exact .inl ⟨(P.flat i j er).mpr m,e,c⟩
   ·exact .inr (.inl ⟨fun z=>m ((P.flat i j er).mp z),(P.deep i j er).mpr m3,r⟩)
   ·exact .inr (.inr ⟨fun z=>m ((P.flat i j er).mp z),fun z=>m2 ((P.deep i j er).mp z),e,c⟩)
theorem Rel.forget {δ1:Dt} (R:Rel KF ms W H0 δ1 σ H) (hl:δ.length=δ1.length) (h: ∀(i:Nat) (d:Dv),δ[i]?=some (some d)->δ1[i]?=some (some d)):Rel KF ms W H0 δ σ H:=by
 refine ⟨R.len.trans hl.symm,R.keep,R.soft,fun i d n hd=>R.get i d n (h i d hd),?_⟩
 obtain ⟨Φ,f⟩:=R.foot
 exact ⟨Φ,f.wr,f.dj,f.nd,fun i d n hd=>f.at_ i d n (h i d hd)⟩
end
end L2
set_option maxHeartbeats 4000000
namespace L2
open PySem PySem.Spec PyProof.Rows
variable {KF:PySem.W.Frag}{W W':Addr->Prop}
noncomputable def tM (KF:PySem.W.Frag) (ms:List Nat) (k:Kd) (m:EM):TE:=fun σ H Q=> ∃(W:Addr->Prop) (H0:Hp) (δ:Dt) (d:Dv),Rel KF ms W H0 δ σ H/\m δ=some d/\ ∀v H',Same H H'->Got KF k W H H' v d->Q v H'
noncomputable def ttM (KF:PySem.W.Frag) (ms:List Nat) (m:Dt->Option Bool):TT:=fun σ H Q=> ∃(W:Addr->Prop) (H0:Hp) (δ:Dt) (b:Bool),Rel KF ms W H0 δ σ H/\m δ=some b/\ ∀H',Same H H'->Q b H'
noncomputable def tgM (KF:PySem.W.Frag) (ms:List Nat) (m:Dv->Dt->Option Dt):TG:=fun v σ H Q=> ∃(W:Addr->Prop) (H0:Hp) (δ:Dt) (d:Dv) (δ1:Dt),Rel KF ms W H0 δ σ H/\RepF KF (fun a=> ¬W a) H v d/\m d δ=some δ1/\ ∀σ1,Rel KF ms W H0 δ1 σ1 H->aK ms σ σ1->Q σ1 H
noncomputable def PDts (X:Cx) (ms:List Nat) (ifs:List Expr) (m:Dt->Option Bool):Prop:= ∃tt,PTs X ifs tt/\DTs X.K ms tt m
noncomputable def GExt (z:List Nat) (g:Dv->Dt->Option Dt):Prop:= ∀d δ δ1,g d δ=some δ1->δ1.length=δ.length/\ ∀i:Nat,i∉z->δ1[i]?=δ[i]?
theorem dQ (i:Nat):GExt [i] (gN i):=fun d δ δ1 h=>by
 cases h
 refine ⟨List.length_set,fun j hj=> ?_⟩
 have ne:i≠j:=fun z=>hj (by simp [z])
 exact List.getElem?_set_ne ne
section
variable {X:Cx}{ms:List Nat}{k:Kd}{e:Expr}{m:EM}{pos:Pos}
theorem PD.pe (h:PD X ms k e m):PE X e (tM X.K ms k m):=by
 obtain ⟨te,p,q⟩:=h
 intro pins s σ H Q I ⟨W,H0,δ,d,R,hm,hq⟩
 exact p pins s σ H Q I (q δ σ H0 H Q d R hm hq)
theorem dR:PDts X ms [] tyes:=⟨_,jW,fun δ σ H0 H Q b R hm hq=>by cases hm;exact hq H fun _ _ z=>z⟩
theorem PDts.pts {ifs:List Expr}{t:Dt->Option Bool} (h:PDts X ms ifs t):PTs X ifs (ttM X.K ms t):=by
 obtain ⟨te,p,q⟩:=h
 intro pins s σ H Q I ⟨W,H0,δ,d,R,hm,hq⟩
 exact p pins s σ H Q I (q δ σ H0 H Q d R hm hq)
theorem PDg.pg {g:Dv->Dt->Option Dt} (h:PDg X ms e g):PG X e (tgM X.K ms g):=by
 obtain ⟨te,p,q⟩:=h
 intro pins s σ H v u Q I r ⟨W,H0,δ,d,δ1,R,rd,hm,hq⟩
 exact p pins s σ H v u Q I r (q δ δ1 σ H0 H v d Q R rd hm hq)
end
section
variable {ms ms':List Nat}{ρ:List (Option Nat)}{k:Kd}{wi:TI}{it:Dt->Option (List Dv)}{g:Dv->Dt->Option Dt}{c:Dt->Option Bool}{el:EM}{z:List Nat}
noncomputable def km (ρ:List (Option Nat)) (g:TG) (tt:TT) (te:TE) (J:It) (σ:St) (H1:Hp) (Q:VK):Prop:= ∃W:Nat->Nat->List V->St->Hp->Prop,(∃m,W 0 m [] (pull ρ σ) H1)/\ ∀i m acc σc Hc,W i m acc σc Hc->
 (J.stop i Hc/\acc.length<=sizeLine/\ ∀l,Hc l=none->Q (.ref l) (upd Hc l (.lst acc))) \/
 (J.go i Hc/\acc.length<sizeLine/\ ∃N:List V->St->Hp->Prop,(∀acc' σ' H',N acc' σ' H'-> ∃m',m'<m/\W (i+1) m' acc' σ' H')/\
  ∀x H',J.yld i Hc x H'->g x σc H' fun σ2 H2=>tt σ2 H2 fun b H3=>if b=true then te σ2 H3 fun v H4=>N (acc++[v]) σ2 H4 else N acc σ2 H3)
theorem kn {δ:Dt}{σ:St}{H0 H1:Hp}{J:It}{ds out:List Dv}{Q:VK} (R1:Rel KF ms' W H0 (aD ρ δ) (L2.pull ρ σ) H1) (ok:IOk KF W false H1 J ds) (ho:aC g c el (aD ρ δ) ds=some out) (hz:GExt z g) (hz':z.all (fun i=>decide (ρ[i]?=some none))=true)
  (hq: ∀(l:Addr) (acc:List V) (Hc:Hp),Same H1 Hc->Hc l=none->RepsF KF Imm Hc acc out->Q (.ref l) (upd Hc l (.lst acc))):km ρ (tgM KF ms' g) (ttM KF ms' c) (tM KF ms' k el) J σ H1 Q:=by
 obtain ⟨hlim,ok⟩:=ok
 have notz: ∀{i:Nat}{x:Dv},(aD ρ δ)[i]?=some (some x)->i∉z:=fun {i x} e hzi=>by
  obtain ⟨j,er,_⟩:=dP e
  have:=of_decide_eq_true (List.all_eq_true.mp hz' i hzi)
  rw [er] at this;cases this
 refine ⟨fun i n acc σc Hc=>n=ds.length-i/\i<=ds.length/\Same H1 Hc/\Rel KF ms' W H0 (aD ρ δ) σc Hc/\aK ms' (pull ρ σ) σc/\acc.length<=i/\
  ∃done rest,RepsF KF Imm Hc acc done/\aC g c el (aD ρ δ) (ds.drop i)=some rest/\done++rest=out,⟨ds.length,by simp,Nat.zero_le _,Same.refl _,R1,.refl,Nat.le_refl _,[],out,.nil,by simpa using ho,by simp⟩,?_⟩
 rintro i n acc σc Hc ⟨rfl,hi',sc,Rc,so,hl,done,rest,ra,hr,hout⟩
 obtain ⟨go,yl,st⟩:=ok Hc (.inl sc)
 by_cases hlt:i<ds.length
 ·right
  refine ⟨go i hlt,?_,fun acc' σ' H'=>Same H1 H'/\Rel KF ms' W H0 (aD ρ δ) σ' H'/\aK ms' (pull ρ σ) σ'/\acc'.length<=i+1/\ ∃done rest,RepsF KF Imm H' acc' done/\aC g c el (aD ρ δ) (ds.drop (i+1))=some rest/\done++rest=out,
   fun acc' σ' H' ⟨a1,a2,a3,a4,a5⟩=>⟨ds.length-(i+1),by omega,rfl,hlt,a1,a2,a3,a4,a5⟩,fun x H' y=> ?_⟩
  ·have:=bQ hlim;omega
  ·obtain ⟨rfl,d,hd,rx⟩:=yl i x H' hlt y
   have hdrop:ds.drop i=d::ds.drop (i+1):=by
    rw [List.drop_eq_getElem_cons hlt]
    congr 1
    rw [List.getElem?_eq_getElem hlt] at hd
    exact Option.some.inj hd
   rw [hdrop,aC] at hr
   obtain ⟨δ1,h1,hr⟩:=Option.bind_eq_some_iff.mp hr
   obtain ⟨b,hb,hr⟩:=Option.bind_eq_some_iff.mp hr
   obtain ⟨l1,f1⟩:=hz d _ δ1 h1
   refine ⟨W,H0,aD ρ δ,d,δ1,Rc,rx.mono fun a _ n z=>n.1 z,h1,fun σ1 R1' so1=> ?_⟩
   have forget: ∀{H2:Hp},Rel KF ms' W H0 δ1 σ1 H2->Rel KF ms' W H0 (aD ρ δ) σ1 H2:=fun {H2} R2=>by
    refine R2.forget l1.symm (fun j x e=> ?_)
    rw [f1 j (notz e)];exact e
   refine ⟨W,H0,δ1,b,R1',hb,fun H2 s2=> ?_⟩
   cases b with
   |true=>
    rw [if_pos rfl] at hr
    obtain ⟨y,hy,hr⟩:=Option.bind_eq_some_iff.mp hr
    split at hr
    ·next him=>
     obtain ⟨rest',hr',rfl⟩:=Option.map_eq_some_iff.mp hr
     rw [if_pos rfl]
     refine ⟨W,H0,δ1,y,R1'.same s2,hy,fun v H3 s3 g3=> ?_⟩
     have s23:=s2.tr s3
     refine ⟨sc.tr s23,forget (R1'.same s23),so.tr so1,by rw [List.length_append];exact Nat.add_le_add_right hl 1,done++[y],rest',(ra.same s23).append (.cons (g3.imm him) .nil),hr',by rw [<-hout,List.append_assoc];rfl⟩
    ·cases hr
   |false=>
    rw [if_neg Bool.false_ne_true] at hr
    rw [if_neg Bool.false_ne_true]
    exact ⟨sc.tr s2,forget (R1'.same s2),so.tr so1,Nat.le_succ_of_le hl,done,rest,ra.same s2,hr,hout⟩
 ·left
  have hie:i=ds.length:=by omega
  subst hie
  rw [List.drop_length,aC] at hr
  cases hr
  rw [List.append_nil] at hout
  subst hout
  have:=bQ hlim
  refine ⟨st,by omega,fun l hln=> ?_⟩
  exact hq l acc Hc sc hln ra
theorem ko (hi: ∀{W:Addr->Prop} (δ:Dt) (σ:St) (H0 H:Hp) (R:It->Hp->Prop) (ds:List Dv),Rel KF ms W H0 δ σ H->it δ=some ds->(∀J H',Same H H'->IOk KF W false H' J ds->R J H')->wi σ H R)
  (P:cG ρ ms ms') (hz:GExt z g) (hz':z.all (fun i=>decide (ρ[i]?=some none))=true):DE KF ms .one (dC ρ wi (tgM KF ms' g) (ttM KF ms' c) (tM KF ms' k el)) (bF ρ it g c el):=by
 intro W δ σ H0 H Q d R hm hq
 obtain ⟨ds,hds,e⟩:=Option.bind_eq_some_iff.mp hm
 obtain ⟨out,ho,rfl⟩:=Option.map_eq_some_iff.mp e
 refine hi δ σ H0 H _ ds R hds fun J H1 s1 ok=> ?_
 refine kn ((R.same s1).pull P) ok ho hz hz' fun l acc Hc sc hln ra=> ?_
 have s2:=Same.new (o:= .lst acc) hln
 exact hq _ _ (s1.tr (sc.tr s2)) ⟨l,rfl,aE (s1.tr sc) hln,acc,ap,ra.same s2⟩
variable {X:Cx}{scope:Scope}{tg iter elt:Expr}{ifs:List Expr}{pos:Pos}
theorem dS (N':List Str) (ρ:List (Option Nat)) (ms':List Nat) (hc:X.calm=true) (hi:PDi X ms false tg iter it) (hg: ∀C s H fp,PDg (aw X scope N' C s H fp) ms' tg g)
  (ht: ∀C s H fp,PDts (aw X scope N' C s H fp) ms' ifs c) (he: ∀C s H fp,PD (aw X scope N' C s H fp) ms' k elt el) (hz:GExt z g)
  (ck:cR scope X.env.scope X.N N' ρ=true) (hp:dO ρ ms ms'=true) (hz':z.all (fun i=>decide (ρ[i]?=some none))=true) (hs: ∀x,foldedSetIterable iter X.env x=pure x:=by intro _;rfl):
  PD X ms .one (.ListComp elt [⟨tg,iter,ifs,0⟩] scope pos) (bF ρ it g c el):=by
 obtain ⟨wi,pi,qi⟩:=hi
 exact ⟨_,jY N' ρ hc pi (fun C s H fp=>(hg C s H fp).pg) (fun C s H fp=>(ht C s H fp).pts) (fun C s H fp=>(he C s H fp).pe) ck hs,ko qi (kl hp) hz hz'⟩
end
inductive Fl where
 |nx (δ:Dt)|rt (d:Dv)|bk (δ:Dt)|ct (δ:Dt)
noncomputable abbrev SM:=Dt->Option Fl
noncomputable def Stp (W:Addr->Prop) (H:Hp) (W':Addr->Prop) (H':Hp):Prop:=bE W H H'/\(∀a,W' a->W a \/H a=none)/\ ∀a,W a->W' a
theorem Stp.refl {H:Hp}:Stp W H W H:=⟨fun _ _ h _=>h,fun _ h=> .inl h,fun _ h=>h⟩
theorem Stp.of {ms:List Nat}{σ σ':St}{H H':Hp} (s:Same H H') (_:aK ms σ σ'):Stp W H W H':=⟨fun a o h _=>s a o h,fun a h=> .inl h,fun _ h=>h⟩
theorem Stp.sm {H H':Hp} (s:Same H H'):Stp W H W H':=⟨fun a o h _=>s a o h,fun a h=> .inl h,fun _ h=>h⟩
theorem Stp.tr {W1 W2:Addr->Prop}{H H1 H2:Hp} (a:Stp W H W1 H1) (b:Stp W1 H1 W2 H2):Stp W H W2 H2:=by
 refine ⟨fun x o h n=>b.1 x o (a.1 x o h n) fun z=> ?_,fun x h=> ?_,fun x h=>b.2.2 x (a.2.2 x h)⟩
 ·rcases a.2.1 x z with q|q
  ·exact n q
  ·rw [h] at q;cases q
 ·rcases b.2.1 x h with q|q
  ·exact a.2.1 x q
  ·by_cases n:W x
   ·exact .inl n
   ·right
    cases e:H x with
    |none=>rfl
    |some o=>rw [a.1 x o e n] at q;cases q
noncomputable def WE (W:Addr->Prop) (H0:Hp):Addr->Prop:=fun a=>W a/\H0 a≠none
noncomputable def da (KF:PySem.W.Frag) (ms:List Nat) (rk:Kd) (W:Addr->Prop) (H0:Hp) (H:Hp) (D:Ends):Fl->Prop
 | .nx δ=> ∀(W':Addr->Prop) (σ':St) (H':Hp),Stp W H W' H'->Rel KF ms W' H0 δ σ' H'->D.nx σ' H'
 | .rt d=> ∀v H',Same H0 H'->Got KF rk (WE W H0) H0 H' v d->D.rt v H'
 | .bk δ=> ∀(W':Addr->Prop) (σ':St) (H':Hp),Stp W H W' H'->Rel KF ms W' H0 δ σ' H'->D.bk σ' H'
 | .ct δ=> ∀(W':Addr->Prop) (σ':St) (H':Hp),Stp W H W' H'->Rel KF ms W' H0 δ σ' H'->D.ct σ' H'
theorem Got.weak {rk:Kd}{W1:Addr->Prop}{H0 H':Hp}{v:V}{d:Dv} (g:Got KF rk W1 H0 H' v d) (h: ∀a,W a->W1 a):Got KF rk W H0 H' v d:=by
 cases rk with
 |any=>exact RepF.mono (fun a _ n z=>n (h a z)) g
 |_=>exact g
theorem da.step {ms:List Nat}{rk:Kd}{H0:Hp}{W1:Addr->Prop}{H H1:Hp}{D:Ends}{r:Fl} (h:da KF ms rk W H0 H D r) (s:Stp W H W1 H1):da KF ms rk W1 H0 H1 D r:=by
 cases r with
 |nx δ=>exact fun W' σ' H' s' R=>h W' σ' H' (s.tr s') R
 |rt d=>exact fun v H' s' g=>h v H' s' (g.weak fun a z=>⟨s.2.2 a z.1,z.2⟩)
 |bk δ=>exact fun W' σ' H' s' R=>h W' σ' H' (s.tr s') R
 |ct δ=>exact fun W' σ' H' s' R=>h W' σ' H' (s.tr s') R
noncomputable def DS (KF:PySem.W.Frag) (ms:List Nat) (rk:Kd) (ts:TS) (m:SM):Prop:=
 ∀{W:Addr->Prop} (δ:Dt) (σ:St) (H0 H:Hp) (D:Ends) (r:Fl),Rel KF ms W H0 δ σ H->m δ=some r->da KF ms rk W H0 H D r->ts D σ H
noncomputable def PDs (X:Cx) (ms:List Nat) (rk:Kd) (st:Stmt) (m:SM):Prop:= ∃ts,PS X st ts/\DS X.K ms rk ts m
noncomputable def PDss (X:Cx) (ms:List Nat) (rk:Kd) (st:List Stmt) (m:SM):Prop:= ∃ts,PSs X st ts/\DS X.K ms rk ts m
noncomputable def aL:SM:=fun δ=>some (.nx δ)
noncomputable def sSeq (a b:SM):SM:=fun δ=>(a δ).bind fun r=>match r with
 | .nx δ1=>b δ1
 |r=>some r
noncomputable def sSet (i:Nat) (m:EM):SM:=fun δ=>(m δ).map fun d=> .nx (δ.set i (some d))
noncomputable def sRet (m:EM):SM:=fun δ=>(m δ).map .rt
noncomputable def sIf (c:Dt->Option Bool) (a b:SM):SM:=fun δ=>(c δ).bind fun x=>if x=true then a δ else b δ
noncomputable def fL (m:EM):SM:=fun δ=>(m δ).map fun _=> .nx δ
noncomputable def loopM (g:Dv->Dt->Option Dt) (body:SM):List Dv->SM
 |[],δ=>some (.nx δ)
 |d::ds,δ=>(g d δ).bind fun δ1=>(body δ1).bind fun r=>match r with
  | .nx δ2=>loopM g body ds δ2
  | .ct δ2=>loopM g body ds δ2
  | .bk δ2=>some (.nx δ2)
  | .rt d=>some (.rt d)
noncomputable def sFor (it:Dt->Option (List Dv)) (g:Dv->Dt->Option Dt) (body:SM):SM:=fun δ=>(it δ).bind fun ds=>loopM g body ds δ
noncomputable def sApp (i:Nat) (m:EM):SM:=fun δ=>(m δ).bind fun d=>(eVar i δ).bind fun x=>match x with
 | .lst ds=>if ds.length<lim/\d.imm=true then some (.nx (δ.set i (some (.lst (ds++[d]))))) else none
 |_=>none
section
variable {X:Cx}{ms:List Nat}{rk k:Kd}{e:Expr}{m:EM}{pos pos':Pos}{st:Stmt}{rest a b:List Stmt}{ma mb:SM}
theorem ba:PDss X ms rk [] aL:=⟨_,iA,fun δ σ H0 H D r R hm hq=>by cases hm;exact hq _ σ H .refl R⟩
theorem ar (h1:PDs X ms rk st ma) (h2:PDss X ms rk rest mb):PDss X ms rk (st::rest) (sSeq ma mb):=by
 obtain ⟨t,p,q⟩:=h1
 obtain ⟨u,p2,q2⟩:=h2
 refine ⟨_,iB p p2,fun δ σ H0 H D r R hm hq=> ?_⟩
 obtain ⟨r1,h1,e⟩:=Option.bind_eq_some_iff.mp hm
 refine q δ σ H0 H _ r1 R h1 ?_
 cases r1 with
 |nx δ1=>exact fun W' σ' H' s' R'=>q2 δ1 σ' H0 H' D r R' e (hq.step s')
 |rt d=>cases e;exact hq
 |bk d=>cases e;exact hq
 |ct d=>cases e;exact hq
theorem av (h1:PDs X ms rk st ma):PDss X ms rk [st] ma:=by
 obtain ⟨t,p,q⟩:=h1
 exact ⟨_,iC p,q⟩
theorem Got.ret {H0 H H1:Hp}{v:V}{d:Dv} (g:Got KF k W H H1 v d) (s:Same H0 H) (l:Kd.le k rk) (fr: ∀a,H a=none-> ¬W a):Got KF rk (WE W H0) H0 H1 v d:=by
 cases l with
 |refl=>
  cases rk with
  |one=>obtain ⟨a,ea,h,c⟩:=g;exact ⟨a,ea,aE s h,c⟩
  |dp=>obtain ⟨F,nd,h,c⟩:=g;exact ⟨F,nd,fun b hb=>aE s (h b hb),c⟩
  |imm=>exact g
  |frh=>exact RepF.mono (fun a _ h=>aE s h) g
  |any=>exact RepF.mono (S':=fun b=> ¬WE W H0 b) (fun a _ n (z:WE W H0 a)=>n z.1) g
  |bor=>exact g
 |one_frh=>obtain ⟨a,ea,h,c⟩:=g;subst ea;exact c.rep (aE s h)
 |one_any=>obtain ⟨a,ea,h,c⟩:=g;subst ea;exact c.rep (S:=fun b=> ¬WE W H0 b) (show¬WE W H0 a from fun z=>fr _ h z.1)
 |imm_frh=>exact RepF.mono (fun _ _ z=>z.elim) g
 |imm_any=>exact RepF.mono (fun _ _ z=>z.elim) g
 |frh_any=>exact RepF.mono (S':=fun b=> ¬WE W H0 b) (fun a _ h (z:WE W H0 a)=>fr a h z.1) g
 |bor=>exact g.bor
 |dp_frh=>obtain ⟨F,nd,h,c⟩:=g;exact c.rep fun b hb=>aE s (h b hb)
 |dp_any=>obtain ⟨F,nd,h,c⟩:=g;exact c.rep (S:=fun b=> ¬WE W H0 b) (fun b hb (z:WE W H0 b)=>fr b (h b hb) z.1)
 |one_dp=>
  obtain ⟨a,ea,h,c⟩:=g
  subst ea
  exact ⟨[a],by simp,fun b hb=>by rw [List.mem_singleton.mp hb];exact aE s h,c.tree⟩
 |imm_dp=>exact ⟨[],List.nodup_nil,fun b hb=>(List.not_mem_nil hb).elim,.imm g⟩
theorem bo (h:PD X ms k e m) (l:Kd.le k rk):PDs X ms rk (.Return (some e) pos) (sRet m):=by
 obtain ⟨te,p,q⟩:=h
 refine ⟨_,iD p,fun δ σ H0 H D r R hm hq=> ?_⟩
 obtain ⟨d,hd,rfl⟩:=Option.map_eq_some_iff.mp hm
 refine q δ σ H0 H _ d R hd fun v H' s g=> ?_
 exact hq v H' (R.keep.tr s) (g.ret R.keep l fun _ z=>R.fresh z)
theorem aM (h:PD X ms k e m) (l:Kd.le k rk) (n:rk≠ .any):PDs X ms rk (.Return (some e) pos) (sRet m):=bo h l
theorem dU {i:Nat} (hi:i+2000∈ms):isOwn ms i=true:=by unfold isOwn;rw [decide_eq_true hi,Bool.or_true,Bool.or_true]
theorem bb {c:Expr}{tc:Dt->Option Bool} (hc:PDt X ms c tc) (ha:PDss X ms rk a ma) (hb:PDss X ms rk b mb):PDs X ms rk (.If c a b pos) (sIf tc ma mb):=by
 obtain ⟨t,p,q⟩:=hc
 obtain ⟨ta,pa,qa⟩:=ha
 obtain ⟨tb,pb,qb⟩:=hb
 refine ⟨_,iE p pa pb,fun δ σ H0 H D r R hm hq=> ?_⟩
 obtain ⟨x,hx,e⟩:=Option.bind_eq_some_iff.mp hm
 refine q δ σ H0 H _ x R hx fun H1 s1=> ?_
 have hq':=hq.step (Stp.sm s1)
 cases x with
 |true=>exact qa δ σ H0 H1 D r (R.same s1) e hq'
 |false=>exact qb δ σ H0 H1 D r (R.same s1) e hq'
theorem kq {te:TE}{i:Nat} (hi:isOwn ms i=false) (q:DE KF ms k te m) (l:Kd.le k .any):DS KF ms rk (tAsg te (cL i)) (sSet i m):=by
 intro W δ σ H0 H D r R hm hq
 obtain ⟨d,hd,rfl⟩:=Option.map_eq_some_iff.mp hm
 refine q δ σ H0 H _ d R hd fun v H' s g=> ?_
 obtain ⟨R',so⟩:=(R.same s).set hi (g.le R l)
 exact hq _ _ H' (.sm s) R'
theorem Rel.chg {H0 H H':Hp}{δ:Dt}{σ:St}{i:Nat}{a:Addr}{d:Dv}{F P:List Addr}{Φ:Nat->List Addr} (R:Rel KF ms W H0 δ σ H) (f:Foot KF ms W H0 δ σ H Φ) (hi:isOwn ms i=true) (hP: ∀b∈P,b∈Φ i)
  (c1: ∀b o,H b=some o->b∉P->H' b=some o) (c2: ∀b∈P,∃o,H' b=some o/\Sft o) (c3:F.Nodup) (c4: ∀b∈F,b∈P \/H b=none) (c5:bd KF ms (fun b=>W b \/b∈F) H' i a d F):
  Rel KF ms (fun b=>W b \/b∈F) H0 (δ.set i (some d)) (σ.set i (some (.ref a))) H'/\Stp W H (fun b=>W b \/b∈F) H':=by
 have wP: ∀b∈P,W b:=fun b hb=>(f.wr i b (hP b hb)).1
 have st:bE W H H':=fun b o h n=>c1 b o h fun z=>n (wP b z)
 have kp:au (fun a=> ¬W a) H H':=bE.keeps R st
 have kpI:au Imm H H':=kp.mono fun _ z=>z.elim
 have h0P: ∀b∈P,H0 b=none:=fun b hb=>(f.wr i b (hP b hb)).2
 refine ⟨⟨by rw [List.length_set,List.length_set];exact R.len,fun b o h=> ?_,fun b w=> ?_,fun j d' n hd=> ?_,?_⟩,st,fun b w=> ?_,fun b w=> .inl w⟩
 ·exact c1 b o (R.keep b o h) fun z=>by rw [h0P b z] at h;cases h
 ·rcases w with w|w
  ·obtain ⟨o,ho,so⟩:=R.soft b w
   by_cases z:b∈P
   ·exact c2 b z
   ·exact ⟨o,c1 b o ho z,so⟩
  ·exact c5.there b w
 ·have hj:i≠j:=fun z=>by rw [<-z,hi] at n;cases n
  rw [List.getElem?_set_ne hj] at hd|-
  obtain ⟨v,hv,r⟩:=R.get j d' n hd
  refine ⟨v,hv,(RepF.keep (S:=fun a=> ¬W a/\H a≠none) (kp.mono fun _ z=>z.1) (r.mono fun _ h n=>⟨n,h⟩)).mono fun b _ ⟨n1,n2⟩ z=> ?_⟩
  rcases z with z|z
  ·exact n1 z
  ·rcases c4 b z with z|z
   ·exact n1 (wP b z)
   ·exact n2 z
 ·refine ⟨fun j=>if j=i then F else Φ j,fun j b hb=> ?_,fun j j' b hb hb'=> ?_,fun j=> ?_,fun j d' n hd=> ?_⟩
  ·split at hb
   ·exact ⟨.inr hb,(c4 b hb).elim (h0P b) (aE R.keep)⟩
   ·exact ⟨.inl (f.wr j b hb).1,(f.wr j b hb).2⟩
  ·have key: ∀{j:Nat},j≠i->b∈F->b∈Φ j->False:=fun {j} ne h1 h2=>by
    rcases c4 b h1 with z|z
    ·exact ne (f.dj j i b h2 (hP b z))
    ·obtain ⟨o,ho,_⟩:=R.own (f.wr j b h2).1
     rw [z] at ho;cases ho
   split at hb
   ·next e=>
    split at hb'
    ·next e'=>rw [e,e']
    ·next e'=>exact (key e' hb hb').elim
   ·next e=>
    split at hb'
    ·next e'=>exact (key e hb' hb).elim
    ·exact f.dj j j' b hb hb'
  ·split
   ·exact c3
   ·exact f.nd j
  ·by_cases hj:i=j
   ·subst hj
    have hl:i<δ.length:=by
     have:=(List.getElem?_eq_some_iff.mp hd).1
     rwa [List.length_set] at this
    rw [List.getElem?_set_self hl] at hd
    cases hd
    refine ⟨a,List.getElem?_set_self (by rw [R.len];exact hl),?_⟩
    rw [if_pos rfl]
    exact c5
   ·rw [List.getElem?_set_ne hj] at hd|-
    obtain ⟨a',ha',o⟩:=f.at_ j d' n hd
    refine ⟨a',ha',?_⟩
    rw [if_neg (Ne.symm hj)]
    exact o.keep kp (fun b hb ob h=>c1 b ob h fun z=>hj (f.dj i j b (hP b z) hb)) fun b n1 n2 z=>by
     rcases z with z|z
     ·exact n1 z
     ·rcases c4 b z with z|z
      ·exact n1 (wP b z)
      ·exact n2 z
 ·rcases w with w|w
  ·exact .inl w
  ·rcases c4 b w with z|z
   ·exact .inl (wP b z)
   ·exact .inr z
theorem aR {i:Nat}{x:Str} (hi:isOwn ms i=false) (h:PD X ms k e m) (l:Kd.le k .any) (hN:X.N.Nodup) (hx:X.N[i]?=some x) (hl:Loc X.env.scope x) (hs:swapsWith e (some (.Name x pos')) pos.line X.env=pure false:=by rfl)
  (hf:X.fn x=true \/X.env.scope.names.lookup x=some .local:=by first|exact .inl rfl|exact .inr rfl|assumption):PDs X ms rk (.Assign [.Name x pos'] e pos) (sSet i m):=by
 obtain ⟨te,p,q⟩:=h
 exact ⟨_,eH hN hx hl p hs hf,kq hi q l⟩
section
variable {ms':List Nat}{ρ:List (Option Nat)}{it:Dt->Option (List Dv)}{g:Dv->Dt->Option Dt}{c:Dt->Option Bool}{el:EM}{z:List Nat}{scope:Scope}{tg iter elt:Expr}{ifs:List Expr}{spos cpos:Pos}
end
theorem fM {iter tg:Expr}{body:List Stmt}{it:Dt->Option (List Dv)}{g:Dv->Dt->Option Dt}{mb:SM} (hp:PassesOwn (model X.prog X.w) X.A X.env X.xe) (hc:X.calm=true) (hi:PDi X ms true tg iter it) (hg:PDg X ms tg g) (hb:PDss X ms rk body mb)
  (hs: ∀x,foldedSetIterable iter X.env x=pure x:=by intro _;rfl):PDs X ms rk (.For tg iter body [] pos) (sFor it g mb):=by
 obtain ⟨wi,pi,qi⟩:=hi
 obtain ⟨tg',pg,qg⟩:=hg
 obtain ⟨tb,pb,qb⟩:=hb
 refine ⟨_,iQ hp hc pi pg pb hs,fun {W} δ σ H0 H D r R hm hq=> ?_⟩
 obtain ⟨ds,hds,e⟩:=Option.bind_eq_some_iff.mp hm
 refine qi δ σ H0 H _ ds R hds fun J H1 s1 ok=> ?_
 obtain ⟨hlim,ok⟩:=ok
 have hq1:=hq.step (Stp.sm s1)
 refine ⟨fun i n σc Hc=>n=ds.length-i/\i<=ds.length/\(∃Wc:Addr->Prop,Stp W H1 Wc Hc/\ ∃δc,Rel X.K ms Wc H0 δc σc Hc/\loopM g mb (ds.drop i) δc=some r),⟨ds.length,by simp,Nat.zero_le _,W,.refl,δ,R.same s1,by simpa using e⟩,?_⟩
 rintro i n σc Hc ⟨rfl,hi',Wc,sc,δc,Rc,hr⟩
 obtain ⟨go,yl,st⟩:=ok Hc (.inr ⟨rfl,sc.1⟩)
 by_cases hlt:i<ds.length
 ·right
  refine ⟨go i hlt,fun σ' H'=> ∃Wc:Addr->Prop,Stp W H1 Wc H'/\ ∃δc,Rel X.K ms Wc H0 δc σ' H'/\loopM g mb (ds.drop (i+1)) δc=some r,fun σ' H' a1=>⟨ds.length-(i+1),by omega,rfl,hlt,a1⟩,fun x H' y=> ?_⟩
  obtain ⟨rfl,d,hd,rx⟩:=yl i x H' hlt y
  have hdrop:ds.drop i=d::ds.drop (i+1):=by
   rw [List.drop_eq_getElem_cons hlt]
   congr 1
   rw [List.getElem?_eq_getElem hlt] at hd
   exact Option.some.inj hd
  rw [hdrop,loopM] at hr
  obtain ⟨δ1,h1,hr⟩:=Option.bind_eq_some_iff.mp hr
  obtain ⟨r1,h2,hr⟩:=Option.bind_eq_some_iff.mp hr
  have rx':RepF X.K (fun a=> ¬Wc a) H' x d:=rx.mono fun a ha n z=>by
   rcases sc.2.1 a z with q|q
   ·exact n.1 q
   ·exact n.2 q
  refine qg δc δ1 σc H0 H' x d _ Rc rx' h1 fun σ1 R1 so1=> ?_
  have sc1:=sc
  refine qb δ1 σ1 H0 H' _ r1 R1 h2 ?_
  cases r1 with
  |nx δ2=>exact fun W2 σ2 H2 s2 R2=>⟨W2,sc1.tr s2,δ2,R2,hr⟩
  |ct δ2=>exact fun W2 σ2 H2 s2 R2=>⟨W2,sc1.tr s2,δ2,R2,hr⟩
  |bk δ2=>
   cases hr
   exact fun W2 σ2 H2 s2 R2=>hq1 W2 σ2 H2 (sc1.tr s2) R2
  |rt d'=>
   cases hr
   exact hq1.step sc1
 ·left
  have hie:i=ds.length:=by omega
  subst hie
  rw [List.drop_length,loopM] at hr
  cases hr
  exact ⟨st,hq1 Wc σc Hc sc Rc⟩
end
end L2
set_option maxHeartbeats 4000000
namespace L2
open PySem PySem.Spec PyProof.Rows
variable {KF:PySem.W.Frag}{W W':Addr->Prop}
noncomputable def aS (n:Nat) (ds:List Dv):Dt:=ds.map some++List.replicate (n-ds.length) none
noncomputable def ay (n np:Nat) (body:SM) (ds:List Dv):Option Dv:=if ds.length=np then (body (aS n ds)).bind fun r=>match r with
 | .rt d=>some d
 |_=>none
 else none
noncomputable def spD (KF:PySem.W.Frag) (rk:Kd) (m:List Dv->Option Dv):Sp:=fun vs H Q _=> ∃ds d,RepsF KF (fun _=>True) H vs ds/\m ds=some d/\ ∀v H',Same H H'->Got KF rk W0 H H' v d->Q v H'
theorem Got.call {rk:Kd}{H H1:Hp}{v:V}{d:Dv} (g:Got KF rk W0 H H1 v d) (n:rk≠ .any):Got KF rk W H H1 v d:=by
 cases rk with
 |any=>exact absurd rfl n
 |_=>exact g
theorem fN {ms:List Nat}{H:Hp}{vs:List V}{ds:List Dv}{N:List Str} (r:RepsF KF (fun a=> ¬W a) H vs ds) (hW: ∀a,W a-> ∃o,H a=some o/\Sft o) (hms: ∀i,isOwn ms i=true->ds.length<=i) (hn:ds.length<=N.length):Rel KF ms W H (aS N.length ds) (aH N vs) H:=by
 have hl:=r.length
 have no: ∀{i:Nat}{d:Dv},(aS N.length ds)[i]?=some (some d)->i<ds.length/\ds[i]?=some d:=fun {i d} hd=>by
  unfold aS at hd
  by_cases hi:i<ds.length
  ·rw [List.getElem?_append_left (by rw [List.length_map];exact hi),List.getElem?_map] at hd
   obtain ⟨d',e1,e2⟩:=Option.map_eq_some_iff.mp hd
   cases e2
   exact ⟨hi,e1⟩
  ·rw [List.getElem?_append_right (by rw [List.length_map];omega)] at hd
   have:=List.mem_of_getElem? hd
   rw [List.mem_replicate] at this
   exact nomatch this.2
 refine ⟨?_,fun _ _ z=>z,hW,fun i d n hd=> ?_,fun _=>[],⟨fun _ b hb=>(List.not_mem_nil hb).elim,fun _ _ b hb=>(List.not_mem_nil hb).elim,fun _=>List.nodup_nil,fun i d n hd=> ?_⟩⟩
 ·unfold aH aS
  simp only [List.length_append,List.length_map,List.length_replicate,hl]
 ·obtain ⟨hi,e1⟩:=no hd
  obtain ⟨v,hv,rv⟩:=r.get e1
  refine ⟨v,?_,rv⟩
  unfold aH
  rw [List.getElem?_append_left (by rw [List.length_map];omega),List.getElem?_map,hv]
  rfl
 ·have:=(no hd).1
  have:=hms i n
  omega
theorem kr {ms:List Nat}{H:Hp}{vs:List V}{ds:List Dv}{N:List Str} (r:RepsF KF (fun _=>True) H vs ds) (hms: ∀i,isOwn ms i=true->ds.length<=i) (hn:ds.length<=N.length):Rel KF ms W0 H (aS N.length ds) (aH N vs) H:=
 fN (r.mono fun _ _ _ z=>z) (fun _ w=>w.elim) hms hn
theorem fO {ms:List Nat}{n:Nat} (hms:ms.all (fun i=>decide (n<=if 2000<=i then i-2000 else if 1000<=i then i-1000 else i))=true) {i:Nat} (hi:isOwn ms i=true):n<=i:=by
 unfold isOwn at hi
 rw [Bool.or_eq_true,Bool.or_eq_true] at hi
 rcases hi with hi|hi|hi
 all_goals
  have:=of_decide_eq_true (List.all_eq_true.mp hms _ (of_decide_eq_true hi))
  split at this<;>(try split at this)<;>omega
section
variable {P:Program}{w:World}{K:PySem.W.Frag}{mg:Str->Option Value}{base:Heap}
theorem bG {x qual:Str}{st:Stmt}{f:Addr}{fd:FuncData}{N ps:List Str}{k:Nat}{rk:Kd}{body:SM} (ms:List Nat) (F:Fun K x qual st f fd) (S:aG N ps (am st)) (hms:ms.all (fun i=>decide (ps.length<=if 2000<=i then i-2000 else if 1000<=i then i-1000 else i))=true) (hps:decide (ps.length<=N.length)=true)
  (hb: ∀(cdv:Value) (A:Around) (outer:List Env) (s:Shared) (H:Hp) (E:XK),Room k (A.deeper (envOfC qual (am st) s.heap.objs.size f cdv))->PDss (cxOf CX0 P w K mg base N qual (am st) f cdv A outer s H E).nox ms rk (aA st) body):
  FnOk P w K mg base CX0 (k+1) f fd ps (spD K rk (ay N.length ps.length body)):=by
 have len: ∀{ds:List Dv}{d:Dv},ay N.length ps.length body ds=some d->ds.length=ps.length:=fun {ds d} h=>by
  unfold ay at h
  split at h
  ·assumption
  ·cases h
 refine F.ok (k:=k) S (fun vs H Q E h=> ?_) fun cdv A outer s H vs Q E hr h=> ?_
 ·obtain ⟨ds,d,r,hm,_⟩:=h
  rw [r.length]
  exact len hm
 ·obtain ⟨ds,d,r,hm,hq⟩:=h
  obtain ⟨t,p,q⟩:=hb cdv A outer s H E hr
  refine ⟨t,p,?_⟩
  have hl:=len hm
  have hps':=of_decide_eq_true hps
  have R:Rel K ms W0 H (aS N.length ds) (aH N vs) H:=kr r (fun i hi=>by rw [hl];exact fO hms hi) (by omega)
  unfold ay at hm
  rw [if_pos hl] at hm
  obtain ⟨fl,hf,e⟩:=Option.bind_eq_some_iff.mp hm
  cases fl with
  |rt d'=>cases e;exact q _ _ H H _ _ R hf fun v H' s g=>hq v H' s (g.weak fun _ z=>z.elim)
  |_=>cases e
end
section
variable {X:Cx}{ms:List Nat}{rk k1:Kd}{a:Expr}{es:List Expr}{ml:Dt->Option (List Dv)}{m:List Dv->Option Dv}{x:Str}{ps:List Str}{p pos:Pos}
theorem bg {k:Nat} (D:Def X.prog X.w X.K X.mg X.base k x ps (spD X.K rk m)) (hr:Room k X.A) (n:rk≠ .any) (ha:PDa X ms k1 (a::es) ml) (hg:Gl X x:=by rfl)
  (hdb:(x==("__debug__":Str))=false:=by decide) (he:starEach (a::es) X.env=(false,eval a X.env)::starEach es X.env:=by rfl) (hpl:(backTo pos (starEach es X.env)).any (·.1)=false:=by rfl):
  PD X ms rk (.Call (.Name x p) (a::es) [] pos) (ak m ml):=by
 obtain ⟨ta,pa,qa⟩:=ha
 refine ⟨_,fj D hr pa hg hdb he hpl,fun δ σ H0 H Q d R hm hq=> ?_⟩
 obtain ⟨xs,hx,e⟩:=Option.bind_eq_some_iff.mp hm
 refine qa δ σ H0 H _ xs R hx fun vs H1 s1 g1=> ?_
 exact ⟨xs,d,g1.bor,e,fun v H' s g=>hq v H' (s1.tr s) ((g.call n).back s1)⟩
end
noncomputable def tyN:Dv->String
 | .non=>"NoneType"
 | .bl _=>"bool"
 | .int _=>"int"
 | .str _=>"str"
 | .lst _=>"list"
 | .tup _=>"tuple"
 | .dic _=>"dict"
 | .scr _=>"list"
 | .fn _=>"list"
 | .fc _ _ _=>"list"
 | .dik _=>"dict"
 | .ins _ _=>"list"
noncomputable def Dv.isScr:Dv->Bool
 | .scr _=>true
 | .fn _=>true
 | .fc _ _ _=>true
 | .ins _ _=>true
 |_=>false
theorem RepF.ty {S:Addr->Prop}{H:Hp}{v:V}{d:Dv} (r:RepF KF S H v d) (hs:d.isScr=false):TyOf KF H v (.type (tyN d)):=by
 cases r with
 |non=>exact .non
 |bl b=>exact .bl b
 |int i=>exact .int i
 |str x=>exact .str x
 |lst s h r=>exact .lst h
 |tup h r=>exact .tup h
 |dic s h r=>exact .dT h
 |scr h=>cases hs
 |fn h=>cases hs
 |fc h=>cases hs
 |dik s h r=>exact .dK h
 |ins s h r=>cases hs
noncomputable def isiN (T C:String):Bool:=T==C||(T=="bool"&&C=="int")
noncomputable def tys:List String:=["NoneType","bool","int","str","list","tuple","dict"]
theorem kt (d:Dv):tyN d∈tys:=by cases d<;>simp [tyN,tys]
noncomputable def kitB (T C:String):Option Bool:=if (Value.type T==Value.type C)=true then some true else (if PySem.W.kitMeta C=true then (fastBuiltinMro T).map (·.contains (.type C)) else none)
theorem ku:(tys.all fun T=>tys.all fun C=>decide (kitB T C=some (isiN T C)))=true:=by decide+kernel
theorem kw {K:PySem.W.Frag}{T C:String} (h:T∈tys) (h':C∈tys):PySem.W.kitOne K (.type T) (.type C)=some (isiN T C):=by
 have q:=of_decide_eq_true (List.all_eq_true.mp (List.all_eq_true.mp ku T h) C h')
 exact q
noncomputable def eIsi (C:String) (m:EM):EM:=fun δ=>(m δ).bind fun d=>if d.isScr=false then some (.bl (isiN (tyN d) C)) else none
section
variable {X:Cx}{ms:List Nat}{k:Kd}{a:Expr}{m:EM}{p p2 pos:Pos}{c:Str}
theorem db (C:String) (ha:PD X ms k a m) (hg:Gl X "isinstance") (hm:X.mg "isinstance"=none) (hcg:Gl X c) (hcm:X.mg c=none) (hcb:bootBuiltins c=some (.type C)) (hC:C∈tys:=by decide) (hn:c≠"__name__":=by decide) (hd:(c==("__debug__":Str))=false:=by decide)
  (he:starEach [a,.Name c p2] X.env=(false,eval a X.env)::starEach [.Name c p2] X.env:=by rfl) (he2:starEach [.Name c p2] X.env=(false,eval (.Name c p2) X.env)::starEach [] X.env:=by rfl) (hpl:(backTo pos (starEach [.Name c p2] X.env)).any (·.1)=false:=by rfl):
  PD X ms .imm (.Call (.Name "isinstance" p) [a,.Name c p2] [] pos) (eIsi C m):=by
 obtain ⟨ta,pa,qa⟩:=ha
 have pc:PE X (.Name c p2) (tC (.ty C)):=ig hcg hcm hcb rfl hn hd
 refine ⟨_,eR jZ hg hm j0 (bp pa (bp pc cw he2) he) (by decide) (by decide) he hpl,fun δ σ H0 H Q d R hm hq=> ?_⟩
 obtain ⟨x,hx,e⟩:=Option.bind_eq_some_iff.mp hm
 split at e
 case isFalse=>cases e
 next hsc=>
 cases e
 refine qa δ σ H0 H _ x R hx fun v H1 s1 g1=> ?_
 exact ⟨v,C,_,_,rfl,g1.bor.ty hsc,kw (kt x) hC,hq _ H1 s1 (RepF.bl _)⟩
end
section
variable {X:Cx}
theorem fP: ∀{bs:List Bool}{us:List Value},Vals (bs.map V.bl) us->us=bs.map Value.bool
 |[],us,r=>by cases r;rfl
 |b::bs,us,r=>by
  cases r with
  |cons r1 r2=>
   have e:_=Value.bool b:=r1
   rw [e,fP r2]
   all_goals rfl
theorem kx (bs:List Bool):(List.range bs.length).all (fun i=>bs.getD i true)=bs.all id:=by
 have e:(List.range bs.length).map (fun i=>bs.getD i true)=bs:=by
  apply List.ext_getElem
  ·simp
  ·intro i h1 h2
   simp [List.getD,h2]
 conv=>rhs;rw [<-e]
 rw [List.all_map]
 rfl
theorem PlainL.lt {h:Heap}{a:Addr}{its:Array Value} (p:PlainL h a its):a<h.objs.size:=by
 obtain ⟨o,n,ho,_⟩:=p
 exact Heap.lt_size ho
theorem ky (hc:X.calm=true):aX X (.builtin "all") (fun xs H Q=> ∃(a:Addr) (bs:List Bool),xs=[.ref a]/\H a=some (.lst (bs.map V.bl))/\Q (.bl (bs.all id)) H):=by
 intro pins s σ H xs us Q I r h
 obtain ⟨a,bs,rfl,hq,q⟩:=h
 obtain ⟨u,rfl,ru⟩:=r.one
 cases ru
 obtain ⟨its,rv,pl,hz⟩:=I.list (SqL.of hq)
 have ei:=fP rv
 subst ei
 have hlt:=PlainL.lt pl
 refine call_all_walk (wpAny_pyIter_list pl.isList ?_)
 refine ⟨s.heap.objs.size,_,_,_,_,_,fun i=>bs.getD i true,rfl,Walks.list (A:=X.A.in1) (I.ok.hd hc) s.heap.objs.size a (Nat.ne_of_lt hlt) (bs.map Value.bool).toArray,⟨⟨_,Heap.get?_push_size _ rfl,rfl,rfl⟩,?_⟩,?_,fun h' tk hk=> ?_⟩
 ·obtain ⟨o,n,ho,hcl,hdi,hd⟩:=pl
  exact ⟨o,Heap.get?_push_of_some _ ho,hcl,n,hd⟩
 ·intro i v s' Q' E' hv hQ
  have hv':(bs.map Value.bool)[i]?=some v:=by simpa using hv
  rw [List.getElem?_map] at hv'
  cases e:bs[i]? with
  |none=>rw [e] at hv';cases hv'
  |some b=>
   rw [e] at hv'
   have hv'':v=Value.bool b:=(Option.some.inj hv').symm
   subst hv''
   have eb:bs.getD i true=b:=by simp [List.getD,e]
   have hQ:Q' (bs.getD i true) s':=hQ
   rw [eb] at hQ
   exact wpAny_truthy_bool hQ
 ·have es:(bs.map Value.bool).toArray.size=bs.length:=by simp
  rw [es,kx]
  refine ⟨.bl (bs.all id),H,I.kept (h':=h') (t':=tk) (fun b o e=>hk b o (fun z=> ?_) (Heap.get?_push_of_some _ e)),rfl,q⟩
  have z':b=s.heap.objs.size:=by simpa using z
  rw [z'] at e
  exact absurd (Heap.lt_size e) (Nat.lt_irrefl _)
end
noncomputable def bT:List Dv->Option (List Bool)
 |[]=>some []
 | .bl b::r=>(bT r).map (b:: ·)
 |_::_=>none
theorem fQ: ∀{ds:List Dv}{bs:List Bool},bT ds=some bs->ds=bs.map Dv.bl
 |[],_,h=>by cases h;rfl
 |d::r,bs,h=>by
  cases d with
  |bl b=>
   obtain ⟨bs',h',rfl⟩:=Option.map_eq_some_iff.mp h
   rw [fQ h']
   all_goals rfl
  |_=>cases h
noncomputable def fAll:List Dv->Option Dv
 |[.lst ds]=>(bT ds).map fun bs=> .bl (bs.all id)
 |_=>none
theorem kz:bC KF (fun xs H Q=> ∃(a:Addr) (bs:List Bool),xs=[.ref a]/\H a=some (.lst (bs.map V.bl))/\Q (.bl (bs.all id)) H) .imm fAll:=by
 intro W H vs ds d Q r e hq
 cases r with
 |nil=>cases e
 |cons h r=>
  cases r with
  |cons _ _=>cases h<;>cases e
  |nil=>
   cases h with
   |lst s h q=>
    obtain ⟨bs,hb,rfl⟩:=Option.map_eq_some_iff.mp e
    have:=fQ hb
    subst this
    have:=q.bls
    subst this
    exact ⟨_,bs,rfl,h,hq _ H (fun _ _ z=>z) (RepF.bl _)⟩
   |_=>cases e
noncomputable def cH:List Dv->Option (List Int)
 |[]=>some []
 | .int b::r=>(cH r).map (b:: ·)
 |_::_=>none
theorem fR: ∀(bs:List Int),cH (bs.map Dv.int)=some bs
 |[]=>rfl
 |b::r=>by rw [List.map_cons,cH,fR r];rfl
noncomputable def fSum:List Dv->Option Dv
 |[.scr ns]=>some (.int ns.sum)
 |[.lst ds]=>(cH ds).map fun ns=> .int ns.sum
 |_=>none
noncomputable def fAbs:List Dv->Option Dv
 |[.int i]=>some (.int (if i<0 then-i else i))
 |_=>none
noncomputable def fInt:List Dv->Option Dv
 |[.int i]=>some (.int i)
 |[.bl b]=>some (.int (if b then 1 else 0))
 |_=>none
noncomputable def fStr:List Dv->Option Dv
 |[.int i]=>if i.natAbs<2^1920 then some (.str (toString i)) else none
 |_=>none
theorem kA:bC KF (fun xs H Q=> ∃i:Int,xs=[.int i]/\i.natAbs.log2<1920/\Q (.str (toString i)) H) .imm fStr:=by
 intro W H vs ds d Q r e hq
 cases r with
 |nil=>cases e
 |cons h r=>
  cases r with
  |cons _ _=>cases h<;>cases e
  |nil=>
   cases h with
   |int i=>
    simp only [fStr] at e
    split at e
    ·next hi=>
     cases e
     refine ⟨_,rfl,?_,hq _ H (fun _ _ z=>z) (RepF.str _)⟩
     by_cases h0:i.natAbs=0
     ·rw [h0];decide
     ·exact (Nat.log2_lt h0).mpr hi
    ·cases e
   |_=>cases e
theorem fS {α:Type}: ∀{l:List α}{i:Nat}{x:α},l[i]?=some x->l.set i x=l
 |[],_,_,h=>by simp at h
 |y::l,0,x,h=>by simp at h;subst h;rfl
 |y::l,i+1,x,h=>by rw [List.set_cons_succ,fS (by simpa using h)]
section
variable {X:Cx}{ms:List Nat}{rk k:Kd}{e:Expr}{m:EM}{i:Nat}{x:Str}{np apos cpos pos:Pos}
end
end L2
set_option maxHeartbeats 4000000
namespace L2
open PySem PySem.Spec PyProof.Rows
variable {KF:PySem.W.Frag}{W W':Addr->Prop}
theorem dW:Kd.one≠ .any:=fun z=>nomatch z
theorem az:Kd.imm≠ .any:=fun z=>nomatch z
theorem kB {H:Hp}{a:Addr}{ns:List Int}{m:List Dv->Option Dv}{E:XK} (hO:Only H) (hS:SqL KF H a (ns.map V.int)) (h:m [.scr ns]=some (.bl true)):spD KF .imm m [.ref a] H (fun v _=>v= .bl true) E:=by
 refine ⟨[.scr ns],_,.cons (.scr ?_) .nil,h,fun v H' s g=> ?_⟩
 ·rcases hS with (hS|⟨o,hS⟩)|hS
  ·rcases hO a with e|⟨o,xs,e⟩
   ·rw [hS] at e;cases e
   ·rw [hS] at e;cases e
  ·exact .inl ⟨o,hS⟩
  ·exact .inr hS
 ·cases g;rfl
noncomputable def opB (f:Dv->Dv->Option Dv):Option Dv->Option Dv->Option Dv
 |some x,some y=>f x y
 |_,_=>none
noncomputable def unB (f:Dv->Option Dv):Option Dv->Option Dv
 |some x=>f x
 |_=>none
noncomputable def immB:Option Dv->Option Dv
 |some x=>if x.imm=true then some x else none
 |_=>none
noncomputable def andB (a:Option Dv) (b:EM) (δ:Dt):Option Dv:=match a with
 |some (.bl true)=>b δ
 |some (.bl false)=>some (.bl false)
 |_=>none
noncomputable def orB (a:Option Dv) (b:EM) (δ:Dt):Option Dv:=match a with
 |some (.bl true)=>some (.bl true)
 |some (.bl false)=>b δ
 |_=>none
noncomputable def ifB {α:Type} (c:Option Bool) (a b:Dt->Option α) (δ:Dt):Option α:=match c with
 |some true=>a δ
 |some false=>b δ
 |none=>none
noncomputable def tofB:Option Dv->Option Bool
 |some (.bl b)=>some b
 |_=>none
noncomputable def de (c:Option Bool) (b:Dt->Option Bool) (δ:Dt):Option Bool:=match c with
 |some true=>b δ
 |some false=>some false
 |none=>none
noncomputable def torB (c:Option Bool) (b:Dt->Option Bool) (δ:Dt):Option Bool:=match c with
 |some true=>some true
 |some false=>b δ
 |none=>none
noncomputable def fT:Option Bool->Option Bool
 |some b=>some (!b)
 |none=>none
noncomputable def fU:Option Dv->Option (List Dv)->Option (List Dv)
 |some x,some xs=>some (x::xs)
 |_,_=>none
noncomputable def tupB:Option (List Dv)->Option Dv
 |some xs=>if xs.length<=lim then some (.tup xs) else none
 |none=>none
noncomputable def lstB:Option (List Dv)->Option Dv
 |some xs=>if xs.length<=lim then some (.lst xs) else none
 |none=>none
noncomputable def fV:Option (List Dv)->Option Dv
 |some xs=>if xs.length<=lim/\imms xs=true then some (.lst xs) else none
 |none=>none
noncomputable def fW (f:List Dv->Option Dv):Option (List Dv)->Option Dv
 |some xs=>f xs
 |none=>none
noncomputable def slB:Option Dv->Option (Option Int)->Option (Option Int)->Option Dv
 |some (.lst ds),some l,some h=>if imms (cutD ds l h)=true then some (.lst (cutD ds l h)) else none
 |some (.scr ns),some l,some h=>some (.lst (cutD (ns.map Dv.int) l h))
 |_,_,_=>none
noncomputable def fX:Option Dv->Option (Option Int)
 |some (.int i)=>some (some i)
 |_=>none
noncomputable def seqB (a:Option Fl) (b:SM):Option Fl:=match a with
 |some (.nx δ)=>b δ
 |some r=>some r
 |none=>none
noncomputable def setB (i:Nat) (a:Option Dv) (δ:Dt):Option Fl:=match a with
 |some d=>some (.nx (δ.set i (some d)))
 |none=>none
noncomputable def retB:Option Dv->Option Fl
 |some d=>some (.rt d)
 |none=>none
noncomputable def fY (a:Option Dv) (δ:Dt):Option Fl:=match a with
 |some _=>some (.nx δ)
 |none=>none
noncomputable def forB (a:Option (List Dv)) (g:Dv->Dt->Option Dt) (b:SM) (δ:Dt):Option Fl:=match a with
 |some ds=>loopM g b ds δ
 |none=>none
noncomputable def fZ (a:Option (List Dv)) (g:Dv->Dt->Option Dt) (c:Dt->Option Bool) (el:EM) (δ:Dt):Option Dv:=match a with
 |some ds=>(aC g c el δ ds).map .lst
 |none=>none
noncomputable def appB (i:Nat) (a x:Option Dv) (δ:Dt):Option Fl:=match a,x with
 |some d,some (.lst ds)=>if ds.length<lim/\d.imm=true then some (.nx (δ.set i (some (.lst (ds++[d]))))) else none
 |_,_=>none
noncomputable def endB:Option Fl->Option Dv
 |some (.rt d)=>some d
 |_=>none
theorem df {f:Dv->Dv->Option Dv}{a b:EM}{δ:Dt}:eOp f a b δ=opB f (a δ) (b δ):=by unfold eOp;cases a δ<;>cases b δ<;>rfl
theorem kC {f:Dv->Option Dv}{a:EM}{δ:Dt}:eUn f a δ=unB f (a δ):=by unfold eUn;cases a δ<;>rfl
theorem kD {a:EM}{δ:Dt}:eImm a δ=immB (a δ):=by unfold eImm;cases a δ<;>rfl
theorem kE {a b:EM}{δ:Dt}:eAnd a b δ=andB (a δ) b δ:=by
 unfold eAnd andB
 cases a δ with
 |none=>rfl
 |some x=>cases x with
  |bl b=>cases b<;>rfl
  |_=>rfl
theorem kF {a b:EM}{δ:Dt}:eOr a b δ=orB (a δ) b δ:=by
 unfold eOr orB
 cases a δ with
 |none=>rfl
 |some x=>cases x with
  |bl b=>cases b<;>rfl
  |_=>rfl
theorem kG {c:Dt->Option Bool}{a b:EM}{δ:Dt}:eIf c a b δ=ifB (c δ) a b δ:=by
 unfold eIf ifB
 cases c δ with
 |none=>rfl
 |some x=>cases x<;>rfl
theorem kH {c:Dt->Option Bool}{a b:SM}{δ:Dt}:sIf c a b δ=ifB (c δ) a b δ:=by
 unfold sIf ifB
 cases c δ with
 |none=>rfl
 |some x=>cases x<;>rfl
theorem kI {a:EM}{δ:Dt}:tOf a δ=tofB (a δ):=by
 unfold tOf tofB fu
 cases a δ with
 |none=>rfl
 |some x=>cases x<;>rfl
theorem kJ {a b:Dt->Option Bool}{δ:Dt}:tand a b δ=de (a δ) b δ:=by
 unfold tand de
 cases a δ with
 |none=>rfl
 |some x=>cases x<;>rfl
theorem kK {a b:Dt->Option Bool}{δ:Dt}:tor a b δ=torB (a δ) b δ:=by
 unfold tor torB
 cases a δ with
 |none=>rfl
 |some x=>cases x<;>rfl
theorem kL {a:Dt->Option Bool}{δ:Dt}:tnot a δ=fT (a δ):=by unfold tnot;cases a δ<;>rfl
theorem kM {δ:Dt}:tyes δ=some true:=rfl
theorem kN {δ:Dt}:aNil δ=some []:=rfl
theorem kO {a:EM}{r:Dt->Option (List Dv)}{δ:Dt}:ad a r δ=fU (a δ) (r δ):=by unfold ad;cases a δ<;>cases r δ<;>rfl
theorem kP {a:Dt->Option (List Dv)}{δ:Dt}:eTup a δ=tupB (a δ):=by unfold eTup;cases a δ<;>rfl
theorem kQ {a:Dt->Option (List Dv)}{δ:Dt}:eLst a δ=lstB (a δ):=by unfold eLst;cases a δ<;>rfl
theorem kR {a:Dt->Option (List Dv)}{δ:Dt}:bw a δ=fV (a δ):=by unfold bw;cases a δ<;>rfl
theorem kS {f:List Dv->Option Dv}{a:Dt->Option (List Dv)}{δ:Dt}:ak f a δ=fW f (a δ):=by unfold ak;cases a δ<;>rfl
theorem kT {m:EM}{lo hi:Dt->Option (Option Int)}{δ:Dt}:eSl m lo hi δ=slB (m δ) (lo δ) (hi δ):=by
 unfold eSl
 cases m δ with
 |none=>rfl
 |some x=>cases lo δ<;>cases hi δ<;>cases x<;>rfl
theorem kU {δ:Dt}:cY δ=some none:=rfl
theorem kW {m:EM}{δ:Dt}:cD m δ=fX (m δ):=by
 unfold cD
 cases m δ with
 |none=>rfl
 |some x=>cases x<;>rfl
theorem kX {a b:SM}{δ:Dt}:sSeq a b δ=seqB (a δ) b:=by
 unfold sSeq
 cases a δ with
 |none=>rfl
 |some x=>cases x<;>rfl
theorem kY {i:Nat}{m:EM}{δ:Dt}:sSet i m δ=setB i (m δ) δ:=by unfold sSet;cases m δ<;>rfl
theorem kZ {m:EM}{δ:Dt}:sRet m δ=retB (m δ):=by unfold sRet;cases m δ<;>rfl
theorem la {m:EM}{δ:Dt}:fL m δ=fY (m δ) δ:=by unfold fL;cases m δ<;>rfl
theorem lb {δ:Dt}:aL δ=some (.nx δ):=rfl
theorem lc {it:Dt->Option (List Dv)}{g:Dv->Dt->Option Dt}{b:SM}{δ:Dt}:sFor it g b δ=forB (it δ) g b δ:=by unfold sFor;cases it δ<;>rfl
theorem ld {ρ:List (Option Nat)}{it:Dt->Option (List Dv)}{g:Dv->Dt->Option Dt}{c:Dt->Option Bool}{el:EM}{δ:Dt}:bF ρ it g c el δ=fZ (it δ) g c el (aD ρ δ):=by unfold bF;cases it δ<;>rfl
theorem lf {i:Nat}{m:EM}{δ:Dt}:sApp i m δ=appB i (m δ) (eVar i δ) δ:=by
 unfold sApp
 cases m δ with
 |none=>rfl
 |some d=>
  cases eVar i δ with
  |none=>rfl
  |some x=>cases x<;>rfl
theorem eC_b {d:Dv}{δ:Dt}:eC d δ=some d:=rfl
theorem lg {n np:Nat}{body:SM}{ds:List Dv} (h:ds.length=np):ay n np body ds=endB (body (aS n ds)):=by
 unfold ay
 rw [if_pos h]
 cases body (aS n ds) with
 |none=>rfl
 |some x=>cases x<;>rfl
theorem lh {d:Option Dv}{δ:Dt}:eVar 0 (d::δ)=d:=rfl
theorem li {i:Nat}{d:Option Dv}{δ:Dt}:eVar (i+1) (d::δ)=eVar i δ:=rfl
theorem lj {f:Dv->Dv->Option Dv}{x y:Dv}:opB f (some x) (some y)=f x y:=rfl
theorem ll {f:Dv->Option Dv}{x:Dv}:unB f (some x)=f x:=rfl
theorem lm {x:Dv} (h:x.imm=true):immB (some x)=some x:=by show (if _ then _ else _)=_;rw [if_pos h]
theorem ln {b:EM}{δ:Dt}:andB (some (.bl true)) b δ=b δ:=rfl
theorem lq {b:EM}{δ:Dt}:andB (some (.bl false)) b δ=some (.bl false):=rfl
theorem lr {b:EM}{δ:Dt}:orB (some (.bl true)) b δ=some (.bl true):=rfl
theorem ls {b:EM}{δ:Dt}:orB (some (.bl false)) b δ=b δ:=rfl
theorem lu {α:Type}{a b:Dt->Option α}{δ:Dt}:ifB (some true) a b δ=a δ:=rfl
theorem lv {α:Type}{a b:Dt->Option α}{δ:Dt}:ifB (some false) a b δ=b δ:=rfl
theorem lw {b:Bool}:tofB (some (.bl b))=some b:=rfl
theorem lx {b:Dt->Option Bool}{δ:Dt}:de (some true) b δ=b δ:=rfl
theorem ly {b:Dt->Option Bool}{δ:Dt}:de (some false) b δ=some false:=rfl
theorem lA {b:Dt->Option Bool}{δ:Dt}:torB (some true) b δ=some true:=rfl
theorem lB {b:Dt->Option Bool}{δ:Dt}:torB (some false) b δ=b δ:=rfl
theorem lC {b:Bool}:fT (some b)=some (!b):=rfl
theorem lD {x:Dv}{xs:List Dv}:fU (some x) (some xs)=some (x::xs):=rfl
theorem lE {xs:List Dv} (h:xs.length<=lim):tupB (some xs)=some (.tup xs):=by show (if _ then _ else _)=_;rw [if_pos h]
theorem lF {xs:List Dv} (h:xs.length<=lim):lstB (some xs)=some (.lst xs):=by show (if _ then _ else _)=_;rw [if_pos h]
theorem lG {xs:List Dv} (h:xs.length<=lim) (h':imms xs=true):fV (some xs)=some (.lst xs):=by show (if xs.length<=lim/\imms xs=true then _ else _)=_;rw [if_pos ⟨h,h'⟩]
theorem lH {f:List Dv->Option Dv}{xs:List Dv}:fW f (some xs)=f xs:=rfl
theorem lI {i:Int}:fX (some (.int i))=some (some i):=rfl
theorem lJ {ns:List Int}{l h:Option Int}:slB (some (.scr ns)) (some l) (some h)=some (.lst (cutD (ns.map Dv.int) l h)):=rfl
theorem lK {ds:List Dv}{l h:Option Int} (hi:imms (cutD ds l h)=true):slB (some (.lst ds)) (some l) (some h)=some (.lst (cutD ds l h)):=by
 show (if imms (cutD ds l h)=true then _ else _)=_
 rw [if_pos hi]
theorem lL {δ:Dt}{b:SM}:seqB (some (.nx δ)) b=b δ:=rfl
theorem lM {d:Dv}{b:SM}:seqB (some (.rt d)) b=some (.rt d):=rfl
theorem lN {i:Nat}{d:Dv}{δ:Dt}:setB i (some d) δ=some (.nx (δ.set i (some d))):=rfl
theorem lO {d:Dv}:retB (some d)=some (.rt d):=rfl
theorem lP {d:Dv}{δ:Dt}:fY (some d) δ=some (.nx δ):=rfl
theorem lQ {ds:List Dv}{g:Dv->Dt->Option Dt}{b:SM}{δ:Dt}:forB (some ds) g b δ=loopM g b ds δ:=rfl
theorem lR {ds:List Dv}{g:Dv->Dt->Option Dt}{c:Dt->Option Bool}{el:EM}{δ:Dt}:fZ (some ds) g c el δ=(aC g c el δ ds).map .lst:=rfl
theorem lS {d:Dv}:endB (some (.rt d))=some d:=rfl
theorem lT {i:Nat}{d:Dv}{ds:List Dv}{δ:Dt} (h:ds.length<lim) (h':d.imm=true):appB i (some d) (some (.lst ds)) δ=some (.nx (δ.set i (some (.lst (ds++[d]))))):=by
 show (if ds.length<lim/\d.imm=true then _ else _)=_
 rw [if_pos ⟨h,h'⟩]
theorem gN_b {i:Nat}{d:Dv}{δ:Dt}:gN i d δ=some (δ.set i (some d)):=rfl
theorem lU {i j:Int}:dAdd (.int i) (.int j)=some (.int (i+j)):=rfl
theorem lV {i j:Int}:dSub (.int i) (.int j)=some (.int (i-j)):=rfl
theorem lW {i j:Int} (h:0<j):dMod (.int i) (.int j)=some (.int (i%j)):=by show (if 0<j then _ else _)=_;rw [if_pos h]
theorem lX {i j:Int} (h:0<j/\j<1073741824):dDiv (.int i) (.int j)=some (.int (i/j)):=by show (if 0<j/\j<1073741824 then _ else _)=_;rw [if_pos h]
theorem bH {i j:Int} (h:aO i j=true):dMul (.int i) (.int j)=some (.int (i*j)):=by show (if aO i j=true then _ else _)=_;rw [if_pos h]
theorem lY {i j:Int}:dLt (.int i) (.int j)=some (.bl (decide (i<j))):=rfl
theorem lZ {i j:Int}:dLe (.int i) (.int j)=some (.bl (decide (i<=j))):=rfl
theorem l0 {i j:Int}:dGt (.int i) (.int j)=some (.bl (decide (j<i))):=rfl
theorem md {i j:Int}:dGe (.int i) (.int j)=some (.bl (decide (j<=i))):=rfl
theorem mf {i:Int}:dNeg (.int i)=some (.int (-i)):=rfl
theorem mm {b:Bool}:dNot (.bl b)=some (.bl (!b)):=rfl
theorem ga {i j:Int}:dEq (.int i) (.int j)=some (.bl (decide (i=j))):=by
 have h:eqOk (.int i) (.int j)=true:=by
  show (true&&true&&decide (min 1 1<=60))=true
  rfl
 show (if eqOk _ _=true then _ else _)=_
 rw [if_pos h]
 rfl
theorem gb {i j:Int}:dNe (.int i) (.int j)=some (.bl (!decide (i=j))):=by
 have h:eqOk (.int i) (.int j)=true:=by
  show (true&&true&&decide (min 1 1<=60))=true
  rfl
 show (if eqOk _ _=true then _ else _)=_
 rw [if_pos h]
 rfl
theorem mn {i j:Bool}:dEq (.bl i) (.bl j)=some (.bl (i==j)):=by
 have h:eqOk (.bl i) (.bl j)=true:=by
  show (true&&true&&decide (min 1 1<=60))=true
  rfl
 show (if eqOk _ _=true then _ else _)=_
 rw [if_pos h]
 rfl
theorem mq {xs:List Dv}{i:Int}:dIx (.lst xs) (.int i)=atI xs i:=rfl
theorem mr {xs:List Dv}{i:Int}:dIx (.tup xs) (.int i)=atI xs i:=rfl
theorem mt {xs:List Int}{i:Int}:dIx (.scr xs) (.int i)=(atI xs i).map .int:=rfl
theorem gc {α:Type}{xs:List α}{i:Int}{x:α} (h0:0<=i) (h:xs[i.toNat]?=some x):atI xs i=some x:=by
 have e:((i.toNat:Nat):Int)=i:=Int.toNat_of_nonneg h0
 have:=jd h
 rwa [e] at this
theorem gd {zs:List Int}{i:Int} (h0:0<=i) (h1:i<(zs.length:Int)):atI (zs.map Dv.int) i=some (.int (zs.getD i.toNat 0)):=by
 refine gc h0 ?_
 have hlt:i.toNat<zs.length:=by omega
 rw [List.getElem?_map,List.getElem?_eq_getElem hlt]
 simp [List.getD,hlt]
theorem dg: ∀(zs:List Int),imms (zs.map Dv.int)=true
 |[]=>rfl
 |z::r=>by rw [List.map_cons,imms,dg r];rfl
theorem mw:lim=100000:=(rfl)
theorem lenc {α:Type}{a:α}{l:List α}:(a::l).length=l.length+1:=(rfl)
theorem lenn {α:Type}:([]:List α).length=0:=(rfl)
theorem mx {i:Int}:Dv.imm (.int i)=true:=(rfl)
theorem my {i:Bool}:Dv.imm (.bl i)=true:=(rfl)
theorem mz {i:Str}:Dv.imm (.str i)=true:=(rfl)
theorem mB:Dv.imm .non=true:=(rfl)
theorem mC {ds:List Dv}:Dv.imm (.tup ds)=imms ds:=(rfl)
theorem mD:imms []=true:=(rfl)
theorem mE {d:Dv}{ds:List Dv}:imms (d::ds)=(d.imm&&imms ds):=(rfl)
theorem dX: ∀{a b:List Dv},imms (a++b)=(imms a&&imms b)
 |[],b=>rfl
 |x::a,b=>by rw [List.cons_append,imms,imms,dX,Bool.and_assoc]
theorem mF {ds:List Dv}:fLen [.lst ds]=some (.int ds.length):=rfl
theorem mG {ds:List Dv}:fLen [.tup ds]=some (.int ds.length):=rfl
theorem mH {ds:List Int}:fLen [.scr ds]=some (.int ds.length):=rfl
theorem mI {ds:List Dv} (h:imms ds=true):bf [.lst ds]=some (.tup ds):=by show (if _ then _ else _)=_;rw [if_pos h]
theorem mJ {ds:List Dv} (h:imms ds=true):bf [.tup ds]=some (.tup ds):=by show (if _ then _ else _)=_;rw [if_pos h]
theorem mK {ds:List Dv} (h:imms ds=true):aQ [.lst ds]=some (.lst ds):=by show (if _ then _ else _)=_;rw [if_pos h]
theorem mL {ds:List Dv} (h:imms ds=true):aQ [.tup ds]=some (.lst ds):=by show (if _ then _ else _)=_;rw [if_pos h]
theorem mM {ds:List Int}:aQ [.scr ds]=some (.lst (ds.map .int)):=rfl
theorem ge {a b:List Dv} (h:a.length+b.length<=lim) (h':imms (a++b)=true):bD (.lst a) (.lst b)=some (.lst (a++b)):=by
 unfold bD
 show (Option.bind (if a.length+b.length<=lim then _ else _) _)=_
 rw [if_pos h]
 show (if imms (a++b)=true then _ else _)=_
 rw [if_pos h']
theorem mN {C:String}{m:EM}{δ:Dt}:eIsi C m δ=(match m δ with|some d=>if d.isScr=false then some (.bl (isiN (tyN d) C)) else none|none=>none):=by unfold eIsi;cases m δ<;>rfl
theorem gf {m:EM}{δ:Dt}{j:Int} (h:m δ=some (.int j)) (hl:0<=j/\j<=100000):iR1 m δ=some (aB 0 j.toNat):=by
 unfold iR1;rw [h]
 show (if _ then _ else _)=_
 rw [if_pos]
 have:(lim:Int)=100000:=rfl
 omega
theorem mO {α:Type} (xs:List α) (k:Nat) (h:k<=xs.length):cutD xs (some (k:Int)) none=xs.drop k:=by
 unfold cutD
 rw [HT.eU,HT.eT,Nat.min_eq_left h]
 exact List.take_of_length_le (by rw [List.length_drop];omega)
theorem mP {α:Type} (xs:List α) (k:Nat):cutD xs none (some (k:Int))=xs.take k:=by
 unfold cutD
 rw [HT.eT,HT.eU,List.drop_zero,Nat.sub_zero]
 by_cases h:k<=xs.length
 ·rw [Nat.min_eq_left h]
 ·rw [Nat.min_eq_right (by omega),List.take_of_length_le (Nat.le_refl _),List.take_of_length_le (by omega)]
theorem gg {α β:Type} (f:α->β) (xs:List α) (l h:Option Int):cutD (xs.map f) l h=(cutD xs l h).map f:=by
 unfold cutD
 rw [List.length_map,<-List.map_drop,<-List.map_take]
theorem dY {i j:Int} (h: -(2^63)<=i/\i<=2^63):aO i j=true:=by
 unfold aO
 rw [decide_eq_true (show i.natAbs<2^64 by omega)]
 rfl
theorem gh {i j:Int} (h: -(2^63)<=j/\j<=2^63):aO i j=true:=by
 unfold aO
 rw [decide_eq_true (show j.natAbs<2^64 by omega),Bool.or_true]
 rfl
theorem dZ {g:Dv->Dt->Option Dt}{body:SM}: ∀{ds:List Dv}{δ:Dt} (I:Nat->Dt->Prop),I 0 δ->(∀i d δ,ds[i]?=some d->I i δ-> ∃δ1 δ2,g d δ=some δ1/\body δ1=some (.nx δ2)/\I (i+1) δ2)-> ∃δ',loopM g body ds δ=some (.nx δ')/\I ds.length δ'
 |[],δ,I,h0,_=>⟨δ,rfl,h0⟩
 |d::ds,δ,I,h0,st=>by
  obtain ⟨δ1,δ2,h1,h2,h3⟩:=st 0 d δ rfl h0
  obtain ⟨δ',e,h⟩:=dZ (ds:=ds) (δ:=δ2) (fun i=>I (i+1)) h3 fun i d δ hd hi=>st (i+1) d δ (by simpa using hd) hi
  refine ⟨δ',?_,h⟩
  rw [loopM,h1]
  show Option.bind (body δ1) _=_
  rw [h2]
  exact e
noncomputable def celM (g:Dv->Dt->Option Dt) (c:Dt->Option Bool) (el:EM) (δ:Dt) (d:Dv):Option (Option Dv):=match g d δ with
 |none=>none
 |some δ1=>match c δ1 with
  |none=>none
  |some false=>some none
  |some true=>match el δ1 with
   |none=>none
   |some x=>if x.imm=true then some (some x) else none
theorem gi {α:Type}{g:Dv->Dt->Option Dt}{c:Dt->Option Bool}{el:EM}{δ:Dt} (enc:α->Dv) (f:α->Option Dv): ∀(xs:List α),(∀x,x∈xs->celM g c el δ (enc x)=some (f x))->aC g c el δ (xs.map enc)=some (xs.filterMap f)
 |[],_=>rfl
 |x::xs,h=>by
  have h0:=h x List.mem_cons_self
  have ih:=gi enc f xs fun y hy=>h y (List.mem_cons_of_mem _ hy)
  rw [List.map_cons,aC,List.filterMap_cons]
  unfold celM at h0
  cases e1:g (enc x) δ with
  |none=>rw [e1] at h0;cases h0
  |some δ1=>
   rw [e1] at h0
   simp only at h0
   rw [Option.bind_some]
   cases e2:c δ1 with
   |none=>rw [e2] at h0;cases h0
   |some b=>
    rw [e2] at h0
    rw [Option.bind_some]
    cases b with
    |false=>
     have e4:none=f x:=Option.some.inj h0
     rw [if_neg Bool.false_ne_true,ih,<-e4]
    |true=>
     simp only at h0
     rw [if_pos rfl]
     cases e3:el δ1 with
     |none=>rw [e3] at h0;cases h0
     |some y=>
      rw [e3] at h0
      simp only at h0
      rw [Option.bind_some]
      split at h0
      ·next hi=>
       have e4:=Option.some.inj h0
       rw [if_pos hi,ih,<-e4]
       rfl
      ·cases h0
noncomputable def cel3:Option Dv->Option (Option Dv)
 |some x=>if x.imm=true then some (some x) else none
 |none=>none
noncomputable def cel2 (b:Option Bool) (el:EM) (δ:Dt):Option (Option Dv):=match b with
 |some true=>cel3 (el δ)
 |some false=>some none
 |none=>none
noncomputable def celB (o:Option Dt) (c:Dt->Option Bool) (el:EM):Option (Option Dv):=match o with
 |some δ=>cel2 (c δ) el δ
 |none=>none
theorem gj {g:Dv->Dt->Option Dt}{c:Dt->Option Bool}{el:EM}{δ:Dt}{d:Dv}:celM g c el δ d=celB (g d δ) c el:=by
 unfold celM celB cel2 cel3
 cases g d δ with
 |none=>rfl
 |some δ1=>
  simp only
  cases c δ1 with
  |none=>rfl
  |some b=>cases b<;>first|rfl|(cases el δ1<;>rfl)
theorem mQ {δ:Dt}{c:Dt->Option Bool}{el:EM}:celB (some δ) c el=cel2 (c δ) el δ:=rfl
theorem mR {δ:Dt}{el:EM}:cel2 (some true) el δ=cel3 (el δ):=rfl
theorem mS {δ:Dt}{el:EM}:cel2 (some false) el δ=some none:=rfl
theorem mT {x:Dv} (h:x.imm=true):cel3 (some x)=some (some x):=by show (if _ then _ else _)=_;rw [if_pos h]
theorem gk {lo:Int}{n:Nat}{d:Dv} (h:d∈aB lo n): ∃i:Nat,i<n/\d= .int (lo+(i:Int)):=by
 unfold aB at h
 obtain ⟨i,hi,e⟩:=List.mem_map.mp h
 exact ⟨i,List.mem_range.mp hi,e.symm⟩
theorem d0 {i j:Int} (h:0<=j/\j<=1000/\i.natAbs<2^2048):dPow (.int i) (.int j)=some (.int (i^j.toNat)):=by show (if 0<=j/\j<=1000/\i.natAbs<2^2048 then _ else _)=_;rw [if_pos h]
theorem d3 {α:Type}{xs:List α}{i:Int} (h0:0<=i) (h1:i<(xs.length:Int)): ∃x,x∈xs/\atI xs i=some x:=by
 have hlt:i.toNat<xs.length:=by omega
 exact ⟨xs[i.toNat],List.getElem_mem hlt,gc h0 (by simp [hlt])⟩
noncomputable def lp2 (r:Option Fl) (g:Dv->Dt->Option Dt) (body:SM) (ds:List Dv):Option Fl:=match r with
 |some (.nx δ)=>loopM g body ds δ
 |some (.ct δ)=>loopM g body ds δ
 |some (.bk δ)=>some (.nx δ)
 |some (.rt d)=>some (.rt d)
 |none=>none
noncomputable def lp1 (o:Option Dt) (g:Dv->Dt->Option Dt) (body:SM) (ds:List Dv):Option Fl:=match o with
 |some δ=>lp2 (body δ) g body ds
 |none=>none
theorem mU {g:Dv->Dt->Option Dt}{body:SM}{d:Dv}{ds:List Dv}{δ:Dt}:loopM g body (d::ds) δ=lp1 (g d δ) g body ds:=by
 rw [loopM]
 cases g d δ with
 |none=>rfl
 |some δ1=>
  show Option.bind (body δ1) _=lp2 (body δ1) g body ds
  unfold lp2
  cases body δ1 with
  |none=>rfl
  |some r=>cases r<;>rfl
theorem mV {g:Dv->Dt->Option Dt}{body:SM}{δ:Dt}:loopM g body [] δ=some (.nx δ):=rfl
theorem mW {g:Dv->Dt->Option Dt}{body:SM}{ds:List Dv}{δ:Dt}:lp1 (some δ) g body ds=lp2 (body δ) g body ds:=rfl
theorem mX {g:Dv->Dt->Option Dt}{body:SM}{ds:List Dv}{δ:Dt}:lp2 (some (.nx δ)) g body ds=loopM g body ds δ:=rfl
theorem mY {g:Dv->Dt->Option Dt}{body:SM}{ds:List Dv}{δ:Dt}:lp2 (some (.ct δ)) g body ds=loopM g body ds δ:=rfl
theorem mZ {g:Dv->Dt->Option Dt}{body:SM}{ds:List Dv}{δ:Dt}:lp2 (some (.bk δ)) g body ds=some (.nx δ):=rfl
theorem m4 {g:Dv->Dt->Option Dt}{body:SM}{ds:List Dv}{d:Dv}:lp2 (some (.rt d)) g body ds=some (.rt d):=rfl
theorem gT_b {n:Nat}{g:List Dv->Dt->Option Dt}{ds:List Dv}{δ:Dt} (h:ds.length=n):gT n g (.tup ds) δ=g ds δ:=by
 show (if ds.length=n then _ else _)=_
 rw [if_pos h]
noncomputable def gcB (o:Option Dt) (r:List Dv->Dt->Option Dt) (ds:List Dv):Option Dt:=match o with
 |some δ=>r ds δ
 |none=>none
theorem gC_b {g:Dv->Dt->Option Dt}{r:List Dv->Dt->Option Dt}{d:Dv}{ds:List Dv}{δ:Dt}:gC g r (d::ds) δ=gcB (g d δ) r ds:=by
 show Option.bind (g d δ) (r ds)=_
 cases g d δ<;>rfl
theorem m5 {r:List Dv->Dt->Option Dt}{ds:List Dv}{δ:Dt}:gcB (some δ) r ds=r ds δ:=rfl
theorem gZ_b {δ:Dt}:gZ [] δ=some δ:=rfl
noncomputable def ilB:Option Dv->Option (List Dv)
 |some (.lst ds)=>if ds.length<=lim then some ds else none
 |some (.scr ns)=>if ns.length<=lim then some (ns.map .int) else none
 |_=>none
noncomputable def iliB:Option Dv->Option (List Dv)
 |some (.lst ds)=>if ds.length<=lim/\imms ds=true then some ds else none
 |_=>none
noncomputable def itB:Option Dv->Option (List Dv)
 |some (.tup ds)=>if ds.length<=lim then some ds else none
 |_=>none
noncomputable def itiB:Option Dv->Option (List Dv)
 |some (.tup ds)=>if ds.length<=lim/\imms ds=true then some ds else none
 |_=>none
theorem iL_b {m:EM}{δ:Dt}:iL m δ=ilB (m δ):=by
 unfold iL
 cases m δ with
 |none=>rfl
 |some x=>cases x<;>rfl
theorem m6 {m:EM}{δ:Dt}:iLI m δ=iliB (m δ):=by
 unfold iLI
 cases m δ with
 |none=>rfl
 |some x=>cases x<;>rfl
theorem iT_b {m:EM}{δ:Dt}:iT m δ=itB (m δ):=by
 unfold iT
 cases m δ with
 |none=>rfl
 |some x=>cases x<;>rfl
theorem m7 {m:EM}{δ:Dt}:iTI m δ=itiB (m δ):=by
 unfold iTI
 cases m δ with
 |none=>rfl
 |some x=>cases x<;>rfl
theorem m8 {ds:List Dv} (h:ds.length<=lim):ilB (some (.lst ds))=some ds:=by show (if _ then _ else _)=_;rw [if_pos h]
theorem m9 {ds:List Int} (h:ds.length<=lim):ilB (some (.scr ds))=some (ds.map .int):=by show (if _ then _ else _)=_;rw [if_pos h]
theorem ng {ds:List Dv} (h:ds.length<=lim) (h':imms ds=true):iliB (some (.lst ds))=some ds:=by show (if ds.length<=lim/\imms ds=true then _ else _)=_;rw [if_pos ⟨h,h'⟩]
theorem nh {ds:List Dv} (h:ds.length<=lim):itB (some (.tup ds))=some ds:=by show (if _ then _ else _)=_;rw [if_pos h]
theorem ni {ds:List Dv} (h:ds.length<=lim) (h':imms ds=true):itiB (some (.tup ds))=some ds:=by show (if ds.length<=lim/\imms ds=true then _ else _)=_;rw [if_pos ⟨h,h'⟩]
end L2
set_option maxHeartbeats 4000000
namespace DhSort
open PySem PyProof.Rows
structure Wk where
 lt:Keyed->Keyed->Bool
 irr: ∀p,lt p p=false
 tra: ∀p q r,lt p q=true->lt q r=true->lt p r=true
 neg: ∀p q r,lt p r=true->lt p q=true \/lt q r=true
namespace Wk
variable {W:Wk}{p q r:Keyed}
noncomputable def le (W:Wk) (p q:Keyed):Prop:=W.lt q p=false
theorem oS (a:W.lt p q=true):W.le p q:=by
 unfold le
 cases h:W.lt q p with
 |false=>rfl
 |true=>have:=W.tra _ _ _ a h;rw [W.irr] at this;cases this
end Wk
noncomputable def kAt (xs:Array Keyed) (i:Nat):Keyed:=(xs[i]?).getD (Value.none,Value.none)
noncomputable def gl (W:Wk) (xs:Array Keyed) (lo hi:Nat):Prop:= ∀i j,lo<=i->i<=j->j<hi->W.le (kAt xs i) (kAt xs j)
structure Bs (a₀:Array Keyed) (kd:SortKind) (P:Array (Nat×Nat×Nat)) (st:SortSt):Prop where
 perm:(arrOf st).Perm a₀
 kind:kindOf st=kd
 failed:failedOf st=none
 pend:pendingOf st=P
section
variable {prog:Program}{w:World}{A:Around}{E:Value->Shared->Prop}{s:Shared}{W:Wk}{kd:SortKind}{good:Keyed->Prop}{a₀:Array Keyed}{P:Array (Nat×Nat×Nat)}{st:SortSt}
theorem Bs.set (B:Bs a₀ kd P st) {xs:Array Keyed} (hp:xs.Perm (arrOf st)):Bs a₀ kd P (setArr st xs):=⟨hp.trans B.perm,B.kind,B.failed,B.pend⟩
end
end DhSort
set_option maxHeartbeats 4000000
namespace DhSort
open PySem PyProof.Rows
section
variable {prog:Program}{w:World}{A:Around}{E:Value->Shared->Prop}{s:Shared}{W:Wk}{kd:SortKind}{good:Keyed->Prop}{a₀:Array Keyed}{P:Array (Nat×Nat×Nat)}{st:SortSt}
end
end DhSort
set_option maxHeartbeats 4000000
namespace DhSort
open PySem PyProof.Rows
section
variable {prog:Program}{w:World}{A:Around}{E:Value->Shared->Prop}{s:Shared}{W:Wk}{kd:SortKind}{good:Keyed->Prop}{st:SortSt}
end
end DhSort
set_option maxHeartbeats 4000000
namespace DhSort
open PySem PyProof.Rows
section
variable {W:Wk}{a b out:Array Keyed}{ia ib:Nat}
end
section
variable {prog:Program}{w:World}{A:Around}{E:Value->Shared->Prop}{s:Shared}{W:Wk}{kd:SortKind}{good:Keyed->Prop}{st:SortSt}
end
end DhSort
set_option maxHeartbeats 4000000
namespace DhSort
open PySem PyProof.Rows
section
variable {W:Wk}{a b out:Array Keyed}{na nb:Nat}
end
section
variable {prog:Program}{w:World}{A:Around}{E:Value->Shared->Prop}{s:Shared}{W:Wk}{kd:SortKind}{good:Keyed->Prop}{st:SortSt}
end
end DhSort
set_option maxHeartbeats 4000000
namespace DhSort
open PySem PyProof.Rows
noncomputable abbrev Run:=Nat×Nat×Nat
noncomputable def aT (W:Wk) (xs:Array Keyed):Nat->List Run->Nat->Prop
 |p,[],q=>p=q
 |p,(s,n,_)::r,q=>s=p/\1<=n/\gl W xs p (p+n)/\aT W xs (p+n) r q
section
variable {W:Wk}{xs ys:Array Keyed}
theorem aT.le: ∀{l:List Run}{p q:Nat},aT W xs p l q->p<=q
 |[],p,q,h=>Nat.le_of_eq h
 |(s,n,_)::r,p,q,h=>by
  have:=aT.le h.2.2.2
  omega
theorem aT.len: ∀{l:List Run}{p q:Nat},aT W xs p l q->p+l.length<=q
 |[],p,q,h=>Nat.le_of_eq (show p+0=q from h)
 |(s,n,_)::r,p,q,h=>by
  have:=aT.len h.2.2.2
  have:=h.2.1
  rw [List.length_cons]
  omega
theorem aT.at: ∀{l:List Run}{p q i sa na pw:Nat},aT W xs p l q->l[i]?=some (sa,na,pw)->p<=sa/\1<=na/\sa+na<=q/\gl W xs sa (sa+na)
 |[],p,q,i,sa,na,pw,h,e=>by simp at e
 |(s,m,t)::r,p,q,0,sa,na,pw,h,e=>by
  simp only [List.getElem?_cons_zero,Option.some.injEq,Prod.mk.injEq] at e
  obtain ⟨rfl,rfl,rfl⟩:=e
  obtain ⟨rfl,h1,h2,h3⟩:=h
  exact ⟨Nat.le_refl _,h1,aT.le h3,h2⟩
 |(s,m,t)::r,p,q,i+1,sa,na,pw,h,e=>by
  have q:=aT.at (i:=i) h.2.2.2 (by simpa using e)
  exact ⟨by omega,q.2.1,q.2.2.1,q.2.2.2⟩
end
section
variable {prog:Program}{w:World}{A:Around}{E:Value->Shared->Prop}{s:Shared}{W:Wk}{kd:SortKind}{good:Keyed->Prop}{a₀:Array Keyed}{P:Array Run}{st:SortSt}
end
end DhSort
set_option maxHeartbeats 4000000
namespace DhSort
open PySem PySem.Calls PyProof.Rows PySem.W L2
theorem gm: ∀p:List Int,HT.br p p=false
 |[]=>rfl
 |x::r=>by rw [HT.i6,if_pos rfl];exact gm r
noncomputable def dh (h:Heap) (v:Value) (ns:List Int):Prop:= ∃x ob us n,v= .ref x/\h.get? x=some ob/\ob.cls= .type "tuple"/\ob.data= .seq us n/\IntsAre us.toList ns
theorem dh.keep {h h':Heap}{v:Value}{ns:List Int} (r:dh h v ns) (k: ∀x ob,v= .ref x->h.get? x=some ob->h'.get? x=some ob):dh h' v ns:=by
 obtain ⟨x,ob,us,n,e,g,c,d,i⟩:=r
 exact ⟨x,ob,us,n,e,k x ob e g,c,d,i⟩
section
variable {prog:Program}{w:World}{A:Around}{E:Value->Shared->Prop}{s:Shared}
end
end DhSort
set_option maxHeartbeats 4000000
namespace DhSort
open PySem PySem.Calls PyProof.Rows PySem.W L2
section
variable {prog:Program}{w:World}{A:Around}{E:Value->Shared->Prop}{s:Shared}
end
end DhSort
set_option maxHeartbeats 4000000
namespace DhSort
open PySem PySem.Calls PyProof.Rows PySem.W L2
noncomputable def DEnt (h:Heap) (d:Addr) (es:Array DictEntry) (ep:Nat):Prop:= ∃ob,h.get? d=some ob/\ob.ExactDict/\ob.data= .dict es ep
theorem DEnt.mono {h h':Heap}{d:Addr}{es:Array DictEntry}{ep:Nat} (x:DEnt h d es ep) (k: ∀ob,h.get? d=some ob->h'.get? d=some ob):DEnt h' d es ep:=let ⟨ob,g,r⟩:=x;⟨ob,k ob g,r⟩
theorem DEnt.lt {h:Heap}{d:Addr}{es:Array DictEntry}{ep:Nat} (x:DEnt h d es ep):d<h.objs.size:=let ⟨_,g,_⟩:=x;Heap.lt_size g
section
variable {prog:Program}{w:World}{A:Around}{E:Value->Shared->Prop}{t:Shared}{d z:Addr}{es:Array DictEntry}{ep i:Nat}
end
end DhSort
set_option maxHeartbeats 4000000
namespace L2
open PySem PySem.Spec PyProof.Rows
noncomputable def ins (x:List Int):List (List Int)->List (List Int)
 |[]=>[x]
 |y::r=>if HT.br y x=true then y::ins x r else x::y::r
section
variable {X:Cx}{KF:PySem.W.Frag}{pins:List (Addr×Obj)}{σ:St}{H:Hp}{s:Shared}
noncomputable def bU (ns:List Int):Dv:= .tup (ns.map .int)
end
end L2
set_option maxHeartbeats 4000000
namespace L2
open PySem PySem.Spec PyProof.Rows
variable {KF:PySem.W.Frag}{W W':Addr->Prop}
noncomputable def nj:Dv->Option Key
 | .int i=>some (.inl i)
 | .str x=>some (.inr x)
 |_=>none
noncomputable def dKey:Dv->Option (List Key)
 | .tup ds=>ds.mapM nj
 |_=>none
noncomputable def putD (kvs:List (List Key×Dv)) (k:List Key) (v:Dv):List (List Key×Dv):=
 if (kvs.any fun kv=>decide (kv.1=k))=true then kvs.map (fun kv=>if kv.1=k then (kv.1,v) else kv) else kvs++[(k,v)]
noncomputable def sPut (i:Nat) (mk mv:EM):SM:=fun δ=>(mv δ).bind fun v=>(mk δ).bind fun y=>(eVar i δ).bind fun x=>match x with
 | .dic kvs=>(dKey y).bind fun k=>if kvs.length<lim/\v.imm=true then some (.nx (δ.set i (some (.dic (putD kvs k v))))) else none
 |_=>none
noncomputable def gn (i:Nat):SM:=fun δ=>(eVar i δ).bind fun x=>match x with
 | .lst ds=>some (.nx (δ.set i (some (.lst []))))
 |_=>none
noncomputable def gp (i:Nat):SM:=fun δ=>(eVar i δ).bind fun x=>match x with
 | .lst ds=>some (.nx (δ.set i (some (.lst ds.reverse))))
 |_=>none
section
variable {S:Addr->Prop}{H:Hp}
theorem ag.length: ∀{xs:List (List Key×V)}{ds:List (List Key×Dv)},ag KF S H xs ds->xs.length=ds.length
 |_,_,.nil=>rfl
 |_,_,.cons _ t=>by rw [List.length_cons,List.length_cons,ag.length t]
theorem ag.any: ∀{xs:List (List Key×V)}{ds:List (List Key×Dv)}{k:List Key},ag KF S H xs ds->(xs.any fun kv=>decide (kv.1=k))=ds.any fun kv=>decide (kv.1=k)
 |_,_,_,.nil=>rfl
 |_,_,_,.cons q t=>by rw [List.any_cons,List.any_cons,ag.any t]
theorem ag.rep: ∀{xs:List (List Key×V)}{ds:List (List Key×Dv)}{k:List Key}{v:V}{d:Dv},ag KF S H xs ds->RepF KF S H v d->
  ag KF S H (xs.map fun kv=>if kv.1=k then (kv.1,v) else kv) (ds.map fun kv=>if kv.1=k then (kv.1,d) else kv)
 |_,_,_,_,_,.nil,r=> .nil
 |_,_,k,_,_,.cons (k:=k1) q t,r=>by
  rw [List.map_cons,List.map_cons]
  by_cases e:k1=k
  ·rw [if_pos e,if_pos e];exact .cons r (ag.rep t r)
  ·rw [if_neg e,if_neg e];exact .cons q (ag.rep t r)
end
section
variable {X:Cx}{ms:List Nat}{k k1 k2 k3 rk:Kd}{e a b c:Expr}{m ma mb mc:EM}{pos:Pos}
end
end L2
set_option maxHeartbeats 4000000
namespace L2
open PySem PySem.Spec PyProof.Rows
noncomputable def putB (i:Nat) (v y x:Option Dv) (δ:Dt):Option Fl:=match v,y,x with
 |some v,some y,some (.dic kvs)=>(match dKey y with
  |some k=>if kvs.length<lim/\v.imm=true then some (.nx (δ.set i (some (.dic (putD kvs k v))))) else none
  |none=>none)
 |_,_,_=>none
theorem nk {i:Nat}{mk mv:EM}{δ:Dt}:sPut i mk mv δ=putB i (mv δ) (mk δ) (eVar i δ) δ:=by
 unfold sPut putB
 cases mv δ with
 |none=>rfl
 |some v=>
  cases mk δ with
  |none=>rfl
  |some y=>
   cases eVar i δ with
   |none=>rfl
   |some x=>
    cases x<;>try rfl
    cases h:dKey y<;>simp [h]
noncomputable def clrB (i:Nat) (x:Option Dv) (δ:Dt):Option Fl:=match x with
 |some (.lst _)=>some (.nx (δ.set i (some (.lst []))))
 |_=>none
theorem nl {i:Nat}{δ:Dt}:gn i δ=clrB i (eVar i δ) δ:=by
 unfold gn clrB
 cases eVar i δ with
 |none=>rfl
 |some x=>cases x<;>rfl
theorem nq {i:Nat}{ds:List Dv}{δ:Dt}:clrB i (some (.lst ds)) δ=some (.nx (δ.set i (some (.lst [])))):=rfl
noncomputable def revB (i:Nat) (x:Option Dv) (δ:Dt):Option Fl:=match x with
 |some (.lst ds)=>some (.nx (δ.set i (some (.lst ds.reverse))))
 |_=>none
theorem nr {i:Nat}{δ:Dt}:gp i δ=revB i (eVar i δ) δ:=by
 unfold gp revB
 cases eVar i δ with
 |none=>rfl
 |some x=>cases x<;>rfl
theorem nt {i:Nat}{ds:List Dv}{δ:Dt}:revB i (some (.lst ds)) δ=some (.nx (δ.set i (some (.lst ds.reverse)))):=rfl
theorem nu {d:Dv} (c:d.toPy.canLay0=true) (h:d.toPy.depth<=60):eqOk d d=true/\PyData.eqv d.toPy d.toPy=true:=by
 refine ⟨?_,PySem.SeqAt.eqv_refl _ c⟩
 unfold eqOk
 rw [c,Nat.min_self,decide_eq_true h]
 rfl
theorem nv {d:Dv} (c:d.toPy.canLay0=true) (h:d.toPy.depth<=60):dNe d d=some (.bl false):=by
 obtain ⟨a,b⟩:=nu c h
 unfold dNe
 rw [if_pos a,b]
 rfl
theorem d4 {α:Type} (f:α->Dv): ∀xs:List α,ax (xs.map f)=xs.map fun x=>(f x).toPy
 |[]=>rfl
 |x::xs=>by rw [List.map_cons,ax,d4 f xs];rfl
theorem gq {α:Type}{f:α->PyData}: ∀{xs:List α},(∀x∈xs,(f x).canLay0=true)->PyData.canLayAll0 (xs.map f)=true
 |[],_=>rfl
 |x::xs,h=>by rw [List.map_cons,PyData.canLayAll0,h x (.head _),gq fun y hy=>h y (.tail _ hy)];rfl
theorem gr {α:Type}{f:α->PyData}{n:Nat}: ∀{xs:List α},(∀x∈xs,(f x).depth<=n)->PyData.depthAll (xs.map f)<=n
 |[],_=>Nat.zero_le _
 |x::xs,h=>by rw [List.map_cons,PyData.depthAll];exact Nat.max_le.mpr ⟨h x (.head _),gr fun y hy=>h y (.tail _ hy)⟩
theorem gs (r:List Int):(bU r).toPy.canLay0=true:=by
 unfold bU Dv.toPy
 rw [d4]
 exact gq fun _ _=>rfl
theorem gt (r:List Int):(bU r).toPy.depth<=1:=by
 unfold bU Dv.toPy
 rw [d4,PyData.depth]
 exact Nat.succ_le_succ (gr fun _ _=>Nat.le_refl _)
theorem nz {α:Type}{g:Dv->Dt->Option Dt}{c:Dt->Option Bool}{el:EM}{δ:Dt} (enc f:α->Dv) (xs:List α) (h: ∀x,x∈xs->celM g c el δ (enc x)=some (some (f x))):aC g c el δ (xs.map enc)=some (xs.map f):=by
 rw [gi enc (fun x=>some (f x)) xs h]
 congr 1
 clear h
 induction xs with
 |nil=>rfl
 |cons x xs ih=>rw [List.filterMap_cons,ih];rfl
theorem nA {i:Int}:fInt [.int i]=some (.int i):=rfl
theorem nB {b:Bool}:fInt [.bl b]=some (.int (if b then 1 else 0)):=rfl
theorem nC {ns:List Int}:fSum [.lst (ns.map .int)]=some (.int ns.sum):=by
 show (cH _).map _=_
 rw [fR]
 rfl
theorem at20 {a b:Dv}:atI [a,b] 0=some a:=rfl
theorem at21 {a b:Dv}:atI [a,b] 1=some b:=rfl
theorem c2:((2:Nat):Int)=2:=rfl
theorem bh (a b:Int) (h:0<b):0<=a%b/\a%b<b:=⟨Int.emod_nonneg _ (by omega),Int.emod_lt_of_pos _ h⟩
theorem gu {i j:Int} (h:i.natAbs<2^2048) (h':j.natAbs<2^2048):aO i j=true:=by
 unfold aO
 rw [decide_eq_true h,decide_eq_true h']
 simp
theorem nD {d:Dv}{zs:List Int} (h:d∈zs.map Dv.int): ∃z:Int,z∈zs/\d= .int z:=by
 obtain ⟨z,h,e⟩:=List.mem_map.mp h
 exact ⟨z,h,e.symm⟩
end L2
set_option maxHeartbeats 4000000
local macro_rules
 | `(tactic| simp_arith $cfg:optConfig [$xs,*]) => `(tactic| simp $cfg:optConfig only [$xs,*,L2.df,L2.kC,L2.kD,L2.kE,L2.kF,L2.kG,L2.kH,L2.kI,L2.kJ,L2.kK,L2.kL,L2.kM,L2.kN,L2.kO,L2.kP,L2.kQ,L2.kR,L2.kS,L2.kT,L2.kU,L2.kW,L2.kX,L2.kY,L2.kZ,L2.la,L2.lb,L2.lc,L2.ld,L2.lf,L2.eC_b,L2.lh,L2.li,L2.lj,L2.ll,L2.lm,L2.ln,L2.lq,L2.lr,L2.ls,L2.lu,L2.lv,L2.lw,L2.lx,L2.ly,L2.lA,L2.lB,L2.lC,L2.lD,L2.lE,L2.lF,L2.lG,L2.lH,L2.lI,L2.lJ,L2.lK,L2.lL,L2.lM,L2.lN,L2.lO,L2.lP,L2.lQ,L2.lR,L2.lS,L2.lT,L2.gN_b,L2.lU,L2.lV,L2.lW,L2.lX,L2.lY,L2.lZ,L2.l0,L2.md,L2.mf,L2.mm,L2.ga,L2.gb,L2.mn,L2.mq,L2.mr,L2.mt,L2.mx,L2.my,L2.mz,L2.mB,L2.mC,L2.mD,L2.mE,L2.dg,L2.mF,L2.mG,L2.mH,L2.mI,L2.mJ,L2.mK,L2.mL,L2.mM,List.set_cons_zero,List.set_cons_succ,Option.map_some,L2.lenc,L2.lenn,Nat.reduceAdd,Nat.reduceLeDiff,Int.reduceLT,Int.reduceLE,List.length_map,L2.mw,Bool.and_true,Bool.and_self,Bool.not_true,Bool.not_false,L2.aD,List.map_cons,List.map_nil,List.getElem?_cons_zero,List.getElem?_cons_succ,Option.join_some,L2.aS,List.cons_append,List.nil_append,List.replicate,and_self,and_true,true_and,L2.mN,L2.Dv.isScr,L2.tyN,L2.lg,L2.gj,L2.mQ,L2.mR,L2.mS,L2.mT,L2.mU,L2.mV,L2.mW,L2.mX,L2.mY,L2.mZ,L2.m4,L2.gT_b,L2.gC_b,L2.m5,L2.gZ_b,L2.iL_b,L2.m6,L2.iT_b,L2.m7,L2.m8,L2.m9,L2.ng,L2.nh,L2.ni,L2.nk,L2.nl,L2.nq,L2.nr,L2.nt,L2.nA,L2.nB,L2.nC,L2.at20,L2.at21,L2.c2])
namespace L2
open PySem PySem.Spec PyProof.Rows
end L2
set_option maxHeartbeats 4000000
namespace L2
open PySem PySem.Spec PyProof.Rows
section
variable {X:Cx}{ms:List Nat}{k k1 k2 k3 rk:Kd}{e a b c:Expr}{m ma mb mc:EM}{pos:Pos}
theorem oT (t:Tok) (l:Addr) (its:Array Value) (n:Nat) (dc:Option Addr) (sl:Array (Option Value)):
  Meets (Builtin.«tuple.__mul__» ⟨[.ref l,.int 1 t],[]⟩) (fun _ R s=>s.heap.get? l=some ⟨.type "tuple",dc,.seq its n,sl⟩/\R (.ok (.ret (.ref l))) s):=
 .of_wp fun prog w A R s h=>by obtain ⟨hp,g,d,tk,os⟩:=s;obtain ⟨hl,h⟩:=h;wp_walk;exact ⟨_,rfl,h⟩
theorem RepsF.rep {KF:PySem.W.Frag}{S:Addr->Prop}{H:Hp}{xs:List V}{ds:List Dv} (r:RepsF KF S H xs ds): ∀n:Nat,RepsF KF S H (List.replicate n xs).flatten (List.replicate n ds).flatten
 |0=> .nil
 |n+1=>by rw [List.replicate_succ,List.replicate_succ,List.flatten_cons,List.flatten_cons];exact r.append (RepsF.rep r n)
end
end L2
set_option maxHeartbeats 4000000
namespace L2
open PySem PySem.Spec PyProof.Rows
theorem nE {n:Nat}{k:Int} (h0:0<=k) (h1:k<(n:Int)):ixN n k=some k.toNat:=by
 unfold ixN
 rw [if_pos h0,if_pos h1]
end L2
set_option maxHeartbeats 4000000
namespace L2
open PySem PySem.Spec PyProof.Rows
section
variable {X:Cx}{pins:List (Addr×Obj)}{σ:St}{H:Hp}{s:Shared}{h':Heap}
end
end L2
set_option maxHeartbeats 4000000
namespace L2
open PySem PySem.Spec PyProof.Rows
section
variable {X:Cx}
variable {ms:List Nat}{rk:Kd}
end
end L2
set_option maxHeartbeats 4000000
namespace L2
open PySem PySem.Spec PyProof.Rows
noncomputable def sUnp (m:EM) (g:Dv->Dt->Option Dt):SM:=fun δ=>(m δ).bind fun d=>(g d δ).map .nx
section
variable {X:Cx}{ms:List Nat}{k k1 rk:Kd}{e tg:Expr}{m:EM}{g:Dv->Dt->Option Dt}{pos:Pos}
end
end L2
set_option maxHeartbeats 4000000
namespace HT
open PySem PyProof.Rows
section
open PySem.SeqAt
open PySem.AutoSeq1 (wpAny_loadPart')
open PySem.MeetsSeq PySem.MeetsSeq2 PySem.MeetsSeq3
end
section
variable {prog:Program}{w:World}{A:Around}{E:Value->Shared->Prop}{s:Shared}
end
end HT
namespace L2
open PySem PySem.Spec PyProof.Rows
variable {KF:PySem.W.Frag}{W W':Addr->Prop}
section
variable {X:Cx}
end
section
variable {X:Cx}{ms:List Nat}{k k1 k2 k3 rk:Kd}{e a b c:Expr}{m ma mb mc:EM}{pos:Pos}
noncomputable def tOf2 (f:Dv->Dv->Option Dv) (ma mb:EM):Dt->Option Bool:=tOf (eOp f ma mb)
end
end L2
set_option maxHeartbeats 4000000
namespace L2
open PySem PySem.Spec PyProof.Rows
variable {KF:PySem.W.Frag}{W W':Addr->Prop}
section
variable {X:Cx}{ms:List Nat}{rk k:Kd}{e:Expr}{m:EM}{pos pos':Pos}{st:Stmt}{rest a b:List Stmt}{ma mb:SM}
end
section
variable {X:Cx}
end
section
variable {X:Cx}{ms:List Nat}{k k1 k2 k3 rk:Kd}{e a b c:Expr}{m ma mb mc:EM}{pos:Pos}
theorem RepsF.pick {S:Addr->Prop}{H:Hp}{xs:List V}{ds:List Dv} (r:RepsF KF S H xs ds): ∀(l:List Nat),RepsF KF S H (l.filterMap fun i=>xs[i]?) (l.filterMap fun i=>ds[i]?)
 |[]=> .nil
 |i::l=>by
  rw [List.filterMap_cons,List.filterMap_cons]
  cases hx:xs[i]? with
  |none=>
   have:ds[i]?=none:=by rw [List.getElem?_eq_none_iff] at hx|-;rw [<-r.length];exact hx
   rw [this]
   exact r.pick l
  |some x=>
   obtain ⟨d,hd,rd⟩:=r.get' hx
   rw [hd]
   exact .cons rd (r.pick l)
theorem Vals.pick {xs:List V}{us:List Value} (r:Vals xs us): ∀(l:List Nat),Vals (l.filterMap fun i=>xs[i]?) (l.filterMap fun i=>us[i]?)
 |[]=> .nil
 |i::l=>by
  rw [List.filterMap_cons,List.filterMap_cons]
  cases hx:xs[i]? with
  |none=>
   have:us[i]?=none:=by rw [List.getElem?_eq_none_iff] at hx|-;rw [<-r.length];exact hx
   rw [this]
   exact Vals.pick r l
  |some x=>
   obtain ⟨d,hd,rd⟩:=r.get hx
   rw [hd]
   exact .cons rd (Vals.pick r l)
end
end L2
set_option maxHeartbeats 4000000
namespace L2
open PySem PySem.Spec PyProof.Rows
noncomputable abbrev Hl:=List (List Int×Int)
noncomputable def Rise (h:Hl):Prop:=h.Pairwise fun p q=>HT.br p.1 q.1=true
theorem Rise.nd {h:Hl} (r:Rise h):(h.map (·.1)).Nodup:=by
 refine List.Pairwise.map _ (fun a b e=> ?_) r
 intro z
 have e':HT.br a.1 b.1=true:=e
 rw [z,DhSort.gm] at e'
 cases e'
theorem Rise.filter {h:Hl} (r:Rise h) (f:List Int×Int->Bool):Rise (h.filter f):=List.Pairwise.filter f r
end L2
set_option maxHeartbeats 4000000
namespace DhRev
open PySem PySem.Calls PyProof.Rows PySem.W
section
variable {prog:Program}{w:World}{A:Around}{E:Value->Shared->Prop}{s:Shared}{r:Addr}
end
end DhRev
namespace L2
open PySem PySem.Spec PyProof.Rows
variable {KF:PySem.W.Frag}{W W':Addr->Prop}
section
variable {X:Cx}{ms:List Nat}{k k1 k2 k3 rk:Kd}{e a b c:Expr}{m ma mb mc:EM}{pos:Pos}{te:TE}
end
end L2
set_option maxHeartbeats 4000000
namespace L2
open PySem PySem.Spec PyProof.Rows
variable {KF:PySem.W.Frag}{W W':Addr->Prop}
theorem ao.length {H:Hp}: ∀{vs:List V}{ds:List Dv}{F:List Addr},ao KF H vs ds F->vs.length=ds.length
 |_,_,_,.nil=>rfl
 |_,_,_,.cons _ r=>congrArg (· +1) (ao.length r)
section
variable {X:Cx}{ms:List Nat}{k k' rk:Kd}{e a b:Expr}{m ma mb:EM}{pos pos':Pos}{es:List Expr}{ml:Dt->Option (List Dv)}
noncomputable def gv (i:Nat) (m:EM):SM:=fun δ=>(m δ).bind fun d=>match d with
 | .lst _=>some (.nx (δ.set i (some d)))
 | .dic _=>some (.nx (δ.set i (some d)))
 |_=>none
end
theorem ao.get {H:Hp}: ∀{xs:List V}{ds:List Dv}{F:List Addr}{j:Nat}{d:Dv},ao KF H xs ds F->ds[j]?=some d-> ∃v,xs[j]?=some v
 |_,_,_,_,_,.nil,h=>by simp at h
 |_,_,_,0,_,.cons t r,h=>⟨_,rfl⟩
 |_,_,_,j+1,_,.cons t r,h=>by
  obtain ⟨v,hv⟩:=ao.get (j:=j) r (by simpa using h)
  exact ⟨v,by simpa using hv⟩
section
variable {X:Cx}{ms:List Nat}{k k2 rk:Kd}{ix:Expr}{m mi:EM}{pos:Pos}{i:Nat}{x:Str}{np apos cpos ipos:Pos}
noncomputable def di (i:Nat) (j:Option Dv) (f:List Dv->Option (List Dv)):SM:=fun δ=>j.bind fun y=>(eVar i δ).bind fun z=>match z,y with
 | .lst ds,.int q=>(ixN ds.length q).bind fun j=>match ds[j]? with
  |some (.lst es)=>(f es).map fun es'=> .nx (δ.set i (some (.lst (ds.set j (.lst es')))))
  |_=>none
 |_,_=>none
noncomputable def nF (i:Nat) (mi:EM):SM:=fun δ=>di i (mi δ) (fun _=>some []) δ
noncomputable def gw (i:Nat) (mi m:EM):SM:=fun δ=>di i (mi δ) (fun es=>(m δ).bind fun d=>if es.length<lim/\d.imm=true then some (es++[d]) else none) δ
end
end L2
set_option maxHeartbeats 4000000
namespace PySem
section
variable {prog:Program}{w:World}{K:Type} [DecidableEq K] {knd:HeapKind prog w K}{A:Around}{E:Value->Shared->Prop}{s:Shared}{d a:Addr}{k:K}{xs:List (K×Addr×Value)}
end
end PySem
namespace L2
open PySem PySem.Spec PyProof.Rows
variable {KF:PySem.W.Frag}{W W':Addr->Prop}
section
variable {X:Cx}{pins:List (Addr×Obj)}{σ:St}{H:Hp}{s:Shared}{a b:Addr}{v:V}{r:Value}{A:Around}{E:Value->Shared->Prop}
end
section
variable {X:Cx}{o e f:Expr}{td ty tz:TE}{apos cpos:Pos}
end
theorem ai.length {H:Hp}: ∀{vs:List (List Key×V)}{ds:List (List Key×Dv)}{F:List Addr},ai KF H vs ds F->vs.length=ds.length
 |_,_,_,.nil=>rfl
 |_,_,_,.cons _ r=>congrArg (· +1) (ai.length r)
section
variable {X:Cx}{ms:List Nat}{k1 k2 rk:Kd}{ke e:Expr}{mk mv:EM}{pos:Pos}{i:Nat}{x:Str}{np apos1 cpos1 lpos apos cpos:Pos}
end
end L2
set_option maxHeartbeats 4000000
namespace L2
open PySem PySem.Spec PyProof.Rows
noncomputable def unpB (o:Option Dv) (g:Dv->Dt->Option Dt) (δ:Dt):Option Fl:=match o with
 |some d=>nxB (g d δ)
 |none=>none
where nxB:Option Dt->Option Fl
 |some δ=>some (.nx δ)
 |none=>none
theorem nG {m:EM}{g:Dv->Dt->Option Dt}{δ:Dt}:sUnp m g δ=unpB (m δ) g δ:=by
 unfold sUnp unpB
 cases m δ with
 |none=>rfl
 |some d=>
  show (g d δ).map Fl.nx=unpB.nxB (g d δ)
  cases g d δ<;>rfl
theorem nH {d:Dv}{g:Dv->Dt->Option Dt}{δ:Dt}:unpB (some d) g δ=unpB.nxB (g d δ):=rfl
theorem nI {δ:Dt}:unpB.nxB (some δ)=some (.nx δ):=rfl
noncomputable def dk (i:Nat) (o:Option Dv) (δ:Dt):Option Fl:=match o with
 |some (.lst ds)=>some (.nx (δ.set i (some (.lst ds))))
 |some (.dic ds)=>some (.nx (δ.set i (some (.dic ds))))
 |_=>none
theorem nJ {i:Nat}{m:EM}{δ:Dt}:gv i m δ=dk i (m δ) δ:=by
 unfold gv dk
 cases m δ with
 |none=>rfl
 |some d=>cases d<;>rfl
theorem nK {i:Nat}{ds:List Dv}{δ:Dt}:dk i (some (.lst ds)) δ=some (.nx (δ.set i (some (.lst ds)))):=rfl
theorem nL {i:Nat}{ds:List (List Key×Dv)}{δ:Dt}:dk i (some (.dic ds)) δ=some (.nx (δ.set i (some (.dic ds)))):=rfl
noncomputable def subB (i:Nat) (o z:Option Dv) (f:List Dv->Option (List Dv)) (δ:Dt):Option Fl:=match o,z with
 |some (.int q),some (.lst ds)=>(ixN ds.length q).bind fun j=>match ds[j]? with
  |some (.lst es)=>(f es).map fun es'=> .nx (δ.set i (some (.lst (ds.set j (.lst es')))))
  |_=>none
 |_,_=>none
theorem gx {i:Nat}{o:Option Dv}{f:List Dv->Option (List Dv)}{δ:Dt}:di i o f δ=subB i o (eVar i δ) f δ:=by
 unfold di subB
 cases o with
 |none=>rfl
 |some y=>
  show (eVar i δ).bind _=_
  cases eVar i δ with
  |none=>cases y<;>rfl
  |some z=>cases z<;>cases y<;>rfl
theorem nM {i:Nat}{mi:EM}{δ:Dt}:nF i mi δ=subB i (mi δ) (eVar i δ) (fun _=>some []) δ:=gx
noncomputable def appE (o:Option Dv) (es:List Dv):Option (List Dv):=match o with
 |some d=>if es.length<lim/\d.imm=true then some (es++[d]) else none
 |none=>none
theorem nN {i:Nat}{mi m:EM}{δ:Dt}:gw i mi m δ=subB i (mi δ) (eVar i δ) (appE (m δ)) δ:=by
 unfold gw
 rw [gx]
 congr 1
 funext es
 cases m δ<;>rfl
theorem nO {i:Nat}{es:List Dv}{r:List Dv}{f:List Dv->Option (List Dv)}{δ:Dt}:subB i (some (.int 0)) (some (.lst (.lst es::r))) f δ=(f es).map fun es'=> .nx (δ.set i (some (.lst (.lst es'::r)))):=by
 unfold subB
 have:ixN ((.lst es::r:List Dv).length) 0=some 0:=by
  unfold ixN
  rw [if_pos (by decide),if_pos (by simp only [List.length_cons];omega)]
  rfl
 dsimp only
 rw [this]
 rfl
theorem nP {i:Nat}{a:Dv}{es:List Dv}{r:List Dv}{f:List Dv->Option (List Dv)}{δ:Dt}:subB i (some (.int 1)) (some (.lst (a:: .lst es::r))) f δ=(f es).map fun es'=> .nx (δ.set i (some (.lst (a:: .lst es'::r)))):=by
 unfold subB
 have:ixN ((a:: .lst es::r).length) 1=some 1:=by
  unfold ixN
  rw [if_pos (by decide),if_pos (by simp only [List.length_cons];omega)]
  rfl
 dsimp only
 rw [this]
 rfl
theorem nQ {d:Dv}{es:List Dv} (h:es.length<lim) (h':d.imm=true):appE (some d) es=some (es++[d]):=by show (if _ then _ else _)=_;rw [if_pos ⟨h,h'⟩]
theorem nR {f:Dv->Dv->Option Dv}{a b:EM}{δ:Dt}:tOf2 f a b δ=tOf (eOp f a b) δ:=rfl
end L2
set_option maxHeartbeats 4000000
local macro_rules
 | `(tactic| simp_arith $cfg:optConfig only [$xs,*]) => `(tactic| simp_arith $cfg:optConfig [$xs,*,L2.nG,L2.nH,L2.nI,L2.nJ,L2.nK,L2.nL,L2.nM,L2.nN,L2.nO,L2.nP,L2.nQ,L2.nR])
namespace L2
open PySem PySem.Spec PyProof.Rows
noncomputable def cutR (pl r:List Int):List Int:=pl.map fun a=>r.getD a.toNat 0
noncomputable def pos (h:Hl):List (List Int):=(h.filter fun p=>decide (0<p.2)).map (·.1)
end L2
set_option maxHeartbeats 4000000
namespace L2
open PySem PySem.Spec PyProof.Rows
variable {KF:PySem.W.Frag}{W W':Addr->Prop}
section
variable {X:Cx}{pins:List (Addr×Obj)}{σ:St}{H:Hp}{s:Shared}{a:Addr}{ob:Obj}{kvs:List (List Key×V)}
end
section
variable {X:Cx}{tg:Expr}
end
section
variable {H:Hp}{a:Addr}{ob:Obj}{xs:List (List Key×V)}{S:Addr->Prop}
mutual
theorem RepF.frz (e:H a=some (.dT xs)): ∀{v:V}{d:Dv},RepF KF S H v d->RepF KF S (upd H a (.frz ob (.dT xs))) v d
 |_,_,.non=> .non
 |_,_,.bl b=> .bl b
 |_,_,.int i=> .int i
 |_,_,.str x=> .str x
 |_,_,.lst s h r=> .lst s (by rw [ab (fun z=>by rw [z,e] at h;cases h)];exact h) (RepsF.frz e r)
 |_,_,.tup h r=> .tup (by rw [ab (fun z=>by rw [z,e] at h;cases h)];exact h) (RepsF.frz e r)
 |_,_,.dic (a:=b) s h r=> .dic s (by
   by_cases z:b=a
   ·subst z
    rcases h with h|⟨o,h⟩
    ·rw [e] at h;cases h;exact .inr ⟨ob,ap⟩
    ·rw [e] at h;cases h
   ·rcases h with h|⟨o,h⟩
    ·exact .inl (by rw [ab z];exact h)
    ·exact .inr ⟨o,by rw [ab z];exact h⟩) (ag.frz e r)
 |_,_,.scr h=> .scr (h.imp (fun ⟨o,q⟩=>⟨o,by rw [ab (fun z=>by rw [z,e] at q;cases q)];exact q⟩) id)
 |_,_,.fc ⟨pm,ctv,c,cl,oc,ol,vs,t,tk,q1,q2,q3,q4⟩=> .fc ⟨pm,ctv,c,cl,oc,ol,vs,t,tk,by rw [ab (fun z=>by rw [z,e] at q1;cases q1)];exact q1,by rw [ab (fun z=>by rw [z,e] at q2;cases q2)];exact q2,by rw [ab (fun z=>by rw [z,e] at q3;cases q3)];exact q3,q4⟩
 |_,_,.fn ⟨pm,ctv,c,oc,vs,t,q1,q2,q3⟩=> .fn ⟨pm,ctv,c,oc,vs,t,by rw [ab (fun z=>by rw [z,e] at q1;cases q1)];exact q1,by rw [ab (fun z=>by rw [z,e] at q2;cases q2)];exact q2,q3⟩
 |_,_,.dik (a:=b) s h r=> .dik s (h.elim (fun h=> .inl (by rw [ab (fun z=>by rw [z,e] at h;cases h)];exact h)) fun ⟨o,h⟩=> .inr ⟨o,(by rw [ab (fun z=>by rw [z,e] at h;cases h)];exact h)⟩) (ag.frz e r)
 |_,_,.ins s h r=> .ins s (by rw [ab (fun z=>by rw [z,e] at h;cases h)];exact h) (ag.frz e r)
theorem RepsF.frz (e:H a=some (.dT xs)): ∀{vs:List V}{ds:List Dv},RepsF KF S H vs ds->RepsF KF S (upd H a (.frz ob (.dT xs))) vs ds
 |_,_,.nil=> .nil
 |_,_,.cons h r=> .cons (RepF.frz e h) (RepsF.frz e r)
theorem ag.frz (e:H a=some (.dT xs)): ∀{κ:Type}{vs:List (κ×V)}{ds:List (κ×Dv)},ag KF S H vs ds->ag KF S (upd H a (.frz ob (.dT xs))) vs ds
 |_,_,_,.nil=> .nil
 |_,_,_,.cons h r=> .cons (RepF.frz e h) (ag.frz e r)
end
mutual
theorem RepF.thw (e:H a=some (.frz ob (.dT xs))): ∀{v:V}{d:Dv},RepF KF S H v d->RepF KF S (upd H a (.dT xs)) v d
 |_,_,.non=> .non
 |_,_,.bl b=> .bl b
 |_,_,.int i=> .int i
 |_,_,.str x=> .str x
 |_,_,.lst s h r=> .lst s (by rw [ab (fun z=>by rw [z,e] at h;cases h)];exact h) (RepsF.thw e r)
 |_,_,.tup h r=> .tup (by rw [ab (fun z=>by rw [z,e] at h;cases h)];exact h) (RepsF.thw e r)
 |_,_,.dic (a:=b) s h r=> .dic s (by
   by_cases z:b=a
   ·subst z
    rcases h with h|⟨o,h⟩
    ·rw [e] at h;cases h
    ·rw [e] at h;cases h;exact .inl ap
   ·rcases h with h|⟨o,h⟩
    ·exact .inl (by rw [ab z];exact h)
    ·exact .inr ⟨o,by rw [ab z];exact h⟩) (ag.thw e r)
 |_,_,.scr h=> .scr (h.imp (fun ⟨o,q⟩=>⟨o,by rw [ab (fun z=>by rw [z,e] at q;cases q)];exact q⟩) id)
 |_,_,.fc ⟨pm,ctv,c,cl,oc,ol,vs,t,tk,q1,q2,q3,q4⟩=> .fc ⟨pm,ctv,c,cl,oc,ol,vs,t,tk,by rw [ab (fun z=>by rw [z,e] at q1;cases q1)];exact q1,by rw [ab (fun z=>by rw [z,e] at q2;cases q2)];exact q2,by rw [ab (fun z=>by rw [z,e] at q3;cases q3)];exact q3,q4⟩
 |_,_,.fn ⟨pm,ctv,c,oc,vs,t,q1,q2,q3⟩=> .fn ⟨pm,ctv,c,oc,vs,t,by rw [ab (fun z=>by rw [z,e] at q1;cases q1)];exact q1,by rw [ab (fun z=>by rw [z,e] at q2;cases q2)];exact q2,q3⟩
 |_,_,.dik (a:=b) s h r=> .dik s (h.elim (fun h=> .inl (by rw [ab (fun z=>by rw [z,e] at h;cases h)];exact h)) fun ⟨o,h⟩=> .inr ⟨o,(by rw [ab (fun z=>by rw [z,e] at h;cases h)];exact h)⟩) (ag.thw e r)
 |_,_,.ins s h r=> .ins s (by rw [ab (fun z=>by rw [z,e] at h;cases h)];exact h) (ag.thw e r)
theorem RepsF.thw (e:H a=some (.frz ob (.dT xs))): ∀{vs:List V}{ds:List Dv},RepsF KF S H vs ds->RepsF KF S (upd H a (.dT xs)) vs ds
 |_,_,.nil=> .nil
 |_,_,.cons h r=> .cons (RepF.thw e h) (RepsF.thw e r)
theorem ag.thw (e:H a=some (.frz ob (.dT xs))): ∀{κ:Type}{vs:List (κ×V)}{ds:List (κ×Dv)},ag KF S H vs ds->ag KF S (upd H a (.dT xs)) vs ds
 |_,_,_,.nil=> .nil
 |_,_,_,.cons h r=> .cons (RepF.thw e h) (ag.thw e r)
end
theorem Rel.frz {ms:List Nat}{H0:Hp}{δ:Dt}{σ:St} (R:Rel KF ms W H0 δ σ H) (e:H a=some (.dT xs)) (n: ¬W a):Rel KF ms W (fun b=>if b=a/\H0 a≠none then some (.frz ob (.dT xs)) else H0 b) δ σ (upd H a (.frz ob (.dT xs))):=by
 refine ⟨R.len,fun b o h=> ?_,fun b w=> ?_,fun i d nn hd=> ?_,?_⟩
 ·by_cases z:b=a
  ·subst z
   by_cases h0:H0 b=none
   ·rw [if_neg (fun q=>q.2 h0),h0] at h;cases h
   ·rw [if_pos ⟨rfl,h0⟩] at h;cases h;exact ap
  ·rw [if_neg (fun q=>z q.1)] at h
   rw [ab z];exact R.keep b o h
 ·have z:b≠a:=fun z=>n (z▸w)
  obtain ⟨o,ho,so⟩:=R.soft b w
  exact ⟨o,by rw [ab z];exact ho,so⟩
 ·obtain ⟨v,hv,r⟩:=R.get i d nn hd
  exact ⟨v,hv,r.frz e⟩
 ·obtain ⟨Φ,f⟩:=R.foot
  refine ⟨Φ,fun i b hb=>⟨(f.wr i b hb).1,(if_neg (fun q:b=a/\H0 a≠none=>n (q.1▸(f.wr i b hb).1))).trans (f.wr i b hb).2⟩,f.dj,f.nd,fun i d nn hd=> ?_⟩
  obtain ⟨c,hc,o⟩:=f.at_ i d nn hd
  refine ⟨c,hc,?_⟩
  have ki:au Imm H (upd H a (.frz ob (.dT xs))):=fun b ob' hb q=>by
   rcases q with ⟨us,rfl⟩|⟨c',u,rfl⟩|q
   ·rw [ab (fun z=>by rw [z,e] at hb;cases hb)];exact hb
   ·rw [ab (fun z=>by rw [z,e] at hb;cases hb)];exact hb
   ·exact q.elim
  have kf: ∀b∈Φ i,∀o,H b=some o->(upd H a (.frz ob (.dT xs))) b=some o:=fun b hb ob' h=>by
   rw [ab (fun z:b=a=>by subst z;exact n (f.wr i b hb).1)];exact h
  rcases o with ⟨m,ef,cc⟩|⟨m,m3,r⟩|⟨m,m2,ef,xs',ds',rfl,hh,r⟩
  ·exact .inl ⟨m,ef,cc.keep ki (kf c (by rw [ef];exact List.mem_cons_self ..))⟩
  ·exact .inr (.inl ⟨m,m3,r.keep ki kf⟩)
  ·exact .inr (.inr ⟨m,m2,ef,xs',ds',rfl,kf c (by rw [ef];exact List.mem_cons_self ..) _ hh,RepsF.frz e r⟩)
end
section
variable {X:Cx}{scope:Scope}{tg iter elt:Expr}{ifs:List Expr}{pos:Pos}{ms:List Nat}{k:Kd}{m:EM}{g:Dv->Dt->Option Dt}{c:Dt->Option Bool}{el:EM}{z:List Nat}
end
end L2
set_option maxHeartbeats 4000000
namespace L2
open PySem PySem.Spec PyProof.Rows
variable {KF:PySem.W.Frag}{W W':Addr->Prop}
section
variable {X:Cx}{ms:List Nat}{rk k k2 k3:Kd}{st:Stmt}{rest a b:List Stmt}{ma mb:SM}{pos:Pos}{e:Expr}{m:EM}{pos':Pos}
variable {i:Nat}{x:Str}{np ipos:Pos}{ix jx v:Expr}{mi mj mv:EM}
end
section
variable {P:Program}{w:World}{K:PySem.W.Frag}{mg:Str->Option Value}{base:Heap}
end
section
variable {X:Cx}{ms:List Nat}{rk:Kd}{i:Nat}{x y:Str}{ps:List Str}{np p pos spos:Pos}{es:List Expr}{ml:Dt->Option (List Dv)}{m:List Dv->Option Dv}
theorem Gots.reps_any {H H1:Hp}: ∀{vs:List V}{ds:List Dv},Gots KF .any W H H1 vs ds->RepsF KF (fun a=> ¬W a) H1 vs ds
 |[],[],_=> .nil
 |v::vs,d::ds,⟨g,r⟩=> .cons g (Gots.reps_any r)
 |[],_::_,g=>g.elim
 |_::_,[],g=>g.elim
end
end L2
set_option maxHeartbeats 4000000
namespace L2
open PySem PySem.Spec PyProof.Rows
section
variable {prog:Program}{w:World}{A:Around}{E:Value->Shared->Prop}{s:Shared}
end
section
variable {X:Cx}{ms:List Nat}{k rk:Kd}{e st:Expr}{m:EM}{mst:Dt->Option (Option Int)}{pos p2:Pos}
end
end L2
set_option maxHeartbeats 4000000
namespace HT
open PySem PySem.Spec PyProof.Rows
section
variable {prog:Program}{w:World}{A:Around}{E:Value->Shared->Prop}{s:Shared}
end
end HT
namespace L2
open PySem PySem.Spec PyProof.Rows
section
variable {X:Cx}{ms:List Nat}{k k1 k2:Kd}{e a b:Expr}{m ma mb:EM}{pos:Pos}
end
end L2
set_option maxHeartbeats 4000000
namespace L2
open PySem PySem.Spec PyProof.Rows
section
variable {X:Cx}{ms:List Nat}{k1 k2 k3:Kd}{a b c:Expr}{ma mb mc:EM}{pos:Pos}
end
end L2
set_option maxHeartbeats 4000000
namespace L2
open PySem PySem.Spec PyProof.Rows
section
variable {X:Cx}{ms:List Nat}{k k1 k2:Kd}{a b:Expr}{ma mb:EM}{pos:Pos}
end
end L2
set_option maxHeartbeats 4000000
namespace L2
open PySem PySem.Spec PyProof.Rows
variable {KF:PySem.W.Frag}{W W':Addr->Prop}
section
variable {X:Cx}{k:Kd}{st:Stmt}{rest a b:List Stmt}{ma mb:SM}{pos pos':Pos}{e:Expr}{m:EM}
end
noncomputable def NSf (H:Hp) (a:Addr):Prop:= ∀o,H a=some o-> ¬Sft o
theorem NSf.none {H:Hp}{a:Addr} (h:H a=none):NSf H a:=fun o e=>by rw [h] at e;cases e
noncomputable def spA (KF:PySem.W.Frag) (m:List Dv->Option Dv):Sp:=fun vs H Q _=> ∃(S:Addr->Prop) (ds:List Dv) (d:Dv),RepsF KF S H vs ds/\m ds=some d/\ ∀v H',Same H H'->RepF KF (fun a=>S a \/NSf H a) H' v d->Q v H'
section
variable {P:Program}{w:World}{K:PySem.W.Frag}{mg:Str->Option Value}{base:Heap}
theorem gy {x qual:Str}{st:Stmt}{f:Addr}{fd:FuncData}{N ps:List Str}{k:Nat}{body:SM} (ms:List Nat) (F:Fun K x qual st f fd) (S:aG N ps (am st)) (hms:ms.all (fun i=>decide (ps.length<=if 2000<=i then i-2000 else if 1000<=i then i-1000 else i))=true) (hps:decide (ps.length<=N.length)=true)
  (hb: ∀(cdv:Value) (A:Around) (outer:List Env) (s:Shared) (H:Hp) (E:XK),Room k (A.deeper (envOfC qual (am st) s.heap.objs.size f cdv))->PDss (cxOf CX0 P w K mg base N qual (am st) f cdv A outer s H E).nox ms .any (aA st) body):
  FnOk P w K mg base CX0 (k+1) f fd ps (spA K (ay N.length ps.length body)):=by
 have len: ∀{ds:List Dv}{d:Dv},ay N.length ps.length body ds=some d->ds.length=ps.length:=fun {ds d} h=>by
  unfold ay at h
  split at h
  ·assumption
  ·cases h
 refine F.ok (k:=k) S (fun vs H Q E h=> ?_) fun cdv A outer s H vs Q E hr h=> ?_
 ·obtain ⟨S,ds,d,r,hm,_⟩:=h
  rw [r.length]
  exact len hm
 ·obtain ⟨S,ds,d,r,hm,hq⟩:=h
  obtain ⟨t,p,q⟩:=hb cdv A outer s H E hr
  refine ⟨t,p,?_⟩
  have hl:=len hm
  have hps':=of_decide_eq_true hps
  have R:Rel K ms (fun a=>(∃o,H a=some o/\Sft o)/\ ¬S a) H (aS N.length ds) (aH N vs) H:=fN (r.mono fun _ _ s z=>z.2 s) (fun _ w=>w.1) (fun i hi=>by rw [hl];exact fO hms hi) (by omega)
  unfold ay at hm
  rw [if_pos hl] at hm
  obtain ⟨fl,hf,e⟩:=Option.bind_eq_some_iff.mp hm
  cases fl with
  |rt d'=>
   cases e
   refine q _ _ H H _ _ R hf fun v H' s g=>hq v H' s ?_
   refine RepF.mono (fun a _ n=> ?_) g
   by_cases hS:S a
   ·exact .inl hS
   ·exact .inr fun o ho so=>n ⟨⟨⟨o,ho,so⟩,hS⟩,fun z=>by rw [z] at ho;cases ho⟩
  |_=>cases e
end
section
variable {X:Cx}{ms:List Nat}{a:Expr}{es:List Expr}{ml:Dt->Option (List Dv)}{m:List Dv->Option Dv}{x:Str}{ps:List Str}{p pos:Pos}
theorem dl {k:Nat} (D:Def X.prog X.w X.K X.mg X.base k x ps (spA X.K m)) (hr:Room k X.A) (ha:PDa X ms .any (a::es) ml) (hg:Gl X x:=by rfl)
  (hdb:(x==("__debug__":Str))=false:=by decide) (he:starEach (a::es) X.env=(false,eval a X.env)::starEach es X.env:=by rfl) (hpl:(backTo pos (starEach es X.env)).any (·.1)=false:=by rfl):
  PD X ms .any (.Call (.Name x p) (a::es) [] pos) (ak m ml):=by
 obtain ⟨ta,pa,qa⟩:=ha
 refine ⟨_,fj D hr pa hg hdb he hpl,fun {W} δ σ H0 H Q d R hm hq=> ?_⟩
 obtain ⟨xs,hx,e⟩:=Option.bind_eq_some_iff.mp hm
 refine qa δ σ H0 H _ xs R hx fun vs H1 s1 g1=> ?_
 refine ⟨fun a=> ¬W a,xs,d,g1.reps_any,e,fun v H' s g=>hq v H' (s1.tr s) ?_⟩
 show RepF X.K (fun a=> ¬W a) H' v d
 refine g.mono fun a _ q=> ?_
 rcases q with q|q
 ·exact q
 ·intro wa
  obtain ⟨o,ho,so⟩:=R.soft a wa
  exact q o (s1 a o ho) so
end
end L2
set_option maxHeartbeats 4000000
namespace L2
open PySem PySem.Spec PyProof.Rows
end L2
set_option maxHeartbeats 4000000
namespace L2
open PySem PySem.Spec PyProof.Rows
end L2
set_option maxHeartbeats 4000000
namespace L2
open PySem PySem.Spec PyProof.Rows
noncomputable def rng (lo:Int) (n:Nat):List Int:=(List.range n).map fun (i:Nat)=>lo+(i:Int)
end L2
set_option maxHeartbeats 4000000
namespace L2
open PySem PySem.Spec PyProof.Rows
variable {KF:PySem.W.Frag}{W W':Addr->Prop}
section
variable {X:Cx}{ms:List Nat}{k k1 k2 k3 rk:Kd}{e a b c:Expr}{m ma mb mc:EM}{pos:Pos}
end
end L2
set_option maxHeartbeats 4000000
namespace DhDct
open PySem PySem.Calls PyProof.Rows PySem.W
section
variable {prog:Program}{w:World}{A:Around}{E:Value->Shared->Prop}{s:Shared}
section
variable {K:Type} [DecidableEq K] {knd:HeapKind prog w K}
variable {I:Addr}{fp wr:List Addr}{n:Nat}{P:Nat->Value->Prop}{St:Nat->Shared->Prop}{R:Result->Shared->Prop}
end
end
end DhDct
namespace L2
open PySem PySem.Spec PyProof.Rows
variable {KF:PySem.W.Frag}{W W':Addr->Prop}
section
variable {X:Cx}
end
end L2
set_option maxHeartbeats 4000000
namespace DhUnp
open PySem PySem.Calls PyProof.Rows PySem.W
section
variable {prog:Program}{w:World}{A:Around}{E:Value->Shared->Prop}{s:Shared}
end
end DhUnp
namespace L2
open PySem PySem.Spec PyProof.Rows
variable {KF:PySem.W.Frag}{W W':Addr->Prop}
section
variable {X:Cx}{pos:Pos}{ms:List Nat}
end
end L2
set_option maxHeartbeats 4000000
namespace DhExt
open PySem PySem.Calls PyProof.Rows PySem.W Sem
open Builtin
end DhExt
namespace L2
open PySem PySem.Spec PyProof.Rows
variable {KF:PySem.W.Frag}{W W':Addr->Prop}
section
variable {X:Cx}{ms:List Nat}{k k1 k2 k3 rk:Kd}{e a b c:Expr}{m ma mb mc:EM}{pos:Pos}
end
end L2
set_option maxHeartbeats 4000000
namespace L2
open PySem PySem.Spec PyProof.Rows
variable {KF:PySem.W.Frag}{W W':Addr->Prop}
section
variable {ms ms':List Nat}{ρ:List (Option Nat)}{k:Kd}{wi:TI}{it:Dt->Option (List Dv)}{g:Dv->Dt->Option Dt}{c:Dt->Option Bool}{el:EM}{z:List Nat}
variable {X:Cx}{scope:Scope}{tg iter elt:Expr}{ifs:List Expr}{pos:Pos}
end
section
variable {X:Cx}{ms:List Nat}{k:Kd}{e:Expr}{m:EM}{pos:Pos}
end
end L2
set_option maxHeartbeats 4000000
namespace L2
open PySem PySem.Spec PyProof.Rows
variable {KF:PySem.W.Frag}{W W':Addr->Prop}
section
variable {X:Cx}{params:Arguments}{body:Expr}{scope:Scope}{pos:Pos}{T c:Addr}{q:Str}
end
section
variable {CX:CXT}{P:Program}{w:World}{K:PySem.W.Frag}{mg:Str->Option Value}{base:Heap}{k:Nat}{f:Addr}{L:LamD}{N ps:List Str}{A:Around}{outer:List Env}{s:Shared}{H:Hp}{us:List Value}{vs:List V}{Q:VK}{E:XK}
end
section
variable {X:Cx}{ms:List Nat}{rk k1:Kd}{a:Expr}{es:List Expr}{ml:Dt->Option (List Dv)}{m:List Dv->Option Dv}{x:Str}{p pos:Pos}{i:Nat}{L:LamD}
end
end L2
set_option maxHeartbeats 4000000
namespace L2
open PySem PySem.Spec PyProof.Rows
variable {KF:PySem.W.Frag}{W W':Addr->Prop}
section
variable {P:Program}{w:World}{K:PySem.W.Frag}{mg:Str->Option Value}{base:Heap}{T:Addr}{q:Str}
end
section
variable {X:Cx}{ms:List Nat}{rk k1:Kd}{a:Expr}{es:List Expr}{ml:Dt->Option (List Dv)}{m:List Dv->Option Dv}{x:Str}{ps:List Str}{p pos:Pos}{T:Addr}{q:Str}
end
end L2
set_option maxHeartbeats 4000000
namespace L2
open PySem PySem.Spec PyProof.Rows
variable {KF:PySem.W.Frag}{W W':Addr->Prop}
section
variable {X:Cx}{ms:List Nat}{rk k:Kd}{e:Expr}{m:EM}{pos pos':Pos}{st:Stmt}{rest a b:List Stmt}{ma mb:SM}
section
variable {ms':List Nat}{ρ:List (Option Nat)}{it:Dt->Option (List Dv)}{g:Dv->Dt->Option Dt}{c:Dt->Option Bool}{el:EM}{z:List Nat}{scope:Scope}{tg iter elt:Expr}{ifs:List Expr}{spos cpos:Pos}
end
end
end L2
set_option maxHeartbeats 4000000
namespace L2
open PySem PySem.Spec PyProof.Rows
variable {KF:PySem.W.Frag}{W W':Addr->Prop}
section
variable {X:Cx}
end
section
variable {H:Hp}
end
end L2
set_option maxHeartbeats 4000000
namespace L2
open PySem PySem.Spec PyProof.Rows
variable {KF:PySem.W.Frag}{W W':Addr->Prop}
noncomputable def rem (c:Addr) (H:Hp):Hp:=fun b=>if b=c then none else H b
theorem gA {c b:Addr}{H:Hp} (h:b≠c):rem c H b=H b:=if_neg h
noncomputable def lays (ds:List Dv):Bool:=PyData.canLayAll0 (ax ds)
section
variable {H:Hp}{c:Addr}{ol:Obj}{S:Addr->Prop}
mutual
theorem RepF.remo (e:H c=some (.frz ol (.own 0))): ∀{v:V}{d:Dv},RepF KF S H v d->d.toPy.canLay0=true->RepF KF S (rem c H) v d
 |_,_,.non,_=> .non
 |_,_,.bl b,_=> .bl b
 |_,_,.int i,_=> .int i
 |_,_,.str x,_=> .str x
 |_,_,.lst s h r,q=> .lst s (by rw [gA (fun z=>by rw [z,e] at h;cases h)];exact h) (RepsF.remo e r (by simpa [Dv.toPy,PyData.canLay0,lays] using q))
 |_,_,.tup h r,q=> .tup (by rw [gA (fun z=>by rw [z,e] at h;cases h)];exact h) (RepsF.remo e r (by simpa [Dv.toPy,PyData.canLay0,lays] using q))
 |_,_,.dic _ _ _,q=>by simp [Dv.toPy,PyData.canLay0] at q
 |_,_,.scr _,q=>by simp [Dv.toPy,PyData.canLay0] at q
 |_,_,.fn _,q=>by simp [Dv.toPy,PyData.canLay0] at q
 |_,_,.fc _,q=>by simp [Dv.toPy,PyData.canLay0] at q
 |_,_,.dik _ _ _,q=>by simp [Dv.toPy,PyData.canLay0] at q
 |_,_,.ins _ _ _,q=>by simp [Dv.toPy,PyData.canLay0] at q
theorem RepsF.remo (e:H c=some (.frz ol (.own 0))): ∀{vs:List V}{ds:List Dv},RepsF KF S H vs ds->lays ds=true->RepsF KF S (rem c H) vs ds
 |_,_,.nil,_=> .nil
 |_,_,.cons h r,q=>by
  simp only [lays,ax,PyData.canLayAll0,Bool.and_eq_true] at q
  exact .cons (RepF.remo e h q.1) (RepsF.remo e r q.2)
end
end
section
variable {X:Cx}{params:Arguments}{body:Expr}{scope:Scope}{pos:Pos}{T c:Addr}{q:Str}{clos:List (Str×Addr)}
end
section
variable {P:Program}{w:World}{K:PySem.W.Frag}{mg:Str->Option Value}{base:Heap}{k:Nat}{f:Addr}{L:LamD}{p x:Str}{A:Around}{outer:List Env}{s:Shared}{H:Hp}{u:Value}{v:V}{Q:VK}{E:XK}{iv:Int}
end
section
variable {X:Cx}{ms:List Nat}{k1:Kd}{a:Expr}{es:List Expr}{ml:Dt->Option (List Dv)}{m:Int->List Dv->Option Dv}{y x:Str}{p pos:Pos}{i:Nat}{L:LamD}
end
end L2
set_option maxHeartbeats 4000000
namespace L2
open PySem PySem.Spec PyProof.Rows
variable {KF:PySem.W.Frag}{W W':Addr->Prop}
section
variable {X:Cx}
end
end L2
set_option maxHeartbeats 4000000
namespace L2
open PySem PySem.Spec PyProof.Rows
variable {KF:PySem.W.Frag}{W W':Addr->Prop}
noncomputable abbrev Tbs:=List (Addr×Str)
section
variable {P:Program}{w:World}{K:PySem.W.Frag}{mg:Str->Option Value}{base:Heap}{ts:Tbs}
end
section
variable {X:Cx}{ms:List Nat}{rk k1:Kd}{a:Expr}{es:List Expr}{ml:Dt->Option (List Dv)}{m:List Dv->Option Dv}{x:Str}{ps:List Str}{p pos:Pos}{ts:Tbs}
end
end L2
set_option maxHeartbeats 4000000
namespace L2
open PySem PySem.Spec PyProof.Rows
variable {KF:PySem.W.Frag}{W W':Addr->Prop}
section
variable {X:Cx}
end
section
variable {X:Cx}{ms:List Nat}{rk k k1 k2:Kd}{e b:Expr}{m mb:EM}{pos pos':Pos}
end
section
variable {prog:Program}{w:World}{A:Around}{E:Value->Shared->Prop}{s:Shared}
end
section
variable {X:Cx}{ms:List Nat}{k1 k2:Kd}{o e:Expr}{mo me:EM}{apos cpos:Pos}
end
end L2
set_option maxHeartbeats 4000000
namespace DhSort
open PySem PySem.Calls PyProof.Rows PySem.W L2
noncomputable def d5 (l:Addr) (len:Nat) (h:Heap) (v:Value) (ns:List Int):Prop:= ∃(x y:Addr) (ob:Obj) (us:Array Value) (n:Nat) (w:Int) (t:Tok) (r:List Int),v= .ref x/\h.get? x=some ob/\ob.cls= .type "tuple"/\ob.data= .seq us n/\us.toList=[.ref y,.int w t]/\dh h (.ref y) r/\y≠l/\r.length=len/\ns=r++[w]
theorem d5.keep {l:Addr}{len:Nat}{h h':Heap}{v:Value}{ns:List Int} (e:d5 l len h v ns) (n1: ∀x,v= .ref x->x≠l) (k: ∀x ob,x≠l->h.get? x=some ob->h'.get? x=some ob):d5 l len h' v ns:=by
 obtain ⟨x,y,ob,us,n,w,t,r,e1,g,c,d,u,rr,ny,rl,en⟩:=e
 exact ⟨x,y,ob,us,n,w,t,r,e1,k x ob (n1 x e1) g,c,d,u,rr.keep fun z oz ez gz=>k z oz (by cases ez;exact ny) gz,ny,rl,en⟩
section
variable {prog:Program}{w:World}{A:Around}{E:Value->Shared->Prop}{s:Shared}
end
section
variable {prog:Program}{w:World}{A:Around}{E:Value->Shared->Prop}{t:Shared}
end
end DhSort
namespace L2
open PySem PySem.Spec PyProof.Rows
variable {KF:PySem.W.Frag}{W W':Addr->Prop}
section
variable {X:Cx}
end
end L2
set_option maxHeartbeats 4000000
namespace L2
open PySem PySem.Spec PyProof.Rows
variable {KF:PySem.W.Frag}{W W':Addr->Prop}
section
variable {X:Cx}
end
end L2
set_option maxHeartbeats 4000000
namespace L2
open PySem PySem.Spec PyProof.Rows
section
variable {X:Cx}{ms:List Nat}{k1 k2:Kd}{o e:Expr}{mo me:EM}{apos cpos:Pos}{td ty:TE}
end
end L2
set_option maxHeartbeats 4000000
namespace L2
open PySem PySem.Spec PyProof.Rows
variable {KF:PySem.W.Frag}
section
variable {X:Cx}
end
end L2
set_option maxHeartbeats 4000000
namespace L2
open PySem PySem.Spec PyProof.Rows
variable {KF:PySem.W.Frag}
section
variable {X:Cx}{ms:List Nat}{k k1 k2 rk:Kd}{o e:Expr}{mo me:EM}{apos cpos pos:Pos}{name:Str}{id:String}{r:V->List V->Hp->VK->Prop}{f:Dv->Dv->Option Dv}
end
end L2
set_option maxHeartbeats 4000000
namespace L2
open PySem PySem.Spec PyProof.Rows
variable {KF:PySem.W.Frag}
section
variable {X:Cx}{ms:List Nat}{k:Kd}{e:Expr}{m:EM}{p p2 pos pos2:Pos}
end
end L2
set_option maxHeartbeats 4000000
namespace L2
open PySem PySem.Spec PyProof.Rows
variable {KF:PySem.W.Frag}{W W':Addr->Prop}
section
variable {ms ms':List Nat}{ρ:List (Option Nat)}{k:Kd}{wi:TI}{it:Dt->Option (List Dv)}{g:Dv->Dt->Option Dt}{c:Dt->Option Bool}{el:EM}{z:List Nat}
variable {X:Cx}{scope:Scope}{tg iter elt:Expr}{ifs:List Expr}{pos:Pos}
end
noncomputable def isA (ms:List Nat) (i:Nat):Bool:=decide (i+2000∈ms)&&(decide (i∉ms)&&decide (i+1000∉ms))
theorem d6 {ms:List Nat}{i:Nat} (h:isA ms i=true):i+2000∈ms/\i∉ms/\i+1000∉ms:=by
 unfold isA at h
 rw [Bool.and_eq_true,Bool.and_eq_true] at h
 exact ⟨of_decide_eq_true h.1,of_decide_eq_true h.2.1,of_decide_eq_true h.2.2⟩
theorem Rel.anyl {ms:List Nat}{σ:St}{H0 H:Hp}{δ:Dt}{i:Nat}{d:Dv}{Φ:Nat->List Addr} (f:Foot KF ms W H0 δ σ H Φ) (hi:isA ms i=true) (hd:δ[i]?=some (some d)): ∃a xs ds,d= .lst ds/\σ[i]?=some (some (.ref a))/\Φ i=[a]/\H a=some (.lst xs)/\RepsF KF (fun b=> ¬W b) H xs ds:=by
 obtain ⟨h1,h2,h3⟩:=d6 hi
 obtain ⟨a,ha,o⟩:=f.at_ i d (dU h1) hd
 rcases o with ⟨n,_⟩|⟨_,n,_⟩|⟨_,_,e,xs,ds,rfl,h,r⟩
 ·exact absurd n h2
 ·exact absurd n h3
 ·exact ⟨a,xs,ds,rfl,ha,e,h,r⟩
section
variable {X:Cx}{ms:List Nat}{k rk:Kd}{e:Expr}{m:EM}{i:Nat}{x:Str}{np apos cpos pos pos':Pos}{tg:Expr}
noncomputable def dm (i:Nat) (m:EM):SM:=fun δ=>(m δ).bind fun d=>match d with
 | .lst ds=>some (.nx (δ.set i (some (.lst ds))))
 |_=>none
theorem nS (hi:isA ms i=true) (h:PD X ms .one e m) (hN:X.N.Nodup) (hx:X.N[i]?=some x) (hl:Loc X.env.scope x) (hs:swapsWith e (some (.Name x pos')) pos.line X.env=pure false:=by rfl)
  (hf:X.fn x=true \/X.env.scope.names.lookup x=some .local:=by first|exact .inl rfl|exact .inr rfl|assumption):PDs X ms rk (.Assign [.Name x pos'] e pos) (dm i m):=by
 obtain ⟨te,p,q⟩:=h
 refine ⟨_,eH hN hx hl p hs hf,fun {W} δ σ H0 H D r R hm hq=> ?_⟩
 obtain ⟨h1,h2,h3⟩:=d6 hi
 obtain ⟨d,hd,e⟩:=Option.bind_eq_some_iff.mp hm
 refine q δ σ H0 H _ d R hd fun v H' s g=> ?_
 obtain ⟨a,rfl,hn,c⟩:=g
 cases d<;>simp only [reduceCtorEq,Option.some.injEq] at e
 subst e
 obtain ⟨xs,h,rr⟩:=c
 obtain ⟨Φ,f⟩:=R.foot
 obtain ⟨R',st⟩:=R.chg (P:=[]) (F:=[a]) (H':=H') f (dU h1) (fun _ z=>nomatch z) (fun b o h _=>s b o h) (fun _ z=>nomatch z) (by simp) (fun b hb=> .inr (by rw [List.mem_singleton.mp hb];exact hn)) (.inr (.inr ⟨h2,h3,rfl,xs,_,rfl,h,rr.mono fun _ _ z=>z.elim⟩))
 exact hq _ _ H' st R'
end
end L2
set_option maxHeartbeats 4000000
namespace L2
open PySem PySem.Spec PyProof.Rows
variable {KF:PySem.W.Frag}{W W':Addr->Prop}
section
variable {X:Cx}
end
section
variable {H H0 H0':Hp}{a:Addr}{ob:Obj}{xs:List (List Key×V)}
mutual
theorem Tree.thw (e:H a=some (.frz ob (.dT xs))): ∀{v:V}{d:Dv}{F:List Addr},Tree KF H v d F->Tree KF (upd H a (.dT xs)) v d F
 |_,_,_,.imm r=> .imm (r.thw e)
 |_,_,_,.lst h r=> .lst (by rw [ab (fun z=>by rw [z,e] at h;cases h)];exact h) (ao.thw e r)
 |_,_,_,.dic h r=> .dic (by rw [ab (fun z=>by rw [z,e] at h;cases h)];exact h) (ai.thw e r)
 |_,_,_,.dik h r=> .dik (by rw [ab (fun z=>by rw [z,e] at h;cases h)];exact h) (ai.thw e r)
 |_,_,_,.ins h r=> .ins (by rw [ab (fun z=>by rw [z,e] at h;cases h)];exact h) (ai.thw e r)
theorem ao.thw (e:H a=some (.frz ob (.dT xs))): ∀{v:List V}{d:List Dv}{F:List Addr},ao KF H v d F->ao KF (upd H a (.dT xs)) v d F
 |_,_,_,.nil=> .nil
 |_,_,_,.cons h r=> .cons (Tree.thw e h) (ao.thw e r)
theorem ai.thw (e:H a=some (.frz ob (.dT xs))): ∀{κ:Type}{v:List (κ×V)}{d:List (κ×Dv)}{F:List Addr},ai KF H v d F->ai KF (upd H a (.dT xs)) v d F
 |_,_,_,_,.nil=> .nil
 |_,_,_,_,.cons h r=> .cons (Tree.thw e h) (ai.thw e r)
end
theorem Cell.thw {c:Addr} (e:H a=some (.frz ob (.dT xs))) {d:Dv} (h:Cell KF H c d):Cell KF (upd H a (.dT xs)) c d:=by
 cases d with
 |lst ds=>obtain ⟨ys,h,r⟩:=h;exact ⟨ys,by rw [ab (fun z=>by rw [z,e] at h;cases h)];exact h,RepsF.thw e r⟩
 |dic ds=>obtain ⟨ys,h,r⟩:=h;exact ⟨ys,by rw [ab (fun z=>by rw [z,e] at h;cases h)];exact h,ag.thw e r⟩
 |_=>exact h.elim
theorem Rel.thw {ms:List Nat}{δ:Dt}{σ:St} (R:Rel KF ms W H0' δ σ H) (e:H a=some (.frz ob (.dT xs))) (n: ¬W a) (hk:Same H0 (upd H a (.dT xs))) (h0: ∀b,b≠a->H0' b=H0 b):Rel KF ms W H0 δ σ (upd H a (.dT xs)):=by
 refine ⟨R.len,hk,fun b w=> ?_,fun i d nn hd=> ?_,?_⟩
 ·have z:b≠a:=fun z=>n (z▸w)
  obtain ⟨o,ho,so⟩:=R.soft b w
  exact ⟨o,by rw [ab z];exact ho,so⟩
 ·obtain ⟨v,hv,r⟩:=R.get i d nn hd
  exact ⟨v,hv,r.thw e⟩
 ·obtain ⟨Φ,f⟩:=R.foot
  refine ⟨Φ,fun i b hb=>⟨(f.wr i b hb).1,by rw [<-h0 b (fun z=>n (z▸(f.wr i b hb).1))];exact (f.wr i b hb).2⟩,f.dj,f.nd,fun i d nn hd=> ?_⟩
  obtain ⟨c,hc,o⟩:=f.at_ i d nn hd
  refine ⟨c,hc,?_⟩
  rcases o with ⟨m,ef,cc⟩|⟨m,m3,r⟩|⟨m,m2,ef,xs',ds',rfl,hh,r⟩
  ·exact .inl ⟨m,ef,cc.thw e⟩
  ·exact .inr (.inl ⟨m,m3,r.thw e⟩)
  ·exact .inr (.inr ⟨m,m2,ef,xs',ds',rfl,by rw [ab (fun z=>by rw [z,e] at hh;cases hh)];exact hh,RepsF.thw e r⟩)
end
section
variable {X:Cx}{ms:List Nat}{rk:Kd}{pos:Pos}
end
end L2
set_option maxHeartbeats 4000000
namespace L2
noncomputable def gN' (pl:List Int) (o:Hl) (pc:Nat) (k:List Int):List Int:=(o.filter fun p=>decide (cutR pl p.1=k)).map fun p=>p.1.getD pc 0
end L2
set_option maxHeartbeats 4000000
namespace L2
noncomputable abbrev Sel:=List Int->Option Int
noncomputable def sl (sel:Sel) (pl:List Int) (o:Hl) (pc:Nat) (k:List Int):Int:=(sel (gN' pl o pc k)).getD 0
section
variable {keys few:List Int}{parts:List Hl}{h X:Hl}{pc:Nat}
end
section
variable {co:List Int}{parts:List Hl}{h:Hl}{pc:Nat}
end
end L2
set_option maxHeartbeats 4000000
namespace L2
open PySem PySem.Spec PyProof.Rows
variable {KF:PySem.W.Frag}{W W':Addr->Prop}
theorem nT {ms:List Nat}{σ:St}{H0 H:Hp}{δ:Dt}{i:Nat}{a:Addr}{xs ys:List V}{es:List Dv}{Φ:Nat->List Addr} (R:Rel KF ms W H0 δ σ H) (f:Foot KF ms W H0 δ σ H Φ) (hi:isA ms i=true) (hs:σ[i]?=some (some (.ref a))) (eF:Φ i=[a]) (hx:H a=some (.lst xs))
  (re:RepsF KF (fun b=> ¬W b) H ys es): ∃W':Addr->Prop,Rel KF ms W' H0 (δ.set i (some (.lst es))) σ (L2.upd H a (.lst ys))/\Stp W H W' (L2.upd H a (.lst ys)):=by
 obtain ⟨h1,h2,h3⟩:=d6 hi
 have wa:W a:=(f.wr i a (by rw [eF];exact List.mem_cons_self ..)).1
 have kp:au (fun b=> ¬W b) H (L2.upd H a (.lst ys)):=fun b ob hb k=>by
  rcases k with ⟨ys,rfl⟩|⟨c,u,rfl⟩|k
  ·rw [ab (fun z=>by rw [z,hx] at hb;cases hb)];exact hb
  ·rw [ab (fun z=>by rw [z,hx] at hb;cases hb)];exact hb
  ·rw [ab (fun z=>k (by rw [z];exact wa))];exact hb
 have nw: ∀b,¬W b-> ¬(W b \/b∈[a]):=fun b n z=>by
  rcases z with z|z
  ·exact n z
  ·rw [List.mem_singleton.mp z] at n;exact n wa
 have rn:RepsF KF (fun b=> ¬(W b \/b∈[a])) (L2.upd H a (.lst ys)) ys es:=(re.keep kp).mono fun b _ n=>nw b n
 obtain ⟨R2,st⟩:=R.chg (P:=[a]) (F:=[a]) (H':=L2.upd H a (.lst ys)) f (dU h1) (fun b hb=>by rw [eF];exact hb) (fun b ob h n=>by rw [ab (fun z=>n (by rw [z];exact List.mem_cons_self ..))];exact h)
  (fun b hb=>by rw [List.mem_singleton.mp hb];exact ⟨_,ap,fun _ z=>(nomatch z),fun _ _ z=>(nomatch z)⟩) (by simp) (fun b hb=> .inl hb) (.inr (.inr ⟨h2,h3,rfl,_,_,rfl,ap,rn⟩))
 rw [fS hs] at R2
 exact ⟨_,R2,st⟩
section
variable {X:Cx}{ms:List Nat}{k k1 rk:Kd}{e b v:Expr}{m mb mv:EM}{i:Nat}{x:Str}{np apos cpos pos pos':Pos}
noncomputable def dn (i:Nat) (mk mv:EM):SM:=fun δ=>(mv δ).bind fun v=>(mk δ).bind fun y=>(eVar i δ).bind fun x=>match x,y with
 | .lst ds,.int k=>(ixN ds.length k).bind fun j=>some (.nx (δ.set i (some (.lst (ds.set j v)))))
 |_,_=>none
theorem nU (hi:isA ms i=true) (hx:PE X (.Name x np) (tVar i)) (hk:PD X ms k1 b mb) (hv:PD X ms .any v mv)
  (hs:swapsWithSole [.Subscript (.Name x np) b pos'] v pos.line X.env=pure false:=by rfl) (hw:swappedStores [.Subscript (.Name x np) b pos'] v X.env=pure none:=by rfl)
  (h1:(assignEach [.Subscript (.Name x np) b pos'] X.env).map (·.2)=[assign (.Subscript (.Name x np) b pos') X.env]:=by rfl)
  (ha: ∀v,assign (.Subscript (.Name x np) b pos') X.env v=(do
   let ow<-holding [v] (eval (.Name x np) X.env)
   let iw<-holding [v,ow] (eval b X.env)
   standAt pos'
   holding [v,ow,iw] (setItem ow iw v)
   release [v,ow,iw] []):=by intro _;rfl):PDs X ms rk (.Assign [.Subscript (.Name x np) b pos'] v pos) (dn i mb mv):=by
 obtain ⟨tb,pb,qb⟩:=hk
 obtain ⟨tv,pv,qv⟩:=hv
 refine ⟨_,iG pv (iF hx pb jl ha) hs hw h1,fun {W} δ σ H0 H D r R hm hq=> ?_⟩
 obtain ⟨dv,hv,e⟩:=Option.bind_eq_some_iff.mp hm
 obtain ⟨y,hy,e⟩:=Option.bind_eq_some_iff.mp e
 obtain ⟨z,hz,e⟩:=Option.bind_eq_some_iff.mp e
 have sh: ∃ds kk,z= .lst ds/\y= .int kk:=by
  cases z<;>first|(cases e;done)|(cases y<;>first|(cases e;done)|exact ⟨_,_,rfl,rfl⟩)
 obtain ⟨ds,kk,rfl,rfl⟩:=sh
 obtain ⟨j,hj,e⟩:=Option.bind_eq_some_iff.mp e
 cases e
 refine qv δ σ H0 H _ dv R hv fun w1 H1 s1 g1=> ?_
 have R1:=R.same s1
 obtain ⟨Φ0,f0⟩:=R1.foot
 obtain ⟨a,xs0,ds0,e0,hsa,_,hxs0,_⟩:=Rel.anyl f0 hi (cV hz)
 refine ⟨_,hsa,?_⟩
 refine qb δ σ H0 H1 _ _ R1 hy fun u H2 s2 g2=> ?_
 have R2:=R1.same s2
 obtain ⟨Φ,f⟩:=R2.foot
 obtain ⟨a',xs,ds',e',hsa',eF,hxs,rx⟩:=Rel.anyl f hi (cV hz)
 rw [hsa] at hsa';cases hsa'
 cases e'
 have g2:=g2.bor
 cases g2
 have g1':RepF X.K (fun a=> ¬W a) H2 w1 dv:=RepF.same s2 g1
 refine ⟨a,xs,kk,j,rfl,rfl,hxs,by rw [rx.length];exact hj,?_⟩
 obtain ⟨W9,R3,st⟩:=nT R2 f hi hsa eF hxs (rx.set j g1')
 exact hq W9 σ _ ((Stp.sm (s1.tr s2)).tr st) R3
noncomputable def d7 (i:Nat):EM:=fun δ=>(eVar i δ).bind fun x=>match x with
 | .lst ds=>some (.tup ds)
 |_=>none
theorem nV {p:Pos} (hi:isA ms i=true) (hx:PE X (.Name x np) (tVar i)) (hg:Gl X "tuple") (hm:X.mg "tuple"=none) (he:starEach [.Name x np] X.env=(false,eval (.Name x np) X.env)::starEach [] X.env:=by rfl) (hpl:(backTo pos (starEach [] X.env)).any (·.1)=false:=by rfl):
  PD X ms .any (.Call (.Name "tuple" p) [.Name x np] [] pos) (d7 i):=by
 refine ⟨_,eS cz hg hm bP (bp hx cw he) (by decide) (by decide) he hpl,fun {W} δ σ H0 H Q d R hm hq=> ?_⟩
 obtain ⟨z,hz,e⟩:=Option.bind_eq_some_iff.mp hm
 obtain ⟨Φ,f⟩:=R.foot
 obtain ⟨a,xs,ds,rfl,hsa,eF,hxs,rx⟩:=Rel.anyl f hi (cV hz)
 cases e
 refine ⟨_,hsa,a,xs,rfl,.inl ⟨SqL.of hxs,fun l hl=> ?_⟩⟩
 have s2:=Same.new (o:= .tup xs) hl
 exact hq _ _ s2 (RepF.tup ap (rx.same s2))
end
end L2
set_option maxHeartbeats 4000000
namespace L2
open PySem PySem.Spec PyProof.Rows
variable {KF:PySem.W.Frag}{W W':Addr->Prop}
noncomputable def d8:Dv->Option Key
 | .int i=>some (.inl i)
 | .str x=>some (.inr x)
 |_=>none
theorem nW {S:Addr->Prop}{H:Hp}{v:V}{d:Dv}{k:Key} (r:RepF KF S H v d) (h:d8 d=some k):v=kV k:=by
 cases r<;>simp only [d8,reduceCtorEq,Option.some.injEq] at h
 ·subst h;rfl
 ·subst h;rfl
noncomputable def cI (mk mv:EM):EM:=fun δ=>(mk δ).bind fun x=>(mv δ).bind fun y=>(d8 x).bind fun k=>if y.imm=true then some (.dik [(k,y)]) else none
section
variable {X:Cx}{ms:List Nat}{k1 k2:Kd}{a b:Expr}{ma mb:EM}{pos:Pos}
theorem nX (ha:PD X ms k1 a ma) (hb:PD X ms k2 b mb):PD X ms .frh (.Dict [some a] [b] pos) (cI ma mb):=by
 obtain ⟨ta,pa,qa⟩:=ha
 obtain ⟨tb,pb,qb⟩:=hb
 refine ⟨_,jE (jC pa pb jB) rfl rfl (fun z=>nomatch z) (show 1<=15 by decide),fun {W} δ σ H0 H Q d R hm hq p hp=> ?_⟩
 obtain ⟨x,hx,e⟩:=Option.bind_eq_some_iff.mp hm
 obtain ⟨y,hy,e⟩:=Option.bind_eq_some_iff.mp e
 obtain ⟨k,hk,e⟩:=Option.bind_eq_some_iff.mp e
 split at e
 ·next im=>
  cases e
  have s0:=Same.new (o:= .dK []) hp
  have R0:=R.same s0
  refine qa δ σ H0 _ _ x R0 hx fun v H1 s1 g1=> ?_
  refine qb δ σ H0 H1 _ y (R0.same s1) hy fun u H2 s2 g2=> ?_
  have hp2:H2 p=some (.dK []):=s2 p _ (s1 p _ ap)
  refine ⟨hp2,[(k,u)],?_,(show 1<=15 by decide),?_⟩
  ·rw [nW g1.bor hk];rfl
  ·have st:Same H (L2.upd H2 p (.dK (bN [] [(k,u)]))):=fun c o hc=>by
    rw [ab (aF hc hp)]
    exact s2 c o (s1 c o (s0 c o hc))
   refine hq _ _ st ?_
   have kp:au Imm H2 (L2.upd H2 p (.dK [(k,u)])):=fun c o hc z=>by
    rcases z with ⟨xs,rfl⟩|⟨c',u',rfl⟩|z
    ·rw [ab (fun z=>by rw [z,hp2] at hc;cases hc)];exact hc
    ·rw [ab (fun z=>by rw [z,hp2] at hc;cases hc)];exact hc
    ·exact z.elim
   exact RepF.dik hp (.inl ap) (.cons (((g2.bor.imm im:RepF X.K Imm H2 u y).keep kp).mono fun _ _ z=>z.elim) .nil)
 ·cases e
end
noncomputable def valI (b:List (Key×Int)) (k:Key):Option Int:=(b.find? fun kv=>decide (kv.1=k)).map (·.2)
noncomputable def eqKI (a b:List (Key×Int)):Bool:=a.length==b.length&&a.all fun p=>decide (valI b p.1=some p.2)
noncomputable def kvI (a:List (Key×Int)):List (Key×V):=a.map fun p=>(p.1,V.int p.2)
theorem nY (b:List (Key×Int)) (k:Key):valV (kvI b) k=(valI b k).map V.int:=by
 unfold valV valI kvI
 induction b with
 |nil=>rfl
 |cons p r ih=>
  simp only [List.map_cons,List.find?_cons]
  by_cases h:p.1=k
  ·rw [decide_eq_true h];rfl
  ·rw [decide_eq_false h];exact ih
theorem gB {a:List (Key×Int)}{vs:List (Key×Value)} (r:KV (kvI a) vs):vs.length=a.length:=by
 have:=Paired.length r
 rw [<-this];exact List.length_map ..
theorem gD {A:Around}{s:Shared}{b:List (Key×Int)}{ub:List (Key×Value)} (rb:KV (kvI b) ub): ∀{a:List (Key×Int)}{ua:List (Key×Value)},KV (kvI a) ua->PySem.W.KeqHits A s ub ua (a.all fun p=>decide (valI b p.1=some p.2))
 |[],_,r=>by
  cases r
  exact .nil
 |(k,i)::a,ua,r=>by
  cases r with
  | @cons _ q _ qs h t=>
   obtain ⟨q1,q2⟩:=q
   obtain ⟨e1,t1,e2⟩:=h
   simp only at e1 e2
   subst e1 e2
   have rv:=rb.val k
   rw [nY] at rv
   rw [List.all_cons]
   cases hv:valI b k with
   |none=>
    rw [hv] at rv
    have e:valueAt ub k=none:=RelO.none_of rv
    show PySem.W.KeqHits A s ub _ (false&&_)
    rw [Bool.false_and]
    exact .miss e
   |some j=>
    rw [hv] at rv
    obtain ⟨w',hw,t2,e⟩:=RelO.some_of rv
    subst e
    have ih:=gD (A:=A) (s:=s) rb t
    have e2:decide (some j=some i)=(i==j):=by
     by_cases h:i=j
     ·subst h;simp
     ·have h2: ¬(some j=some i):=fun z=>h (Option.some.inj z).symm
      rw [decide_eq_false h2]
      exact (beq_eq_false_iff_ne.mpr h).symm
    show PySem.W.KeqHits A s ub _ (decide (some j=some i)&&_)
    rw [e2]
    exact .hit hw (SeqAt.EqAt.int_int i t1 j t2) ih
noncomputable def rNeK:R2:=fun x y H Q=> ∃p q a b,x= .ref p/\y= .ref q/\Rd H p (.dK (kvI a))/\Rd H q (.dK (kvI b))/\Q (.bl (!eqKI a b)) H
theorem nZ {X:Cx} (hu:X.A.units+64<cLine):OpR X (compareOp .NotEq) rNeK:=by
 intro pins s σ H x y v u Q I rx ry h
 obtain ⟨p,q,a,b,rfl,rfl,hp,hq,hQ⟩:=h
 cases rx
 cases ry
 obtain ⟨_,z1,vs,r1,d1⟩:=hp.ok I.hok
 obtain ⟨_,z2,us,r2,d2⟩:=hq.ok I.hok
 refine PySem.W.keq_ne z1 z2 d1 d2 (by omega) (fun _=>gD r2 r1) ⟨.bl (!eqKI a b),H,I,?_,hQ⟩
 show Value.bool _=Value.bool _
 rw [gB r1,gB r2]
 rfl
noncomputable def kvOf:List (Key×Dv)->Option (List (Key×Int))
 |[]=>some []
 |(k,.int i)::r=>(kvOf r).map ((k,i):: ·)
 |_=>none
theorem d9 {S:Addr->Prop}{H:Hp}: ∀{xs:List (Key×V)}{ds:List (Key×Dv)}{a:List (Key×Int)},ag KF S H xs ds->kvOf ds=some a->xs=kvI a
 |_,_,_,.nil,h=>by cases h;rfl
 |_,_,_,.cons q t,h=>by
  cases q<;>simp only [kvOf,reduceCtorEq] at h
  obtain ⟨r,hr,rfl⟩:=Option.map_eq_some_iff.mp h
  rw [d9 t hr]
  rfl
noncomputable def dNeX:Dv->Dv->Option Dv
 | .dik a,.dik b=>(kvOf a).bind fun a=>(kvOf b).bind fun b=>some (.bl (!eqKI a b))
 |x,y=>dNe x y
noncomputable def rNeX (KF:PySem.W.Frag):R2:=fun x y H Q=>rNeF KF x y H Q \/rNeK x y H Q
theorem n4 {X:Cx} (hu:X.A.units+64<cLine):OpR X (compareOp .NotEq) (rNeX X.K):=(fo hu).or (nZ hu)
theorem n5:OpD KF (rNeX KF) dNeX:=by
 intro H x y dx dy d Q rx ry h hq
 by_cases hd: ∃a b,dx= .dik a/\dy= .dik b
 ·obtain ⟨a,b,rfl,rfl⟩:=hd
  obtain ⟨a',ha,h⟩:=Option.bind_eq_some_iff.mp h
  obtain ⟨b',hb,h⟩:=Option.bind_eq_some_iff.mp h
  cases h
  cases rx with
  |dik _ h1 q1=>
   cases ry with
   |dik _ h2 q2=>
    rw [d9 q1 ha] at h1
    rw [d9 q2 hb] at h2
    exact .inr ⟨_,_,a',b',rfl,rfl,h1,h2,hq _ (.bl _)⟩
 ·refine .inl (fz H x y dx dy d Q rx ry ?_ hq)
  unfold dNeX at h
  split at h
  ·next a b=>exact absurd ⟨a,b,rfl,rfl⟩ hd
  ·exact h
end L2
set_option maxHeartbeats 4000000
namespace K01
open PySem L2
noncomputable def top (i:Nat):Stmt:=PySem.Challenge.pw_deltahouse_k01_a_row.main.body.getD i (.Pass ⟨0,0,0,0⟩)
structure Blt (mg:Str->Option Value):Prop where
 all_:mg "all"=none
 bool_:mg "bool"=none
 int_:mg "int"=none
 isinstance_:mg "isinstance"=none
 len_:mg "len"=none
 list_:mg "list"=none
 range_:mg "range"=none
 str_:mg "str"=none
 tuple_:mg "tuple"=none
noncomputable abbrev bV:Stmt:=top 2
theorem n6:aG ["thing"] ["thing"] (am bV):=⟨rfl,rfl,rfl,by decide+kernel,rfl,by decide+kernel,by decide+kernel⟩
noncomputable abbrev bW:Stmt:=top 5
theorem gE:aG ["_law_cell","_law_k","_law_number_here"] ["_law_cell","_law_k"] (am bW):=⟨rfl,rfl,rfl,by decide+kernel,rfl,by decide+kernel,by decide+kernel⟩
noncomputable abbrev bX:Stmt:=top 6
theorem gF:aG ["_law_cell","_law_scale"] ["_law_cell"] (am bX):=⟨rfl,rfl,rfl,by decide+kernel,rfl,by decide+kernel,by decide+kernel⟩
noncomputable abbrev bY:Stmt:=top 8
theorem gG:aG ["_law_numbers_here","_law_place","_law_thing","_law_made"] ["_law_numbers_here","_law_place","_law_thing"] (am bY):=⟨rfl,rfl,rfl,by decide+kernel,rfl,by decide+kernel,by decide+kernel⟩
noncomputable abbrev bZ:Stmt:=top 10
theorem n9:aG ["_law_found","_law_due"] ["_law_found","_law_due"] (am bZ):=⟨rfl,rfl,rfl,by decide+kernel,rfl,by decide+kernel,by decide+kernel⟩
noncomputable abbrev b9:Stmt:=top 3
theorem oa:aG ["thing","width"] ["thing","width"] (am b9):=⟨rfl,rfl,rfl,by decide+kernel,rfl,by decide+kernel,by decide+kernel⟩
noncomputable abbrev ca:Stmt:=top 7
theorem oe:aG ["_law_cell","_law_many"] ["_law_cell","_law_many"] (am ca):=⟨rfl,rfl,rfl,by decide+kernel,rfl,by decide+kernel,by decide+kernel⟩
noncomputable abbrev cb:Stmt:=top 9
theorem gH:aG ["_law_numbers_here","_law_way","_law_place","_law_some"] ["_law_numbers_here","_law_way","_law_place"] (am cb):=⟨rfl,rfl,rfl,by decide+kernel,rfl,by decide+kernel,by decide+kernel⟩
noncomputable abbrev bi:Stmt:=top 11
theorem aU:aG ["_law_script","_law_cells","_law_k","_law_cell","_law_width","_law_numbers_here","_law_row","_law_asked","_law_way","_law_place","_law_thing"] ["_law_script"] (am bi):=⟨rfl,rfl,rfl,by decide+kernel,rfl,by decide+kernel,by decide+kernel⟩
noncomputable def gI:SM:=
 (sRet (eImm (eAnd (eIsi "int" (eVar 0)) (eUn dNot (eIsi "bool" (eVar 0))))))
noncomputable def cJ:List Dv->Option Dv:=ay 1 1 gI
noncomputable def gJ:SM:=
 (sSeq (sSet 2 (eOp dMod (eOp dMul (eOp dAdd (eOp dAdd (eVar 0) (eVar 1)) (eC (.int 1))) (eOp dAdd (eC (.int 48271)) (eOp dMul (eOp dMul (eC (.int 2)) (eVar 1)) (eVar 1)))) (eC (.int 2147483647))))
  (sRet (eOp dMod (eOp dMul (eVar 2) (eVar 2)) (eC (.int 2147483629)))))
noncomputable def bI:List Dv->Option Dv:=ay 3 2 gJ
noncomputable def gK:SM:=
 (sSeq (sSet 1 (eOp dIx (bw (ad (eC (.int 1)) (ad (eC (.int 1)) (ad (eC (.int 1)) (ad (eOp dPow (eC (.int 10)) (eC (.int 9))) (ad (eOp dPow (eC (.int 10)) (eC (.int 54))) (ad (eOp dMul (eOp dMul (eOp dPow (eC (.int 10)) (eC (.int 64))) (eOp dPow (eC (.int 10)) (eC (.int 64)))) (eOp dPow (eC (.int 10)) (eC (.int 64)))) aNil))))))) (eOp dMod (eOp dDiv (eVar 0) (eC (.int 2000003))) (eC (.int 6)))))
  (sRet (eOp dAdd (eOp dMul (eOp dSub (eOp dMod (eVar 0) (eC (.int 2000003))) (eC (.int 1000001))) (eVar 1)) (eOp dMod (eOp dMod (eVar 0) (eC (.int 11))) (eC (.int 2))))))
noncomputable def cK:List Dv->Option Dv:=ay 2 1 gK
noncomputable def gL:SM:=
 (sSeq (dm 3 (ak aQ (ad (eVar 0) aNil)))
  (sSeq (dn 3 (eVar 1) (eVar 2))
  (sRet (d7 3))))
noncomputable def ce:List Dv->Option Dv:=ay 4 3 gL
noncomputable def gM:SM:=
 (sRet (eImm (eAnd (eIsi "bool" (eVar 0)) (eOp dEq (eVar 0) (eVar 1)))))
noncomputable def cf:List Dv->Option Dv:=ay 2 2 gM
noncomputable def ee:EM:=
 (ak cJ (ad (eVar 0) aNil))
noncomputable def dq:SM:=
 (sSeq (sIf (tnot (tOf (eIsi "tuple" (eVar 0))))
   (sRet (eC (.bl false)))
   aL)
  (sSeq (sIf (tor (tOf (eOp dNe (ak fLen (ad (eVar 0) aNil)) (eVar 1))) (tor (tOf (eOp dLt (ak fLen (ad (eVar 0) aNil)) (eC (.int 1)))) (tOf (eOp dGt (ak fLen (ad (eVar 0) aNil)) (eC (.int 8))))))
   (sRet (eC (.bl false)))
   aL)
  (sRet (ak fAll (ad (bF [none] (iT (eVar 0)) (gN 0) tyes ee) aNil)))))
noncomputable def aV:List Dv->Option Dv:=ay 2 2 dq
noncomputable def eg:EM:=
 (eOp dSub (eOp dMod (eOp dDiv (eVar 1) (eOp dAdd (eVar 0) (eC (.int 1)))) (eC (.int 3))) (eC (.int 1)))
noncomputable def eh:EM:=
 (ak cK (ad (ak bI (ad (eVar 1) (ad (eVar 0) aNil))) aNil))
noncomputable def ej:SM:=
 (sSeq (sIf (tOf (eOp dEq (eOp dMod (eVar 0) (eC (.int 3))) (eC (.int 0))))
   (sRet (bF [none,some 0] (iR1 (eVar 1)) (gN 0) tyes eg))
   aL)
  (sRet (bF [none,some 0] (iR1 (eVar 1)) (gN 0) tyes eh)))
noncomputable def cg:List Dv->Option Dv:=ay 2 2 ej
noncomputable def bJ:SM:=
 (sSeq (sIf (tOf (eOp dEq (eVar 1) (eC (.int 0))))
   (sRet (ak bf (ad (eSl (eVar 0) (cD (eC (.int 1))) cY) aNil)))
   aL)
  (sSeq (sIf (tOf (eOp dEq (eVar 1) (eC (.int 1))))
   (sRet (ak bf (ad (eOp bD (eVar 0) (bw (ad (eVar 2) aNil))) aNil)))
   aL)
  (sSeq (sIf (tOf (eOp dEq (eVar 1) (eC (.int 2))))
   (sRet (ak aQ (ad (eVar 0) aNil)))
   aL)
  (sSeq (sIf (tOf (eOp dLt (eVar 1) (eC (.int 8))))
   (sRet (ak ce (ad (eVar 0) (ad (eVar 2) (ad (eOp dIx (eLst (ad (eC (.bl true)) (ad (eC (.bl false)) (ad (eC .non) (ad (eC (.str "1")) (ad (eTup (ad (eC (.int 1)) aNil)) aNil)))))) (eOp dSub (eVar 1) (eC (.int 3)))) aNil)))))
   aL)
  (sSeq (sIf (tOf (eOp dEq (eVar 1) (eC (.int 8))))
   (sRet (ak ce (ad (eVar 0) (ad (eVar 2) (ad (bw (ad (eVar 2) aNil)) aNil)))))
   aL)
  (sSeq (sSet 3 (eLst (ad (eOp dIx (eVar 0) (eC (.int 0))) (ad (eC .non) (ad (eC (.bl true)) (ad (ak fStr (ad (eOp dIx (eVar 0) (eC (.int 0))) aNil)) (ad (cI (eOp dIx (eVar 0) (eC (.int 0))) (eC (.int 1))) (ad (eTup (ad (ak bf (ad (eVar 0) aNil)) aNil)) (ad (eTup aNil) aNil)))))))))
  (sRet (eOp dIx (eVar 3) (eOp dSub (eVar 1) (eC (.int 9)))))))))))
noncomputable def M_w_other:List Dv->Option Dv:=ay 4 3 bJ
noncomputable def em:SM:=
 (sIf (tnot (tOf (ak cf (ad (ak aV (ad (eVar 6) (ad (eVar 7) aNil))) (ad (eOp dEq (eVar 7) (eVar 4)) aNil)))))
   (sRet (eC (.bl false)))
   aL)
noncomputable def et:SM:=
 (sSeq (sSet 3 (ak bI (ad (eOp dIx (eVar 1) (eVar 2)) (ad (eVar 2) aNil))))
  (sSeq (sSet 4 (eOp dAdd (eC (.int 1)) (eOp dMod (eVar 3) (eC (.int 8)))))
  (sSeq (sSet 5 (ak cg (ad (eOp dDiv (eVar 3) (eC (.int 8))) (ad (eVar 4) aNil))))
  (sSeq (sSet 6 (ak bf (ad (eVar 5) aNil)))
  (sSeq (sFor (iR2 (eC (.int 1)) (eC (.int 9))) (gN 7) em)
  (sSeq (sSet 8 (eOp dMod (eOp dDiv (eVar 3) (eC (.int 64))) (eC (.int 16))))
  (sSeq (sSet 9 (eOp dMod (eOp dDiv (eVar 3) (eC (.int 1024))) (eVar 4)))
  (sSeq (sSet 10 (ak M_w_other (ad (eVar 5) (ad (eVar 8) (ad (eVar 9) aNil)))))
  (sIf (tor (tnot (tOf (ak cf (ad (ak aV (ad (eVar 10) (ad (eVar 4) aNil))) (ad (eC (.bl false)) aNil))))) (tOf (eOp dNeX (eVar 10) (ak M_w_other (ad (eVar 5) (ad (eVar 8) (ad (eVar 9) aNil)))))))
   (sRet (eC (.bl false)))
   aL)))))))))
noncomputable def gO:SM:=
 (sSeq (sSet 1 (eOp bD (ak aQ (ad (eSl (eVar 0) cY (cD (eC (.int 63)))) aNil)) (bw (ad (eC (.int 4)) (ad (eC (.int 9)) aNil)))))
  (sSeq (sFor (iR1 (ak fLen (ad (eVar 1) aNil))) (gN 2) et)
  (sRet (eC (.bl true)))))
noncomputable def ci:List Dv->Option Dv:=ay 11 1 gO
section
variable {P:Program}{w:World}{K:PySem.W.Frag}{mg:Str->Option Value}{base:Heap}
theorem og {f:Addr}{fd:FuncData}{t_WIDEST:Tok} (F:Fun K "is_whole" "is_whole" bV f fd) (B:Blt mg) (G_WIDEST:mg "WIDEST"=some (.int 8 t_WIDEST)):
  FnOk P w K mg base CX0 1 f fd ["thing"] (spD K .imm cJ):=
 bG (rk:= .imm) (k:=0) [] F n6 rfl rfl fun cdv A outer s H E hr=>
   (av (aM (fv (fB (db "int" (aa 0 rfl (pv 0)) rfl B.isinstance_ rfl B.int_ j2) (fA (j7 (db "bool" (aa 0 rfl (pv 0)) rfl B.isinstance_ rfl B.bool_ fk))))) (Kd.le.refl _) az))
theorem oh {f:Addr}{fd:FuncData}{t_WIDEST:Tok} (F:Fun K "_law_mixed" "_law_mixed" bW f fd) (B:Blt mg) (G_WIDEST:mg "WIDEST"=some (.int 8 t_WIDEST)):
  FnOk P w K mg base CX0 1 f fd ["_law_cell","_law_k"] (spD K .imm bI):=
 bG (rk:= .imm) (k:=0) [] F gE rfl rfl fun cdv A outer s H E hr=>
   (ar (aR (i:=2) rfl (PD.le (ah aN aP (ah bu bA (ah bM bR (ah bM bR (aa 0 rfl (pv 0)) (aa 1 rfl (pv 1))) af) (ah bM bR af (ah bu bA (ah bu bA af (aa 1 rfl (pv 1))) (aa 1 rfl (pv 1))))) af) Kd.le.imm_any) (Kd.le.refl _) gE.nd rfl (Or.inl rfl))
   (av (aM (ah aN aP (ah bu bA (aa 2 rfl (pv 2)) (aa 2 rfl (pv 2))) af) (Kd.le.refl _) az)))
theorem oi {f:Addr}{fd:FuncData}{t_WIDEST:Tok} (F:Fun K "_law_number" "_law_number" bX f fd) (B:Blt mg) (G_WIDEST:mg "WIDEST"=some (.int 8 t_WIDEST)):
  FnOk P w K mg base CX0 1 f fd ["_law_cell"] (spD K .imm cK):=
 bG (rk:= .imm) (k:=0) [] F gF rfl rfl fun cdv A outer s H E hr=>
   (ar (aR (i:=1) rfl (PD.le (bB (cX (k:= .bor) (ae (PD.le af (Kd.le.bor _)) (ae (PD.le af (Kd.le.bor _)) (ae (PD.le af (Kd.le.bor _)) (ae (PD.le (ah cA cC af af) (Kd.le.bor _)) (ae (PD.le (ah cA cC af af) (Kd.le.bor _)) (ae (PD.le (ah bu bA (ah bu bA (ah cA cC af af) (ah cA cC af af)) (ah cA cC af af)) (Kd.le.bor _)) aj))))))) (ah aN aP (ah cr cB (aa 0 rfl (pv 0)) af) af) (fun _ _=>rfl)) Kd.le.imm_any) (Kd.le.refl _) gF.nd rfl (Or.inl rfl))
   (av (aM (ah bM bR (ah bu bA (ah cN cW (ah aN aP (aa 0 rfl (pv 0)) af) af) (aa 1 rfl (pv 1))) (ah aN aP (ah aN aP (aa 0 rfl (pv 0)) af) af)) (Kd.le.refl _) az)))
theorem oj {f:Addr}{fd:FuncData}{t_WIDEST:Tok} (F:Fun K "_law_put" "_law_put" bY f fd) (B:Blt mg) (G_WIDEST:mg "WIDEST"=some (.int 8 t_WIDEST)):
  FnOk P w K mg base CX0 1 f fd ["_law_numbers_here","_law_place","_law_thing"] (spA K ce):=
 gy (k:=0) [2003] F gG rfl rfl fun cdv A outer s H E hr=>
   (ar (nS (i:=3) rfl (bm (k1:= .bor) dz dL rfl B.list_ dD (ae (PD.le (aa 0 rfl (pv 0)) (Kd.le.bor _)) aj)) gG.nd rfl (Or.inl rfl))
   (ar (nU rfl (pv 3) (aa 1 rfl (pv 1)) (aa 2 rfl (pv 2)))
   (av (bo (nV rfl (pv 3) rfl B.tuple_) (Kd.le.refl _)))))
theorem om {f:Addr}{fd:FuncData}{t_WIDEST:Tok} (F:Fun K "_law_said" "_law_said" bZ f fd) (B:Blt mg) (G_WIDEST:mg "WIDEST"=some (.int 8 t_WIDEST)):
  FnOk P w K mg base CX0 1 f fd ["_law_found","_law_due"] (spD K .imm cf):=
 bG (rk:= .imm) (k:=0) [] F n9 rfl rfl fun cdv A outer s H E hr=>
   (av (aM (fv (fB (db "bool" (aa 0 rfl (pv 0)) rfl B.isinstance_ rfl B.bool_ fk) (fA (fx (bv hr.units) bx (aa 0 rfl (pv 0)) (aa 1 rfl (pv 1)) (aJ _))))) (Kd.le.refl _) az))
theorem on {f:Addr}{fd:FuncData}{t_WIDEST:Tok} (F:Fun K "is_row" "is_row" b9 f fd) (B:Blt mg) (G_WIDEST:mg "WIDEST"=some (.int 8 t_WIDEST)) (D_is_whole:Def P w K mg base 1 "is_whole" ["thing"] (spD K .imm cJ)):
  FnOk P w K mg base CX0 2 f fd ["thing","width"] (spD K .imm aV):=
 bG (rk:= .imm) (k:=1) [] F oa rfl rfl fun cdv A outer s H E hr=>
   (ar (bb (dH (dG (db "tuple" (aa 0 rfl (pv 0)) rfl B.isinstance_ rfl B.tuple_ bP)))
    (av (aM be (Kd.le.refl _) az))
    ba)
   (ar (bb (PDw.pt (dI (aZ (fo hr.units) fz (cE (k1:= .bor) cP cZ rfl B.len_ cT (ae (PD.le (aa 0 rfl (pv 0)) (Kd.le.bor _)) aj)) (aa 1 rfl (pv 1)) (aJ _)) (dI (aZ eK fy (cE (k1:= .bor) cP cZ rfl B.len_ cT (ae (PD.le (aa 0 rfl (pv 0)) (Kd.le.bor _)) aj)) af (aJ _)) (fC (aZ iR j5 (cE (k1:= .bor) cP cZ rfl B.len_ cT (ae (PD.le (aa 0 rfl (pv 0)) (Kd.le.bor _)) aj)) (PE.pd_c (ie (v:= .int 8) rfl G_WIDEST ⟨_,rfl⟩) fun _=> .int _) (aJ _))))))
    (av (aM be (Kd.le.refl _) az))
    ba)
   (av (aM (cE (k1:= .bor) (ky rfl) kz rfl B.all_ j1 (ae (PD.le (dS ["number"] [none] [] (hc:=rfl) (hi:=(kc (aa 0 rfl (pv 0)))) (hg:=fun _ _ _ _=>(cF rfl (cp (i:=0) (show (["number"]:List Str).Nodup by decide+kernel) rfl (Or.inl rfl)))) (ht:=fun _ _ _ _=>dR) (he:=fun _ _ _ _=>(bg (k1:= .bor) D_is_whole (hr.mono (by decide)) az (ae (PD.le (aa 0 rfl (pv 0)) (Kd.le.bor _)) aj))) (hz:=(dQ 0)) (ck:=rfl) (hp:=rfl) (hz':=rfl)) (Kd.le.bor _)) aj)) (Kd.le.refl _) az))))
theorem oo {f:Addr}{fd:FuncData}{t_WIDEST:Tok} (F:Fun K "_law_numbers" "_law_numbers" ca f fd) (B:Blt mg) (G_WIDEST:mg "WIDEST"=some (.int 8 t_WIDEST)) (D_w_number:Def P w K mg base 1 "_law_number" ["_law_cell"] (spD K .imm cK)) (D_w_mixed:Def P w K mg base 1 "_law_mixed" ["_law_cell","_law_k"] (spD K .imm bI)):
  FnOk P w K mg base CX0 2 f fd ["_law_cell","_law_many"] (spD K .one cg):=
 bG (rk:= .one) (k:=1) [] F oe rfl rfl fun cdv A outer s H E hr=>
   (ar (bb (aZ (bv hr.units) bx (ah aN aP (aa 0 rfl (pv 0)) af) af (aJ _))
    (av (aM (dS ["_law_j","_law_cell"] [none,some 0] [] (hc:=rfl) (hi:=(dN rfl B.range_ (aa 1 rfl (pv 1)))) (hg:=fun _ _ _ _=>(cF rfl (cp (i:=0) (show (["_law_j","_law_cell"]:List Str).Nodup by decide+kernel) rfl (Or.inl rfl)))) (ht:=fun _ _ _ _=>dR) (he:=fun _ _ _ _=>(ah cN cW (ah aN aP (ah cr cB (aa 1 rfl (pv 1)) (ah bM bR (aa 0 rfl (pv 0)) af)) af) af)) (hz:=(dQ 0)) (ck:=rfl) (hp:=rfl) (hz':=rfl)) (Kd.le.refl _) dW))
    ba)
   (av (aM (dS ["_law_j","_law_cell"] [none,some 0] [] (hc:=rfl) (hi:=(dN rfl B.range_ (aa 1 rfl (pv 1)))) (hg:=fun _ _ _ _=>(cF rfl (cp (i:=0) (show (["_law_j","_law_cell"]:List Str).Nodup by decide+kernel) rfl (Or.inl rfl)))) (ht:=fun _ _ _ _=>dR) (he:=fun _ _ _ _=>(bg (k1:= .bor) D_w_number (hr.mono (by decide)) az (ae (PD.le (bg (k1:= .bor) D_w_mixed (hr.mono (by decide)) az (ae (PD.le (aa 1 rfl (pv 1)) (Kd.le.bor _)) (ae (PD.le (aa 0 rfl (pv 0)) (Kd.le.bor _)) aj))) (Kd.le.bor _)) aj))) (hz:=(dQ 0)) (ck:=rfl) (hp:=rfl) (hz':=rfl)) (Kd.le.refl _) dW)))
theorem oq {f:Addr}{fd:FuncData}{t_WIDEST:Tok} (F:Fun K "_law_other" "_law_other" cb f fd) (B:Blt mg) (G_WIDEST:mg "WIDEST"=some (.int 8 t_WIDEST)) (D_w_put:Def P w K mg base 1 "_law_put" ["_law_numbers_here","_law_place","_law_thing"] (spA K ce)):
  FnOk P w K mg base CX0 2 f fd ["_law_numbers_here","_law_way","_law_place"] (spA K M_w_other):=
 gy (k:=1) [] F gH rfl rfl fun cdv A outer s H E hr=>
   (ar (bb (aZ (bv hr.units) bx (aa 1 rfl (pv 1)) af (aJ _))
    (av (bo (PD.le (bm (k1:= .bor) cz c0 rfl B.tuple_ bP (ae (PD.le (fH (aa 0 rfl (pv 0)) (fG af) fF) (Kd.le.bor _)) aj)) Kd.le.imm_any) (Kd.le.refl _)))
    ba)
   (ar (bb (aZ (bv hr.units) bx (aa 1 rfl (pv 1)) af (aJ _))
    (av (bo (PD.le (bm (k1:= .bor) cz c0 rfl B.tuple_ bP (ae (PD.le (fI (aa 0 rfl (pv 0)) (cX (k:= .bor) (ae (PD.le (aa 2 rfl (pv 2)) (Kd.le.bor _)) aj))) (Kd.le.bor _)) aj)) Kd.le.imm_any) (Kd.le.refl _)))
    ba)
   (ar (bb (aZ (bv hr.units) bx (aa 1 rfl (pv 1)) af (aJ _))
    (av (bo (PD.le (bm (k1:= .bor) dz dL rfl B.list_ dD (ae (PD.le (aa 0 rfl (pv 0)) (Kd.le.bor _)) aj)) Kd.le.one_any) (Kd.le.refl _)))
    ba)
   (ar (bb (aZ eK fy (aa 1 rfl (pv 1)) af (aJ _))
    (av (bo (dl D_w_put (hr.mono (by decide)) (ae (aa 0 rfl (pv 0)) (ae (aa 2 rfl (pv 2)) (ae (bB (fD (ae (PD.le be Kd.le.imm_any) (ae (PD.le be Kd.le.imm_any) (ae (PD.le fw Kd.le.imm_any) (ae (PD.le j4 Kd.le.imm_any) (ae (PD.le (dJ (ae af aj) (.inl rfl)) Kd.le.imm_any) aj)))))) (ah cN cW (aa 1 rfl (pv 1)) af) (fun _ _=>rfl)) aj)))) (Kd.le.refl _)))
    ba)
   (ar (bb (aZ (bv hr.units) bx (aa 1 rfl (pv 1)) af (aJ _))
    (av (bo (dl D_w_put (hr.mono (by decide)) (ae (aa 0 rfl (pv 0)) (ae (aa 2 rfl (pv 2)) (ae (PD.le (cX (k:= .bor) (ae (PD.le (aa 2 rfl (pv 2)) (Kd.le.bor _)) aj)) Kd.le.one_any) aj)))) (Kd.le.refl _)))
    ba)
   (ar (aR (i:=3) rfl (fD (ae (bB (aa 0 rfl (pv 0)) af (fun _ _=>rfl)) (ae (PD.le fw Kd.le.imm_any) (ae (PD.le be Kd.le.imm_any) (ae (PD.le (bm (k1:= .bor) iW kA rfl B.str_ j3 (ae (PD.le (bB (aa 0 rfl (pv 0)) af (fun _ _=>rfl)) (Kd.le.bor _)) aj)) Kd.le.imm_any) (ae (PD.le (nX (bB (aa 0 rfl (pv 0)) af (fun _ _=>rfl)) af) Kd.le.frh_any) (ae (PD.le (dJ (ae (bm (k1:= .bor) cz c0 rfl B.tuple_ bP (ae (PD.le (aa 0 rfl (pv 0)) (Kd.le.bor _)) aj)) aj) (.inl rfl)) Kd.le.imm_any) (ae (PD.le (dJ aj (.inl rfl)) Kd.le.imm_any) aj)))))))) (Kd.le.refl _) gH.nd rfl (Or.inl rfl))
   (av (bo (bB (aa 3 rfl (pv 3)) (ah cN cW (aa 1 rfl (pv 1)) af) (fun _ _=>rfl)) (Kd.le.refl _)))))))))
theorem ot {f:Addr}{fd:FuncData}{t_WIDEST:Tok} (F:Fun K "law" "law" bi f fd) (B:Blt mg) (G_WIDEST:mg "WIDEST"=some (.int 8 t_WIDEST)) (D_w_mixed:Def P w K mg base 1 "_law_mixed" ["_law_cell","_law_k"] (spD K .imm bI)) (D_w_numbers:Def P w K mg base 2 "_law_numbers" ["_law_cell","_law_many"] (spD K .one cg)) (D_w_said:Def P w K mg base 1 "_law_said" ["_law_found","_law_due"] (spD K .imm cf)) (D_is_row:Def P w K mg base 2 "is_row" ["thing","width"] (spD K .imm aV)) (D_w_other:Def P w K mg base 2 "_law_other" ["_law_numbers_here","_law_way","_law_place"] (spA K M_w_other)):
  FnOk P w K mg base CX0 3 f fd ["_law_script"] (spD K .imm ci):=
 bG (rk:= .imm) (k:=2) [] F aU rfl rfl fun cdv A outer s H E hr=>
   (ar (aR (i:=1) rfl (PD.le (fI (bm (k1:= .bor) dz dL rfl B.list_ dD (ae (PD.le (fH (aa 0 rfl (pv 0)) fF (fG af)) (Kd.le.bor _)) aj)) (cX (k:= .bor) (ae (PD.le af (Kd.le.bor _)) (ae (PD.le af (Kd.le.bor _)) aj)))) Kd.le.one_any) (Kd.le.refl _) aU.nd rfl (Or.inl rfl))
   (ar (fM PassesOwn.never rfl (dN rfl B.range_ (cE (k1:= .bor) cP cZ rfl B.len_ cT (ae (PD.le (aa 1 rfl (pv 1)) (Kd.le.bor _)) aj))) (cF rfl (cp (i:=2) aU.nd rfl (Or.inl rfl)))
   (ar (aR (i:=3) rfl (PD.le (bg (k1:= .bor) D_w_mixed (hr.mono (by decide)) az (ae (PD.le (bB (aa 1 rfl (pv 1)) (aa 2 rfl (pv 2)) (fun _ _=>rfl)) (Kd.le.bor _)) (ae (PD.le (aa 2 rfl (pv 2)) (Kd.le.bor _)) aj))) Kd.le.imm_any) (Kd.le.refl _) aU.nd rfl (Or.inl rfl))
   (ar (aR (i:=4) rfl (PD.le (ah bM bR af (ah aN aP (aa 3 rfl (pv 3)) af)) Kd.le.imm_any) (Kd.le.refl _) aU.nd rfl (Or.inl rfl))
   (ar (aR (i:=5) rfl (PD.le (bg (k1:= .bor) D_w_numbers (hr.mono (by decide)) dW (ae (PD.le (ah cr cB (aa 3 rfl (pv 3)) af) (Kd.le.bor _)) (ae (PD.le (aa 4 rfl (pv 4)) (Kd.le.bor _)) aj))) Kd.le.one_any) (Kd.le.refl _) aU.nd rfl (Or.inl rfl))
   (ar (aR (i:=6) rfl (PD.le (bm (k1:= .bor) cz c0 rfl B.tuple_ bP (ae (PD.le (aa 5 rfl (pv 5)) (Kd.le.bor _)) aj)) Kd.le.imm_any) (Kd.le.refl _) aU.nd rfl (Or.inl rfl))
   (ar (fM PassesOwn.never rfl (kh rfl B.range_ af af) (cF rfl (cp (i:=7) aU.nd rfl (Or.inl rfl)))
   (av (bb (dH (dG (bg (k1:= .bor) D_w_said (hr.mono (by decide)) az (ae (PD.le (bg (k1:= .bor) D_is_row (hr.mono (by decide)) az (ae (PD.le (aa 6 rfl (pv 6)) (Kd.le.bor _)) (ae (PD.le (aa 7 rfl (pv 7)) (Kd.le.bor _)) aj))) (Kd.le.bor _)) (ae (PD.le (fx (bv hr.units) bx (aa 7 rfl (pv 7)) (aa 4 rfl (pv 4)) (aJ _)) (Kd.le.bor _)) aj)))))
    (av (aM be (Kd.le.refl _) az))
    ba)))
   (ar (aR (i:=8) rfl (PD.le (ah aN aP (ah cr cB (aa 3 rfl (pv 3)) af) af) Kd.le.imm_any) (Kd.le.refl _) aU.nd rfl (Or.inl rfl))
   (ar (aR (i:=9) rfl (PD.le (ah aN aP (ah cr cB (aa 3 rfl (pv 3)) af) (aa 4 rfl (pv 4))) Kd.le.imm_any) (Kd.le.refl _) aU.nd rfl (Or.inl rfl))
   (ar (aR (i:=10) rfl (dl D_w_other (hr.mono (by decide)) (ae (aa 5 rfl (pv 5)) (ae (aa 8 rfl (pv 8)) (ae (aa 9 rfl (pv 9)) aj)))) (Kd.le.refl _) aU.nd rfl (Or.inl rfl))
   (av (bb (PDw.pt (dI (dH (dG (bg (k1:= .bor) D_w_said (hr.mono (by decide)) az (ae (PD.le (bg (k1:= .bor) D_is_row (hr.mono (by decide)) az (ae (PD.le (aa 10 rfl (pv 10)) (Kd.le.bor _)) (ae (PD.le (aa 4 rfl (pv 4)) (Kd.le.bor _)) aj))) (Kd.le.bor _)) (ae (PD.le be (Kd.le.bor _)) aj))))) (fC (aZ (n4 hr.units) n5 (aa 10 rfl (pv 10)) (dl D_w_other (hr.mono (by decide)) (ae (aa 5 rfl (pv 5)) (ae (aa 8 rfl (pv 8)) (ae (aa 9 rfl (pv 9)) aj)))) (aJ _)))))
    (av (aM be (Kd.le.refl _) az))
    ba)))))))))))
   (av (aM be (Kd.le.refl _) az))))
end
end K01
set_option maxHeartbeats 1000000
namespace K01
open PySem L2
theorem gP (c k:Int) (k0:0<=k) (k1:k<=1000): ∃x:Int,bI [.int c,.int k]=some (.int x)/\0<=x/\x<2147483629:=by
 have a:0<=2*k*k:=Int.mul_nonneg (by omega) k0
 have b:2*k*k<=2000*1000:=Int.mul_le_mul (by omega) k1 k0 (by omega)
 obtain ⟨y0,y1⟩:=bh ((c+k+1)*(48271+2*k*k)) 2147483647 (by decide)
 refine ⟨_,?_,bh ((c+k+1)*(48271+2*k*k)%2147483647*((c+k+1)*(48271+2*k*k)%2147483647)) 2147483629 (by decide)⟩
 simp_arith [bI,gJ,bH (gh (i:=c+k+1) (j:=48271+2*k*k) ⟨by omega,by omega⟩),bH (dY (i:=2) (j:=k) ⟨by decide,by decide⟩),bH (gh (i:=2*k) (j:=k) ⟨by omega,by omega⟩),bH (dY (i:=(c+k+1)*(48271+2*k*k)%2147483647) (j:=(c+k+1)*(48271+2*k*k)%2147483647) ⟨by omega,by omega⟩)]
noncomputable def Bd (z:Int):Prop:=z.natAbs<2^700
theorem ou {a s b:Int} (ha:a.natAbs<=2^20) (hs:s.natAbs<=2^640) (hb:b.natAbs<=10):Bd (a*s+b):=by
 unfold Bd
 have h1:(a*s+b).natAbs<=(a*s).natAbs+b.natAbs:=Int.natAbs_add_le _ _
 have h2:(a*s).natAbs<=2^20*2^640:=by rw [Int.natAbs_mul];exact Nat.mul_le_mul ha hs
 have h3:2^20*2^640+10<2^700:=by decide+kernel
 omega
theorem ox (c:Int): ∃n:Int,cK [.int c]=some (.int n)/\Bd n:=by
 obtain ⟨p1,e1,b1⟩: ∃p,dPow (.int 10) (.int 9)=some (.int p)/\p.natAbs<=2^640:=⟨_,d0 (by decide+kernel),by decide+kernel⟩
 obtain ⟨p2,e2,b2⟩: ∃p,dPow (.int 10) (.int 54)=some (.int p)/\p.natAbs<=2^640:=⟨_,d0 (by decide+kernel),by decide+kernel⟩
 obtain ⟨p3,p4,p5,e3,e4,e5,b5⟩: ∃p q r,dPow (.int 10) (.int 64)=some (.int p)/\dMul (.int p) (.int p)=some (.int q)/\dMul (.int q) (.int p)=some (.int r)/\r.natAbs<=2^640:=⟨_,_,_,d0 (by decide+kernel),bH (gu (by decide+kernel) (by decide+kernel)),bH (gu (by decide+kernel) (by decide+kernel)),by decide+kernel⟩
 obtain ⟨t0,t1⟩:=bh (c/2000003) 6 (by decide)
 obtain ⟨u0,u1⟩:=bh c 2000003 (by decide)
 obtain ⟨v0,v1⟩:=bh (c%11) 2 (by decide)
 obtain ⟨d,hd,ef⟩:=d3 (xs:=[Dv.int 1,.int 1,.int 1,.int p1,.int p2,.int p5]) t0 t1
 obtain ⟨s,hs,rfl⟩:=nD (zs:=[1,1,1,p1,p2,p5]) hd
 have bs:s.natAbs<=2^640:=by
  simp only [List.mem_cons,List.not_mem_nil,or_false] at hs
  rcases hs with rfl|rfl|rfl|rfl|rfl|rfl
  ·decide+kernel
  ·decide+kernel
  ·decide+kernel
  ·exact b1
  ·exact b2
  ·exact b5
 refine ⟨_,?_,ou (a:=c%2000003-1000001) (s:=s) (b:=c%11%2) (by omega) bs (by omega)⟩
 simp_arith [cK,gK,e1,e2,e3,e4,e5,ef,bH (dY (i:=c%2000003-1000001) (j:=s) ⟨by omega,by omega⟩)]
theorem sil {n:Int} (h:n.natAbs<=10):Bd n:=by
 unfold Bd
 exact Nat.lt_of_le_of_lt h (by decide+kernel)
theorem eu {g:Dv->Dt->Option Dt}{c:Dt->Option Bool}{el:EM}{δ:Dt}: ∀(ds:List Dv),(∀d,d∈ds-> ∃z:Int,celM g c el δ d=some (some (.int z))/\Bd z)-> ∃zs:List Int,zs.length=ds.length/\(∀z∈zs,Bd z)/\aC g c el δ ds=some (zs.map .int)
 |[],_=>⟨[],rfl,by simp,rfl⟩
 |d::ds,h=>by
  obtain ⟨z,hz,bz⟩:=h d (List.mem_cons_self ..)
  obtain ⟨zs,hl,hb,e⟩:=eu ds fun x hx=>h x (List.mem_cons_of_mem _ hx)
  refine ⟨z::zs,by rw [List.length_cons,List.length_cons,hl],fun x hx=> ?_,?_⟩
  ·rcases List.mem_cons.mp hx with rfl|hx
   ·exact bz
   ·exact hb x hx
  ·have k:aC g c el δ (d::ds)=(aC g c el δ ds).map (Dv.int z:: ·):=by
    rw [gj] at hz
    unfold celB at hz
    rw [aC]
    cases e1:g d δ with
    |none=>rw [e1] at hz;cases hz
    |some δ1=>
     rw [e1] at hz
     simp only at hz
     rw [Option.bind_some]
     unfold cel2 at hz
     cases e2:c δ1 with
     |none=>rw [e2] at hz;cases hz
     |some b=>
      rw [e2] at hz
      rw [Option.bind_some]
      cases b with
      |false=>cases hz
      |true=>
       simp only at hz
       rw [if_pos rfl]
       unfold cel3 at hz
       cases e3:el δ1 with
       |none=>rw [e3] at hz;cases hz
       |some y=>
        rw [e3] at hz
        simp only at hz
        rw [Option.bind_some]
        split at hz
        ·next hi=>
         cases hz
         rw [if_pos (show (Dv.int z).imm=true from rfl)]
        ·cases hz
   rw [k,e]
   rfl
theorem oy (c wd:Int) (w0:1<=wd) (w1:wd<=8): ∃zs:List Int,cg [.int c,.int wd]=some (.lst (zs.map .int))/\(zs.length:Int)=wd/\ ∀z∈zs,Bd z:=by
 have hr:iR1 (eVar 1) [some (.int c),some (.int wd)]=some (aB 0 wd.toNat):=gf (by simp_arith [df]) (by omega)
 by_cases h0:c%3=0
 ·obtain ⟨zs,hz,hb,hc⟩:=eu (g:=gN 0) (c:=tyes) (el:=eg) (δ:=[none,some (.int c)]) (aB 0 wd.toNat) (by
   intro d hd
   obtain ⟨i,hi,rfl⟩:=gk hd
   obtain ⟨q0,q1⟩:=bh (c/(0+(i:Int)+1)) 3 (by decide)
   refine ⟨c/(0+(i:Int)+1)%3-1,?_,sil (by omega)⟩
   simp_arith [eg,show (0:Int)<0+(i:Int)+1/\0+(i:Int)+1<1073741824 from ⟨by omega,by omega⟩])
  rw [bS] at hz
  exact ⟨zs,by simp_arith [cg,ej,h0,decide_true,Nat.sub_self,List.replicate_zero,hr,hc],by omega,hb⟩
 ·obtain ⟨zs,hz,hb,hc⟩:=eu (g:=gN 0) (c:=tyes) (el:=eh) (δ:=[none,some (.int c)]) (aB 0 wd.toNat) (by
   intro d hd
   obtain ⟨i,hi,rfl⟩:=gk hd
   obtain ⟨x,ex,_⟩:=gP c (0+(i:Int)) (by omega) (by omega)
   obtain ⟨n,en,bn⟩:=ox x
   exact ⟨n,by simp_arith [eh,ex,en],bn⟩)
  rw [bS] at hz
  exact ⟨zs,by simp_arith [cg,ej,decide_eq_false h0,Nat.sub_self,List.replicate_zero,hr,hc],by omega,hb⟩
noncomputable def isI:Dv->Bool
 | .int _=>true
 |_=>false
theorem oA (d:Dv) (h:d.isScr=false):cJ [d]=some (.bl (isI d)):=by
 cases d<;>first|(cases h;done)|skip
 all_goals simp_arith [cJ,gI,show isiN "NoneType" "int"=false from by decide+kernel,show isiN "bool" "int"=true from by decide+kernel,show isiN "bool" "bool"=true from by decide+kernel,show isiN "int" "int"=true from by decide+kernel,show isiN "int" "bool"=false from by decide+kernel,show isiN "str" "int"=false from by decide+kernel,show isiN "list" "int"=false from by decide+kernel,show isiN "tuple" "int"=false from by decide+kernel,show isiN "dict" "int"=false from by decide+kernel,isI,if_true]
theorem oB (bs:List Bool):fAll [.lst (bs.map .bl)]=some (.bl (bs.all id)):=by
 unfold fAll
 have:bT (bs.map .bl)=some bs:=by
  induction bs with
  |nil=>rfl
  |cons b bs ih=>show (bT (bs.map .bl)).map _=_;rw [ih];rfl
 show (bT (bs.map .bl)).map _=_
 rw [this]
 rfl
theorem cj (ds:List Dv) (w:Int) (h: ∀d∈ds,d.isScr=false) (hl:ds.length<=100) (w1:1<=w) (w8:w<=8):aV [.tup ds,.int w]=some (.bl (decide ((ds.length:Int)=w)&&ds.all isI)):=by
 have hc:=nz (g:=gN 0) (c:=tyes) (el:=ee) (δ:=[none]) (fun d:Dv=>d) (fun d=> .bl (isI d)) ds (fun d hd=>by
  simp_arith [ee,oA d (h d hd)])
 rw [List.map_id'] at hc
 have hl':ds.length<=100000:=by omega
 by_cases e:(ds.length:Int)=w
 ·subst e
  have a:decide ((ds.length:Int)<1)=false:=decide_eq_false (by omega)
  have b:decide (8<(ds.length:Int))=false:=decide_eq_false (by omega)
  have hall:fAll [.lst (ds.map fun d=>Dv.bl (isI d))]=some (.bl (ds.all isI)):=by
   have e1:ds.map (fun d=>Dv.bl (isI d))=(ds.map isI).map .bl:=by rw [List.map_map];rfl
   rw [e1,oB]
   rw [List.all_map]
   rfl
  have n1:dNe (.int (ds.length:Int)) (.int (ds.length:Int))=some (.bl false):=by rw [gb,decide_eq_true rfl];rfl
  simp_arith [aV,dq,show isiN "tuple" "tuple"=true from by decide+kernel,n1,a,b,hl',hc,hall,decide_true,Bool.true_and,if_true]
 ·simp_arith [aV,dq,show isiN "tuple" "tuple"=true from by decide+kernel,decide_eq_false e,Bool.false_and,if_true]
theorem cm (d:Dv) (w:Int) (h:d.isScr=false) (ht:tyN d≠"tuple"):aV [d,.int w]=some (.bl false):=by
 cases d<;>first|(cases h;done)|(exact absurd rfl ht)|skip
 all_goals simp_arith [aV,dq,show isiN "NoneType" "tuple"=false from by decide+kernel,show isiN "bool" "tuple"=false from by decide+kernel,show isiN "int" "tuple"=false from by decide+kernel,show isiN "str" "tuple"=false from by decide+kernel,show isiN "list" "tuple"=false from by decide+kernel,show isiN "dict" "tuple"=false from by decide+kernel,if_true]
theorem gQ (b c:Bool):cf [.bl b,.bl c]=some (.bl (b==c)):=by
 simp_arith [cf,gM,show isiN "bool" "bool"=true from by decide+kernel,if_true]
theorem oC {i:Nat}{mk mv:EM}{δ:Dt}{v:Dv}{k:Int}{ds:List Dv}{j:Nat} (h1:mv δ=some v) (h2:mk δ=some (.int k)) (h3:eVar i δ=some (.lst ds)) (h4:ixN ds.length k=some j):dn i mk mv δ=some (.nx (δ.set i (some (.lst (ds.set j v))))):=by
 unfold dn
 rw [h1,Option.bind_some,h2,Option.bind_some,h3,Option.bind_some]
 show ((ixN ds.length k).bind _)=_
 rw [h4]
 rfl
theorem gR (zs:List Int) (p:Int) (t:Dv) (p0:0<=p) (p1:p<(zs.length:Int)) (hl:zs.length<=100):ce [.lst (zs.map .int),.int p,t]=some (.tup ((zs.map .int).set p.toNat t)):=by
 have hi:ixN (zs.map Dv.int).length p=some p.toNat:=nE p0 (by rw [List.length_map];exact p1)
 have s1:dm 3 (ak aQ (ad (eVar 0) aNil)) [some (.lst (zs.map .int)),some (.int p),some t,none]=some (.nx [some (.lst (zs.map .int)),some (.int p),some t,some (.lst (zs.map .int))]):=by
  unfold dm
  have e:ak aQ (ad (eVar 0) aNil) [some (.lst (zs.map .int)),some (.int p),some t,none]=some (.lst (zs.map .int)):=by simp_arith [df]
  rw [e]
  rfl
 have s2:=oC (i:=3) (mk:=eVar 1) (mv:=eVar 2) (δ:=[some (.lst (zs.map .int)),some (.int p),some t,some (.lst (zs.map .int))]) (v:=t) (k:=p) rfl rfl rfl hi
 have s3:d7 3 [some (.lst (zs.map .int)),some (.int p),some t,some (.lst ((zs.map .int).set p.toNat t))]=some (.tup ((zs.map .int).set p.toNat t)):=rfl
 simp_arith [ce,gL,s1,s2,s3]
noncomputable def Bad (wd:Int) (d:Dv):Prop:=aV [d,.int wd]=some (.bl false)/\dNeX d d=some (.bl false)
theorem gS (s:String):PyData.strOk (Str.ofString s)=true:=by
 unfold PyData.strOk
 rw [Array.all_eq_true']
 intro c hc
 have hc:c∈(Str.ofString s).cps.toList:=by simpa using hc
 rw [PyProof.Rows.signs_ofString] at hc
 obtain ⟨x,_,rfl⟩:=List.mem_map.mp hc
 exact decide_eq_true (by
  have h:x.toNat.isValidChar:=x.valid
  unfold Nat.isValidChar at h
  omega)
theorem neX {d:Dv} (h: ∀kvs,d≠ .dik kvs) (c:d.toPy.canLay0=true) (hd:d.toPy.depth<=60):dNeX d d=some (.bl false):=by
 unfold dNeX
 split
 ·next=>exact absurd rfl (h _)
 ·exact nv c hd
theorem oD {zs:List Int}{p:Nat}{t:Dv} (hp:p<zs.length) (ht:isI t=false):((zs.map Dv.int).set p t).all isI=false:=by
 rw [List.all_eq_false]
 refine ⟨t,?_,by rw [ht];exact Bool.false_ne_true⟩
 exact List.mem_iff_getElem?.mpr ⟨p,List.getElem?_set_self (by rw [List.length_map];exact hp)⟩
theorem mem_set' {zs:List Int}{p:Nat}{t d:Dv} (h:d∈(zs.map Dv.int).set p t):d=t \/ ∃z,d= .int z:=by
 rcases List.mem_or_eq_of_mem_set h with h|h
 ·obtain ⟨z,_,e⟩:=List.mem_map.mp h
  exact .inr ⟨z,e.symm⟩
 ·exact .inl h
theorem oE: ∀ds:List Dv,ax ds=ds.map Dv.toPy
 |[]=>rfl
 |d::ds=>by rw [ax,oE ds];rfl
theorem ey: ∀{ds:List Dv},(∀d∈ds,d.toPy.canLay0=true)->PyData.canLayAll0 (ax ds)=true
 |[],_=>rfl
 |d::ds,h=>by rw [ax,PyData.canLayAll0,h d (.head _),ey fun y hy=>h y (.tail _ hy)];rfl
theorem eA {n:Nat}: ∀{ds:List Dv},(∀d∈ds,d.toPy.depth<=n)->PyData.depthAll (ax ds)<=n
 |[],_=>Nat.zero_le _
 |d::ds,h=>by rw [ax,PyData.depthAll];exact Nat.max_le.mpr ⟨h d (.head _),eA fun y hy=>h y (.tail _ hy)⟩
theorem gU {zs:List Int}{wd p:Int}{t:Dv} (w0:1<=wd) (w1:wd<=8) (hl:(zs.length:Int)=wd) (p0:0<=p) (p1:p<wd) (ht:isI t=false) (hs:t.isScr=false) (hc:t.toPy.canLay0=true) (hd:t.toPy.depth<=5):Bad wd (.tup ((zs.map .int).set p.toNat t)):=by
 refine ⟨?_,neX (fun _ z=>nomatch z) ?_ ?_⟩
 ·rw [cj _ wd (fun d hd=>by
   rcases mem_set' hd with rfl|⟨z,rfl⟩
   ·exact hs
   ·rfl) (by rw [List.length_set,List.length_map];omega) w0 w1,oD (by omega) ht,Bool.and_false]
 ·show PyData.canLayAll0 (ax _)=true
  exact ey fun d hd=>by
   rcases mem_set' hd with rfl|⟨z,rfl⟩
   ·exact hc
   ·rfl
 ·show PyData.depth (.tuple (ax _))<=60
  rw [PyData.depth]
  have:=eA (n:=5) (ds:=(zs.map Dv.int).set p.toNat t) fun d hd'=>by
   rcases mem_set' hd' with rfl|⟨z,rfl⟩
   ·exact hd
   ·exact Nat.zero_le _
  omega
theorem e00:dEq (.int 0) (.int 0)=some (.bl true):=by rw [ga];rfl
theorem oF {δ:Dt}{n:Int}{mk mv:EM} (h1:mk δ=some (.int n)) (h2:mv δ=some (.int 1)):cI mk mv δ=some (.dik [(.inl n,.int 1)]):=by
 unfold cI
 rw [h1,Option.bind_some,h2]
 rfl
theorem oG {n:Int} (h:Bd n):fStr [.int n]=some (.str (Str.ofString (toString n))):=by
 show (if n.natAbs<2^1920 then _ else _)=_
 rw [if_pos (Nat.lt_trans h (Nat.pow_lt_pow_right (by decide) (by decide)))]
theorem eB (xs:List Int): ∀d∈xs.map Dv.int,d.isScr=false:=fun d hd=>by
 obtain ⟨z,_,rfl⟩:=List.mem_map.mp hd
 rfl
theorem gW (xs:List Int):dNeX (.tup (xs.map .int)) (.tup (xs.map .int))=some (.bl false):=neX (fun _ z=>nomatch z) (gs xs) (Nat.le_trans (gt xs) (by decide))
theorem q50 {a b c d e:Dv}:atI [a,b,c,d,e] 0=some a:=rfl
theorem q51 {a b c d e:Dv}:atI [a,b,c,d,e] 1=some b:=rfl
theorem q52 {a b c d e:Dv}:atI [a,b,c,d,e] 2=some c:=rfl
theorem q53 {a b c d e:Dv}:atI [a,b,c,d,e] 3=some d:=rfl
theorem q54 {a b c d e:Dv}:atI [a,b,c,d,e] 4=some e:=rfl
theorem q70 {a b c d e f g:Dv}:atI [a,b,c,d,e,f,g] 0=some a:=rfl
theorem q71 {a b c d e f g:Dv}:atI [a,b,c,d,e,f,g] 1=some b:=rfl
theorem q72 {a b c d e f g:Dv}:atI [a,b,c,d,e,f,g] 2=some c:=rfl
theorem q73 {a b c d e f g:Dv}:atI [a,b,c,d,e,f,g] 3=some d:=rfl
theorem q74 {a b c d e f g:Dv}:atI [a,b,c,d,e,f,g] 4=some e:=rfl
theorem q75 {a b c d e f g:Dv}:atI [a,b,c,d,e,f,g] 5=some f:=rfl
theorem q76 {a b c d e f g:Dv}:atI [a,b,c,d,e,f,g] 6=some g:=rfl
theorem oH:PyData.strOk (Str.ofString "1")=true:=gS "1"
section
variable (zs:List Int) (wd p:Int) (w0:1<=wd) (w1:wd<=8) (hl:(zs.length:Int)=wd) (p0:0<=p) (p1:p<wd)
include w0 w1 hl p0 p1
theorem oI (way:Int) (h3:3<=way) (h7:way<8): ∃d,M_w_other [.lst (zs.map .int),.int way,.int p]=some d/\Bad wd d:=by
 have lz:zs.length<=100:=by omega
 have pz:p<(zs.length:Int):=by omega
 have n0:decide (way=0)=false:=decide_eq_false (by omega)
 have n1:decide (way=1)=false:=decide_eq_false (by omega)
 have n2:decide (way=2)=false:=decide_eq_false (by omega)
 have n8:decide (way<8)=true:=decide_eq_true h7
 obtain ⟨t,ht,e⟩:=d3 (xs:=[Dv.bl true,.bl false,.non,.str "1",.tup [.int 1]]) (i:=way-3) (by omega) (show way-3<5 by omega)
 refine ⟨.tup ((zs.map .int).set p.toNat t),?_,?_⟩
 ·simp_arith [M_w_other,bJ,n0,n1,n2,n8,e,gR zs p t p0 pz lz]
 ·have k:isI t=false/\t.isScr=false/\t.toPy.canLay0=true/\t.toPy.depth<=5:=by
   simp only [List.mem_cons,List.not_mem_nil,or_false] at ht
   rcases ht with rfl|rfl|rfl|rfl|rfl
   ·exact ⟨rfl,rfl,rfl,Nat.zero_le _⟩
   ·exact ⟨rfl,rfl,rfl,Nat.zero_le _⟩
   ·exact ⟨rfl,rfl,rfl,Nat.zero_le _⟩
   ·exact ⟨rfl,rfl,oH,Nat.zero_le _⟩
   ·exact ⟨rfl,rfl,rfl,by decide⟩
  exact gU w0 w1 hl p0 p1 k.1 k.2.1 k.2.2.1 k.2.2.2
theorem gX (way:Int) (h:way=0 \/way=1 \/way=2 \/way=8): ∃d,M_w_other [.lst (zs.map .int),.int way,.int p]=some d/\Bad wd d:=by
 have lz:zs.length<=100:=by omega
 have pz:p<(zs.length:Int):=by omega
 rcases h with rfl|rfl|rfl|rfl
 ·have hc:cutD (zs.map Dv.int) (some 1) none=(zs.drop 1).map .int:=by
   rw [gg]
   exact congrArg _ (mO zs 1 (by omega))
  refine ⟨.tup ((zs.drop 1).map .int),by simp_arith [M_w_other,bJ,hc,decide_true,decide_false],?_,gW _⟩
  rw [cj _ wd (eB _) (by rw [List.length_map,List.length_drop];omega) w0 w1,decide_eq_false (by rw [List.length_map,List.length_drop];omega)]
  rfl
 ·have hcat:bD (.lst (zs.map .int)) (.lst [.int p])=some (.lst ((zs++[p]).map .int)):=by
   rw [ge (by rw [List.length_map];show zs.length+1<=100000;omega) (by rw [dX,dg];rfl),List.map_append]
   rfl
  refine ⟨.tup ((zs++[p]).map .int),by simp_arith [M_w_other,bJ,hcat,show decide ((1:Int)=0)=false from rfl,decide_true,decide_false],?_,gW _⟩
  rw [cj _ wd (eB _) (by rw [List.length_map,List.length_append];simp;omega) w0 w1,decide_eq_false (by rw [List.length_map,List.length_append];simp;omega)]
  rfl
 ·refine ⟨.lst (zs.map .int),by simp_arith [M_w_other,bJ,show decide ((2:Int)=0)=false from rfl,show decide ((2:Int)=1)=false from rfl,decide_true,decide_false],cm _ _ rfl (show "list"≠"tuple" by decide),neX (fun _ z=>nomatch z) ?_ ?_⟩
  ·show PyData.canLayAll0 (ax _)=true
   exact ey fun d hd=>by
    obtain ⟨z,_,rfl⟩:=List.mem_map.mp hd
    rfl
  ·show PyData.depth (.list (ax _))<=60
   rw [PyData.depth]
   have:=eA (n:=0) (ds:=zs.map Dv.int) fun d hd=>by
    obtain ⟨z,_,rfl⟩:=List.mem_map.mp hd
    exact Nat.zero_le _
   omega
 ·refine ⟨.tup ((zs.map .int).set p.toNat (.lst [.int p])),by simp_arith [M_w_other,bJ,gR zs p (.lst [.int p]) p0 pz lz,show decide ((8:Int)=0)=false from rfl,show decide ((8:Int)=1)=false from rfl,show decide ((8:Int)=2)=false from rfl,show decide ((8:Int)=8)=true from rfl,show decide ((8:Int)<8)=false from rfl,decide_true,decide_false],?_⟩
  exact gU w0 w1 hl p0 p1 rfl rfl rfl (show max 0 0+1<=5 by decide)
theorem oJ (hb: ∀z∈zs,Bd z) (way:Int) (h9:9<=way) (h15:way<16): ∃d,M_w_other [.lst (zs.map .int),.int way,.int p]=some d/\Bad wd d:=by
 have a0:atI (zs.map Dv.int) 0=some (.int (zs.getD (0:Int).toNat 0)):=gd (by decide) (by omega)
 have b0:Bd (zs.getD (0:Int).toNat 0):=hb _ (by
  show zs.getD 0 0∈zs
  cases zs with
  |nil=>simp at hl;omega
  |cons z r=>exact List.mem_cons_self ..)
 generalize zs.getD (0:Int).toNat 0=n at*
 have hd:cI (eOp dIx (eVar 0) (eC (.int 0))) (eC (.int 1)) [some (.lst (zs.map .int)),some (.int way),some (.int p),none]=some (.dik [(.inl n,.int 1)]):=oF (by simp_arith [a0]) rfl
 obtain ⟨d,hm,e⟩:=d3 (xs:=[Dv.int n,.non,.bl true,.str (Str.ofString (toString n)),.dik [(.inl n,.int 1)],.tup [.tup (zs.map .int)],.tup []]) (i:=way-9) (by omega) (show way-9<7 by omega)
 refine ⟨d,?_,?_⟩
 ·have n0:decide (way=0)=false:=decide_eq_false (by omega)
  have n1:decide (way=1)=false:=decide_eq_false (by omega)
  have n2:decide (way=2)=false:=decide_eq_false (by omega)
  have n7:decide (way<8)=false:=decide_eq_false (by omega)
  have n8:decide (way=8)=false:=decide_eq_false (by omega)
  simp_arith [M_w_other,bJ,n0,n1,n2,n7,n8,a0,hd,oG b0,e]
 ·simp only [List.mem_cons,List.not_mem_nil,or_false] at hm
  rcases hm with rfl|rfl|rfl|rfl|rfl|rfl|rfl
  ·exact ⟨cm _ _ rfl (show "int"≠"tuple" by decide),neX (fun _ z=>nomatch z) rfl (Nat.zero_le _)⟩
  ·exact ⟨cm _ _ rfl (show "NoneType"≠"tuple" by decide),neX (fun _ z=>nomatch z) rfl (Nat.zero_le _)⟩
  ·exact ⟨cm _ _ rfl (show "bool"≠"tuple" by decide),neX (fun _ z=>nomatch z) rfl (Nat.zero_le _)⟩
  ·exact ⟨cm _ _ rfl (show "str"≠"tuple" by decide),neX (fun _ z=>nomatch z) (gS _) (Nat.zero_le _)⟩
  ·refine ⟨cm _ _ rfl (show "dict"≠"tuple" by decide),?_⟩
   have:eqKI [(Sum.inl n,1)] [(Sum.inl n,1)]=true:=by simp [eqKI,valI]
   show some (Dv.bl (!eqKI [(Sum.inl n,1)] [(Sum.inl n,1)]))=_
   rw [this]
   rfl
  ·refine ⟨?_,neX (fun _ z=>nomatch z) ?_ ?_⟩
   ·rw [cj [.tup (zs.map .int)] wd (fun d hd=>by rw [List.mem_singleton.mp hd];rfl) (show 1<=100 by decide) w0 w1]
    show some (Dv.bl (_&&(false&&true)))=_
    rw [Bool.false_and,Bool.and_false]
   ·show ((bU zs).toPy.canLay0&&true)=true
    rw [gs]
    rfl
   ·show max (bU zs).toPy.depth 0+1<=60
    have:=gt zs
    omega
  ·refine ⟨?_,neX (fun _ z=>nomatch z) rfl (by decide)⟩
   rw [cj [] wd (fun d hd=>nomatch hd) (by decide) w0 w1,decide_eq_false (show¬(([]:List Dv).length:Int)=wd by simp;omega)]
   rfl
theorem oK (hb: ∀z∈zs,Bd z) (way:Int) (y0:0<=way) (y1:way<16): ∃d,M_w_other [.lst (zs.map .int),.int way,.int p]=some d/\Bad wd d:=by
 by_cases h3:3<=way
 ·by_cases h8:way<8
  ·exact oI zs wd p w0 w1 hl p0 p1 way h3 h8
  ·by_cases h9:way=8
   ·exact gX zs wd p w0 w1 hl p0 p1 way (.inr (.inr (.inr h9)))
   ·exact oJ zs wd p w0 w1 hl p0 p1 hb way (by omega) y1
 ·exact gX zs wd p w0 w1 hl p0 p1 way (by omega)
end
theorem oM (δ:Dt):iR2 (eC (.int 1)) (eC (.int 9)) δ=some (aB 1 8):=rfl
theorem oN (ns:List Int) (hl:ns.length<=63):ci [.scr ns]=some (.bl true):=by
 have hc:cutD (ns.map Dv.int) none (some 63)=(ns.take 63).map .int:=by
  rw [gg]
  exact congrArg _ (mP ns 63)
 have hcat:bD (.lst ((ns.take 63).map .int)) (.lst [.int 4,.int 9])=some (.lst ((ns.take 63++[4,9]).map .int)):=by
  rw [ge (by rw [List.length_map,List.length_take];show _<=100000;simp;omega) (by rw [dX,dg];rfl),List.map_append]
  rfl
 have hlen:(ns.take 63++[4,9]).length<=65:=by rw [List.length_append,List.length_take];simp;omega
 generalize ns.take 63++[4,9]=cs at*
 obtain ⟨δ',e,v2,v3,v4,v5,v6,v7,v8,v9,v10,rfl⟩:=dZ (g:=gN 2) (body:=et) (ds:=aB 0 (cs.length:Int).toNat) (δ:=[some (.scr ns),some (.lst (cs.map .int)),none,none,none,none,none,none,none,none,none])
  (fun i δ=> ∃v2 v3 v4 v5 v6 v7 v8 v9 v10:Option Dv,δ=[some (.scr ns),some (.lst (cs.map .int)),v2,v3,v4,v5,v6,v7,v8,v9,v10]) ⟨_,_,_,_,_,_,_,_,_,rfl⟩ (by
  rintro i d δ hd ⟨v2,v3,v4,v5,v6,v7,v8,v9,v10,rfl⟩
  have hi:i<cs.length:=by
   have:=(List.getElem?_eq_some_iff.mp hd).1
   rwa [bS] at this
  rw [dM (by simpa using hi)] at hd
  cases hd
  have ac:atI (cs.map Dv.int) (0+(i:Int))=some (.int (cs.getD (0+(i:Int)).toNat 0)):=gd (by omega) (by omega)
  obtain ⟨x,ex,x0,x1⟩:=gP (cs.getD (0+(i:Int)).toNat 0) (0+(i:Int)) (by omega) (by omega)
  obtain ⟨q0,q1⟩:=bh x 8 (by decide)
  obtain ⟨y0,y1⟩:=bh (x/64) 16 (by decide)
  obtain ⟨wd,hw⟩: ∃wd,wd=1+x%8:=⟨_,rfl⟩
  have w0:1<=wd:=by omega
  have w1:wd<=8:=by omega
  obtain ⟨p0,p1⟩:=bh (x/1024) wd (by omega)
  obtain ⟨zs,ez,lz,bz⟩:=oy (x/8) wd w0 w1
  obtain ⟨d,ed,bd1,bd2⟩:=oK zs wd (x/1024%wd) w0 w1 lz p0 p1 bz (x/64%16) y0 y1
  have lz2:zs.length<=100:=by omega
  have rowq: ∀a:Int,1<=a->a<=8->aV [.tup (zs.map .int),.int a]=some (.bl (decide (a=wd))):=fun a a0 a1=>by
   have al:(zs.map Dv.int).all isI=true:=List.all_eq_true.mpr fun d hd=>by
    obtain ⟨z,_,rfl⟩:=List.mem_map.mp hd
    rfl
   rw [cj _ a (eB _) (by rw [List.length_map];exact lz2) a0 a1,al,Bool.and_true,List.length_map,lz]
   congr 2
   exact decide_eq_decide.mpr ⟨fun z=>z.symm,fun z=>z.symm⟩
  obtain ⟨δ1,e1,v7',rfl⟩:=dZ (g:=gN 7) (body:=em) (ds:=aB 1 8) (δ:=[some (.scr ns),some (.lst (cs.map .int)),some (.int (0+(i:Int))),some (.int x),some (.int wd),some (.lst (zs.map .int)),some (.tup (zs.map .int)),v7,v8,v9,v10])
   (fun i' δ=> ∃v7:Option Dv,δ=[some (.scr ns),some (.lst (cs.map .int)),some (.int (0+(i:Int))),some (.int x),some (.int wd),some (.lst (zs.map .int)),some (.tup (zs.map .int)),v7,v8,v9,v10]) ⟨_,rfl⟩ (by
   rintro j d' δ hd ⟨v7,rfl⟩
   have hj:j<8:=by
    have:=(List.getElem?_eq_some_iff.mp hd).1
    rwa [bS] at this
   rw [dM hj] at hd
   cases hd
   have rq:=rowq (1+(j:Int)) (by omega) (by omega)
   refine ⟨_,_,rfl,?_,⟨some (.int (1+(j:Int))),rfl⟩⟩
   have sd:=gQ (decide (1+(j:Int)=wd)) (decide (1+(j:Int)=wd))
   rw [beq_self_eq_true] at sd
   simp_arith [em,rq,sd])
  refine ⟨_,_,rfl,?_,⟨some (.int (0+(i:Int))),some (.int x),some (.int wd),some (.lst (zs.map .int)),some (.tup (zs.map .int)),v7',some (.int (x/64%16)),some (.int (x/1024%wd)),some d,rfl⟩⟩
  have sf:=gQ false false
  simp_arith [et,ac,ex,<-hw,ez,oM,e1,show (0:Int)<wd by omega,ed,bd1,bd2,sf,beq_self_eq_true])
 have hr:iR1 (ak fLen (ad (eVar 1) aNil)) [some (.scr ns),some (.lst (cs.map .int)),none,none,none,none,none,none,none,none,none]=some (aB 0 (cs.length:Int).toNat):=gf (by simp_arith [df]) (by omega)
 simp_arith-implicitDefEqProofs [ci,gO,hc,hcat,hr,e]
end K01
set_option maxHeartbeats 4000000
namespace K01
open PySem L2
theorem oO {l:PySem.W.OpenLaw}{w:World}{K:PySem.W.Frag}{h:Heap}{mg:Str->Option Value}{fa f1 f2 f3 f4 f5 f6 f7 f8 f9:Addr} (X:K.In h) (G:h.Ns mainGlobals mg) (hfa:mg "law"=some (.ref fa))
  {od1 an1 od2 an2 od3 an3 od4 an4 od5 an5 od6 an6 od7 an7 od8 an8 od9 an9:Option Addr}{sl1 sl2 sl3 sl4 sl5 sl6 sl7 sl8 sl9:Array (Option Value)}{oc1 kV1 dc1 pm1 cd1 ct1 oc2 kV2 dc2 pm2 cd2 ct2 oc3 kV3 dc3 pm3 cd3 ct3 oc4 kV4 dc4 pm4 cd4 ct4 oc5 kV5 dc5 pm5 cd5 ct5 oc6 kV6 dc6 pm6 cd6 ct6 oc7 kV7 dc7 pm7 cd7 ct7 oc8 kV8 dc8 pm8 cd8 ct8 oc9 kV9 dc9 pm9 cd9 ct9:Value}
  {tWIDEST:Tok}
  (a1:PySem.W.nsIn K mainGlobals "is_whole"=some (some (.ref f1))) (l1:K.lookup f1=some ⟨oc1,od1,.func (PySem.W.fnOf "is_whole" "is_whole" (aI bV) (aA bV) (am bV) .none kV1 dc1 pm1 an1 cd1 ct1),sl1⟩) (c1:PySem.W.codeIn K cd1 "is_whole"=true) (k1:PySem.W.keepIn K (.ref f1)=true)
  (a2:PySem.W.nsIn K mainGlobals "_law_mixed"=some (some (.ref f2))) (l2:K.lookup f2=some ⟨oc2,od2,.func (PySem.W.fnOf "_law_mixed" "_law_mixed" (aI bW) (aA bW) (am bW) .none kV2 dc2 pm2 an2 cd2 ct2),sl2⟩) (c2:PySem.W.codeIn K cd2 "_law_mixed"=true) (k2:PySem.W.keepIn K (.ref f2)=true)
  (a3:PySem.W.nsIn K mainGlobals "_law_number"=some (some (.ref f3))) (l3:K.lookup f3=some ⟨oc3,od3,.func (PySem.W.fnOf "_law_number" "_law_number" (aI bX) (aA bX) (am bX) .none kV3 dc3 pm3 an3 cd3 ct3),sl3⟩) (c3:PySem.W.codeIn K cd3 "_law_number"=true) (k3:PySem.W.keepIn K (.ref f3)=true)
  (a4:PySem.W.nsIn K mainGlobals "_law_put"=some (some (.ref f4))) (l4:K.lookup f4=some ⟨oc4,od4,.func (PySem.W.fnOf "_law_put" "_law_put" (aI bY) (aA bY) (am bY) .none kV4 dc4 pm4 an4 cd4 ct4),sl4⟩) (c4:PySem.W.codeIn K cd4 "_law_put"=true) (k4:PySem.W.keepIn K (.ref f4)=true)
  (a5:PySem.W.nsIn K mainGlobals "_law_said"=some (some (.ref f5))) (l5:K.lookup f5=some ⟨oc5,od5,.func (PySem.W.fnOf "_law_said" "_law_said" (aI bZ) (aA bZ) (am bZ) .none kV5 dc5 pm5 an5 cd5 ct5),sl5⟩) (c5:PySem.W.codeIn K cd5 "_law_said"=true) (k5:PySem.W.keepIn K (.ref f5)=true)
  (a6:PySem.W.nsIn K mainGlobals "is_row"=some (some (.ref f6))) (l6:K.lookup f6=some ⟨oc6,od6,.func (PySem.W.fnOf "is_row" "is_row" (aI b9) (aA b9) (am b9) .none kV6 dc6 pm6 an6 cd6 ct6),sl6⟩) (c6:PySem.W.codeIn K cd6 "is_row"=true) (k6:PySem.W.keepIn K (.ref f6)=true)
  (a7:PySem.W.nsIn K mainGlobals "_law_numbers"=some (some (.ref f7))) (l7:K.lookup f7=some ⟨oc7,od7,.func (PySem.W.fnOf "_law_numbers" "_law_numbers" (aI ca) (aA ca) (am ca) .none kV7 dc7 pm7 an7 cd7 ct7),sl7⟩) (c7:PySem.W.codeIn K cd7 "_law_numbers"=true) (k7:PySem.W.keepIn K (.ref f7)=true)
  (a8:PySem.W.nsIn K mainGlobals "_law_other"=some (some (.ref f8))) (l8:K.lookup f8=some ⟨oc8,od8,.func (PySem.W.fnOf "_law_other" "_law_other" (aI cb) (aA cb) (am cb) .none kV8 dc8 pm8 an8 cd8 ct8),sl8⟩) (c8:PySem.W.codeIn K cd8 "_law_other"=true) (k8:PySem.W.keepIn K (.ref f8)=true)
  (a9:PySem.W.nsIn K mainGlobals "law"=some (some (.ref f9))) (l9:K.lookup f9=some ⟨oc9,od9,.func (PySem.W.fnOf "law" "law" (aI bi) (aA bi) (am bi) .none kV9 dc9 pm9 an9 cd9 ct9),sl9⟩) (c9:PySem.W.codeIn K cd9 "law"=true) (k9:PySem.W.keepIn K (.ref f9)=true)
  (z1:PySem.W.nsIn K mainGlobals "all"=some none)
  (z2:PySem.W.nsIn K mainGlobals "bool"=some none)
  (z3:PySem.W.nsIn K mainGlobals "int"=some none)
  (z4:PySem.W.nsIn K mainGlobals "isinstance"=some none)
  (z5:PySem.W.nsIn K mainGlobals "len"=some none)
  (z6:PySem.W.nsIn K mainGlobals "list"=some none)
  (z7:PySem.W.nsIn K mainGlobals "range"=some none)
  (z8:PySem.W.nsIn K mainGlobals "str"=some none)
  (z9:PySem.W.nsIn K mainGlobals "tuple"=some none)
  (g1:PySem.W.nsIn K mainGlobals "WIDEST"=some (some (.int 8 tWIDEST)))
  : ∃fd:FuncData,(∀(s:Shared) (v:Value),BindsTo s fd ⟨[v],[]⟩ [("_law_script",v)])/\ ∀base:Heap,K.In base->base.Ns mainGlobals mg->FnOk l.prog w K mg base CX0 3 fa fd ["_law_script"] (spD K .imm ci):=by
 have e:=hfa.symm.trans (PySem.W.mg_of X G a9)
 cases e
 have B:Blt mg:=⟨PySem.W.mg_none_of X G z1,PySem.W.mg_none_of X G z2,PySem.W.mg_none_of X G z3,PySem.W.mg_none_of X G z4,PySem.W.mg_none_of X G z5,PySem.W.mg_none_of X G z6,PySem.W.mg_none_of X G z7,PySem.W.mg_none_of X G z8,PySem.W.mg_none_of X G z9⟩
 have G_WIDEST:=PySem.W.mg_of X G g1
 have F1:=bc (st:=bV) l1 c1 k1
 have b1:=F1.binds (ps:=["thing"]) fun _ _ _ _ _ _ us hl=>match us,hl with|[_],_=>rfl
 have F2:=bc (st:=bW) l2 c2 k2
 have b2:=F2.binds (ps:=["_law_cell","_law_k"]) fun _ _ _ _ _ _ us hl=>match us,hl with|[_,_],_=>rfl
 have F3:=bc (st:=bX) l3 c3 k3
 have b3:=F3.binds (ps:=["_law_cell"]) fun _ _ _ _ _ _ us hl=>match us,hl with|[_],_=>rfl
 have F4:=bc (st:=bY) l4 c4 k4
 have b4:=F4.binds (ps:=["_law_numbers_here","_law_place","_law_thing"]) fun _ _ _ _ _ _ us hl=>match us,hl with|[_,_,_],_=>rfl
 have F5:=bc (st:=bZ) l5 c5 k5
 have b5:=F5.binds (ps:=["_law_found","_law_due"]) fun _ _ _ _ _ _ us hl=>match us,hl with|[_,_],_=>rfl
 have F6:=bc (st:=b9) l6 c6 k6
 have b6:=F6.binds (ps:=["thing","width"]) fun _ _ _ _ _ _ us hl=>match us,hl with|[_,_],_=>rfl
 have F7:=bc (st:=ca) l7 c7 k7
 have b7:=F7.binds (ps:=["_law_cell","_law_many"]) fun _ _ _ _ _ _ us hl=>match us,hl with|[_,_],_=>rfl
 have F8:=bc (st:=cb) l8 c8 k8
 have b8:=F8.binds (ps:=["_law_numbers_here","_law_way","_law_place"]) fun _ _ _ _ _ _ us hl=>match us,hl with|[_,_,_],_=>rfl
 have F9:=bc (st:=bi) l9 c9 k9
 refine ⟨PySem.W.fnOf "law" "law" (aI bi) (aA bi) (am bi) .none kV9 dc9 pm9 an9 cd9 ct9,fun s v=> .of_eq rfl,fun base _ _=> ?_⟩
 have D_is_whole:=bj (P:=l.prog) (w:=w) (base:=base) F1 (PySem.W.mg_of X G a1) (og F1 B G_WIDEST) b1
 have D_w_mixed:=bj (P:=l.prog) (w:=w) (base:=base) F2 (PySem.W.mg_of X G a2) (oh F2 B G_WIDEST) b2
 have D_w_number:=bj (P:=l.prog) (w:=w) (base:=base) F3 (PySem.W.mg_of X G a3) (oi F3 B G_WIDEST) b3
 have D_w_put:=bj (P:=l.prog) (w:=w) (base:=base) F4 (PySem.W.mg_of X G a4) (oj F4 B G_WIDEST) b4
 have D_w_said:=bj (P:=l.prog) (w:=w) (base:=base) F5 (PySem.W.mg_of X G a5) (om F5 B G_WIDEST) b5
 have D_is_row:=bj (P:=l.prog) (w:=w) (base:=base) F6 (PySem.W.mg_of X G a6) (on F6 B G_WIDEST D_is_whole) b6
 have D_w_numbers:=bj (P:=l.prog) (w:=w) (base:=base) F7 (PySem.W.mg_of X G a7) (oo F7 B G_WIDEST D_w_number D_w_mixed) b7
 have D_w_other:=bj (P:=l.prog) (w:=w) (base:=base) F8 (PySem.W.mg_of X G a8) (oq F8 B G_WIDEST D_w_put) b8
 exact ot F9 B G_WIDEST D_w_mixed D_w_numbers D_w_said D_is_row D_w_other
theorem walk {l:PySem.W.OpenLaw}{q:Program}{loose:List Str}{XP:(Str->Option Value)->Heap->Prop}{YP:World->Heap->Prop}{d:DefRec}{K:Params->PySem.W.Frag} (hn:l.most=some 63) (hdf:d.params.defaults=[])
  (hY: ∀(w:World) (h:Heap),YP w h->(K w.params).In h)
  (F: ∀(w:World) (mg:Str->Option Value) (fa:Addr) (h:Heap),(K w.params).In h->h.Ns mainGlobals mg->mg d.name=some (.ref fa)->
   ∃fd:FuncData,(∀(s:Shared) (u:Value),BindsTo s fd ⟨[u],[]⟩ [("_law_script",u)])/\ ∀base:Heap,(K w.params).In base->base.Ns mainGlobals mg->FnOk l.prog w (K w.params) mg base CX0 3 fa fd ["_law_script"] (spD (K w.params) .imm ci)):
  PySem.W.WalkO q loose XP YP l.row.toRowW d [] (fun f vs=>PySem.call f vs):=
 L2.jK (n:=63) (k:=3) (x:="_law_script") (CX:=fun _=>CX0) (sp:=fun w=>spD (K w.params) .imm ci) hn (by decide) hdf ⟨rfl,by decide,by decide⟩ hY F (fun _ _ a ns hl hO hS=>kB hO hS (oN ns hl)) fun _ _ _ _ _ z=>z
end K01
open PySem PySem.W PyProof.Rows
set_option maxRecDepth 100000 in
set_option maxHeartbeats 0 in
theorem PySem.Challenge.cw_deltahouse_k01_a_row_holds : PySem.Challenge.rw_deltahouse_k01_a_row.Holds := by
 w_on;o_law;k_head;(case hw=>w_witness2)
 k_fill
 refine K01.walk (l:=PySem.Challenge.rw_deltahouse_k01_a_row) rfl rfl (fun w h Y=>PySem.W.kIn_of Y) ?F
 case F=>
  intro w mg fa h KX G hmg
  refine' K01.oO KX G hmg ?a1 ?l1 ?c1 ?k1 ?a2 ?l2 ?c2 ?k2 ?a3 ?l3 ?c3 ?k3 ?a4 ?l4 ?c4 ?k4 ?a5 ?l5 ?c5 ?k5 ?a6 ?l6 ?c6 ?k6 ?a7 ?l7 ?c7 ?k7 ?a8 ?l8 ?c8 ?k8 ?a9 ?l9 ?c9 ?k9 ?z1 ?z2 ?z3 ?z4 ?z5 ?z6 ?z7 ?z8 ?z9 ?g1
  (case a1=>k_is);(case l1=>k_is);(case c1=>k_is);(case k1=>k_is)
  (case a2=>k_is);(case l2=>k_is);(case c2=>k_is);(case k2=>k_is)
  (case a3=>k_is);(case l3=>k_is);(case c3=>k_is);(case k3=>k_is)
  (case a4=>k_is);(case l4=>k_is);(case c4=>k_is);(case k4=>k_is)
  (case a5=>k_is);(case l5=>k_is);(case c5=>k_is);(case k5=>k_is)
  (case a6=>k_is);(case l6=>k_is);(case c6=>k_is);(case k6=>k_is)
  (case a7=>k_is);(case l7=>k_is);(case c7=>k_is);(case k7=>k_is)
  (case a8=>k_is);(case l8=>k_is);(case c8=>k_is);(case k8=>k_is)
  (case a9=>k_is);(case l9=>k_is);(case c9=>k_is);(case k9=>k_is)
  (case z1=>k_is);(case z2=>k_is);(case z3=>k_is);(case z4=>k_is)
  (case z5=>k_is);(case z6=>k_is);(case z7=>k_is);(case z8=>k_is)
  (case z9=>k_is);(case g1=>k_is)
