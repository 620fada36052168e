import PyProof.Rows.All
import Wide.All
import OpenK.AllK
import Wide.FinOn
import PyProof.EqAt
import PyProof.EqKinds
import PyProof.TupleCall
import KE.BitLaws
import PyProof.ZipIter
import PyProof.WalkInts
import PyProof.Rows.SortWalk
import PyProof.Rows.SortShellAny
import PyProof.Rows.SetObj
import PyProof.Rows.SetFrom
import PyProof.ForAny
import PyProof.CollectIter
import KE.OsGo
import KE.SpHead
import KE.OsShapes
import Open.SpecLaws
import KE.KTab
import KE.KSortTupG
import KE.KSortKeySt
import KE.KMinKey
import KE.KLam
import PyVbedaf
import PySem.Challenge.RW_postroads_s01_answers
set_option Elab.async false
set_option linter.all false
set_option maxRecDepth 100000
set_option maxHeartbeats 4000000
namespace L2
open PySem PySem.Spec PyProof.Rows
abbrev Key:=Sum Int Str
def WN:Key→Value→Bool
 | .inl k,v=>Value.isInt k v
 | .inr x,v=>Value.isStrOf x v
def aci(w:World):Key→Int
 | .inl k=>hashInt k
 | .inr x=>hashStr w x
theorem dC:∀ {k:Key} {v:Value},WN k v=true→(∃i t,k=Sum.inl i∧v=Value.int i t)∨(∃x t,k=Sum.inr x∧v=Value.str x t)
 | .inl i,v,h=>by
  obtain⟨t,e⟩:=Value.isInt_shape (k:=i) (v:=v) h
  exact .inl ⟨i,t,rfl,e⟩
 | .inr x,v,h=>by
  obtain⟨t,e⟩:=Value.isStrOf_shape (x:=x) (v:=v) h
  exact .inr ⟨x,t,rfl,e⟩
theorem Yj(a b:Int):decide ((Sum.inl a:Key)=Sum.inl b)=(a==b):=by
 by_cases e:a=b
 ·subst e;simp
 ·have h:¬(Sum.inl a:Key)=Sum.inl b:=fun q=>e (Sum.inl.inj q)
  rw[decide_eq_false h]
  exact(beq_eq_false_iff_ne.mpr e).symm
theorem Yg(a b:Str):decide ((Sum.inr a:Key)=Sum.inr b)=decide (a=b):=by
 by_cases e:a=b
 ·subst e;simp
 ·have h:¬(Sum.inr a:Key)=Sum.inr b:=fun q=>e (Sum.inr.inj q)
  rw[decide_eq_false h,decide_eq_false e]
theorem Yi(a:Int)(b:Str):decide ((Sum.inl a:Key)=Sum.inr b)=false:=decide_eq_false (fun q=>nomatch q)
theorem Yh(a:Str)(b:Int):decide ((Sum.inr a:Key)=Sum.inl b)=false:=decide_eq_false (fun q=>nomatch q)
def Mw(prog:Program)(w:World):PySem.KeyKind prog w Key where
 is:=WN
 hash:=aci w
 inj:=fun v a b ha hb=>by
  rcases dC ha with⟨i,t,rfl,rfl⟩| ⟨x,t,rfl,rfl⟩
  ·rcases dC hb with⟨j,u,rfl,e⟩| ⟨y,u,rfl,e⟩
   ·injection e with e1 _;rw[e1]
   ·exact nomatch e
  ·rcases dC hb with⟨j,u,rfl,e⟩| ⟨y,u,rfl,e⟩
   ·exact nomatch e
   ·injection e with e1 _;rw[e1]
 byValue:=fun k v h=>by
  rcases dC h with⟨i,t,rfl,rfl⟩| ⟨x,t,rfl,rfl⟩<;>rfl
 pyHash:=fun hv h=>by
  rcases dC hv with⟨i,t,rfl,rfl⟩| ⟨x,t,rfl,rfl⟩
  ·exact wpAny_pyHash_int h
  ·exact wpAny_pyHash_str h
 eqBool:=fun hu hv h=>by
  rcases dC hu with⟨i,t,rfl,rfl⟩| ⟨x,t,rfl,rfl⟩
  ·rcases dC hv with⟨j,u,rfl,rfl⟩| ⟨y,u,rfl,rfl⟩
   ·rw[Yj]at h;exact wpAny_eqBool_int h
   ·rw[Yi]at h;exact SeqAt.EqAt.int_str i t y u _ _ _ _ h
  ·rcases dC hv with⟨j,u,rfl,rfl⟩| ⟨y,u,rfl,rfl⟩
   ·rw[Yh]at h;exact SeqAt.EqAt.str_int x t j u _ _ _ _ h
   ·rw[Yg]at h;exact wpAny_eqBool_str h
 «strs»:=fun k x t v h=>by
  rcases dC h with⟨i,u,rfl,e⟩| ⟨y,u,rfl,e⟩
  ·exact nomatch e
  ·injection e with e1 _
   subst e1
   cases v<;>rfl
inductive V where
 |non|bl (b:Bool)|int (i:Int)|str (x:Str)|TJ (b:Array UInt8)|flt (b:UInt64)|ref (a:Addr)|ty (n:String)
 deriving DecidableEq
def RelV:V→Value→Prop
 | .non,u=>u=Value.none
 | .bl b,u=>u=Value.bool b
 | .int i,u=>∃t,u=Value.int i t
 | .str x,u=>∃t,u=Value.str x t
 | .TJ b,u=>∃t,u=Value.bytes b t
 | .flt b,u=>∃t,u=Value.float b t
 | .ref a,u=>u=Value.ref a
 | .ty n,u=>u=Value.type n
abbrev Vals:List V→List Value→Prop:=Paired RelV
theorem Vals.length{xs:List V}{us:List Value}(r:Vals xs us):xs.length=us.length:=Paired.length r
theorem Vals.get:∀ {xs:List V} {us:List Value} {i:Nat} {x:V},Vals xs us→xs[i]? =some x→∃u,us[i]? =some u∧RelV x u
 |_,_,_,_,.nil,e=>by simp at e
 |_,_,0,_,.cons r _,e=>by simp at e;subst e;exact⟨_,rfl,r⟩
 |_,_,i+1,x,.cons _ t,e=>by
  obtain⟨u,h1,h2⟩:=Vals.get (i:=i) (x:=x) t (by simpa using e)
  exact⟨u,by simpa using h1,h2⟩
theorem Vals.set{x:V}{u:Value}(r:RelV x u):∀ {xs:List V} {us:List Value} (i:Nat),Vals xs us→Vals (xs.set i x) (us.set i u)
 |_,_,_,.nil=> .nil
 |_,_,0,.cons _ t=> .cons r t
 |_,_,i+1,.cons q t=> .cons q (Vals.set r i t)
theorem Vals.append:∀ {xs ys:List V} {us ws:List Value},Vals xs us→Vals ys ws→Vals (xs++ys) (us++ws)
 |_,_,_,_,.nil,s=>s
 |_,_,_,_,.cons r t,s=> .cons r (Vals.append t s)
theorem Vals.take:∀ {xs:List V} {us:List Value} (n:Nat),Vals xs us→Vals (xs.take n) (us.take n)
 |_,_,0,_=> .nil
 |_,_,_+1,.nil=> .nil
 |_,_,n+1,.cons r t=> .cons r (Vals.take n t)
theorem Vals.drop:∀ {xs:List V} {us:List Value} (n:Nat),Vals xs us→Vals (xs.drop n) (us.drop n)
 |_,_,0,r=>r
 |_,_,_+1,.nil=> .nil
 |_,_,n+1,.cons _ t=>Vals.drop n t
def Br:Option V→Option Value→Prop
 |some v,some u=>RelV v u
 |none,none=>True
 |_,_=>False
def KV{κ:Type}:List (κ×V)→List (κ×Value)→Prop:=Paired fun(p:κ×V) (q:κ×Value)=>p.1=q.1∧RelV p.2 q.2
def kV:Key→V
 | .inl i=> .int i
 | .inr x=> .str x
inductive HO where
 |lst (xs:List V)
 |tup (xs:List V)
 |dK (kvs:List (Key×V))|dT (kvs:List (List Key×V))
 |set (S:Int→Bool) (n:Nat)
 |ins (C dx:Addr) (fs:List (Str×V))
 |own (x:Addr)
 |xd (fs:List (Str×V))
 |met (f x:Addr)
 |Zd (lo hi:Int)
 |rF (o:Obj) (u:HO)
 |yt (ps:Array Value)
 |ext (φ:Heap→Prop)
abbrev Hp:=Addr→Option HO
def upd(H:Hp)(a:Addr)(o:HO):Hp:=fun b=>if b=a then some o else H b
theorem ao{H:Hp}{a:Addr}{o:HO}:upd H a o a=some o:=by unfold upd;rw[if_pos rfl]
theorem aF{H:Hp}{a b:Addr}{o:HO}(h:b≠a):upd H a o b=H b:=by unfold upd;rw[if_neg h]
theorem CT{H:Hp}{a:Addr}{o u:HO}:upd (upd H a o) a u=upd H a u:=by
 funext b;unfold upd;split<;>rfl
theorem f9{H:Hp}{a b:Addr}{o u:HO}(h:H a=some o)(h':H b=some u)(d:o≠u):a≠b:=by
 intro e;subst e;rw[h]at h';exact d (Option.some.inj h')
theorem aP{H:Hp}{a b:Addr}{o:HO}(h:H a=some o)(h':H b=none):a≠b:=by
 intro e;subst e;rw[h]at h';cases h'
section
variable(P:Program)(w:World)
def iR(H:Hp)(h:Heap)(a:Addr):HO→Prop
 | .lst xs=>xs.length≤sizeLine∧∃(its:List Value) (n:Nat),Vals xs its∧h.get? a=some {cls:= .type "list",data:= .seq its.toArray n}
 | .tup xs=>xs.length≤sizeLine∧∃its:List Value,Vals xs its∧IsTup h a its.toArray
 | .dK kvs=>kvs.length≤sizeLine∧(a==sysModules)=false∧∃vs,KV kvs vs∧h.DictOf (Mw P w) a vs
 | .dT kvs=>kvs.length≤sizeLine∧(a==sysModules)=false∧∃xs:List (List Key×Addr×Value),
   Paired (fun(p:List Key×V) (q:List Key×Addr×Value)=>p.1=q.1∧H q.2.1=some (.tup (p.1.map kV))∧RelV p.2 q.2.2) kvs xs∧
   ∃o es ep,h.get? a=some o∧o.ExactDict∧o.data= .dict es ep∧es.toList=xs.map (entryOfKey (tupleKind (Mw P w)))∧(xs.map (·.1)).Nodup
 | .set S n=>h.SetOf (intKind P w) a S n
 | .ins C dx fs=>H dx=some (.own a)∧fs.length≤1000∧dx≠a∧h.get? a=some (PySem.W.instObj C dx)∧
   ∃mA,h.Ns1 dx mA∧(∀f,Br (fs.lookup f) (mA f))∧PySem.Within mA (fs.map (·.1))
 | .own _=>∃o,h.get? a=some o
 | .xd fs=>∃mA,h.Ns1 a mA∧∀f,Br (fs.lookup f) (mA f)
 | .Zd lo hi=>∃t u v,h.get? a=some {cls:= .type "range",data:= .fields #[.int lo t,.int hi u,.int 1 v]}
 | .rF o u=>h.get? a=some o∧iR H h a u
 | .yt ps=>h.get? a=some {cls:= .none,data:= .fields ps}
 | .met f x=>h.get? a=some (PySem.W.methodObj (.ref f) (.ref x))
 | .ext φ=>φ h∧(∃o,h.get? a=some o)∧∀h1 h2:Heap,φ h1→(∀o,h1.get? a=some o→h2.get? a=some o)→φ h2
def vI(H:Hp)(h:Heap):Prop:=∀a o,H a=some o→iR P w H h a o
end
section
variable{P:Program}{w:World}{H H':Hp}{h h':Heap}{a:Addr}{o:HO}
theorem iR.lt(x:iR P w H h a o):a<h.objs.size:=by
 cases o with
 |lst xs=>obtain⟨_,_,_,_,e⟩:=x;exact Heap.lt_size e
 |tup xs=>obtain⟨_,_,_,p⟩:=x;exact p.lt
 |dK kvs=>obtain⟨_,_,_,_,o,_,_,e,_⟩:=x;exact Heap.lt_size e
 |dT kvs=>obtain⟨_,_,_,_,o,_,_,e,_⟩:=x;exact Heap.lt_size e
 |set S n=>obtain⟨o,_,_,_,e,_⟩:=x;exact Heap.lt_size e
 |ins C dx fs=>obtain⟨_,_,_,e,_⟩:=x;exact Heap.lt_size e
 |own y=>obtain⟨_,e⟩:=x;exact Heap.lt_size e
 |xd fs=>obtain⟨_,⟨_,_,_,e,_⟩,_⟩:=x;exact Heap.lt_size e
 |Zd lo hi=>obtain⟨_,_,_,e⟩:=x;exact Heap.lt_size e
 |rF ob u=>obtain⟨e,_⟩:=x;exact Heap.lt_size e
 |yt ps=>exact Heap.lt_size (show h.get? a=some _ from x)
 |met f y=>exact Heap.lt_size (show h.get? a=some _ from x)
 |ext φ=>obtain⟨_,⟨_,e⟩,_⟩:=x;exact Heap.lt_size e
theorem Paired.Vl{α β:Type}{F G:α→β→Prop}:∀ {l₁:List α} {l₂:List β},Paired F l₁ l₂→(∀a b,F a b→G a b)→Paired G l₁ l₂
 |_,_,.nil,_=> .nil
 |_,_,.cons r t,f=> .cons (f _ _ r) (Paired.Vl t f)
theorem iR.stay(x:iR P w H h a o)(k:∀b u,(b=a∨H b=some (.own a))→h.get? b=some u→h'.get? b=some u)
  (ho:∀b,H b=some (.own a)→H' b=some (.own a)) (ht:∀b xs,H b=some (.tup xs)→H' b=some (.tup xs)):iR P w H' h' a o:=by
 induction o with
 |lst xs=>obtain⟨z,its,n,r,e⟩:=x;exact⟨z,its,n,r,k _ _ (.inl rfl) e⟩
 |tup xs=>obtain⟨z,its,r,ob,e,c⟩:=x;exact⟨z,its,r,ob,k _ _ (.inl rfl) e,c⟩
 |dK kvs=>obtain⟨z,y,vs,r,ob,es,ep,e,c⟩:=x;exact⟨z,y,vs,r,ob,es,ep,k _ _ (.inl rfl) e,c⟩
 |dT kvs=>
  obtain⟨z,y,xs,r,ob,es,ep,e,c⟩:=x
  exact⟨z,y,xs,Paired.Vl r fun p q z=>⟨z.1,ht _ _ z.2.1,z.2.2⟩,ob,es,ep,k _ _ (.inl rfl) e,c⟩
 |set S n=>obtain⟨ob,es,ep,t,e,c⟩:=x;exact⟨ob,es,ep,t,k _ _ (.inl rfl) e,c⟩
 |ins C dx fs=>
  obtain⟨d,z,ne,e,mA,⟨od,es,ep,e2,c⟩,r⟩:=x
  exact⟨ho _ d,z,ne,k _ _ (.inl rfl) e,mA,⟨od,es,ep,k _ _ (.inr d) e2,c⟩,r⟩
 |own y=>obtain⟨ob,e⟩:=x;exact⟨ob,k _ _ (.inl rfl) e⟩
 |xd fs=>obtain⟨mA,⟨od,es,ep,e,c⟩,r⟩:=x;exact⟨mA,⟨od,es,ep,k _ _ (.inl rfl) e,c⟩,r⟩
 |Zd lo hi=>obtain⟨t,u,v,e⟩:=x;exact⟨t,u,v,k _ _ (.inl rfl) e⟩
 |rF ob u ih=>obtain⟨e,q⟩:=x;exact⟨k _ _ (.inl rfl) e,ih q⟩
 |yt ps=>
  have e:h.get? a=some {cls:= .none,data:= .fields ps}:=x
  show h'.get? a=some {cls:= .none,data:= .fields ps}
  exact k a _ (.inl rfl) e
 |met f y=>
  have e:h.get? a=some (PySem.W.methodObj (.ref f) (.ref y)):=x
  show h'.get? a=some (PySem.W.methodObj (.ref f) (.ref y))
  exact k a _ (.inl rfl) e
 |ext φ=>obtain⟨p,⟨o,e⟩,st⟩:=x;exact⟨st _ _ p fun o q=>k _ _ (.inl rfl) q,⟨o,k _ _ (.inl rfl) e⟩,st⟩
theorem vI.lt(x:vI P w H h)(e:H a=some o):a<h.objs.size:=(x a o e).lt
theorem vI.fresh(x:vI P w H h)(e:h.objs.size≤a):H a=none:=by
 cases q:H a with
 |none=>rfl
 |some u=>exact absurd (Nat.lt_of_lt_of_le (x.lt q) e) (Nat.lt_irrefl _)
theorem vI.kept(x:vI P w H h)(k:∀b u,h.get? b=some u→h'.get? b=some u):vI P w H h':=fun a o e=>
 (x a o e).stay (fun b u _ q=>k b u q) (fun _ q=>q) fun _ _ q=>q
theorem vI.laid(x:vI P w H h)(k:∀b u,h.get? b=some u→h'.get? b=some u)(hp:h.objs.size≤a)(new:iR P w (upd H a o) h' a o):vI P w (upd H a o) h':=fun b u e=>by
 have hn:=x.fresh hp
 by_cases hb:b=a
 ·subst hb;rw[ao]at e;cases e;exact new
 ·rw[aF hb]at e
  exact(x b u e).stay (fun c v _ q=>k c v q) (fun c q=>by rw[aF (aP q hn)];exact q) fun c xs q=>by rw[aF (aP q hn)];exact q
end
def Rd(H:Hp)(a:Addr)(u:HO):Prop:=H a=some u∨∃o,H a=some (.rF o u)
theorem Rd.ok{P:Program}{w:World}{H:Hp}{h:Heap}{a:Addr}{u:HO}(r:Rd H a u)(x:vI P w H h):iR P w H h a u:=by
 rcases r with r| ⟨o,r⟩
 ·exact x a u r
 ·obtain⟨_,q⟩:=x a _ r
  exact q
def Y9:Option HO→Prop
 |some (.lst _)=>True
 |some (.dK _)=>True
 |some (.dT _)=>True
 |some (.set _ _)=>True
 |some (.ins _ _ _)=>True
 |some (.ext _)=>True
 |_=>False
section
variable{P:Program}{w:World}{H:Hp}{h h':Heap}{x e:Addr}{o':HO}
theorem vI.write(ok:vI P w H h)(mu:Y9 (H x))(he:e=x∨H e=some (.own x))(k:∀b u,b≠e→h.get? b=some u→h'.get? b=some u)(heo:∃u,h'.get? e=some u)
  (new:iR P w (upd H x o') h' x o'):vI P w (upd H x o') h':=fun b u q=>by
 have Z9:∀c y,H c=some (.own y)→c≠x:=fun c y r z=>by subst z;rw[r]at mu;exact mu
 have ab6:∀c xs,H c=some (.tup xs)→c≠x:=fun c xs r z=>by subst z;rw[r]at mu;exact mu
 by_cases hb:b=x
 ·subst hb;rw[ao]at q;cases q;exact new
 ·rw[aF hb]at q
  by_cases hbe:b=e
  ·have q':H b=some (.own x):=by
    rcases he with z|z
    ·exact absurd (hbe.trans z) hb
    ·rw[hbe];exact z
   rw[q]at q';cases q'
   obtain⟨v,hv⟩:=heo
   exact⟨v,by rw[hbe];exact hv⟩
  ·refine(ok b u q).stay (fun c v hc r=>k c v ?_ r) (fun c r=>by rw[aF (Z9 c b r)];exact r) fun c xs r=>by rw[aF (ab6 c xs r)];exact r
   rcases hc with rfl|hc
   ·exact hbe
   ·rintro rfl
    rcases he with z|z
    ·exact Z9 c b hc z
    ·rw[hc]at z;cases z;exact hb rfl
end
structure Un(fs ex:List Addr)(H H':Hp)(h h':Heap):Prop where
 keep:∀b o,h.get? b=some o→H b=none→b∉fs→b∉ex→h'.get? b=some o
 slot:∀b o,h.get? b=some o→H b=none→b∈fs→b∉ex→∃sl,h'.get? b=some {o with slots:=sl}
 free:∀b o,h.get? b=some o→H b=none→b∉ex→H' b=none
 there:∀b o,h.get? b=some o→b∉ex→∃o',h'.get? b=some o'
 tups:∀b xs,H b=some (.tup xs)→H' b=some (.tup xs)
 zq:∀b o u,H b=some (.rF o u)→H' b=some (.rF o u)
 Ag:∀b ps,H b=some (.yt ps)→∃more,H' b=some (.yt (ps++more))
section
variable{fs fs' ex ex':List Addr}{H H1 H2:Hp}{h h1 h2 h':Heap}{a x e:Addr}{o:HO}
theorem Un.any(u:Un fs ex H H1 h h1){b:Addr}{ob:Obj}(q:h.get? b=some ob)(n:H b=none)(hx:b∉ex):∃sl,h1.get? b=some {ob with slots:=sl}:=by
 by_cases hb:b∈fs
 ·exact u.slot b ob q n hb hx
 ·exact⟨ob.slots,u.keep b ob q n hb hx⟩
theorem Un.kept(k:∀b u,h.get? b=some u→h'.get? b=some u):Un fs ex H H h h':=
 ⟨fun b ob q _ _ _=>k b ob q,fun b ob q _ _ _=>⟨ob.slots,k b ob q⟩,fun _ _ _ n _=>n,fun b ob q _=>⟨ob,k b ob q⟩,fun _ _ q=>q,fun _ _ _ q=>q,fun _ ps q=>⟨#[],by rw[q];simp⟩⟩
theorem Un.refl:Un fs ex H H h h:=Un.kept fun _ _ q=>q
theorem Un.laid(k:∀b u,h.get? b=some u→h'.get? b=some u)(hp:h.objs.size≤a)(hn:H a=none):Un fs ex H (upd H a o) h h' where
 keep:=fun b u q _ _ _=>k b u q
 slot:=fun b u q _ _ _=>⟨u.slots,k b u q⟩
 free:=fun b u q n _=>by rw[aF (Nat.ne_of_lt (Nat.lt_of_lt_of_le (Heap.lt_size q) hp))];exact n
 there:=fun b u q _=>⟨u,k b u q⟩
 tups:=fun b xs q=>by rw[aF (aP q hn)];exact q
 zq:=fun b u xs q=>by rw[aF (aP q hn)];exact q
 Ag:=fun b ps q=>⟨#[],by rw[aF (aP q hn),q];simp⟩
theorem Un.write(mu:Y9 (H x))(he:e=x∨H e=some (.own x))(k:∀b u,b≠e→h.get? b=some u→h'.get? b=some u)(heo:∃u,h'.get? e=some u):Un fs ex H (upd H x o) h h':=by
 have hx:∀b,H b=none→b≠x:=fun b n z=>by subst z;rw[n]at mu;exact mu
 have hb:∀b,H b=none→b≠e:=fun b n z=>by
  subst z
  rcases he with r|r
  ·exact hx b n r
  ·rw[n]at r;cases r
 have hm:∀b u,H b=some u→¬Y9 (some u)→b≠x:=fun b u q nm z=>by subst z;rw[q]at mu;exact nm mu
 refine⟨fun b u q n _ _=>k b u (hb b n) q,fun b u q n _ _=>⟨u.slots,k b u (hb b n) q⟩,fun b u q n _=>by rw[aF (hx b n)];exact n,fun b u q _=>?_,
  fun b xs q=>by rw[aF (hm b _ q fun z=>z)];exact q,fun b u xs q=>by rw[aF (hm b _ q fun z=>z)];exact q,fun b ps q=>⟨#[],by rw[aF (hm b _ q fun z=>z),q];simp⟩⟩
 by_cases hbe:b=e
 ·subst hbe;exact heo
 ·exact⟨u,k b u hbe q⟩
end
def Zb(h:Heap)(H:Hp):List Addr:=(List.range h.objs.size).filter fun a=>(H a).isSome
def Ey(h:Heap)(H:Hp):Heap:=PySem.W.hideAll h (Zb h H)
theorem O7(h:Heap)(H:Hp):(Ey h H).objs.size=h.objs.size:=PySem.W.hideAll_size _ _
theorem Sw{h:Heap}{H:Hp}{b:Addr}{o:Obj}(e:h.get? b=some o)(n:H b=none):(Ey h H).get? b=some o:=
 PySem.W.hideAll_get _ e fun hm=>by
  have q:(H b).isSome=true:=(List.mem_filter.mp hm).2
  rw[n]at q;simp at q
theorem Vi{h:Heap}{H:Hp}{b:Addr}{o:Obj}(e:(Ey h H).get? b=some o):h.get? b=some o∧H b=none:=by
 have e':h.get? b=some o:=PySem.W.of_hideAll (Zb h H) e
 refine⟨e',?_⟩
 cases q:H b with
 |none=>rfl
 |some x=>
  have hm:b∈Zb h H:=List.mem_filter.mpr ⟨List.mem_range.mpr (Heap.lt_size e'),by simp [q]⟩
  have z:(Ey h H).get? b=none:=PySem.W.hideAll_none (Zb h H) hm
  rw[z]at e;cases e
def Wd(g h:Heap)(L:Addr):List (Addr×Obj):=(List.range h.objs.size).filterMap fun a=>if a=L∨(g.get? a).isSome=true then none else(h.get? a).map fun o=>(a,o)
def rest(g h:Heap)(L d:Addr):List (Addr×Obj):=(Wd g h L).filter fun p=>decide (p.1≠d)
structure Mod(K:PySem.W.Frag)(mg:Str→Option Value)(base:Heap):Prop where
 kin:K.In base
 glob:base.Ns mainGlobals mg
 blt:∃mb,base.Ns builtinsNs mb∧∀x:Str,x≠"__name__"→mb x=bootBuiltins x
 nolimit:base.NoLimit
structure Cx where
 prog:Program
 w:World
 K:PySem.W.Frag
 mg:Str→Option Value
 base:Heap
 A:Around
 N:List Str
 Am:Shared
 W3:Hp
 env:Env
 outer:List Env
 stack:List Env
 ex:List Addr
 fn:Str→Bool
 calm:Bool
 pn:List (Addr×Obj)
 xe:Value→Shared→Prop
def frs(l:List Env):List Addr:=l.filterMap (·.frame)
abbrev Cx.fs(X:Cx):List Addr:=frs X.outer
def Y6(sc:Scope)(x:Str):Prop:=sc.names.lookup x=some .local∨sc.names.lookup x=some .cell∨sc.names.lookup x=some .free
def Loc(sc:Scope)(x:Str):Prop:=sc.names.lookup x=some .local∨sc.names.lookup x=some .cell
def Look(env:Env)(h:Heap)(m:Str→Option Value)(x:Str)(u:Value):Prop:=
 (env.kindOf x=some .local∧m x=some u)∨((env.kindOf x=some .cell∨env.kindOf x=some .free)∧∃c,env.cells.lookup x=some c∧h.IsCell c (some u))
structure Cx.Ok(X:Cx):Prop where
 mod:Mod X.K X.mg X.base
 kind:X.env.scope.kind= .function
 glob:X.env.globals=mainGlobals
 blt:X.env.builtins=builtinsNs
 above:X.Am.heap.objs.size≤X.env.locals
 inj:∀x y c,X.env.cells.lookup x=some c→X.env.cells.lookup y=some c→x=y
 has:∀x,(X.env.kindOf x=some .cell∨X.env.kindOf x=some .free)→∃c,X.env.cells.lookup x=some c
 cab:∀x c,X.fn x=true→X.env.cells.lookup x=some c→X.Am.heap.objs.size≤c
 hd:X.calm=true→X.A.handled=none
 frames:X.A.frames=some X.stack
 stk:X.stack=X.outer∨(X.stack=X.env::X.outer∧X.env.frame=some X.env.locals)
 exf:∀b∈X.ex,b≠X.env.locals∧∀x c,X.env.cells.lookup x=some c→c≠b
 bs:∀b o,X.base.get? b=some o→X.Am.heap.get? b=some o∧X.W3 b=none
 Tn:X.base.objs.size≤X.Am.heap.objs.size
 RN:∀b o,X.base.get? b=some o→b∉X.ex
 S9:∀b∈X.ex,b∉X.fs
 xT:X.Am.heap.FunFrames X.base X.outer
 Yy:∀b∈X.fs,X.W3 b=none
structure Inv(X:Cx)(pins:List (Addr×Obj))(σ:List (Option V))(H:Hp)(s:Shared):Prop where
 ok:X.Ok
 os:s.os=X.Am.os
 bare:AllBare s.gens
 base:Un X.fs X.ex X.W3 H X.Am.heap s.heap
 loc:∃m,s.heap.Ns X.env.locals m∧∀(i:Nat) (x:Str) (v:V),X.N[i]? =some x→σ[i]? =some (some v)→Y6 X.env.scope x→∃u,RelV v u∧Look X.env s.heap m x u
 cell:∀x c,X.env.cells.lookup x=some c→∃v,s.heap.IsCell c v
 free:H X.env.locals=none
 kZ:∀x c,X.env.cells.lookup x=some c→H c=none
 pin:∀p∈X.pn++pins,s.heap.get? p.1=some p.2∧H p.1=none∧p.1≠X.env.locals∧p.1∉X.fs∧∀v,p.2.data≠ .cell v
 hok:vI X.prog X.w H s.heap
 len:σ.length=X.N.length
section
variable{X:Cx}{pins:List (Addr×Obj)}{σ:List (Option V)}{H H':Hp}{s:Shared}{h':Heap}
theorem Cx.Ok.ab9(ok:X.Ok){b:Addr}{o:Obj}(e:X.base.get? b=some o):b∉X.fs:=fun hb=>by
 have:=(ok.xT.mem hb).1
 rw[e]at this;cases this
theorem Inv.bs(I:Inv X pins σ H s):∀b o,X.base.get? b=some o→s.heap.get? b=some o∧H b=none:=fun b o e=>
 ⟨I.base.keep b o (I.ok.bs b o e).1 (I.ok.bs b o e).2 (I.ok.ab9 e) (I.ok.RN b o e),I.base.free b o (I.ok.bs b o e).1 (I.ok.bs b o e).2 (I.ok.RN b o e)⟩
theorem Inv.bk(I:Inv X pins σ H s):∀b o,X.base.get? b=some o→s.heap.get? b=some o:=fun b o e=>(I.bs b o e).1
theorem Inv.mod(I:Inv X pins σ H s):Mod X.K X.mg X.base:=I.ok.mod
theorem Inv.MF(I:Inv X pins σ H s):X.K.In s.heap:=I.ok.mod.kin.keeps I.bk
theorem Inv.nolimit(I:Inv X pins σ H s):s.heap.NoLimit:=I.ok.mod.nolimit.keeps I.bk
theorem Inv.fr(I:Inv X pins σ H s):∃m,Fr X.base X.env.locals s.heap m:=
 let⟨m,hn,_⟩:=I.loc
 ⟨m,hn,I.bk,Nat.le_trans I.ok.Tn I.ok.above⟩
theorem Inv.lt(I:Inv X pins σ H s):X.env.locals<s.heap.objs.size:=let⟨_,hn,_⟩:=I.loc;hn.lt
theorem Inv.sz(I:Inv X pins σ H s):X.Am.heap.objs.size≤s.heap.objs.size:=Nat.le_trans I.ok.above (Nat.le_of_lt I.lt)
theorem Inv.ab8(I:Inv X pins σ H s){a:Addr}(h:s.heap.objs.size≤a):a∉X.fs:=fun hb=>by
 obtain⟨_,o,ho,_⟩:=I.ok.xT.mem hb
 exact absurd (Nat.lt_of_lt_of_le (Heap.lt_size ho) (Nat.le_trans I.sz h)) (Nat.lt_irrefl _)
theorem Inv.YW(I:Inv X pins σ H s):∀x c,X.env.cells.lookup x=some c→c≠X.env.locals:=fun x c e z=>by
 obtain⟨v,o,ho,hd⟩:=I.cell x c e
 obtain⟨m,⟨o',es,ep,ho',hd',_⟩,_⟩:=I.loc
 rw[z,ho']at ho;cases ho;rw[hd']at hd;cases hd
theorem Inv.xT(I:Inv X pins σ H s):s.heap.FunFrames X.base X.outer:=by
 have all:∀(l:List Env),(∀b∈frs l,b∈X.fs)→X.Am.heap.FunFrames X.base l→s.heap.FunFrames X.base l:=by
  intro l
  induction l with
  |nil=>intro _ _;trivial
  |cons env r ih=>
   intro hs hl
   obtain⟨hk,⟨L,o,hf,hn,ho,hd⟩,hr⟩:=hl
   have hL:L∈X.fs:=hs L (by unfold frs;rw[List.filterMap_cons,hf];exact List.mem_cons_self)
   obtain⟨sl,e⟩:=I.base.slot L o ho (I.ok.Yy L hL) hL fun z=>I.ok.S9 L z hL
   exact⟨hk,⟨L,_,hf,hn,e,hd⟩,ih (fun b hb=>hs b (by unfold frs;rw[List.filterMap_cons,hf];exact List.mem_cons_of_mem _ hb)) hr⟩
 exact all X.outer (fun _ hb=>hb) I.ok.xT
theorem Inv.stack(I:Inv X pins σ H s):s.heap.FunFrames X.base X.stack:=by
 rcases I.ok.stk with e| ⟨e,hf⟩
 ·rw[e];exact I.xT
 ·rw[e]
  obtain⟨m,hn,_⟩:=I.loc
  refine .cons (by rw[I.ok.kind];decide) hf hn ?_ I.xT
  exact Heap.get?_none_of_le (Nat.le_trans I.ok.Tn I.ok.above)
theorem Inv.Jv(I:Inv X pins σ H s):∀b∈frs X.stack,b∈X.env.locals::X.fs:=fun b hb=>by
 rcases I.ok.stk with e| ⟨e,hf⟩
 ·rw[e]at hb;exact List.mem_cons_of_mem _ hb
 ·rw[e]at hb
  unfold frs at hb
  rw[List.filterMap_cons,hf]at hb
  exact hb
theorem Inv.Dk(I:Inv X pins σ H s):∀b∈frs X.stack,H b=none:=fun b hb=>by
 rcases List.mem_cons.mp (I.Jv b hb)with e|hb
 ·rw[e];exact I.free
 ·obtain⟨_,o,ho,_⟩:=I.ok.xT.mem hb
  exact I.base.free b o ho (I.ok.Yy b hb) fun z=>I.ok.S9 b z hb
theorem Inv.step{g':Array GenState}{t':Nat}{d':Drawn}{ch:List Addr}(I:Inv X pins σ H s)
  (hch:∀b∈ch,(b∈X.ex∨X.Am.heap.objs.size≤b)∧b≠X.env.locals∧(∀x c,X.env.cells.lookup x=some c→c≠b)∧∀p∈X.pn++pins,p.1≠b)
  (keep:∀b o,b≠X.env.locals→b∉X.fs→b∉ch→s.heap.get? b=some o→H b=none→h'.get? b=some o)
  (slot:∀b o,b≠X.env.locals→b∈X.fs→b∉ch→s.heap.get? b=some o→H b=none→∃sl,h'.get? b=some {o with slots:=sl}) (free:∀b o,b∉ch→s.heap.get? b=some o→H b=none→H' b=none)
  (there:∀b o,b∉ch→s.heap.get? b=some o→∃o',h'.get? b=some o')
  (tups:∀b xs,H b=some (.tup xs)→H' b=some (.tup xs)) (zq:∀b o u,H b=some (.rF o u)→H' b=some (.rF o u)) (Ag:∀b ps,H b=some (.yt ps)→∃more,H' b=some (.yt (ps++more)))
  (ns:∀m,s.heap.Ns X.env.locals m→h'.Ns X.env.locals m) (hok:vI X.prog X.w H' h') (hg:AllBare g'):
  Inv X pins σ H' {s with heap:=h',gens:=g',drawn:=d',toks:=t'}:=by
 have neL:∀b o,X.Am.heap.get? b=some o→b≠X.env.locals:=fun b o e=>Nat.ne_of_lt (Nat.lt_of_lt_of_le (Heap.lt_size e) I.ok.above)
 have neC:∀b o,X.Am.heap.get? b=some o→b∉X.ex→b∉ch:=fun b o e hx hb=>by
  rcases(hch b hb).1 with z|z
  ·exact hx z
  ·exact absurd (Nat.lt_of_lt_of_le (Heap.lt_size e) z) (Nat.lt_irrefl _)
 have cellK:∀x c,X.env.cells.lookup x=some c→∀v,s.heap.IsCell c v→h'.IsCell c v:=fun x c e v ⟨o,ho,hd⟩=>by
  have nch:c∉ch:=fun z=>(hch c z).2.2.1 x c e rfl
  by_cases hc:c∈X.fs
  ·obtain⟨sl,q⟩:=slot c o (I.YW x c e) hc nch ho (I.kZ x c e)
   exact⟨_,q,hd⟩
  ·exact⟨o,keep c o (I.YW x c e) hc nch ho (I.kZ x c e),hd⟩
 refine⟨I.ok,I.os,hg,⟨fun b o e n hb hx=>?_,fun b o e n hb hx=>?_,fun b o e n hx=>?_,fun b o e hx=>?_,fun b xs e=>tups b xs (I.base.tups b xs e),fun b o xs e=>zq b o xs (I.base.zq b o xs e),fun b ps e=>?_⟩,?_,fun x c e=>?_,?_,fun x c e=>?_,fun p hp=>?_,hok,I.len⟩
 ·exact keep b o (neL b o e) hb (neC b o e hx) (I.base.keep b o e n hb hx) (I.base.free b o e n hx)
 ·obtain⟨sl,e1⟩:=I.base.slot b o e n hb hx
  obtain⟨sl',e2⟩:=slot b _ (neL b o e) hb (neC b o e hx) e1 (I.base.free b o e n hx)
  exact⟨sl',e2⟩
 ·obtain⟨o',e1⟩:=I.base.there b o e hx
  exact free b o' (neC b o e hx) e1 (I.base.free b o e n hx)
 ·obtain⟨o',e1⟩:=I.base.there b o e hx
  exact there b o' (neC b o e hx) e1
 ·obtain⟨m1,e1⟩:=I.base.Ag b ps e
  obtain⟨m2,e2⟩:=Ag b _ e1
  exact⟨m1++m2,by rw[e2,Array.append_assoc]⟩
 ·obtain⟨m,hn,hl⟩:=I.loc
  refine⟨m,ns m hn,fun i x v e1 e2 e3=>?_⟩
  obtain⟨u,r,l⟩:=hl i x v e1 e2 e3
  refine⟨u,r,?_⟩
  rcases l with l| ⟨k,c,e,z⟩
  ·exact .inl l
  ·exact .inr ⟨k,c,e,cellK x c e _ z⟩
 ·obtain⟨v,z⟩:=I.cell x c e
  exact⟨v,cellK x c e v z⟩
 ·obtain⟨m,⟨o,_,_,ho,_⟩,_⟩:=I.loc
  exact free _ o (fun z=>(hch _ z).2.1 rfl) ho I.free
 ·obtain⟨v,o,ho,hd⟩:=I.cell x c e
  exact free c o (fun z=>(hch c z).2.2.1 x c e rfl) ho (I.kZ x c e)
 ·obtain⟨e,n,ne,nf,d⟩:=I.pin p hp
  have nch:p.1∉ch:=fun z=>(hch p.1 z).2.2.2 p hp rfl
  exact⟨keep p.1 p.2 ne nf nch e n,free p.1 p.2 nch e n,ne,nf,d⟩
theorem Inv.un{t':Nat}(I:Inv X pins σ H s)(u:Un X.fs [] H H' s.heap h')(hok:vI X.prog X.w H' h'):Inv X pins σ H' {s with heap:=h',toks:=t'}:=by
 obtain⟨m,⟨o,es,ep,ho,r⟩,_⟩:=id I.loc
 obtain⟨sl,hL⟩:=u.any ho I.free (by simp)
 exact I.step (g':=s.gens) (d':=s.drawn) (ch:=[]) (fun _ z=>nomatch z) (fun b o _ hb _ e n=>u.keep b o e n hb (by simp)) (fun b o _ hb _ e n=>u.slot b o e n hb (by simp)) (fun b o _ e n=>u.free b o e n (by simp)) (fun b o _ e=>u.there b o e (by simp)) u.tups u.zq u.Ag (fun m' hm=>by
  obtain⟨o',es',ep',ho',r'⟩:=hm
  rw[ho]at ho';cases ho'
  exact⟨_,es',ep',hL,r'⟩) hok I.bare
theorem Inv.call{g':Array GenState}{t':Nat}{d':Drawn}{ch:List Addr}(I:Inv X pins σ H s)(u:Un (frs X.stack) ch H H' s.heap h')(hok:vI X.prog X.w H' h')(hg:AllBare g')
  (hch:∀b∈ch,(b∈X.ex∨X.Am.heap.objs.size≤b)∧b≠X.env.locals∧(∀x c,X.env.cells.lookup x=some c→c≠b)∧∀p∈X.pn++pins,p.1≠b):
  Inv X pins σ H' {s with heap:=h',gens:=g',drawn:=d',toks:=t'}:=by
 obtain⟨m,⟨o,es,ep,ho,r⟩,_⟩:=id I.loc
 obtain⟨sl,hL⟩:=u.any ho I.free fun z=>(hch _ z).2.1 rfl
 exact I.step (ch:=ch) hch (fun b o hL hb hc e n=>u.keep b o e n (fun z=>(List.mem_cons.mp (I.Jv b z)).elim hL hb) hc) (fun b o _ _ hc e n=>u.any e n hc) (fun b o hc e n=>u.free b o e n hc) (fun b o hc e=>u.there b o e hc) u.tups u.zq u.Ag (fun m' hm=>by
  obtain⟨o',es',ep',ho',r'⟩:=hm
  rw[ho]at ho';cases ho'
  exact⟨_,es',ep',hL,r'⟩) hok hg
theorem Inv.turned{t':Nat}{it:Addr}(I:Inv X pins σ H s)(k:∀b o,b≠it→s.heap.get? b=some o→h'.get? b=some o)(hn:H it=none)(hL:it≠X.env.locals)
  (h1:it∈X.ex∨X.Am.heap.objs.size≤it) (h2:∀x c,X.env.cells.lookup x=some c→c≠it) (h3:∀p∈X.pn++pins,p.1≠it):Inv X pins σ H {s with heap:=h',toks:=t'}:=by
 have WD:∀b u,H b=some u→b≠it:=fun b u e z=>by rw[z,hn]at e;cases e
 refine I.step (g':=s.gens) (d':=s.drawn) (ch:=[it]) (fun b hb=>?_) (fun b o _ _ hc e _=>k b o (fun z=>hc (by simp [z])) e) (fun b o _ _ hc e _=>⟨o.slots,k b o (fun z=>hc (by simp [z])) e⟩) (fun _ _ _ _ n=>n)
  (fun b o hc e=>⟨o,k b o (fun z=>hc (by simp [z])) e⟩) (fun _ _ e=>e) (fun _ _ _ e=>e) (fun b ps e=>⟨#[],by rw[e];simp⟩) (fun m hm=>?_) (fun b u e=>?_) I.bare
 ·have e:b=it:=by simpa using hb
  subst e
  exact⟨h1,hL,h2,h3⟩
 ·obtain⟨o,es,ep,ho,r⟩:=hm
  exact⟨o,es,ep,k _ o (Ne.symm hL) ho,r⟩
 ·refine(I.hok b u e).stay (fun c v hc q=>k c v ?_ q) (fun _ q=>q) fun _ _ q=>q
  rcases hc with z|z
  ·rw[z];exact WD b u e
  ·exact WD c _ z
theorem Inv.tok(I:Inv X pins σ H s)(t:Nat):Inv X pins σ H {s with toks:=t}:=I.un (h':=s.heap) (t':=t) Un.refl I.hok
theorem Inv.kept{t':Nat}(I:Inv X pins σ H s)(k:∀b u,s.heap.get? b=some u→h'.get? b=some u):Inv X pins σ H {s with heap:=h',toks:=t'}:=I.un (Un.kept k) (I.hok.kept k)
theorem Inv.laid{a:Addr}{o:HO}{t':Nat}(I:Inv X pins σ H s)(k:∀b u,s.heap.get? b=some u→h'.get? b=some u)(hp:s.heap.objs.size≤a)(new:iR X.prog X.w (upd H a o) h' a o):
  Inv X pins σ (upd H a o) {s with heap:=h',toks:=t'}:=I.un (Un.laid k hp (I.hok.fresh hp)) (I.hok.laid k hp new)
theorem Inv.write{x e:Addr}{o:HO}{t':Nat}(I:Inv X pins σ H s)(mu:Y9 (H x))(he:e=x∨H e=some (.own x))(k:∀b u,b≠e→s.heap.get? b=some u→h'.get? b=some u)(heo:∃u,h'.get? e=some u)
  (new:iR X.prog X.w (upd H x o) h' x o):Inv X pins σ (upd H x o) {s with heap:=h',toks:=t'}:=I.un (Un.write mu he k heo) (I.hok.write mu he k heo new)
theorem Inv.weak{σ':List (Option V)}(I:Inv X pins σ H s)(hl:σ'.length=σ.length)(w:∀(i:Nat) v,σ'[i]? =some (some v)→σ[i]? =some (some v)):Inv X pins σ' H s:=
 ⟨I.ok,I.os,I.bare,I.base,let⟨m,hn,hl'⟩:=I.loc;⟨m,hn,fun i x v e1 e2 e3=>hl' i x v e1 (w i v e2) e3⟩,I.cell,I.free,I.kZ,I.pin,I.hok,hl.trans I.len⟩
theorem Inv.uD{jJ:List (Addr×Obj)}(I:Inv X pins σ H s)(h:∀p∈jJ,s.heap.get? p.1=some p.2∧H p.1=none∧p.1≠X.env.locals∧p.1∉X.fs∧∀v,p.2.data≠ .cell v):Inv X jJ σ H s:=
 ⟨I.ok,I.os,I.bare,I.base,I.loc,I.cell,I.free,I.kZ,fun p hp=>(List.mem_append.mp hp).elim (fun z=>I.pin p (List.mem_append_left _ z)) (h p),I.hok,I.len⟩
theorem uP{N:List Str}(hN:N.Nodup){i j:Nat}{x:Str}(a:N[i]? =some x)(b:N[j]? =some x):i=j:=by
 obtain⟨h1,e1⟩:=List.getElem?_eq_some_iff.mp a
 obtain⟨h2,e2⟩:=List.getElem?_eq_some_iff.mp b
 exact(List.getElem_inj hN).mp (e1.trans e2.symm)
theorem BJ{M:Model}{A:Around}{E:Value→Shared→Prop}{i:Nat}{x:Str}{v:V}{u:Value}{Q:Unit→Shared→Prop}(I:Inv X pins σ H s)(hN:X.N.Nodup)(hi:X.N[i]? =some x)(hx:Loc X.env.scope x)(r:RelV v u)
  (h:∀s',Inv X pins (σ.set i (some v)) H s'→(∃a,Heap.SameBut a s.heap s'.heap∧(a=X.env.locals∨X.env.cells.lookup x=some a))→Q () s') (hf:X.fn x=true∨X.env.scope.names.lookup x=some .local:=by first|exact .inl rfl|exact .inr rfl|assumption):wpAny M A (storeName X.env x u) Q E s:=by
 obtain⟨m,hn,hl⟩:=id I.loc
 have hcls:(X.env.scope.kind== .class||(X.env.scope.kind== .module&&X.env.locals != X.env.globals))=false:=by rw[I.ok.kind];rfl
 have hiσ:i<σ.length:=by rw[I.len];exact(List.getElem?_eq_some_iff.mp hi).1
 have YW:=I.YW
 have tracked:∀ {a:Addr} {h':Heap},(∃o,s.heap.get? a=some o∧H a=none)→Heap.SameBut a s.heap h'→vI X.prog X.w H h':=fun {a h'} ha hs b ob e=>by
  obtain⟨_,_,hfree⟩:=ha
  refine(I.hok b ob e).stay (fun c w' hc q=>(hs.2 c ?_).trans q) (fun _ q=>q) fun _ _ q=>q
  rintro rfl
  rcases hc with rfl|hc
  ·rw[hfree]at e;cases e
  ·rw[hfree]at hc;cases hc
 rcases hx with hk|hk
 ·refine wpAny_storeName_local hk hn (fun h' hn' hs=>?_) hcls
  obtain⟨oL,_,_,hoL,_⟩:=id hn
  refine h _ ⟨I.ok,I.os,I.bare,⟨fun b o e n hb hx=>?_,fun b o e n hb hx=>?_,I.base.free,fun b o e hx=>?_,I.base.tups,I.base.zq,I.base.Ag⟩,⟨_,hn',fun j y v' e1 e2 e3=>?_⟩,fun y c e=>?_,I.free,I.kZ,fun p hp=>?_,tracked ⟨oL,hoL,I.free⟩ hs,by simpa using I.len⟩ ⟨_,hs,.inl rfl⟩
  ·exact(hs.2 b (Nat.ne_of_lt (Nat.lt_of_lt_of_le (Heap.lt_size e) I.ok.above))).trans (I.base.keep b o e n hb hx)
  ·obtain⟨sl,e1⟩:=I.base.slot b o e n hb hx
   exact⟨sl,(hs.2 b (Nat.ne_of_lt (Nat.lt_of_lt_of_le (Heap.lt_size e) I.ok.above))).trans e1⟩
  ·obtain⟨o',e1⟩:=I.base.there b o e hx
   exact⟨o',(hs.2 b (Nat.ne_of_lt (Nat.lt_of_lt_of_le (Heap.lt_size e) I.ok.above))).trans e1⟩
  ·by_cases hj:j=i
   ·subst hj
    rw[hi]at e1;cases e1
    rw[List.getElem?_set_self hiσ]at e2
    cases e2
    exact⟨u,r,.inl ⟨hk,by simp⟩⟩
   ·rw[List.getElem?_set_ne (Ne.symm hj)]at e2
    obtain⟨u',r',q⟩:=hl j y v' e1 e2 e3
    refine⟨u',r',?_⟩
    rcases q with⟨k,e⟩| ⟨k,c,e,z⟩
    ·refine .inl ⟨k,?_⟩
     have:y≠x:=fun e=>hj (uP hN e1 (e▸hi))
     simp [this,e]
    ·exact .inr ⟨k,c,e,z.sameBut hs (YW y c e)⟩
  ·obtain⟨w',z⟩:=I.cell y c e
   exact⟨w',z.sameBut hs (YW y c e)⟩
  ·obtain⟨e,n,ne,nf,d⟩:=I.pin p hp
   exact⟨(hs.2 p.1 ne).trans e,n,ne,nf,d⟩
 ·have hfn:X.fn x=true:=by
   rcases hf with z|z
   ·exact z
   ·rw[z]at hk;cases hk
  obtain⟨c,hc⟩:=I.ok.has x (.inl hk)
  obtain⟨w',z⟩:=I.cell x c hc
  refine wpAny_storeName_cell I.ok.kind hk hc z (fun h' hc' hs=>?_)
  obtain⟨oc,hoc,acr⟩:=id z
  refine h {s with heap:=h'} ⟨I.ok,I.os,I.bare,⟨fun b o e n hb hx=>?_,fun b o e n hb hx=>?_,I.base.free,fun b o e hx=>?_,I.base.tups,I.base.zq,I.base.Ag⟩,⟨m,hn.sameBut hs (Ne.symm (YW x c hc)),fun j y v' e1 e2 e3=>?_⟩,fun y c' e=>?_,I.free,I.kZ,fun p hp=>?_,tracked ⟨oc,hoc,I.kZ x c hc⟩ hs,by simpa using I.len⟩ ⟨c,hs,.inr hc⟩
  ·exact(hs.2 b (Nat.ne_of_lt (Nat.lt_of_lt_of_le (Heap.lt_size e) (I.ok.cab x c hfn hc)))).trans (I.base.keep b o e n hb hx)
  ·obtain⟨sl,e1⟩:=I.base.slot b o e n hb hx
   exact⟨sl,(hs.2 b (Nat.ne_of_lt (Nat.lt_of_lt_of_le (Heap.lt_size e) (I.ok.cab x c hfn hc)))).trans e1⟩
  ·obtain⟨o',e1⟩:=I.base.there b o e hx
   exact⟨o',(hs.2 b (Nat.ne_of_lt (Nat.lt_of_lt_of_le (Heap.lt_size e) (I.ok.cab x c hfn hc)))).trans e1⟩
  ·by_cases hj:j=i
   ·subst hj
    rw[hi]at e1;cases e1
    rw[List.getElem?_set_self hiσ]at e2
    cases e2
    exact⟨u,r,.inr ⟨.inl hk,c,hc,hc'⟩⟩
   ·rw[List.getElem?_set_ne (Ne.symm hj)]at e2
    obtain⟨u',r',q⟩:=hl j y v' e1 e2 e3
    refine⟨u',r',?_⟩
    rcases q with q| ⟨k,c',e,z'⟩
    ·exact .inl q
    ·refine .inr ⟨k,c',e,z'.sameBut hs ?_⟩
     rintro rfl
     exact hj (uP hN e1 (I.ok.inj _ _ _ e hc▸hi))
  ·by_cases hcc:c'=c
   ·subst hcc;exact⟨_,hc'⟩
   ·obtain⟨w2,z2⟩:=I.cell y c' e
    exact⟨w2,z2.sameBut hs hcc⟩
  ·obtain⟨e,n,ne,nf,d⟩:=I.pin p hp
   refine⟨(hs.2 p.1 ?_).trans e,n,ne,nf,d⟩
   intro q
   rw[q,hoc]at e
   have q':oc=p.2:=Option.some.inj e
   exact d w' (by rw[←q'];exact acr)
theorem yx{M:Model}{A:Around}{E:Value→Shared→Prop}{i:Nat}{x:Str}{v:V}{u:Value}{Q:Unit→Shared→Prop}(I:Inv X pins σ H s)(hN:X.N.Nodup)(hi:X.N[i]? =some x)(hx:Loc X.env.scope x)(r:RelV v u)
  (h:∀s',Inv X pins (σ.set i (some v)) H s'→Q () s') (hf:X.fn x=true∨X.env.scope.names.lookup x=some .local:=by first|exact .inl rfl|exact .inr rfl|assumption):wpAny M A (storeName X.env x u) Q E s:=
 BJ I hN hi hx r (fun s' I' _=>h s' I') hf
theorem Inv.call'{s':Shared}{ch:List Addr}(I:Inv X pins σ H s)(ho:s'.os=s.os)(u:Un (frs X.stack) ch H H' s.heap s'.heap)(hok:vI X.prog X.w H' s'.heap)(hg:AllBare s'.gens)
  (hch:∀b∈ch,(b∈X.ex∨X.Am.heap.objs.size≤b)∧b≠X.env.locals∧(∀x c,X.env.cells.lookup x=some c→c≠b)∧∀p∈X.pn++pins,p.1≠b):Inv X pins σ H' s':=by
 obtain⟨h',g',d',t',o'⟩:=s'
 have e:o'=s.os:=ho
 subst e
 exact I.call (g':=g') (t':=t') (d':=d') u hok hg hch
end
abbrev XK:=Value→Option Addr→Hp→Prop
abbrev St:=List (Option V)
abbrev VK:=V→Hp→Prop
abbrev TE:=St→Hp→VK→Prop
abbrev TT:=St→Hp→(Bool→Hp→Prop)→Prop
abbrev TA:=St→Hp→(List V→Hp→Prop)→Prop
structure Ends where
 nx:St→Hp→Prop
 rt:VK
 bk:St→Hp→Prop:=fun _ _=>False
 ct:St→Hp→Prop:=fun _ _=>False
abbrev TS:=Ends→St→Hp→Prop
def EP(X:Cx)(pins:List (Addr×Obj))(σ:St)(Q:VK)(u:Value)(s':Shared):Prop:=∃v H',Inv X pins σ H' s'∧RelV v u∧Q v H'
def TP(X:Cx)(pins:List (Addr×Obj))(σ:St)(Q:Bool→Hp→Prop)(b:Bool)(s':Shared):Prop:=∃H',Inv X pins σ H' s'∧Q b H'
def AP(X:Cx)(pins:List (Addr×Obj))(σ:St)(Q:List V→Hp→Prop)(us:List Value)(s':Shared):Prop:=∃vs H',Inv X pins σ H' s'∧Vals vs us∧Q vs H'
def SP(X:Cx)(pins:List (Addr×Obj))(D:Ends)(f:Flow)(s':Shared):Prop:=
 match f with
 | .next=>∃σ' H',Inv X pins σ' H' s'∧D.nx σ' H'
 | .brk=>∃σ' H',Inv X pins σ' H' s'∧D.bk σ' H'
 | .cont=>∃σ' H',Inv X pins σ' H' s'∧D.ct σ' H'
 | .ret u=>∃v σ' H',Inv X pins σ' H' s'∧RelV v u∧D.rt v H'
def PE(X:Cx)(e:Expr)(t:TE):Prop:=
 ∀(pins:List (Addr×Obj)) (s:Shared) (σ:St) (H:Hp) (Q:VK),Inv X pins σ H s→t σ H Q→wpAny (model X.prog X.w) X.A (eval e X.env) (EP X pins σ Q) X.xe s
def PT(X:Cx)(e:Expr)(t:TT):Prop:=
 ∀(pins:List (Addr×Obj)) (s:Shared) (σ:St) (H:Hp) (Q:Bool→Hp→Prop),Inv X pins σ H s→t σ H Q→wpAny (model X.prog X.w) X.A (isTrue e X.env (eval e X.env)) (TP X pins σ Q) X.xe s
def PW(X:Cx)(e:Expr)(t:TT):Prop:=
 ∀(whole:Sem Value) (pins:List (Addr×Obj)) (s:Shared) (σ:St) (H:Hp) (Q:Bool→Hp→Prop),Inv X pins σ H s→t σ H Q→wpAny (model X.prog X.w) X.A (isTrue e X.env whole) (TP X pins σ Q) X.xe s
theorem PW.pt{X:Cx}{e:Expr}{t:TT}(h:PW X e t):PT X e t:=h _
def PA(X:Cx)(es:List Expr)(t:TA):Prop:=
 ∀(pos:Pos) (pins:List (Addr×Obj)) (s:Shared) (σ:St) (H:Hp) (Q:List V→Hp→Prop),Inv X pins σ H s→t σ H Q→wpAny (model X.prog X.w) X.A (spliced (backTo pos (starEach es X.env))) (AP X pins σ Q) X.xe s
def PS(X:Cx)(st:Stmt)(t:TS):Prop:=
 ∀(pins:List (Addr×Obj)) (s:Shared) (σ:St) (H:Hp) (D:Ends),Inv X pins σ H s→t D σ H→wpAny (model X.prog X.w) X.A (exec st X.env) (SP X pins D) X.xe s
def Jc(X:Cx)(st:List Stmt)(t:TS):Prop:=
 ∀(pins:List (Addr×Obj)) (s:Shared) (σ:St) (H:Hp) (D:Ends),Inv X pins σ H s→t D σ H→wpAny (model X.prog X.w) X.A (execs st X.env) (SP X pins D) X.xe s
theorem cW{α:Type}{t:Sem α}{Q Q':α→Shared→Prop}{M:Model}{A:Around}{E:Value→Shared→Prop}{s:Shared}(h:wpAny M A t Q E s)(hQ:∀a s,Q a s→Q' a s):wpAny M A t Q' E s:=wpAny_mono h hQ fun _ _ x=>x
section
variable{X:Cx}
theorem bin{a b:Expr}{ta tb:TE}(ha:PE X a ta)(hb:PE X b tb){pins:List (Addr×Obj)}{s:Shared}{σ:St}{H:Hp}{R:V→V→Hp→Prop}(I:Inv X pins σ H s)(h:ta σ H fun x H1=>tb σ H1 fun y H2=>R x y H2)
  {α:Type} {Q:α→Shared→Prop} {f:Value→Value→Sem α}
  (hf:∀v u s2 x y H2,Inv X pins σ H2 s2→RelV x v→RelV y u→R x y H2→wpAny (model X.prog X.w) X.A (f v u) Q X.xe s2):
  wpAny (model X.prog X.w) X.A (eval a X.env) (fun v s₁=>wpAny (model X.prog X.w) X.A (eval b X.env) (fun u s₂=>wpAny (model X.prog X.w) X.A (f v u) Q X.xe s₂) X.xe s₁) X.xe s:=by
 refine cW (ha pins s σ H _ I h) fun v s1 ⟨x,H1,I1,r1,q1⟩=>?_
 refine cW (hb pins s1 σ H1 _ I1 q1) fun u s2 ⟨y,H2,I2,r2,q2⟩=>?_
 exact hf v u s2 x y H2 I2 r1 r2 q2
def ug(i:Nat):TE:=fun σ H Q=>∃v,σ[i]? =some (some v)∧Q v H
def tC(v:V):TE:=fun _ H Q=>Q v H
theorem XM{i:Nat}{x:Str}{pos:Pos}(hN:X.N[i]? =some x)(hv:Y6 X.env.scope x)(hd:(x==("__debug__":Str))=false:=by decide)(hcd:(x==("__classdict__":Str))=false:=by decide):PE X (.Name x pos) (ug i):=by
 intro pins s σ H Q I h
 obtain⟨v,e,h⟩:=h
 obtain⟨m,hn,hl⟩:=I.loc
 obtain⟨u,r,l⟩:=hl i x v hN e hv
 have fin:EP X pins σ Q u s:=⟨v,H,I,r,h⟩
 rcases l with⟨hk,hm⟩| ⟨hk,c,hc,hcell⟩
 ·exact wpAny_Name (wpAny_loadName_local I.ok.kind hk hn hm fin) hd
 ·rcases hk with hk|hk
  ·exact wpAny_Name (wpAny_loadName_cell I.ok.kind hk hc hcell fin) hd
  ·exact wpAny_Name (wpAny_loadName_free I.ok.kind hk hc hcell fin hcd) hd
theorem aA{i j pos}:PE X (.Constant (.int i) j pos) (tC (.int i)):=fun _ _ _ H _ I h=>wpAny_Constant_int ⟨.int i,H,I.tok _,⟨_,rfl⟩,h⟩
theorem Ml{b j pos}:PE X (.Constant (.bool b) j pos) (tC (.bl b)):=fun _ _ _ H _ I h=>Constant_bool ⟨.bl b,H,I,rfl,h⟩
theorem dw{j pos}:PE X (.Constant .none j pos) (tC .non):=fun _ _ _ H _ I h=>Constant_none ⟨.non,H,I,rfl,h⟩
def Gl(X:Cx)(x:Str):Prop:=X.env.kindOf x=some .globalImplicit
theorem Eo{E:Value→Shared→Prop}{pins:List (Addr×Obj)}{s:Shared}{σ:St}{H:Hp}{x:Str}{u:Value}{pos:Pos}{Q:Value→Shared→Prop}(I:Inv X pins σ H s)(hg:Gl X x)(hm:X.mg x=some u)(h:Q u s)
  (hd:(x==("__debug__":Str))=false:=by decide):wpAny (model X.prog X.w) X.A (eval (.Name x pos) X.env) Q E s:=
 Calls.Name_function_global I.ok.kind hg (Calls.loadGlobal_global (by rw[I.ok.glob];exact I.mod.glob.keeps I.bk) hm h) hd
theorem kY{E:Value→Shared→Prop}{pins:List (Addr×Obj)}{s:Shared}{σ:St}{H:Hp}{x:Str}{u:Value}{pos:Pos}{Q:Value→Shared→Prop}(I:Inv X pins σ H s)(hg:Gl X x)(hm:X.mg x=none)(hv:bootBuiltins x=some u)(h:Q u s)
  (hn:x≠"__name__":=by decide) (hd:(x==("__debug__":Str))=false:=by decide):wpAny (model X.prog X.w) X.A (eval (.Name x pos) X.env) Q E s:=by
 obtain⟨mb,h1,h2⟩:=I.mod.blt
 exact Calls.Name_function_global I.ok.kind hg (Calls.loadGlobal_builtin (by rw[I.ok.glob];exact I.mod.glob.keeps I.bk) hm (by rw[I.ok.blt];exact h1.keeps I.bk) ((h2 x hn).trans hv) h) hd
theorem DR{x:Str}{v:V}{u:Value}{pos:Pos}(hg:Gl X x)(hm:X.mg x=some u)(r:RelV v u)(hd:(x==("__debug__":Str))=false:=by decide):PE X (.Name x pos) (tC v):=
 fun _ _ _ H _ I h=>Eo I hg hm ⟨v,H,I,r,h⟩ hd
variable{a b:Expr}{ta tb:TE}{pos:Pos}
def PC(X:Cx)(op:CmpOp)(a b:Expr)(t:TE):Prop:=
 ∀(pins:List (Addr×Obj)) (s:Shared) (σ:St) (H:Hp) (Q:VK),Inv X pins σ H s→t σ H Q→
  wpAny (model X.prog X.w) X.A (eval a X.env) (fun v s₁=>wpAny (model X.prog X.w) X.A (eval b X.env) (fun u s₂=>wpAny (model X.prog X.w) X.A (compareOp op v u) (EP X pins σ Q) X.xe s₂) X.xe s₁) X.xe s
theorem RP(b:Expr){op:CmpOp}(h:op≠ .In)(h2:op≠ .NotIn):behindInMarks op b=false:=by
 have e1:(op==CmpOp.In)=false:=by cases op<;>first|rfl|exact absurd rfl h
 have e2:(op==CmpOp.NotIn)=false:=by cases op<;>first|rfl|exact absurd rfl h2
 cases b<;>simp [behindInMarks,e1,e2]
def tB(t:TE):TT:=fun σ H Q=>t σ H fun x H1=>∃c,x= .bl c∧Q c H1
theorem ab2{op:CmpOp}{t:TE}(h:PC X op a b t)(h1:behindInMarks op b=false:=by first|exact RP _ (by decide) (by decide)|rfl):PT X (.Compare a [op] [b] pos) (tB t):=by
 intro pins s σ H Q I hw
 refine wpAny_isTrue_Compare1 (cW (h pins s σ H _ I hw) fun v s1 h1=>cW h1 fun u s2 h2=>cW h2 fun c s3 ⟨x,H1,I1,r1,q1⟩=>?_) h1
 obtain⟨d,rfl,q⟩:=q1
 cases r1
 exact wpAny_truthy_bool ⟨H1,I1,q⟩
theorem cz{e:Expr}{t:TE}(h:PE X e t)(he:∀whole,isTrue e X.env whole=(do let v ←whole;standAt e.pos;holding [v] (truthy v)):=by intro _;rfl):PT X e (tB t):=by
 intro pins s σ H Q I hw
 refine isTrue_plain (cW (h pins s σ H _ I hw) fun v s1 ⟨x,H1,I1,r1,q1⟩=>?_) (he _)
 obtain⟨d,rfl,q⟩:=q1
 cases r1
 exact wpAny_truthy_bool ⟨H1,I1,q⟩
variable{tA tB':TT}{rest:List Expr}
def Xu(t u:TT):TT:=fun σ H Q=>t σ H fun c H1=>if c=true then u σ H1 Q else Q false H1
def tOr(t u:TT):TT:=fun σ H Q=>t σ H fun c H1=>if c=true then Q true H1 else u σ H1 Q
def Xn(t:TT):TT:=fun σ H Q=>t σ H fun c H1=>Q (!c) H1
theorem mX(ha:PT X a tA):PW X (.BoolOp .And [a] pos) tA:=by
 intro wh pins s σ H Q I h
 refine isTrue_and (cW (ha pins s σ H Q I h) fun c s1 e=>?_)
 cases c with
 |true=>exact isTrue_and_nil e
 |false=>exact e
theorem Rj(ha:PT X a tA):PW X (.BoolOp .Or [a] pos) tA:=by
 intro wh pins s σ H Q I h
 refine isTrue_or (cW (ha pins s σ H Q I h) fun c s1 e=>?_)
 cases c with
 |false=>exact isTrue_or_nil e
 |true=>exact e
theorem rY(ha:PT X a tA)(hb:PW X (.BoolOp .And (b::rest) pos) tB'):PW X (.BoolOp .And (a::b::rest) pos) (Xu tA tB'):=by
 intro wh pins s σ H Q I h
 refine isTrue_and (cW (ha pins s σ H _ I h) fun c s1 ⟨H1,I1,q1⟩=>?_)
 cases c with
 |true=>exact hb wh pins s1 σ H1 Q I1 q1
 |false=>exact⟨H1,I1,q1⟩
theorem Wu(ha:PT X a tA)(hb:PW X (.BoolOp .Or (b::rest) pos) tB'):PW X (.BoolOp .Or (a::b::rest) pos) (tOr tA tB'):=by
 intro wh pins s σ H Q I h
 refine isTrue_or (cW (ha pins s σ H _ I h) fun c s1 ⟨H1,I1,q1⟩=>?_)
 cases c with
 |true=>exact⟨H1,I1,q1⟩
 |false=>exact hb wh pins s1 σ H1 Q I1 q1
theorem d9(ha:PT X a tA):PT X (.UnaryOp .Not a pos) (Xn tA):=by
 intro pins s σ H Q I h
 exact isTrue_not (ha pins s σ H (fun c H1=>Q (!c) H1) I h)
def QJ(ta tb:TE):TE:=fun σ H Q=>ta σ H fun x H1=>∃c,x= .bl c∧if c=true then tb σ H1 Q else Q (.bl false) H1
def Xm(ta tb:TE):TE:=fun σ H Q=>ta σ H fun x H1=>∃c,x= .bl c∧if c=true then Q (.bl true) H1 else tb σ H1 Q
def Wl(ta:TE):TE:=fun σ H Q=>ta σ H fun x H1=>∃c,x= .bl c∧Q (.bl (!c)) H1
theorem yL{op}{t:TE}(h:PE X a t):PE X (.BoolOp op [a] pos) t:=fun pins s σ H Q I hw=>BoolOp_one (h pins s σ H Q I hw)
theorem DW(ha:PE X a ta)(hb:PE X (.BoolOp .And (b::rest) pos) tb):PE X (.BoolOp .And (a::b::rest) pos) (QJ ta tb):=by
 intro pins s σ H Q I h
 refine BoolOp_and (cW (ha pins s σ H _ I h) fun v s1 ⟨x,H1,I1,r1,q1⟩=>?_)
 obtain⟨c,rfl,q1⟩:=q1
 cases r1
 refine wpAny_truthy_bool ?_
 cases c with
 |true=>exact hb pins s1 σ H1 Q I1 q1
 |false=>exact⟨.bl false,H1,I1,rfl,q1⟩
theorem Z4(ha:PE X a ta)(hb:PE X (.BoolOp .Or (b::rest) pos) tb):PE X (.BoolOp .Or (a::b::rest) pos) (Xm ta tb):=by
 intro pins s σ H Q I h
 refine BoolOp_or (cW (ha pins s σ H _ I h) fun v s1 ⟨x,H1,I1,r1,q1⟩=>?_)
 obtain⟨c,rfl,q1⟩:=q1
 cases r1
 refine wpAny_truthy_bool ?_
 cases c with
 |false=>exact hb pins s1 σ H1 Q I1 q1
 |true=>exact⟨.bl true,H1,I1,rfl,q1⟩
def tIf(t:TT)(ta tb:TE):TE:=fun σ H Q=>t σ H fun c H1=>if c=true then ta σ H1 Q else tb σ H1 Q
theorem yM{c:Expr}(hc:PT X c tA)(ha:PE X a ta)(hb:PE X b tb):PE X (.IfExp c a b pos) (tIf tA ta tb):=by
 intro pins s σ H Q I h
 refine wpAny_IfExp (cW (hc pins s σ H _ I h) fun d s1 ⟨H1,I1,q1⟩=>?_)
 cases d with
 |true=>exact ha pins s1 σ H1 Q I1 q1
 |false=>exact hb pins s1 σ H1 Q I1 q1
end
def bC(K:PySem.W.Frag)(H:Hp)(a:Addr)(xs:List V):Prop:=
 Rd H a (.lst xs)∨
  ∃(o:Obj) (its:Array Value) (n:Nat),K.lookup a=some o∧o.cls= .type "list"∧o.dict=none∧o.data= .seq its n∧its.size≤sizeLine∧Vals xs its.toList
def mF(K:PySem.W.Frag)(H:Hp)(a:Addr)(xs:List V):Prop:=
 Rd H a (.tup xs)∨
  ∃(o:Obj) (its:Array Value) (n:Nat),K.lookup a=some o∧o.cls= .type "tuple"∧o.data= .seq its n∧its.size≤sizeLine∧Vals xs its.toList
def ac1:Value→Option V
 | .none=>some .non
 | .bool b=>some (.bl b)
 | .int i _=>some (.int i)
 | .str x _=>some (.str x)
 | .bytes b _=>some (.TJ b)
 | .float b _=>some (.flt b)
 | .ref a=>some (.ref a)
 | .type n=>some (.ty n)
 |_=>none
theorem RelV.abs{x:V}{u:Value}(r:RelV x u):ac1 u=some x:=by
 cases x with
 |non=>cases r;rfl
 |bl _=>cases r;rfl
 |int _=>obtain⟨t,rfl⟩:=r;rfl
 |str _=>obtain⟨t,rfl⟩:=r;rfl
 |TJ _=>obtain⟨t,rfl⟩:=r;rfl
 |flt _=>obtain⟨t,rfl⟩:=r;rfl
 |ref _=>cases r;rfl
 |ty _=>cases r;rfl
theorem RelV.inj{x y:V}{u:Value}(r:RelV x u)(q:RelV y u):x=y:=Option.some.inj (r.abs.symm.trans q.abs)
theorem Vals.inj:∀ {xs ys:List V} {us:List Value},Vals xs us→Vals ys us→xs=ys
 |_,_,_,.nil,.nil=>rfl
 |_,_,_,.cons r t,.cons r' t'=>by rw[r.inj r',Vals.inj t t']
section
variable{X:Cx}{pins:List (Addr×Obj)}{σ:St}{H:Hp}{s:Shared}{a:Addr}{xs ys:List V}
theorem bC.of{K:PySem.W.Frag}(h:H a=some (.lst xs)):bC K H a xs:= .inl (.inl h)
theorem mF.of{K:PySem.W.Frag}(h:H a=some (.tup xs)):mF K H a xs:= .inl (.inl h)
theorem Inv.list(I:Inv X pins σ H s)(h:bC X.K H a xs):∃its:List Value,Vals xs its∧PlainL s.heap a its.toArray∧xs.length≤sizeLine:=by
 rcases h with h| ⟨o,its,n,hk,hc,hd,hs,hz,r⟩
 ·obtain⟨z,its,n,r,e⟩:=h.ok I.hok
  exact⟨its,r,⟨_,n,e,rfl,rfl,rfl⟩,z⟩
 ·refine⟨its.toList,r,⟨o,n,I.MF a o hk,hc,hd,by simpa using hs⟩,?_⟩
  have e:=r.length
  simp only[Array.length_toList]at e
  omega
theorem Inv.tuple(I:Inv X pins σ H s)(h:mF X.K H a xs):∃its:List Value,Vals xs its∧IsTup s.heap a its.toArray∧xs.length≤sizeLine:=by
 rcases h with h| ⟨o,its,n,hk,hc,hs,hz,r⟩
 ·obtain⟨z,its,r,p⟩:=h.ok I.hok
  exact⟨its,r,p,z⟩
 ·refine⟨its.toList,r,⟨o,I.MF a o hk,hc,n,by simpa using hs⟩,?_⟩
  have e:=r.length
  simp only[Array.length_toList]at e
  omega
theorem Inv.o9(I:Inv X pins σ H s)(h:bC X.K H a xs)(h':bC X.K H a ys):xs=ys:=by
 obtain⟨its,r,⟨o,n,e,_,_,d⟩,_⟩:=I.list h
 obtain⟨its',r',⟨o',n',e',_,_,d'⟩,_⟩:=I.list h'
 rw[e]at e';cases e'
 rw[d]at d'
 injection d' with d1 _
 have:its=its':=by simpa using congrArg Array.toList d1
 subst this
 exact r.inj r'
theorem Inv.Ny(I:Inv X pins σ H s)(h:mF X.K H a xs)(h':mF X.K H a ys):xs=ys:=by
 obtain⟨its,r,⟨o,e,_,n,d⟩,_⟩:=I.tuple h
 obtain⟨its',r',⟨o',e',_,n',d'⟩,_⟩:=I.tuple h'
 rw[e]at e';cases e'
 rw[d]at d'
 injection d' with d1 _
 have:its=its':=by simpa using congrArg Array.toList d1
 subst this
 exact r.inj r'
end
abbrev Cx.wish(X:Cx)(E:Value→Shared→Prop):Cx:={X with xe:=E}
abbrev Cx.X_(X:Cx):Cx:=X.wish fun _ _=>False
theorem Cx.Ok.wish{X:Cx}(ok:X.Ok)(E:Value→Shared→Prop):(X.wish E).Ok:=
 ⟨ok.mod,ok.kind,ok.glob,ok.blt,ok.above,ok.inj,ok.has,ok.cab,ok.hd,ok.frames,ok.stk,ok.exf,ok.bs,ok.Tn,ok.RN,ok.S9,ok.xT,ok.Yy⟩
theorem Cx.Ok.oJ{X:Cx}{E:Value→Shared→Prop}(ok:(X.wish E).Ok):X.Ok:=
 ⟨ok.mod,ok.kind,ok.glob,ok.blt,ok.above,ok.inj,ok.has,ok.cab,ok.hd,ok.frames,ok.stk,ok.exf,ok.bs,ok.Tn,ok.RN,ok.S9,ok.xT,ok.Yy⟩
section
variable{X:Cx}{pins:List (Addr×Obj)}{σ:St}{H:Hp}{s:Shared}{E:Value→Shared→Prop}
theorem Inv.wish(I:Inv X pins σ H s)(E:Value→Shared→Prop):Inv (X.wish E) pins σ H s:=⟨I.ok.wish E,I.os,I.bare,I.base,I.loc,I.cell,I.free,I.kZ,I.pin,I.hok,I.len⟩
theorem Inv.oJ(I:Inv (X.wish E) pins σ H s):Inv X pins σ H s:=⟨I.ok.oJ,I.os,I.bare,I.base,I.loc,I.cell,I.free,I.kZ,I.pin,I.hok,I.len⟩
theorem SP.oJ{D:Ends}{f:Flow}{s':Shared}(h:SP (X.wish E) pins D f s'):SP X pins D f s':=by
 cases f with
 |next=>obtain⟨σ',H',I,q⟩:=h;exact⟨σ',H',I.oJ,q⟩
 |brk=>obtain⟨σ',H',I,q⟩:=h;exact⟨σ',H',I.oJ,q⟩
 |cont=>obtain⟨σ',H',I,q⟩:=h;exact⟨σ',H',I.oJ,q⟩
 |ret u=>obtain⟨v,σ',H',I,r,q⟩:=h;exact⟨v,σ',H',I.oJ,r,q⟩
theorem Jc.X_{st:List Stmt}{t:TS}(h:Jc X.X_ st t):Jc X st t:=fun pins s σ H D I hw=>
 wpAny_mono (h pins s σ H D (I.wish _) hw) (fun _ _ q=>q.oJ) fun _ _ z=>False.elim z
end
section
variable{X:Cx}{st:Stmt}{rest:List Stmt}{t u:TS}{e:Expr}{te:TE}{pos:Pos}
def QC:TS:=fun D σ H=>D.nx σ H
def Xk(t u:TS):TS:=fun D σ H=>t {D with nx:=u D} σ H
theorem aK:Jc X [] QC:=fun _ _ σ H _ I h=>wpAny_execs_nil ⟨σ,H,I,h⟩
theorem ak(h1:PS X st t)(h2:Jc X rest u):Jc X (st::rest) (Xk t u):=by
 intro pins s σ H D I h
 refine wpAny_execs_cons (cW (h1 pins s σ H {D with nx:=u D} I h) fun f s1 q=>?_)
 cases f with
 |next=>
  obtain⟨σ',H',I',q⟩:=q
  exact h2 pins s1 σ' H' D I' q
 |ret v=>exact q
 |brk=>exact q
 |cont=>exact q
theorem aq(h1:PS X st t):Jc X [st] t:=by
 intro pins s σ H D I h
 refine wpAny_execs_cons (cW (h1 pins s σ H D I h) fun f s1 q=>?_)
 cases f with
 |next=>exact wpAny_execs_nil q
 |ret v=>exact q
 |brk=>exact q
 |cont=>exact q
theorem Inv.quiet{pins:List (Addr×Obj)}{σ:St}{H:Hp}{s:Shared}(I:Inv X pins σ H s):interactive X.env=false:=by simp [interactive,I.ok.kind]
def QD(te:TE):TS:=fun D σ H=>te σ H fun _ H1=>D.nx σ H1
theorem cQ(he:PE X e te)(hs:swapsWith e none pos.line X.env=pure false:=by rfl):PS X (.Expr e pos) (QD te):=by
 intro pins s σ H D I h
 exact wpAny_Expr_any (cW (he pins s σ H _ I h) fun v s1 ⟨x,H1,I1,r1,q1⟩=>⟨σ,H1,I1,q1⟩) I.quiet hs
def Xl(te:TE):TS:=fun D σ H=>te σ H D.rt
theorem az(he:PE X e te):PS X (.Return (some e) pos) (Xl te):=by
 intro pins s σ H D I h
 exact wpAny_Return_some (cW (he pins s σ H _ I h) fun v s1 ⟨x,H1,I1,r1,q1⟩=>⟨x,σ,H1,I1,r1,q1⟩)
def Wj:TS:=fun D _ H=>D.rt .non H
def Xq(c:TT)(t u:TS):TS:=fun D σ H=>c σ H fun b H1=>if b=true then t D σ H1 else u D σ H1
theorem bB{c:Expr}{a b:List Stmt}{tc:TT}(hc:PT X c tc)(ha:Jc X a t)(hb:Jc X b u):PS X (.If c a b pos) (Xq tc t u):=by
 intro pins s σ H D I h
 refine wpAny_If (cW (hc pins s σ H _ I h) fun d s1 ⟨H1,I1,q1⟩=>?_)
 cases d with
 |true=>exact ha pins s1 σ H1 D I1 q1
 |false=>exact hb pins s1 σ H1 D I1 q1
end
abbrev TG:=V→St→Hp→(St→Hp→Prop)→Prop
abbrev W2:=List V→St→Hp→(St→Hp→Prop)→Prop
def PG(X:Cx)(target:Expr)(t:TG):Prop:=
 ∀(pins:List (Addr×Obj)) (s:Shared) (σ:St) (H:Hp) (v:V) (u:Value) (Q:St→Hp→Prop),Inv X pins σ H s→RelV v u→t v σ H Q→
  wpAny (model X.prog X.w) X.A (assign target X.env u) (fun _ s'=>∃σ' H',Inv X pins σ' H' s'∧Q σ' H') X.xe s
def PGs(X:Cx)(ts:List Expr)(t:W2):Prop:=
 ∀(pins:List (Addr×Obj)) (s:Shared) (σ:St) (H:Hp) (vs:List V) (us:List Value) (Q:St→Hp→Prop),Inv X pins σ H s→Vals vs us→t vs σ H Q→
  wpAny (model X.prog X.w) X.A (assignInOrder ((assignEach ts X.env).map (·.2)) us) (fun _ s'=>∃σ' H',Inv X pins σ' H' s'∧Q σ' H') X.xe s
abbrev Tv:=V→V→V→Hp→(Hp→Prop)→Prop
def Y8(X:Cx)(t:Tv):Prop:=
 ∀(pins:List (Addr×Obj)) (s:Shared) (σ:St) (H:Hp) (o i v:V) (ov iv u:Value) (Q:Hp→Prop),Inv X pins σ H s→RelV o ov→RelV i iv→RelV v u→t o i v H Q→
  wpAny (model X.prog X.w) X.A (setItem ov iv u) (fun _ s'=>∃H',Inv X pins σ H' s'∧Q H') X.xe s
abbrev Zr:=V→V→Hp→VK→Prop
def PIp(X:Cx)(op:Operator)(t:Zr):Prop:=
 ∀(pins:List (Addr×Obj)) (s:Shared) (σ:St) (H:Hp) (x y:V) (v u:Value) (Q:VK),Inv X pins σ H s→RelV x v→RelV y u→t x y H Q→
  wpAny (model X.prog X.w) X.A (inplaceOp op v u) (EP X pins σ Q) X.xe s
section
variable{X:Cx}{pos:Pos}
def Ck(i:Nat):TG:=fun v σ H Q=>Q (σ.set i (some v)) H
theorem aH{i:Nat}{x:Str}(hN:X.N.Nodup)(hi:X.N[i]? =some x)(hx:Loc X.env.scope x)(hf:X.fn x=true∨X.env.scope.names.lookup x=some .local:=by first|exact .inl rfl|exact .inr rfl|assumption):PG X (.Name x pos) (Ck i):=by
 intro pins s σ H v u Q I r h
 exact wpAny_assign_Name (yx I hN hi hx r (fun s' I'=>⟨_,H,I',h⟩) hf)
def Yx:W2:=fun vs σ H Q=>vs=[]∧Q σ H
def Sy(t:TG)(u:W2):W2:=fun vs σ H Q=>∃v r,vs=v::r∧t v σ H fun σ' H'=>u r σ' H' Q
theorem gD:PGs X [] Yx:=by
 intro pins s σ H vs us Q I r h
 obtain⟨e,h⟩:=h
 subst e
 cases r
 exact assignInOrder_nil ⟨σ,H,I,h⟩
theorem bI{e:Expr}{es:List Expr}{t:TG}{u:W2}(h1:PG X e t)(h2:PGs X es u)
  (hs:(assignEach (e::es) X.env).map (·.2)=assign e X.env::(assignEach es X.env).map (·.2):=by rfl):PGs X (e::es) (Sy t u):=by
 intro pins s σ H vs us Q I r h
 obtain⟨v,vr,e1,h⟩:=h
 subst e1
 cases r with
 |cons r rr=>
  rw[hs]
  refine assignInOrder_cons (cW (h1 pins s σ H _ _ _ I r h) fun _ s1 ⟨σ1,H1,I1,q1⟩=>?_)
  exact h2 pins s1 σ1 H1 _ _ Q I1 rr q1
def VL(K:PySem.W.Frag)(n:Nat)(t:W2):TG:=fun v σ H Q=>∃a xs,v= .ref a∧mF K H a xs∧xs.length=n∧t xs σ H Q
theorem XJ{es:List Expr}{k:Nat}{t:W2}{n:Nat}(hc:X.calm=true)(h:PGs X es t)
  (hn:(assignEach es X.env).length=n:=by rfl) (hst:(assignEach es X.env).findIdx? (·.1)=none:=by rfl):PG X (.Tuple es k pos) (VL X.K n t):=by
 intro pins s σ H v u Q I r hw
 obtain⟨a,xs,e1,hq,hl,hw⟩:=hw
 subst e1
 cases r
 obtain⟨its,rv,ht,hz⟩:=I.tuple hq
 refine assign_Tuple_tuple (I.ok.hd hc) ht (by simp [hn,←hl,rv.length]) hst fun h' hx=>?_
 have I1:Inv X pins σ H {s with heap:=h'}:=I.kept (t':=s.toks) fun b o e=>hx b o (Nat.ne_of_lt (Heap.lt_size e)) e
 exact h pins _ σ H xs _ Q I1 (by simpa using rv) hw
def Yw(to ti:TE)(t:Tv):TG:=fun v σ H Q=>to σ H fun o H1=>ti σ H1 fun i H2=>t o i v H2 fun H3=>Q σ H3
theorem DQ{o i:Expr}{to ti:TE}{t:Tv}(ho:PE X o to)(hi:PE X i ti)(hs:Y8 X t)
  (ha:∀v,assign (.Subscript o i pos) X.env v=(do
   let ov ←holding [v] (eval o X.env)
   let iv ←holding [v,ov] (eval i X.env)
   standAt pos
   holding [v,ov,iv] (setItem ov iv v)
   release [v,ov,iv] []):=by intro _;rfl):PG X (.Subscript o i pos) (Yw to ti t):=by
 intro pins s σ H v u Q I r h
 rw[ha]
 refine wpAny_bind (wpAny_holding (cW (ho pins s σ H _ I h) fun ov s1 ⟨x,H1,I1,r1,q1⟩=>?_))
 refine wpAny_bind (wpAny_holding (cW (hi pins s1 σ H1 _ I1 q1) fun iv s2 ⟨y,H2,I2,r2,q2⟩=>?_))
 refine wpAny_bind (wpAny_standAt (wpAny_bind (wpAny_holding (cW (hs pins s2 σ H2 x y v ov iv u _ I2 r1 r2 r q2) fun _ s3 ⟨H3,I3,q3⟩=>?_))))
 exact wpAny_release ⟨σ,H3,I3,q3⟩
def QH(te:TE)(g:TG):TS:=fun D σ H=>te σ H fun x H1=>g x σ H1 D.nx
theorem DP{tg e:Expr}{te:TE}{g:TG}(he:PE X e te)(hg:PG X tg g)(hs:swapsWithSole [tg] e pos.line X.env=pure false:=by rfl)(hw:swappedStores [tg] e X.env=pure none:=by rfl)
  (h1:(assignEach [tg] X.env).map (·.2)=[assign tg X.env]:=by rfl):PS X (.Assign [tg] e pos) (QH te g):=by
 intro pins s σ H D I h
 refine wpAny_Assign_stores (cW (he pins s σ H _ I h) fun v s1 ⟨x,H1,I1,r1,q1⟩=>?_) hs hw
 rw[h1]
 exact cW (hg pins s1 σ H1 x v _ I1 r1 q1) fun _ s2 q=>q
theorem a_{i:Nat}{x:Str}{e:Expr}{te:TE}{pos':Pos}(hN:X.N.Nodup)(hi:X.N[i]? =some x)(hx:Loc X.env.scope x)(he:PE X e te)(hs:swapsWith e (some (.Name x pos')) pos.line X.env=pure false:=by rfl)(hf:X.fn x=true∨X.env.scope.names.lookup x=some .local:=by first|exact .inl rfl|exact .inr rfl|assumption):
  PS X (.Assign [.Name x pos'] e pos) (QH te (Ck i)):=by
 intro pins s σ H D I h
 refine wpAny_Assign_Name (cW (he pins s σ H _ I h) fun v s1 ⟨y,H1,I1,r1,q1⟩=>?_) hs
 exact yx I1 hN hi hx r1 (fun s2 I2=>⟨_,H1,I2,q1⟩) hf
def Xr(i:Nat)(te:TE)(ti:Zr):TS:=fun D σ H=>∃x,σ[i]? =some (some x)∧te σ H fun y H1=>ti x y H1 fun z H2=>D.nx (σ.set i (some z)) H2
theorem XD{i:Nat}{x:Str}{e:Expr}{te:TE}{op:Operator}{ti:Zr}{pos':Pos}(hN:X.N.Nodup)(hi:X.N[i]? =some x)(hx:Loc X.env.scope x)(he:PE X e te)(ho:PIp X op ti)(hf:X.fn x=true∨X.env.scope.names.lookup x=some .local:=by first|exact .inl rfl|exact .inr rfl|assumption):
  PS X (.AugAssign (.Name x pos') op e pos) (Xr i te ti):=by
 intro pins s σ H D I h
 obtain⟨v,e1,h⟩:=h
 obtain⟨m,hn,hl⟩:=I.loc
 have vis:Y6 X.env.scope x:=by rcases hx with k|k;exact .inl k;exact .inr (.inl k)
 obtain⟨u,r,l⟩:=hl i x v hi e1 vis
 refine wpAny_AugAssign_Name ?_
 have go:wpAny (model X.prog X.w) X.A (eval e X.env) (fun w s₂=>wpAny (model X.prog X.w) X.A (inplaceOp op u w) (fun r s₃=>wpAny (model X.prog X.w) X.A (storeName X.env x r) (fun _=>SP X pins D .next) X.xe s₃) X.xe s₂) X.xe s:=by
  refine cW (he pins s σ H _ I h) fun w s1 ⟨y,H1,I1,r1,q1⟩=>?_
  refine cW (ho pins s1 σ H1 v y u w _ I1 r r1 q1) fun z s2 ⟨zv,H2,I2,r2,q2⟩=>?_
  exact yx I2 hN hi hx r2 (fun s3 I3=>⟨_,H2,I3,q2⟩) hf
 rcases l with⟨hk,hm⟩| ⟨hk,c,hc,hcell⟩
 ·exact wpAny_loadName_local I.ok.kind hk hn hm go
 ·rcases hk with hk|hk
  ·exact wpAny_loadName_cell I.ok.kind hk hc hcell go
  ·rcases hx with k|k
   ·have:X.env.scope.names.lookup x=some .free:=hk
    rw[k]at this;cases this
   ·have:X.env.scope.names.lookup x=some .free:=hk
    rw[k]at this;cases this
def QG(to ti te:TE)(Uk:V→V→Hp→VK→Prop)(tip:Zr)(T_:Tv):TS:=fun D σ H=>to σ H fun o H1=>ti σ H1 fun i H2=>Uk o i H2 fun x H3=>te σ H3 fun y H4=>tip x y H4 fun z H5=>T_ o i z H5 fun H6=>D.nx σ H6
def aaY(X:Cx)(t:V→V→Hp→VK→Prop):Prop:=
 ∀(pins:List (Addr×Obj)) (s:Shared) (σ:St) (H:Hp) (o i:V) (ov iv:Value) (Q:VK),Inv X pins σ H s→RelV o ov→RelV i iv→t o i H Q→
  wpAny (model X.prog X.w) X.A (getItem ov iv) (EP X pins σ Q) X.xe s
theorem DN{o i e:Expr}{to ti te:TE}{Uk:V→V→Hp→VK→Prop}{tip:Zr}{T_:Tv}{op:Operator}{tpos:Pos}(ho:PE X o to)(hi:PE X i ti)(hg:aaY X Uk)(he:PE X e te)(hp:PIp X op tip)(hs:Y8 X T_)
  (ha:∀ov iv new,augStore i ov iv new=(do holding [new,ov,iv] (setItem ov iv new);release [new,ov,iv] [];pure .next):=by intros;rfl):PS X (.AugAssign (.Subscript o i tpos) op e pos) (QG to ti te Uk tip T_):=by
 intro pins s σ H D I h
 refine wpAny_AugAssign_SubscriptAny (cW (ho pins s σ H _ I h) fun ov s1 ⟨x1,H1,I1,r1,q1⟩=>?_) ha
 refine cW (hi pins s1 σ H1 _ I1 q1) fun iv s2 ⟨x2,H2,I2,r2,q2⟩=>?_
 refine cW (hg pins s2 σ H2 x1 x2 ov iv _ I2 r1 r2 q2) fun old s3 ⟨x3,H3,I3,r3,q3⟩=>?_
 refine cW (he pins s3 σ H3 _ I3 q3) fun v s4 ⟨x4,H4,I4,r4,q4⟩=>?_
 refine cW (hp pins s4 σ H4 x3 x4 old v _ I4 r3 r4 q4) fun new s5 ⟨x5,H5,I5,r5,q5⟩=>?_
 exact cW (hs pins s5 σ H5 x1 x2 x5 ov iv new _ I5 r1 r2 r5 q5) fun _ s6 ⟨H6,I6,q6⟩=>⟨σ,H6,I6,q6⟩
def ipI(f:Int→Int→Int):Zr:=fun x y H Q=>∃i j,x= .int i∧y= .int j∧Q (.int (f i j)) H
theorem Kh:PIp X .Add (ipI fun i j=>i+j):=by
 intro pins s σ H x y v u Q I r1 r2 h
 obtain⟨i,j,e1,e2,q⟩:=h
 subst e1;subst e2
 obtain⟨t,rfl⟩:=r1
 obtain⟨t',rfl⟩:=r2
 exact iadd_int ⟨.int _,H,I.tok _,⟨_,rfl⟩,q⟩
theorem Yl:PIp X .Sub (ipI fun i j=>i - j):=by
 intro pins s σ H x y v u Q I r1 r2 h
 obtain⟨i,j,e1,e2,q⟩:=h
 subst e1;subst e2
 obtain⟨t,rfl⟩:=r1
 obtain⟨t',rfl⟩:=r2
 exact isub_int ⟨.int _,H,I.tok _,⟨_,rfl⟩,q⟩
end
section
variable{X:Cx}{pos:Pos}
def Qz(c:TT)(tb:TS):TS:=fun D σ H=>∃W:Nat→St→Hp→Prop,(∃m,W m σ H)∧∀m σ H,W m σ H→
 c σ H fun b H1=>if b=true then ∃N:St→Hp→Prop,(∀σ' H',N σ' H'→∃m',m'<m∧W m' σ' H')∧tb {D with nx:=N,ct:=N,bk:=D.nx} σ H1 else D.nx σ H1
theorem Hi{c:Expr}{body:List Stmt}{tc:TT}{tb:TS}(hp:PassesOwn (model X.prog X.w) X.A X.env X.xe)(hc:PT X c tc)(hb:Jc X body tb):PS X (.While c body [] pos) (Qz tc tb):=by
 intro pins s σ H D I h
 obtain⟨W,⟨m0,w0⟩,turn⟩:=h
 refine wpAny_While (codeAny_whileLoop (fun n s'=>∃σ' H',Inv X pins σ' H' s'∧W n σ' H') ?_ m0 ⟨σ,H,I,w0⟩)
 rintro n s1 ⟨σ1,H1,I1,w1⟩
 refine wpAny_passesOwn hp (cW (hc pins s1 σ1 H1 _ I1 (turn n σ1 H1 w1)) fun b s2 ⟨H2,I2,q2⟩=>?_)
 cases b with
 |true=>
  obtain⟨N,hN,q2⟩:=q2
  rw[if_pos rfl]
  refine wpAny_passesOwn hp (cW (hb pins s2 σ1 H2 _ I2 q2) fun f s3 q3=>?_)
  cases f with
  |next=>
   obtain⟨σ3,H3,I3,n3⟩:=q3
   obtain⟨m',hm,w3⟩:=hN σ3 H3 n3
   exact⟨m',hm,σ3,H3,I3,w3⟩
  |cont=>
   obtain⟨σ3,H3,I3,n3⟩:=q3
   obtain⟨m',hm,w3⟩:=hN σ3 H3 n3
   exact⟨m',hm,σ3,H3,I3,w3⟩
  |brk=>exact q3
  |ret v=>exact q3
 |false=>
  rw[if_neg Bool.false_ne_true]
  exact wpAny_execs_nil ⟨σ1,H2,I2,q2⟩
end
structure It where
 go:Nat→Hp→Prop
 W8:Nat→Hp→V→Hp→Prop
 stop:Nat→Hp→Prop
def eV(X:Cx)(pins:List (Addr×Obj))(H:Hp)(b:Addr):Prop:=
 H b=none∧b≠X.env.locals∧b∉X.fs∧(b∈X.ex∨X.Am.heap.objs.size≤b)∧(∀x c,X.env.cells.lookup x=some c→c≠b)∧∀p∈X.pn++pins,p.1≠b
theorem Inv.vf{X:Cx}{pins:List (Addr×Obj)}{σ:St}{H H':Hp}{s:Shared}{b:Addr}(I:Inv X pins σ H s)(hb:s.heap.objs.size≤b)(hn:H' b=none):eV X pins H' b:=by
 refine⟨hn,Nat.ne_of_gt (Nat.lt_of_lt_of_le I.lt hb),I.ab8 hb,.inr (Nat.le_trans I.sz hb),fun x c e z=>?_,fun p hp z=>?_⟩
 ·obtain⟨v,q⟩:=I.cell x c e
  exact absurd (Nat.lt_of_lt_of_le q.lt (by rw[z];exact hb)) (Nat.lt_irrefl _)
 ·exact absurd (Nat.lt_of_lt_of_le (Heap.lt_size (I.pin p hp).1) (by rw[z];exact hb)) (Nat.lt_irrefl _)
structure Turn(P:Program)(w:World)(K:PySem.W.Frag)(tg:Expr)(J:It)(fp:List Addr)(it:Addr)(tn:Nat→Heap→Prop):Prop where
 mem:it∈fp
 obj:∀i h,tn i h→∀b∈fp,∃o,h.get? b=some o∧∀v,o.data≠ .cell v
 keep:∀i h h',tn i h→(∀b∈fp,∀o,h.get? b=some o→h'.get? b=some o)→tn i h'
 item:∀(X:Cx),X.prog=P→X.w=w→X.K=K→X.calm=true→∀(i:Nat) (pins:List (Addr×Obj)) (s:Shared) (σ:St) (H:Hp) (E:Value→Shared→Prop),Inv X pins σ H s→(∀b∈fp,eV X pins H b)→tn i s.heap→J.go i H→
  wpAny (model P w) X.A (pyNext (.ref it)) (fun r s1=>∃u,r=some u∧
   wpAny (model P w) X.A (letOwnedTupleGo tg (.ref it) u) (fun _ s2=>∃x H',Inv X pins σ H' s2∧RelV x u∧J.W8 i H x H'∧tn (i+1) s2.heap∧∀b∈fp,H' b=none) E s1) E s
 done:∀(X:Cx),X.prog=P→X.w=w→X.K=K→X.calm=true→∀(i:Nat) (pins:List (Addr×Obj)) (s:Shared) (σ:St) (H:Hp) (E:Value→Shared→Prop),Inv X pins σ H s→(∀b∈fp,eV X pins H b)→tn i s.heap→J.stop i H→
  wpAny (model P w) X.A (pyNext (.ref it)) (fun r s1=>r=none∧Inv X pins σ H s1) E s
 self:∀(A:Around) (i:Nat) (s:Shared) (Q:Value→Shared→Prop) (E:Value→Shared→Prop),tn i s.heap→Q (.ref it) s→wpAny (model P w) A (pyIter (.ref it)) Q E s
abbrev TI:=St→Hp→(It→Hp→Prop)→Prop
def PIE(X:Cx)(pins:List (Addr×Obj))(σ:St)(tg:Expr)(R:It→Hp→Prop)(itv:Value)(s2:Shared):Prop:=
 ∃(it:Addr) (fp:List Addr) (tn:Nat→Heap→Prop) (J:It) (H':Hp),itv= .ref it∧Inv X pins σ H' s2∧Turn X.prog X.w X.K tg J fp it tn∧tn 0 s2.heap∧(∀b∈fp,eV X pins H' b)∧R J H'
def PI(X:Cx)(tg iter:Expr)(wi:TI):Prop:=
 ∀(pins:List (Addr×Obj)) (s:Shared) (σ:St) (H:Hp) (R:It→Hp→Prop),Inv X pins σ H s→wi σ H R→
  wpAny (model X.prog X.w) X.A (eval iter X.env) (fun v s1=>wpAny (model X.prog X.w) X.A (pyIter v) (PIE X pins σ tg R) X.xe s1) X.xe s
theorem M9{M:Model}{A:Around}{E:Value→Shared→Prop}{s:Shared}{tg:Expr}{it:Addr}{u:Value}{o:Obj}{n:String}{vs:Array Value}{Q:Unit→Shared→Prop}(ho:s.heap.get? it=some o)(hc:o.cls= .type n)(hd:o.data= .fields vs)
  (hn:["enumerate","zip","dict_itemiterator","dict_reverseitemiterator","odict_iterator","itertools.zip_longest","itertools.pairwise"].contains n=false) (hQ:Q () s):wpAny M A (letOwnedTupleGo tg (.ref it) u) Q E s:=by
 unfold letOwnedTupleGo
 cases tg<;>first
  |exact wpAny_pure hQ
  | (cases u<;>first
    |exact wpAny_pure hQ
    | (refine wpAny_bind (wpAny_load ho ?_)
       rw[hc,hd]
       show wpAny M A (if (["enumerate","zip","dict_itemiterator","dict_reverseitemiterator","odict_iterator","itertools.zip_longest","itertools.pairwise"].contains n&&vs[0]? ==some (rawInt _))=true then _ else _) Q E s
       rw[if_neg (by intro h;rw[hn,Bool.false_and]at h;cases h)]
       exact wpAny_pure hQ))
def Itl(K:PySem.W.Frag)(a:Addr):It:=
 ⟨fun i H=>∃xs x,bC K H a xs∧xs[i]? =some x,fun i H x H'=>H'=H∧∀xs,bC K H a xs→xs[i]? =some x,fun i H=>∃xs,bC K H a xs∧xs.length≤i⟩
def Itt(K:PySem.W.Frag)(a:Addr):It:=
 ⟨fun i H=>∃xs x,mF K H a xs∧xs[i]? =some x,fun i H x H'=>H'=H∧∀xs,mF K H a xs→xs[i]? =some x,fun i H=>∃xs,mF K H a xs∧xs.length≤i⟩
def Zt(lo:Int)(n:Nat):It:=⟨fun i _=>i<n,fun i H x H'=>H'=H∧x= .int (lo+i),fun i _=>n≤i⟩
theorem Nv{P:Program}{w:World}{K:PySem.W.Frag}{tg:Expr}(a it:Addr):Turn P w K tg (Itl K a) [it] it (fun i h=>h.IsListIter it a i) where
 mem:=by simp
 obj:=fun i h st b hb=>by
  have e:b=it:=by simpa using hb
  subst e
  obtain⟨o,e,c,d⟩:=st
  exact⟨o,e,fun v z=>by rw[d]at z;cases z⟩
 keep:=fun i h h' st k=>st.at fun o e=>k it (by simp) o e
 item:=by
  intro X hP hw hK hc i pins s σ H E I hf st hg
  subst hP hw hK
  obtain⟨xs,x,hq,hx⟩:=hg
  obtain⟨its,rv,p,hz⟩:=I.list hq
  obtain⟨u,hu,ru⟩:=rv.get hx
  obtain⟨f0,f1,f2,f3,f4,f5⟩:=hf it (by simp)
  refine wpAny_pyNext_list_item st p.isList (x:=u) (by simpa using hu) fun h' st' sb=>?_
  have I1:Inv X pins σ H {s with heap:=h'}:=I.turned (t':=s.toks) (fun b o hb e=>(sb.2 b hb).trans e) f0 f1 f3 f4 f5
  obtain⟨o,e,c,d⟩:=id st'
  exact⟨u,rfl,M9 (s:={s with heap:=h'}) e c d (by decide) ⟨x,H,I1,ru,⟨rfl,fun ys hy=>by rw[I.o9 hy hq];exact hx⟩,st',fun b hb=>(hf b hb).1⟩⟩
 done:=by
  intro X hP hw hK hc i pins s σ H E I hf st hg
  subst hP hw hK
  obtain⟨xs,hq,hx⟩:=hg
  obtain⟨its,rv,p,hz⟩:=I.list hq
  obtain⟨f0,f1,f2,f3,f4,f5⟩:=hf it (by simp)
  have hl:=rv.length
  exact wpAny_pyNext_list_end (I.ok.hd hc) st p.isList (by simp;omega) fun h' eb=>⟨rfl,I.turned (t':=s.toks) (fun b o hb e=>eb b o hb e) f0 f1 f3 f4 f5⟩
 self:=fun _ _ _ _ _ st h=>wpAny_pyIter_listiter st h
theorem Jl{P:Program}{w:World}{K:PySem.W.Frag}{tg:Expr}(a it:Addr):Turn P w K tg (Itt K a) [it] it (fun i h=>h.IsTupleIter it a i) where
 mem:=by simp
 obj:=fun i h st b hb=>by
  have e:b=it:=by simpa using hb
  subst e
  obtain⟨o,e,c,d⟩:=st
  exact⟨o,e,fun v z=>by rw[d]at z;cases z⟩
 keep:=fun i h h' st k=>st.at fun o e=>k it (by simp) o e
 item:=by
  intro X hP hw hK hc i pins s σ H E I hf st hg
  subst hP hw hK
  obtain⟨xs,x,hq,hx⟩:=hg
  obtain⟨its,rv,p,hz⟩:=I.tuple hq
  obtain⟨u,hu,ru⟩:=rv.get hx
  obtain⟨f0,f1,f2,f3,f4,f5⟩:=hf it (by simp)
  refine wpAny_pyNext_tuple_item st (show s.heap.IsTuple a its.toArray from p) (x:=u) (by simpa using hu) fun h' st' sb=>?_
  have I1:Inv X pins σ H {s with heap:=h'}:=I.turned (t':=s.toks) (fun b o hb e=>(sb.2 b hb).trans e) f0 f1 f3 f4 f5
  obtain⟨o,e,c,d⟩:=id st'
  exact⟨u,rfl,M9 (s:={s with heap:=h'}) e c d (by decide) ⟨x,H,I1,ru,⟨rfl,fun ys hy=>by rw[I.Ny hy hq];exact hx⟩,st',fun b hb=>(hf b hb).1⟩⟩
 done:=by
  intro X hP hw hK hc i pins s σ H E I hf st hg
  subst hP hw hK
  obtain⟨xs,hq,hx⟩:=hg
  obtain⟨its,rv,p,hz⟩:=I.tuple hq
  obtain⟨f0,f1,f2,f3,f4,f5⟩:=hf it (by simp)
  have hl:=rv.length
  exact wpAny_pyNext_tuple_end (I.ok.hd hc) st (show s.heap.IsTuple a its.toArray from p) (by simp;omega) fun h' eb=>⟨rfl,I.turned (t':=s.toks) (fun b o hb e=>eb b o hb e) f0 f1 f3 f4 f5⟩
 self:=fun _ _ _ _ _ st h=>wpAny_pyIter_tupleiter st h
theorem Jm{P:Program}{w:World}{K:PySem.W.Frag}{tg:Expr}(it:Addr)(lo:Int)(n:Nat):Turn P w K tg (Zt lo n) [it] it (fun i h=>IsRangeIter h it (lo+(i:Nat)*1) ((n:Int) - (i:Nat)) 1) where
 mem:=by simp
 obj:=fun i h st b hb=>by
  have e:b=it:=by simpa using hb
  subst e
  exact⟨_,st,fun v z=>by
   have z':Data.fields _=Data.cell v:=z
   cases z'⟩
 keep:=fun i h h' st k=>k it (by simp) _ st
 item:=by
  intro X hP hw hK hc i pins s σ H E I hf st hg
  subst hP hw hK
  obtain⟨f0,f1,f2,f3,f4,f5⟩:=hf it (by simp)
  have W:=Walks.range (prog:=X.prog) (w:=X.w) (I.ok.hd hc) it lo 1 n
  refine W.item i s _ _ hg st fun v h' tk hv st' kk=>?_
  obtain⟨t,rfl⟩:=hv
  have I1:Inv X pins σ H {s with heap:=h',toks:=tk}:=I.turned (fun b o hb e=>kk b o (by simpa using hb) e) f0 f1 f3 f4 f5
  refine⟨_,rfl,M9 (s:={s with heap:=h',toks:=tk}) (n:="range_iterator") st' rfl rfl (by decide) ⟨.int (lo+i),H,I1,⟨t,?_⟩,⟨rfl,rfl⟩,st',fun b hb=>(hf b hb).1⟩⟩
  rw[Int.mul_one]
 done:=by
  intro X hP hw hK hc i pins s σ H E I hf st hg
  subst hP hw hK
  obtain⟨f0,f1,f2,f3,f4,f5⟩:=hf it (by simp)
  exact wpAny_pyNext_range_end (I.ok.hd hc) st (by have:n≤i:=hg;omega) fun h' eb=>⟨rfl,I.turned (t':=s.toks) (fun b o hb e=>eb b o hb e) f0 f1 f3 f4 f5⟩
 self:=fun _ _ _ _ _ st h=>wpAny_pyIter_rangeiter st h
section
variable{X:Cx}{tg:Expr}
def M8(K:PySem.W.Frag)(tl:TE):TI:=fun σ H R=>tl σ H fun x H1=>∃a,x= .ref a∧(∃xs,bC K H1 a xs)∧R (Itl K a) H1
def Vx(K:PySem.W.Frag)(tl:TE):TI:=fun σ H R=>tl σ H fun x H1=>∃a,x= .ref a∧(∃xs,mF K H1 a xs)∧R (Itt K a) H1
theorem U3{l:Expr}{tl:TE}(hl:PE X l tl):PI X tg l (M8 X.K tl):=by
 intro pins s σ H R I h
 refine cW (hl pins s σ H _ I h) fun v s1 ⟨x,H1,I1,r1,q1⟩=>?_
 obtain⟨a,e,⟨xs,hq⟩,q⟩:=q1
 subst e
 cases r1
 obtain⟨its,rv,p,hz⟩:=I1.list hq
 refine wpAny_pyIter_list p.isList ?_
 refine⟨s1.heap.objs.size,[s1.heap.objs.size],_,_,H1,rfl,I1.kept (t':=s1.toks) fun b o e=>Heap.get?_push_of_some _ e,Nv a _,⟨_,Heap.get?_push_size _ rfl,rfl,rfl⟩,fun b hb=>?_,q⟩
 have e:b=s1.heap.objs.size:=by simpa using hb
 subst e
 exact I1.vf (Nat.le_refl _) (I1.hok.fresh (Nat.le_refl _))
theorem XF{l:Expr}{tl:TE}(hl:PE X l tl):PI X tg l (Vx X.K tl):=by
 intro pins s σ H R I h
 refine cW (hl pins s σ H _ I h) fun v s1 ⟨x,H1,I1,r1,q1⟩=>?_
 obtain⟨a,e,⟨xs,hq⟩,q⟩:=q1
 subst e
 cases r1
 obtain⟨its,rv,p,hz⟩:=I1.tuple hq
 refine wpAny_pyIter_tuple (show s1.heap.IsTuple a its.toArray from p) ?_
 refine⟨s1.heap.objs.size,[s1.heap.objs.size],_,_,H1,rfl,I1.kept (t':=s1.toks) fun b o e=>Heap.get?_push_of_some _ e,Jl a _,⟨_,Heap.get?_push_size _ rfl,rfl,rfl⟩,fun b hb=>?_,q⟩
 have e:b=s1.heap.objs.size:=by simpa using hb
 subst e
 exact I1.vf (Nat.le_refl _) (I1.hok.fresh (Nat.le_refl _))
theorem Hh{pins:List (Addr×Obj)}{σ:St}{H:Hp}{s:Shared}{R:It→Hp→Prop}{E:Value→Shared→Prop}{lo hi:Int}{t u v:Tok}{tk:Nat}(I:Inv X pins σ H s)(h1: -(2 ^ 62)≤lo)(h2:lo<2 ^ 62)(h3: -(2 ^ 62)≤hi)(h4:hi<2 ^ 62)
  (q:R (Zt lo (hi - lo).toNat) H):wpAny (model X.prog X.w) X.A (pyIter (.ref s.heap.objs.size)) (PIE X pins σ tg R) E {s with heap:=s.heap.push {cls:= .type "range",data:= .fields #[.int lo t,.int hi u,.int 1 v]},toks:=tk}:=by
 refine wpAny_pyIter_range (IsRange.new ..) (small_one h1 h2 h3 h4) ?_
 have I1:Inv X pins σ H {s with heap:=s.heap.push {cls:= .type "range",data:= .fields #[.int lo t,.int hi u,.int 1 v]},toks:=tk}:=I.kept fun b o e=>Heap.get?_push_of_some _ e
 refine⟨(s.heap.push {cls:= .type "range",data:= .fields #[.int lo t,.int hi u,.int 1 v]}).objs.size,[(s.heap.push {cls:= .type "range",data:= .fields #[.int lo t,.int hi u,.int 1 v]}).objs.size],_,_,H,rfl,
  I1.kept (t':=tk) fun b o e=>Heap.get?_push_of_some _ e,Jm _ lo (hi - lo).toNat,?_,fun b hb=>?_,q⟩
 ·have e1:lo+((0:Nat):Int)*1=lo:=by simp
  have e2:(((hi - lo).toNat:Nat):Int) - ((0:Nat):Int)=Builtin.Range.rangeSize lo hi 1:=by rw[rangeSize_one];split<;>omega
  show IsRangeIter _ _ (lo+((0:Nat):Int)*1) ((((hi - lo).toNat:Nat):Int) - ((0:Nat):Int)) 1
  rw[e1,e2]
  exact Heap.get?_push_size _ rfl
 ·have e:b=(s.heap.push {cls:= .type "range",data:= .fields #[.int lo t,.int hi u,.int 1 v]}).objs.size:=by simpa using hb
  subst e
  exact I1.vf (Nat.le_refl _) (I1.hok.fresh (Nat.le_refl _))
def Sh(ta:TA):TI:=fun σ H R=>ta σ H fun vs H1=>∃j:Int,vs=[.int j]∧ -(2 ^ 62)≤j∧j<2 ^ 62∧R (Zt 0 j.toNat) H1
def Sg(ta:TA):TI:=fun σ H R=>ta σ H fun vs H1=>∃i j:Int,vs=[.int i,.int j]∧(-(2 ^ 62)≤i∧i<2 ^ 62∧ -(2 ^ 62)≤j∧j<2 ^ 62)∧R (Zt i (j - i).toNat) H1
theorem dN{a:Expr}{ta:TA}{p pos:Pos}(hg:Gl X "range")(hm:X.mg "range"=none)(ha:PA X [a] ta)(hs:starEach [a] X.env=[(false,eval a X.env)]:=by rfl):PI X tg (.Call (.Name "range" p) [a] [] pos) (Sh ta):=by
 intro pins s σ H R I h
 refine Call_ (kY I hg hm boot_range (PyProof.Rows.callWith_type1 (cW (ha pos pins s σ H _ I h) fun us s1 ⟨vs,H1,I1,r1,q1⟩=>?_) hs rfl))
 obtain⟨j,e,q1,q2,q⟩:=q1
 subst e
 cases r1 with
 |cons r rr=>
  cases rr
  obtain⟨t,rfl⟩:=r
  exact call_range_1 (Hh I1 (by omega) (by omega) q1 q2 (by simpa using q))
theorem BX{a b:Expr}{ta:TA}{p pos:Pos}(hg:Gl X "range")(hm:X.mg "range"=none)(ha:PA X [a,b] ta)(hs:starEach [a,b] X.env=[(false,eval a X.env),(false,eval b X.env)]:=by rfl)(hs2:starEach [b] X.env=[(false,eval b X.env)]:=by rfl):
  PI X tg (.Call (.Name "range" p) [a,b] [] pos) (Sg ta):=by
 intro pins s σ H R I h
 refine Call_ (kY I hg hm boot_range (PyProof.Rows.callWith_type1 (cW (ha pos pins s σ H _ I h) fun us s1 ⟨vs,H1,I1,r1,q1⟩=>?_) (by rw[hs,hs2]) (by rw[hs2];rfl)))
 obtain⟨i,j,e,⟨q1,q2,q3,q4⟩,q⟩:=q1
 subst e
 cases r1 with
 |cons r rr=>
  cases rr with
  |cons r' rr=>
   cases rr
   obtain⟨t,rfl⟩:=r
   obtain⟨t',rfl⟩:=r'
   exact call_range_2 (Hh I1 q1 q2 q3 q4 q)
def ZD(wi:TI)(g:TG)(tb:TS):TS:=fun D σ H=>wi σ H fun J H1=>∃W:Nat→Nat→St→Hp→Prop,(∃m,W 0 m σ H1)∧∀i m σ H,W i m σ H→
 (J.stop i H∧D.nx σ H)∨(J.go i H∧∃N:St→Hp→Prop,(∀σ' H',N σ' H'→∃m',m'<m∧W (i+1) m' σ' H')∧∀x H',J.W8 i H x H'→g x σ H' fun σ2 H2=>tb {D with nx:=N,ct:=N,bk:=D.nx} σ2 H2)
def yJ(fp:List Addr)(h:Heap):List (Addr×Obj):=fp.filterMap fun b=>(h.get? b).map fun o=>(b,o)
theorem sO{fp:List Addr}{h:Heap}{b:Addr}{o:Obj}(hb:b∈fp)(e:h.get? b=some o):(b,o)∈yJ fp h:=List.mem_filterMap.mpr ⟨b,hb,by rw[e];rfl⟩
theorem Ou{fp:List Addr}{h:Heap}{p:Addr×Obj}(hp:p∈yJ fp h):p.1∈fp∧h.get? p.1=some p.2:=by
 obtain⟨b,hb,e⟩:=List.mem_filterMap.mp hp
 cases q:h.get? b with
 |none=>rw[q]at e;cases e
 |some o=>
  rw[q]at e
  have e':(b,o)=p:=Option.some.inj e
  subst e'
  exact⟨hb,q⟩
theorem Inv.pinned{pins:List (Addr×Obj)}{σ:St}{H:Hp}{s:Shared}{fp:List Addr}(I:Inv X pins σ H s)(hf:∀b∈fp,eV X pins H b)(ho:∀b∈fp,∃o,s.heap.get? b=some o∧∀v,o.data≠ .cell v):Inv X (pins++yJ fp s.heap) σ H s:=
 I.uD fun p hp=>(List.mem_append.mp hp).elim (fun z=>I.pin p (List.mem_append_right _ z)) fun z=>by
  obtain⟨hb,e⟩:=Ou z
  obtain⟨f0,f1,f2,_⟩:=hf p.1 hb
  obtain⟨o,e',d⟩:=ho p.1 hb
  rw[e]at e';cases e'
  exact⟨e,f0,f1,f2,d⟩
theorem Inv.fC{pins pl:List (Addr×Obj)}{σ:St}{H:Hp}{s:Shared}(I:Inv X (pins++pl) σ H s):Inv X pins σ H s:=I.uD fun p hp=>I.pin p (List.mem_append_right _ (List.mem_append_left _ hp))
theorem dH{iter:Expr}{body:List Stmt}{wi:TI}{g:TG}{tb:TS}{pos:Pos}(hp:PassesOwn (model X.prog X.w) X.A X.env X.xe)(hc:X.calm=true)(hi:PI X tg iter wi)(hg:PG X tg g)(hb:Jc X body tb)
  (hs:∀x,foldedSetIterable iter X.env x=pure x:=by intro _;rfl):PS X (.For tg iter body [] pos) (ZD wi g tb):=by
 intro pins s σ H D I h
 refine wpAny_For (cW (hi pins s σ H _ I h) fun v s1 h1=>cW h1 fun itv s2 h2=>?_) hs
 obtain⟨it,fp,tn,J,H2,e,I2,T,st2,f2,W,⟨m0,w0⟩,turn⟩:=h2
 subst e
 have stat:∀ {H':Hp},(∀b∈fp,H' b=none)→∀b∈fp,eV X pins H' b:=fun hn b hb=>⟨hn b hb,(f2 b hb).2⟩
 refine codeAny_forLoop_any (fun n s'=>∃i σ' H',Inv X pins σ' H' s'∧tn i s'.heap∧(∀b∈fp,H' b=none)∧W i n σ' H') ?_ m0 ⟨0,σ,H2,I2,st2,fun b hb=>(f2 b hb).1,w0⟩
 rintro n s3 ⟨i,σ3,H3,I3,st3,fr3,w3⟩
 rcases turn i n σ3 H3 w3 with⟨stop,qn⟩| ⟨go,N,hN,step⟩
 ·refine wpAny_passesOwn hp (cW (T.done X rfl rfl rfl hc i pins s3 σ3 H3 X.xe I3 (stat fr3) st3 stop) fun r s4 ⟨hr,I4⟩=>?_)
  subst hr
  exact wpAny_execs_nil ⟨σ3,H3,I4,qn⟩
 ·refine wpAny_passesOwn hp (cW (T.item X rfl rfl rfl hc i pins s3 σ3 H3 X.xe I3 (stat fr3) st3 go) fun r s4 ⟨u,hr,h4⟩=>?_)
  subst hr
  refine wpAny_passesOwn hp (cW h4 fun _ s5 ⟨x,H5,I5,r5,y5,st5,fr5⟩=>?_)
  have I5':=I5.pinned (stat fr5) (T.obj _ _ st5)
  refine wpAny_passesOwn hp (cW (hg _ s5 σ3 H5 x u _ I5' r5 (step x H5 y5)) fun _ s6 ⟨σ6,H6,I6,q6⟩=>?_)
  refine wpAny_passesOwn hp (cW (hb _ s6 σ6 H6 _ I6 q6) fun f s7 q7=>?_)
  have again:∀ {σ7:St} {H7:Hp},Inv X (pins++yJ fp s5.heap) σ7 H7 s7→N σ7 H7→∃m,m<n∧∃i σ' H',Inv X pins σ' H' s7∧tn i s7.heap∧(∀b∈fp,H' b=none)∧W i m σ' H':=fun {σ7 H7} I7 n7=>by
   obtain⟨m',hm,w7⟩:=hN σ7 H7 n7
   refine⟨m',hm,i+1,σ7,H7,I7.fC,T.keep _ _ _ st5 fun b hb o e=>(I7.pin (b,o) (List.mem_append_right _ (List.mem_append_right _ (sO hb e)))).1,fun b hb=>?_,w7⟩
   obtain⟨o,e,d⟩:=T.obj _ _ st5 b hb
   exact(I7.pin (b,o) (List.mem_append_right _ (List.mem_append_right _ (sO hb e)))).2.1
  cases f with
  |next=>obtain⟨σ7,H7,I7,n7⟩:=q7;exact again I7 n7
  |cont=>obtain⟨σ7,H7,I7,n7⟩:=q7;exact again I7 n7
  |brk=>obtain⟨σ7,H7,I7,q7⟩:=q7;exact⟨σ7,H7,I7.fC,q7⟩
  |ret v=>obtain⟨x7,σ7,H7,I7,r7,q7⟩:=q7;exact⟨x7,σ7,H7,I7.fC,r7,q7⟩
end
theorem Gp{c:TT}{tb:TS}{D:Ends}{σ:St}{H:Hp}(Pv:St→Hp→Prop)(μ:St→Hp→Nat)(h0:Pv σ H)
  (hs:∀σ H,Pv σ H→c σ H fun b H1=>if b=true then tb {D with nx:=fun σ' H'=>Pv σ' H'∧μ σ' H'<μ σ H,ct:=fun σ' H'=>Pv σ' H'∧μ σ' H'<μ σ H,bk:=D.nx} σ H1 else D.nx σ H1)
  (mono:∀σ H Q Q',(∀b H1,Q b H1→Q' b H1)→c σ H Q→c σ H Q'):Qz c tb D σ H:=by
 refine⟨fun m σ H=>m=μ σ H∧Pv σ H,⟨_,rfl,h0⟩,?_⟩
 rintro m σ H ⟨rfl,p⟩
 refine mono σ H _ _ (fun b H1 q=>?_) (hs σ H p)
 cases b with
 |true=>exact⟨_,fun σ' H' ⟨p',l⟩=>⟨_,l,rfl,p'⟩,q⟩
 |false=>exact q
abbrev R2:=V→V→Hp→VK→Prop
def vH(X:Cx)(f:Value→Value→Sem Value)(r:R2):Prop:=
 ∀(pins:List (Addr×Obj)) (s:Shared) (σ:St) (H:Hp) (x y:V) (v u:Value) (Q:VK),Inv X pins σ H s→RelV x v→RelV y u→r x y H Q→
  wpAny (model X.prog X.w) X.A (f v u) (EP X pins σ Q) X.xe s
def UnR(X:Cx)(f:Value→Sem Value)(r:V→Hp→VK→Prop):Prop:=
 ∀(pins:List (Addr×Obj)) (s:Shared) (σ:St) (H:Hp) (x:V) (v:Value) (Q:VK),Inv X pins σ H s→RelV x v→r x H Q→
  wpAny (model X.prog X.w) X.A (f v) (EP X pins σ Q) X.xe s
def gY(X:Cx)(f:Value)(r:List V→Hp→VK→Prop):Prop:=
 ∀(pins:List (Addr×Obj)) (s:Shared) (σ:St) (H:Hp) (xs:List V) (us:List Value) (Q:VK),Inv X pins σ H s→Vals xs us→r xs H Q→
  wpAny (model X.prog X.w) X.A (call f us) (EP X pins σ Q) X.xe s
def Zc(r:R2)(ta tb:TE):TE:=fun σ H Q=>ta σ H fun x H1=>tb σ H1 fun y H2=>r x y H2 Q
def tUn(r:V→Hp→VK→Prop)(ta:TE):TE:=fun σ H Q=>ta σ H fun x H1=>r x H1 Q
def rI(C:Int→Int→Prop)(g:Int→Int→V):R2:=fun x y H Q=>∃i j,x= .int i∧y= .int j∧C i j∧Q (g i j) H
def Ri(g:Int→Int→V):R2:=fun x y H Q=>∃i j,x= .int i∧y= .int j∧Q (g i j) H
def rU(g:Int→V):V→Hp→VK→Prop:=fun x H Q=>∃i,x= .int i∧Q (g i) H
section
variable{X:Cx}{a b c:Expr}{ta tb tc:TE}{pos:Pos}
theorem YZ(ha:PE X a ta)(hb:PE X b tb){pins:List (Addr×Obj)}{s:Shared}{σ:St}{H:Hp}{R:V→V→Hp→Prop}(I:Inv X pins σ H s)
  (h:ta σ H fun x H1=>tb σ H1 fun y H2=>R x y H2) {Q:Value→Shared→Prop} {f:Value→Value→Sem Value}
  (hf:∀v u s2 x y H2,Inv X pins σ H2 s2→RelV x v→RelV y u→R x y H2→wpAny (model X.prog X.w) X.A (f v u) Q X.xe s2):
  wpAny (model X.prog X.w) X.A (eval a X.env) (fun v s₁=>wpAny (model X.prog X.w) X.A (eval b X.env) (fun u s₂=>wpAny (model X.prog X.w) X.A (f v u) Q X.xe s₂) X.xe s₁) X.xe s:=by
 refine cW (ha pins s σ H _ I h) fun v s1 ⟨x,H1,I1,r1,q1⟩=>?_
 refine cW (hb pins s1 σ H1 _ I1 q1) fun u s2 ⟨y,H2,I2,r2,q2⟩=>?_
 exact hf v u s2 x y H2 I2 r1 r2 q2
theorem cH{op:Operator}{r:R2}(ho:vH X (binaryOp op) r)(ha:PE X a ta)(hb:PE X b tb):PE X (.BinOp a op b pos) (Zc r ta tb):=by
 intro pins s σ H Q I h
 exact wpAny_BinOp (YZ ha hb I h fun v u s2 x y H2 I2 rx ry q=>ho pins s2 σ H2 x y v u Q I2 rx ry q)
theorem Mj{op:UnaryOp}{r:V→Hp→VK→Prop}(ho:UnR X (unaryOp op) r)(ha:PE X a ta):PE X (.UnaryOp op a pos) (tUn r ta):=by
 intro pins s σ H Q I h
 exact UnaryOp_ (cW (ha pins s σ H _ I h) fun v s1 ⟨x,H1,I1,r1,q1⟩=>ho pins s1 σ H1 x v Q I1 r1 q1)
theorem opI{f:Value→Value→Sem Value}{C:Int→Int→Prop}{g:Int→Int→Int}
  (rule:∀(i j:Int) (t u:Tok) (s:Shared) (Q:Value→Shared→Prop) (E:Value→Shared→Prop),C i j→Q (.int (g i j) s.toks) {s with toks:=s.toks+1}→wpAny (model X.prog X.w) X.A (f (.int i t) (.int j u)) Q E s):
  vH X f (rI C fun i j=> .int (g i j)):=by
 intro pins s σ H x y v u Q I rx ry h
 obtain⟨i,j,rfl,rfl,hc,q⟩:=h
 obtain⟨t,rfl⟩:=rx
 obtain⟨t',rfl⟩:=ry
 exact rule i j t t' s _ _ hc ⟨.int (g i j),H,I.tok _,⟨_,rfl⟩,q⟩
theorem X4{f:Value→Value→Sem Value}{g:Int→Int→Int}
  (rule:∀(i j:Int) (t u:Tok) (s:Shared) (Q:Value→Shared→Prop) (E:Value→Shared→Prop),Q (.int (g i j) s.toks) {s with toks:=s.toks+1}→wpAny (model X.prog X.w) X.A (f (.int i t) (.int j u)) Q E s):
  vH X f (Ri fun i j=> .int (g i j)):=by
 intro pins s σ H x y v u Q I rx ry h
 obtain⟨i,j,rfl,rfl,q⟩:=h
 obtain⟨t,rfl⟩:=rx
 obtain⟨t',rfl⟩:=ry
 exact rule i j t t' s _ _ ⟨.int (g i j),H,I.tok _,⟨_,rfl⟩,q⟩
theorem Vb{f:Value→Value→Sem Value}{g:Int→Int→Bool}
  (rule:∀(i j:Int) (t u:Tok) (s:Shared) (Q:Value→Shared→Prop) (E:Value→Shared→Prop),Q (.bool (g i j)) s→wpAny (model X.prog X.w) X.A (f (.int i t) (.int j u)) Q E s):
  vH X f (Ri fun i j=> .bl (g i j)):=by
 intro pins s σ H x y v u Q I rx ry h
 obtain⟨i,j,rfl,rfl,q⟩:=h
 obtain⟨t,rfl⟩:=rx
 obtain⟨t',rfl⟩:=ry
 exact rule i j t t' s _ _ ⟨.bl (g i j),H,I,rfl,q⟩
def adf(i j:Int):Prop:=0<j∧j<1073741824
def ade(i j:Int):Prop:=0≤j∧j≤1000000∧i.natAbs<2 ^ 64
theorem jt:vH X (binaryOp .Add) (Ri fun i j=> .int (i+j)):=X4 fun _ _ _ _ _ _ _ q=>add_int q
theorem DY:vH X (binaryOp .Sub) (Ri fun i j=> .int (i - j)):=X4 fun _ _ _ _ _ _ _ q=>sub_int q
theorem Va:vH X (binaryOp .FloorDiv) (rI adf fun i j=> .int (i / j)):=opI fun i j _ _ _ _ _ hc q=>by
 have h1:(0:Int)<j:=hc.1
 have h2:j<1073741824:=hc.2
 exact floordiv_int (by omega) (by rw[Int.fdiv_eq_ediv_of_nonneg i (by omega)];exact q) (.inl (PyProof.noPylong_small (by omega)))
theorem X3:vH X (binaryOp .Mod) (rI (fun _ j=>0<j) fun i j=> .int (i % j)):=opI fun i j _ _ _ _ _ hc q=>by
 have h1:(0:Int)<j:=hc
 exact mod_int' (by omega) (by rw[Int.fmod_eq_emod_of_nonneg i (by omega)];exact q)
theorem XX:vH X (binaryOp .LShift) (rI ade fun i j=> .int (i*2 ^ j.toNat)):=opI fun _ _ _ _ _ _ _ hc q=>lshift_int_small hc.1 hc.2.1 hc.2.2 q
theorem Ry:vH X (binaryOp .BitAnd) (Ri fun i j=> .int (Builtin.bitAnd i j)):=X4 fun _ _ _ _ _ _ _ q=>and_int q
theorem unI{f:Value→Sem Value}{g:Int→Int}
  (rule:∀(i:Int) (t:Tok) (s:Shared) (Q:Value→Shared→Prop) (E:Value→Shared→Prop),Q (.int (g i) s.toks) {s with toks:=s.toks+1}→wpAny (model X.prog X.w) X.A (f (.int i t)) Q E s):
  UnR X f (rU fun i=> .int (g i)):=by
 intro pins s σ H x v Q I rx h
 obtain⟨i,rfl,q⟩:=h
 obtain⟨t,rfl⟩:=rx
 exact rule i t s _ _ ⟨.int (g i),H,I.tok _,⟨_,rfl⟩,q⟩
theorem Qj:UnR X (unaryOp .USub) (rU fun i=> .int (-i)):=unI fun _ _ _ _ _ q=>neg_int q
theorem Ql:UnR X (unaryOp .Invert) (rU fun i=> .int (Builtin.bitNot i)):=unI fun _ _ _ _ _ q=>invert_int q
end
def ZJ:V→V→Bool
 | .non,.non=>true| .non,.int _=>true| .int _,.non=>true| .non,.bl _=>true| .bl _,.non=>true| .non,.str _=>true| .str _,.non=>true
 | .int _,.int _=>true| .bl _,.bl _=>true| .str _,.str _=>true| .TJ _,.TJ _=>true
 | .int _,.str _=>true| .str _,.int _=>true| .bl _,.str _=>true| .str _,.bl _=>true
 |_,_=>false
def rEq:R2:=fun x y H Q=>ZJ x y=true∧Q (.bl (decide (x=y))) H
def rNe:R2:=fun x y H Q=>ZJ x y=true∧Q (.bl (!decide (x=y))) H
theorem Nh{i j:Int}:decide (V.int i=V.int j)=(i==j):=by
 rw[Bool.eq_iff_iff]
 simp
theorem YL{i j:Bool}:decide (V.bl i=V.bl j)=(i==j):=by
 rw[Bool.eq_iff_iff]
 simp
theorem V8{i j:Str}:decide (V.str i=V.str j)=(i==j):=by
 rw[Bool.eq_iff_iff]
 simp
theorem V9{i j:Array UInt8}:decide (V.TJ i=V.TJ j)=(i.toList==j.toList):=by
 rw[Bool.eq_iff_iff]
 cases i
 cases j
 simp
section
variable{X:Cx}{a b c:Expr}{ta tb tc:TE}{pos:Pos}
theorem fL{pins:List (Addr×Obj)}{σ:St}{H:Hp}{s:Shared}{Q:VK}{k k':Bool}(I:Inv X pins σ H s)(q:Q (.bl k) H)(e:k=k'):EP X pins σ Q (.bool k') s:=by
 subst e
 exact⟨.bl k,H,I,rfl,q⟩
theorem du:vH X (compareOp .Eq) rEq:=by
 intro pins s σ H x y v u Q I rx ry h
 obtain⟨hs,q⟩:=h
 cases x with
 |non=>
  cases rx
  cases y with
  |non=>cases ry;exact PySem.EqNone.eq_none_none (fL I q (by simp))
  |bl j=>cases ry;exact PySem.EqNone.eq_none_bool (fL I q (by simp))
  |int j=>obtain⟨t',rfl⟩:=ry;exact PySem.EqNone.eq_none_int (fL I q (by simp))
  |str j=>obtain⟨t',rfl⟩:=ry;exact PySem.EqNone.eq_none_str (fL I q (by simp))
  |_=>exact absurd (show false=true from hs) Bool.false_ne_true
 |bl i=>
  cases rx
  cases y with
  |non=>cases ry;exact PySem.EqNone.eq_bool_none (fL I q (by simp))
  |bl j=>cases ry;exact eq_bool (fL I q YL)
  |str j=>obtain⟨t',rfl⟩:=ry;exact PySem.EqMixed.eq_bool_str (fL I q (by simp))
  |_=>exact absurd (show false=true from hs) Bool.false_ne_true
 |int i=>
  obtain⟨t,rfl⟩:=rx
  cases y with
  |non=>cases ry;exact PySem.EqNone.eq_int_none (fL I q (by simp))
  |int j=>obtain⟨t',rfl⟩:=ry;exact eq_int (fL I q Nh)
  |str j=>obtain⟨t',rfl⟩:=ry;exact PySem.EqMixed.eq_int_str (fL I q (by simp))
  |_=>exact absurd (show false=true from hs) Bool.false_ne_true
 |str i=>
  obtain⟨t,rfl⟩:=rx
  cases y with
  |non=>cases ry;exact PySem.EqNone.eq_str_none (fL I q (by simp))
  |bl j=>cases ry;exact PySem.EqMixed.eq_str_bool (fL I q (by simp))
  |int j=>obtain⟨t',rfl⟩:=ry;exact PySem.EqMixed.eq_str_int (fL I q (by simp))
  |str j=>obtain⟨t',rfl⟩:=ry;exact eq_str (fL I q V8)
  |_=>exact absurd (show false=true from hs) Bool.false_ne_true
 |TJ i=>
  obtain⟨t,rfl⟩:=rx
  cases y with
  |TJ j=>obtain⟨t',rfl⟩:=ry;exact PySem.W.eq_bytes (fL I q V9)
  |_=>exact absurd (show false=true from hs) Bool.false_ne_true
 |_=>cases y<;>exact absurd (show false=true from hs) Bool.false_ne_true
theorem Hq:vH X (compareOp .Lt) (Ri fun i j=> .bl (decide (i<j))):=Vb fun _ _ _ _ _ _ _ q=>lt_int q
theorem fj:vH X (compareOp .LtE) (Ri fun i j=> .bl (decide (i≤j))):=Vb fun _ _ _ _ _ _ _ q=>le_int q
theorem uG:vH X (compareOp .Gt) (Ri fun i j=> .bl (decide (j<i))):=Vb fun _ _ _ _ _ _ _ q=>gt_int q
theorem Wx:vH X (compareOp .GtE) (Ri fun i j=> .bl (decide (j≤i))):=Vb fun _ _ _ _ _ _ _ q=>ge_int q
theorem J3:vH X (compareOp .Is) (fun x y H Q=>y= .non∧Q (.bl (decide (x= .non))) H):=by
 intro pins s σ H x y v u Q I rx ry h
 obtain⟨rfl,q⟩:=h
 cases ry
 refine is_none_gen (fL I q ?_)
 cases x<;>first
  | (cases rx;rfl)
  | (obtain⟨t,rfl⟩:=rx;rfl)
theorem iB:vH X (compareOp .IsNot) (fun x y H Q=>y= .non∧Q (.bl (!decide (x= .non))) H):=by
 intro pins s σ H x y v u Q I rx ry h
 obtain⟨rfl,q⟩:=h
 cases ry
 refine isnot_none_gen (fL I q ?_)
 cases x<;>first
  | (cases rx;rfl)
  | (obtain⟨t,rfl⟩:=rx;rfl)
theorem aX(b:Expr){op:CmpOp}(h:op≠ .In:=by decide)(h2:op≠ .NotIn:=by decide):behindInMarks op b=false:=by
 have e1:(op==CmpOp.In)=false:=by cases op<;>first|rfl|exact absurd rfl h
 have e2:(op==CmpOp.NotIn)=false:=by cases op<;>first|rfl|exact absurd rfl h2
 cases b<;>simp [behindInMarks,e1,e2]
theorem fO{op:CmpOp}{r:R2}(ho:vH X (compareOp op) r)(ha:PE X a ta)(hb:PE X b tb)(hm:behindInMarks op b=false):PE X (.Compare a [op] [b] pos) (Zc r ta tb):=by
 intro pins s σ H Q I h
 exact wpAny_Compare1 (YZ ha hb I h fun v u s2 x y H2 I2 rx ry q=>ho pins s2 σ H2 x y v u Q I2 rx ry q) hm
def Lq(t:TE):TT:=fun σ H Q=>t σ H fun x H'=>∃k,x= .bl k∧Q k H'
theorem aO{op:CmpOp}{r:R2}(ho:vH X (compareOp op) r)(ha:PE X a ta)(hb:PE X b tb)(hm:behindInMarks op b=false):PT X (.Compare a [op] [b] pos) (Lq (Zc r ta tb)):=by
 intro pins s σ H Q I h
 refine wpAny_isTrue_Compare1 (cW (ha pins s σ H _ I h) fun v s1 ⟨x,H1,I1,r1,q1⟩=>cW (hb pins s1 σ H1 _ I1 q1) fun u s2 ⟨y,H2,I2,r2,q2⟩=>
  cW (ho pins s2 σ H2 x y v u _ I2 r1 r2 q2) fun c s3 ⟨z,H3,I3,r3,k,e,q3⟩=>?_) hm
 subst e
 cases r3
 exact wpAny_truthy_bool ⟨H3,I3,q3⟩
def Di(r r':R2)(ta tb tc:TE):TE:=fun σ H Q=>ta σ H fun x H1=>tb σ H1 fun y H2=>r x y H2 fun z H3=>∃k,z= .bl k∧
 (if k=true then tc σ H3 fun w' H4=>r' y w' H4 Q else Q (.bl false) H3)
theorem Hm{op op':CmpOp}{r r':R2}(ho:vH X (compareOp op) r)(ho':vH X (compareOp op') r')(ha:PE X a ta)(hb:PE X b tb)(hc:PE X c tc)
  (hm:lastMarks [op,op'] [b,c]=false:=by with_unfolding_all rfl):PE X (.Compare a [op,op'] [b,c] pos) (Di r r' ta tb tc):=by
 intro pins s σ H Q I h
 refine Compare_chain (cW (ha pins s σ H _ I h) fun v s1 ⟨x,H1,I1,r1,q1⟩=>chain_link (cW (hb pins s1 σ H1 _ I1 q1) fun u s2 ⟨y,H2,I2,r2,q2⟩=>
  cW (ho pins s2 σ H2 x y v u _ I2 r1 r2 q2) fun d s3 ⟨z,H3,I3,r3,k,e,q3⟩=>?_)) hm
 subst e
 cases r3
 refine wpAny_truthy_bool ?_
 cases k with
 |false=>exact ite_ff ⟨.bl false,H3,I3,rfl,q3⟩
 |true=>exact ite_tt (chain_last (cW (hc pins s3 σ H3 _ I3 q3) fun w' s4 ⟨z',H4,I4,r4,q4⟩=>ho' pins s4 σ H4 y z' u w' Q I4 r2 r4 q4))
theorem iy{op op':CmpOp}{r r':R2}(ho:vH X (compareOp op) r)(ho':vH X (compareOp op') r')(ha:PE X a ta)(hb:PE X b tb)(hc:PE X c tc)
  (hm:lastMarks [op,op'] [b,c]=false:=by with_unfolding_all rfl):PT X (.Compare a [op,op'] [b,c] pos) (Lq (Di r r' ta tb tc)):=by
 intro pins s σ H Q I h
 refine isTrue_chain (cW (ha pins s σ H _ I h) fun v s1 ⟨x,H1,I1,r1,q1⟩=>test_link (cW (hb pins s1 σ H1 _ I1 q1) fun u s2 ⟨y,H2,I2,r2,q2⟩=>
  cW (ho pins s2 σ H2 x y v u _ I2 r1 r2 q2) fun d s3 ⟨z,H3,I3,r3,k,e,q3⟩=>?_)) hm
 subst e
 cases r3
 refine wpAny_truthy_bool ?_
 cases k with
 |false=>
  obtain⟨k',e',q'⟩:=q3
  cases e'
  exact ite_ff ⟨H3,I3,q'⟩
 |true=>
  refine ite_tt (test_last (cW (hc pins s3 σ H3 _ I3 q3) fun w' s4 ⟨z',H4,I4,r4,q4⟩=>cW (ho' pins s4 σ H4 y z' u w' _ I4 r2 r4 q4) fun d' s5 ⟨z2,H5,I5,r5,k2,e2,q5⟩=>?_))
  subst e2
  cases r5
  exact wpAny_truthy_bool ⟨H5,I5,q5⟩
theorem yW:(sizeLine:Nat)<2 ^ 63:=by rw[sizeLine_eq];decide
theorem vals1{x:V}{us:List Value}(r:Vals [x] us):∃u,us=[u]∧RelV x u:=by
 cases r with
 |cons r1 r2=>cases r2;exact⟨_,rfl,r1⟩
end
structure Le(h:Heap)(x dx C:Addr)(mA:Str→Option Value):Prop where
 obj:h.get? x=some (PySem.W.instObj C dx)
 ns:h.Ns1 dx mA
 ne:dx≠x
theorem OJ{h:Heap}{dx:Addr}{mA:Str→Option Value}(n:h.Ns1 dx mA):∃od,h.get? dx=some od∧∀name,PySem.W.lookIn name od=some (mA name):=by
 obtain⟨o,es,ep,ho,hd,hk,_,hm⟩:=n
 refine⟨o,ho,fun name=>?_⟩
 have e:=hm name
 unfold nsFind findBy at e
 rw[←Array.find?_toList]at e
 unfold PySem.W.lookIn
 rw[hd]
 dsimp only
 split
 ·rename_i y q
  rw[q]at e
  exact congrArg some e
 ·rename_i q
  rw[q]at e
  have a:es.toList.any (·.refKey)=false:=by
   rw[List.any_eq_false]
   intro y hy
   obtain⟨z,t,hkey⟩:=hk y (Array.mem_toList_iff.mp hy)
   simp [DictEntry.refKey,hkey]
  have a':¬es.toList.any (·.refKey)=true:=by rw[a];exact Bool.false_ne_true
  rw[if_neg a']
  exact congrArg some e
theorem Le.look{h:Heap}{x dx C:Addr}{mA:Str→Option Value}(I:Le h x dx C mA):∃od,PySem.W.InstAt h x (PySem.W.instObj C dx) C (some od)∧∀name,PySem.W.lookIn name od=some (mA name):=
 let⟨od,ho,hl⟩:=OJ I.ns
 ⟨od,⟨I.obj,rfl,rfl,ho⟩,hl⟩
section
variable{prog:Program}{w:World}{A:Around}{E:Value→Shared→Prop}{s:Shared}{K:PySem.W.Frag}{x dx C f:Addr}{mA:Str→Option Value}{name:Str}{v:Value}
theorem get_map{expr:Bool}{Q:Value→Shared→Prop}(X:K.In s.heap)(I:Le s.heap x dx C mA)(hg:PySem.W.plainGet K C name=true)(hh:PySem.W.hasDictIn K C=true)
  (ha:PySem.W.findIn K (.ref C) name=some none) (hv:mA name=some v) (hv':PySem.W.handedIn v=true) (h:Q v {s with toks:=s.toks+1}):
  wpAny (model prog w) A (getAttr (.ref x) name expr) Q E s:=by
 obtain⟨od,J,hl⟩:=I.look
 exact PySem.W.get_value X J (PySem.W.plainGet_of hg).1 (PySem.W.findObj_own hh ha rfl (by rw[hl,hv])) hv' h
theorem Sx{pl:Sem Bool}{Q:Value×List Value→Shared→Prop}(X:K.In s.heap)(I:Le s.heap x dx C mA)(hg:PySem.W.plainGet K C name=true)
  (hf:PySem.W.findIn K (.ref C) name=some (some (.ref f))) (ht:PySem.W.isFn K (.ref f)=true) (hv:mA name=none) (h:Q (.ref f,[.ref x]) s):
  wpAny (model prog w) A (getMethod (.ref x) name pl) Q E s:=by
 obtain⟨od,J,hl⟩:=I.look
 exact PySem.W.method_fn X J (PySem.W.plainGet_of hg).1 (PySem.W.plainGet_of hg).2 hf (beq_iff_eq.mp ht) (by show(PySem.W.lookIn name od).map (·.isSome)=some false;rw[hl,hv];rfl) h
theorem Us{ns:List Str}{Q:Unit→Shared→Prop}(X:K.In s.heap)(I:Le s.heap x dx C mA)
  (hs:PySem.W.findIn K (.ref C) "__setattr__"=some (some (.builtin "object.__setattr__"))) (hp:PySem.W.plainOver K C=true) (ht:PySem.W.takerIn K C name=some none) (hh:PySem.W.hasDictIn K C=true)
  (hw:PySem.Within mA ns) (hsz:ns.length≤sizeLine)
  (h:∀h',Le h' x dx C (fun y=>if y=name then some v else mA y)→Heap.SameBut dx s.heap h'→Q () {s with heap:=h',toks:=s.toks+2}):
  wpAny (model prog w) A (setAttr (.ref x) name v) Q E s:=by
 obtain⟨od,J,hl⟩:=I.look
 refine PySem.W.set_plain X J hs (PySem.W.osa_open (s:={s with toks:=s.toks+1}) (r:=none) X J hp ht fun b=>?_)
 obtain⟨cd,hc,hd'⟩:=PySem.W.any_some hh
 have hx:s.heap.get? x=some ⟨.ref C,some dx,.plain,#[]⟩:=I.obj
 refine wpAny_bind (wpAny_pure (wpAny_bind (wpAny_bind (wpAny_loadPart hx (wpAny_bind (PySem.W.Looks.here (s:={s with toks:=s.toks+1}) (PySem.W.looks_clsIn X hc) ?_))))))
 rw[hd']
 refine wpAny_pure (a:=some dx) (wpAny_bind (wpAny_pure (wpAny_bind ?_)))
 refine wpAny_nsSet1 (s:={s with toks:=s.toks+1}) I.ns fun h' hn2 hs2=>?_
 obtain⟨oD,esD,epD,hoD,hdD,hcD⟩:=hn2.count (PySem.Within.cons name v hw)
 refine wpAny_bind (wpAny_lookBehind hoD (by rw[hdD];exact pastItsLine_dict (Nat.le_trans hcD (by rw[List.length_cons];omega))) ?_)
 exact wpAny_pure (h _ ⟨(hs2.2 _ (Ne.symm I.ne)).trans I.obj,hn2,I.ne⟩ hs2)
theorem RZ{R:Result→Shared→Prop}{vs:List Value}{kw:List (Str×Value)}(X:K.In s.heap)(hm:PySem.W.makesIn K C=true)
  (hi:PySem.W.findIn K (.ref C) "__init__"=some (some (.ref f))) (hf:PySem.W.typeIn K (.ref f)=some (.type "function"))
  (h:codeAny (model prog w) (A.under (.builtin "type.__call__" ⟨.ref C::vs,kw⟩)) (.call (.ref f) ⟨.ref (s.heap.objs.size+1)::vs,kw⟩) (PySem.W.InitBack (s.heap.objs.size+1) R)
   {s with heap:=(s.heap.push PySem.W.emptyDict).push (PySem.W.instObj C s.heap.objs.size)}):
  codeAny (model prog w) A (.call (.ref C) ⟨vs,kw⟩) R s:=by
 obtain⟨hh,g,d,t,os⟩:=s
 exact PySem.W.make_core (PySem.W.makes_of X hm) (PySem.W.looks_findIn X hi) (fun self=>PySem.W.bind_fn X self hf) (.inl rfl) h
end
def eN(f:Str)(v:V):List (Str×V)→List (Str×V)
 | []=>[(f,v)]
 | (g,x)::r=>if g=f then(g,v)::r else(g,x)::eN f v r
theorem w6(f g:Str)(v:V):∀fs:List (Str×V),(eN f v fs).lookup g=if g=f then some v else fs.lookup g
 | []=>by
  show List.lookup g [(f,v)]=_
  by_cases h:g=f
  ·have hb:(g==f)=true:=beq_iff_eq.mpr h
   simp only[List.lookup,hb,if_pos h]
  ·have hb:(g==f)=false:=beq_eq_false_iff_ne.mpr h
   simp only[List.lookup,hb,if_neg h]
 | (k,x)::r=>by
  have ih:=w6 f g v r
  rw[show eN f v ((k,x)::r)=(if k=f then(k,v)::r else(k,x)::eN f v r)from rfl]
  by_cases hk:k=f
  ·rw[if_pos hk]
   by_cases h:g=k
   ·have hb:(g==k)=true:=beq_iff_eq.mpr h
    simp only[List.lookup,hb,if_pos (h.trans hk)]
   ·have hb:(g==k)=false:=beq_eq_false_iff_ne.mpr h
    simp only[List.lookup,hb,if_neg (fun e:g=f=>h (e.trans hk.symm))]
  ·rw[if_neg hk]
   by_cases h:g=k
   ·have hb:(g==k)=true:=beq_iff_eq.mpr h
    simp only[List.lookup,hb,if_neg (fun e:g=f=>hk (h.symm.trans e))]
   ·have hb:(g==k)=false:=beq_eq_false_iff_ne.mpr h
    simp only[List.lookup,hb]
    exact ih
theorem vY(f:Str)(v:V):∀fs:List (Str×V),f∈(eN f v fs).map (·.1)∧∀g,g∈fs.map (·.1)→g∈(eN f v fs).map (·.1)
 | []=>⟨by simp [eN],fun g h=>by simp at h⟩
 | (k,x)::r=>by
  obtain⟨i1,i2⟩:=vY f v r
  rw[show eN f v ((k,x)::r)=(if k=f then(k,v)::r else(k,x)::eN f v r)from rfl]
  by_cases hk:k=f
  ·rw[if_pos hk]
   subst hk
   exact⟨by simp,fun g h=>by simpa using h⟩
  ·rw[if_neg hk]
   refine⟨?_,fun g h=>?_⟩
   ·rw[List.map_cons]
    exact List.mem_cons_of_mem _ i1
   ·rw[List.map_cons]at h ⊢
    rcases List.mem_cons.mp h with e|e
    ·exact List.mem_cons.mpr (.inl e)
    ·exact List.mem_cons_of_mem _ (i2 g e)
theorem pA(f:Str)(v:V):∀fs:List (Str×V),(eN f v fs).length≤fs.length+1
 | []=>by simp [eN]
 | (k,x)::r=>by
  have ih:=pA f v r
  rw[show eN f v ((k,x)::r)=(if k=f then(k,v)::r else(k,x)::eN f v r)from rfl]
  by_cases hk:k=f
  ·rw[if_pos hk,List.length_cons,List.length_cons];omega
  ·rw[if_neg hk,List.length_cons,List.length_cons];omega
theorem Br.some_of{v:V}{o:Option Value}(r:Br (some v) o):∃u,o=some u∧RelV v u:=by
 cases o with
 |none=>exact(show False from r).elim
 |some u=>exact⟨u,rfl,r⟩
theorem Br.none_of{o:Option Value}(r:Br none o):o=none:=by
 cases o with
 |none=>rfl
 |some u=>exact(show False from r).elim
theorem O9{v:V}{u:Value}(r:RelV v u):PySem.W.handedIn u=true:=by
 cases v with
 |non=>cases(show u=Value.none from r);rfl
 |bl b=>cases(show u=Value.bool b from r);rfl
 |int i=>obtain⟨t,e⟩:=(show ∃t,u=Value.int i t from r);cases e;rfl
 |str x=>obtain⟨t,e⟩:=(show ∃t,u=Value.str x t from r);cases e;rfl
 |TJ b=>obtain⟨t,e⟩:=(show ∃t,u=Value.bytes b t from r);cases e;rfl
 |flt b=>obtain⟨t,e⟩:=(show ∃t,u=Value.float b t from r);cases e;rfl
 |ref a=>cases(show u=Value.ref a from r);rfl
 |ty n=>cases(show u=Value.type n from r);rfl
section
variable{P:Program}{w:World}{H H':Hp}{h h':Heap}{a C dx:Addr}{fs fs':List (Str×V)}
theorem Ew(hok:vI P w H h)(e:H a=some (.ins C dx fs)):∃mA,Le h a dx C mA∧(∀f,Br (fs.lookup f) (mA f))∧PySem.Within mA (fs.map (·.1))∧fs.length≤1000∧H dx=some (.own a):=by
 obtain⟨d,z,ne,ob,mA,n,r,q⟩:=(show iR P w H h a (.ins C dx fs)from hok a _ e)
 exact⟨mA,⟨ob,n,ne⟩,r,q,z,d⟩
end
structure Nq(K:PySem.W.Frag)(C:Addr):Prop where
 pg:PySem.W.plainGet K C Str.empty=true
 hd:PySem.W.hasDictIn K C=true
 po:PySem.W.plainOver K C=true
 sa:PySem.W.findIn K (.ref C) "__setattr__"=some (some (.builtin "object.__setattr__"))
theorem Nq.get{K:PySem.W.Frag}{C:Addr}(c:Nq K C)(f:Str):PySem.W.plainGet K C f=true:=c.pg
def dB(K:PySem.W.Frag)(C:Addr)(f:Str):Prop:=PySem.W.findIn K (.ref C) f=some none
theorem dB.taker{K:PySem.W.Frag}{C:Addr}{f:Str}(n:dB K C f):PySem.W.takerIn K C f=some none:=by
 unfold PySem.W.takerIn
 rw[show PySem.W.findIn K (.ref C) f=some none from n]
 rfl
structure Meth(K:PySem.W.Frag)(C:Addr)(m:Str)(f:Addr):Prop where
 at_:PySem.W.findIn K (.ref C) m=some (some (.ref f))
 fn:PySem.W.isFn K (.ref f)=true
 kp:PySem.W.keepIn K (.ref f)=true
section
variable{X:Cx}{pins:List (Addr×Obj)}{σ:St}{H:Hp}{s:Shared}{a C dx:Addr}{fs:List (Str×V)}{f:Str}{v:V}{A:Around}{E:Value→Shared→Prop}
theorem Ko{b:Bool}{Q:Value→Shared→Prop}(I:Inv X pins σ H s)(e:H a=some (.ins C dx fs))(c:Nq X.K C)(n:dB X.K C f)(l:fs.lookup f=some v)
  (h:∀u s',Inv X pins σ H s'→RelV v u→Q u s'):wpAny (model X.prog X.w) A (getAttr (.ref a) f b) Q E s:=by
 obtain⟨mA,O,r,_,_,_⟩:=Ew I.hok e
 obtain⟨u,hu,ru⟩:=Br.some_of (v:=v) (o:=mA f) (by rw[←l];exact r f)
 exact get_map I.MF O (c.get f) c.hd n hu (O9 ru) (h u _ (I.tok _) ru)
theorem tD{m:Str}{g:Addr}{pl:Sem Bool}{Q:Value×List Value→Shared→Prop}(I:Inv X pins σ H s)(e:H a=some (.ins C dx fs))(c:Nq X.K C)(k:Meth X.K C m g)(l:fs.lookup m=none)
  (h:Q (.ref g,[.ref a]) s):wpAny (model X.prog X.w) A (getMethod (.ref a) m pl) Q E s:=by
 obtain⟨mA,O,r,_,_,_⟩:=Ew I.hok e
 have hn:mA m=none:=Br.none_of (by rw[←l];exact r m)
 exact Sx I.MF O (c.get m) k.at_ k.fn hn h
theorem JL{y:V}{u:Value}{Q:Unit→Shared→Prop}(I:Inv X pins σ H s)(e:H a=some (.ins C dx fs))(c:Nq X.K C)(n:dB X.K C f)(hl:fs.length<1000)(ry:RelV y u)
  (h:∀s',Inv X pins σ (upd H a (.ins C dx (eN f y fs))) s'→Q () s'):wpAny (model X.prog X.w) A (setAttr (.ref a) f u) Q E s:=by
 obtain⟨mA,O,r,wi,_,ho⟩:=Ew I.hok e
 have hz:(fs.map (·.1)).length≤sizeLine:=by rw[List.length_map,sizeLine_eq];omega
 refine Us I.MF O c.sa c.po n.taker c.hd wi hz fun h' O' sb=>h _ ?_
 have hd:∃o,h'.get? dx=some o:=let⟨o,_,_,e',_⟩:=O'.ns;⟨o,e'⟩
 refine I.write (x:=a) (e:=dx) (by rw[e];exact True.intro) (.inr ho) (fun b q hb z=>(sb.2 b hb).trans z) hd ?_
 refine⟨by rw[aF O.ne];exact ho,?_,O.ne,O'.obj,_,O'.ns,fun g=>?_,fun g hg=>?_⟩
 ·have:=pA f y fs;omega
 ·show Br ((eN f y fs).lookup g) (if g=f then some u else mA g)
  rw[w6]
  by_cases q:g=f
  ·rw[if_pos q,if_pos q];exact ry
  ·rw[if_neg q,if_neg q];exact r g
 ·by_cases q:g=f
  ·rw[q];exact(vY f y fs).1
  ·refine(vY f y fs).2 g (wi g fun z=>hg ?_)
   show(if g=f then some u else mA g)=none
   rw[if_neg q];exact z
theorem Inv.made(I:Inv X pins σ H s):Inv X pins σ (upd (upd H s.heap.objs.size (.own (s.heap.objs.size+1))) (s.heap.objs.size+1) (.ins C s.heap.objs.size []))
  {s with heap:=(s.heap.push PySem.W.emptyDict).push (PySem.W.instObj C s.heap.objs.size)}:=by
 have e1:(s.heap.push PySem.W.emptyDict).get? s.heap.objs.size=some PySem.W.emptyDict:=Heap.get?_push_size s.heap rfl
 have e2:((s.heap.push PySem.W.emptyDict).push (PySem.W.instObj C s.heap.objs.size)).get? (s.heap.objs.size+1)=some (PySem.W.instObj C s.heap.objs.size):=by
  have:=Heap.get?_push_size (s.heap.push PySem.W.emptyDict) (o:=PySem.W.instObj C s.heap.objs.size) rfl
  rwa[Heap.size_push]at this
 have e3:(s.heap.push PySem.W.emptyDict).Ns s.heap.objs.size (fun _=>none):=⟨PySem.W.emptyDict,#[],_,e1,rfl,(fun e he=>absurd he (by simp)),fun _=>rfl⟩
 have I1:=I.laid (a:=s.heap.objs.size) (o:= .own (s.heap.objs.size+1)) (h':=s.heap.push PySem.W.emptyDict) (t':=s.toks) (fun b u q=>Heap.get?_push_of_some _ q) (Nat.le_refl _) ⟨_,e1⟩
 refine I1.laid (a:=s.heap.objs.size+1) (o:= .ins C s.heap.objs.size []) (t':=s.toks) (fun b u q=>Heap.get?_push_of_some _ q) (Nat.le_of_eq (Heap.size_push _ _)) ?_
 have ne:s.heap.objs.size≠s.heap.objs.size+1:=Nat.ne_of_lt (Nat.lt_succ_self _)
 refine⟨by rw[aF ne,ao],Nat.zero_le _,ne,e2,fun _=>none,(Heap.Ns1.of_empty e3).at fun o q=>Heap.get?_push_of_some _ q,fun _=>True.intro,fun y hy=>absurd rfl hy⟩
theorem Wc{prog:Program}{w:World}{env:Env}{e:Expr}{f:Str}{pos:Pos}{s:Shared}{Q:Value→Shared→Prop}(hb:attributeBase e f env (eval e env)=eval e env)
  (h:wpAny (model prog w) A (eval e env) (fun o s₁=>wpAny (model prog w) A (getAttr o f true) Q E s₁) E s):wpAny (model prog w) A (eval (.Attribute e f pos) env) Q E s:=
 Attribute_any_ h (by rw[arm_eval_Attribute,hb])
end
def Ah(K:PySem.W.Frag)(ta:TE)(f:Str):TE:=fun σ H Q=>ta σ H fun x H1=>∃a C dx fs v,x= .ref a∧H1 a=some (.ins C dx fs)∧Nq K C∧dB K C f∧fs.lookup f=some v∧Q v H1
def Xz(K:PySem.W.Frag)(ta tv:TE)(f:Str):TS:=fun D σ H=>tv σ H fun y H1=>ta σ H1 fun x H2=>∃a C dx fs,x= .ref a∧H2 a=some (.ins C dx fs)∧Nq K C∧dB K C f∧fs.length<1000∧
 D.nx σ (upd H2 a (.ins C dx (eN f y fs)))
section
variable{X:Cx}{o e value:Expr}{f:Str}{pos pos' tpos:Pos}{ta tv:TE}
theorem XQ(he:PE X e ta)(hb:attributeBase e f X.env (eval e X.env)=eval e X.env):PE X (.Attribute e f pos) (Ah X.K ta f):=by
 intro pins s σ H Q I h
 refine Wc hb (cW (he pins s σ H _ I h) fun u s1 ⟨x,H1,I1,rx,a,C,dx,fs,v,ex,ea,c,n,l,q⟩=>?_)
 subst ex
 obtain rfl:u=Value.ref a:=rx
 exact Ko I1 ea c n l fun u' s2 I2 ru=>⟨v,H1,I2,ru,q⟩
theorem j_(ha:PE X o ta)(hv:PE X value tv)(hs:swapsWith value (some (.Attribute o f pos')) pos.line X.env=pure false):PS X (.Assign [.Attribute o f pos'] value pos) (Xz X.K ta tv f):=by
 intro pins s σ H D I h
 refine plainObj_wpAny_Assign_Attribute (cW (hv pins s σ H _ I h) fun u s1 ⟨y,H1,I1,ry,q⟩=>cW (ha pins s1 σ H1 _ I1 q) fun ov s2 ⟨x,H2,I2,rx,a,C,dx,fs,ex,ea,c,n,l,q2⟩=>?_) hs
 subst ex
 obtain rfl:ov=Value.ref a:=rx
 exact JL I2 ea c n l ry fun s3 I3=>⟨σ,_,I3,q2⟩
theorem WK{pl:Sem Bool}{m:Str}{apos:Pos}{args:List Expr}{pins:List (Addr×Obj)}{s:Shared}{σ:St}{H:Hp}{Q:Value→Shared→Prop}{te:TE}(he:PE X e te)(I:Inv X pins σ H s)
  (h:te σ H fun x H1=>∃a C dx fs g,x= .ref a∧H1 a=some (.ins C dx fs)∧Nq X.K C∧Meth X.K C m g∧fs.lookup m=none∧
   ∀s1,Inv X pins σ H1 s1→wpAny (model X.prog X.w) X.A (callWith pos (.ref g) [.ref a] (backTo pos (starEach args X.env)) (backToKw pos (keywordEach [] X.env))) Q X.xe s1)
  (ht:eval (.Call (.Attribute e m apos) args [] pos) X.env=(do
   let ov ←eval e X.env
   standAt apos.atName
   let(f,first) ←holding [ov] (getMethod ov m pl)
   callWith pos f first (backTo pos (starEach args X.env)) (backToKw pos (keywordEach [] X.env)))):
  wpAny (model X.prog X.w) X.A (eval (.Call (.Attribute e m apos) args [] pos) X.env) Q X.xe s:=by
 refine PySem.W.methodCall_KW (pl:=pl) (cW (he pins s σ H _ I h) fun u s1 ⟨x,H1,I1,rx,a,C,dx,fs,g,ex,ea,c,k,l,q⟩=>?_) ht
 subst ex
 obtain rfl:u=Value.ref a:=rx
 exact tD I1 ea c k l (q s1 I1)
end
structure eQ(k:Nat)(A:Around):Prop where
 hd:A.handled=none
 dp:A.depth+3*k+5<recursionLimit
 un:A.units+16*k+200<cLine
theorem eQ.mono{j k:Nat}{A:Around}(r:eQ k A)(h:j≤k):eQ j A:=⟨r.hd,by have:=r.dp;omega,by have:=r.un;omega⟩
theorem eQ.deeper{k:Nat}{A:Around}(r:eQ (k+1) A)(env:Env):eQ k (A.deeper env):=
 ⟨r.hd,by have:=r.dp;show A.depth+1+3*k+5<_;omega,by have:=r.un;show A.units+3+16*k+200<_;omega⟩
theorem eQ.in1{k:Nat}{A:Around}(r:eQ (k+1) A):eQ k A.in1:=
 ⟨r.hd,by have:=r.dp;show A.depth+3*k+5<_;omega,by have:=r.un;show A.units+1+16*k+200<_;omega⟩
theorem Kd{A:Around}{C:Addr}{us:List Value}{kw:List (Str×Value)}:(A.under (.builtin "type.__call__" ⟨.ref C::us,kw⟩)).depth=A.depth+1:=by
 first|rfl|simp [Around.under,Code.weight,Code.isCreation,Code.isGuard,Code.isCaller,Code.frames,Code.isFrame,guardIds]
theorem Kc{A:Around}{C:Addr}{us:List Value}{kw:List (Str×Value)}:(A.under (.builtin "type.__call__" ⟨.ref C::us,kw⟩)).units=A.units+1:=by
 first|rfl|simp [Around.under,Code.cUnits,Code.frames,Code.isFrame]
theorem eQ.make{k:Nat}{A:Around}(r:eQ (k+1) A)(C:Addr)(us:List Value)(kw:List (Str×Value)):eQ k (A.under (.builtin "type.__call__" ⟨.ref C::us,kw⟩)):=
 ⟨r.hd,by have:=r.dp;rw[Kd];omega,by have:=r.un;rw[Kc];omega⟩
theorem eQ.depth{k:Nat}{A:Around}(r:eQ k A):A.depth<recursionLimit:=by have:=r.dp;omega
theorem eQ.units{k:Nat}{A:Around}(r:eQ k A):A.units+64<cLine:=by have:=r.un;omega
def Jt:TA:=fun _ H Q=>Q [] H
def QF(ta:TE)(tr:TA):TA:=fun σ H Q=>ta σ H fun x H1=>tr σ H1 fun xs H2=>Q (x::xs) H2
section
variable{X:Cx}{e:Expr}{es:List Expr}{te:TE}{t:TA}{pos:Pos}
theorem aj:PA X [] Jt:=fun _ _ _ _ H Q I h=>Calls.spliced_nil ⟨[],H,I,.nil,h⟩
theorem aa(ha:PE X e te)(hr:PA X es t)(hs:starEach (e::es) X.env=(false,eval e X.env)::starEach es X.env:=by rfl):PA X (e::es) (QF te t):=by
 intro pos pins s σ H Q I h
 rw[hs]
 show wpAny _ _ (spliced ((false,eval e X.env)::backTo pos (starEach es X.env))) _ _ s
 refine Calls.spliced_cons (cW (ha pins s σ H _ I h) fun u s1 ⟨x,H1,I1,r1,q1⟩=>?_)
 exact cW (hr pos pins s1 σ H1 _ I1 q1) fun us s2 ⟨xs,H2,I2,r2,q2⟩=>⟨x::xs,H2,I2,.cons r1 r2,q2⟩
def Xj(t:TA):TE:=fun σ H Q=>t σ H fun xs H1=>xs.length≤sizeLine∧∀p,H1 p=none→Q (.ref p) (upd H1 p (.tup xs))
def Xo(t:TA):TE:=fun σ H Q=>t σ H fun xs H1=>xs.length≤sizeLine∧∀p,H1 p=none→Q (.ref p) (upd H1 p (.lst xs))
theorem kj{x1}(h:PA X es t):PE X (.Tuple es x1 pos) (Xj t):=by
 intro pins s σ H Q I hq
 refine wpAny_Tuple_spliced (cW (h pos pins s σ H _ I hq) fun us s1 ⟨xs,H1,I1,r,z,q⟩=>⟨by rw[←r.length];exact z,?_⟩)
 have hf:H1 s1.heap.objs.size=none:=I1.hok.fresh (Nat.le_refl _)
 refine⟨.ref s1.heap.objs.size,upd H1 s1.heap.objs.size (.tup xs),I1.laid (t':=s1.toks) (fun b u e=>Heap.get?_push_of_some _ e) (Nat.le_refl _) ?_,rfl,q _ hf⟩
 exact⟨z,us,r,⟨_,Heap.get?_push_size _ rfl,rfl,_,rfl⟩⟩
theorem aN(h:PA X es t):PE X (.List es pos) (Xo t):=by
 intro pins s σ H Q I hq
 refine wpAny_List_spliced (cW (h pos pins s σ H _ I hq) fun us s1 ⟨xs,H1,I1,r,z,q⟩=>⟨by rw[←r.length];exact z,?_⟩)
 have hf:H1 s1.heap.objs.size=none:=I1.hok.fresh (Nat.le_refl _)
 refine⟨.ref s1.heap.objs.size,upd H1 s1.heap.objs.size (.lst xs),I1.laid (t':=s1.toks) (fun b u e=>Heap.get?_push_of_some _ e) (Nat.le_refl _) ?_,rfl,q _ hf⟩
 exact⟨z,us,0,r,Heap.get?_push_size _ rfl⟩
end
abbrev Sp:=List V→Hp→VK→XK→Prop
abbrev W5:=List Env→Hp→Shared→XK→Value→Shared→Prop
structure Lg(P:Program)(w:World)(K:PySem.W.Frag)(mg:Str→Option Value)(base:Heap)(A:Around)(outer:List Env)(s:Shared)(H:Hp):Prop where
 frames:A.frames=some outer
 mod:Mod K mg base
 bs:∀b o,base.get? b=some o→s.heap.get? b=some o∧H b=none
 Tn:base.objs.size≤s.heap.objs.size
 xT:s.heap.FunFrames base outer
 Yy:∀b∈frs outer,H b=none
 hok:vI P w H s.heap
 bare:AllBare s.gens
def CE(outer:List Env)(P:Program)(w:World)(H:Hp)(s:Shared)(Q:VK)(u:Value)(s':Shared):Prop:=
 ∃v H',s'.os=s.os∧AllBare s'.gens∧Un (frs outer) [] H H' s.heap s'.heap∧vI P w H' s'.heap∧RelV v u∧Q v H'
def CR(CX:W5)(outer:List Env)(P:Program)(w:World)(H:Hp)(s:Shared)(Q:VK)(E:XK)(r:Result)(s':Shared):Prop:=
 match r with
 | .ok (.ret u)=>CE outer P w H s Q u s'
 | .ok _=>False
 | .error e=>CX outer H s E e s'
structure tX(P:Program)(w:World)(K:PySem.W.Frag)(mg:Str→Option Value)(base:Heap)(CX:W5)(k:Nat)(f:Addr)(fd:FuncData)(ps:List Str)(sp:Sp):Prop where
 len:∀vs H Q E,sp vs H Q E→vs.length=ps.length
 run:∀(A:Around) (outer:List Env) (s:Shared) (H:Hp) (args:Args) (us:List Value) (vs:List V) (Q:VK) (E:XK),eQ k A→Lg P w K mg base A outer s H→BindsTo s fd args (ps.zip us)→Vals vs us→sp vs H Q E→
  codeAny (model P w) A (.call (.ref f) args) (CR CX outer P w H s Q E) s
theorem Lg.make{P:Program}{w:World}{K:PySem.W.Frag}{mg:Str→Option Value}{base:Heap}{A:Around}{outer:List Env}{s:Shared}{H:Hp}(e:Lg P w K mg base A outer s H)(C:Addr)(us:List Value)(kw:List (Str×Value)):
  Lg P w K mg base (A.under (.builtin "type.__call__" ⟨.ref C::us,kw⟩)) outer s H:=⟨by first|exact e.frames| (simpa[Around.under,Code.envs,Code.isFrame,pushEnvs]using e.frames),e.mod,e.bs,e.Tn,e.xT,e.Yy,e.hok,e.bare⟩
section
variable{X:Cx}{pins:List (Addr×Obj)}{σ:St}{H:Hp}{s s':Shared}
theorem Inv.env0(I:Inv X pins σ H s):Lg X.prog X.w X.K X.mg X.base X.A X.stack s H:=
 ⟨I.ok.frames,I.ok.mod,I.bs,Nat.le_trans I.ok.Tn I.sz,I.stack,I.Dk,I.hok,I.bare⟩
theorem Inv.after{Q:VK}{u:Value}(I:Inv X pins σ H s)(h:CE X.stack X.prog X.w H s Q u s'):EP X pins σ Q u s':=by
 obtain⟨v,H',os,bare,un,hok,r,q⟩:=h
 obtain⟨hh,g,d,t,os'⟩:=s'
 obtain rfl:os'=s.os:=os
 exact⟨v,H',I.call (h':=hh) (g':=g) (d':=d) (t':=t) (ch:=[]) un hok bare (fun b z=>absurd z (by simp)),r,q⟩
end
def Lx(sp:Sp)(Bo:List V)(E:XK)(t:TA):TE:=fun σ H Q=>t σ H fun vs H1=>sp (vs++Bo) H1 Q E
def GD(C:Addr)(m:Str)(sp:Sp)(Bo:List V)(E:XK)(ta:TE)(t:TA):TE:=fun σ H Q=>ta σ H fun x H1=>∃a dx fs,x= .ref a∧H1 a=some (.ins C dx fs)∧fs.lookup m=none∧
 t σ H1 fun vs H2=>sp (x::(vs++Bo)) H2 Q E
def Wn(C:Addr)(sp:Sp)(Bo:List V)(E:XK)(t:TA):TE:=fun σ H Q=>t σ H fun vs H1=>∀x dx,H1 x=none→H1 dx=none→dx≠x→
 sp (.ref x::(vs++Bo)) (upd (upd H1 dx (.own x)) x (.ins C dx [])) (fun v H2=>v= .non∧Q (.ref x) H2) E
def Binds(K:PySem.W.Frag)(fd:FuncData)(ps:List Str)(ds:List Value):Prop:=
 ∀(s:Shared) (us:List Value),K.In s.heap→(us++ds).length=ps.length→BindsTo s fd ⟨us,[]⟩ (ps.zip (us++ds))
theorem Binds.all{K:PySem.W.Frag}{fd:FuncData}{ps:List Str}(h:∀us:List Value,us.length=ps.length→bindArgs fd ⟨us,[]⟩=pure (ps.zip us)):Binds K fd ps []:=fun s us _ hl=>by
 rw[List.append_nil]at hl ⊢
 exact .of_eq (h us hl)
def tW(CX:W5)(X:Cx)(E:XK):Prop:=∀(pins:List (Addr×Obj)) (σ:St) (H:Hp) (s:Shared) (e:Value) (s':Shared),Inv X pins σ H s→CX X.stack H s E e s'→X.xe e s'
section
variable{X:Cx}{CX:W5}{k:Nat}{f C:Addr}{fd:FuncData}{ps:List Str}{sp:Sp}{Bo:List V}{ds:List Value}{E:XK}{x m:Str}{p pos apos:Pos}{e o:Expr}{es:List Expr}{ta:TE}{t:TA}
theorem JR{pins:List (Addr×Obj)}{σ:St}{H:Hp}{s:Shared}{Q:VK}{us:List Value}{vs:List V}(F:tX X.prog X.w X.K X.mg X.base CX k f fd ps sp)(hr:eQ k X.A)(hb:Binds X.K fd ps ds)(hd:Vals Bo ds)(hx:tW CX X E)
  (I:Inv X pins σ H s) (r:Vals vs us) (h:sp (vs++Bo) H Q E):wpAny (model X.prog X.w) X.A (call (.ref f) us) (EP X pins σ Q) X.xe s:=by
 have r2:Vals (vs++Bo) (us++ds):=r.append hd
 have hl:(us++ds).length=ps.length:=by rw[←r2.length];exact F.len _ _ _ _ h
 refine wpAny_call (codeAny_mono (F.run X.A X.stack s H ⟨us,[]⟩ (us++ds) (vs++Bo) Q E hr I.env0 (hb s us I.MF hl) r2 h) fun r s' hq=>?_)
 cases r with
 |error e=>exact hx pins σ H s e s' I hq
 |ok fl=>
  cases fl with
  |ret u=>exact I.after hq
  |next=>exact False.elim hq
  |brk=>exact False.elim hq
  |cont=>exact False.elim hq
theorem U8(F:tX X.prog X.w X.K X.mg X.base CX k f fd ps sp)(hr:eQ k X.A)(hg:Gl X x)(hm:X.mg x=some (.ref f))(hk:PySem.W.keepIn X.K (.ref f)=true)(hb:Binds X.K fd ps ds)(hd:Vals Bo ds)(hx:tW CX X E)
  (ha:PA X (e::es) t) (hdb:(x==("__debug__":Str))=false:=by decide) (he:starEach (e::es) X.env=(false,eval e X.env)::starEach es X.env:=by rfl) (hpl:(backTo pos (starEach es X.env)).any (·.1)=false:=by rfl):
  PE X (.Call (.Name x p) (e::es) [] pos) (Lx sp Bo E t):=by
 intro pins s σ H Q I h
 refine wpAny_Call_Name_kw (Eo I hg hm ?_ hdb)
 refine PySem.W.callWith_K (h₀:=X.base) I.ok.mod.kin hk (cW (ha pos pins s σ H _ I h) fun us s1 ⟨vs,H1,I1,r,q⟩=>⟨I1.MF,?_⟩) he hpl
 exact JR F hr hb hd hx I1 r q
theorem U6{pl:Sem Bool}(he:PE X o ta)(c:Nq X.K C)(hm:Meth X.K C m f)(F:tX X.prog X.w X.K X.mg X.base CX k f fd ps sp)(hr:eQ k X.A)(hb:Binds X.K fd ps ds)(hd:Vals Bo ds)(hx:tW CX X E)(ha:PA X (e::es) t)
  (hst:starEach (e::es) X.env=(false,eval e X.env)::starEach es X.env:=by rfl) (hpl:(backTo pos (starEach es X.env)).any (·.1)=false:=by rfl)
  (ht:eval (.Call (.Attribute o m apos) (e::es) [] pos) X.env=(do
   let ov ←eval o X.env
   standAt apos.atName
   let(f,first) ←holding [ov] (getMethod ov m pl)
   callWith pos f first (backTo pos (starEach (e::es) X.env)) (backToKw pos (keywordEach [] X.env))):=by rfl):
  PE X (.Call (.Attribute o m apos) (e::es) [] pos) (GD C m sp Bo E ta t):=by
 intro pins s σ H Q I h
 refine PySem.W.methodCall_KW (pl:=pl) (cW (he pins s σ H _ I h) fun u s1 ⟨x,H1,I1,rx,a,dx,fs,ex,ea,l,q⟩=>?_) ht
 subst ex
 obtain rfl:u=Value.ref a:=rx
 refine tD I1 ea c hm l ?_
 refine PySem.W.callWith_K (first:=[.ref a]) (h₀:=X.base) I.ok.mod.kin hm.kp (cW (ha pos pins s1 σ H1 _ I1 q) fun us s2 ⟨vs,H2,I2,r,q2⟩=>⟨I2.MF,?_⟩) hst hpl
 exact JR (us:= .ref a::us) (vs:= .ref a::vs) F hr hb hd hx I2 (.cons rfl r) q2
theorem Rt{pl:Sem Bool}(he:PE X o ta)(c:Nq X.K C)(hm:Meth X.K C m f)(F:tX X.prog X.w X.K X.mg X.base CX k f fd ps sp)(hr:eQ k X.A)(hb:Binds X.K fd ps ds)(hd:Vals Bo ds)(hx:tW CX X E)
  (ht:eval (.Call (.Attribute o m apos) [] [] pos) X.env=(do
   let ov ←eval o X.env
   standAt apos.atName
   let(f,first) ←holding [ov] (getMethod ov m pl)
   callWith pos f first (backTo pos (starEach [] X.env)) (backToKw pos (keywordEach [] X.env))):=by rfl):
  PE X (.Call (.Attribute o m apos) [] [] pos) (GD C m sp Bo E ta Jt):=by
 intro pins s σ H Q I h
 refine PySem.W.methodCall_KW (pl:=pl) (cW (he pins s σ H _ I h) fun u s1 ⟨x,H1,I1,rx,a,dx,fs,ex,ea,l,q⟩=>?_) ht
 subst ex
 obtain rfl:u=Value.ref a:=rx
 refine tD I1 ea c hm l ?_
 exact PySem.W.callWith_K0 (first:=[.ref a]) I1.MF hm.kp (JR (us:=[.ref a]) (vs:=[.ref a]) F hr hb hd hx I1 (.cons rfl .nil) q)
structure Mk(K:PySem.W.Frag)(C f:Addr):Prop where
 makes:PySem.W.makesIn K C=true
 init:PySem.W.findIn K (.ref C) "__init__"=some (some (.ref f))
 fn:PySem.W.isFn K (.ref f)=true
 kp:PySem.W.keepIn K (.ref C)=true
theorem Q_{pins:List (Addr×Obj)}{σ:St}{H:Hp}{s:Shared}{Q:VK}{us:List Value}{vs:List V}(M:Mk X.K C f)(F:tX X.prog X.w X.K X.mg X.base CX k f fd ps sp)(hr:eQ (k+1) X.A)(hb:Binds X.K fd ps ds)(hd:Vals Bo ds)
  (hx:tW CX X E) (I:Inv X pins σ H s) (r:Vals vs us)
  (h:∀x dx,H x=none→H dx=none→dx≠x→sp (.ref x::(vs++Bo)) (upd (upd H dx (.own x)) x (.ins C dx [])) (fun v H2=>v= .non∧Q (.ref x) H2) E):
  wpAny (model X.prog X.w) X.A (call (.ref C) us) (EP X pins σ Q) X.xe s:=by
 have hq:=h (s.heap.objs.size+1) s.heap.objs.size (I.hok.fresh (Nat.le_succ _)) (I.hok.fresh (Nat.le_refl _)) (Nat.ne_of_lt (Nat.lt_succ_self _))
 have I2:=Inv.made (C:=C) I
 have r2:Vals (V.ref (s.heap.objs.size+1)::(vs++Bo)) (Value.ref (s.heap.objs.size+1)::(us++ds)):= .cons rfl (r.append hd)
 have hl:(Value.ref (s.heap.objs.size+1)::us++ds).length=ps.length:=by
  have e:=r2.length
  rw[F.len _ _ _ _ hq]at e
  exact e.symm
 refine wpAny_call (RZ (f:=f) I.MF M.makes M.init (beq_iff_eq.mp M.fn) (codeAny_mono (F.run _ X.stack _ _ ⟨Value.ref (s.heap.objs.size+1)::us,[]⟩ (Value.ref (s.heap.objs.size+1)::(us++ds)) _ _ E (hr.make C us [])
  (I2.env0.make C us []) (hb _ (Value.ref (s.heap.objs.size+1)::us) I2.MF hl) r2 hq) fun r s' hq'=>?_))
 cases r with
 |error e=>exact hx pins σ _ _ e s' I2 hq'
 |ok fl=>
  cases fl with
  |ret u=>
   obtain⟨v,H',I3,rv,ev,q3⟩:=I2.after hq'
   subst ev
   exact⟨rv,⟨V.ref (s.heap.objs.size+1),H',I3,rfl,q3⟩⟩
  |next=>exact False.elim hq'
  |brk=>exact False.elim hq'
  |cont=>exact False.elim hq'
theorem Ru(M:Mk X.K C f)(F:tX X.prog X.w X.K X.mg X.base CX k f fd ps sp)(hr:eQ (k+1) X.A)(hg:Gl X x)(hm:X.mg x=some (.ref C))(hb:Binds X.K fd ps ds)(hd:Vals Bo ds)(hx:tW CX X E)
  (hdb:(x==("__debug__":Str))=false:=by decide):PE X (.Call (.Name x p) [] [] pos) (Wn C sp Bo E Jt):=by
 intro pins s σ H Q I h
 refine wpAny_Call_Name_kw (Eo I hg hm ?_ hdb)
 exact PySem.W.callWith_K0 I.MF M.kp (Q_ (us:=[]) M F hr hb hd hx I .nil h)
end
structure aJ(N P:List Str)(sc:Scope):Prop where
 kind:sc.kind= .function
 co:sc.isCoroutine=false
 gen:sc.isGenerator=false
 nd:N.Nodup
 pre:N.take P.length=P
 Z6:∀x∈P,sc.names.lookup x=some .local∨sc.names.lookup x=some .cell
 Yb:∀y∈sc.names,y.2≠ .free
theorem CJ{kindOf:Str→Option NameKind}{x:Str}:∀ {binds:List (Str×Value)} {m:Str→Option Value},(∀v,(x,v)∉binds)→bindL kindOf binds m x=m x
 | [],_,_=>rfl
 | (n,v)::r,m,h=>by
  unfold bindL
  rw[CJ fun w hw=>h w (List.mem_cons_of_mem _ hw)]
  split
  ·have:x≠n:=by rintro rfl;exact h v List.mem_cons_self
   simp [this]
  ·rfl
theorem CN{kindOf:Str→Option NameKind}{x:Str}:∀ {binds:List (Str×Value)} {m:Str→Option Value},(∀v,(x,v)∉binds)→bindC kindOf binds m x=m x
 | [],_,_=>rfl
 | (n,v)::r,m,h=>by
  unfold bindC
  rw[CN fun w hw=>h w (List.mem_cons_of_mem _ hw)]
  split
  ·rfl
  ·have:x≠n:=by rintro rfl;exact h v List.mem_cons_self
   simp [this]
theorem CK{kindOf:Str→Option NameKind}{x:Str}{v:Value}:∀ {P:List Str} {vs:List Value} {i:Nat} {m:Str→Option Value},P.Nodup→P[i]? =some x→vs[i]? =some v→kindOf x=some .local→
  bindL kindOf (P.zip vs) m x=some v
 | [],_,_,_,_,h,_,_=>by simp at h
 |_::_,[],_,_,_,_,h,_=>by simp at h
 |p::P,w::vs,0,m,nd,h1,h2,hk=>by
  simp at h1 h2;subst h1;subst h2
  show bindL kindOf ((p,w)::P.zip vs) m p=_
  unfold bindL
  rw[CJ fun v hv=>(List.nodup_cons.mp nd).1 (List.of_mem_zip hv).1,if_pos hk]
  simp
 |p::P,w::vs,i+1,m,nd,h1,h2,hk=>by
  show bindL kindOf ((p,w)::P.zip vs) m x=_
  unfold bindL
  exact CK (i:=i) (List.nodup_cons.mp nd).2 (by simpa using h1) (by simpa using h2) hk
theorem CP{kindOf:Str→Option NameKind}{x:Str}{v:Value}:∀ {P:List Str} {vs:List Value} {i:Nat} {m:Str→Option Value},P.Nodup→P[i]? =some x→vs[i]? =some v→kindOf x≠some .local→
  bindC kindOf (P.zip vs) m x=some v
 | [],_,_,_,_,h,_,_=>by simp at h
 |_::_,[],_,_,_,_,h,_=>by simp at h
 |p::P,w::vs,0,m,nd,h1,h2,hk=>by
  simp at h1 h2;subst h1;subst h2
  show bindC kindOf ((p,w)::P.zip vs) m p=_
  unfold bindC
  rw[CN fun v hv=>(List.nodup_cons.mp nd).1 (List.of_mem_zip hv).1,if_neg hk]
  simp
 |p::P,w::vs,i+1,m,nd,h1,h2,hk=>by
  show bindC kindOf ((p,w)::P.zip vs) m x=_
  unfold bindC
  exact CP (i:=i) (List.nodup_cons.mp nd).2 (by simpa using h1) (by simpa using h2) hk
def start(N:List Str)(vs:List V):St:=vs.map some++List.replicate (N.length - vs.length) none
def KQ(CX:W5)(P:Program)(w:World)(K:PySem.W.Frag)(mg:Str→Option Value)(base:Heap)(N:List Str)(qual:Str)(scope:Scope)(f:Addr)(cd:Value)(A:Around)(outer:List Env)(s:Shared)(H:Hp)(E:XK):Cx where
 prog:=P
 w:=w
 K:=K
 mg:=mg
 base:=base
 A:=A.deeper (envOfC qual scope s.heap.objs.size f cd)
 N:=N
 Am:=s
 W3:=H
 env:=envOfC qual scope s.heap.objs.size f cd
 outer:=outer
 stack:=envOfC qual scope s.heap.objs.size f cd::outer
 ex:=[]
 calm:=true
 fn:=fun _=>true
 pn:=[]
 xe:=fun e s'=>wpAny (model P w) (A.deeper (envOfC qual scope s.heap.objs.size f cd)) (leaving (envOfC qual scope s.heap.objs.size f cd) e) (fun _ s''=>CX outer H s E e s'') (fun e' s''=>CX outer H s E e' s'') s'
theorem zU{sc:Scope}{n:Nat}{x:Str}(h:sc.names.lookup x=some .cell):∃c,(cellsFrom n sc.names []).lookup x=some c:=by
 have q:=PySem.W.cellsFrom_some sc.names n [] (.inl h)
 exact Option.isSome_iff_exists.mp q
theorem O5{CX:W5}{P:Program}{w:World}{K:PySem.W.Frag}{mg:Str→Option Value}{base:Heap}{N ps:List Str}{qual:Str}{scope:Scope}{f:Addr}{cd:Value}{A:Around}{outer:List Env}{s s1:Shared}{H:Hp}{E:XK}{us:List Value}{vs:List V}
  (S:aJ N ps scope) (hd:A.handled=none) (e0:Lg P w K mg base A outer s H) (hl:vs.length=ps.length) (r:Vals vs us)
  (x:InCallC s s.heap.objs.size (bindL (envOfC qual scope s.heap.objs.size f cd).kindOf (ps.zip us) fun _=>none) (cellsFrom (s.heap.objs.size+1) scope.names []) (bindC (envOfC qual scope s.heap.objs.size f cd).kindOf (ps.zip us) fun _=>none) s1):
  Inv (KQ CX P w K mg base N qual scope f cd A outer s H E) [] (start N vs) H s1:=by
 have hpl:ps.length≤N.length:=by have:=congrArg List.length S.pre;rw[List.length_take]at this;omega
 obtain⟨h1,tk,rfl,hk⟩:=x.done
 have noA:∀b:Addr,b∉(KQ CX P w K mg base N qual scope f cd A outer s H E).ex:=fun b z=>absurd (show b∈([]:List Addr)from z) (by simp)
 refine⟨⟨e0.mod,S.kind,rfl,rfl,Nat.le_refl _,fun y z c h1 h2=>?_,fun y hy=>?_,fun y c _ h=>?_,fun _=>hd,Around.frames_deeper e0.frames,.inr ⟨rfl,rfl⟩,fun b z=>absurd z (noA b),e0.bs,e0.Tn,fun b _ _=>noA b,fun b z=>absurd z (noA b),e0.xT,e0.Yy⟩,
  rfl,e0.bare,Un.kept hk,⟨_,x.toInCall.ns,fun i y v h1 h2 h3=>?_⟩,fun y c h=>⟨_,x.cell y c h⟩,e0.hok.fresh (Nat.le_refl _),fun y c h=>?_,fun p hp=>absurd (show p∈([]:List (Addr×Obj))from hp) (by simp),e0.hok.kept hk,?_⟩
 ·exact name_of_addr x.apart (PySem.mem_of_lookup h1) (PySem.mem_of_lookup h2)
 ·have hy:scope.names.lookup y=some .cell∨scope.names.lookup y=some .free:=hy
  rcases hy with hy|hy
  ·exact zU hy
  ·exact absurd rfl (S.Yb _ (PySem.mem_of_lookup hy))
 ·exact Nat.le_of_lt (x.above y c (PySem.mem_of_lookup h))
 ·have hi:i<vs.length:=by
   unfold start at h2
   by_cases hi:i<vs.length
   ·exact hi
   ·rw[List.getElem?_append_right (by simpa using hi)]at h2
    rw[List.getElem?_replicate]at h2
    split at h2<;>cases h2
  have ha:vs[i]? =some v:=by
   unfold start at h2
   rw[List.getElem?_append_left (by simpa using hi),List.getElem?_map]at h2
   cases e:vs[i]? with
   |none=>rw[e]at h2;cases h2
   |some a=>rw[e]at h2;cases h2;rfl
  obtain⟨u,hu,rv⟩:=r.get ha
  have hp:ps[i]? =some y:=by
   rw[←S.pre,List.getElem?_take_of_lt (by omega)];exact h1
  have ndP:ps.Nodup:=by rw[←S.pre];exact S.nd.sublist (List.take_sublist _ _)
  refine⟨u,rv,?_⟩
  rcases S.Z6 y (List.mem_of_getElem? hp)with k|k
  ·exact .inl ⟨k,CK ndP hp hu k⟩
  ·obtain⟨c,e⟩:=zU (n:=s.heap.objs.size+1) k
   refine .inr ⟨.inl k,c,e,?_⟩
   have q:=x.cell y c e
   rw[CP ndP hp hu (by show scope.names.lookup y≠_;rw[k];decide)]at q
   exact q
 ·exact e0.hok.fresh (Nat.le_of_lt (x.above y c (PySem.mem_of_lookup h)))
 ·unfold start
  show _=N.length
  rw[List.length_append,List.length_map,List.length_replicate]
  omega
theorem SM{CX:W5}{P:Program}{w:World}{K:PySem.W.Frag}{mg:Str→Option Value}{base:Heap}{k:Nat}{f:Addr}{name qual:Str}{params:Arguments}{body:List Stmt}{scope:Scope}{dV kV doc pm cdv ct oc:Value}{an od:Option Addr}
  {osl:Array (Option Value)} {N ps:List Str} {sp:Sp} (lk:K.lookup f=some ⟨oc,od,.func (PySem.W.fnOf name qual params body scope dV kV doc pm an cdv ct),osl⟩) (hcd:PySem.W.codeIn K cdv qual=true) (S:aJ N ps scope)
  (len:∀vs H Q E,sp vs H Q E→vs.length=ps.length)
  (hbody:∀(A:Around) (outer:List Env) (s:Shared) (H:Hp) (vs:List V) (Q:VK) (E:XK),eQ k (A.deeper (envOfC qual scope s.heap.objs.size f cdv))→sp vs H Q E→
   ∃t,Jc (KQ CX P w K mg base N qual scope f cdv A outer s H E) body t∧t {nx:=fun _ H'=>Q .non H',rt:=Q} (start N vs) H):
  tX P w K mg base CX (k+1) f (PySem.W.fnOf name qual params body scope dV kV doc pm an cdv ct) ps sp:=by
 refine⟨len,fun A outer s H args us vs Q E hr e0 hb r hsp=>?_⟩
 have hl:=len _ _ _ _ hsp
 have KX:K.In s.heap:=e0.mod.kin.keeps fun b o e=>(e0.bs b o e).1
 have lim:s.heap.NoLimit:=e0.mod.nolimit.keeps fun b o e=>(e0.bs b o e).1
 have hkind:∀y∈ps.zip us,scope.names.lookup y.1=some .local∨(scope.names.lookup y.1=some .cell∧((cellsFrom (s.heap.objs.size+1) scope.names []).lookup y.1).isSome=true):=fun⟨n,v⟩ hy=>by
  rcases S.Z6 n (List.of_mem_zip hy).1 with q|q
  ·exact .inl q
  ·exact .inr ⟨q,PySem.W.cellsFrom_some _ _ _ (.inl q)⟩
 refine codeAny_call_function hr.depth (KX _ _ lk) rfl S.co S.gen rfl (PySem.W.codeRec_of KX hcd) (hb _ _ _ _ ?_)
 refine wpAny_newFunctionEnv_cells S.kind hkind fun env he s1 x=>?_
 subst he
 refine⟨lim.keeps x.toInCall.keep,codeAny_func ?_⟩
 obtain⟨t,ht,hq⟩:=hbody A outer s H vs Q E (hr.deeper _) hsp
 have I:Inv (KQ CX P w K mg base N qual scope f cdv A outer s H E) [] (start N vs) H s1:=O5 S hr.hd e0 hl r x
 refine wpAny_mono (ht [] s1 (start N vs) H _ I hq) (fun fl s' hs=>?_) fun e s' hs=>hs
 have fin:∀ {σ':St} {H':Hp} {v:V} {u:Value},Inv (KQ CX P w K mg base N qual scope f cdv A outer s H E) [] σ' H' s'→RelV v u→Q v H'→CE outer P w H s Q u s':=
  fun {σ' H' v u} J rv q=>⟨v,H',J.os,J.bare,J.base,J.hok,rv,q⟩
 cases fl with
 |ret u=>
  obtain⟨v,σ',H',J,rv,q⟩:=hs
  exact fin J rv q
 |next=>
  obtain⟨σ',H',J,q⟩:=hs
  exact fin (v:=V.non) (u:=Value.none) J rfl q
 |brk=>
  obtain⟨_,_,_,q⟩:=hs
  exact False.elim q
 |cont=>
  obtain⟨_,_,_,q⟩:=hs
  exact False.elim q
section
variable{X:Cx}{x:Str}{p pos:Pos}{e:Expr}{es:List Expr}{t:TA}{id T:String}{r:List V→Hp→VK→Prop}
def tCB(r:List V→Hp→VK→Prop)(t:TA):TE:=fun σ H Q=>t σ H fun vs H1=>r vs H1 Q
theorem aY(hc:gY X (.builtin id) r)(hg:Gl X x)(hm:X.mg x=none)(hv:bootBuiltins x=some (.builtin id))(ha:PA X (e::es) t)(hn:x≠"__name__":=by decide)(hdb:(x==("__debug__":Str))=false:=by decide)
  (he:starEach (e::es) X.env=(false,eval e X.env)::starEach es X.env:=by rfl) (hpl:(backTo pos (starEach es X.env)).any (·.1)=false:=by rfl):PE X (.Call (.Name x p) (e::es) [] pos) (tCB r t):=by
 intro pins s σ H Q I h
 refine wpAny_Call_Name_kw (kY I hg hm hv ?_ hn hdb)
 exact PyProof.Rows.callWith_builtin1 (cW (ha pos pins s σ H _ I h) fun us s1 ⟨vs,H1,I1,r1,q1⟩=>hc pins s1 σ H1 vs us Q I1 r1 q1) he hpl
theorem vR(hc:gY X (.type T) r)(hg:Gl X x)(hm:X.mg x=none)(hv:bootBuiltins x=some (.type T))(ha:PA X (e::es) t)(hn:x≠"__name__":=by decide)(hdb:(x==("__debug__":Str))=false:=by decide)
  (he:starEach (e::es) X.env=(false,eval e X.env)::starEach es X.env:=by rfl) (hpl:(backTo pos (starEach es X.env)).any (·.1)=false:=by rfl):PE X (.Call (.Name x p) (e::es) [] pos) (tCB r t):=by
 intro pins s σ H Q I h
 refine wpAny_Call_Name_kw (kY I hg hm hv ?_ hn hdb)
 exact PyProof.Rows.callWith_type1 (cW (ha pos pins s σ H _ I h) fun us s1 ⟨vs,H1,I1,r1,q1⟩=>hc pins s1 σ H1 vs us Q I1 r1 q1) he hpl
end
end L2
namespace HT
open PySem PyProof.Rows
section
open PySem.SeqAt
open PySem.AutoSeq1 (wpAny_loadPart')
open PySem.MeetsSeq PySem.MeetsSeq2 PySem.MeetsSeq3
end
section
variable{prog:Program}{w:World}{A:Around}{E:Value→Shared→Prop}{s:Shared}
def Gj(n d:Nat):Option Int→Nat
 |none=>d
 |some v=>if v<0 then(v+(n:Int)).toNat else min v.toNat n
theorem Ma(n d k:Nat):Gj n d (some (k:Int))=min k n:=by
 show(if (k:Int)<0 then((k:Int)+(n:Int)).toNat else min (k:Int).toNat n)=min k n
 rw[if_neg (by omega),Int.toNat_natCast]
end
end HT
namespace L2
open PySem PySem.Spec PyProof.Rows
abbrev TO:=St→Hp→(Option Int→Hp→Prop)→Prop
def PO(X:Cx)(e:Option Expr)(t:TO):Prop:=
 ∀(pins:List (Addr×Obj)) (s:Shared) (σ:St) (H:Hp) (Q:Option Int→Hp→Prop),Inv X pins σ H s→t σ H Q→
  wpAny (model X.prog X.w) X.A (evalPart e X.env) (fun u s'=>∃o H',Inv X pins σ H' s'∧IsPart u o∧Q o H') X.xe s
def Ls:TO:=fun _ H Q=>Q none H
def QB(t:TE):TO:=fun σ H Q=>t σ H fun x H1=>∃i,x= .int i∧Q (some i) H1
section
variable{X:Cx}{e:Expr}{te:TE}{lo hi:Option Expr}{tl th:TO}{pos p2:Pos}
theorem Mh(h:PE X e te):PO X (some e) (QB te):=by
 intro pins s σ H Q I hw
 rw[evalPart_some]
 refine cW (h pins s σ H _ I hw) fun u s1 ⟨x,H1,I1,r1,q1⟩=>?_
 obtain⟨i,rfl,q⟩:=q1
 obtain⟨t,rfl⟩:=r1
 exact⟨some i,H1,I1,.int i t,q⟩
def SlR(X:Cx)(r:V→Option Int→Option Int→Hp→VK→Prop):Prop:=
 ∀(pins:List (Addr×Obj)) (s:Shared) (σ:St) (H:Hp) (x:V) (v vl vu:Value) (lo hi:Option Int) (sl:Addr) (Q:VK),Inv X pins σ H s→RelV x v→s.heap.IsSliceOf sl vl vu .none→IsPart vl lo→IsPart vu hi→r x lo hi H Q→
  ∃T id,typeLookup (.type T) "__getitem__"=pure (some (.builtin id))∧s.TypeIs v T∧wpAny (model X.prog X.w) X.A (getItem v (.ref sl)) (EP X pins σ Q) X.xe s
def tSl(r:V→Option Int→Option Int→Hp→VK→Prop)(te:TE)(tl th:TO):TE:=fun σ H Q=>te σ H fun x H1=>tl σ H1 fun l H2=>th σ H2 fun u H3=>r x l u H3 Q
theorem Rr{r:V→Option Int→Option Int→Hp→VK→Prop}(hr:SlR X r)(he:PE X e te)(hl:PO X lo tl)(hu:PO X hi th):PE X (.Subscript e (.Slice lo hi none p2) pos) (tSl r te tl th):=by
 intro pins s σ H Q I h
 refine Subscript_ (cW (he pins s σ H _ I h) fun v s1 ⟨x,H1,I1,r1,q1⟩=>?_)
 refine wpAny_Slice (cW (hl pins s1 σ H1 _ I1 q1) fun vl s2 ⟨l,H2,I2,pl,q2⟩=>cW (hu pins s2 σ H2 _ I2 q2) fun vu s3 ⟨u,H3,I3,pu,q3⟩=>?_)
 rw[evalPart_none]
 refine wpAny_pure ?_
 have I4:Inv X pins σ H3 {s3 with heap:=s3.heap.push {cls:= .type "slice",data:= .fields #[vl,vu,.none]}}:=I3.kept (t':=s3.toks) fun b ob q=>Heap.get?_push_of_some _ q
 obtain⟨T,id,hT,ht,hg⟩:=hr pins {s3 with heap:=s3.heap.push {cls:= .type "slice",data:= .fields #[vl,vu,.none]}} σ H3 x v vl vu l u s3.heap.objs.size Q I4 r1 (Heap.IsSliceOf.new ..) pl pu q3
 show wpAny (model X.prog X.w) X.A (subscriptTail e (.Slice lo hi none p2) v (.ref s3.heap.objs.size)) (EP X pins σ Q) X.xe {s3 with heap:=s3.heap.push {cls:= .type "slice",data:= .fields #[vl,vu,.none]}}
 exact tail_any (ops:=[.ref s3.heap.objs.size,v]) ht hT hg (by with_unfolding_all rfl)
def Fz(xs:List V)(lo hi:Option Int):List V:=(xs.drop (HT.Gj xs.length 0 lo)).take (HT.Gj xs.length xs.length hi - HT.Gj xs.length 0 lo)
theorem Ip(xs:List V)(lo hi:Option Int):(Fz xs lo hi).length≤xs.length:=by
 unfold Fz
 rw[List.length_take,List.length_drop]
 omega
end
def Vr(n:Nat)(i:Int):Option Nat:=if 0≤i then(if i<n then some i.toNat else none)else if -(n:Int)≤i then some (i+n).toNat else none
def Y4{α:Type}(xs:List α)(i:Int):Option α:=(Vr xs.length i).bind fun j=>xs[j]?
theorem MK{n:Nat}{i:Int}{j:Nat}(h:Vr n i=some j):seqIndex? i n=some j∧j<n∧ -(n:Int)≤i∧i<n:=by
 unfold Vr at h
 by_cases h0:0≤i
 ·rw[if_pos h0]at h
  by_cases h1:i<n
  ·rw[if_pos h1]at h
   have e:i.toNat=j:=Option.some.inj h
   exact⟨by rw[seqIndex_of h0 h1,e],by omega,by omega,h1⟩
  ·rw[if_neg h1]at h;cases h
 ·rw[if_neg h0]at h
  by_cases h1: -(n:Int)≤i
  ·rw[if_pos h1]at h
   have e:(i+n).toNat=j:=Option.some.inj h
   exact⟨by rw[seqIndex_neg (by omega) h1,e],by omega,h1,by omega⟩
  ·rw[if_neg h1]at h;cases h
theorem F_{α:Type}{xs:List α}{i:Int}{v:α}(h:Y4 xs i=some v):∃j,seqIndex? i xs.length=some j∧xs[j]? =some v∧j<xs.length∧ -(xs.length:Int)≤i∧i<xs.length:=by
 unfold Y4 at h
 cases e:Vr xs.length i with
 |none=>rw[e]at h;cases h
 |some j=>
  rw[e]at h
  obtain⟨h1,h2,h3,h4⟩:=MK e
  exact⟨j,h1,h,h2,h3,h4⟩
theorem qw{α:Type}{xs:List α}{j:Nat}{v:α}(h:xs[j]? =some v):Y4 xs (j:Int)=some v:=by
 have hj:j<xs.length:=(List.getElem?_eq_some_iff.mp h).1
 have e:Vr xs.length (j:Int)=some j:=by
  unfold Vr
  rw[if_pos (by omega),if_pos (by omega)];simp
 unfold Y4;rw[e];exact h
def Nk(b:Expr):Prop:=∀o i,subscripted b false o i=operate [o,i] (getItem o i)
def IxR(X:Cx)(r:R2):Prop:=
 ∀(value slice:Expr) (pins:List (Addr×Obj)) (s:Shared) (σ:St) (H:Hp) (x y:V) (v u:Value) (Q:VK),Inv X pins σ H s→RelV x v→RelV y u→r x y H Q→
  subscripted slice false v u=operate [v,u] (getItem v u)→wpAny (model X.prog X.w) X.A (subscriptTail value slice v u) (EP X pins σ Q) X.xe s
def MtR(X:Cx)(id:String)(r:V→List V→Hp→VK→Prop):Prop:=
 ∀(pins:List (Addr×Obj)) (s:Shared) (σ:St) (H:Hp) (x:V) (xs:List V) (v:Value) (us:List Value) (Q:VK),Inv X pins σ H s→RelV x v→Vals xs us→r x xs H Q→
  wpAny (model X.prog X.w) X.A (call (.builtin id) (v::us)) (EP X pins σ Q) X.xe s
section
variable{X:Cx}{a b:Expr}{ta tb:TE}{pos:Pos}
theorem bc{r:R2}(hr:IxR X r)(ha:PE X a ta)(hb:PE X b tb)(hs:Nk b):PE X (.Subscript a b pos) (Zc r ta tb):=by
 intro pins s σ H Q I h
 exact Subscript_ (YZ ha hb I h fun v u s2 x y H2 I2 rx ry q=>hr a b pins s2 σ H2 x y v u Q I2 rx ry q (hs _ _))
def Rh(K:PySem.W.Frag):R2:=fun x y H Q=>∃p xs i v,x= .ref p∧y= .int i∧bC K H p xs∧Y4 xs i=some v∧Q v H
def ZV(K:PySem.W.Frag):R2:=fun x y H Q=>∃p xs i v,x= .ref p∧y= .int i∧mF K H p xs∧Y4 xs i=some v∧Q v H
theorem Vq:IxR X (Rh X.K):=by
 intro value slice pins s σ H x y v u Q I rx ry h hs
 obtain⟨p,xs,i,z,rfl,rfl,hq,he,q⟩:=h
 cases rx
 obtain⟨t,rfl⟩:=ry
 obtain⟨its,r,pl,hz⟩:=I.list hq
 obtain⟨j,h1,h2,h3,h4,h5⟩:=F_ he
 obtain⟨w,ew,ZK⟩:=r.get h2
 have hl:=r.length
 have hn:=yW
 have fin:EP X pins σ Q w s:=⟨z,H,I,ZK,q⟩
 by_cases h0:0≤i
 ·have hj:i.toNat=j:=by
   rw[seqIndex_of h0 h5]at h1
   exact Option.some.inj h1
  exact item_listR pl.isList h0 (by omega) (by rw[hj];simpa using ew) fin hs
 ·have hj:(i+(its.toArray.size:Int)).toNat=j:=by
   rw[seqIndex_neg (by omega) h4]at h1
   rw[List.size_toArray,←hl]
   exact Option.some.inj h1
  exact subscriptTail_builtinR (x:=w) pl.isList.typeIs slot_list_getitem.lookup
   (wpAny_getItem_list_neg (Q:=fun r s'=>r=w∧EP X pins σ Q r s') pl.isList (by omega) (by rw[List.size_toArray]<;>omega) (by omega) (by rw[hj];simpa using ew) ⟨rfl,fin⟩) hs
theorem Yk:IxR X (ZV X.K):=by
 intro value slice pins s σ H x y v u Q I rx ry h hs
 obtain⟨p,xs,i,z,rfl,rfl,hq,he,q⟩:=h
 cases rx
 obtain⟨t,rfl⟩:=ry
 obtain⟨its,r,pl,hz⟩:=I.tuple hq
 obtain⟨j,h1,h2,h3,h4,h5⟩:=F_ he
 obtain⟨w,ew,ZK⟩:=r.get h2
 have hl:=r.length
 have hn:=yW
 have fin:EP X pins σ Q w s:=⟨z,H,I,ZK,q⟩
 exact subscriptTail_builtinR (x:=w) pl.typeIs slot_tuple_getitem.lookup
  (getItem_tuple (j:=j) (Q:=fun r s'=>r=w∧EP X pins σ Q r s') pl (by omega) (by omega) (by rw[List.size_toArray,←hl];exact h1) (by simpa using ew) ⟨rfl,fin⟩) hs
theorem Ka(its:List Value)(n j:Nat)(u:Value):Obj.mapSeq (·.setIfInBounds j u) {cls:= .type "list",data:= .seq its.toArray n}={cls:= .type "list",data:= .seq (its.set j u).toArray n}:=by
 simp [Obj.mapSeq]
theorem Inv.lst{pins:List (Addr×Obj)}{σ:St}{H:Hp}{s:Shared}{p:Addr}{xs:List V}(I:Inv X pins σ H s)(h:H p=some (.lst xs)):
  ∃(its:List Value) (n:Nat),Vals xs its∧s.heap.get? p=some {cls:= .type "list",data:= .seq its.toArray n}∧xs.length≤sizeLine:=by
 obtain⟨z,its,n,r,e⟩:=I.hok p _ h
 exact⟨its,n,r,e,z⟩
theorem Inv.Yc{pins:List (Addr×Obj)}{σ:St}{H:Hp}{s:Shared}{p:Addr}{xs ys:List V}{its its':List Value}{n n':Nat}{f:Obj→Obj}(I:Inv X pins σ H s)(h:H p=some (.lst xs))
  (ho:s.heap.get? p=some {cls:= .type "list",data:= .seq its.toArray n}) (hf:f {cls:= .type "list",data:= .seq its.toArray n}={cls:= .type "list",data:= .seq its'.toArray n'}) (r:Vals ys its') (hz:ys.length≤sizeLine) (t:Nat):
  Inv X pins σ (upd H p (.lst ys)) {s with heap:=s.heap.update p f,toks:=t}:=by
 have e:(s.heap.update p f).get? p=some {cls:= .type "list",data:= .seq its'.toArray n'}:=by
  rw[Heap.get?_update_self f ho (by rw[hf]<;>rfl),hf]
 refine I.write (x:=p) (e:=p) (by rw[h];trivial) (.inl rfl) (fun b u hb q=>(Heap.get?_update_other _ _ (Ne.symm hb)).trans q) ⟨_,e⟩ ?_
 exact⟨hz,its',n',r,e⟩
def ZR:V→V→V→Hp→(Hp→Prop)→Prop:=fun o i v H Q=>∃p xs k j,o= .ref p∧i= .int k∧H p=some (.lst xs)∧Vr xs.length k=some j∧Q (upd H p (.lst (xs.set j v)))
theorem set_list:Y8 X ZR:=by
 intro pins s σ H o i v ov iv u Q I ro ri rv h
 obtain⟨p,xs,k,j,rfl,rfl,hp,hj,q⟩:=h
 cases ro
 obtain⟨t,rfl⟩:=ri
 obtain⟨its,n,r,ho,hz⟩:=I.lst hp
 obtain⟨h1,h2,h3,h4⟩:=MK hj
 have hl:=r.length
 have hn:=yW
 have I':Inv X pins σ (upd H p (.lst (xs.set j v))) {s with heap:=s.heap.update p (Obj.mapSeq (·.setIfInBounds j u))}:=
  I.Yc hp ho (Ka its n j u) (r.set rv j) (by rw[List.length_set];exact hz) s.toks
 by_cases h0:0≤k
 ·have hk:k.toNat=j:=by
   rw[seqIndex_of h0 h4]at h1
   exact Option.some.inj h1
  exact PySem.W.ki_setAt ho h0 (by omega) (by rw[List.size_toArray,←hl];exact h4) (by rw[hk];exact⟨_,I',q⟩)
 ·have hk:(k+(its.toArray.size:Int)).toNat=j:=by
   rw[seqIndex_neg (by omega) h3]at h1
   rw[List.size_toArray,←hl]
   exact Option.some.inj h1
  exact PySem.W.ki_setBack ho (by omega) (by rw[List.size_toArray,←hl];exact h3) (by omega) (by rw[hk];exact⟨_,I',q⟩)
theorem Dm(lo hi:Option Int)(n:Nat):(sliceBounds lo hi none n).1=((HT.Gj n 0 lo:Nat):Int)∧(sliceBounds lo hi none n).2.1=((HT.Gj n n hi:Nat):Int)∧(sliceBounds lo hi none n).2.2=1:=by
 refine⟨?_,?_,rfl⟩
 ·cases lo with
  |none=>simp [sliceBounds,HT.Gj]
  |some i=>
   simp only[sliceBounds,HT.Gj,Option.getD_none,show(1:Int)>0 by decide,if_true]
   by_cases h:i<0
   ·simp only[h,if_true]<;>omega
   ·simp only[h,if_false]<;>omega
 ·cases hi with
  |none=>simp [sliceBounds,HT.Gj]
  |some i=>
   simp only[sliceBounds,HT.Gj,Option.getD_none,show(1:Int)>0 by decide,if_true]
   by_cases h:i<0
   ·simp only[h,if_true]<;>omega
   ·simp only[h,if_false]<;>omega
theorem Aj(its:List Value)(lo hi:Option Int):slicePick its.toArray lo hi none=((its.drop (HT.Gj its.length 0 lo)).take (HT.Gj its.length its.length hi - HT.Gj its.length 0 lo)).toArray:=by
 obtain⟨h1,h2,h3⟩:=Dm lo hi its.toArray.size
 unfold slicePick
 rw[h1,h2,h3]
 simp only[sliceRange_one,pick_run,List.size_toArray]<;>rfl
def ZQ(K:PySem.W.Frag):V→Option Int→Option Int→Hp→VK→Prop:=fun x lo hi H Q=>∃a xs,x= .ref a∧bC K H a xs∧∀p,H p=none→Q (.ref p) (upd H p (.lst (Fz xs lo hi)))
theorem Uq:SlR X (ZQ X.K):=by
 intro pins s σ H x v vl vu lo hi sl Q I rx hs pl pu h
 obtain⟨a,xs,rfl,hx,q⟩:=h
 cases rx
 obtain⟨its,r,ht,hz⟩:=I.list hx
 have hlen:=r.length
 refine⟨"list",_,slot_list_getitem.lookup,ht.isList.typeIs,?_⟩
 refine wpAny_getItem_list_slice ht.isList hs pl pu .none (by simp) ?_ (by rw[List.size_toArray]<;>omega)
 rw[Aj,←hlen]
 refine⟨.ref s.heap.objs.size,_,I.laid (t':=s.toks) (o:= .lst (Fz xs lo hi)) (fun b ob q=>Heap.get?_push_of_some _ q) (Nat.le_refl _) ?_,rfl,q _ (I.hok.fresh (Nat.le_refl _))⟩
 exact⟨Nat.le_trans (Ip xs lo hi) hz,_,0,(r.drop (HT.Gj xs.length 0 lo)).take (HT.Gj xs.length xs.length hi - HT.Gj xs.length 0 lo),Heap.get?_push_size _ rfl⟩
def vg:V→Bool
 | .non=>true
 | .bl _=>true
 | .int _=>true
 | .str _=>true
 |_=>false
def TF:V→V→Bool
 | .non,.non=>true
 | .bl a,.bl b=>a==b
 | .bl a,.int b=>(if a then 1 else 0)==b
 | .int a,.bl b=>a==(if b then 1 else 0)
 | .int a,.int b=>a==b
 | .str a,.str b=>a==b
 |_,_=>false
theorem YH{A:Around}{s:Shared}{y x:V}{u v:Value}(ry:RelV y u)(rx:RelV x v)(fy:vg y=true)(fx:vg x=true):SeqAt.EqAt A s u v (TF y x):=by
 cases y with
 |non=>
  cases ry
  cases x with
  |non=>cases rx;exact SeqAt.EqAt.same _
  |bl b=>cases rx;exact SeqAt.EqAt.none_bool b
  |int b=>obtain⟨t,rfl⟩:=rx;exact SeqAt.EqAt.none_int b t
  |str b=>obtain⟨t,rfl⟩:=rx;exact SeqAt.EqAt.none_str b t
  |_=>exact absurd (show false=true from fx) Bool.false_ne_true
 |bl a=>
  cases ry
  cases x with
  |non=>cases rx;exact SeqAt.EqAt.bool_none a
  |bl b=>cases rx;exact SeqAt.EqAt.bool_bool a b
  |int b=>obtain⟨t,rfl⟩:=rx;exact SeqAt.EqAt.bool_int a b t
  |str b=>obtain⟨t,rfl⟩:=rx;exact SeqAt.EqAt.bool_str a b t
  |_=>exact absurd (show false=true from fx) Bool.false_ne_true
 |int a=>
  obtain⟨t',rfl⟩:=ry
  cases x with
  |non=>cases rx;exact SeqAt.EqAt.int_none a t'
  |bl b=>cases rx;exact SeqAt.EqAt.int_bool a t' b
  |int b=>obtain⟨t,rfl⟩:=rx;exact SeqAt.EqAt.int_int a t' b t
  |str b=>obtain⟨t,rfl⟩:=rx;exact SeqAt.EqAt.int_str a t' b t
  |_=>exact absurd (show false=true from fx) Bool.false_ne_true
 |str a=>
  obtain⟨t',rfl⟩:=ry
  cases x with
  |non=>cases rx;exact SeqAt.EqAt.str_none a t'
  |bl b=>cases rx;exact SeqAt.EqAt.str_bool a t' b
  |int b=>obtain⟨t,rfl⟩:=rx;exact SeqAt.EqAt.str_int a t' b t
  |str b=>obtain⟨t,rfl⟩:=rx;exact SeqAt.EqAt.str_str a t' b t
  |_=>exact absurd (show false=true from fx) Bool.false_ne_true
 |_=>exact absurd (show false=true from fy) Bool.false_ne_true
def V3(x:V)(u:Value):Bool:=match u with
 | .none=>TF .non x
 | .bool b=>TF (.bl b) x
 | .int i _=>TF (.int i) x
 | .str z _=>TF (.str z) x
 |_=>false
theorem S_{x y:V}{u:Value}(r:RelV y u)(f:vg y=true):V3 x u=TF y x:=by
 cases y with
 |non=>cases r;rfl
 |bl b=>cases r;rfl
 |int i=>obtain⟨t,rfl⟩:=r;rfl
 |str z=>obtain⟨t,rfl⟩:=r;rfl
 |_=>exact absurd (show false=true from f) Bool.false_ne_true
theorem Gd{x:V}:∀ {xs:List V} {us:List Value},Vals xs us→xs.all vg=true→us.any (V3 x)=xs.any fun y=>TF y x
 |_,_,.nil,_=>rfl
 |y::xs,u::us,.cons r t,f=>by
  rw[List.all_cons,Bool.and_eq_true]at f
  rw[List.any_cons,List.any_cons,S_ r f.1,Gd t f.2]
theorem yU{A:Around}{s:Shared}{x:V}{v:Value}(rx:RelV x v)(fx:vg x=true):∀ {xs:List V} {us:List Value},Vals xs us→xs.all vg=true→∀u∈us,SeqAt.EqAt A s u v (V3 x u)
 |_,_,.nil,_=>fun u hu=>by cases hu
 |y::xs,u::us,.cons r t,f=>fun u' hu=>by
  rw[List.all_cons,Bool.and_eq_true]at f
  rcases List.mem_cons.mp hu with rfl|hu
  ·rw[S_ r f.1];exact YH r rx f.1 fx
  ·exact yU rx fx t f.2 u' hu
def inV(x:V)(xs:List V):Bool:=xs.any fun y=>TF y x
def rIn(K:PySem.W.Frag)(neg:Bool):R2:=fun x y H Q=>∃p xs,y= .ref p∧(bC K H p xs∨mF K H p xs)∧vg x=true∧xs.all vg=true∧Q (.bl (if neg then !inV x xs else inV x xs)) H
theorem Om:vH X (compareOp .In) (rIn X.K false):=by
 intro pins s σ H x y v u Q I rx ry h
 obtain⟨p,xs,rfl,hq,fx,fs,q⟩:=h
 cases ry
 rcases hq with hq|hq
 ·obtain⟨its,r,pl,hz⟩:=I.list hq
  refine SeqAt.in_listAt (V3 x) pl.isList (fun w hw=>yU rx fx r fs w (by simpa using hw)) ⟨.bl _,H,I,rfl,?_⟩
  rw[show its.toArray.any (V3 x)=its.any (V3 x)by simp,Gd r fs]
  exact q
 ·obtain⟨its,r,pl,hz⟩:=I.tuple hq
  refine SeqAt.in_tupleAt (V3 x) pl (fun w hw=>yU rx fx r fs w (by simpa using hw)) ⟨.bl _,H,I,rfl,?_⟩
  rw[show its.toArray.any (V3 x)=its.any (V3 x)by simp,Gd r fs]
  exact q
theorem FT:gY X (.builtin "len") (fun xs H Q=>∃p ys,xs=[.ref p]∧(bC X.K H p ys∨mF X.K H p ys)∧Q (.int ys.length) H):=by
 intro pins s σ H xs us Q I r h
 obtain⟨p,ys,rfl,hq,q⟩:=h
 obtain⟨u,rfl,rx⟩:=vals1 r
 cases rx
 have hn:=yW
 rcases hq with hq|hq
 ·obtain⟨its,r',pl,hz⟩:=I.list hq
  have hlen:=r'.length
  exact Calls.call_len_list pl.isList (by simp only[List.size_toArray]<;>omega) ⟨.int ys.length,H,I.tok _,⟨s.toks+1,by rw[List.size_toArray,hlen]⟩,q⟩
 ·obtain⟨its,r',pl,hz⟩:=I.tuple hq
  have hlen:=r'.length
  exact len_tuple pl (by simp only[List.size_toArray]<;>omega) ⟨.int ys.length,H,I.tok _,⟨s.toks+1,by rw[List.size_toArray,hlen]⟩,q⟩
theorem FQ:gY X (.type "list") (fun xs H Q=>∃p ys,xs=[.ref p]∧(bC X.K H p ys∨mF X.K H p ys)∧∀l,H l=none→Q (.ref l) (upd H l (.lst ys))):=by
 intro pins s σ H xs us Q I r h
 obtain⟨p,ys,rfl,hq,q⟩:=h
 obtain⟨u,rfl,rx⟩:=vals1 r
 cases rx
 have fin:∀(its:List Value),Vals ys its→ys.length≤sizeLine→∀(h':Heap) (c':Nat),(∀b o',s.heap.get? b=some o'→h'.get? b=some o')→
   h'.get? s.heap.objs.size=some {cls:= .type "list",dict:=none,data:= .seq its.toArray c',slots:=#[]}→EP X pins σ Q (.ref s.heap.objs.size) {s with heap:=h'}:=fun its r' hz h' c' kp e=>
  ⟨.ref s.heap.objs.size,_,I.laid (t':=s.toks) kp (Nat.le_refl _) (show iR X.prog X.w _ h' _ (.lst ys)from ⟨hz,its,c',r',e⟩),rfl,q _ (I.hok.fresh (Nat.le_refl _))⟩
 rcases hq with hq|hq
 ·obtain⟨its,r',pl,hz⟩:=I.list hq
  have hlen:=r'.length
  obtain⟨o,ho,hc,n,hd⟩:=pl.isList
  exact call_list_seq p (.inl rfl) ho hc hd (fun h' c' kp e=>fin its r' hz h' c' kp e) (by simp only[List.size_toArray]<;>omega)
 ·obtain⟨its,r',pl,hz⟩:=I.tuple hq
  have hlen:=r'.length
  obtain⟨o,ho,hc,n,hd⟩:=pl
  exact call_list_seq p (.inr rfl) ho hc hd (fun h' c' kp e=>fin its r' hz h' c' kp e) (by simp only[List.size_toArray]<;>omega)
def tyV(K:PySem.W.Frag)(T:String)(x:V)(H:Hp):Prop:=match x with
 | .str _=>T="str"
 | .int _=>T="int"
 | .ref p=>(T="list"∧∃xs,bC K H p xs)∨(T="tuple"∧∃o,K.lookup p=some o∧o.cls= .type "tuple"∧o.dict=none)∨
   (T="dict"∧((∃kvs,H p=some (.dK kvs))∨∃kvs,H p=some (.dT kvs)))∨(T="set"∧∃S n,H p=some (.set S n))
 |_=>False
theorem Xc{pins:List (Addr×Obj)}{σ:St}{H:Hp}{s:Shared}{T:String}{x:V}{v:Value}(I:Inv X pins σ H s)(r:RelV x v)(ty:tyV X.K T x H):
  s.TypeIs v T∧∀a,v= .ref a→∃ob,s.heap.get? a=some ob∧ob.dict=none:=by
 cases x with
 |str z=>
  obtain⟨t,rfl⟩:=r
  cases(show T="str" from ty)
  exact⟨typeIs_str s z t,fun _ e=>nomatch e⟩
 |int i=>
  obtain⟨t,rfl⟩:=r
  cases(show T="int" from ty)
  exact⟨typeIs_int s i t,fun _ e=>nomatch e⟩
 |ref p=>
  cases r
  rcases ty with⟨rfl,xs,hq⟩| ⟨rfl,o,hk,hc,hd⟩| ⟨rfl,hk⟩| ⟨rfl,S,n,hk⟩
  ·obtain⟨its,_,pl,_⟩:=I.list hq
   refine⟨pl.isList.typeIs,fun a e=>?_⟩
   cases e
   obtain⟨o,n,e,c,hd,_⟩:=pl
   exact⟨o,e,hd⟩
  ·refine⟨⟨o,I.MF p o hk,hc⟩,fun a e=>?_⟩
   cases e
   exact⟨o,I.MF _ o hk,hd⟩
  ·have z:∃o,s.heap.get? p=some o∧o.ExactDict:=by
    rcases hk with⟨kvs,hk⟩| ⟨kvs,hk⟩
    ·obtain⟨_,_,_,_,o,_,_,e,ex,_⟩:=I.hok p _ hk
     exact⟨o,e,ex⟩
    ·obtain⟨_,_,_,_,o,_,_,e,ex,_⟩:=I.hok p _ hk
     exact⟨o,e,ex⟩
   obtain⟨o,e,ex⟩:=z
   refine⟨⟨o,e,ex.1⟩,fun a e2=>?_⟩
   cases e2
   exact⟨o,e,ex.2.1⟩
  ·obtain⟨o,_,_,_,e,ex,_⟩:=I.hok p _ hk
   refine⟨⟨o,e,ex.1⟩,fun a e2=>?_⟩
   cases e2
   exact⟨o,e,ex.2.1⟩
 |_=>exact False.elim ty
def ZF(K:PySem.W.Frag)(T:String)(r:V→List V→Hp→VK→Prop)(to:TE):TE:=fun σ H Q=>to σ H fun x H1=>tyV K T x H1∧r x [] H1 Q
def tBM(K:PySem.W.Frag)(T:String)(r:V→List V→Hp→VK→Prop)(to:TE)(t:TA):TE:=fun σ H Q=>to σ H fun x H1=>tyV K T x H1∧t σ H1 fun xs H2=>r x xs H2 Q
variable{o e:Expr}{es:List Expr}{to:TE}{t:TA}{name:Str}{apos cpos:Pos}{T id:String}{r:V→List V→Hp→VK→Prop}
theorem jK(pa:PlainAttrs T)(slot:Slot T name id)(hty:typeOf (.builtin id)=pure (.type "method_descriptor"))(hm:MtR X id r)(ho:PE X o to)(ha:PA X (e::es) t)
  (hbase:attributeBase o name X.env (eval o X.env)=eval o X.env:=by rfl)
  (hfew:((backTo cpos (starEach (e::es) X.env)).all (fun x=> !x.1)&&(backToKw cpos (keywordEach [] X.env)).all (fun x=>x.1.isSome)
   &&decide ((e::es).length+([]:List Keyword).length+(if ([]:List Keyword).isEmpty then 0 else 1)<30))=true:=by rfl)
  (hline:(apos.endLine==cpos.line)=true:=by rfl) (hs:starEach (e::es) X.env=(false,eval e X.env)::starEach es X.env:=by rfl) (hplain:(backTo cpos (starEach es X.env)).any (·.1)=false:=by rfl):
  PE X (.Call (.Attribute o name apos) (e::es) [] cpos) (tBM X.K T r to t):=by
 intro pins s σ H Q I h
 refine wpAny_Call_method_late hbase hfew hline rfl (cW (ho pins s σ H _ I h) fun v s1 ⟨x,H1,I1,r1,ty,q1⟩=>?_)
 obtain⟨h1,h2⟩:=Xc I1 r1 ty
 refine⟨T,id,pa,slot,hty,h1,h2,?_⟩
 have hA:=ha cpos pins s1 σ H1 _ I1 q1
 rw[hs]at hA ⊢
 refine Calls.callWith_builtin (by show(false||(backTo cpos (starEach es X.env)).any (·.1))=false;rw[hplain]<;>rfl) (Calls.evalArgs_plain ?_)
 exact cW hA fun us s2 ⟨vs,H2,I2,r2,q2⟩=>hm pins s2 σ H2 x vs v us Q I2 r1 r2 q2
end
def MtM(X:Cx)(id:String)(r:V→List V→Hp→VK→Prop):Prop:=
 ∀(pins:List (Addr×Obj)) (s:Shared) (σ:St) (H:Hp) (x:V) (xs:List V) (v:Value) (us:List Value) (Q:VK),Inv X pins σ H s→RelV x v→Vals xs us→r x xs H Q→
  wpAny (model X.prog X.w) X.A (call (.builtin id) (v::us)) (EP X pins σ Q) X.xe s
theorem Vals.one:∀ {x:V} {us:List Value},Vals [x] us→∃u,us=[u]∧RelV x u
 |_,_,.cons r .nil=>⟨_,rfl,r⟩
theorem Vals.rep{xs:List V}{us:List Value}(h:Vals xs us):∀k:Nat,Vals (List.replicate k xs).flatten (List.replicate k us).flatten
 |0=> .nil
 |k+1=>by
  rw[List.replicate_succ,List.replicate_succ,List.flatten_cons,List.flatten_cons]
  exact Vals.append h (Vals.rep h k)
theorem foldl_rep(its:List Value):∀(k:Nat) (acc:List Value),
  List.foldl (fun x1 x2=>x1++x2) acc.toArray (List.replicate k its.toArray)=(acc++(List.replicate k its).flatten).toArray
 |0,acc=>by simp
 |k+1,acc=>by
  have e:acc.toArray++its.toArray=(acc++its).toArray:=by simp
  have e2:(acc++its)++(List.replicate k its).flatten=acc++(List.replicate (k+1) its).flatten:=by
   rw[List.replicate_succ,List.flatten_cons,List.append_assoc]
  rw[←e2,←foldl_rep its k (acc++its),←e,List.replicate_succ,List.foldl_cons]
section
variable{X:Cx}{pins:List (Addr×Obj)}{σ:St}{H:Hp}{s:Shared}{l b:Addr}{xs ys zs:List V}
theorem Inv.aac{its its':List Value}{n:Nat}{f:Array Value→Array Value}{t':Nat}(I:Inv X pins σ H s)(hH:H l=some (.lst xs))
  (e:s.heap.get? l=some {cls:= .type "list",data:= .seq its.toArray n}) (hf:f its.toArray=its'.toArray) (hv:Vals ys its') (hz:ys.length≤sizeLine):
  Inv X pins σ (upd H l (.lst ys)) {s with heap:=s.heap.update l (Obj.mapSeq f),toks:=t'}:=by
 have q:=PySem.IsL.update e f
 rw[hf]at q
 refine I.write (x:=l) (e:=l) (by rw[hH];exact trivial) (.inl rfl) (fun b' u hb hu=>(Heap.get?_update_other s.heap (Obj.mapSeq f) (Ne.symm hb)).trans hu) ⟨_,q⟩ ?_
 exact⟨hz,its',_,hv,q⟩
theorem Inv.aae{its:List Value}{t':Nat}(I:Inv X pins σ H s)(hv:Vals ys its)(hz:ys.length≤sizeLine):
  Inv X pins σ (upd H s.heap.objs.size (.lst ys)) {s with heap:=s.heap.push {cls:= .type "list",data:= .seq its.toArray},toks:=t'}:=
 I.laid (fun _ _ q=>Heap.get?_push_of_some _ q) (Nat.le_refl _) ⟨hz,its,0,hv,Heap.get?_push_size _ rfl⟩
theorem Inv.fresh(I:Inv X pins σ H s):H s.heap.objs.size=none:=I.hok.fresh (Nat.le_refl _)
theorem Inv.OD(I:Inv X pins σ H s)(hH:H l=some (.lst xs)):xs.length≤sizeLine∧∃(its:List Value) (n:Nat),Vals xs its∧xs.length=its.length∧s.heap.get? l=some {cls:= .type "list",data:= .seq its.toArray n}:=by
 obtain⟨z,its,n,r,e⟩:=I.hok l _ hH
 exact⟨z,its,n,r,r.length,e⟩
theorem Hv{n:Nat}(h:n≤sizeLine):Builtin.List.listTooLong n=false:=by
 unfold Builtin.List.listTooLong
 exact decide_eq_false (by omega)
end
section
variable{X:Cx}
def UV:V→List V→Hp→VK→Prop:=fun x vs H Q=>∃l xs y,x= .ref l∧vs=[y]∧H l=some (.lst xs)∧xs.length<sizeLine∧Q .non (upd H l (.lst (xs++[y])))
theorem eY:MtM X "list.append" UV:=by
 intro pins s σ H x vs v us Q I rx rv h
 obtain⟨l,xs,y,rfl,rfl,hH,hz,q⟩:=h
 cases rx
 obtain⟨u,rfl,ru⟩:=rv.one
 obtain⟨z,its,n,r,hl,e⟩:=I.OD hH
 refine call_meets F.slot_list_append ⟨_,e,rfl⟩ F.entry_list_append (F.args_list_append_2 _ _) (PySem.list_append l its.toArray n u (by rw[List.size_toArray];omega)) ⟨e,?_⟩
 refine⟨.non,_,I.aac (its':=its++[u]) hH e (by simp) (r.append (.cons ru .nil)) ?_,rfl,q⟩
 rw[List.length_append,List.length_singleton]
 omega
def UT:V→List V→Hp→VK→Prop:=fun x vs H Q=>∃l b xs zs,x= .ref l∧vs=[.ref b]∧H l=some (.lst xs)∧H b=some (.lst zs)∧xs.length+zs.length≤sizeLine∧Q .non (upd H l (.lst (xs++zs)))
theorem jW:MtM X "list.extend" UT:=by
 intro pins s σ H x vs v us Q I rx rv h
 obtain⟨l,b,xs,zs,rfl,rfl,hH,hB,hz,q⟩:=h
 cases rx
 obtain⟨u,rfl,ru⟩:=rv.one
 cases ru
 obtain⟨z,its,n,r,hl,e⟩:=I.OD hH
 obtain⟨z2,its2,n2,r2,hl2,e2⟩:=I.OD hB
 have hsz:its.toArray.size+its2.toArray.size≤sizeLine:=by rw[List.size_toArray,List.size_toArray];omega
 have Su:¬(!its.toArray.isEmpty&&Builtin.List.listTooLong (its.toArray.size+its2.toArray.size))=true:=by
  rw[Hv hsz,Bool.and_false]
  exact Bool.false_ne_true
 refine call_meets F.slot_list_extend ⟨_,e,rfl⟩ F.entry_list_extend (F.args_list_extend_2 _ _)
  (AutoSeq1.list_extend_list_list_0 l its.toArray n b its2.toArray n2 Su (by rw[List.size_toArray];omega) (by omega)) ⟨e,e2,?_⟩
 refine⟨.non,_,I.aac (its':=its++its2) hH e (by simp) (r.append r2) ?_,rfl,q⟩
 rw[List.length_append]
 omega
def ab1:R2:=fun x y H Q=>∃l b xs zs,x= .ref l∧y= .ref b∧H l=some (.lst xs)∧H b=some (.lst zs)∧xs.length+zs.length≤sizeLine∧∀p,H p=none→Q (.ref p) (upd H p (.lst (xs++zs)))
theorem o5:vH X (binaryOp .Add) ab1:=by
 intro pins s σ H x y v u Q I rx ry h
 obtain⟨l,b,xs,zs,rfl,rfl,hH,hB,hz,q⟩:=h
 cases rx
 cases ry
 obtain⟨z,its,n,r,hl,e⟩:=I.OD hH
 obtain⟨z2,its2,n2,r2,hl2,e2⟩:=I.OD hB
 refine PySem.P.add_list e e2 ?_ (by rw[List.size_toArray,List.size_toArray];omega)
 have ea:its.toArray++its2.toArray=(its++its2).toArray:=by simp
 rw[ea]
 exact⟨.ref _,_,I.aae (t':=s.toks) (r.append r2) (by rw[List.length_append];omega),rfl,q _ I.fresh⟩
def abY:R2:=fun x y H Q=>∃l k xs,x= .ref l∧y= .int k∧H l=some (.lst xs)∧ -(2 ^ 63)≤k∧k<2 ^ 63∧xs.length*k.toNat≤sizeLine∧
 ∀p,H p=none→Q (.ref p) (upd H p (.lst (List.replicate k.toNat xs).flatten))
theorem len_rep{α:Type}(xs:List α)(k:Nat):(List.replicate k xs).flatten.length=k*xs.length:=by
 induction k with
 |zero=>simp
 |succ k ih=>rw[List.replicate_succ,List.flatten_cons,List.length_append,ih,Nat.succ_mul,Nat.add_comm]
theorem su:vH X (binaryOp .Mult) abY:=by
 intro pins s σ H x y v u Q I rx ry h
 obtain⟨l,k,xs,rfl,rfl,hH,h1,h2,hz,q⟩:=h
 cases rx
 obtain⟨t,rfl⟩:=ry
 obtain⟨z,its,n,r,hl,e⟩:=I.OD hH
 have hlen:its.toArray.size*k.toNat≤sizeLine:=by rw[List.size_toArray,←hl];exact hz
 have acA:¬its.toArray.size*k.toNat>(2 ^ 63 - 1) / 8:=by
  have:(sizeLine:Nat)≤(2 ^ 63 - 1) / 8:=by decide
  omega
 have hfit:¬(!Builtin.List.listFitsIndex k)=true:=by
  rw[fitsIndex_both h1 h2]
  exact Bool.false_ne_true
 have Su:¬Builtin.List.listTooLong (its.toArray.size*k.toNat)=true:=by
  rw[Hv hlen]
  exact Bool.false_ne_true
 have hnew:List.foldl (fun x1 x2=>x1++x2) #[] (List.replicate (if its.toArray.isEmpty=true then 0 else k.toNat) its.toArray)=(List.replicate k.toNat its).flatten.toArray:=by
  have f0:∀m:Nat,List.foldl (fun x1 x2=>x1++x2) #[] (List.replicate m its.toArray)=(List.replicate m its).flatten.toArray:=fun m=>by
   have:=foldl_rep its m []
   rw[List.nil_append]at this
   exact this
  rw[f0]
  cases its with
  |nil=>simp
  |cons a r'=>rw[if_neg (by simp)]
 refine wpAny_binaryOp_repeat_ref (T:="list") (U:="int") (by decide) ⟨_,e,rfl⟩ (fun s'=>typeIs_int s' k t) noFill_list_mul F.fills_int_mul F.slot_int_rmul repeat_list F.slot_int_index.lookup
  (call_meets F.slot_int_rmul (typeIs_int s k t) F.entry_int_rmul (F.args_int_rmul_2 _ _) (int___rmul___int_list k t l its.toArray n)
   ⟨e,rfl,⟨_,e,rfl⟩,call_meets F.slot_list_mul ⟨_,e,rfl⟩ F.entry_list_mul (F.args_list_mul_2 _ _) (AutoListH.list___mul___list_int_3 l its.toArray n k t hfit acA Su) ⟨e,?_⟩⟩)
 rw[hnew]
 exact⟨.ref _,_,I.aae (t':=s.toks) (r.rep k.toNat) (by rw[len_rep,Nat.mul_comm];exact hz),rfl,q _ I.fresh⟩
end
theorem Vals.ints:∀ {ns:List Int} {us:List Value},Vals (ns.map V.int) us→IntsAre us ns
 | [],us,h=>by
  rw[List.map_nil]at h
  cases h
  exact IntsAre.nil
 |n::ns,us,h=>by
  rw[List.map_cons]at h
  cases h with
  |cons r t=>
   obtain⟨k,rfl⟩:=r
   exact IntsAre.cons n k (Vals.ints t)
theorem gZ:∀ {us:List Value} {ns:List Int},IntsAre us ns→Vals (ns.map V.int) us
 |_,_,.nil=>by rw[List.map_nil];exact Paired.nil
 |_,_,.cons n t h=>by rw[List.map_cons];exact Paired.cons (show RelV (V.int n) (Value.int n t)from ⟨t,rfl⟩) (gZ h)
theorem Vals.bls:∀ {bs:List Bool} {us:List Value},Vals (bs.map V.bl) us→us=bs.map Value.bool
 | [],us,h=>by
  rw[List.map_nil]at h
  cases h
  rfl
 |b::bs,us,h=>by
  rw[List.map_cons]at h
  cases h with
  |cons r t=>
   cases r
   rw[Vals.bls t,List.map_cons]
theorem Vals.xK{a:Addr}{us:List Value}(r:Vals [V.ref a] us):us=[Value.ref a]:=by
 cases r with
 |cons r t=>
  cases t
  cases r
  rfl
theorem Vals.aau{i j:Int}{us:List Value}(r:Vals [V.int i,V.int j] us):∃t u,us=[Value.int i t,Value.int j u]:=by
 cases r with
 |cons r t=>
  cases t with
  |cons r2 t2=>
   cases t2
   obtain⟨t,rfl⟩:=r
   obtain⟨u,rfl⟩:=r2
   exact⟨t,u,rfl⟩
section
variable{prog:Program}{w:World}{A:Around}{E:Value→Shared→Prop}{s:Shared}{l:Addr}{its:List Value}{ns:List Int}{Q:Value→Shared→Prop}
theorem Um(hh:A.handled=none)(hl:s.heap.IsList l its.toArray)(hi:IntsAre its ns)
  (h:∀h' tk t',(∀b o,s.heap.get? b=some o→h'.get? b=some o)→Q (.int ns.sum t') {s with heap:=h',toks:=tk}):wpAny (model prog w) A (call (.builtin "sum") [.ref l]) Q E s:=by
 obtain⟨xs,e⟩:=hi.allInts.items
 have hn:numsOf (intItems xs).toList=ns:=by rw[←e];exact hi.numsOf
 rw[nums_intItems]at hn
 rw[e]at hl
 refine PySem.sum_intListG hh hl fun h' tk t' hk=>?_
 have:=h h' tk t' hk
 rw[preSum_eq,List.take_of_length_le (by simp),hn];exact this
theorem abk(hh:A.handled=none)(hl:s.heap.IsList l its.toArray)(hi:IntsAre its ns)(hne:0<ns.length)
  (h:∀h' tk M t',(∀b o,s.heap.get? b=some o→h'.get? b=some o)→M∈ns→(∀a,a∈ns→a≤M)→Q (.int M t') {s with heap:=h',toks:=tk}):wpAny (model prog w) A (call (.builtin "max") [.ref l]) Q E s:=by
 obtain⟨xs,e⟩:=hi.allInts.items
 have hn:numsOf (intItems xs).toList=ns:=by rw[←e];exact hi.numsOf
 rw[nums_intItems]at hn
 subst hn
 rw[e]at hl
 have hsz:0<xs.size:=by simpa using hne
 refine PySem.max_intList hh hl hsz fun v h' tk hv hk=>?_
 obtain⟨t,rfl⟩:=intItems_at hv
 obtain⟨h1,h2⟩:=argBest_gt (numAt xs) (xs.size - 1)
 refine h h' tk _ t hk ?_ fun a ha=>?_
 ·rw[numAt_eq];exact PySem.getD_mem (by rw[List.length_map,Array.length_toList];omega)
 ·obtain⟨j,hj,rfl⟩:=mem_getD ha
  rw[List.length_map,Array.length_toList]at hj
  rw[←numAt_eq];exact h2 j (by omega)
theorem Vj(hh:A.handled=none)(hl:s.heap.IsList l its.toArray)(hi:IntsAre its ns)(hne:0<ns.length)
  (h:∀h' tk M t',(∀b o,s.heap.get? b=some o→h'.get? b=some o)→M∈ns→(∀a,a∈ns→M≤a)→Q (.int M t') {s with heap:=h',toks:=tk}):wpAny (model prog w) A (call (.builtin "min") [.ref l]) Q E s:=by
 obtain⟨xs,e⟩:=hi.allInts.items
 have hn:numsOf (intItems xs).toList=ns:=by rw[←e];exact hi.numsOf
 rw[nums_intItems]at hn
 subst hn
 rw[e]at hl
 have hsz:0<xs.size:=by simpa using hne
 refine PySem.min_intList hh hl hsz fun v h' tk hv hk=>?_
 obtain⟨t,rfl⟩:=intItems_at hv
 obtain⟨h1,h2⟩:=argBest_lt (numAt xs) (xs.size - 1)
 refine h h' tk _ t hk ?_ fun a ha=>?_
 ·rw[numAt_eq];exact PySem.getD_mem (by rw[List.length_map,Array.length_toList];omega)
 ·obtain⟨j,hj,rfl⟩:=mem_getD ha
  rw[List.length_map,Array.length_toList]at hj
  rw[←numAt_eq];exact h2 j (by omega)
end
section
variable{X:Cx}
def ZP(K:PySem.W.Frag):List V→Hp→VK→Prop:=fun vs H Q=>∃(a:Addr) (ns:List Int),vs=[V.ref a]∧bC K H a (ns.map V.int)∧Q (.int ns.sum) H
def ZS(K:PySem.W.Frag):List V→Hp→VK→Prop:=fun vs H Q=>∃(a:Addr) (ns:List Int),vs=[V.ref a]∧bC K H a (ns.map V.int)∧0<ns.length∧∀m,m∈ns→(∀y,y∈ns→m≤y)→Q (.int m) H
theorem YM(hc:X.calm=true):gY X (.builtin "sum") (ZP X.K):=by
 intro pins s σ H vs us Q I r h
 obtain⟨a,ns,rfl,hs,q⟩:=h
 obtain⟨its,rv,hl,_⟩:=I.list hs
 rw[Vals.xK r]
 exact Um (I.ok.hd hc) hl.isList rv.ints fun h' tk t' hk=>⟨.int _,H,I.kept hk,⟨_,rfl⟩,q⟩
theorem YQ(hc:X.calm=true):gY X (.builtin "min") (ZS X.K):=by
 intro pins s σ H vs us Q I r h
 obtain⟨a,ns,rfl,hs,hne,q⟩:=h
 obtain⟨its,rv,hl,_⟩:=I.list hs
 rw[Vals.xK r]
 exact Vj (I.ok.hd hc) hl.isList rv.ints hne fun h' tk m t' hk h1 h2=>⟨.int _,H,I.kept hk,⟨_,rfl⟩,q m h1 h2⟩
def Mf(K:PySem.W.Frag):List V→Hp→VK→Prop:=fun vs H Q=>∃(a:Addr) (ns:List Int),vs=[V.ref a]∧bC K H a (ns.map V.int)∧ns.length<64∧
 ∀(ns':List Int) (p:Addr),ns'.Perm ns→ns'.Pairwise (· ≤ ·)→H p=none→Q (.ref p) (upd H p (.lst (ns'.map V.int)))
theorem Up{n:Nat}(h:n<64):n≤sizeLine:=by rw[sizeLine_eq];omega
theorem Py:gY X (.builtin "sorted") (Mf X.K):=by
 intro pins s σ H vs us Q I r h
 obtain⟨a,ns,rfl,hs,h64,q⟩:=h
 obtain⟨its,rv,hl,_⟩:=I.list hs
 rw[Vals.xK r]
 have hi:=rv.ints
 refine PyProof.Rows.sorted_ints hl.isList hi (by rw[hi.length];exact h64) fun out ns' h1 h2 h3=>?_
 obtain⟨ep,he'⟩:=PyProof.Rows.sortedAll_at s.heap its out
 have hlen:(ns'.map V.int).length≤sizeLine:=by rw[List.length_map,h2.length_eq];exact Up h64
 exact⟨.ref _,upd H (s.heap.objs.size+1) (.lst (ns'.map V.int)),I.laid (t':=s.toks) (fun _ _=>PyProof.Rows.sortedAll_old) (Nat.le_succ _) ⟨hlen,out.toList,ep,gZ h1,he'⟩,rfl,q ns' _ h2 h3 (I.hok.fresh (Nat.le_succ _))⟩
end
theorem HR{prog:Program}{w:World}{A:Around}{E:Value→Shared→Prop}{s:Shared}{l:Addr}{items:Array Value}{Q:Value→Shared→Prop}(hl:s.heap.IsList l items)
  (h:∀s₂:Shared,s₂={s with heap:=s.heap.push {cls:= .type "list_iterator",data:= .fields #[.ref l,.int 0 0]}}→
   (s₂.heap.IsListIter s.heap.objs.size l 0∧s₂.heap.IsList l items)→l≠s.heap.objs.size→Q (.ref s.heap.objs.size) s₂):wpAny (model prog w) A (pyIter (.ref l)) Q E s:=by
 have hlt:l<s.heap.objs.size:=by obtain⟨_,e,_⟩:=hl;exact Heap.lt_size e
 exact wpAny_pyIter_list hl (h _ rfl ⟨⟨_,Heap.get?_push_size _ rfl,rfl,rfl⟩,hl.push _⟩ (Nat.ne_of_lt hlt))
theorem wQ{prog:Program}{w:World}{A:Around}{bs:List Bool}{its:List Value}(e:its=bs.map Value.bool):
  TruthOf prog w A (fun i v=>its.toArray[i]? =some v) (fun i=>bs.getD i false):=fun i v s Q E hv hq=>by
 have hv':its[i]? =some v:=by simpa using hv
 rw[e,List.getElem?_map]at hv'
 obtain⟨b,hb,rfl⟩:=Option.map_eq_some_iff.mp hv'
 have hg:bs.getD i false=b:=by rw[List.getD_eq_getElem?_getD,hb]<;>rfl
 have hq':Q (bs.getD i false) s:=hq
 rw[hg]at hq'
 exact wpAny_truthy_bool hq'
theorem any_range:∀bs:List Bool,(List.range bs.length).any (fun i=>bs.getD i false)=bs.any id
 | []=>rfl
 |b::bs=>by
  rw[List.length_cons,List.range_succ_eq_map,List.any_cons,List.any_map,List.any_cons,←any_range bs]
  all_goals rfl
theorem all_range:∀bs:List Bool,(List.range bs.length).all (fun i=>bs.getD i false)=bs.all id
 | []=>rfl
 |b::bs=>by
  rw[List.length_cons,List.range_succ_eq_map,List.all_cons,List.all_map,List.all_cons,←all_range bs]
  all_goals rfl
section
variable{X:Cx}
def ZW(K:PySem.W.Frag):List V→Hp→VK→Prop:=fun vs H Q=>∃(a:Addr) (bs:List Bool),vs=[V.ref a]∧bC K H a (bs.map V.bl)∧Q (.bl (bs.any id)) H
def ZX(K:PySem.W.Frag):List V→Hp→VK→Prop:=fun vs H Q=>∃(a:Addr) (bs:List Bool),vs=[V.ref a]∧bC K H a (bs.map V.bl)∧Q (.bl (bs.all id)) H
theorem YS(hc:X.calm=true):gY X (.builtin "any") (ZW X.K):=by
 intro pins s σ H vs us Q I r h
 obtain⟨a,bs,rfl,hs,q⟩:=h
 obtain⟨its,rv,hl,_⟩:=I.list hs
 rw[Vals.xK r]
 have hb:=rv.bls
 refine call_any_walk (HR hl.isList fun s₂ e2 st hne=>?_)
 subst e2
 refine⟨_,_,_,_,_,_,_,rfl,Walks.list (A:=X.A.in1) (I.ok.hd hc) _ a hne its.toArray,st,wQ hb,fun h' tk hk=>?_⟩
 refine⟨.bl _,H,I.kept fun b o eo=>hk b o (fun hmem=>?_) (Heap.get?_push_of_some _ eo),?_,q⟩
 ·rcases List.mem_cons.mp hmem with e1|hmem
  ·exact absurd (e1▸Heap.lt_size eo) (Nat.lt_irrefl _)
  ·cases hmem
 ·show Value.bool _=Value.bool _
  rw[←any_range,hb,List.size_toArray,List.length_map]
theorem YT(hc:X.calm=true):gY X (.builtin "all") (ZX X.K):=by
 intro pins s σ H vs us Q I r h
 obtain⟨a,bs,rfl,hs,q⟩:=h
 obtain⟨its,rv,hl,_⟩:=I.list hs
 rw[Vals.xK r]
 have hb:=rv.bls
 refine call_all_walk (HR hl.isList fun s₂ e2 st hne=>?_)
 subst e2
 refine⟨_,_,_,_,_,_,_,rfl,Walks.list (A:=X.A.in1) (I.ok.hd hc) _ a hne its.toArray,st,wQ hb,fun h' tk hk=>?_⟩
 refine⟨.bl _,H,I.kept fun b o eo=>hk b o (fun hmem=>?_) (Heap.get?_push_of_some _ eo),?_,q⟩
 ·rcases List.mem_cons.mp hmem with e1|hmem
  ·exact absurd (e1▸Heap.lt_size eo) (Nat.lt_irrefl _)
  ·cases hmem
 ·show Value.bool _=Value.bool _
  rw[←all_range,hb,List.size_toArray,List.length_map]
end
mutual
inductive Dp (K:PySem.W.Frag) (H:Hp):V→PyData→Prop
 |non:Dp K H .non .none
 |bl (b:Bool):Dp K H (.bl b) (.bool b)
 |int (i:Int):Dp K H (.int i) (.int i)
 |str (x:Str):Dp K H (.str x) (.str x)
 |lst {a:Addr} {xs:List V} {ds:List PyData}:bC K H a xs→Je K H xs ds→Dp K H (.ref a) (.list ds)
 |tup {a:Addr} {xs:List V} {ds:List PyData}:mF K H a xs→Je K H xs ds→Dp K H (.ref a) (.tuple ds)
inductive Je (K:PySem.W.Frag) (H:Hp):List V→List PyData→Prop
 |nil:Je K H [] []
 |cons {v:V} {vs:List V} {d:PyData} {ds:List PyData}:Dp K H v d→Je K H vs ds→Je K H (v::vs) (d::ds)
end
abbrev Tz(h:Heap)(c:Addr)(v:Option Value):Prop:=h.IsCell c v
def abW(scope sc:Scope):Scope:=
 {scope with names:=scope.names.map fun(n,k)=>if (k== .free&&sc.kind== .function&&sc.names.lookup n==some .cell)then(n,.cell)else(n,k)}
def bN(cells:List (Str×Addr)):List (Str×NameKind)→List (Str×Addr)→List (Str×Addr)
 | [],acc=>acc
 | (n,k)::r,acc=>if k== .free then bN cells r ((n,(cells.lookup n).getD 0)::acc)else bN cells r acc
theorem vy(env:Env)(f:Str×NameKind→List (Str×Addr)→Sem (ForInStep (List (Str×Addr))))
  (hf:∀n k c,f (n,k) c=if k== .free then(do let a ←cellOf env n;pure (.yield ((n,a)::c)))else pure (.yield c)):
  ∀(names:List (Str×NameKind)) (acc:List (Str×Addr)),(∀y∈names,y.2= .free→∃c,env.cells.lookup y.1=some c)→forIn names acc f=pure (bN env.cells names acc)
 | [],acc,_=>by rw[List.forIn_nil];rfl
 | (n,k)::r,acc,h=>by
  rw[List.forIn_cons,hf]
  have ih:=fun acc=>vy env f hf r acc fun y hy=>h y (List.mem_cons_of_mem _ hy)
  unfold bN
  by_cases hk:(k==NameKind.free)=true
  ·rw[if_pos hk,if_pos hk]
   obtain⟨c,hc⟩:=h (n,k) List.mem_cons_self (by simpa using hk)
   have e:cellOf env n=pure c:=by unfold cellOf;rw[hc]
   rw[e]
   have e2:(env.cells.lookup n).getD 0=c:=by rw[hc];rfl
   rw[e2]
   exact ih _
  ·rw[if_neg hk,if_neg hk]
   exact ih _
theorem zR{scope:Scope}{env:Env}(h:∀y∈scope.names,y.2= .free→∃c,env.cells.lookup y.1=some c):closureFor scope env=pure (bN env.cells scope.names []):=by
 simp only[closureFor]
 rw[vy env _ (fun n k c=>rfl) scope.names [] h]
 rfl
theorem mem_lookup{α:Type}:∀ {l:List (Str×α)} {n:Str} {c:α},(n,c)∈l→∃c',l.lookup n=some c'
 | (k,v)::r,n,c,h=>by
  rw[List.lookup_cons]
  cases hb:n==k with
  |true=>exact⟨_,rfl⟩
  |false=>
   rcases List.mem_cons.mp h with e|h
   ·cases e;simp at hb
   ·exact mem_lookup h
theorem jj{cells:List (Str×Addr)}:∀ {names:List (Str×NameKind)} {acc:List (Str×Addr)} {n:Str} {c:Addr},(n,c)∈bN cells names acc→(n,c)∈acc∨((n,.free)∈names∧c=(cells.lookup n).getD 0)
 | [],_,_,_,h=> .inl h
 | (m,k)::r,acc,n,c,h=>by
  unfold bN at h
  split at h
  ·rename_i hk
   have hk:k= .free:=by simpa using hk
   rcases jj h with h| ⟨h1,h2⟩
   ·rcases List.mem_cons.mp h with e|h
    ·cases e;exact .inr ⟨hk▸List.mem_cons_self,rfl⟩
    ·exact .inl h
   ·exact .inr ⟨List.mem_cons_of_mem _ h1,h2⟩
  ·rcases jj h with h| ⟨h1,h2⟩
   ·exact .inl h
   ·exact .inr ⟨List.mem_cons_of_mem _ h1,h2⟩
theorem pO{cells:List (Str×Addr)}:∀ {names:List (Str×NameKind)} {acc:List (Str×Addr)} {p:Str×Addr},p∈acc→p∈bN cells names acc
 | [],_,_,h=>h
 | (m,k)::r,acc,p,h=>by
  unfold bN
  split
  ·exact pO (List.mem_cons_of_mem _ h)
  ·exact pO h
theorem jk{cells:List (Str×Addr)}:∀ {names:List (Str×NameKind)} {acc:List (Str×Addr)} {n:Str},(n,.free)∈names→(n,(cells.lookup n).getD 0)∈bN cells names acc
 | (m,k)::r,acc,n,h=>by
  unfold bN
  rcases List.mem_cons.mp h with e|h
  ·cases e
   exact pO List.mem_cons_self
  ·split
   ·exact jk h
   ·exact jk h
theorem mD:∀ {names:List (Str×NameKind)} {h:Heap} {acc:List (Str×Addr)} {x:Str} {c:Addr},(x,c)∈cellsFrom h.objs.size names acc→
  (x,c)∈acc∨((x,.cell)∈names∧h.objs.size≤c∧Tz (pushCells h names) c none)
 | [],_,_,_,_,h=> .inl h
 | (n,k)::r,h,acc,x,c,hm=>by
  unfold cellsFrom at hm
  unfold pushCells
  split at hm
  ·rename_i hk
   rw[if_pos hk]
   have hk:k= .cell:=by simpa using hk
   rw[←Heap.size_push h {cls:= .type "cell",data:= .cell none}]at hm
   rcases mD hm with hm| ⟨h1,h2,h3⟩
   ·rcases List.mem_cons.mp hm with e|hm
    ·cases e
     exact .inr ⟨hk▸List.mem_cons_self,Nat.le_refl _,_,pushCells_keeps r _ _ _ (Heap.get?_push_size _ rfl),rfl⟩
    ·exact .inl hm
   ·rw[Heap.size_push]at h2
    exact .inr ⟨List.mem_cons_of_mem _ h1,Nat.le_of_succ_le h2,h3⟩
  ·rename_i hk
   rw[if_neg hk]
   rcases mD hm with hm| ⟨h1,h2,h3⟩
   ·exact .inl hm
   ·exact .inr ⟨List.mem_cons_of_mem _ h1,h2,h3⟩
theorem qm:∀ {names:List (Str×NameKind)} {n:Nat} {acc:List (Str×Addr)} {p:Str×Addr},p∈acc→p∈cellsFrom n names acc
 | [],_,_,_,h=>h
 | (m,k)::r,n,acc,p,h=>by
  unfold cellsFrom
  split
  ·exact qm (List.mem_cons_of_mem _ h)
  ·exact qm h
theorem wK:∀ {names:List (Str×NameKind)} {n:Nat} {acc:List (Str×Addr)} {x:Str},(x,.cell)∈names→∃c,(x,c)∈cellsFrom n names acc
 | (m,k)::r,n,acc,x,h=>by
  unfold cellsFrom
  rcases List.mem_cons.mp h with e|h
  ·cases e
   exact⟨n,qm List.mem_cons_self⟩
  ·split
   ·exact wK h
   ·exact wK h
theorem wJ:∀ {names:List (Str×NameKind)} {h:Heap} {acc:List (Str×Addr)} {x y:Str} {c:Addr},(∀p∈acc,p.2<h.objs.size)→(∀x y c,(x,c)∈acc→(y,c)∈acc→x=y)→
  (x,c)∈cellsFrom h.objs.size names acc→(y,c)∈cellsFrom h.objs.size names acc→x=y
 | [],_,_,_,_,_,_,hi,h1,h2=>hi _ _ _ h1 h2
 | (n,k)::r,h,acc,x,y,c,hl,hi,h1,h2=>by
  unfold cellsFrom at h1 h2
  split at h1
  ·rename_i hk
   rw[if_pos hk]at h2
   rw[←Heap.size_push h {cls:= .type "cell",data:= .cell none}]at h1 h2
   refine wJ (h:=h.push _) (fun p hp=>?_) (fun x y c a b=>?_) h1 h2
   ·rw[Heap.size_push]
    rcases List.mem_cons.mp hp with rfl|hp
    ·exact Nat.lt_succ_self _
    ·exact Nat.lt_succ_of_lt (hl p hp)
   ·rcases List.mem_cons.mp a with e|a<;>rcases List.mem_cons.mp b with e'|b
    ·cases e;cases e';rfl
    ·cases e;exact absurd (hl _ b) (Nat.lt_irrefl _)
    ·cases e';exact absurd (hl _ a) (Nat.lt_irrefl _)
    ·exact hi _ _ _ a b
  ·rename_i hk
   rw[if_neg hk]at h2
   exact wJ hl hi h1 h2
theorem Hy{M:Model}{A:Around}{E:Value→Shared→Prop}{s:Shared}{scope:Scope}{globals:Addr}{closure:List (Str×Addr)}{qual:Str}{func:Option Addr}{code:Value}{around:Env}{builtins:Addr}{Q:Env→Shared→Prop}
  (h:Q (newEnv scope s.heap.objs.size globals (cellsFrom (s.heap.objs.size+1) scope.names closure) qual func code (some around) builtins)
   {s with heap:=pushCells (s.heap.push {cls:= .type "dict",data:= .dict #[]}) scope.names}):
  wpAny M A (newFunctionEnv scope globals closure [] qual func code (some around) builtins) Q E s:=by
 simp only[newFunctionEnv,Option.isSome_some,if_true]
 refine wpAny_bind (wpAny_alloc ?_)
 refine wpAny_bind (wpAny_layCells _ (fun n k c=>rfl) scope.names closure _ _ ?_)
 rw[show({s with heap:=s.heap.push {cls:= .type "dict",data:= .dict #[]}}:Shared).heap.objs.size=s.heap.objs.size+1 from Heap.size_push ..]
 rw[List.forIn_nil]
 exact wpAny_bind (wpAny_pure (wpAny_pure h))
theorem o8{sc:Scope}:∀ {names:List (Str×NameKind)} {x:Str} {k:NameKind},
  (names.map fun(n,k)=>if (k==NameKind.free&&sc.kind== .function&&sc.names.lookup n==some .cell)then(n,NameKind.cell)else(n,k)).lookup x=some k→
  ∃k',names.lookup x=some k'∧(k=k'∨(k'= .free∧k= .cell))
 | [],_,_,h=>by simp at h
 | (n,k₀)::r,x,k,h=>by
  have ih:= @o8 sc r x k
  have h':List.lookup x ((if (k₀==NameKind.free&&sc.kind== .function&&sc.names.lookup n==some .cell)=true then(n,NameKind.cell)else(n,k₀))::(r.map _))=some k:=h
  cases hx:x==n with
  |true=>
   simp only[List.lookup_cons,hx]
   by_cases hc:(k₀==NameKind.free&&sc.kind== .function&&sc.names.lookup n==some .cell)=true
   ·rw[if_pos hc]at h'
    simp only[List.lookup_cons,hx]at h'
    cases h'
    simp only[Bool.and_eq_true,beq_iff_eq]at hc
    exact⟨k₀,rfl,.inr ⟨hc.1.1,rfl⟩⟩
   ·rw[if_neg hc]at h'
    simp only[List.lookup_cons,hx]at h'
    cases h'
    exact⟨_,rfl,.inl rfl⟩
  |false=>
   simp only[List.lookup_cons,hx]
   by_cases hc:(k₀==NameKind.free&&sc.kind== .function&&sc.names.lookup n==some .cell)=true
   ·rw[if_pos hc]at h'
    simp only[List.lookup_cons,hx]at h'
    exact ih h'
   ·rw[if_neg hc]at h'
    simp only[List.lookup_cons,hx]at h'
    exact ih h'
structure Jg(N:List Str)(sc scope:Scope)(own:List (Str×Nat)):Prop where
 kind:scope.kind= .function
 Xa:∀y∈scope.names,scope.names.lookup y.1=some y.2
 ix:∀p∈own,N[p.2]? =some p.1
 free:∀y∈scope.names,y.2= .free→sc.names.lookup y.1=some .cell∨sc.names.lookup y.1=some .free
 own:∀y∈scope.names,y.2= .local∨y.2= .cell→y.1∈own.map (·.1)∨y.1∉N
def wipe(σ:St):List Nat→St
 | []=>σ
 |v::vs=>(wipe σ vs).set v none
theorem oH(σ:St):∀vs:List Nat,(wipe σ vs).length=σ.length
 | []=>rfl
 |v::vs=>by unfold wipe;rw[List.length_set,oH σ vs]
theorem vK{σ:St}{i:Nat}{x:V}:∀ {vs:List Nat},(wipe σ vs)[i]? =some (some x)→σ[i]? =some (some x)∧i∉vs
 | [],h=>⟨h,by simp⟩
 |v::vs,h=>by
  unfold wipe at h
  by_cases hi:v=i
  ·subst hi
   by_cases hv:v< (wipe σ vs).length
   ·rw[List.getElem?_set_self hv]at h;cases h
   ·rw[List.getElem?_eq_none (by simpa using hv)]at h;cases h
  ·rw[List.getElem?_set_ne hi]at h
   obtain⟨h1,h2⟩:=vK h
   exact⟨h1,by simp only[List.mem_cons,not_or];exact⟨fun e=>hi e.symm,h2⟩⟩
abbrev Cx.blk(X:Cx)(s:Shared)(H:Hp)(scope:Scope)(cenv:Env)(fp:List Addr):Cx:={X with Am:=s,W3:=H,env:=cenv,outer:=X.stack,ex:=fp,fn:=fun x=>scope.names.lookup x==some .cell,pn:=[],xe:=fun _ _=>False}
section
variable{X:Cx}{pins:List (Addr×Obj)}{σ:St}{H:Hp}{s:Shared}
theorem IV{scope:Scope}{own:List (Str×Nat)}{fp:List Addr}(I:Inv X pins σ H s)(ok:Jg X.N X.env.scope scope own)(hN:X.N.Nodup)(hfp:∀b∈fp,eV X pins H b∧b<s.heap.objs.size):
  Inv (X.blk s H scope (compEnvC scope (cellsFrom (s.heap.objs.size+1) scope.names (bN X.env.cells scope.names [])) s.heap.objs.size X.env) fp) [] (wipe σ (own.map (·.2))) H {s with heap:=pushCells (s.heap.push {cls:= .type "dict",data:= .dict #[]}) scope.names}:=by
 have hfree:∀y∈scope.names,y.2= .free→∃c,X.env.cells.lookup y.1=some c:=fun y hy e=>by
  rcases ok.free y hy e with k|k
  ·exact I.ok.has _ (.inl k)
  ·exact I.ok.has _ (.inr k)
 generalize HW:compEnvC scope (cellsFrom (s.heap.objs.size+1) scope.names (bN X.env.cells scope.names [])) s.heap.objs.size X.env=cenv
 have kp:∀b o,s.heap.get? b=some o→(pushCells (s.heap.push {cls:= .type "dict",data:= .dict #[]}) scope.names).get? b=some o:=fun b o e=>pushCells_keeps _ _ _ _ (Heap.get?_push_of_some _ e)
 have hL:cenv.locals=s.heap.objs.size:=by rw[←HW];rfl
 have hcl:cenv.cells=cellsFrom (s.heap.objs.size+1) scope.names (bN X.env.cells scope.names []):=by rw[←HW];rfl
 have hsc:cenv.scope=abW scope X.env.scope:=by rw[←HW];rfl
 rw[←Heap.size_push s.heap {cls:= .type "dict",data:= .dict #[]}]at hcl
 have cm:∀ {y c},(y,c)∈bN X.env.cells scope.names []→X.env.cells.lookup y=some c∧c<s.heap.objs.size:=fun {y c} hm=>by
  rcases jj hm with hm| ⟨h1,rfl⟩
  ·cases hm
  ·obtain⟨c,hc⟩:=hfree _ h1 rfl
   rw[hc]
   obtain⟨w,z⟩:=I.cell _ _ hc
   exact⟨rfl,z.lt⟩
 have mem:∀ {y c},cenv.cells.lookup y=some c→(X.env.cells.lookup y=some c∧c<s.heap.objs.size)∨(s.heap.objs.size+1≤c∧Tz (pushCells (s.heap.push {cls:= .type "dict",data:= .dict #[]}) scope.names) c none):=fun {y c} e=>by
  rw[hcl]at e
  rcases mD (PySem.mem_of_lookup e)with hm| ⟨_,h2,h3⟩
  ·exact .inl (cm hm)
  ·rw[Heap.size_push]at h2;exact .inr ⟨h2,h3⟩
 have look:∀ {y},scope.names.lookup y=some .free→∃c,cenv.cells.lookup y=some c∧X.env.cells.lookup y=some c:=fun {y} hl=>by
  have hy:(y,NameKind.free)∈scope.names:=PySem.mem_of_lookup hl
  obtain⟨c',e'⟩:=mem_lookup (qm (names:=scope.names) (n:=(s.heap.push {cls:= .type "dict",data:= .dict #[]}).objs.size) (jk (cells:=X.env.cells) (acc:=[]) hy))
  rw[←hcl]at e'
  refine⟨c',e',?_⟩
  rw[hcl]at e'
  rcases mD (PySem.mem_of_lookup e')with hm| ⟨h1,_,_⟩
  ·exact(cm hm).1
  ·have:=ok.Xa _ h1
   rw[hl]at this;cases this
 have okB:(X.blk s H scope cenv fp).Ok:=by
  refine⟨I.ok.mod,by show cenv.scope.kind=_;rw[hsc];exact ok.kind,by show cenv.globals=_;rw[←HW];exact I.ok.glob,by show cenv.builtins=_;rw[←HW];exact I.ok.blt,by show s.heap.objs.size≤cenv.locals;rw[hL];exact Nat.le_refl _,
   fun y z c e1 e2=>?_,fun y hy=>?_,fun y c z e=>?_,I.ok.hd,I.ok.frames,.inl rfl,fun b hb=>⟨?_,fun y c e z=>?_⟩,I.bs,Nat.le_trans I.ok.Tn I.sz,fun b o e hb=>?_,fun b hb z=>?_,I.stack,I.Dk⟩
  ·have e1:cenv.cells.lookup y=some c:=e1
   have e2:cenv.cells.lookup z=some c:=e2
   rw[hcl]at e1 e2
   refine wJ (fun p hp=>?_) (fun y z c a b=>I.ok.inj y z c (cm a).1 (cm b).1) (PySem.mem_of_lookup e1) (PySem.mem_of_lookup e2)
   rw[Heap.size_push]
   exact Nat.lt_succ_of_lt (cm (y:=p.1) (c:=p.2) hp).2
  ·show ∃c,cenv.cells.lookup y=some c
   have key:∀k,cenv.kindOf y=some k→(k= .cell∨k= .free)→∃c,cenv.cells.lookup y=some c:=fun k hk hk'=>by
    unfold Env.kindOf at hk
    rw[hsc]at hk
    obtain⟨k',e,r⟩:=o8 hk
    have:k'= .cell∨k'= .free:=by
     rcases r with rfl| ⟨rfl,_⟩
     ·exact hk'
     ·exact .inr rfl
    rcases this with rfl|rfl
    ·obtain⟨c,hm⟩:=wK (n:=(s.heap.push {cls:= .type "dict",data:= .dict #[]}).objs.size) (acc:=bN X.env.cells scope.names []) (PySem.mem_of_lookup e)
     obtain⟨c',e'⟩:=mem_lookup hm
     exact⟨c',by rw[hcl];exact e'⟩
    ·obtain⟨c,h1,_⟩:=look e
     exact⟨c,h1⟩
   rcases hy with hy|hy
   ·exact key _ hy (.inl rfl)
   ·exact key _ hy (.inr rfl)
  ·have z:(scope.names.lookup y==some NameKind.cell)=true:=z
   have z:scope.names.lookup y=some .cell:=by simpa using z
   have e:cenv.cells.lookup y=some c:=e
   rw[hcl]at e
   rcases mD (PySem.mem_of_lookup e)with hm| ⟨_,h2,_⟩
   ·rcases jj hm with hm| ⟨h1,_⟩
    ·cases hm
    ·have q:=ok.Xa _ h1
     rw[z]at q;cases q
   ·rw[Heap.size_push]at h2
    exact Nat.le_of_succ_le h2
  ·show b≠cenv.locals
   rw[hL];exact Nat.ne_of_lt (hfp b hb).2
  ·have e:cenv.cells.lookup y=some c:=e
   rcases mem e with⟨h1,_⟩| ⟨h1,_⟩
   ·exact(hfp b hb).1.2.2.2.2.1 y c h1 z
   ·have h2:s.heap.objs.size+1≤b:=by rw[←z];exact h1
    exact absurd (Nat.lt_of_lt_of_le (hfp b hb).2 (Nat.le_of_succ_le h2)) (Nat.lt_irrefl _)
  ·rcases(hfp b hb).1.2.2.2.1 with z|z
   ·exact I.ok.RN b o e z
   ·exact absurd (Nat.lt_of_lt_of_le (Heap.lt_size e) (Nat.le_trans I.ok.Tn z)) (Nat.lt_irrefl _)
  ·rcases List.mem_cons.mp (I.Jv b z)with z|z
   ·exact(hfp b hb).1.2.1 z
   ·exact(hfp b hb).1.2.2.1 z
 refine⟨okB,rfl,I.bare,Un.kept kp,⟨fun _=>none,?_,fun i y av e1 e2 e3=>?_⟩,fun y c e=>?_,?_,fun y c e=>?_,fun p hp=>?_,I.hok.kept kp,by rw[oH];exact I.len⟩
 ·show Heap.Ns _ cenv.locals _
  rw[hL]
  exact Heap.Ns.keeps (Heap.Ns.new ..) fun b o e=>pushCells_keeps _ _ _ _ e
 ·obtain⟨e2,hne⟩:=vK e2
  have hfr:scope.names.lookup y=some .free∧(cenv.kindOf y=some .cell∨cenv.kindOf y=some .free):=by
   have key:∀k,cenv.scope.names.lookup y=some k→k= .local∨k= .cell∨k= .free→scope.names.lookup y=some .free∧(cenv.kindOf y=some .cell∨cenv.kindOf y=some .free):=fun k hk hk'=>by
    have hk0:=hk
    rw[hsc]at hk
    obtain⟨k',e,r⟩:=o8 hk
    have no:¬(k'= .local∨k'= .cell):=fun hh=>by
     rcases ok.own _ (PySem.mem_of_lookup e) hh with e'|e'
     ·obtain⟨p,hp,hpy⟩:=List.mem_map.mp e'
      have e3:=ok.ix p hp
      have:p.1=y:=hpy
      rw[this]at e3
      exact hne (List.mem_map.mpr ⟨p,hp,uP hN e3 e1⟩)
     ·exact e' (List.mem_of_getElem? e1)
    rcases r with rfl| ⟨rfl,rfl⟩
    ·rcases hk' with rfl|rfl|rfl
     ·exact absurd (.inl rfl) no
     ·exact absurd (.inr rfl) no
     ·exact⟨e,.inr hk0⟩
    ·exact⟨e,.inl hk0⟩
   have e3:Y6 cenv.scope y:=e3
   rcases e3 with e3|e3|e3
   ·exact key _ e3 (.inl rfl)
   ·exact key _ e3 (.inr (.inl rfl))
   ·exact key _ e3 (.inr (.inr rfl))
  obtain⟨m,hn,hl⟩:=I.loc
  have acl:Y6 X.env.scope y:=(ok.free _ (PySem.mem_of_lookup hfr.1) rfl).elim (fun k=> .inr (.inl k)) (fun k=> .inr (.inr k))
  obtain⟨w,r,q⟩:=hl i y av e1 e2 acl
  refine⟨w,r,.inr ⟨hfr.2,?_⟩⟩
  obtain⟨c,h1,h2⟩:=look hfr.1
  rcases q with⟨k,_⟩| ⟨_,c',e',z⟩
  ·have k:X.env.scope.names.lookup y=some .local:=k
   rcases ok.free _ (PySem.mem_of_lookup hfr.1) rfl with k'|k'<;>rw[show X.env.scope.names.lookup y=_ from k']at k<;>cases k
  ·rw[h2]at e';cases e'
   exact⟨c,h1,z.keeps kp⟩
 ·have e:cenv.cells.lookup y=some c:=e
  rcases mem e with⟨h1,_⟩| ⟨_,z⟩
  ·obtain⟨w,z⟩:=I.cell y c h1
   exact⟨w,z.keeps kp⟩
  ·exact⟨_,z⟩
 ·show H cenv.locals=none
  rw[hL];exact I.hok.fresh (Nat.le_refl _)
 ·have e:cenv.cells.lookup y=some c:=e
  rcases mem e with⟨h1,_⟩| ⟨h1,_⟩
  ·exact I.kZ y c h1
  ·exact I.hok.fresh (Nat.le_of_succ_le h1)
 ·exact absurd (show p∈([]:List (Addr×Obj))++[]from hp) (by simp)
theorem Y5{E:Value→Shared→Prop}{D:Addr}{xs:List V}{y:V}{v:Value}{Q:Value→Shared→Prop}(I:Inv X pins σ H s)(hD:H D=some (.lst xs))(hz:xs.length<sizeLine)(r:RelV y v)
  (h:∀s',Inv X pins σ (upd H D (.lst (xs++[y]))) s'→Q .none s'):wpAny (model X.prog X.w) X.A (call (.builtin "list.append") [.ref D,v]) Q E s:=by
 obtain⟨hz',its,n,ri,e⟩:=I.hok D _ hD
 have hl:=ri.length
 refine append_at (hsz:=by rw[List.size_toArray];omega) e fun h' sb ho'=>?_
 refine h {s with heap:=h'} (I.write (t':=s.toks) (by rw[hD];trivial) (.inl rfl) (fun b u hb q=>(sb.2 b hb).trans q) ⟨_,ho'⟩ ⟨by rw[List.length_append];exact hz,its++[v],n+1,ri.append (.cons r .nil),?_⟩)
 rw[ho']
 simp
def PTs(X:Cx)(ifs:List Expr)(t:TT):Prop:=
 ∀(pins:List (Addr×Obj)) (s:Shared) (σ:St) (H:Hp) (Q:Bool→Hp→Prop),Inv X pins σ H s→t σ H Q→
  wpAny (model X.prog X.w) X.A (forIn ifs true fun c r=>if r=true then do let ok ←isTrue c X.env (eval c X.env);pure (ForInStep.yield ok)else pure (ForInStep.yield r)) (TP X pins σ Q) X.xe s
def Xi:TT:=fun _ H Q=>Q true H
theorem cu:PTs X [] Xi:=fun _ _ _ H _ I h=>wpAny_tests_nil ⟨H,I,h⟩
theorem fc{c:Expr}{t:TT}(h:PT X c t):PTs X [c] t:=fun pins s σ H Q I hw=>wpAny_tests_one (h pins s σ H Q I hw)
end
theorem NZ{α:Type}{t:Sem α}{Q Q':α→Shared→Prop}{M:Model}{A:Around}{E:Value→Shared→Prop}{s:Shared}(h:wpAny M A t Q (fun _ _=>False) s)(hQ:∀a s,Q a s→Q' a s):wpAny M A t Q' E s:=wpAny_mono h hQ fun _ _ z=>False.elim z
theorem FN{prog:Program}{w:World}{A:Around}{R:Result→Shared→Prop}{s:Shared}{elt target iter:Expr}{ifs:List Expr}{scope:Scope}{pos:Pos}{it acc:Value}{env:Env}(I:Nat→Shared→Prop)
  (turn:∀n s,I n s→wpAny (model prog w) A (pyNext it) (fun r s₁=>match r with
   |none=>R (.ok .next) s₁
   |some v=>wpAny (model prog w) A (letOwnedTupleGo target it v) (fun _ s₁'=>wpAny (model prog w) A (assign target env v) (fun _ s₂=>
     wpAny (model prog w) A (forIn ifs true fun c r=>if r=true then do let ok ←isTrue c env (eval c env);pure (ForInStep.yield ok)else pure (ForInStep.yield r)) (fun ok s₃=>
      if ok=true then wpAny (model prog w) A (eval elt env) (fun x s₄=>
       wpAny (model prog w) A (call (.builtin "list.append") [acc,x]) (fun _ s₅=>∃m,m<n∧I m s₅) (notedBy (model prog w) A env fun e s'=>R (.error e) s') s₄) (notedBy (model prog w) A env fun e s'=>R (.error e) s') s₃
      else ∃m,m<n∧I m s₃) (notedBy (model prog w) A env fun e s'=>R (.error e) s') s₂) (notedBy (model prog w) A env fun e s'=>R (.error e) s') s₁') (notedBy (model prog w) A env fun e s'=>R (.error e) s') s₁) (notedBy (model prog w) A env fun e s'=>R (.error e) s') s)
  (n:Nat) (h:I n s):
  codeAny (model prog w) A (.compLoop (.ListComp elt [⟨target,iter,ifs,0⟩] scope pos) 0 it acc env) R s:=by
 refine codeAny_loop rfl I (fun n s hI=>?_) n h
 show wpAny _ A ((compTurn (.ListComp elt [⟨target,iter,ifs,0⟩] scope pos) 0 it acc env).onRaise (fun x=>do noteFrame x env;theTreesLotGoes x)) _ _ s
 refine wpAny_noted ?_
 rw[compTurn_list]
 refine wpAny_bind (wpAny_standAt (wpAny_bind (wpAny_mono (turn n s hI) (fun r s₁ h₁=>?_) fun _ _ h'=>h')))
 cases r with
 |none=>exact wpAny_pure h₁
 |some v=>
  refine wpAny_bind (wpAny_mono h₁ (fun _ s₁' h₁'=>?_) fun _ _ h'=>h')
  refine wpAny_bind (wpAny_mono h₁' (fun _ s₂ h₂=>wpAny_bind (wpAny_mono h₂ (fun ok s₃ h₃=>?_) fun _ _ h'=>h')) fun _ _ h'=>h')
  cases ok with
  |false=>exact wpAny_pure ⟨rfl,h₃⟩
  |true=>
   exact wpAny_bind (wpAny_bind (wpAny_mono h₃ (fun x s₄ h₄=>wpAny_bind (wpAny_mono h₄ (fun _ s₅ h₅=>wpAny_pure (wpAny_pure ⟨rfl,h₅⟩)) fun _ _ h'=>h')) fun _ _ h'=>h'))
section
variable{X:Cx}
def ZC(wi:TI)(g:TG)(tt:TT)(te:TE)(vs:List Nat):TE:=fun σ H Q=>wi σ H fun J H1=>∀D,H1 D=none→∃W:Nat→Nat→Hp→Prop,(∃m,W 0 m (upd H1 D (.lst [])))∧∀i m H,W i m H→
 (J.stop i H∧Q (.ref D) H)∨(J.go i H∧∃Nx:Hp→Prop,(∀H',Nx H'→∃m',m'<m∧W (i+1) m' H')∧∀x H',J.W8 i H x H'→g x (wipe σ vs) H' fun σ2 H2=>wipe σ2 vs=wipe σ vs∧tt σ2 H2 fun b H3=>
  if b=true then te σ2 H3 fun y H4=>∃acc,H4 D=some (.lst acc)∧acc.length<sizeLine∧Nx (upd H4 D (.lst (acc++[y])))else Nx H3)
theorem Mz{pins:List (Addr×Obj)}{s:Shared}{σ:St}{H:Hp}{Q:VK}{elt tg iter:Expr}{ifs:List Expr}{scope:Scope}{own:List (Str×Nat)}{pos pos':Pos}{wi:TI}{g:TG}{tt:TT}{te:TE}{use:Option (Value→Sem Unit)}{Qf:Value→Shared→Prop}
  (hc:X.calm=true) (hN:X.N.Nodup) (I:Inv X pins σ H s) (hi:PI X tg iter wi) (ok:Jg X.N X.env.scope scope own)
  (hg:∀(s:Shared) (H:Hp) (C:Addr) (cl:List (Str×Addr)) (fp:List Addr),PG (X.blk s H scope (compEnvC scope cl C X.env) fp) tg g) (ht:∀(s:Shared) (H:Hp) (C:Addr) (cl:List (Str×Addr)) (fp:List Addr),PTs (X.blk s H scope (compEnvC scope cl C X.env) fp) ifs tt)
  (he:∀(s:Shared) (H:Hp) (C:Addr) (cl:List (Str×Addr)) (fp:List Addr),PE (X.blk s H scope (compEnvC scope cl C X.env) fp) elt te) (hs:∀x,foldedSetIterable iter X.env x=pure x)
  (h:ZC wi g tt te (own.map (·.2)) σ H Q)
  (hRR:∀D C s' m H',Inv X pins σ H' s'→Q (.ref D) H'→s'.heap.Ns C m→eV X pins H' C→compPost (model X.prog X.w) X.A X.xe use Qf (.ref D) C (.ok .next) s'):
  wpAny (model X.prog X.w) X.A (comprehension (.ListComp elt [⟨tg,iter,ifs,0⟩] scope pos) scope X.env pos' (newList []) false (eval iter X.env) use) Qf X.xe s:=by
 have hfree:∀y∈scope.names,y.2= .free→∃c,X.env.cells.lookup y.1=some c:=fun y hy e=>by
  rcases ok.free y hy e with k|k
  ·exact I.ok.has _ (.inl k)
  ·exact I.ok.has _ (.inr k)
 refine wpAny_comprehension_free (use:=use) rfl hs (zR hfree) ok.kind (fun y hy e=>by rw[ok.Xa y hy,e])
  (cW (hi pins s σ H _ I h) fun xv s1 hx=>cW hx fun itv s2 h2=>?_)
 obtain⟨it,fp,tn,J,H2,e,I2,T,st2,f2,q⟩:=h2
 subst e
 refine wpAny_newObj_type (Hy ?_) (by show 0≤sizeLine;decide)
 generalize hD:s2.heap.objs.size=D
 have hDn:H2 D=none:=I2.hok.fresh (Nat.le_of_eq hD)
 obtain⟨W,⟨m0,w0⟩,turn⟩:=q D hDn
 generalize hs3:({s2 with heap:=s2.heap.push {cls:= .type "list",data:= .seq ([]:List Value).toArray}}:Shared)=s3
 have I3:Inv X pins σ (upd H2 D (.lst [])) s3:=by
  rw[←hs3]
  refine I2.laid (t':=s2.toks) (fun b o e=>Heap.get?_push_of_some _ e) (Nat.le_of_eq hD) ⟨Nat.zero_le _,[],0,.nil,?_⟩
  rw[←hD]
  exact Heap.get?_push_size _ rfl
 have h3:s3.heap=s2.heap.push {cls:= .type "list",data:= .seq ([]:List Value).toArray}:=by rw[←hs3]
 have sz:∀b∈fp,b<s2.heap.objs.size:=fun b hb=>by
  obtain⟨o,e,_⟩:=T.obj _ _ st2 b hb
  exact Heap.lt_size e
 have f3:∀b∈fp,eV X pins (upd H2 D (.lst [])) b∧b<s3.heap.objs.size:=fun b hb=>by
  have hlt:=sz b hb
  refine⟨⟨?_,(f2 b hb).2⟩,by rw[h3,Heap.size_push];exact Nat.lt_succ_of_lt hlt⟩
  rw[aF (by rw[←hD];exact Nat.ne_of_lt hlt)]
  exact(f2 b hb).1
 have st3:tn 0 s3.heap:=T.keep _ _ _ st2 fun b _ o e=>by rw[h3];exact Heap.get?_push_of_some _ e
 have I4:=IV I3 ok hN f3
 have pg:=hg s3 (upd H2 D (.lst [])) s3.heap.objs.size (cellsFrom (s3.heap.objs.size+1) scope.names (bN X.env.cells scope.names [])) fp
 have pt:=ht s3 (upd H2 D (.lst [])) s3.heap.objs.size (cellsFrom (s3.heap.objs.size+1) scope.names (bN X.env.cells scope.names [])) fp
 have pe:=he s3 (upd H2 D (.lst [])) s3.heap.objs.size (cellsFrom (s3.heap.objs.size+1) scope.names (bN X.env.cells scope.names [])) fp
 show codeAny _ _ (.compStart (.ListComp elt [⟨tg,iter,ifs,0⟩] scope pos) 0 (.ref it) (.ref D) (compEnvC scope (cellsFrom (s3.heap.objs.size+1) scope.names (bN X.env.cells scope.names [])) s3.heap.objs.size X.env)) (compPost (model X.prog X.w) X.A X.xe use Qf (.ref D) s3.heap.objs.size) {s3 with heap:=pushCells (s3.heap.push {cls:= .type "dict",data:= .dict #[]}) scope.names}
 have nfp:∀b∈fp,(upd H2 D (.lst [])) b=none:=fun b hb=>(f3 b hb).1.1
 generalize hce:compEnvC scope (cellsFrom (s3.heap.objs.size+1) scope.names (bN X.env.cells scope.names [])) s3.heap.objs.size X.env=ce at I4 pg pt pe ⊢
 have cL:ce.locals=s3.heap.objs.size:=by subst hce;rfl
 generalize hH3:upd H2 D (.lst [])=H3 at I3 I4 pg pt pe w0 nfp f3
 generalize hs4:({s3 with heap:=pushCells (s3.heap.push {cls:= .type "dict",data:= .dict #[]}) scope.names}:Shared)=s4 at I4 ⊢
 have st4:tn 0 s4.heap:=T.keep _ _ _ st3 fun b _ o e=>by rw[←hs4];exact pushCells_keeps _ _ _ _ (Heap.get?_push_of_some _ e)
 have stat:∀ {σ':St} {H':Hp} {s':Shared},Inv (X.blk s3 H3 scope ce fp) [] σ' H' s'→(∀b∈fp,H' b=none)→∀b∈fp,eV (X.blk s3 H3 scope ce fp) [] H' b:=fun {σ' H' s'} I' hn b hb=>
  ⟨hn b hb,(I'.ok.exf b hb).1,I'.ok.S9 b hb,.inl hb,fun x c e=>(I'.ok.exf b hb).2 x c e,fun p hp=>absurd (show p∈([]:List (Addr×Obj))++[]from hp) (by simp)⟩
 have loop:codeAny (model X.prog X.w) X.A (.compLoop (.ListComp elt [⟨tg,iter,ifs,0⟩] scope pos) 0 (.ref it) (.ref D) ce) (compPost (model X.prog X.w) X.A X.xe use Qf (.ref D) s3.heap.objs.size) s4:=by
  refine FN (fun n s'=>∃i H',Inv (X.blk s3 H3 scope ce fp) [] (wipe σ (own.map (·.2))) H' s'∧tn i s'.heap∧(∀b∈fp,H' b=none)∧W i n H') ?_ m0 ⟨0,H3,I4,st4,nfp,w0⟩
  rintro n s5 ⟨i,H5,I5,st5,n5,w5⟩
  rcases turn i n H5 w5 with⟨stop,qq⟩| ⟨go,Nx,hNx,step⟩
  ·have td:=T.done (X.blk s3 H3 scope ce fp) rfl rfl rfl hc i [] s5 _ H5 (fun _ _=>False) I5 (stat I5 n5) st5 stop
   refine NZ td fun r s6 ⟨hr,I6⟩=>?_
   subst hr
   have I7:Inv X pins σ H5 s6:=I3.call' (ch:=fp) I6.os I6.base I6.hok I6.bare fun b hb=>⟨(f3 b hb).1.2.2.2.1,(f3 b hb).1.2.1,(f3 b hb).1.2.2.2.2.1,(f3 b hb).1.2.2.2.2.2⟩
   have nC:H5 s3.heap.objs.size=none:=by
    have z:H5 ce.locals=none:=I6.free
    rw[cL]at z
    exact z
   obtain⟨m,hn,_⟩:=I6.loc
   have hn:s6.heap.Ns ce.locals m:=hn
   rw[cL]at hn
   exact hRR D s3.heap.objs.size s6 m H5 I7 qq hn (I3.vf (Nat.le_refl _) nC)
  ·have ti:=T.item (X.blk s3 H3 scope ce fp) rfl rfl rfl hc i [] s5 _ H5 (fun _ _=>False) I5 (stat I5 n5) st5 go
   refine NZ ti fun r s6 ⟨u,hr,h6⟩=>?_
   subst hr
   refine NZ h6 fun _ s7 ⟨x,H7,I7,r7,y7,st7,n7⟩=>?_
   have I7':=I7.pinned (stat I7 n7) (T.obj _ _ st7)
   refine NZ (pg _ s7 _ H7 x u _ I7' r7 (step x H7 y7)) fun _ s8 ⟨σ8,H8,I8,hw8,q8⟩=>?_
   refine NZ (pt _ s8 σ8 H8 _ I8 q8) fun b s9 ⟨H9,I9,q9⟩=>?_
   have fin:∀ {s':Shared} {H':Hp},Inv (X.blk s3 H3 scope ce fp) ([]++yJ fp s7.heap) σ8 H' s'→Nx H'→∃m,m<n∧∃i H',Inv (X.blk s3 H3 scope ce fp) [] (wipe σ (own.map (·.2))) H' s'∧tn i s'.heap∧(∀b∈fp,H' b=none)∧W i m H':=fun {s' H'} I' nx=>by
    obtain⟨m',hm,w'⟩:=hNx H' nx
    have Z0:∀b∈fp,∀o,s7.heap.get? b=some o→s'.heap.get? b=some o∧H' b=none:=fun b hb o e=>
     let z:=I'.pin (b,o) (List.mem_append_right _ (List.mem_append_right _ (sO hb e)))
     ⟨z.1,z.2.1⟩
    have hl:(wipe σ (own.map (·.2))).length=σ8.length:=by rw[←hw8,oH]
    refine⟨m',hm,i+1,H',(I'.fC (pins:=[])).weak hl (fun j v e=>?_),T.keep _ _ _ st7 fun b hb o e=>(Z0 b hb o e).1,fun b hb=>?_,w'⟩
    ·rw[←hw8]at e
     exact(vK e).1
    ·obtain⟨o,e,_⟩:=T.obj _ _ st7 b hb
     exact(Z0 b hb o e).2
   cases b with
   |false=>
    simp only[Bool.false_eq_true,if_false]at q9 ⊢
    exact fin I9 q9
   |true=>
    simp only[if_true]at q9 ⊢
    refine NZ (pe _ s9 σ8 H9 _ I9 q9) fun z s10 ⟨yv,H10,I10,r10,acc,acL,ack,nx⟩=>?_
    exact Y5 (X:=X.blk s3 H3 scope ce fp) I10 acL ack r10 fun s11 I11=>fin I11 nx
 exact codeAny_compStart_list loop (T.self X.A 0 _ _ _ st4 loop)
theorem dO{elt tg iter:Expr}{ifs:List Expr}{scope:Scope}{own:List (Str×Nat)}{pos:Pos}{wi:TI}{g:TG}{tt:TT}{te:TE}(hc:X.calm=true)(hN:X.N.Nodup)(hi:PI X tg iter wi)(ok:Jg X.N X.env.scope scope own)
  (hg:∀(s:Shared) (H:Hp) (C:Addr) (cl:List (Str×Addr)) (fp:List Addr),PG (X.blk s H scope (compEnvC scope cl C X.env) fp) tg g) (ht:∀(s:Shared) (H:Hp) (C:Addr) (cl:List (Str×Addr)) (fp:List Addr),PTs (X.blk s H scope (compEnvC scope cl C X.env) fp) ifs tt)
  (he:∀(s:Shared) (H:Hp) (C:Addr) (cl:List (Str×Addr)) (fp:List Addr),PE (X.blk s H scope (compEnvC scope cl C X.env) fp) elt te) (hs:∀x,foldedSetIterable iter X.env x=pure x:=by intro _;rfl):
  PE X (.ListComp elt [⟨tg,iter,ifs,0⟩] scope pos) (ZC wi g tt te (own.map (·.2))):=by
 intro pins s σ H Q I h
 rw[eval_ListComp]
 refine Mz hc hN I hi ok hg ht he hs h fun D C s' m H' I' q hn f=>⟨m,hn,fun h'' sb=>?_⟩
 obtain⟨f0,f1,f2,f3,f4,f5⟩:=f
 exact⟨.ref D,H',I'.turned (t':=s'.toks) (fun b o hb e=>(sb.2 b hb).trans e) f0 f1 f3 f4 f5,rfl,q⟩
theorem gm{i:Nat}{y:Str}{py:Pos}{elt tg iter:Expr}{ifs:List Expr}{scope:Scope}{own:List (Str×Nat)}{pos spos:Pos}{wi:TI}{g:TG}{tt:TT}{te:TE}(hc:X.calm=true)(hN:X.N.Nodup)(hy:X.N[i]? =some y)(hyl:X.env.scope.names.lookup y=some .local)
  (hsw:swapsWith (.ListComp elt [⟨tg,iter,ifs,0⟩] scope pos) (some (.Name y py)) spos.line X.env=pure true) (hi:PI X tg iter wi) (ok:Jg X.N X.env.scope scope own)
  (hg:∀(s:Shared) (H:Hp) (C:Addr) (cl:List (Str×Addr)) (fp:List Addr),PG (X.blk s H scope (compEnvC scope cl C X.env) fp) tg g) (ht:∀(s:Shared) (H:Hp) (C:Addr) (cl:List (Str×Addr)) (fp:List Addr),PTs (X.blk s H scope (compEnvC scope cl C X.env) fp) ifs tt)
  (he:∀(s:Shared) (H:Hp) (C:Addr) (cl:List (Str×Addr)) (fp:List Addr),PE (X.blk s H scope (compEnvC scope cl C X.env) fp) elt te) (hs:∀x,foldedSetIterable iter X.env x=pure x:=by intro _;rfl):
  PS X (.Assign [.Name y py] (.ListComp elt [⟨tg,iter,ifs,0⟩] scope pos) spos) (QH (ZC wi g tt te (own.map (·.2))) (Ck i)):=by
 intro pins s σ H D I h
 rw[exec_Assign_Name_used _ _ _ _ hsw]
 refine wpAny_bind (wpAny_standAt (wpAny_bind ?_))
 show wpAny _ X.A (do let _ ←comprehension (.ListComp elt [⟨tg,iter,ifs,0⟩] scope pos) scope X.env (firstIterPos [⟨tg,iter,ifs,0⟩] pos) (newList []) false (eval iter X.env) (some (assign (.Name y py) X.env))) _ _ s
 have h:ZC wi g tt te (own.map (·.2)) σ H (fun x H1=>Ck i x σ H1 D.nx):=h
 refine wpAny_bind (cW (Mz (Qf:=fun _ s'=>SP X pins D .next s') hc hN I hi ok hg ht he hs h fun L C s' m H' I' q hn f=>?_) fun _ s' hq=>wpAny_pure (wpAny_pure hq))
 show wpAny _ _ (assign (.Name y py) X.env (.ref L)) _ _ _
 refine wpAny_assign_Name (BJ (v:=V.ref L) I' hN hy (.inl hyl) rfl (fun s2 I2 ⟨a,sb,ha⟩=>?_) (.inr hyl))
 obtain⟨f0,f1,f2,f3,f4,f5⟩:=f
 have haC:C≠a:=by
  rcases ha with z|z
  ·rw[z];exact f1
  ·exact fun e=>f4 y a z e.symm
 refine⟨m,hn.sameBut sb haC,fun h3 sb3=>?_⟩
 exact⟨_,H',I2.turned (t':=s2.toks) (fun b o hb e=>(sb3.2 b hb).trans e) f0 f1 f3 f4 f5,q⟩
end
def aaS(N:List Str)(sc scope:Scope)(own:List (Str×Nat)):Bool:=
 (match scope.kind with| .function=>true|_=>false)&&(scope.names.all fun y=>decide (scope.names.lookup y.1=some y.2))&&(own.all fun p=>decide (N[p.2]? =some p.1))&&
  (scope.names.all fun y=>match y.2 with
   | .free=>(match sc.names.lookup y.1 with|some .cell=>true|some .free=>true|_=>false)
   | .local=>decide (y.1∈own.map (·.1))||decide (y.1∉N)
   | .cell=>decide (y.1∈own.map (·.1))||decide (y.1∉N)
   |_=>true)
theorem bh{N:List Str}{sc scope:Scope}{own:List (Str×Nat)}(h:aaS N sc scope own=true):Jg N sc scope own:=by
 unfold aaS at h
 simp only[Bool.and_eq_true,List.all_eq_true,decide_eq_true_eq]at h
 obtain⟨⟨⟨h1,h2⟩,h3⟩,h4⟩:=h
 refine⟨?_,h2,h3,fun y hy e=>?_,fun y hy e=>?_⟩
 ·split at h1
  ·assumption
  ·cases h1
 ·have q:=h4 y hy
  simp only[e]at q
  split at q<;>first|exact .inl (by assumption)|exact .inr (by assumption)|cases q
 ·have q:=h4 y hy
  rcases e with e|e<;>(simp only[e,Bool.or_eq_true,decide_eq_true_eq]at q;exact q)
structure M1(X:Cx)(o:Expr)(m:Str)(apos:Pos)(e:Expr)(cpos:Pos):Prop where
 base:attributeBase o m X.env (eval o X.env)=eval o X.env
 few:((backTo cpos (starEach [e] X.env)).all (fun x=> !x.1)&&(backToKw cpos (keywordEach [] X.env)).all (fun x=>x.1.isSome)
  &&decide (([e]:List Expr).length+([]:List Keyword).length+(if ([]:List Keyword).isEmpty then 0 else 1)<30))=true
 line:(apos.endLine==cpos.line)=true
 trees:backTo cpos (starEach [e] X.env)=[(false,eval e X.env)]
structure M2(X:Cx)(o:Expr)(m:Str)(apos:Pos)(e f:Expr)(cpos:Pos):Prop where
 base:attributeBase o m X.env (eval o X.env)=eval o X.env
 few:((backTo cpos (starEach [e,f] X.env)).all (fun x=> !x.1)&&(backToKw cpos (keywordEach [] X.env)).all (fun x=>x.1.isSome)
  &&decide (([e,f]:List Expr).length+([]:List Keyword).length+(if ([]:List Keyword).isEmpty then 0 else 1)<30))=true
 line:(apos.endLine==cpos.line)=true
 trees:backTo cpos (starEach [e,f] X.env)=[(false,eval e X.env),(false,eval f X.env)]
theorem zV:bootBuiltins "reversed"=some (.type "reversed"):=by decide+kernel
section
variable{X:Cx}{pins:List (Addr×Obj)}{σ:St}{H:Hp}{s:Shared}{h':Heap}
theorem Inv.T9{t':Nat}{ch:List Addr}(I:Inv X pins σ H s)(k:∀b o,b∉ch→s.heap.get? b=some o→h'.get? b=some o)(hf:∀b∈ch,eV X pins H b):Inv X pins σ H {s with heap:=h',toks:=t'}:=by
 have WD:∀b u,H b=some u→b∉ch:=fun b u e z=>by
  have q:=(hf b z).1
  rw[q]at e;cases e
 refine I.step (g':=s.gens) (d':=s.drawn) (ch:=ch) (fun b hb=>⟨(hf b hb).2.2.2.1,(hf b hb).2.1,(hf b hb).2.2.2.2.1,(hf b hb).2.2.2.2.2⟩) (fun b o _ _ hc e _=>k b o hc e) (fun b o _ _ hc e _=>⟨o.slots,k b o hc e⟩)
  (fun _ _ _ _ n=>n) (fun b o hc e=>⟨o,k b o hc e⟩) (fun _ _ e=>e) (fun _ _ _ e=>e) (fun b ps e=>⟨#[],by rw[e];simp⟩) (fun m hm=>?_) (fun b u e=>?_) I.bare
 ·obtain⟨o,es,ep,ho,r⟩:=hm
  exact⟨o,es,ep,k _ o (fun z=>(hf _ z).2.1 rfl) ho,r⟩
 ·refine(I.hok b u e).stay (fun c v hc q=>k c v ?_ q) (fun _ q=>q) fun _ _ q=>q
  rcases hc with z|z
  ·rw[z];exact WD b u e
  ·exact WD c _ z
theorem Inv.Nt{t':Nat}{ch:List Addr}{T:Addr}{ob:HO}(I:Inv X pins σ H s)(k:∀b o,b∉ch→s.heap.get? b=some o→h'.get? b=some o)(hf:∀b∈ch,eV X pins H b)(hT:s.heap.objs.size≤T)
  (new:iR X.prog X.w (upd H T ob) h' T ob):Inv X pins σ (upd H T ob) {s with heap:=h',toks:=t'}:=by
 have hn:H T=none:=I.hok.fresh hT
 have WD:∀b u,H b=some u→b∉ch:=fun b u e z=>by
  have q:=(hf b z).1
  rw[q]at e;cases e
 refine I.step (g':=s.gens) (d':=s.drawn) (ch:=ch) (fun b hb=>⟨(hf b hb).2.2.2.1,(hf b hb).2.1,(hf b hb).2.2.2.2.1,(hf b hb).2.2.2.2.2⟩) (fun b o _ _ hc e _=>k b o hc e) (fun b o _ _ hc e _=>⟨o.slots,k b o hc e⟩)
  (fun b o _ e n=>?_) (fun b o hc e=>⟨o,k b o hc e⟩) (fun b xs e=>?_) (fun b o u e=>?_) (fun b ps e=>⟨#[],?_⟩) (fun m hm=>?_) (fun b u e=>?_) I.bare
 ·rw[aF (Nat.ne_of_lt (Nat.lt_of_lt_of_le (Heap.lt_size e) hT))];exact n
 ·rw[aF (aP e hn)];exact e
 ·rw[aF (aP e hn)];exact e
 ·rw[aF (aP e hn),e];simp
 ·obtain⟨o,es,ep,ho,r⟩:=hm
  exact⟨o,es,ep,k _ o (fun z=>(hf _ z).2.1 rfl) ho,r⟩
 ·by_cases hb:b=T
  ·subst hb
   rw[ao]at e
   cases e
   exact new
  ·rw[aF hb]at e
   refine(I.hok b u e).stay (fun c v hc q=>k c v ?_ q) (fun c q=>by rw[aF (aP q hn)];exact q) fun c xs q=>by rw[aF (aP q hn)];exact q
   rcases hc with z|z
   ·rw[z];exact WD b u e
   ·exact WD c _ z
theorem Inv.lock{d:Addr}{u:HO}(I:Inv X pins σ H s)(h:H d=some u)(mu:Y9 (some u)):∃od,Inv X pins σ (upd H d (.rF od u)) s:=by
 have x:=I.hok d u h
 have ex:∃od,s.heap.get? d=some od:=by
  cases u with
  |lst xs=>obtain⟨_,_,_,_,e⟩:=x;exact⟨_,e⟩
  |dK kvs=>obtain⟨_,_,_,_,o,_,_,e,_⟩:=x;exact⟨o,e⟩
  |dT kvs=>obtain⟨_,_,_,_,o,_,_,e,_⟩:=x;exact⟨o,e⟩
  |set S n=>obtain⟨o,_,_,_,e,_⟩:=x;exact⟨o,e⟩
  |ins C dx fs=>obtain⟨_,_,_,e,_⟩:=x;exact⟨_,e⟩
  |ext φ=>obtain⟨_,⟨_,e⟩,_⟩:=x;exact⟨_,e⟩
  |_=>exact False.elim mu
 obtain⟨od,e⟩:=ex
 have new:iR X.prog X.w (upd H d (.rF od u)) s.heap d (.rF od u):=by
  refine⟨e,x.stay (fun b v _ q=>q) (fun b q=>?_) fun b xs q=>?_⟩
  ·rw[aF (fun z=>by rw[z,h]at q;cases q;exact mu)];exact q
  ·rw[aF (fun z=>by rw[z,h]at q;cases q;exact mu)];exact q
 exact⟨od,I.write (x:=d) (e:=d) (t':=s.toks) (h':=s.heap) (by rw[h];exact mu) (.inl rfl) (fun b v _ q=>q) ⟨od,e⟩ new⟩
theorem Inv.Z_{d:Addr}{u:HO}(I:Inv X pins σ H s)(h:H d=some u)(mu:Y9 (some u)):∀o' u',X.W3 d≠some (.rF o' u'):=fun o' u' e=>by
 have q:=I.base.zq d o' u' e
 rw[h]at q
 cases q
 exact mu
theorem Inv.unlock{d:Addr}{od:Obj}{u:HO}(I:Inv X pins σ H s)(h:H d=some (.rF od u))(hn:∀o' u',X.W3 d≠some (.rF o' u')):Inv X pins σ (upd H d u) s:=by
 have Zf:∀b o,H b=some o→(∀o' u',o≠ .rF o' u')→b≠d:=fun b o e hne z=>by
  rw[z,h]at e
  cases e
  exact hne _ _ rfl
 have neN:∀b,H b=none→b≠d:=fun b e z=>by rw[z,h]at e;cases e
 refine⟨I.ok,I.os,I.bare,⟨I.base.keep,I.base.slot,fun b o e n hx=>?_,I.base.there,fun b xs e=>?_,fun b o x e=>?_,fun b ps e=>?_⟩,I.loc,I.cell,?_,fun x c e=>?_,fun p hp=>?_,fun b o e=>?_,I.len⟩
 ·rw[aF (neN b (I.base.free b o e n hx))];exact I.base.free b o e n hx
 ·have q:=I.base.tups b xs e
  rw[aF (Zf b _ q (fun _ _ z=>nomatch z))];exact q
 ·have q:=I.base.zq b o x e
  rw[aF (fun z=>by rw[z]at e;exact hn _ _ e)];exact q
 ·obtain⟨m,q⟩:=I.base.Ag b ps e
  exact⟨m,by rw[aF (Zf b _ q (fun _ _ z=>nomatch z))];exact q⟩
 ·rw[aF (neN _ I.free)];exact I.free
 ·rw[aF (neN c (I.kZ x c e))];exact I.kZ x c e
 ·obtain⟨e,n,r⟩:=I.pin p hp
  exact⟨e,by rw[aF (neN _ n)];exact n,r⟩
 ·by_cases hb:b=d
  ·rw[hb,ao]at e
   cases e
   rw[hb]
   obtain⟨_,x⟩:=I.hok d _ h
   exact x.stay (fun c v _ q=>q) (fun c q=>by rw[aF (Zf c _ q (fun _ _ z=>nomatch z))];exact q) fun c xs q=>by rw[aF (Zf c _ q (fun _ _ z=>nomatch z))];exact q
  ·rw[aF hb]at e
   exact(I.hok b o e).stay (fun c v _ q=>q) (fun c q=>by rw[aF (Zf c _ q (fun _ _ z=>nomatch z))];exact q) fun c xs q=>by rw[aF (Zf c _ q (fun _ _ z=>nomatch z))];exact q
end
def Xp(t:TE):TE:=fun σ H Q=>∃d u,H d=some u∧Y9 (some u)∧∀od,t σ (upd H d (.rF od u)) fun v H'=>H' d=some (.rF od u)∧Q v (upd H' d u)
section
variable{X:Cx}
theorem U7{e:Expr}{t:TE}(h:PE X e t):PE X e (Xp t):=by
 intro pins s σ H Q I hw
 obtain⟨d,u,hd,mu,hw⟩:=hw
 obtain⟨od,I1⟩:=I.lock hd mu
 refine cW (h pins s σ _ _ I1 (hw od)) fun v s1 ⟨x,H1,I2,r,e2,q⟩=>?_
 exact⟨x,_,I2.unlock e2 (I.Z_ hd mu),r,q⟩
theorem XH{tg:Expr}{pins:List (Addr×Obj)}{σ:St}{H:Hp}{s:Shared}{R:It→Hp→Prop}{J:It}{tn:Nat→Heap→Prop}{tk:Nat}(I:Inv X pins σ H s)(o:Obj)
  (T:Turn X.prog X.w X.K tg J [s.heap.objs.size] s.heap.objs.size tn) (st:tn 0 (s.heap.push o)) (q:R J H):PIE X pins σ tg R (.ref s.heap.objs.size) {s with heap:=s.heap.push o,toks:=tk}:=by
 refine⟨s.heap.objs.size,[s.heap.objs.size],tn,J,H,rfl,I.kept fun b ob e=>Heap.get?_push_of_some _ e,T,st,fun b hb=>?_,q⟩
 have e:b=s.heap.objs.size:=by simpa using hb
 subst e
 exact I.vf (Nat.le_refl _) (I.hok.fresh (Nat.le_refl _))
end
def Itv(K:PySem.W.Frag)(a:Addr)(n:Nat):It:=
 ⟨fun i H=>i<n∧∃(xs:List V) (x:V),bC K H a xs∧xs[n - 1 - i]? =some x,fun i H x H'=>H'=H∧∀xs,bC K H a xs→xs[n - 1 - i]? =some x,fun i _=>n≤i⟩
theorem Qm{P:Program}{w:World}{K:PySem.W.Frag}{tg:Expr}(a it:Addr)(n:Nat):Turn P w K tg (Itv K a n) [it] it (fun i h=>i≤n∧h.IsRevIter it a ((n:Int) - 1 - (i:Nat))) where
 mem:=by simp
 obj:=fun i h st b hb=>by
  have e:b=it:=by simpa using hb
  subst e
  obtain⟨_,o,e,c,d⟩:=st
  exact⟨o,e,fun v z=>by rw[d]at z;cases z⟩
 keep:=fun i h h' st k=>⟨st.1,st.2.at fun o e=>k it (by simp) o e⟩
 item:=by
  intro X hP hw hK hc i pins s σ H E I hf st hg
  subst hP hw hK
  obtain⟨hin,xs,x,hq,hx⟩:=hg
  obtain⟨its,rv,p,hz⟩:=I.list hq
  obtain⟨u,hu,ru⟩:=rv.get hx
  obtain⟨f0,f1,f2,f3,f4,f5⟩:=hf it (by simp)
  obtain⟨_,hit⟩:=st
  have e1:(n:Int) - 1 - ((i:Nat):Int)=((n - 1 - i:Nat):Int):=by omega
  rw[e1]at hit
  refine wpAny_pyNext_rev_item hit p.isList (x:=u) (by simpa using hu) fun h' st' sb=>?_
  have e2:((n - 1 - i:Nat):Int) - 1=(n:Int) - 1 - ((i+1:Nat):Int):=by omega
  rw[e2]at st'
  have I1:Inv X pins σ H {s with heap:=h'}:=I.turned (t':=s.toks) (fun b o hb e=>(sb.2 b hb).trans e) f0 f1 f3 f4 f5
  obtain⟨o,e,c,d⟩:=id st'
  exact⟨u,rfl,M9 (s:={s with heap:=h'}) e c d (by decide) ⟨x,H,I1,ru,⟨rfl,fun ys hy=>by rw[I.o9 hy hq];exact hx⟩,⟨hin,st'⟩,fun b hb=>(hf b hb).1⟩⟩
 done:=by
  intro X hP hw hK hc i pins s σ H E I hf st hg
  subst hP hw hK
  obtain⟨f0,f1,f2,f3,f4,f5⟩:=hf it (by simp)
  obtain⟨hin,hit⟩:=st
  have hge:n≤i:=hg
  have e1:(n:Int) - 1 - ((i:Nat):Int)= -1:=by omega
  rw[e1]at hit
  exact wpAny_pyNext_rev_end (I.ok.hd hc) hit fun h' eb=>⟨rfl,I.turned (t':=s.toks) (fun b o hb e=>eb b o hb e) f0 f1 f3 f4 f5⟩
 self:=fun A i s Q E st h=>wpAny_pyIter_revIter st.2 h
def Vy(K:PySem.W.Frag)(ta:TA):TI:=fun σ H R=>ta σ H fun vs H1=>∃(a:Addr) (xs:List V),vs=[.ref a]∧bC K H1 a xs∧R (Itv K a xs.length) H1
section
variable{X:Cx}{tg:Expr}
theorem Hj{e:Expr}{ta:TA}{p pos:Pos}(hg:Gl X "reversed")(hm:X.mg "reversed"=none)(ha:PA X [e] ta)(hs:starEach [e] X.env=[(false,eval e X.env)]:=by rfl):PI X tg (.Call (.Name "reversed" p) [e] [] pos) (Vy X.K ta):=by
 intro pins s σ H R I h
 refine Call_ (kY I hg hm zV (PyProof.Rows.callWith_type1 (cW (ha pos pins s σ H _ I h) fun us s1 ⟨vs,H1,I1,r1,q1⟩=>?_) hs rfl))
 obtain⟨a,xs,e,hq,q⟩:=q1
 subst e
 cases r1 with
 |cons r rr=>
  cases rr
  cases r
  obtain⟨its,rv,p',hz⟩:=I1.list hq
  have hl:=rv.length
  have e1:((its.toArray.size:Nat):Int) - 1=(xs.length:Int) - 1 - ((0:Nat):Int):=by simp only[List.size_toArray];omega
  refine call_reversed_list p'.isList (wpAny_pyIter_revIter (l:=a) (i:=((its.toArray.size:Nat):Int) - 1) ⟨_,Heap.get?_push_size _ rfl,rfl,rfl⟩ ?_)
  refine XH (tk:=s1.toks) I1 _ (Qm a _ xs.length) ⟨Nat.zero_le _,?_⟩ q
  rw[←e1]
  exact⟨_,Heap.get?_push_size _ rfl,rfl,rfl⟩
end
theorem CG:bootBuiltins "zip"=some (.type "zip"):=by decide+kernel
end L2
section
namespace adg
open PySem PyProof.Rows
end adg
end
section
namespace TL
open PySem PySem.Builtin PySem.Builtin.Str PySem.StrLaws
end TL
end
namespace L2
open PySem PySem.Spec PyProof.Rows
def inClass(s:Stmt)(j:Nat):Stmt:=match s with
 | .ClassDef _ _ _ body _ _ _ _ _ _ _=>body.getD j (.Pass ⟨0,0,0,0⟩)
 |_=> .Pass ⟨0,0,0,0⟩
def jd(s:Stmt):Arguments:=match s with
 | .FunctionDef _ a _ _ _ _ _ _ _ _=>a
 |_=>{posonlyargs:=[],args:=[],vararg:=none,kwonlyargs:=[],kw_defaults:=[],kwarg:=none,defaults:=[]}
def eE(s:Stmt):List Stmt:=match s with
 | .FunctionDef _ _ b _ _ _ _ _ _ _=>b
 |_=>[]
def au(s:Stmt):Scope:=match s with
 | .FunctionDef _ _ _ _ _ _ sc _ _ _=>sc
 |_=>{kind:= .function,names:=[],isGenerator:=false,isCoroutine:=false}
abbrev TQ:W5:=fun _ _ _ _ _ _=>False
abbrev E0:XK:=fun _ _ _=>False
theorem Mm{X:Cx}:tW TQ X E0:=fun _ _ _ _ _ _ _ h=>h.elim
structure Za(K:PySem.W.Frag)(x qual:Str)(st:Stmt)(f:Addr)(fd:FuncData):Prop where
 ex:∃(oc:Value) (od:Option Addr) (kV doc pm:Value) (an:Option Addr) (cdv ct:Value) (osl:Array (Option Value)),
  fd=PySem.W.fnOf x qual (jd st) (eE st) (au st) .none kV doc pm an cdv ct∧K.lookup f=some ⟨oc,od,.func fd,osl⟩∧PySem.W.codeIn K cdv qual=true
 kp:PySem.W.keepIn K (.ref f)=true
section
variable{P:Program}{w:World}{K:PySem.W.Frag}{mg:Str→Option Value}{base:Heap}
theorem Za.ok{x qual:Str}{st:Stmt}{f:Addr}{fd:FuncData}{N ps:List Str}{k:Nat}{sp:Sp}(F:Za K x qual st f fd)(S:aJ N ps (au st))(len:∀vs H Q E,sp vs H Q E→vs.length=ps.length)
  (hbody:∀(cdv:Value) (A:Around) (outer:List Env) (s:Shared) (H:Hp) (vs:List V) (Q:VK) (E:XK),eQ k (A.deeper (envOfC qual (au st) s.heap.objs.size f cdv))→sp vs H Q E→
   ∃t,Jc (KQ TQ P w K mg base N qual (au st) f cdv A outer s H E).X_ (eE st) t∧t {nx:=fun _ H'=>Q .non H',rt:=Q} (start N vs) H):tX P w K mg base TQ (k+1) f fd ps sp:=by
 obtain⟨oc,od,kV,doc,pm,an,cdv,ct,osl,rfl,lk,hcd⟩:=F.ex
 refine SM lk hcd S len fun A outer s H vs Q E hr hsp=>?_
 obtain⟨t,h,q⟩:=hbody cdv A outer s H vs Q E hr hsp
 exact⟨t,h.X_,q⟩
theorem Za.binds{x qual:Str}{st:Stmt}{f:Addr}{fd:FuncData}{ps:List Str}(F:Za K x qual st f fd)
  (h:∀(kV doc pm:Value) (an:Option Addr) (cdv ct:Value) (us:List Value),us.length=ps.length→bindArgs (PySem.W.fnOf x qual (jd st) (eE st) (au st) .none kV doc pm an cdv ct) ⟨us,[]⟩=pure (ps.zip us)):Binds K fd ps []:=by
 obtain⟨oc,od,kV,doc,pm,an,cdv,ct,osl,rfl,lk,hcd⟩:=F.ex
 exact .all (h kV doc pm an cdv ct)
theorem v_{x qual:Str}{st:Stmt}{f:Addr}{oc:Value}{od an:Option Addr}{osl:Array (Option Value)}{kV doc pm cdv ct:Value}(l:K.lookup f=some ⟨oc,od,.func (PySem.W.fnOf x qual (jd st) (eE st) (au st) .none kV doc pm an cdv ct),osl⟩)
  (c:PySem.W.codeIn K cdv qual=true) (k:PySem.W.keepIn K (.ref f)=true):Za K x qual st f (PySem.W.fnOf x qual (jd st) (eE st) (au st) .none kV doc pm an cdv ct):=⟨⟨oc,od,kV,doc,pm,an,cdv,ct,osl,rfl,l,c⟩,k⟩
end
theorem WQ{A:Around}{k:Nat}(hr:eQ k A):A.units+1<cLine:=Nat.lt_of_le_of_lt (Nat.add_le_add_left (by decide:1≤64) _) hr.units
section
variable{X:Cx}
theorem pv(i:Nat){x:Str}{pos:Pos}(hN:X.N[i]? =some x:=by rfl)(hv:Y6 X.env.scope x:=by first|exact Or.inl rfl|exact Or.inr (Or.inl rfl)|exact Or.inr (Or.inr rfl))(hd:(x==("__debug__":Str))=false:=by decide)
  (hcd:(x==("__classdict__":Str))=false:=by decide):PE X (.Name x pos) (ug i):=XM hN hv hd hcd
end
theorem bu{A B:Prop}(h:B):if false=true then A else B:=by
 rw[if_neg Bool.false_ne_true]
 exact h
theorem aQ{A B:Prop}(h:A):if true=true then A else B:=by
 rw[if_pos rfl]
 exact h
theorem vZ{c A B:Prop}[Decidable c](h1:c→A)(h2:¬c→B):if c then A else B:=by
 by_cases h:c
 ·rw[if_pos h]
  exact h1 h
 ·rw[if_neg h]
  exact h2 h
def tU(H H':Hp):Prop:=∀b o,H b=some o→H' b=some o
theorem tU.refl(H:Hp):tU H H:=fun _ _ h=>h
theorem tU.trans{H H1 H2:Hp}(a:tU H H1)(b:tU H1 H2):tU H H2:=fun c o h=>b c o (a c o h)
theorem tU.free{H H':Hp}(e:tU H H'){l:Addr}(h:H' l=Option.none):H l=Option.none:=by
 cases q:H l with
 |none=>rfl
 |some o=>
  rw[e l o q]at h
  cases h
theorem at_of{xs:List V}{z:Int}{j:Nat}{v:V}(e:z=(j:Int))(h:xs[j]? =some v):Y4 xs z=some v:=by
 rw[e]
 exact qw h
end L2
namespace PR
open Vbedaf
def le:Option Int→Option Int→Prop
 |_,none=>True
 |none,some _=>False
 |some x,some y=>x≤y
theorem le_refl:∀a,le a a
 |none=>trivial
 |some x=>Int.le_refl x
theorem le_none(a:Option Int):le a none:=by cases a<;>trivial
theorem le_trans{a b c:Option Int}(h:le a b)(k:le b c):le a c:=by
 cases c with
 |none=>exact le_none a
 |some z=>cases b with
  |none=>exact k.elim
  |some y=>cases a with
   |none=>exact h.elim
   |some x=>exact Int.le_trans h k
theorem le_antisymm{a b:Option Int}(h:le a b)(k:le b a):a=b:=by
 cases a with
 |none=>cases b with
  |none=>rfl
  |some y=>exact h.elim
 |some x=>cases b with
  |none=>exact k.elim
  |some y=>exact congrArg some (Int.le_antisymm h k)
theorem fH(a b:Option Int):le (lesser a b) a:=by
 cases a with
 |none=>exact le_none _
 |some x=>cases b with
  |none=>exact Int.le_refl x
  |some y=>
   show le (if y<x then some y else some x) (some x)
   split
   ·exact Int.le_of_lt (by assumption)
   ·exact Int.le_refl x
theorem eO(a b:Option Int):le (lesser a b) b:=by
 cases b with
 |none=>exact le_none _
 |some y=>cases a with
  |none=>exact Int.le_refl y
  |some x=>
   show le (if y<x then some y else some x) (some y)
   split
   ·exact Int.le_refl y
   ·exact Int.not_lt.mp (by assumption)
theorem fV{a b c:Option Int}(h:le c a)(k:le c b):le c (lesser a b):=by
 cases a with
 |none=>exact k
 |some x=>cases b with
  |none=>exact h
  |some y=>
   show le c (if y<x then some y else some x)
   split
   ·exact k
   ·exact h
theorem jP(a b:Option Int):lesser a b=a∨lesser a b=b:=by
 cases a with
 |none=>exact .inr rfl
 |some x=>cases b with
  |none=>exact .inl rfl
  |some y=>
   show(if y<x then some y else some x)=some x∨(if y<x then some y else some x)=some y
   split
   ·exact .inr rfl
   ·exact .inl rfl
theorem bR{a b c d:Option Int}(h:le a c)(k:le b d):le (sum2 a b) (sum2 c d):=by
 cases c with
 |none=>exact le_none _
 |some z=>cases d with
  |none=>exact le_none _
  |some w=>cases a with
   |none=>exact h.elim
   |some x=>cases b with
    |none=>exact k.elim
    |some y=>exact Int.add_le_add h k
theorem bF(a b c:Option Int):sum2 (sum2 a b) c=sum2 a (sum2 b c):=by
 cases a<;>cases b<;>cases c<;>simp [sum2,Int.add_assoc]
theorem Bx(a b:Option Int):sum2 a b=sum2 b a:=by
 cases a<;>cases b<;>simp [sum2,Int.add_comm]
theorem vJ(a:Option Int):sum2 (some 0) a=a:=by cases a<;>simp [sum2]
theorem pX(a:Option Int):sum2 a (some 0)=a:=by cases a<;>simp [sum2]
abbrev nn(a:Option Int):Prop:=le (some 0) a
theorem fQ{a b:Option Int}(h:nn a)(k:nn b):nn (sum2 a b):=le_trans (by simp [sum2,le]) (bR h k)
theorem Bf{a b:Option Int}(k:nn b):le a (sum2 a b):=by
 have:=bR (le_refl a) k
 rwa[pX]at this
theorem iD{a b:Option Int}(k:nn b):le a (sum2 b a):=by rw[Bx];exact Bf k
abbrev T:=Nat→Nat→Option Int
def thr(k:Nat)(d:T):T:=fun i j=>lesser (d i j) (sum2 (d i k) (d k j))
def lA:Nat→T→T
 |0,d=>d
 |n+1,d=>thr n (lA n d)
def tri(n:Nat)(d:T):Prop:=∀i j k,k<n→le (d i j) (sum2 (d i k) (d k j))
structure Good(d:T):Prop where
 nn:∀i j,nn (d i j)
 diag:∀i,d i i=some 0
theorem yr(k:Nat)(d:T)(i j:Nat):le (thr k d i j) (d i j):=fH _ _
theorem Dh(n:Nat)(d:T)(i j:Nat):le (lA n d i j) (d i j):=by
 induction n with
 |zero=>exact le_refl _
 |succ n ih=>exact le_trans (yr n _ i j) ih
theorem Qx{k:Nat}{d:T}(g:Good d):Good (thr k d) where
 nn i j:=fV (g.nn i j) (fQ (g.nn i k) (g.nn k j))
 diag i:=by
  refine le_antisymm (by rw[←g.diag i];exact yr k d i i) ?_
  exact fV (g.nn i i) (fQ (g.nn i k) (g.nn k i))
theorem vM{n:Nat}{d:T}(g:Good d):Good (lA n d):=by
 induction n with
 |zero=>exact g
 |succ n ih=>exact Qx ih
theorem Ui{k:Nat}{d:T}(g:Good d)(i:Nat):thr k d i k=d i k:=by
 refine le_antisymm (yr _ _ _ _) (fV (le_refl _) ?_)
 rw[g.diag,pX];exact le_refl _
theorem Uj{k:Nat}{d:T}(g:Good d)(j:Nat):thr k d k j=d k j:=by
 refine le_antisymm (yr _ _ _ _) (fV (le_refl _) ?_)
 rw[g.diag,vJ];exact le_refl _
theorem Uh{n:Nat}{d:T}(g:Good d)(t:tri n d):tri (n+1) (thr n d):=by
 intro i j k hk
 by_cases e:k=n
 ·subst e
  rw[Ui g,Uj g]
  exact eO _ _
 ·have hk':k<n:=by omega
  have big:le (thr n d i j) (sum2 (d i n) (d n j)):=eO _ _
  rcases jP (d i k) (sum2 (d i n) (d n k))with e1|e1<;>rcases jP (d k j) (sum2 (d k n) (d n j))with e2|e2
  ·show le _ (sum2 (lesser _ _) (lesser _ _))
   rw[e1,e2];exact le_trans (yr _ _ _ _) (t i j k hk')
  ·show le _ (sum2 (lesser _ _) (lesser _ _))
   rw[e1,e2,←bF]
   exact le_trans big (bR (t i n k hk') (le_refl _))
  ·show le _ (sum2 (lesser _ _) (lesser _ _))
   rw[e1,e2,bF]
   exact le_trans big (bR (le_refl _) (t n j k hk'))
  ·show le _ (sum2 (lesser _ _) (lesser _ _))
   rw[e1,e2,bF,←bF (d n k)]
   exact le_trans big (bR (le_refl _) (iD (fQ (g.nn _ _) (g.nn _ _))))
theorem yq{n:Nat}{d:T}(g:Good d):tri n (lA n d):=by
 induction n with
 |zero=>intro i j k hk;omega
 |succ n ih=>exact Uh (vM g) ih
theorem qM{n:Nat}{d m:T}(h:∀i j,le (m i j) (d i j))(t:tri n m):∀i j,le (m i j) (lA n d i j):=by
 suffices ∀k,k≤n→∀i j,le (m i j) (lA k d i j)from this n (Nat.le_refl n)
 intro k
 induction k with
 |zero=>intro _;exact h
 |succ k ih=>
  intro hk i j
  have ih':=ih (by omega)
  exact fV (ih' i j) (le_trans (t i j k (by omega)) (bR (ih' i k) (ih' k j)))
theorem Qw{n:Nat}{d:T}(h:∀i j,d i j=d j i)(i j:Nat):lA n d i j=lA n d j i:=by
 induction n generalizing i j with
 |zero=>exact h i j
 |succ n ih=>
  show lesser _ _=lesser _ _
  rw[ih i j,ih i n,ih n j,Bx]
def edge(a b:Nat)(l:Int)(d:T):T:=fun i j=>if (a=i∧b=j)∨(a=j∧b=i)then lesser (d i j) (some l)else d i j
def wr(a b:Nat)(l:Int)(d:T):T:=fun i j=>lesser (lesser (d i j) (sum2 (sum2 (d i a) (some l)) (d b j))) (sum2 (sum2 (d i b) (some l)) (d a j))
theorem V5{a b:Nat}{l:Int}{d:T}(i j:Nat):le (edge a b l d i j) (d i j):=by
 unfold edge;split
 ·exact fH _ _
 ·exact le_refl _
theorem Cu{a b:Nat}{l:Int}{d:T}(hab:a≠b)(hl:0≤l)(g:Good d):Good (edge a b l d) where
 nn i j:=by
  unfold edge;split
  ·exact fV (g.nn i j) hl
  ·exact g.nn i j
 diag i:=by
  unfold edge
  rw[if_neg (by rintro(⟨rfl,rfl⟩| ⟨rfl,rfl⟩)<;>exact hab rfl),g.diag]
theorem Lj(a b:Nat)(l:Int)(d:T)(i j:Nat):le (wr a b l d i j) (d i j):=le_trans (fH _ _) (fH _ _)
theorem TY(a b:Nat)(l:Int)(d:T)(i j:Nat):le (wr a b l d i j) (sum2 (sum2 (d i a) (some l)) (d b j)):=le_trans (fH _ _) (eO _ _)
theorem TX(a b:Nat)(l:Int)(d:T)(i j:Nat):le (wr a b l d i j) (sum2 (sum2 (d i b) (some l)) (d a j)):=eO _ _
theorem Gm(a b:Nat)(l:Int)(d:T)(i j:Nat):wr a b l d i j=d i j∨wr a b l d i j=sum2 (sum2 (d i a) (some l)) (d b j)∨wr a b l d i j=sum2 (sum2 (d i b) (some l)) (d a j):=by
 unfold wr
 rcases jP (lesser (d i j) (sum2 (sum2 (d i a) (some l)) (d b j))) (sum2 (sum2 (d i b) (some l)) (d a j))with e|e
 ·rw[e]
  rcases jP (d i j) (sum2 (sum2 (d i a) (some l)) (d b j))with e|e
  ·exact .inl e
  ·exact .inr (.inl e)
 ·exact .inr (.inr e)
theorem W9{n a b:Nat}{l:Int}{d:T}(hl:0≤l)(ha:a<n)(hb:b<n)(g:Good d)(t:tri n d):tri n (wr a b l d):=by
 intro i j k hk
 have hL:nn (some l):=hl
 rcases Gm a b l d i k with e1|e1|e1<;>rcases Gm a b l d k j with e2|e2|e2<;>rw[e1,e2]
 ·exact le_trans (Lj _ _ _ _ _ _) (t i j k hk)
 ·refine le_trans (TY _ _ _ _ _ _) ?_
  rw[←bF,←bF]
  exact bR (bR (t i a k hk) (le_refl _)) (le_refl _)
 ·refine le_trans (TX _ _ _ _ _ _) ?_
  rw[←bF,←bF]
  exact bR (bR (t i b k hk) (le_refl _)) (le_refl _)
 ·refine le_trans (TY _ _ _ _ _ _) ?_
  rw[bF (sum2 _ _)]
  exact bR (le_refl _) (t b j k hk)
 ·refine le_trans (TY _ _ _ _ _ _) ?_
  rw[bF (sum2 (d i a) (some l))]
  refine bR (le_refl _) ?_
  rw[←bF,←bF]
  exact iD (fQ (fQ (g.nn _ _) (g.nn _ _)) hL)
 ·refine le_trans (le_trans (Lj _ _ _ _ _ _) (t i j a ha)) ?_
  rw[bF (d i a),bF (d i a)]
  refine bR (le_refl _) ?_
  rw[←bF]
  exact iD (fQ (fQ hL (g.nn _ _)) (fQ (g.nn _ _) hL))
 ·refine le_trans (TX _ _ _ _ _ _) ?_
  rw[bF (sum2 _ _)]
  exact bR (le_refl _) (t a j k hk)
 ·refine le_trans (le_trans (Lj _ _ _ _ _ _) (t i j b hb)) ?_
  rw[bF (d i b),bF (d i b)]
  refine bR (le_refl _) ?_
  rw[←bF]
  exact iD (fQ (fQ hL (g.nn _ _)) (fQ (g.nn _ _) hL))
 ·refine le_trans (TX _ _ _ _ _ _) ?_
  rw[bF (sum2 (d i b) (some l))]
  refine bR (le_refl _) ?_
  rw[←bF,←bF]
  exact iD (fQ (fQ (g.nn _ _) (g.nn _ _)) hL)
theorem NT{n a b:Nat}{l:Int}{d:T}(hab:a≠b)(ha:a<n)(hb:b<n)(hl:0≤l)(g:Good d)(i j:Nat):lA n (edge a b l d) i j=wr a b l (lA n d) i j:=by
 have g0:=vM (n:=n) g
 have t0:=yq (n:=n) g
 have g1:=Cu hab hl g
 have t1:=yq (n:=n) g1
 have low:∀i j,le (lA n (edge a b l d) i j) (lA n d i j):=qM (fun i j=>le_trans (Dh n _ i j) (V5 i j)) t1
 have he:∀x y,((a=x∧b=y)∨(a=y∧b=x))→le (lA n (edge a b l d) x y) (some l):=fun x y h=>by
  refine le_trans (Dh n _ x y) ?_
  unfold edge
  rw[if_pos h]
  exact eO _ _
 refine le_antisymm ?_ ?_
 ·refine fV (fV (low i j) ?_) ?_
  ·refine le_trans (t1 i j b hb) (bR (le_trans (t1 i b a ha) (bR (low i a) (he a b (.inl ⟨rfl,rfl⟩)))) (low b j))
  ·refine le_trans (t1 i j a ha) (bR (le_trans (t1 i a b hb) (bR (low i b) (he b a (.inr ⟨rfl,rfl⟩)))) (low a j))
 ·refine qM (fun i j=>?_) (W9 hl ha hb g0 t0) i j
  have old:le (wr a b l (lA n d) i j) (d i j):=le_trans (Lj _ _ _ _ _ _) (Dh n d i j)
  unfold edge
  split
  ·rename_i h
   refine fV old ?_
   rcases h with⟨rfl,rfl⟩| ⟨rfl,rfl⟩
   ·have:=TY a b l (lA n d) a b
    rwa[g0.diag,g0.diag,vJ,pX]at this
   ·have:=TX a b l (lA n d) b a
    rwa[g0.diag,g0.diag,vJ,pX]at this
  ·exact old
def tab(n:Nat)(d:T):List Row:=(List.range n).map fun i=>(List.range n).map fun j=>d i j
theorem cA{α:Type}(n:Nat)(f:Nat→α)(i:Nat)(h:i<n)(x:α):((List.range n).map f).getD i x=f i:=by
 rw[List.getD_eq_getElem?_getD,List.getElem?_map,List.getElem?_range h];rfl
theorem zT{n:Nat}{d:T}{i j:Nat}(hi:i<n)(hj:j<n):cell (tab n d) i j=d i j:=by
 unfold cell tab
 rw[cA n _ i hi,cA n _ j hj]
theorem jQ{n:Nat}{d:T}{i j:Nat}(h:¬(i<n∧j<n)):cell (tab n d) i j=none:=by
 unfold cell tab
 by_cases hi:i<n
 ·have hj:n≤j:=by omega
  rw[cA n _ i hi,List.getD_eq_getElem?_getD,List.getElem?_eq_none (by simpa using hj)];rfl
 ·rw[List.getD_eq_getElem?_getD (i:=i),List.getElem?_eq_none (by simpa using hi)];rfl
theorem tY{α β γ:Type}(n:Nat)(f:Nat→α)(g:Nat→β)(h:α→β→γ):List.zipWith h ((List.range n).map f) ((List.range n).map g)=(List.range n).map fun j=>h (f j) (g j):=by
 rw[List.zipWith_map]
 rw[List.zipWith_self]
theorem Gz{n k:Nat}{d:T}(hk:k<n):through k (tab n d)=tab n (thr k d):=by
 unfold through tab
 rw[List.map_map]
 refine List.map_congr_left fun i hi=>?_
 show List.zipWith _ ((List.range n).map fun j=>d i j) (((List.range n).map fun i=>(List.range n).map fun j=>d i j).getD k [])=_
 rw[cA n _ k hk,cA n _ k hk,tY]
 rfl
theorem rG{n:Nat}(d:T):∀k,k≤n→(List.range k).foldl (fun m k=>through k m) (tab n d)=tab n (lA k d)
 |0,_=>rfl
 |k+1,h=>by
  rw[List.range_succ,List.foldl_append,rG d k (by omega)]
  exact Gz (by omega)
def dir(roads:List Road):T:=fun i j=>if i=j then some 0 else
 roads.foldl (fun m e=>if (e.a=i∧e.b=j)∨(e.a=j∧e.b=i)then lesser m (some e.len)else m) none
def dist(n:Nat)(roads:List Road):T:=lA n (dir roads)
theorem dF(s:State):distances s=tab (size s) (dist (size s) s.roads):=rG (dir s.roads) (size s) (Nat.le_refl _)
def dj(n:Nat)(e:Road):Prop:=e.a<n∧e.b<n∧e.a≠e.b∧1≤e.len
theorem Io(roads:List Road)(e:Road)(hab:e.a≠e.b)(i j:Nat):dir (roads++[e]) i j=edge e.a e.b e.len (dir roads) i j:=by
 unfold edge dir
 by_cases hij:i=j
 ·subst hij
  rw[if_pos rfl,if_pos rfl,if_neg]
  rintro(⟨h,k⟩| ⟨h,k⟩)<;>exact hab (h.trans k.symm)
 ·rw[if_neg hij,if_neg hij,List.foldl_append];rfl
theorem zL{n:Nat}:∀(roads:List Road),(∀e∈roads,dj n e)→Good (dir roads):=by
 intro roads
 suffices ∀k,k≤roads.length→(∀e∈roads,dj n e)→Good (dir (roads.take k))by
  intro h
  have:=this roads.length (Nat.le_refl _) h
  rwa[List.take_length]at this
 intro k
 induction k with
 |zero=>
  intro _ _
  refine⟨fun i j=>?_,fun i=>?_⟩
  ·show le _ (if i=j then some 0 else none)
   split
   ·exact Int.le_refl 0
   ·trivial
  ·show(if i=i then some 0 else none)=some 0
   rw[if_pos rfl]
 |succ k ih=>
  intro hk h
  have g:=ih (by omega) h
  have hr:roads.take (k+1)=roads.take k++[roads[k]]:=by rw[List.take_append_getElem]
  have ok:=h roads[k] (List.getElem_mem _)
  rw[hr]
  have e:dir (roads.take k++[roads[k]])=edge roads[k].a roads[k].b roads[k].len (dir (roads.take k)):=by
   funext i j;exact Io _ _ ok.2.2.1 i j
  rw[e]
  exact Cu ok.2.2.1 (by have:=ok.2.2.2;omega) g
theorem wF{n:Nat}{roads:List Road}(h:∀e∈roads,dj n e):Good (dist n roads):=vM (zL roads h)
theorem Tc{n:Nat}{roads:List Road}(h:∀e∈roads,dj n e):tri n (dist n roads):=yq (zL roads h)
theorem V6(roads:List Road)(i j:Nat):dir roads i j=dir roads j i:=by
 unfold dir
 by_cases h:i=j
 ·subst h;rfl
 ·rw[if_neg h,if_neg fun q=>h q.symm]
  refine congrArg (fun f=>roads.foldl f none) ?_
  funext m e
  by_cases q:(e.a=i∧e.b=j)∨(e.a=j∧e.b=i)
  ·rw[if_pos q,if_pos q.symm]
  ·rw[if_neg q,if_neg fun z=>q z.symm]
theorem Im(n:Nat)(roads:List Road)(i j:Nat):dist n roads i j=dist n roads j i:=Qw (V6 roads) i j
theorem wD{n:Nat}{roads:List Road}{e:Road}(h:∀e∈roads,dj n e)(ok:dj n e)(i j:Nat):dist n (roads++[e]) i j=wr e.a e.b e.len (dist n roads) i j:=by
 have:dir (roads++[e])=edge e.a e.b e.len (dir roads):=by funext i j;exact Io _ _ ok.2.2.1 i j
 unfold dist
 rw[this]
 exact NT ok.2.2.1 ok.1 ok.2.1 (by have:=ok.2.2.2;omega) (zL roads h) i j
theorem pR{d:T}(hd:∀i j,d i j=if i=j then some 0 else none):∀n i j,lA n d i j=if i=j then some 0 else none
 |0,i,j=>hd i j
 |n+1,i,j=>by
  show lesser (lA n d i j) (sum2 (lA n d i n) (lA n d n j))=_
  rw[pR hd n i j,pR hd n i n,pR hd n n j]
  by_cases h:i=j
  ·subst h
   rw[if_pos rfl]
   by_cases k:i=n
   ·subst k;rw[if_pos rfl];rfl
   ·rw[if_neg k,if_neg fun q=>k q.symm];rfl
  ·rw[if_neg h]
   by_cases k:i=n
   ·subst k;rw[if_pos rfl,if_neg h];rfl
   ·rw[if_neg k];rfl
theorem zJ(n i j:Nat):dist n [] i j=if i=j then some 0 else none:=pR (fun _ _=>rfl) n i j
def lk(d:T)(i j:Nat):Prop:=(d i j).isSome=true
theorem dD{a b:Option Int}:(sum2 a b).isSome=true↔a.isSome=true∧b.isSome=true:=by cases a<;>cases b<;>simp [sum2]
theorem rE{a b:Option Int}:(lesser a b).isSome=true↔a.isSome=true∨b.isSome=true:=by
 cases a with
 |none=>simp [lesser]
 |some x=>cases b with
  |none=>simp [lesser]
  |some y=>simp only[lesser];split<;>simp
theorem Et{a b:Option Int}(h:le a b)(k:b.isSome=true):a.isSome=true:=by
 cases b with
 |none=>cases k
 |some y=>cases a with
  |none=>exact h.elim
  |some x=>rfl
theorem WL(a b:Nat)(l:Int)(d:T)(i j:Nat):lk (wr a b l d) i j↔lk d i j∨(lk d i a∧lk d b j)∨(lk d i b∧lk d a j):=by
 unfold lk wr
 rw[rE,rE,dD,dD,dD,dD]
 simp [or_assoc]
theorem uX{d:T}(g:Good d)(i:Nat):lk d i i:=by unfold lk;rw[g.diag];rfl
theorem bQ{n:Nat}{d:T}(t:tri n d){i j k:Nat}(hk:k<n)(h:lk d i k)(h':lk d k j):lk d i j:=
 Et (t i j k hk) (dD.mpr ⟨h,h'⟩)
theorem sV{n:Nat}{d:T}{i j:Nat}(hi:i<n)(hj:j<n):linked (tab n d) i j=(d i j).isSome:=by
 unfold linked;rw[zT hi hj]
theorem xU{p:Nat→Bool}:∀ {n k:Nat},(List.range n).find? p=some k→k<n∧p k=true∧∀j,j<k→p j=false:=by
 intro n k h
 rw[List.find?_range_eq_some]at h
 exact⟨List.mem_range.mp h.2.1,h.1,fun j hj=>by have:=h.2.2 j hj;simpa using this⟩
structure jD(d:T)(i r:Nat):Prop where
 le:r≤i
 lk:lk d i r
 least:∀j,j<r→¬PR.lk d i j
theorem pY{n:Nat}{d:T}(g:Good d){i:Nat}(hi:i<n):jD d i (rootOf (tab n d) i):=by
 unfold rootOf
 cases h:(List.range (i+1)).find? fun j=>linked (tab n d) i j with
 |none=>
  exfalso
  have h2:=List.find?_eq_none.mp h i (by simp)
  have h3:linked (tab n d) i i=true:=by rw[sV hi hi,g.diag];rfl
  exact h2 h3
 |some r=>
  obtain⟨h1,h2,h3⟩:=xU h
  have hr:r<n:=by omega
  refine⟨by show r≤i;omega,?_,fun j hj=>?_⟩
  ·show(d i r).isSome=true
   have h2':linked (tab n d) i r=true:=h2
   rwa[sV hi hr]at h2'
  ·have h4:linked (tab n d) i j=false:=h3 j hj
   rw[sV hi (by have:j<r:=hj;omega)]at h4
   intro q
   unfold PR.lk at q
   rw[q]at h4;cases h4
theorem jD.unique{d:T}{i r s:Nat}(a:jD d i r)(b:jD d i s):r=s:=by
 rcases Nat.lt_trichotomy r s with h|h|h
 ·exact(b.least r h a.lk).elim
 ·exact h
 ·exact(a.least s h b.lk).elim
structure Eqv(n:Nat)(d:T):Prop where
 good:Good d
 tri:tri n d
 sym:∀i j,d i j=d j i
theorem Eqv.Em{n:Nat}{d:T}(e:Eqv n d){i j:Nat}(h:lk d i j):lk d j i:=by unfold lk at*;rw[e.sym];exact h
theorem zK{n:Nat}{roads:List Road}(h:∀e∈roads,dj n e):Eqv n (dist n roads):=⟨wF h,Tc h,Im n roads⟩
theorem mj{n:Nat}{d:T}(e:Eqv n d){i j r s:Nat}(hi:i<n)(hj:j<n)(h:lk d i j)(a:jD d i r)(b:jD d j s):r=s:=by
 have hs:s≤j:=b.le
 have hr:r≤i:=a.le
 rcases Nat.lt_trichotomy r s with q|q|q
 ·exact(b.least r q (bQ e.tri hi (e.Em h) a.lk)).elim
 ·exact q
 ·exact(a.least s q (bQ e.tri hj h b.lk)).elim
def wX(m:List Row)(i:Nat):Bool:=rootOf m i==i
theorem jU{n:Nat}{d:T}(g:Good d){i:Nat}(hi:i<n):wX (tab n d) i=true↔jD d i i:=by
 have h:=pY g hi
 unfold wX
 constructor
 ·intro q
  have q':=eq_of_beq q
  rwa[q']at h
 ·intro q
  exact beq_iff_eq.mpr (h.unique q)
def roots(n:Nat)(m:List Row):Nat:=((List.range n).filter fun i=>wX m i).length
theorem Pb(s:State)(m:List Row):forest s m=decide (s.roads.length+roots (size s) m=size s):=rfl
theorem Ib{n x:Nat}{p q:Nat→Bool}(hx:x<n)(px:p x=true)(h:∀i,i<n→(q i=true↔p i=true∧i≠x)):((List.range n).filter q).length+1=((List.range n).filter p).length:=by
 have e:(List.range n).filter q=((List.range n).filter p).erase x:=by
  rw[List.Nodup.erase_eq_filter (List.nodup_range.filter p),List.filter_filter]
  refine List.filter_congr fun i hi=>?_
  have:=h i (List.mem_range.mp hi)
  by_cases h1:p i=true<;>by_cases h2:i=x<;>cases hq:q i<;>simp_all
 rw[e,List.length_erase_of_mem (List.mem_filter.mpr ⟨List.mem_range.mpr hx,px⟩)]
 have:0< ((List.range n).filter p).length:=List.length_pos_of_mem (List.mem_filter.mpr ⟨List.mem_range.mpr hx,px⟩)
 omega
theorem JV{n a b:Nat}{d d':T}(e:Eqv n d)(g':Good d')(ha:a<n)(hb:b<n)(hl:∀i j,lk d' i j↔lk d i j∨(lk d i a∧lk d b j)∨(lk d i b∧lk d a j))(h:lk d a b):roots n (tab n d')=roots n (tab n d):=by
 have same:∀i j,lk d' i j↔lk d i j:=fun i j=>by
  rw[hl]
  constructor
  ·rintro(q| ⟨q,r⟩| ⟨q,r⟩)
   ·exact q
   ·exact bQ e.tri hb (bQ e.tri ha q h) r
   ·exact bQ e.tri ha (bQ e.tri hb q (e.Em h)) r
  ·exact .inl
 unfold roots
 refine congrArg List.length (List.filter_congr fun i hi=>?_)
 have hi':=List.mem_range.mp hi
 have q:wX (tab n d') i=true↔wX (tab n d) i=true:=by
  rw[jU g' hi',jU e.good hi']
  constructor
  ·intro r;exact⟨r.le,(same _ _).mp r.lk,fun j hj z=>r.least j hj ((same _ _).mpr z)⟩
  ·intro r;exact⟨r.le,(same _ _).mpr r.lk,fun j hj z=>r.least j hj ((same _ _).mp z)⟩
 cases h1:wX (tab n d') i<;>cases h2:wX (tab n d) i<;>simp_all
theorem JT{n a b:Nat}{d d':T}(e:Eqv n d)(g':Good d')(ha:a<n)(hb:b<n)(hl:∀i j,lk d' i j↔lk d i j∨(lk d i a∧lk d b j)∨(lk d i b∧lk d a j))(h:¬lk d a b):roots n (tab n d')+1=roots n (tab n d):=by
 have ra:=pY (n:=n) e.good ha
 have rb:=pY (n:=n) e.good hb
 generalize rootOf (tab n d) a=p at ra
 generalize rootOf (tab n d) b=q at rb
 have hp:p<n:=by have:=ra.le;omega
 have hq:q<n:=by have:=rb.le;omega
 have own:∀ {i r},i<n→jD d i r→jD d r r:=fun {i r} hi z=>⟨Nat.le_refl _,uX e.good _,fun j hj y=>z.least j hj (bQ e.tri (by have:=z.le;omega) z.lk y)⟩
 have hpq:p≠q:=by
  rintro rfl
  exact h (bQ e.tri hp ra.lk (e.Em rb.lk))
 have main:∀x y u v:Nat,u<n→v<n→jD d u x→jD d v y→x<y→(∀i j,lk d' i j↔lk d i j∨(lk d i u∧lk d v j)∨(lk d i v∧lk d u j))→roots n (tab n d')+1=roots n (tab n d):=by
  intro x y u v hu hv rx ry hxy hl
  have hx:x<n:=by have:=rx.le;omega
  have hy:y<n:=by have:=ry.le;omega
  refine Ib hy ((jU e.good hy).mpr (own hv ry)) fun i hi=>?_
  rw[jU g' hi,jU e.good hi]
  constructor
  ·intro z
   refine⟨⟨Nat.le_refl _,uX e.good _,fun j hj k=>z.least j hj ((hl _ _).mpr (.inl k))⟩,?_⟩
   rintro rfl
   exact z.least x hxy ((hl _ _).mpr (.inr (.inr ⟨e.Em ry.lk,rx.lk⟩)))
  ·rintro⟨z,hne⟩
   refine⟨Nat.le_refl _,uX g' _,fun j hj k=>?_⟩
   rcases(hl _ _).mp k with k| ⟨k1,k2⟩| ⟨k1,k2⟩
   ·exact z.least j hj k
   ·
    have e1:i=x:=mj e hi hu k1 z rx
    exact ry.least j (by omega) k2
   ·have e1:i=y:=mj e hi hv k1 z ry
    exact hne e1
 rcases Nat.lt_or_ge p q with z|z
 ·exact main p q a b ha hb ra rb z hl
 ·exact main q p b a hb ha rb ra (by omega) fun i j=>by rw[hl];constructor<;>(rintro(k|k|k)<;>simp [k])
theorem mC{n:Nat}{d:T}(e:Eqv n d){i:Nat}(hi:i<n):∃r,jD d i r∧rootOf (tab n d) i=r∧d i r=some (depth (tab n d) i):=by
 have r:=pY (n:=n) e.good hi
 refine⟨_,r,rfl,?_⟩
 have hr:rootOf (tab n d) i<n:=by have:=r.le;omega
 have h:depth (tab n d) i=(d (rootOf (tab n d) i) i).getD 0:=by
  unfold depth;rw[zT hr hi]
 rw[h,e.sym]
 have q:=e.Em r.lk
 unfold lk at q
 cases z:d (rootOf (tab n d) i) i with
 |none=>rw[z]at q;cases q
 |some x=>rfl
def firstOf(r:Row):Option Int:=(r.filterMap id).head?
theorem Bj{f:Nat→Option Int}:∀ {n r:Nat},r<n→(f r).isSome=true→(∀j,j<r→¬(f j).isSome=true)→firstOf ((List.range n).map f)=f r:=by
 intro n r hr h1 h2
 unfold firstOf
 have e:List.range n=List.range r++(r::(List.range' (r+1) (n - r - 1))):=by
  rw[List.range_eq_range',List.range_eq_range']
  have:n=r+(n - r - 1+1):=by omega
  conv=>lhs;rw[this]
  rw[←List.range'_append_1,List.range'_succ];simp
 have e2:((List.range r).map f).filterMap id=[]:=by
  rw[List.filterMap_eq_nil_iff]
  intro x hx
  obtain⟨j,hj,rfl⟩:=List.mem_map.mp hx
  have:=h2 j (List.mem_range.mp hj)
  cases q:f j with
  |none=>rfl
  |some y=>rw[q]at this;exact(this rfl).elim
 rw[e,List.map_append,List.filterMap_append,e2,List.nil_append,List.map_cons]
 cases q:f r with
 |none=>rw[q]at h1;cases h1
 |some y=>rfl
theorem Bk{n:Nat}{d:T}(e:Eqv n d){i:Nat}(hi:i<n):firstOf ((tab n d).getD i [])=some (depth (tab n d) i):=by
 obtain⟨r,hr,_,h⟩:=mC e hi
 have:(tab n d).getD i []=(List.range n).map fun j=>d i j:=cA n _ i hi []
 rw[this,←h]
 exact Bj (by have:=hr.le;omega) hr.lk hr.least
theorem j8(lt:Nat→Nat→Bool)(x:Nat):∀l,(putIn lt x l).Perm (x::l)
 | []=> .refl _
 |y::r=>by
  unfold putIn
  split
  ·exact .refl _
  ·exact((j8 lt x r).cons y).trans (.swap x y r)
theorem iV(lt:Nat→Nat→Bool):∀(l acc:List Nat),(l.foldl (fun l v=>putIn lt v l) acc).Perm (l++acc)
 | [],acc=> .refl _
 |x::r,acc=>by
  rw[List.foldl_cons]
  exact(iV lt r _).trans (((j8 lt x acc).append_left r).trans List.perm_middle)
theorem j9{lt:Nat→Nat→Bool}(tr:∀x y z,lt x y=true→lt y z=true→lt x z=true)(tot:∀x y,x≠y→lt x y=true∨lt y x=true)(x:Nat):∀l,x∉l→l.Pairwise (fun a b=>lt a b=true)→(putIn lt x l).Pairwise (fun a b=>lt a b=true)
 | [],_,_=>by simp [putIn]
 |y::r,hx,h=>by
  rw[List.pairwise_cons]at h
  unfold putIn
  split
  ·rename_i q
   refine List.pairwise_cons.mpr ⟨fun z hz=>?_,List.pairwise_cons.mpr h⟩
   rcases List.mem_cons.mp hz with rfl|hz
   ·exact q
   ·exact tr _ _ _ q (h.1 z hz)
  ·rename_i q
   have hne:x≠y:=fun z=>hx (by simp [z])
   have hyx:lt y x=true:=(tot x y hne).resolve_left q
   refine List.pairwise_cons.mpr ⟨fun z hz=>?_,j9 tr tot x r (fun z=>hx (List.mem_cons_of_mem _ z)) h.2⟩
   rcases List.mem_cons.mp ((j8 lt x r).mem_iff.mp hz)with rfl|hz
   ·exact hyx
   ·exact h.1 z hz
theorem gP(m:List Row)(i j:Nat):before m i j=true↔depth m j<depth m i∨(depth m j=depth m i∧i<j):=by
 unfold before
 simp
theorem vA(m:List Row)(x y z:Nat):before m x y=true→before m y z=true→before m x z=true:=by
 rw[gP,gP,gP];omega
theorem FW(m:List Row)(x y:Nat)(h:x≠y):before m x y=true∨before m y x=true:=by
 rw[gP,gP];omega
theorem Bq(m:List Row)(x:Nat):before m x x=false:=by
 cases h:before m x x with
 |false=>rfl
 |true=>rw[gP]at h;omega
def kO(s:State):List Nat:=(List.range (size s)).filter fun v=>decide (0< (placeOf s v).need)
theorem kE(s:State)(m:List Row):(order s m).Perm (kO s):=by
 have:=iV (before m) (kO s) []
 rwa[List.append_nil]at this
theorem o4(s:State)(m:List Row):(order s m).Pairwise fun a b=>before m a b=true:=by
 have nd:(kO s).Nodup:=List.nodup_range.filter _
 suffices ∀(l acc:List Nat),(l++acc).Nodup→acc.Pairwise (fun a b=>before m a b=true)→(l.foldl (fun l v=>putIn (before m) v l) acc).Pairwise fun a b=>before m a b=true from
  this (kO s) [] (by rw[List.append_nil];exact nd) .nil
 intro l
 induction l with
 |nil=>intro acc _ h;exact h
 |cons x r ih=>
  intro acc hn h
  rw[List.foldl_cons]
  have hx:x∉acc:=fun z=>by
   rw[List.cons_append,List.nodup_cons]at hn
   exact hn.1 (List.mem_append_right _ z)
  refine ih _ ?_ (j9 (vA m) (FW m) x acc hx h)
  exact(((j8 (before m) x acc).append_left r).trans List.perm_middle).nodup_iff.mpr hn
theorem gJ{lt:Nat→Nat→Bool}(irr:∀x,lt x x=false)(tr:∀x y z,lt x y=true→lt y z=true→lt x z=true):∀ {l k:List Nat},l.Perm k→l.Pairwise (fun a b=>lt a b=true)→k.Pairwise (fun a b=>lt a b=true)→l=k
 | [],k,h,_,_=>(List.nil_perm.mp h).symm
 |x::r,[],h,_,_=>absurd h (by simp)
 |x::r,y::t,h,h1,h2=>by
  have e:x=y:=by
   rcases List.mem_cons.mp (h.mem_iff.mp (List.mem_cons_self:x∈x::r))with z|z
   ·exact z
   ·rcases List.mem_cons.mp (h.mem_iff.mpr (List.mem_cons_self:y∈y::t))with w|w
    ·exact w.symm
    ·have a:=(List.pairwise_cons.mp h2).1 x z
     have b:=(List.pairwise_cons.mp h1).1 y w
     have c:=tr _ _ _ a b
     rw[irr]at c;cases c
  subst e
  rw[gJ irr tr (List.perm_cons x |>.mp h) (List.pairwise_cons.mp h1).2 (List.pairwise_cons.mp h2).2]
theorem DX{s:State}{m:List Row}{l:List Nat}(hp:l.Perm (kO s))(hs:l.Pairwise fun a b=>before m a b=true):l=order s m:=
 gJ (Bq m) (vA m) (hp.trans (kE s m).symm) hs (o4 s m)
def Lf(n:Nat)(d:T):Prop:=∀(x y z w:Nat) (xy zw xz yw xw yz:Int),x<n→y<n→z<n→w<n→d x y=some xy→d z w=some zw→d x z=some xz→d y w=some yw→d x w=some xw→d y z=some yz→xy+zw≤xz+yw∨xy+zw≤xw+yz
theorem ph(a:Option Int):lesser a none=a:=by cases a<;>rfl
theorem m8{d:T}{i j:Nat}(h:lk d i j):∃x,d i j=some x:=by
 unfold lk at h
 cases e:d i j with
 |none=>rw[e]at h;cases h
 |some x=>exact⟨x,rfl⟩
theorem iC{d:T}{i j:Nat}{x:Int}(h:d i j=some x):lk d i j:=by unfold lk;rw[h];rfl
theorem Ei{d:T}{i j:Nat}(h:¬lk d i j):d i j=none:=by
 unfold lk at h
 cases e:d i j with
 |none=>rfl
 |some x=>rw[e]at h;exact(h rfl).elim
theorem Eqv.tr{n:Nat}{d:T}(e:Eqv n d){i j k:Nat}{x y z:Int}(hk:k<n)(h1:d i j=some z)(h2:d i k=some x)(h3:d k j=some y):z≤x+y:=by
 have h:=e.tri i j k hk
 rw[h1,h2,h3]at h
 exact h
section
variable{n a b:Nat}{l:Int}{d:T}
theorem TV(e:Eqv n d)(hna:¬lk d a b){i j:Nat}(hi:i<n)(hj:j<n)(h:lk d i j):wr a b l d i j=d i j:=by
 have n1:sum2 (sum2 (d i a) (some l)) (d b j)=none:=by
  cases q:sum2 (sum2 (d i a) (some l)) (d b j)with
  |none=>rfl
  |some v=>
   have z:(sum2 (sum2 (d i a) (some l)) (d b j)).isSome=true:=by rw[q];rfl
   rw[dD,dD]at z
   exact(hna (bQ e.tri hi (e.Em z.1.1) (bQ e.tri hj h (e.Em z.2)))).elim
 have n2:sum2 (sum2 (d i b) (some l)) (d a j)=none:=by
  cases q:sum2 (sum2 (d i b) (some l)) (d a j)with
  |none=>rfl
  |some v=>
   have z:(sum2 (sum2 (d i b) (some l)) (d a j)).isSome=true:=by rw[q];rfl
   rw[dD,dD]at z
   exact(hna (bQ e.tri hj z.2 (bQ e.tri hi (e.Em h) z.1.1))).elim
 unfold wr
 rw[n1,n2,ph,ph]
theorem Zw(e:Eqv n d)(ha:a<n)(hb:b<n)(hna:¬lk d a b){i j:Nat}(hi:i<n)(hj:j<n)(h1:lk d i a)(h2:lk d b j):wr a b l d i j=sum2 (sum2 (d i a) (some l)) (d b j):=by
 have n1:d i j=none:=Ei fun q=>hna (bQ e.tri hi (e.Em h1) (bQ e.tri hj q (e.Em h2)))
 have n2:sum2 (sum2 (d i b) (some l)) (d a j)=none:=by
  rw[Ei (d:=d) (i:=i) (j:=b) fun q=>hna (bQ e.tri hi (e.Em h1) q)];rfl
 unfold wr
 rw[n1,n2,ph];rfl
theorem Zv(e:Eqv n d)(ha:a<n)(hb:b<n)(hna:¬lk d a b){i j:Nat}(hi:i<n)(hj:j<n)(h1:lk d i b)(h2:lk d a j):wr a b l d i j=sum2 (sum2 (d i b) (some l)) (d a j):=by
 have n1:d i j=none:=Ei fun q=>hna (bQ e.tri hj h2 (bQ e.tri hi (e.Em q) h1))
 have n2:sum2 (sum2 (d i a) (some l)) (d b j)=none:=by
  rw[Ei (d:=d) (i:=i) (j:=a) fun q=>hna (bQ e.tri hi (e.Em q) h1)];rfl
 unfold wr
 rw[n1,n2];rfl
end
structure Join(n a b:Nat)(l:Int)(d d':T):Prop where
 e:Eqv n d
 ha:a<n
 hb:b<n
 hl:0≤l
 hs:∀i j,i<n→j<n→lk d i j→d' i j=d i j
 hab:∀i j,i<n→j<n→lk d i a→lk d b j→d' i j=sum2 (sum2 (d i a) (some l)) (d b j)
 hba:∀i j,i<n→j<n→lk d i b→lk d a j→d' i j=sum2 (sum2 (d i b) (some l)) (d a j)
 lk':∀i j,lk d' i j→lk d i j∨(lk d i a∧lk d b j)∨(lk d i b∧lk d a j)
theorem Join.swap{n a b:Nat}{l:Int}{d d':T}(J:Join n a b l d d'):Join n b a l d d':=⟨J.e,J.hb,J.ha,J.hl,J.hs,J.hba,J.hab,fun i j h=>by rcases J.lk' i j h with h|h|h;exact .inl h;exact .inr (.inr h);exact .inr (.inl h)⟩
section
variable{n a b:Nat}{l:Int}{d d':T}
theorem Join.cross(J:Join n a b l d d'){i j:Nat}{x y v:Int}(hi:i<n)(hj:j<n)(h1:d i a=some x)(h2:d j b=some y)(h:d' i j=some v):v=x+l+y:=by
 rw[J.e.sym]at h2
 rw[J.hab i j hi hj (iC h1) (iC h2),h1,h2]at h
 exact(Option.some.inj h).symm
theorem Join.wI(J:Join n a b l d d'){i j:Nat}{x y v:Int}(hi:i<n)(hj:j<n)(h1:d i a=some x)(h2:d j b=some y)(h:d' j i=some v):v=x+l+y:=by
 rw[J.e.sym]at h1
 rw[J.hba j i hj hi (iC h2) (iC h1),h1,h2]at h
 have:=(Option.some.inj h).symm
 omega
theorem Join.same(J:Join n a b l d d'){g i j:Nat}{x y v:Int}(hg:g<n)(hi:i<n)(hj:j<n)(h1:d i g=some x)(h2:d j g=some y)(h:d' i j=some v):d i j=some v:=by
 rw[J.e.sym]at h2
 rw[J.hs i j hi hj (bQ J.e.tri hg (iC h1) (iC h2))]at h
 exact h
theorem Join.side(J:Join n a b l d d'){i j:Nat}{x:Int}(hi:i<n)(h1:d i a=some x)(h:lk d' i j):(∃y,d j a=some y)∨(∃y,d j b=some y):=by
 rcases J.lk' i j h with h| ⟨_,h⟩| ⟨h,k⟩
 ·exact .inl (m8 (bQ J.e.tri hi (J.e.Em h) (iC h1)))
 ·exact .inr (m8 (J.e.Em h))
 ·exact .inl (m8 (J.e.Em k))
theorem Join.WX(J:Join n a b l d d')(F:Lf n d){x y z w:Nat}{xy zw xz yw xw yz xa:Int}(hx:x<n)(hy:y<n)(hz:z<n)(hw:w<n)(hA:d x a=some xa)
  (h1:d' x y=some xy) (h2:d' z w=some zw) (h3:d' x z=some xz) (h4:d' y w=some yw) (h5:d' x w=some xw) (h6:d' y z=some yz):xy+zw≤xz+yw∨xy+zw≤xw+yz:=by
 have ha:=J.ha
 have hb:=J.hb
 have hl:=J.hl
 have S:=fun {i:Nat} {u:Int} (h:d i a=some u)=>(J.e.sym a i).trans h
 have S':=fun {i:Nat} {u:Int} (h:d i b=some u)=>(J.e.sym b i).trans h
 rcases J.side hx hA (iC h1)with⟨ya,hy1⟩| ⟨yb,hy1⟩<;>rcases J.side hx hA (iC h3)with⟨za,hz1⟩| ⟨zb,hz1⟩<;>rcases J.side hx hA (iC h5)with⟨wa,hw1⟩| ⟨wb,hw1⟩
 ·exact F x y z w _ _ _ _ _ _ hx hy hz hw (J.same ha hx hy hA hy1 h1) (J.same ha hz hw hz1 hw1 h2) (J.same ha hx hz hA hz1 h3) (J.same ha hy hw hy1 hw1 h4) (J.same ha hx hw hA hw1 h5) (J.same ha hy hz hy1 hz1 h6)
 ·
  have f:=F x y z a _ _ _ _ _ _ hx hy hz ha (J.same ha hx hy hA hy1 h1) hz1 (J.same ha hx hz hA hz1 h3) hy1 hA (J.same ha hy hz hy1 hz1 h6)
  have e1:=J.cross hx hw hA hw1 h5
  have e2:=J.cross hy hw hy1 hw1 h4
  have e3:=J.cross hz hw hz1 hw1 h2
  omega
 ·
  have f:=F x y a w _ _ _ _ _ _ hx hy ha hw (J.same ha hx hy hA hy1 h1) (S hw1) hA (J.same ha hy hw hy1 hw1 h4) (J.same ha hx hw hA hw1 h5) hy1
  have e1:=J.cross hx hz hA hz1 h3
  have e2:=J.cross hy hz hy1 hz1 h6
  have e3:=J.wI hw hz hw1 hz1 h2
  omega
 ·
  have e1:=J.cross hx hz hA hz1 h3
  have e2:=J.cross hy hw hy1 hw1 h4
  have t1:=J.e.tr ha (J.same ha hx hy hA hy1 h1) hA (S hy1)
  have t2:=J.e.tr hb (J.same hb hz hw hz1 hw1 h2) hz1 (S' hw1)
  omega
 ·
  have f:=F x a z w _ _ _ _ _ _ hx ha hz hw hA (J.same ha hz hw hz1 hw1 h2) (J.same ha hx hz hA hz1 h3) (S hw1) (J.same ha hx hw hA hw1 h5) (S hz1)
  have e1:=J.cross hx hy hA hy1 h1
  have e2:=J.wI hw hy hw1 hy1 h4
  have e3:=J.wI hz hy hz1 hy1 h6
  omega
 ·
  have e1:=J.cross hx hy hA hy1 h1
  have e2:=J.cross hz hw hz1 hw1 h2
  have e3:=J.cross hx hw hA hw1 h5
  have e4:=J.wI hz hy hz1 hy1 h6
  omega
 ·
  have e1:=J.cross hx hy hA hy1 h1
  have e2:=J.wI hw hz hw1 hz1 h2
  have e3:=J.cross hx hz hA hz1 h3
  have e4:=J.wI hw hy hw1 hy1 h4
  omega
 ·
  have f:=F b y z w _ _ _ _ _ _ hb hy hz hw (S' hy1) (J.same hb hz hw hz1 hw1 h2) (S' hz1) (J.same hb hy hw hy1 hw1 h4) (S' hw1) (J.same hb hy hz hy1 hz1 h6)
  have e1:=J.cross hx hy hA hy1 h1
  have e2:=J.cross hx hz hA hz1 h3
  have e3:=J.cross hx hw hA hw1 h5
  omega
theorem Join.four(J:Join n a b l d d')(F:Lf n d):Lf n d':=by
 intro x y z w xy zw xz yw xw yz hx hy hz hw h1 h2 h3 h4 h5 h6
 by_cases hA:lk d x a
 ·obtain⟨xa,hA⟩:=m8 hA
  exact J.WX F hx hy hz hw hA h1 h2 h3 h4 h5 h6
 ·by_cases hB:lk d x b
  ·obtain⟨xb,hB⟩:=m8 hB
   exact J.swap.WX F hx hy hz hw hB h1 h2 h3 h4 h5 h6
  ·have far:∀ {j:Nat} {v:Int},d' x j=some v→lk d x j:=fun {j v} h=>by
    rcases J.lk' x j (iC h)with h| ⟨h,_⟩| ⟨h,_⟩
    ·exact h
    ·exact(hA h).elim
    ·exact(hB h).elim
   have ly:=far h1
   have lz:=far h3
   have lw:=far h5
   have pr:∀ {i j:Nat} {v:Int},i<n→j<n→lk d x i→lk d x j→d' i j=some v→d i j=some v:=fun {i j v} hi hj h1 h2 h=>by
    rw[J.hs i j hi hj (bQ J.e.tri hx (J.e.Em h1) h2)]at h;exact h
   have lx:lk d x x:=uX J.e.good x
   exact F x y z w _ _ _ _ _ _ hx hy hz hw (pr hx hy lx ly h1) (pr hz hw lz lw h2) (pr hx hz lx lz h3) (pr hy hw ly lw h4) (pr hx hw lx lw h5) (pr hy hz ly lz h6)
end
theorem BW(n:Nat):roots n (tab n (dist n []))=n:=by
 unfold roots
 have g:=wF (n:=n) (roads:=[]) (fun e he=>by cases he)
 have:(List.range n).filter (fun i=>wX (tab n (dist n [])) i)=List.range n:=by
  refine List.filter_eq_self.mpr fun i hi=>?_
  have hi':=List.mem_range.mp hi
  rw[jU g hi']
  refine⟨Nat.le_refl _,uX g _,fun j hj h=>?_⟩
  unfold lk at h
  rw[zJ,if_neg (by omega)]at h
  cases h
 rw[this,List.length_range]
theorem rT{n:Nat}{roads:List Road}{e:Road}(h:∀e∈roads,dj n e)(ok:dj n e):
  (lk (dist n roads) e.a e.b→roots n (tab n (dist n (roads++[e])))=roots n (tab n (dist n roads)))∧(¬lk (dist n roads) e.a e.b→roots n (tab n (dist n (roads++[e])))+1=roots n (tab n (dist n roads))):=by
 have E:=zK h
 have h2:∀e'∈roads++[e],dj n e':=fun e' he=>by
  rcases List.mem_append.mp he with he|he
  ·exact h e' he
  ·rw[List.mem_singleton.mp he];exact ok
 have g':=wF h2
 have L:∀i j,lk (dist n (roads++[e])) i j↔lk (dist n roads) i j∨(lk (dist n roads) i e.a∧lk (dist n roads) e.b j)∨(lk (dist n roads) i e.b∧lk (dist n roads) e.a j):=fun i j=>by
  rw[←WL]
  unfold lk
  rw[wD h ok]
 exact⟨fun q=>JV E g' ok.1 ok.2.1 L q,fun q=>JT E g' ok.1 ok.2.1 L q⟩
theorem oX{n:Nat}:∀(k:Nat) (roads:List Road),roads.length=k→(∀e∈roads,dj n e)→n≤roads.length+roots n (tab n (dist n roads))
 |0,roads,hk,_=>by
  have:roads=[]:=List.length_eq_zero_iff.mp hk
  subst this
  rw[BW];simp
 |k+1,roads,hk,h=>by
  obtain⟨r,e,rfl⟩:∃r e,roads=r++[e]:=by
   rcases List.eq_nil_or_concat roads with q| ⟨r,e,q⟩
   ·subst q;cases hk
   ·exact⟨r,e,by simpa using q⟩
  have hr:∀e'∈r,dj n e':=fun e' he=>h e' (List.mem_append_left _ he)
  have ok:dj n e:=h e (by simp)
  have hl:r.length=k:=by simpa using hk
  have ih:=oX k r hl hr
  obtain⟨s1,s2⟩:=rT hr ok
  rw[List.length_append]
  by_cases q:lk (dist n r) e.a e.b
  ·have:=s1 q;simp;omega
  ·have:=s2 q;simp;omega
theorem pH{n:Nat}:∀(k:Nat) (roads:List Road),roads.length=k→(∀e∈roads,dj n e)→roads.length+roots n (tab n (dist n roads))=n→Lf n (dist n roads)
 |0,roads,hk,_,_=>by
  have:roads=[]:=List.length_eq_zero_iff.mp hk
  subst this
  intro x y z w xy zw xz yw xw yz hx hy hz hw h1 h2 h3 h4 h5 h6
  rw[zJ]at h1 h2 h3 h4 h5 h6
  have p:∀ {i j:Nat} {v:Int},(if i=j then some (0:Int)else none)=some v→v=0:=fun {i j v} h=>by
   split at h
   ·exact(Option.some.inj h).symm
   ·cases h
  have:=p h1;have:=p h2;have:=p h3;have:=p h4;have:=p h5;have:=p h6
  omega
 |k+1,roads,hk,h,hf=>by
  obtain⟨r,e,rfl⟩:∃r e,roads=r++[e]:=by
   rcases List.eq_nil_or_concat roads with q| ⟨r,e,q⟩
   ·subst q;cases hk
   ·exact⟨r,e,by simpa using q⟩
  have hr:∀e'∈r,dj n e':=fun e' he=>h e' (List.mem_append_left _ he)
  have ok:dj n e:=h e (by simp)
  have hl:r.length=k:=by simpa using hk
  have lo:=oX k r hl hr
  obtain⟨s1,s2⟩:=rT hr ok
  rw[List.length_append]at hf
  have hna:¬lk (dist n r) e.a e.b:=fun q=>by have:=s1 q;simp at hf;omega
  have ih:=pH k r hl hr (by have:=s2 hna;simp at hf;omega)
  have E:=zK hr
  have ew:dist n (r++[e])=wr e.a e.b e.len (dist n r):=by funext i j;exact wD hr ok i j
  rw[ew]
  exact Join.four (a:=e.a) (b:=e.b) (l:=e.len) ⟨E,ok.1,ok.2.1,by have:=ok.2.2.2;omega,fun i j hi hj q=>TV E hna hi hj q,fun i j hi hj q1 q2=>Zw E ok.1 ok.2.1 hna hi hj q1 q2,fun i j hi hj q1 q2=>Zv E ok.1 ok.2.1 hna hi hj q1 q2,fun i j q=>(WL _ _ _ _ _ _).mp q⟩ ih
theorem Ur{n:Nat}{d:T}(E:Eqv n d)(F:Lf n d){p q u v o:Nat}{r pu qu qv Dp Dq Du Dv:Int}(hp:p<n)(hq:q<n)(hu:u<n)(hv:v<n)(ho:o<n)(h1:d p u=some pu)(h2:d q u=some qu)(h3:d q v=some qv)
  (hDp:d p o=some Dp) (hDq:d q o=some Dq) (hDu:d u o=some Du) (hDv:d v o=some Dv) (r1:pu≤r) (r2:qu≤r) (r3:qv≤r) (d1:Dp≤Dq) (d2:Dv≤Du):∃x,d p v=some x∧x≤r:=by
 have lpv:lk d p v:=bQ E.tri hq (bQ E.tri hu (iC h1) (E.Em (iC h2))) (iC h3)
 obtain⟨x,hx⟩:=m8 lpv
 have luv:lk d u v:=bQ E.tri hq (E.Em (iC h2)) (iC h3)
 obtain⟨uv,huv⟩:=m8 luv
 have hvu:d v u=some uv:=by rw[E.sym];exact huv
 have hou:d o v=some Dv:=by rw[E.sym];exact hDv
 refine⟨x,hx,?_⟩
 have f1:=F p v u o _ _ _ _ _ _ hp hv hu ho hx hDu h1 hDv hDp hvu
 have f2:=F q o u v _ _ _ _ _ _ hq ho hu hv hDq huv h2 hou h3 (by rw[E.sym];exact hDu)
 omega
structure Wf(s:State):Prop where
 lo:2≤size s
 hi:size s≤40
 road:∀e∈s.roads,dj (size s) e∧e.len≤1000000000
 few:s.roads.length≤60
 reach:0≤s.reach∧s.reach≤1000000000000
 need:∀p∈s.places,p.need≤1000
 cost:∀p∈s.places,0≤p.cost∧p.cost≤1000000000
theorem Wf.ok{s:State}(W:Wf s):∀e∈s.roads,dj (size s) e:=fun e he=>(W.road e he).1
abbrev mH(s:State):T:=dist (size s) s.roads
theorem Wf.eqv{s:State}(W:Wf s):Eqv (size s) (mH s):=zK W.ok
theorem gW{s:State}{i j:Nat}(hi:i<size s)(hj:j<size s):cell (distances s) i j=mH s i j:=by rw[dF,zT hi hj]
theorem Iz(s:State)(i j:Nat):cell (distances s) i j=cell (distances s) j i:=by
 by_cases h:i<size s∧j<size s
 ·rw[gW h.1 h.2,gW h.2 h.1];exact Im _ _ _ _
 ·rw[dF,jQ h,jQ fun q=>h ⟨q.2,q.1⟩]
theorem fJ(s:State)(r:Int)(i j:Nat):inReach (distances s) r i j=inReach (distances s) r j i:=by
 unfold inReach;rw[Iz]
theorem pC{m:List Row}{r:Int}{i j:Nat}:inReach m r i j=true↔∃x,cell m i j=some x∧x≤r:=by
 unfold inReach
 cases h:cell m i j with
 |none=>simp
 |some x=>simp
def free(s:State):List Nat:=(List.range (size s)).filter fun v=> !(placeOf s v).barred
def gb(m:List Row)(i j:Nat):Bool:=decide (depth m i<depth m j)||(decide (depth m i=depth m j)&&decide (i<j))
theorem cZ(m:List Row)(i j:Nat):gb m i j=true↔depth m i<depth m j∨(depth m i=depth m j∧i<j):=by
 unfold gb;simp
theorem mU(m:List Row)(x y z:Nat):gb m x y=true→gb m y z=true→gb m x z=true:=by
 rw[cZ,cZ,cZ];omega
theorem Dl(m:List Row)(x y:Nat)(h:x≠y):gb m x y=true∨gb m y x=true:=by
 rw[cZ,cZ];omega
theorem qW(m:List Row)(x:Nat):gb m x x=false:=by
 cases h:gb m x x with
 |false=>rfl
 |true=>rw[cZ]at h;omega
def xx(s:State)(m:List Row):List Nat:=(free s).foldl (fun l v=>putIn (gb m) v l) []
theorem Bh{lt:Nat→Nat→Bool}(tr:∀x y z,lt x y=true→lt y z=true→lt x z=true)(tot:∀x y,x≠y→lt x y=true∨lt y x=true):∀(l acc:List Nat),(l++acc).Nodup→acc.Pairwise (fun a b=>lt a b=true)→(l.foldl (fun l v=>putIn lt v l) acc).Pairwise fun a b=>lt a b=true:=by
 intro l
 induction l with
 |nil=>intro acc _ h;exact h
 |cons x r ih=>
  intro acc hn h
  rw[List.foldl_cons]
  have hx:x∉acc:=fun z=>by
   rw[List.cons_append,List.nodup_cons]at hn
   exact hn.1 (List.mem_append_right _ z)
  refine ih _ ?_ (j9 tr tot x acc hx h)
  exact(((j8 lt x acc).append_left r).trans List.perm_middle).nodup_iff.mpr hn
theorem Kr(s:State):(free s).Nodup:=List.nodup_range.filter _
theorem l_(s:State)(m:List Row):(xx s m).Perm (free s):=by
 have:=iV (gb m) (free s) []
 rwa[List.append_nil]at this
theorem qX(s:State)(m:List Row):(xx s m).Pairwise fun a b=>gb m a b=true:=
 Bh (mU m) (Dl m) _ _ (by rw[List.append_nil];exact Kr s) .nil
theorem G5{s:State}{m:List Row}{l:List Nat}(hp:l.Perm (free s))(hs:l.Pairwise fun a b=>gb m a b=true):l=xx s m:=
 gJ (qW m) (mU m) (hp.trans (l_ s m).symm) hs (qX s m)
theorem HD{s:State}{v:Nat}:v∈free s↔v<size s∧(placeOf s v).barred=false:=by
 unfold free
 simp [List.mem_filter]
theorem RV{s:State}{m:List Row}{v:Nat}:v∈xx s m↔v<size s∧(placeOf s v).barred=false:=by
 rw[(l_ s m).mem_iff,HD]
def around(s:State)(r:Int)(v:Nat):List Nat:=(xx s (distances s)).filter fun u=>inReach (distances s) r v u
theorem dZ(s:State)(r:Int)(v:Nat):(around s r v).Perm (posts s (distances s) r v):=by
 have h:=(l_ s (distances s)).filter fun u=>inReach (distances s) r v u
 have e:(free s).filter (fun u=>inReach (distances s) r v u)=posts s (distances s) r v:=by
  unfold free posts
  rw[List.filter_filter]
  refine List.filter_congr fun u _=>?_
  rw[fJ,Bool.and_comm]
 rw[e]at h
 exact h
theorem iM(s:State)(r:Int)(v:Nat):(around s r v).Nodup:=(dZ s r v).nodup_iff.mpr (List.nodup_range.filter _)
theorem dh{s:State}{r:Int}{v u:Nat}:u∈around s r v↔(u<size s∧(placeOf s u).barred=false)∧inReach (distances s) r v u=true:=by
 unfold around
 rw[List.mem_filter,RV]
theorem oE(s:State)(r:Int)(v:Nat):(around s r v).Pairwise fun a b=>gb (distances s) a b=true:=(qX s _).filter _
theorem jO{m:List Row}:∀ {l:List Nat} {w:Nat},l.Pairwise (· < ·)→nearest m l=some w→w∈l∧∀x∈l,x≠w→gb m w x=true
 | [],w,_,h=>by cases h
 |v::r,w,hp,h=>by
  rw[List.pairwise_cons]at hp
  unfold nearest at h
  cases hr:nearest m r with
  |none=>
   rw[hr]at h
   have:v=w:=Option.some.inj h
   subst this
   have:r=[]:=by
    cases r with
    |nil=>rfl
    |cons a t=>
     exfalso
     unfold nearest at hr
     split at hr
     ·cases hr
     ·split at hr<;>cases hr
   subst this
   simp
  |some y=>
   rw[hr]at h
   obtain⟨h1,h2⟩:=jO hp.2 hr
   have h:(if depth m y<depth m v then some y else some v)=some w:=h
   split at h
   ·rename_i q
    have:y=w:=Option.some.inj h
    subst this
    refine⟨List.mem_cons_of_mem _ h1,fun x hx hne=>?_⟩
    rcases List.mem_cons.mp hx with rfl|hx
    ·rw[cZ];exact .inl q
    ·exact h2 x hx hne
   ·rename_i q
    have:v=w:=Option.some.inj h
    subst this
    refine⟨List.mem_cons_self,fun x hx hne=>?_⟩
    rcases List.mem_cons.mp hx with rfl|hx
    ·exact(hne rfl).elim
    ·have hlt:=hp.1 x hx
     by_cases e:x=y
     ·subst e;rw[cZ];omega
     ·have:=h2 x hx e
      rw[cZ]at this ⊢;omega
theorem uQ{m:List Row}:∀ {l:List Nat},nearest m l=none→l=[]
 | [],_=>rfl
 |v::r,h=>by
  unfold nearest at h
  split at h
  ·cases h
  ·split at h<;>cases h
theorem uZ{m:List Row}{l k:List Nat}(hl:l.Pairwise (· < ·))(hp:k.Perm l)(hk:k.Pairwise fun a b=>gb m a b=true):k.head? =nearest m l:=by
 cases hn:nearest m l with
 |none=>
  have:=uQ hn
  subst this
  rw[List.perm_nil.mp hp];rfl
 |some w=>
  obtain⟨h1,h2⟩:=jO hl hn
  cases k with
  |nil=>have:=List.nil_perm.mp hp;rw[this]at h1;cases h1
  |cons h t=>
   have hh:h∈l:=hp.mem_iff.mp List.mem_cons_self
   by_cases e:h=w
   ·rw[e];rfl
   ·have a:=h2 h hh e
    rcases List.mem_cons.mp (hp.mem_iff.mpr h1)with q|q
    ·exact(e q.symm).elim
    ·have b:=(List.pairwise_cons.mp hk).1 w q
     have c:=mU m _ _ _ a b
     rw[qW]at c;cases c
theorem yH(n:Nat):(List.range n).Pairwise (· < ·):=List.pairwise_lt_range
theorem uC(s:State)(m:List Row)(r:Int)(u:Nat):(posts s m r u).Pairwise (· < ·):=(yH _).filter _
theorem Ja(s:State)(r:Int)(v:Nat):(around s r v).head? =nearest (distances s) (posts s (distances s) r v):=uZ (uC _ _ _ _) (dZ s r v) (oE s r v)
theorem foldl_total(x:Posts)(k:Nat):x.foldl (fun n p=>n+p.2) k=k+total x:=by
 unfold total
 induction x generalizing k with
 |nil=>rfl
 |cons p x ih=>rw[List.foldl_cons,List.foldl_cons,ih,ih (0+p.2)];omega
theorem Nz:total []=0:=rfl
theorem iT(p:Nat×Nat)(x:Posts):total (p::x)=p.2+total x:=by
 show x.foldl (fun n p=>n+p.2) (0+p.2)=_
 rw[foldl_total];omega
theorem CV(x y:Posts):total (x++y)=total x+total y:=by
 induction x with
 |nil=>simp [Nz]
 |cons p x ih=>rw[List.cons_append,iT,iT,ih];omega
theorem jL(x:Posts):total x=(x.map Prod.snd).sum:=by
 induction x with
 |nil=>rfl
 |cons p x ih=>rw[iT,ih];simp
def cnt(x:Posts)(v:Nat):Nat:=total (x.filter fun p=>p.1==v)
theorem cnt_nil(v:Nat):cnt [] v=0:=rfl
theorem cnt_cons(p:Nat×Nat)(x:Posts)(v:Nat):cnt (p::x) v=(if p.1=v then p.2 else 0)+cnt x v:=by
 unfold cnt
 rw[List.filter_cons]
 by_cases h:p.1=v
 ·rw[if_pos (by simpa using h),if_pos h,iT]
 ·rw[if_neg (by simpa using h),if_neg h];omega
theorem cnt_append(x y:Posts)(v:Nat):cnt (x++y) v=cnt x v+cnt y v:=by unfold cnt;rw[List.filter_append,CV]
theorem Uo{l:List Nat}(hn:l.Nodup)(a k:Nat):(l.map fun v=>if a=v then k else 0).sum=if a∈l then k else 0:=by
 induction l with
 |nil=>simp
 |cons x l ih=>
  rw[List.nodup_cons]at hn
  rw[List.map_cons,List.sum_cons,ih hn.2]
  by_cases h:a=x
  ·subst h;rw[if_pos rfl,if_neg hn.1,if_pos List.mem_cons_self];omega
  ·by_cases h2:a∈l
   ·rw[if_neg h,if_pos h2,if_pos (List.mem_cons_of_mem _ h2)];omega
   ·rw[if_neg h,if_neg h2,if_neg (by simp [h,h2])]
theorem sum_add{α:Type}(l:List α)(f g:α→Nat):(l.map fun v=>f v+g v).sum=(l.map f).sum+(l.map g).sum:=by
 induction l with
 |nil=>rfl
 |cons x l ih=>rw[List.map_cons,List.map_cons,List.map_cons,List.sum_cons,List.sum_cons,List.sum_cons,ih];omega
theorem Ly{l:List Nat}(hn:l.Nodup)(x:Posts):(l.map (cnt x)).sum=total (x.filter fun p=>decide (p.1∈l)):=by
 induction x with
 |nil=>
  have:(fun v=>cnt [] v)=fun _=>0:=by funext v;rfl
  show(l.map fun v=>cnt [] v).sum=0
  rw[this]
  induction l with
  |nil=>rfl
  |cons a l ih=>rw[List.map_cons,List.sum_cons,ih (List.nodup_cons.mp hn).2]
 |cons p x ih=>
  have e:(cnt (p::x))=fun v=>(if p.1=v then p.2 else 0)+cnt x v:=by funext v;exact cnt_cons p x v
  rw[e,sum_add,Uo hn,List.filter_cons]
  have ih':(l.map fun v=>cnt x v).sum=_:=ih
  rw[ih']
  by_cases h:p.1∈l
  ·rw[if_pos h,if_pos (by simpa using h),iT]
  ·rw[if_neg h,if_neg (by simpa using h)];omega
def Gf(s:State)(x:Posts):Prop:=∀p∈x,p.1<size s∧(placeOf s p.1).barred=false
theorem Ju{s:State}{x:Posts}(h:Gf s x)(r:Int)(v:Nat):((around s r v).map (cnt x)).sum=served (distances s) r x v:=by
 rw[Ly (iM s r v)]
 unfold served
 refine congrArg total (List.filter_congr fun p hp=>?_)
 obtain⟨h1,h2⟩:=h p hp
 rw[fJ]
 cases q:inReach (distances s) r v p.1 with
 |true=>exact decide_eq_true (dh.mpr ⟨⟨h1,h2⟩,q⟩)
 |false=>exact decide_eq_false fun z=>by rw[(dh.mp z).2]at q;cases q
abbrev Short:=List (Nat×Nat×Nat)
def aL(t:Short):Posts:=t.map fun q=>(q.2.1,q.2.2)
def fZ(t:Short):List (Nat×Nat):=t.map fun q=>(q.1,q.2.1)
def ju(s:State)(r:Int)(need:Nat→Nat):List Nat→Short→Short
 | [],t=>t
 |u::rest,t=>
  if need u≤served (distances s) r (aL t) u then ju s r need rest t
  else match nearest (distances s) (posts s (distances s) r u)with
   |none=>ju s r need rest t
   |some v=>ju s r need rest (t++[(u,v,need u - served (distances s) r (aL t) u)])
theorem u_(s:State)(r:Int)(need:Nat→Nat):∀(l:List Nat) (t:Short),goOn s (distances s) r need l (aL t) (fZ t).reverse=(aL (ju s r need l t),(fZ (ju s r need l t)).reverse)
 | [],t=>rfl
 |u::rest,t=>by
  unfold goOn ju
  dsimp only
  by_cases h:need u≤served (distances s) r (aL t) u
  ·rw[if_pos h,if_pos h];exact u_ s r need rest t
  ·rw[if_neg h,if_neg h]
   cases hn:nearest (distances s) (posts s (distances s) r u)with
   |none=>exact u_ s r need rest t
   |some v=>
    have ih:=u_ s r need rest (t++[(u,v,need u - served (distances s) r (aL t) u)])
    have e1:aL (t++[(u,v,need u - served (distances s) r (aL t) u)])=aL t++[(v,need u - served (distances s) r (aL t) u)]:=by unfold aL;rw[List.map_append];rfl
    have e2:(fZ (t++[(u,v,need u - served (distances s) r (aL t) u)])).reverse=(u,v)::(fZ t).reverse:=by unfold fZ;rw[List.map_append];simp
    rw[e1,e2]at ih
    exact ih
structure jR(s:State)(r:Int)(t:Short):Prop where
 ok:∀q∈t,(q.2.1<size s∧(placeOf s q.2.1).barred=false)∧inReach (distances s) r q.2.1 q.1=true∧0<q.2.2
theorem jR.posts{s:State}{r:Int}{t:Short}(h:jR s r t):Gf s (aL t):=fun p hp=>by
 obtain⟨q,hq,rfl⟩:=List.mem_map.mp hp
 exact(h.ok q hq).1
theorem sI{s:State}{r:Int}{u v:Nat}(h:nearest (distances s) (posts s (distances s) r u)=some v):(v<size s∧(placeOf s v).barred=false)∧inReach (distances s) r v u=true:=by
 have:=(jO (uC s _ r u) h).1
 unfold posts at this
 rw[List.mem_filter]at this
 simp only[List.mem_range,Bool.and_eq_true,Bool.not_eq_true']at this
 exact⟨⟨this.1,this.2.1⟩,this.2.2⟩
theorem pF{s:State}{r:Int}{need:Nat→Nat}:∀ {l:List Nat} {t:Short},jR s r t→jR s r (ju s r need l t)
 | [],t,h=>h
 |u::rest,t,h=>by
  unfold ju
  split
  ·exact pF h
  ·rename_i hs
   cases hn:nearest (distances s) (Vbedaf.posts s (distances s) r u)with
   |none=>exact pF h
   |some v=>
    refine pF ⟨fun q hq=>?_⟩
    rcases List.mem_append.mp hq with hq|hq
    ·exact h.ok q hq
    ·rw[List.mem_singleton.mp hq]
     obtain⟨h1,h2⟩:=sI hn
     exact⟨h1,h2,by show 0<_ - _;omega⟩
theorem lO{s:State}{r:Int}{need:Nat→Nat}:∀ {l:List Nat} {t:Short},∃k,k.Sublist l∧(ju s r need l t).map (·.1)=t.map (·.1)++k
 | [],t=>⟨[],.slnil,by simp [ju]⟩
 |u::rest,t=>by
  unfold ju
  split
  ·obtain⟨k,h1,h2⟩:=lO (s:=s) (r:=r) (need:=need) (l:=rest) (t:=t)
   exact⟨k,h1.cons u,h2⟩
  ·cases hn:nearest (distances s) (Vbedaf.posts s (distances s) r u)with
   |none=>
    obtain⟨k,h1,h2⟩:=lO (s:=s) (r:=r) (need:=need) (l:=rest) (t:=t)
    exact⟨k,h1.cons u,h2⟩
   |some v=>
    obtain⟨k,h1,h2⟩:=lO (s:=s) (r:=r) (need:=need) (l:=rest) (t:=t++[(u,v,need u - served (distances s) r (aL t) u)])
    refine⟨u::k,h1.cons_cons u,?_⟩
    dsimp only
    rw[h2];simp
theorem u6(s:State)(r:Int)(need:Nat→Nat)(u:Nat):∀(l:List Nat) (t:Short),ju s r need (l++[u]) t=ju s r need [u] (ju s r need l t)
 | [],t=>rfl
 |v::rest,t=>by
  rw[List.cons_append]
  conv=>lhs;unfold ju
  conv=>rhs;arg 5;unfold ju
  split
  ·exact u6 s r need u rest t
  ·split
   ·exact u6 s r need u rest t
   ·exact u6 s r need u rest _
theorem pG(n:Nat)(x:Posts):gathered n x=((List.range n).filter fun v=>decide (0<cnt x v)).map fun v=>(v,cnt x v):=by
 unfold gathered
 rw[List.filter_map]
 refine congrArg _ (List.filter_congr fun v _=>?_)
 show(cnt x v != 0)=decide (0<cnt x v)
 by_cases h:cnt x v=0
 ·simp [h]
 ·have:0<cnt x v:=by omega
  simp [h,this]
theorem oM(n:Nat)(x:Posts):total (gathered n x)=((List.range n).map (cnt x)).sum:=by
 rw[pG,jL,List.map_map]
 have:((Prod.snd:Nat×Nat→Nat)∘fun v=>(v,cnt x v))=cnt x:=rfl
 rw[this]
 generalize List.range n=l
 induction l with
 |nil=>rfl
 |cons a l ih=>
  rw[List.filter_cons]
  by_cases h:0<cnt x a
  ·rw[if_pos (by simpa using h),List.map_cons,List.sum_cons,List.map_cons,List.sum_cons,ih]
  ·rw[if_neg (by simpa using h),List.map_cons,List.sum_cons,ih];omega
theorem GF{s:State}{x:Posts}(h:Gf s x):((List.range (size s)).map (cnt x)).sum=total x:=by
 rw[Ly List.nodup_range]
 have:x.filter (fun p=>decide (p.1∈List.range (size s)))=x:=List.filter_eq_self.mpr fun p hp=>by simpa using(h p hp).1
 rw[this]
def takes(s:State)(r:Int):List (Nat×Nat)→List Nat→List Nat
 | [],l=>l
 | (u,v)::rest,l=>if (l.any fun w=>decide (v∈around s r w))=true then takes s r rest l else takes s r rest (l++[u])
theorem mL{s:State}{r:Int}:∀(q:List (Nat×Nat)) (l:List Nat),(∀p∈q,p.2<size s∧(placeOf s p.2).barred=false)→(takes s r q l).reverse=chosen (distances s) r q l.reverse
 | [],l,_=>rfl
 | (u,v)::rest,l,h=>by
  have hv:=h (u,v) List.mem_cons_self
  have hr:∀p∈rest,p.2<size s∧(placeOf s p.2).barred=false:=fun p hp=>h p (List.mem_cons_of_mem _ hp)
  have e:(l.any fun w=>decide (v∈around s r w))=(l.reverse.any fun w=>inReach (distances s) r v w):=by
   rw[List.any_reverse]
   refine congrArg (List.any l) (funext fun w=>?_)
   cases q:inReach (distances s) r v w with
   |true=>exact decide_eq_true (dh.mpr ⟨hv,by rw[fJ];exact q⟩)
   |false=>exact decide_eq_false fun z=>by have z:=(dh.mp z).2;rw[fJ]at z;rw[z]at q;cases q
  unfold takes chosen
  rw[e]
  split
  ·exact mL rest l hr
  ·have ih:=mL (s:=s) (r:=r) rest (l++[u]) hr
   rw[List.reverse_append]at ih
   exact ih
theorem pW{s:State}{r:Int}:∀(q:List (Nat×Nat)) (l:List Nat),∃k,k.Sublist (q.map (·.1))∧takes s r q l=l++k
 | [],l=>⟨[],.slnil,by simp [takes]⟩
 | (u,v)::rest,l=>by
  unfold takes
  split
  ·obtain⟨k,h1,h2⟩:=pW (s:=s) (r:=r) rest l
   exact⟨k,h1.cons u,h2⟩
  ·obtain⟨k,h1,h2⟩:=pW (s:=s) (r:=r) rest (l++[u])
   refine⟨u::k,h1.cons_cons u,?_⟩
   rw[h2];simp
theorem rN(s:State)(r:Int)(p:Nat×Nat):∀(q:List (Nat×Nat)) (l:List Nat),takes s r (q++[p]) l=takes s r [p] (takes s r q l)
 | [],l=>rfl
 | (u,v)::rest,l=>by
  rw[List.cons_append]
  conv=>lhs;unfold takes
  conv=>rhs;arg 4;unfold takes
  split
  ·exact rN s r p rest l
  ·exact rN s r p rest _
theorem iG:∀ {l k:List Int},l.Perm k→l.Pairwise (· ≤ ·)→k.Pairwise (· ≤ ·)→l=k
 | [],k,h,_,_=>(List.nil_perm.mp h).symm
 |x::r,[],h,_,_=>absurd h (by simp)
 |x::r,y::t,h,h1,h2=>by
  have e:x=y:=by
   rcases List.mem_cons.mp (h.mem_iff.mp (List.mem_cons_self:x∈x::r))with z|z
   ·exact z
   ·rcases List.mem_cons.mp (h.mem_iff.mpr (List.mem_cons_self:y∈y::t))with w|w
    ·exact w.symm
    ·have a:=(List.pairwise_cons.mp h2).1 x z
     have b:=(List.pairwise_cons.mp h1).1 y w
     omega
  subst e
  rw[iG (List.perm_cons x |>.mp h) (List.pairwise_cons.mp h1).2 (List.pairwise_cons.mp h2).2]
abbrev Ca(l:List Nat):List Int:=l.map Int.ofNat
theorem Hd{n:Nat}{l k:List Nat}(hn:l.Nodup)(hl:∀v∈l,v<n)(hm:∀v,v∈k↔v∈l):(rising n k).Perm l:=by
 refine(List.perm_ext_iff_of_nodup (List.nodup_range.filter _) hn).mpr fun v=>?_
 show v∈(List.range n).filter (fun v=>k.contains v)↔_
 rw[List.mem_filter]
 simp only[List.mem_range,List.contains_iff_mem]
 rw[hm]
 exact⟨fun h=>h.2,fun h=>⟨hl v h,h⟩⟩
theorem Aq(n:Nat)(l:List Nat):(Ca (rising n l)).Pairwise (· ≤ ·):=by
 unfold Ca rising
 rw[List.pairwise_map]
 exact((yH n).filter _).imp fun h=>Int.ofNat_le.mpr (Nat.le_of_lt h)
theorem qU{n:Nat}{l k:List Nat}{out:List Int}(hn:l.Nodup)(hl:∀v∈l,v<n)(hm:∀v,v∈k↔v∈l)(hp:out.Perm (Ca l))(hs:out.Pairwise (· ≤ ·)):out=Ca (rising n k):=
 iG (hp.trans ((Hd hn hl hm).map _).symm) hs (Aq n k)
theorem wY(s:State)(m:List Row):(order s m).Nodup:=(kE s m).nodup_iff.mpr (List.nodup_range.filter _)
theorem dU{s:State}{m:List Row}{v:Nat}:v∈order s m↔v<size s∧0<needOf s v:=by
 rw[(kE s m).mem_iff]
 unfold kO needOf
 simp [List.mem_filter]
theorem yZ(s:State)(r:Int)(need:Nat→Nat):least s (distances s) r need=(gathered (size s) (aL (ju s r need (order s (distances s)) [])),rising (size s) (takes s r (fZ (ju s r need (order s (distances s)) [])).reverse [])):=by
 have h:=u_ s r need (order s (distances s)) []
 unfold least
 dsimp only
 have e:goOn s (distances s) r need (order s (distances s)) [] []=(aL (ju s r need (order s (distances s)) []),(fZ (ju s r need (order s (distances s)) [])).reverse):=h
 rw[e]
 dsimp only
 have ok:=(pF (need:=need) (l:=order s (distances s)) (t:=[]) (⟨fun q hq=>by cases hq⟩:jR s r [])).ok
 have hc:=mL (s:=s) (r:=r) (fZ (ju s r need (order s (distances s)) [])).reverse [] (fun p hp=>by
  obtain⟨q,hq,rfl⟩:=List.mem_map.mp (List.mem_reverse.mp hp)
  exact(ok q hq).1)
 rw[List.reverse_nil]at hc
 rw[←hc]
 refine congrArg (Prod.mk _) ?_
 unfold rising
 refine List.filter_congr fun v _=>?_
 rw[List.contains_reverse]
theorem GC(s:State)(r:Int)(need:Nat→Nat):(takes s r (fZ (ju s r need (order s (distances s)) [])).reverse []).Nodup∧∀v∈takes s r (fZ (ju s r need (order s (distances s)) [])).reverse [],v<size s:=by
 obtain⟨k,h1,h2⟩:=pW (s:=s) (r:=r) (fZ (ju s r need (order s (distances s)) [])).reverse []
 obtain⟨k',h3,h4⟩:=lO (s:=s) (r:=r) (need:=need) (l:=order s (distances s)) (t:=[])
 rw[List.nil_append]at h2
 have h4:(ju s r need (order s (distances s)) []).map (·.1)=k':=h4
 have e:(fZ (ju s r need (order s (distances s)) [])).map (·.1)=k':=by
  unfold fZ;rw[List.map_map];exact h4
 rw[List.map_reverse,e]at h1
 rw[h2]
 have nd:k'.Nodup:=(wY s _).sublist h3
 refine⟨(List.Nodup.sublist h1 ((List.reverse_perm k').nodup_iff.mpr nd)),fun v hv=>?_⟩
 exact(dU.mp (h3.subset (List.mem_reverse.mp (h1.subset hv)))).1
theorem nj{s:State}:forest s (distances s)=true↔s.roads.length+roots (size s) (tab (size s) (mH s))=size s:=by
 rw[Pb,dF];simp
theorem Wf.four{s:State}(W:Wf s)(h:forest s (distances s)=true):Lf (size s) (mH s):=pH _ s.roads rfl W.ok (nj.mp h)
theorem zf{s:State}{r:Int}{i j:Nat}(h:inReach (distances s) r i j=true):i<size s∧j<size s:=by
 rw[pC]at h
 obtain⟨x,h,_⟩:=h
 rw[dF]at h
 by_cases q:i<size s∧j<size s
 ·exact q
 ·rw[jQ q]at h;cases h
theorem ni{m:List Row}{r r':Int}{i j:Nat}(hr:r≤r')(h:inReach m r i j=true):inReach m r' i j=true:=by
 rw[pC]at h ⊢
 obtain⟨x,h,k⟩:=h
 exact⟨x,h,by omega⟩
theorem N5{s:State}(W:Wf s)(F:Lf (size s) (mH s)){r:Int}{p x u v:Nat}(h1:inReach (distances s) r p u=true)(h2:inReach (distances s) r x u=true)(h3:inReach (distances s) r x v=true)
  (dp:depth (distances s) p≤depth (distances s) x) (dv:depth (distances s) v≤depth (distances s) u):inReach (distances s) r p v=true:=by
 have E:=W.eqv
 obtain⟨hp,hu⟩:=zf h1
 obtain⟨hx,hv⟩:=zf h3
 rw[pC]at h1 h2 h3 ⊢
 obtain⟨pu,h1,r1⟩:=h1
 obtain⟨qu,h2,r2⟩:=h2
 obtain⟨qv,h3,r3⟩:=h3
 rw[gW hp hu]at h1
 rw[gW hx hu]at h2
 rw[gW hx hv]at h3
 rw[gW hp hv]
 rw[dF]at dp dv
 obtain⟨op,rp,_,ep⟩:=mC E hp
 obtain⟨ox,rx,_,ex⟩:=mC E hx
 obtain⟨ou,ru,_,eu⟩:=mC E hu
 obtain⟨ov,rv,_,ev⟩:=mC E hv
 have e1:op=ou:=mj E hp hu (iC h1) rp ru
 have e2:ox=ou:=mj E hx hu (iC h2) rx ru
 have e3:ox=ov:=mj E hx hv (iC h3) rx rv
 have ho:ou<size s:=Nat.lt_of_le_of_lt ru.le hu
 subst e2
 subst e1
 subst e3
 exact Ur E F hp hx hu hv ho h1 h2 h3 ep ex eu ev r1 r2 r3 dp dv
theorem R8:∀ {l:List Nat} {x:Nat},x∈l→x≤l.sum
 |y::l,x,h=>by
  rw[List.sum_cons]
  rcases List.mem_cons.mp h with rfl|h
  ·omega
  ·have:=R8 h;omega
theorem G7{m:List Row}{r:Int}{t:Short}{u:Nat}(hp:∀q∈t,0<q.2.2)(h:served m r (aL t) u=0):∀q∈t,inReach m r q.2.1 u=false:=by
 intro q hq
 cases e:inReach m r q.2.1 u with
 |false=>rfl
 |true=>
  exfalso
  have hm:(q.2.1,q.2.2)∈(aL t).filter fun p=>inReach m r p.1 u:=List.mem_filter.mpr ⟨List.mem_map.mpr ⟨q,hq,rfl⟩,e⟩
  unfold served at h
  rw[jL]at h
  have:q.2.2≤(((aL t).filter fun p=>inReach m r p.1 u).map Prod.snd).sum:=R8 (List.mem_map.mpr ⟨_,hm,rfl⟩)
  have:=hp q hq
  omega
theorem JM{m:List Row}{r:Int}{t:Short}{u:Nat}(h:0<served m r (aL t) u):∃q∈t,inReach m r q.2.1 u=true:=by
 unfold served at h
 cases e:(aL t).filter fun p=>inReach m r p.1 u with
 |nil=>rw[e]at h;exact absurd h (by decide)
 |cons p x=>
  have hm:p∈(aL t).filter fun p=>inReach m r p.1 u:=by rw[e];exact List.mem_cons_self
  rw[List.mem_filter]at hm
  obtain⟨q,hq,rfl⟩:=List.mem_map.mp hm.1
  exact⟨q,hq,hm.2⟩
theorem u5{s:State}{r:Int}{need:Nat→Nat}:∀ {l:List Nat} {t:Short} {q:Nat×Nat×Nat},q∈t→q∈ju s r need l t
 | [],t,q,h=>h
 |u::rest,t,q,h=>by
  unfold ju
  split
  ·exact u5 h
  ·split
   ·exact u5 h
   ·exact u5 (List.mem_append_left _ h)
theorem sZ{s:State}{r:Int}{need:Nat→Nat}:∀ {l:List Nat} {t:Short},(∀u∈l,0<need u∧posts s (distances s) r u≠[])→∀u∈l,∃q∈ju s r need l t,inReach (distances s) r q.2.1 u=true
 | [],t,_,u,hu=>by cases hu
 |v::rest,t,h,u,hu=>by
  have hr:∀u∈rest,0<need u∧posts s (distances s) r u≠[]:=fun u hu=>h u (List.mem_cons_of_mem _ hu)
  obtain⟨hv1,hv2⟩:=h v List.mem_cons_self
  unfold ju
  split
  ·rename_i q
   rcases List.mem_cons.mp hu with rfl|hu
   ·obtain⟨q,hq,e⟩:=JM (show 0<served (distances s) r (aL t) u by omega)
    exact⟨q,u5 hq,e⟩
   ·exact sZ hr u hu
  ·cases hn:nearest (distances s) (posts s (distances s) r v)with
   |none=>exact(hv2 (uQ hn)).elim
   |some w=>
    rcases List.mem_cons.mp hu with rfl|hu
    ·exact⟨_,u5 (List.mem_append_right _ (List.mem_singleton.mpr rfl)),(sI hn).2⟩
    ·exact sZ hr u hu
structure Pack(s:State)(r:Int)(t:Short):Prop where
 apart:t.Pairwise fun q q'=>inReach (distances s) r q.2.1 q'.1=false
 near:∀q∈t,nearest (distances s) (posts s (distances s) r q.1)=some q.2.1∧q.2.2=1
theorem u9{s:State}{r:Int}{need:Nat→Nat}:∀ {l:List Nat} {t:Short},(∀u∈l,need u=1)→Pack s r t→Pack s r (ju s r need l t)
 | [],t,_,h=>h
 |u::rest,t,hl,h=>by
  have hr:∀u∈rest,need u=1:=fun u hu=>hl u (List.mem_cons_of_mem _ hu)
  have h1:=hl u List.mem_cons_self
  unfold ju
  split
  ·exact u9 hr h
  ·rename_i hs
   cases hn:nearest (distances s) (posts s (distances s) r u)with
   |none=>exact u9 hr h
   |some v=>
    have hz:served (distances s) r (aL t) u=0:=by omega
    refine u9 hr ⟨List.pairwise_append.mpr ⟨h.apart,List.pairwise_singleton _ _,fun q hq q' hq'=>?_⟩,fun q hq=>?_⟩
    ·rw[List.mem_singleton.mp hq']
     exact G7 (fun q hq=>by rw[(h.near q hq).2];decide) hz q hq
    ·rcases List.mem_append.mp hq with hq|hq
     ·exact h.near q hq
     ·rw[List.mem_singleton.mp hq]
      refine⟨hn,?_⟩
      show need u - _=1
      rw[hz,h1]
theorem Hw{α:Type}[BEq α][LawfulBEq α]:∀ {l k:List α},l.Nodup→(∀x∈l,x∈k)→l.length≤k.length
 | [],_,_,_=>Nat.zero_le _
 |x::l,k,hn,h=>by
  rw[List.nodup_cons]at hn
  have hx:=h x List.mem_cons_self
  have:=Hw (l:=l) (k:=k.erase x) hn.2 fun y hy=>by
   have hne:y≠x:=fun e=>hn.1 (e▸hy)
   exact(List.mem_erase_of_ne hne).mpr (h y (List.mem_cons_of_mem _ hy))
  rw[List.length_erase_of_mem hx]at this
  have h0:0<k.length:=List.length_pos_of_mem hx
  rw[List.length_cons];omega
abbrev d8(s:State)(r:Int):Short:=ju s r (one s) (order s (distances s)) []
theorem vU{s:State}{u:Nat}(h:u∈order s (distances s)):one s u=1:=by
 have:=(dU.mp h).2
 unfold one
 rw[if_neg (by omega)]
theorem wW(s:State)(r:Int):Pack s r (d8 s r):=u9 (fun u hu=>vU hu) ⟨.nil,fun q hq=>by cases hq⟩
theorem jl{s:State}{r:Int}(hb:(blind s (distances s) r).isEmpty=true){u:Nat}(hu:u∈order s (distances s)):posts s (distances s) r u≠[]:=by
 intro e
 have hm:=dU.mp hu
 have:u∈blind s (distances s) r:=by
  unfold blind
  rw[List.mem_filter]
  refine⟨List.mem_range.mpr hm.1,?_⟩
  rw[e]
  simpa using hm.2
 rw[List.isEmpty_iff]at hb
 rw[hb]at this;cases this
theorem Ao(s:State)(r:Int):(d8 s r).Pairwise fun q q'=>before (distances s) q.1 q'.1=true:=by
 obtain⟨k,h1,h2⟩:=lO (s:=s) (r:=r) (need:=one s) (l:=order s (distances s)) (t:=[])
 have h2:(d8 s r).map (·.1)=k:=h2
 have:=(o4 s (distances s)).sublist h1
 rw[←h2,List.pairwise_map]at this
 exact this
theorem JS{s:State}{r:Int}{q:Nat×Nat×Nat}(h:q∈d8 s r):q.1∈order s (distances s):=by
 obtain⟨k,h1,h2⟩:=lO (s:=s) (r:=r) (need:=one s) (l:=order s (distances s)) (t:=[])
 have h2:(d8 s r).map (·.1)=k:=h2
 exact h1.subset (by rw[←h2];exact List.mem_map.mpr ⟨q,h,rfl⟩)
theorem Hb{s:State}(W:Wf s)(hf:forest s (distances s)=true){r r':Int}(hr:r≤r')(hb:(blind s (distances s) r).isEmpty=true):(d8 s r').length≤(d8 s r).length:=by
 have F:=W.four hf
 have P':=wW s r'
 have cov:=sZ (s:=s) (r:=r) (need:=one s) (l:=order s (distances s)) (t:=[]) fun u hu=>⟨by rw[vU hu];decide,jl hb hu⟩
 have ex:∀q':Nat×Nat×Nat,∃q:Nat×Nat×Nat,q'∈d8 s r'→q∈d8 s r∧inReach (distances s) r q.2.1 q'.1=true:=fun q'=>by
  by_cases h:q'∈d8 s r'
  ·obtain⟨q,h1,h2⟩:=cov q'.1 (JS h)
   exact⟨q,fun _=>⟨h1,h2⟩⟩
  ·exact⟨(0,0,0),fun z=>(h z).elim⟩
 let f:=fun q'=>Classical.choose (ex q')
 have hf':∀q',q'∈d8 s r'→f q'∈d8 s r∧inReach (distances s) r (f q').2.1 q'.1=true:=fun q'=>Classical.choose_spec (ex q')
 have nd:((d8 s r').map fun q'=>f q').Nodup:=by
  show List.Pairwise _ _
  rw[List.pairwise_map]
  refine(List.Pairwise.and P'.apart (Ao s r')).imp_of_mem fun {q1 q2} m1 m2 h e=>?_
  obtain⟨a1,a2⟩:=hf' q1 m1
  obtain⟨b1,b2⟩:=hf' q2 m2
  rw[←e]at b2
  have ok:=(pF (need:=one s) (l:=order s (distances s)) (t:=[]) (⟨fun q hq=>by cases hq⟩:jR s r [])).ok _ a1
  obtain⟨n1,_⟩:=P'.near q1 m1
  have x1:=ni hr a2
  have x2:=ni hr b2
  obtain⟨w1,w2⟩:=jO (uC s _ r' q1.1) n1
  have hx:(f q1).2.1∈posts s (distances s) r' q1.1:=by
   unfold posts
   rw[List.mem_filter]
   refine⟨List.mem_range.mpr ok.1.1,?_⟩
   rw[ok.1.2,x1];rfl
  have dp:depth (distances s) q1.2.1≤depth (distances s) (f q1).2.1:=by
   by_cases e2:(f q1).2.1=q1.2.1
   ·rw[e2];exact Int.le_refl _
   ·have:=w2 _ hx e2
    rw[cZ]at this;omega
  have dv:depth (distances s) q2.1≤depth (distances s) q1.1:=by
   have:=h.2
   rw[gP]at this;omega
  have z:=N5 W F (sI n1).2 x1 x2 dp dv
  rw[h.1]at z
  cases z
 have:=Hw nd (k:=d8 s r) fun x hx=>by
  obtain⟨q,hq,rfl⟩:=List.mem_map.mp hx
  exact(hf' q hq).1
 rwa[List.length_map]at this
theorem DG{s:State}{r:Int}:total (least s (distances s) r (one s)).1=(d8 s r).length:=by
 rw[yZ,oM]
 have ok:=(pF (need:=one s) (l:=order s (distances s)) (t:=[]) (⟨fun q hq=>by cases hq⟩:jR s r []))
 rw[GF ok.posts]
 have P:=(wW s r).near
 show total (aL (d8 s r))=_
 generalize d8 s r=t at P
 induction t with
 |nil=>rfl
 |cons q t ih=>
  show total ((q.2.1,q.2.2)::aL t)=_
  rw[iT,ih fun q hq=>P q (List.mem_cons_of_mem _ hq),List.length_cons]
  show q.2.2+_=_
  rw[(P q List.mem_cons_self).2];omega
theorem K_{s:State}{r r':Int}(hr:r≤r')(hb:(blind s (distances s) r).isEmpty=true):(blind s (distances s) r').isEmpty=true:=by
 rw[List.isEmpty_iff]at hb ⊢
 unfold blind at hb ⊢
 rw[List.filter_eq_nil_iff]at hb ⊢
 intro u hu h
 refine hb u hu ?_
 rw[Bool.and_eq_true]at h ⊢
 refine⟨h.1,?_⟩
 have h2:=h.2
 rw[List.isEmpty_iff]at h2 ⊢
 unfold posts at h2 ⊢
 rw[List.filter_eq_nil_iff]at h2 ⊢
 intro v hv h
 rw[Bool.and_eq_true]at h
 exact h2 v hv (by rw[Bool.and_eq_true];exact⟨h.1,ni hr h.2⟩)
def jb(s:State)(k:Nat)(r:Int):Bool:=(blind s (distances s) r).isEmpty&&decide ((d8 s r).length≤k)
theorem Dj{s:State}(W:Wf s)(hf:forest s (distances s)=true){k:Nat}{r r':Int}(hr:r≤r')(h:jb s k r=true):jb s k r'=true:=by
 unfold jb at h ⊢
 rw[Bool.and_eq_true]at h ⊢
 refine⟨K_ hr h.1,?_⟩
 have:=Hb W hf hr h.1
 have h2:=of_decide_eq_true h.2
 exact decide_eq_true (by omega)
theorem Oc(s:State)(k:Nat):radius s (distances s) k=(lengths (distances s)).find? (jb s k):=by
 unfold radius
 refine congrArg (fun f=>List.find? f (lengths (distances s))) (funext fun r=>?_)
 rw[DG];rfl
theorem rZ(x:Int):∀(l:List Int) (y:Int),y∈putNum x l↔y=x∨y∈l
 | [],y=>by simp [putNum]
 |z::l,y=>by
  unfold putNum
  split
  ·simp
  ·split
   ·rename_i h1 h2
    subst h2;simp
   ·rw[List.mem_cons,rZ x l y,List.mem_cons]
    constructor
    ·rintro(h|h|h)<;>simp [h]
    ·rintro(h|h|h)<;>simp [h]
theorem rB(x:Int):∀(l:List Int),l.Pairwise (· < ·)→(putNum x l).Pairwise (· < ·)
 | [],_=>by simp [putNum]
 |z::l,h=>by
  have h':=h
  rw[List.pairwise_cons]at h
  unfold putNum
  split
  ·rename_i q
   refine List.pairwise_cons.mpr ⟨fun y hy=>?_,h'⟩
   rcases List.mem_cons.mp hy with rfl|hy
   ·exact q
   ·have:=h.1 y hy;omega
  ·split
   ·exact h'
   ·refine List.pairwise_cons.mpr ⟨fun y hy=>?_,rB x l h.2⟩
    rcases(rZ x l y).mp hy with rfl|hy
    ·omega
    ·exact h.1 y hy
def jN(l:List Int)(r:Row):List Int:=r.foldl (fun l x=>match x with
 |none=>l
 |some z=>putNum z l) l
theorem oW:∀(r:Row) (l:List Int) (y:Int),y∈jN l r↔y∈l∨some y∈r
 | [],l,y=>by simp [jN]
 |none::r,l,y=>by
  show y∈jN l r↔_
  rw[oW r l y];simp
 |some z::r,l,y=>by
  show y∈jN (putNum z l) r↔_
  rw[oW r _ y,rZ]
  simp only[List.mem_cons,Option.some.injEq]
  constructor
  ·rintro((h|h)|h)<;>simp [h]
  ·rintro(h|h|h)<;>simp [h]
theorem j7:∀(r:Row) (l:List Int),l.Pairwise (· < ·)→(jN l r).Pairwise (· < ·)
 | [],l,h=>h
 |none::r,l,h=>j7 r l h
 |some z::r,l,h=>j7 r (putNum z l) (rB z l h)
theorem m9:∀(m:List Row) (l:List Int),l.Pairwise (· < ·)→(m.foldl jN l).Pairwise (· < ·)∧∀y,y∈m.foldl jN l↔y∈l∨∃r∈m,some y∈r
 | [],l,h=>⟨h,fun y=>by simp⟩
 |r::m,l,h=>by
  rw[List.foldl_cons]
  obtain⟨h1,h2⟩:=m9 m (jN l r) (j7 r l h)
  refine⟨h1,fun y=>?_⟩
  rw[h2,oW]
  constructor
  ·rintro((h|h)| ⟨q,h,k⟩)
   ·exact .inl h
   ·exact .inr ⟨r,List.mem_cons_self,h⟩
   ·exact .inr ⟨q,List.mem_cons_of_mem _ h,k⟩
  ·rintro(h| ⟨q,h,k⟩)
   ·exact .inl (.inl h)
   ·rcases List.mem_cons.mp h with rfl|h
    ·exact .inl (.inr k)
    ·exact .inr ⟨q,h,k⟩
theorem pq(m:List Row):(lengths m).Pairwise (· < ·):=(m9 m [] .nil).1
theorem HJ(m:List Row)(y:Int):y∈lengths m↔∃r∈m,some y∈r:=by
 have:=(m9 m [] .nil).2 y
 show y∈m.foldl jN []↔_
 simpa using this
theorem Ai:∀ {l k:List Int},l.Pairwise (· < ·)→k.Pairwise (· < ·)→(∀y,y∈l↔y∈k)→l=k:=by
 intro l k h1 h2 h
 have n1:l.Nodup:=h1.imp fun {a b} q=>(by omega:a≠b)
 have n2:k.Nodup:=h2.imp fun {a b} q=>(by omega:a≠b)
 exact iG ((List.perm_ext_iff_of_nodup n1 n2).mpr h) (h1.imp fun q=>Int.le_of_lt q) (h2.imp fun q=>Int.le_of_lt q)
def vB(m:List Row):List Int:=m.flatMap fun r=>r.filterMap id
theorem Jb(m:List Row)(y:Int):y∈vB m↔y∈lengths m:=by
 rw[HJ]
 unfold vB
 simp [List.mem_flatMap,List.mem_filterMap]
theorem yX{m:List Row}{l:List Int}(h:l.Pairwise (· < ·))(hm:∀y,y∈l↔y∈vB m):l=lengths m:=Ai h (pq m) fun y=>(hm y).trans (Jb m y)
structure P_(p:Int→Bool)(l:List Int)(lo hi:Nat):Prop where
 le:lo≤hi
 len:hi≤l.length
 low:∀i x,i<lo→l[i]? =some x→p x=false
 high:∀i x,hi≤i→l[i]? =some x→p x=true
theorem P_.start(p:Int→Bool)(l:List Int):P_ p l 0 l.length:=⟨Nat.zero_le _,Nat.le_refl _,fun i x h=>absurd h (Nat.not_lt_zero _),fun i x h e=>by
 rw[List.getElem?_eq_none h]at e;cases e⟩
theorem yD{l:List Int}(h:l.Pairwise (· < ·)){i j:Nat}{x y:Int}(hij:i≤j)(hi:l[i]? =some x)(hj:l[j]? =some y):x≤y:=by
 obtain⟨a,rfl⟩:=List.getElem?_eq_some_iff.mp hi
 obtain⟨b,rfl⟩:=List.getElem?_eq_some_iff.mp hj
 rcases Nat.lt_or_eq_of_le hij with q|rfl
 ·exact Int.le_of_lt (List.pairwise_iff_getElem.mp h i j a b q)
 ·exact Int.le_refl _
theorem P_.yes{p:Int→Bool}{l:List Int}{lo hi mid:Nat}{x:Int}(B:P_ p l lo hi)(hs:l.Pairwise (· < ·))(mono:∀a b,a∈l→b∈l→a≤b→p a=true→p b=true)(h1:lo≤mid)(h2:mid<hi)(hx:l[mid]? =some x)(hp:p x=true):P_ p l lo mid:=
 ⟨h1,by have:=B.len;omega,B.low,fun i y hi' e=>mono x y (List.mem_of_getElem? hx) (List.mem_of_getElem? e) (yD hs hi' hx e) hp⟩
theorem P_.no{p:Int→Bool}{l:List Int}{lo hi mid:Nat}{x:Int}(B:P_ p l lo hi)(hs:l.Pairwise (· < ·))(mono:∀a b,a∈l→b∈l→a≤b→p a=true→p b=true)(h2:mid<hi)(hx:l[mid]? =some x)(hp:p x=false):P_ p l (mid+1) hi:=
 ⟨h2,B.len,fun i y hi' e=>(by
  cases q:p y with
  |false=>rfl
  |true=>
   have:=mono y x (List.mem_of_getElem? e) (List.mem_of_getElem? hx) (yD hs (by omega) e hx) q
   rw[hp]at this;cases this),B.high⟩
theorem P_.done{p:Int→Bool}{l:List Int}{lo:Nat}(B:P_ p l lo lo):l.find? p=l[lo]? :=by
 cases h:l[lo]? with
 |none=>
  rw[List.find?_eq_none]
  intro x hx q
  obtain⟨i,hi,rfl⟩:=List.mem_iff_getElem.mp hx
  have:l.length≤lo:=List.getElem?_eq_none_iff.mp h
  have:=B.low i l[i] (by omega) (List.getElem?_eq_getElem hi)
  rw[this]at q;cases q
 |some x=>
  rw[List.find?_eq_some_iff_getElem]
  obtain⟨hl,e⟩:=List.getElem?_eq_some_iff.mp h
  refine⟨B.high lo x (Nat.le_refl _) h,lo,hl,e,fun j hj=>?_⟩
  have:=B.low j l[j] hj (List.getElem?_eq_getElem (by omega))
  rw[this];rfl
theorem xg{α:Type}{R:α→α→Prop}(as:∀a b,R a b→R b a→False):∀ {l k:List α},l.Pairwise R→k.Pairwise R→(∀y,y∈l↔y∈k)→l=k
 | [],[],_,_,_=>rfl
 | [],y::t,_,_,h=>by have:=(h y).mpr List.mem_cons_self;cases this
 |x::r,[],_,_,h=>by have:=(h x).mp List.mem_cons_self;cases this
 |x::r,y::t,h1,h2,h=>by
  rw[List.pairwise_cons]at h1 h2
  have e:x=y:=by
   rcases List.mem_cons.mp ((h x).mp List.mem_cons_self)with z|z
   ·exact z
   ·rcases List.mem_cons.mp ((h y).mpr List.mem_cons_self)with w|w
    ·exact w.symm
    ·exact(as _ _ (h1.1 y w) (h2.1 x z)).elim
  subst e
  have irr:∀z,R x z→z≠x:=fun z q e=>by subst e;exact as _ _ q q
  rw[xg as h1.2 h2.2 fun z=>?_]
  constructor
  ·intro hz
   rcases List.mem_cons.mp ((h z).mp (List.mem_cons_of_mem _ hz))with q|q
   ·exact(irr z (h1.1 z hz) q).elim
   ·exact q
  ·intro hz
   rcases List.mem_cons.mp ((h z).mpr (List.mem_cons_of_mem _ hz))with q|q
   ·exact(irr z (h2.1 z hz) q).elim
   ·exact q
theorem sX:∀ {l:List Int},l≠[]→leastOf l∈l∧∀x∈l,leastOf l≤x
 | [],h=>(h rfl).elim
 | [x],_=>by simp [leastOf]
 |x::y::r,_=>by
  obtain⟨h1,h2⟩:=sX (l:=y::r) (by simp)
  have e:leastOf (x::y::r)=if x<leastOf (y::r)then x else leastOf (y::r):=rfl
  rw[e]
  split
  ·rename_i q
   refine⟨List.mem_cons_self,fun z hz=>?_⟩
   rcases List.mem_cons.mp hz with rfl|hz
   ·exact Int.le_refl _
   ·have:=h2 z hz;omega
  ·rename_i q
   refine⟨List.mem_cons_of_mem _ h1,fun z hz=>?_⟩
   rcases List.mem_cons.mp hz with rfl|hz
   ·omega
   ·exact h2 z hz
theorem En{l k:List Int}{y:Int}(hp:k.Perm l)(h1:y∈k)(h2:∀x∈k,y≤x):y=leastOf l:=by
 have hne:l≠[]:=by rintro rfl;rw[List.perm_nil.mp hp]at h1;cases h1
 obtain⟨a,b⟩:=sX hne
 have c:=h2 _ (hp.mem_iff.mpr a)
 have d:=b _ (hp.mem_iff.mp h1)
 omega
def less(left:List Int)(y:Int)(l:List Nat):List Int:=l.foldl (fun a u=>a.set u (a.getD u 0 - y)) left
theorem dY(y:Int):∀(l:List Nat) (left:List Int),(less left y l).length=left.length
 | [],_=>rfl
 |u::l,left=>by
  show(less (left.set u (left.getD u 0 - y)) y l).length=_
  rw[dY y l,List.length_set]
theorem less_get(y:Int):∀(l:List Nat) (left:List Int),l.Nodup→(∀u∈l,u<left.length)→∀v,v<left.length→(less left y l).getD v 0=if v∈l then left.getD v 0 - y else left.getD v 0
 | [],left,_,_,v,_=>by simp [less]
 |u::l,left,hn,hl,v,hv=>by
  rw[List.nodup_cons]at hn
  show(less (left.set u (left.getD u 0 - y)) y l).getD v 0=_
  rw[less_get y l _ hn.2 (fun w hw=>by rw[List.length_set];exact hl w (List.mem_cons_of_mem _ hw)) v (by rw[List.length_set];exact hv)]
  have hu:=hl u List.mem_cons_self
  by_cases e:v=u
  ·subst e
   rw[if_neg hn.1,if_pos List.mem_cons_self,List.getD_eq_getElem?_getD,List.getElem?_set_self hu];rfl
  ·have q:(left.set u (left.getD u 0 - y)).getD v 0=left.getD v 0:=by
    rw[List.getD_eq_getElem?_getD,List.getElem?_set_ne (fun z=>e z.symm),←List.getD_eq_getElem?_getD]
   rw[q]
   by_cases h:v∈l
   ·rw[if_pos h,if_pos (List.mem_cons_of_mem _ h)]
   ·rw[if_neg h,if_neg (by simp [e,h])]
theorem Be{l k:List Int}(h:l.length=k.length)(h2:∀v,v<l.length→l.getD v 0=k.getD v 0):l=k:=by
 refine List.ext_getElem h fun i a b=>?_
 have:=h2 i a
 rwa[List.getD_eq_getElem?_getD,List.getElem?_eq_getElem a,List.getD_eq_getElem?_getD,List.getElem?_eq_getElem b]at this
theorem Vn{n:Nat}{left:List Int}{y:Int}{l k:List Nat}(hlen:left.length=n)(hn:l.Nodup)(hl:∀u∈l,u<n)(hp:l.Perm k):less left y l=(List.range n).map fun v=>if k.contains v=true then left.getD v 0 - y else left.getD v 0:=by
 subst hlen
 refine Be (by rw[dY,List.length_map,List.length_range]) fun v hv=>?_
 rw[dY]at hv
 rw[less_get y l left hn hl v hv,cA _ _ _ hv]
 by_cases h:v∈l
 ·rw[if_pos h,if_pos (by simpa using hp.mem_iff.mp h)]
 ·rw[if_neg h,if_neg (by simpa using fun z=>h (hp.mem_iff.mpr z))]
abbrev jm:=List (Nat×Int×Nat)
def e_(s:State)(r:Int)(u:Nat)(left:List Int)(t:jm):List Int×jm:=
 let y:=leastOf ((posts s (distances s) r u).map fun v=>left.getD v 0)
 let left':=less left y (around s r u)
 (left',t++[(u,y,((around s r u).filter fun v=>left'.getD v 0==0).headD 0)])
structure rJ(s:State)(r:Int)(p:Paying)(left:List Int)(t:jm):Prop where
 leq:p.left=left
 len:left.length=size s
 nn:∀v,0≤left.getD v 0
 paid:p.paid=(t.map fun q=>(q.1,q.2.1)).reverse
 by_:p.by_=(t.map fun q=>(q.1,q.2.2)).reverse
 ok:∀q∈t,0≤q.2.1∧q.2.2∈around s r q.1
theorem EY(s:State)(r:Int)(u:Nat)(f:Nat→Bool):((around s r u).filter f).head? =nearest (distances s) ((posts s (distances s) r u).filter f):=
 uZ ((uC _ _ _ _).filter _) ((dZ s r u).filter _) ((oE s r u).filter _)
theorem VJ{l:List Int}(h:∀x∈l,0≤x)(v:Nat):0≤l.getD v 0:=by
 rw[List.getD_eq_getElem?_getD]
 cases e:l[v]? with
 |none=>exact Int.le_refl 0
 |some x=>exact h x (List.mem_of_getElem? e)
theorem rJ.turn{s:State}{r:Int}{p:Paying}{left:List Int}{t:jm}(h:rJ s r p left t){u:Nat}(hne:posts s (distances s) r u≠[]):
  rJ s r (pay s (distances s) r p u) (e_ s r u left t).1 (e_ s r u left t).2∧(∃c,((around s r u).filter fun v=>(e_ s r u left t).1.getD v 0==0).head? =some c∧(e_ s r u left t).2=t++[(u,leastOf ((posts s (distances s) r u).map fun v=>left.getD v 0),c)]):=by
 have hap:=dZ s r u
 have hlt:∀v∈around s r u,v<size s:=fun v hv=>(dh.mp hv).1.1
 obtain⟨l1,l2⟩:=sX (l:=(posts s (distances s) r u).map fun v=>left.getD v 0) (by simpa using hne)
 generalize hy:leastOf ((posts s (distances s) r u).map fun v=>left.getD v 0)=y at l1 l2
 obtain⟨v0,hv0,ev0⟩:=List.mem_map.mp l1
 have Yo:v0∈around s r u:=hap.mem_iff.mpr hv0
 have ev0:left.getD v0 0=y:=ev0
 have get:∀v,v<size s→(less left y (around s r u)).getD v 0=if v∈around s r u then left.getD v 0 - y else left.getD v 0:=fun v hv=>less_get y _ _ (iM s r u) (fun w hw=>by rw[h.len];exact hlt w hw) v (by rw[h.len];exact hv)
 have y0:0≤y:=by rw[←ev0];exact h.nn v0
 have zero:(less left y (around s r u)).getD v0 0=0:=by rw[get v0 (hlt v0 Yo),if_pos Yo];omega
 have hmem:v0∈(around s r u).filter fun v=>(less left y (around s r u)).getD v 0==0:=List.mem_filter.mpr ⟨Yo,by rw[zero];rfl⟩
 obtain⟨c,hc⟩:∃c,((around s r u).filter fun v=>(less left y (around s r u)).getD v 0==0).head? =some c:=by
  cases e:(around s r u).filter fun v=>(less left y (around s r u)).getD v 0==0 with
  |nil=>rw[e]at hmem;cases hmem
  |cons a b=>exact⟨a,rfl⟩
 have hcm:c∈around s r u:=(List.mem_filter.mp (List.mem_of_mem_head? hc)).1
 have e0:e_ s r u left t=(less left y (around s r u),t++[(u,y,c)]):=by
  unfold e_
  dsimp only
  rw[hy]
  rw[List.headD_eq_head?_getD,hc];rfl
 rw[e0]
 refine⟨?_,c,hc,rfl⟩
 have el:less left y (around s r u)=(List.range (size s)).map fun v=>if (posts s (distances s) r u).contains v=true then left.getD v 0 - y else left.getD v 0:=Vn h.len (iM s r u) hlt hap
 have ep:pay s (distances s) r p u=⟨less left y (around s r u),(u,y)::p.paid,(u,c)::p.by_⟩:=by
  unfold pay
  dsimp only
  rw[h.leq,hy,←el,←EY,hc]
 rw[ep]
 refine⟨rfl,by rw[dY];exact h.len,fun v=>?_,by rw[h.paid];simp,by rw[h.by_];simp,fun q hq=>?_⟩
 ·by_cases hv:v<size s
  ·rw[get v hv]
   split
   ·rename_i q
    have:=l2 (left.getD v 0) (List.mem_map.mpr ⟨v,hap.mem_iff.mp q,rfl⟩)
    omega
   ·exact h.nn v
  ·have hv':(less left y (around s r u)).length≤v:=by rw[dY,h.len];omega
   rw[List.getD_eq_getElem?_getD,List.getElem?_eq_none hv'];exact Int.le_refl 0
 ·rcases List.mem_append.mp hq with hq|hq
  ·exact h.ok q hq
  ·rw[List.mem_singleton.mp hq];exact⟨y0,hcm⟩
def ji(s:State)(r:Int):List Nat→List Int→jm→List Int×jm
 | [],left,t=>(left,t)
 |u::rest,left,t=>ji s r rest (e_ s r u left t).1 (e_ s r u left t).2
theorem zm(s:State)(r:Int)(u:Nat):∀(l:List Nat) (left:List Int) (t:jm),ji s r (l++[u]) left t=e_ s r u (ji s r l left t).1 (ji s r l left t).2
 | [],left,t=>rfl
 |v::l,left,t=>zm s r u l _ _
theorem rJ.go{s:State}{r:Int}:∀ {l:List Nat} {p:Paying} {left:List Int} {t:jm},rJ s r p left t→(∀u∈l,posts s (distances s) r u≠[])→rJ s r (l.foldl (pay s (distances s) r) p) (ji s r l left t).1 (ji s r l left t).2
 | [],p,left,t,h,_=>h
 |u::l,p,left,t,h,hl=>by
  rw[List.foldl_cons]
  exact rJ.go (h.turn (hl u List.mem_cons_self)).1 fun v hv=>hl v (List.mem_cons_of_mem _ hv)
theorem p_{s:State}{r:Int}:∀(l:List Nat) (left:List Int) (t:jm),(ji s r l left t).2.map (·.1)=t.map (·.1)++l
 | [],left,t=>by simp [ji]
 |u::l,left,t=>by
  show(ji s r l _ _).2.map (·.1)=_
  rw[p_ l]
  simp [e_]
theorem Hn{s:State}(W:Wf s)(r:Int):rJ s r ⟨(List.range (size s)).map fun v=>(placeOf s v).cost,[],[]⟩ ((List.range (size s)).map fun v=>(placeOf s v).cost) []:=by
 refine⟨rfl,by simp,VJ fun x hx=>?_,rfl,rfl,fun q hq=>by cases hq⟩
 obtain⟨v,hv,rfl⟩:=List.mem_map.mp hx
 unfold placeOf
 rw[List.getD_eq_getElem?_getD,List.getElem?_eq_getElem (List.mem_range.mp hv)]
 exact(W.cost _ (List.getElem_mem _)).1
def jC(s:State)(r:Int):List (Nat×Nat)→List Nat→List Nat
 | [],l=>l
 | (u,v)::rest,l=>if (l.any fun w=>decide (w∈around s r u))=true then jC s r rest l else jC s r rest (l++[v])
theorem wL(s:State)(r:Int)(p:Nat×Nat):∀(q:List (Nat×Nat)) (l:List Nat),jC s r (q++[p]) l=jC s r [p] (jC s r q l)
 | [],l=>rfl
 | (u,v)::rest,l=>by
  rw[List.cons_append]
  conv=>lhs;unfold jC
  conv=>rhs;arg 4;unfold jC
  split
  ·exact wL s r p rest l
  ·exact wL s r p rest _
theorem lU{s:State}{r:Int}:∀(q:List (Nat×Nat)) (l:List Nat),(∀p∈q,p.2∈around s r p.1)→(∀w∈l,w<size s∧(placeOf s w).barred=false)→l.Nodup→
  (jC s r q l).reverse=bought (distances s) r q l.reverse∧(∀w∈jC s r q l,w<size s∧(placeOf s w).barred=false)∧(jC s r q l).Nodup
 | [],l,_,hl,hn=>⟨rfl,hl,hn⟩
 | (u,v)::rest,l,h,hl,hn=>by
  have hv:=h (u,v) List.mem_cons_self
  have hr:∀p∈rest,p.2∈around s r p.1:=fun p hp=>h p (List.mem_cons_of_mem _ hp)
  have e:(l.any fun w=>decide (w∈around s r u))=(l.reverse.any fun w=>inReach (distances s) r w u):=by
   rw[List.any_reverse]
   rw[Bool.eq_iff_iff,List.any_eq_true,List.any_eq_true]
   constructor
   ·rintro⟨w,hw,q⟩
    exact⟨w,hw,by rw[fJ];exact(dh.mp (of_decide_eq_true q)).2⟩
   ·rintro⟨w,hw,q⟩
    exact⟨w,hw,decide_eq_true (dh.mpr ⟨hl w hw,by rw[fJ];exact q⟩)⟩
  unfold jC bought
  rw[←e]
  split
  ·exact lU rest l hr hl hn
  ·rename_i q
   have hv':=dh.mp hv
   have hnv:v∉l:=fun z=>q (List.any_eq_true.mpr ⟨v,z,decide_eq_true hv⟩)
   have ih:=lU (s:=s) (r:=r) rest (l++[v]) hr (fun w hw=>by
    rcases List.mem_append.mp hw with hw|hw
    ·exact hl w hw
    ·rw[List.mem_singleton.mp hw];exact hv'.1) (List.nodup_append.mpr ⟨hn,by simp,fun a ha b hb e=>hnv (by rw[List.mem_singleton.mp hb]at e;exact e▸ha)⟩)
   rw[List.reverse_append]at ih
   exact ih
abbrev cO(s:State)(r:Int):jm:=(ji s r (order s (distances s)) ((List.range (size s)).map fun v=>(placeOf s v).cost) []).2
abbrev xW(t:jm):List (Nat×Nat):=t.map fun q=>(q.1,q.2.2)
theorem zW{s:State}(W:Wf s){r:Int}(hb:(blind s (distances s) r).isEmpty=true):∃p left,(order s (distances s)).foldl (pay s (distances s) r) ⟨(List.range (size s)).map fun v=>(placeOf s v).cost,[],[]⟩=p∧rJ s r p left (cO s r):=
 ⟨_,_,rfl,rJ.go (Hn W r) fun u hu=>jl hb hu⟩
theorem Ol{n:Nat}{t:jm}{k:List (Nat×Int×Nat)}(hn:(t.map (·.1)).Nodup)(hl:∀q∈t,q.1<n)(h0:∀q∈t,0≤q.2.1)(hp:k.Perm t)(hs:k.Pairwise fun a b=>a.1≤b.1):
  (k.filter fun q=>decide (0<q.2.1)).map (fun q=>(q.1,q.2.1))=((List.range n).flatMap fun u=>((t.map fun q=>(q.1,q.2.1)).reverse).filter fun q=>q.1==u).filter fun q=>q.2 != 0:=by
 have hk:(k.map (·.1)).Nodup:=(hp.map _).nodup_iff.mpr hn
 have hks:k.Pairwise fun a b=>a.1<b.1:=by
  have hk':k.Pairwise fun a b=>a.1≠b.1:=by
   have:List.Pairwise _ (k.map (·.1)):=hk
   rwa[List.pairwise_map]at this
  exact(List.Pairwise.and hs hk').imp fun h=>by omega
 refine xg (R:=fun(a b:Nat×Int)=>a.1<b.1) (fun a b h1 h2=>by omega) ?_ ?_ fun y=>?_
 ·rw[List.pairwise_map];exact hks.filter _
 ·refine List.Pairwise.filter _ ?_
  rw[List.pairwise_flatMap]
  refine⟨fun u _=>?_,?_⟩
  ·have nd:(((t.map fun q=>(q.1,q.2.1)).reverse)).Pairwise fun a b=>a.1≠b.1:=by
    rw[List.pairwise_reverse,List.pairwise_map]
    have:List.Pairwise _ (t.map (·.1)):=hn
    rw[List.pairwise_map]at this
    exact this.imp fun h=>h.symm
   refine(nd.filter _).imp_of_mem fun {a b} ha hb h=>?_
   have e1:=(List.mem_filter.mp ha).2
   have e2:=(List.mem_filter.mp hb).2
   simp only[beq_iff_eq]at e1 e2
   exact(h (e1.trans e2.symm)).elim
  ·refine(yH n).imp fun {u v} h x hx y hy=>?_
   have e1:=(List.mem_filter.mp hx).2
   have e2:=(List.mem_filter.mp hy).2
   simp only[beq_iff_eq]at e1 e2
   omega
 ·rw[List.mem_map,List.mem_filter,List.mem_flatMap]
  constructor
  ·rintro⟨q,hq,rfl⟩
   rw[List.mem_filter]at hq
   have hq2:=of_decide_eq_true hq.2
   have hqt:=hp.mem_iff.mp hq.1
   refine⟨⟨q.1,List.mem_range.mpr (hl q hqt),List.mem_filter.mpr ⟨List.mem_reverse.mpr (List.mem_map.mpr ⟨q,hqt,rfl⟩),by simp⟩⟩,?_⟩
   show(q.2.1 != 0)=true
   rw[bne_iff_ne];omega
  ·rintro⟨⟨u,_,hy⟩,h2⟩
   have hy:=(List.mem_filter.mp hy).1
   obtain⟨q,hq,rfl⟩:=List.mem_map.mp (List.mem_reverse.mp hy)
   have h2:(q.2.1 != 0)=true:=h2
   rw[bne_iff_ne]at h2
   have:=h0 q hq
   exact⟨q,List.mem_filter.mpr ⟨hp.mem_iff.mpr hq,decide_eq_true (by omega)⟩,rfl⟩
theorem Iw{s:State}(W:Wf s){r:Int}(hb:(blind s (distances s) r).isEmpty=true){k:List (Nat×Int×Nat)}(hp:k.Perm (cO s r))(hs:k.Pairwise fun a b=>a.1≤b.1):
  cheapest s (distances s) r=(rising (size s) (jC s r (xW (cO s r)).reverse []),(k.filter fun q=>decide (0<q.2.1)).map fun q=>(q.1,q.2.1)):=by
 obtain⟨p,left,e,ok⟩:=zW W hb
 have who:=p_ (s:=s) (r:=r) (order s (distances s)) ((List.range (size s)).map fun v=>(placeOf s v).cost) []
 have who:(cO s r).map (·.1)=order s (distances s):=who
 have b:=lU (s:=s) (r:=r) (xW (cO s r)).reverse [] (fun p hp=>by
  obtain⟨q,hq,rfl⟩:=List.mem_map.mp (List.mem_reverse.mp hp)
  exact(ok.ok q hq).2) (fun w hw=>by cases hw) .nil
 unfold cheapest
 rw[e]
 dsimp only
 rw[Ol (n:=size s) (t:=cO s r) (by rw[who];exact wY s _) (fun q hq=>(dU.mp (by rw[←who];exact List.mem_map.mpr ⟨q,hq,rfl⟩)).1) (fun q hq=>(ok.ok q hq).1) hp hs,ok.paid]
 refine congrArg (fun z=>Prod.mk z _) ?_
 rw[ok.by_]
 have b1:=b.1
 rw[List.reverse_nil]at b1
 have b1':bought (distances s) r (xW (cO s r)).reverse []=_:=b1.symm
 rw[b1']
 unfold rising
 exact List.filter_congr fun v _=>by rw[List.contains_reverse]
theorem KZ{s:State}(W:Wf s){r:Int}(hb:(blind s (distances s) r).isEmpty=true):(jC s r (xW (cO s r)).reverse []).Nodup∧∀v∈jC s r (xW (cO s r)).reverse [],v<size s:=by
 obtain⟨p,left,e,ok⟩:=zW W hb
 have b:=lU (s:=s) (r:=r) (xW (cO s r)).reverse [] (fun p hp=>by
  obtain⟨q,hq,rfl⟩:=List.mem_map.mp (List.mem_reverse.mp hp)
  exact(ok.ok q hq).2) (fun w hw=>by cases hw) .nil
 exact⟨b.2.2,fun v hv=>(b.2.1 v hv).1⟩
def mask(p:Nat→Bool):Nat→Nat
 |0=>0
 |n+1=>mask p n+(if p n=true then 2 ^ n else 0)
theorem iU(p:Nat→Bool)(n:Nat):mask p (n+1)=mask p n+(if p n=true then 2 ^ n else 0):=rfl
theorem Mx(p:Nat→Bool):∀n,mask p n<2 ^ n
 |0=>by simp [mask]
 |n+1=>by
  have:=Mx p n
  rw[iU]
  have e:2 ^ (n+1)=2 ^ n+2 ^ n:=by rw[Nat.pow_succ];omega
  split<;>omega
theorem uW(p:Nat→Bool):∀n i,(mask p n).testBit i=(decide (i<n)&&p i)
 |0,i=>by simp [mask]
 |n+1,i=>by
  have lt:=Mx p n
  have ih:=uW p n
  have e:mask p (n+1)=2 ^ n*(if p n=true then 1 else 0)+mask p n:=by
   rw[iU]
   split<;>omega
  rw[e,Nat.testBit_two_pow_mul_add _ lt]
  by_cases h:i<n
  ·rw[if_pos h,ih,decide_eq_true h,decide_eq_true (show i<n+1 by omega)]
  ·rw[if_neg h]
   by_cases h2:i=n
   ·subst h2
    rw[Nat.sub_self,decide_eq_true (show i<i+1 by omega)]
    cases p i<;>rfl
   ·rw[decide_eq_false (show ¬i<n+1 by omega)]
    have:i - n≠0:=by omega
    split
    ·rw[Bool.false_and]
     obtain⟨k,hk⟩:∃k,i - n=k+1:=⟨i - n - 1,by omega⟩
     rw[hk,Nat.testBit_succ];simp
    ·simp
theorem RX(p q:Nat→Bool)(n:Nat):mask p n &&& mask q n=mask (fun v=>p v&&q v) n:=by
 refine Nat.eq_of_testBit_eq fun i=>?_
 rw[Nat.testBit_and,uW,uW,uW]
 cases decide (i<n)<;>cases p i<;>cases q i<;>rfl
theorem yV(p q:Nat→Bool):∀n,mask p n=mask (fun v=>p v&&q v) n+mask (fun v=>p v&& !q v) n
 |0=>rfl
 |n+1=>by
  rw[iU,iU,iU,yV p q n]
  cases p n<;>cases q n<;>simp<;>omega
theorem El(p q:Nat→Bool)(n:Nat):(mask p n:Int) - ((mask p n &&& mask q n:Nat):Int)=(mask (fun v=>p v&& !q v) n:Int):=by
 rw[RX]
 have:=yV p q n
 omega
theorem Ce(p:Nat→Bool):∀n,mask p n=0↔∀v,v<n→p v=false
 |0=>by simp [mask]
 |n+1=>by
  have ih:=Ce p n
  have h0:0<2 ^ n:=Nat.two_pow_pos n
  rw[iU]
  constructor
  ·intro h v hv
   by_cases e:v=n
   ·subst e
    cases q:p v with
    |false=>rfl
    |true=>rw[q]at h;simp at h
   ·exact ih.mp (by omega) v (by omega)
  ·intro h
   rw[ih.mpr fun v hv=>h v (by omega),h n (by omega)];rfl
theorem HF(p:Nat→Bool)(n:Nat):(((List.range n).filter p).map fun v=>(1:Int)*2 ^ v).sum=(mask p n:Int):=by
 induction n with
 |zero=>rfl
 |succ n ih=>
  rw[List.range_succ,List.filter_append,List.map_append,List.sum_append,ih,iU]
  rw[List.filter_cons]
  cases p n
  ·simp
  ·simp
def yd(n:Nat)(S:List (Nat→Bool)):Nat→Nat→(Nat→Bool)→Option (List Nat)
 |0,_,W=>if mask W n=0 then some []else none
 |c+1,st,W=>(List.range' st (S.length - st)).findSome? fun i=>(yd n S c (i+1) (fun v=>W v&& !(S.getD i fun _=>false) v)).map (i:: ·)
def sees(n:Nat)(see:Nat→Nat→Bool)(W:Nat→Bool)(l:List Nat):Bool:=(List.range n).all fun v=> !W v||l.any fun p=>see p v
theorem N6(n:Nat)(see:Nat→Nat→Bool)(W:Nat→Bool)(x:Nat)(l:List Nat):sees n see W (x::l)=sees n see (fun v=>W v&& !see x v) l:=by
 unfold sees
 refine congrArg (List.all (List.range n)) (funext fun v=>?_)
 rw[List.any_cons]
 show _=(!(W v&& !see x v)||_)
 generalize W v=a
 generalize see x v=b
 generalize (l.any fun p=>see p v)=c
 cases a<;>cases b<;>cases c<;>rfl
theorem Q0(n:Nat)(see:Nat→Nat→Bool)(W:Nat→Bool):sees n see W []=decide (mask W n=0):=by
 rw[Bool.eq_iff_iff,decide_eq_true_iff,Ce]
 unfold sees
 rw[List.all_eq_true]
 constructor
 ·intro h v hv
  have:=h v (List.mem_range.mpr hv)
  simpa using this
 ·intro h v hv
  have:=h v (List.mem_range.mp hv)
  simp [this]
theorem wg(n:Nat)(see:Nat→Nat→Bool)(L:List Nat):∀(c:Nat) (k st:Nat) (W:Nat→Bool),L.length - st=k→(yd n (L.map see) c st W).map (fun l=>l.map fun i=>L.getD i 0)=(parts c (L.drop st)).find? (sees n see W)
 |0,k,st,W,_=>by
  have e1:yd n (L.map see) 0 st W=if mask W n=0 then some []else none:=by unfold yd;rfl
  have e2:parts 0 (L.drop st)=[[]]:=by unfold parts;rfl
  rw[e1,e2,List.find?_cons,Q0]
  by_cases h:mask W n=0
  ·rw[if_pos h,decide_eq_true h];rfl
  ·rw[if_neg h,decide_eq_false h];rfl
 |c+1,0,st,W,hk=>by
  have:L.drop st=[]:=List.drop_eq_nil_of_le (by omega)
  rw[this]
  show((List.range' st ((L.map see).length - st)).findSome? _).map _=_
  rw[List.length_map,hk];rfl
 |c+1,k+1,st,W,hk=>by
  have hst:st<L.length:=by omega
  have ed:L.drop st=L[st]::L.drop (st+1):=List.drop_eq_getElem_cons hst
  have ih:=wg n see L (c+1) k (st+1) W (by omega)
  have ih0:=wg n see L c k (st+1) (fun v=>W v&& !see L[st] v) (by omega)
  rw[ed]
  show _=((parts c (L.drop (st+1))).map (fun l=>L[st]::l)++parts (c+1) (L.drop (st+1))).find? _
  rw[List.find?_append,List.find?_map,←ih]
  have ef:(sees n see W∘fun l=>L[st]::l)=sees n see (fun v=>W v&& !see L[st] v):=funext fun l=>N6 n see W _ l
  rw[ef,←ih0]
  show((List.range' st ((L.map see).length - st)).findSome? _).map _=_
  rw[List.length_map,hk,List.range'_succ,List.findSome?_cons]
  have eS:(L.map see).getD st (fun _=>false)=see L[st]:=by
   rw[List.getD_eq_getElem?_getD,List.getElem?_map,List.getElem?_eq_getElem hst];rfl
  have hk2:L.length - (st+1)=k:=by omega
  rw[eS]
  cases q:yd n (L.map see) c (st+1) (fun v=>W v&& !see L[st] v)with
  |some l=>
   have eL:L.getD st 0=L[st]:=by rw[List.getD_eq_getElem?_getD,List.getElem?_eq_getElem hst];rfl
   show some ((st::l).map fun i=>L.getD i 0)=(some (L[st]::l.map fun i=>L.getD i 0)).or _
   rw[List.map_cons,eL];rfl
  |none=>
   show _=(none:Option (List Nat)).or _
   simp only[Option.map_none,Option.none_or]
   show _=(yd n (L.map see) (c+1) (st+1) W).map _
   conv=>rhs;unfold yd
   rw[List.length_map,hk2]
theorem SX(s:State)(m:List Row)(r:Int):∀(f k:Nat),few s m r f k=(List.range' k f).findSome? fun c=>(parts c ((List.range (size s)).filter fun v=> !(placeOf s v).barred)).find? (coversAll s m r)
 |0,_=>rfl
 |f+1,k=>by
  unfold few
  rw[List.range'_succ,List.findSome?_cons,SX s m r f (k+1)]
  cases List.find? (coversAll s m r) (parts k (List.filter (fun v=> !(placeOf s v).barred) (List.range (size s))))<;>rfl
theorem zP(s:State)(m:List Row)(r:Int):coversAll s m r=sees (size s) (fun p v=>inReach m r p v) fun v=>decide (0<needOf s v):=by
 funext l
 unfold coversAll sees
 refine congrArg (List.all _) (funext fun v=>?_)
 by_cases h:needOf s v=0
 ·simp [h]
 ·have:0<needOf s v:=by omega
  simp [h,this]
theorem Nb(s:State)(r:Int)(k:Nat):few s (distances s) r (k+1) 0=(List.range (k+1)).findSome? fun c=>
  (yd (size s) ((free s).map fun p v=>inReach (distances s) r p v) c 0 fun v=>decide (0<needOf s v)).map fun l=>l.map fun i=>(free s).getD i 0:=by
 rw[SX,List.range_eq_range' (n:=k+1)]
 refine congrArg (fun f=>List.findSome? f (List.range' 0 (k+1))) (funext fun c=>?_)
 rw[zP,wg (size s) (fun p v=>inReach (distances s) r p v) (free s) c (free s).length 0 _ (by omega),List.drop_zero]
 rfl
theorem zp{n:Nat}{S:List (Nat→Bool)}:∀ {c st:Nat} {W:Nat→Bool} {l:List Nat},yd n S c st W=some l→(∀i∈l,i<S.length)∧l.length=c
 |0,st,W,l,h=>by
  unfold yd at h
  split at h
  ·have:=(Option.some.inj h).symm
   subst this
   exact⟨fun i hi=>(by cases hi),rfl⟩
  ·cases h
 |c+1,st,W,l,h=>by
  unfold yd at h
  obtain⟨i,hi,e⟩:=List.exists_of_findSome?_eq_some h
  cases q:yd n S c (i+1) (fun v=>W v&& !(S.getD i fun _=>false) v)with
  |none=>rw[q]at e;cases e
  |some k=>
   rw[q]at e
   have e:i::k=l:=Option.some.inj e
   subst e
   obtain⟨h1,h2⟩:=zp q
   rw[List.mem_range'_1]at hi
   refine⟨fun j hj=>?_,by rw[List.length_cons,h2]⟩
   rcases List.mem_cons.mp hj with rfl|hj
   ·omega
   ·exact h1 j hj
theorem fP{s:State}{x:Int}:okV s x=true↔0≤x∧x< (size s:Int):=by
 unfold okV inR
 rw[Bool.and_eq_true,decide_eq_true_iff,decide_eq_true_iff]
 constructor
 ·rintro⟨h,k⟩;exact⟨h,by have:Int.ofNat (size s)=(size s:Int):=rfl;omega⟩
 ·rintro⟨h,k⟩;exact⟨h,by have:Int.ofNat (size s)=(size s:Int):=rfl;omega⟩
theorem b_{x lo hi:Int}:inR x lo hi=true↔lo≤x∧x≤hi:=by
 unfold inR
 rw[Bool.and_eq_true,decide_eq_true_iff,decide_eq_true_iff]
def placesOk(s:State)(l:List Int):Bool:=l.all (okV s)&&decide l.Nodup
theorem oZ(s:State):∀l:List Int,placesIn s l=if placesOk s l=true then some (l.map Int.toNat)else none
 | []=>by simp [placesIn,placesOk]
 |v::r=>by
  have ih:=oZ s r
  unfold placesIn
  rw[ih]
  by_cases h:placesOk s r=true
  ·rw[if_pos h]
   show(if okV s v=true∧(r.map Int.toNat).contains v.toNat=false then some (v.toNat::r.map Int.toNat)else none)=_
   unfold placesOk at h ⊢
   rw[Bool.and_eq_true,List.all_eq_true,decide_eq_true_iff]at h
   by_cases hv:okV s v=true
   ·have e:(r.map Int.toNat).contains v.toNat=decide (v∈r):=by
     rw[Bool.eq_iff_iff,List.contains_iff_mem,decide_eq_true_iff,List.mem_map]
     constructor
     ·rintro⟨w,hw,e⟩
      have h1:=fP.mp hv
      have h2:=fP.mp (h.1 w hw)
      have:w=v:=by omega
      exact this▸hw
     ·intro hw;exact⟨v,hw,rfl⟩
    rw[e]
    by_cases hm:v∈r
    ·rw[decide_eq_true hm,if_neg (by simp),if_neg]
     rw[Bool.and_eq_true,decide_eq_true_iff,List.nodup_cons]
     exact fun q=>q.2.1 hm
    ·rw[decide_eq_false hm,if_pos ⟨hv,rfl⟩,if_pos]
     ·rfl
     ·rw[Bool.and_eq_true,List.all_eq_true,decide_eq_true_iff,List.nodup_cons]
      exact⟨fun x hx=>by rcases List.mem_cons.mp hx with rfl|hx;exact hv;exact h.1 x hx,hm,h.2⟩
   ·rw[if_neg fun q=>hv q.1,if_neg]
    rw[Bool.and_eq_true,List.all_eq_true]
    exact fun q=>hv (q.1 v List.mem_cons_self)
  ·rw[if_neg h]
   show none=_
   rw[if_neg]
   unfold placesOk at h ⊢
   rw[Bool.and_eq_true,List.all_eq_true,decide_eq_true_iff]at h ⊢
   exact fun q=>h ⟨fun x hx=>q.1 x (List.mem_cons_of_mem _ hx),(List.nodup_cons.mp q.2).2⟩
def evs:List Int→List Int
 | []=>[]
 | [a]=>[a]
 |a::_::r=>a::evs r
def Ba:List Int→List Int
 | []=>[]
 | [_]=>[]
 |_::b::r=>b::Ba r
theorem ye:∀l:List Int,(evs l).length=(l.length+1) / 2
 | []=>rfl
 | [a]=>by simp [evs]
 |a::b::r=>by show(evs r).length+1=_;rw[ye r];simp only[List.length_cons];omega
theorem uO:∀l:List Int,(Ba l).length=l.length / 2
 | []=>rfl
 | [a]=>by simp [Ba]
 |a::b::r=>by show(Ba r).length+1=_;rw[uO r];simp only[List.length_cons];omega
theorem Nf:∀(l:List Int) (i:Nat),(evs l)[i]? =l[2*i]?
 | [],i=>by simp [evs]
 | [a],0=>rfl
 | [a],i+1=>by simp [evs]
 |a::b::r,0=>rfl
 |a::b::r,i+1=>by
  show(evs r)[i]? =_
  rw[Nf r i]
  have:2*(i+1)=2*i+2:=by omega
  rw[this];rfl
theorem Mq:∀(l:List Int) (i:Nat),(Ba l)[i]? =l[2*i+1]?
 | [],i=>by simp [Ba]
 | [a],i=>by simp [Ba]
 |a::b::r,0=>rfl
 |a::b::r,i+1=>by
  show(Ba r)[i]? =_
  rw[Mq r i]
  have:2*(i+1)+1=2*i+1+2:=by omega
  rw[this];rfl
def pairs(l:List Int):List (Nat×Int):=((evs l).map Int.toNat).zip (Ba l)
def pairsOk(s:State)(most:Int)(l:List Int):Bool:=decide (l.length % 2=0)&&(placesOk s (evs l)&&(Ba l).all fun k=>inR k 0 most)
theorem nA:∀l:List Int,l.length % 2=0→(pairs l).map (·.1)=(evs l).map Int.toNat:=fun l h=>by
 unfold pairs
 rw[←List.unzip_fst,List.unzip_zip (by rw[List.length_map,ye,uO];omega)]
theorem km(s:State)(most:Int):∀l:List Int,pairsIn s most l=if pairsOk s most l=true then some (pairs l)else none
 | []=>by
  have:pairsOk s most []=true:=by simp [pairsOk,placesOk,evs,Ba]
  rw[if_pos this];rfl
 | [a]=>by
  have:¬pairsOk s most [a]=true:=by simp [pairsOk]
  rw[if_neg this];rfl
 |v::k::r=>by
  have ih:=km s most r
  unfold pairsIn
  rw[ih]
  by_cases h:pairsOk s most r=true
  ·rw[if_pos h]
   show(if okV s v=true∧inR k 0 most=true∧((pairs r).any fun p=>p.1==v.toNat)=false then some ((v.toNat,k)::pairs r)else none)=_
   have h':=h
   unfold pairsOk placesOk at h'
   rw[Bool.and_eq_true,Bool.and_eq_true,Bool.and_eq_true,decide_eq_true_iff,decide_eq_true_iff,List.all_eq_true,List.all_eq_true]at h'
   obtain⟨h1,⟨h2,h3⟩,h4⟩:=h'
   have key:pairsOk s most (v::k::r)=true↔okV s v=true∧inR k 0 most=true∧v∉evs r:=by
    unfold pairsOk placesOk
    show(decide ((r.length+1+1) % 2=0)&&(((v::evs r).all (okV s)&&decide (v::evs r).Nodup)&&(k::Ba r).all fun k=>inR k 0 most))=true↔_
    rw[Bool.and_eq_true,Bool.and_eq_true,Bool.and_eq_true,decide_eq_true_iff,decide_eq_true_iff,List.all_eq_true,List.all_eq_true,List.nodup_cons]
    constructor
    ·rintro⟨_,⟨a,b⟩,c⟩
     exact⟨a v List.mem_cons_self,c k List.mem_cons_self,b.1⟩
    ·rintro⟨a,b,c⟩
     exact⟨by omega,⟨fun x hx=>by rcases List.mem_cons.mp hx with rfl|hx;exact a;exact h2 x hx,c,h3⟩,fun x hx=>by rcases List.mem_cons.mp hx with rfl|hx;exact b;exact h4 x hx⟩
   have e:okV s v=true→(((pairs r).any fun p=>p.1==v.toNat)=false↔v∉evs r):=fun hv=>by
    rw[←Bool.not_eq_true,List.any_eq_true]
    refine not_congr ?_
    constructor
    ·rintro⟨p,hp,e⟩
     have hm:p.1∈(pairs r).map (·.1):=List.mem_map.mpr ⟨p,hp,rfl⟩
     rw[nA r h1,List.mem_map]at hm
     obtain⟨w,hw,e2⟩:=hm
     have e:=eq_of_beq e
     have a1:=fP.mp hv
     have a2:=fP.mp (h2 w hw)
     have:w=v:=by omega
     exact this▸hw
    ·intro hm
     have:v.toNat∈(pairs r).map (·.1):=by rw[nA r h1];exact List.mem_map.mpr ⟨v,hm,rfl⟩
     obtain⟨p,hp,e⟩:=List.mem_map.mp this
     exact⟨p,hp,beq_iff_eq.mpr e⟩
   by_cases hc:okV s v=true∧inR k 0 most=true∧v∉evs r
   ·rw[if_pos ⟨hc.1,hc.2.1,(e hc.1).mpr hc.2.2⟩,if_pos (key.mpr hc)];rfl
   ·rw[if_neg fun q=>hc ⟨q.1,q.2.1,(e q.1).mp q.2.2⟩,if_neg fun q=>hc (key.mp q)]
  ·rw[if_neg h]
   show none=_
   rw[if_neg]
   intro q
   refine h ?_
   unfold pairsOk placesOk at q ⊢
   have q:(decide ((r.length+1+1) % 2=0)&&(((v::evs r).all (okV s)&&decide (v::evs r).Nodup)&&(k::Ba r).all fun k=>inR k 0 most))=true:=q
   rw[Bool.and_eq_true,Bool.and_eq_true,Bool.and_eq_true,decide_eq_true_iff,decide_eq_true_iff,List.all_eq_true,List.all_eq_true,List.nodup_cons]at q
   rw[Bool.and_eq_true,Bool.and_eq_true,Bool.and_eq_true,decide_eq_true_iff,decide_eq_true_iff,List.all_eq_true,List.all_eq_true]
   exact⟨by omega,⟨fun x hx=>q.2.1.1 x (List.mem_cons_of_mem _ hx),q.2.1.2.2⟩,fun x hx=>q.2.2 x (List.mem_cons_of_mem _ hx)⟩
structure We(s:State)(most:Int)(x:List (Nat×Int)):Prop where
 lt:∀p∈x,p.1<size s
 nn:∀p∈x,0≤p.2∧p.2≤most
 nd:(x.map (·.1)).Nodup
theorem yN{s:State}{most:Int}{l:List Int}(h:pairsOk s most l=true):We s most (pairs l):=by
 unfold pairsOk placesOk at h
 rw[Bool.and_eq_true,Bool.and_eq_true,Bool.and_eq_true,decide_eq_true_iff,decide_eq_true_iff,List.all_eq_true,List.all_eq_true]at h
 obtain⟨h1,⟨h2,h3⟩,h4⟩:=h
 refine⟨fun p hp=>?_,fun p hp=>?_,?_⟩
 ·obtain⟨w,hw,e⟩:=List.mem_map.mp (List.of_mem_zip hp).1
  have:=fP.mp (h2 w hw)
  omega
 ·exact b_.mp (h4 _ (List.of_mem_zip hp).2)
 ·rw[nA l h1]
  show List.Pairwise _ _
  rw[List.pairwise_map]
  refine List.Pairwise.imp_of_mem (fun {a b} ha hb hne e=>?_) h3
  have a1:=fP.mp (h2 a ha)
  have a2:=fP.mp (h2 b hb)
  exact hne (by omega)
theorem Ks(l:List Int)(k:Int):l.foldl (fun n x=>n+x) k=k+l.sum:=by
 induction l generalizing k with
 |nil=>simp
 |cons x l ih=>rw[List.foldl_cons,ih,List.sum_cons];omega
theorem xY(l:List Int):sumI l=l.sum:=by
 unfold sumI;rw[Ks];omega
theorem ul{α:Type}(l:List α)(f:α→Nat):(l.map fun v=>(f v:Int)).sum=((l.map f).sum:Nat):=by
 induction l with
 |nil=>rfl
 |cons x l ih=>rw[List.map_cons,List.map_cons,List.sum_cons,List.sum_cons,ih];simp
def gj(s:State)(r:Int)(v:Nat)(x:List (Nat×Int)):Int:=((x.filter fun p=>inReach (distances s) r v p.1).map (·.2)).sum
theorem yF{s:State}{r:Int}{x:List (Nat×Int)}(h:∀p∈x,0≤p.2)(v:Nat):(served (distances s) r (x.map fun p=>(p.1,p.2.toNat)) v:Int)=gj s r v x:=by
 unfold served gj
 rw[List.filter_map,jL,List.map_map]
 have e:(x.filter ((fun p:Nat×Nat=>inReach (distances s) r p.1 v)∘fun p=>(p.1,p.2.toNat)))=x.filter fun p=>inReach (distances s) r v p.1:=
  List.filter_congr fun p _=>fJ s r p.1 v
 rw[e,←ul]
 refine congrArg List.sum (List.map_congr_left fun p hp=>?_)
 have:=h p (List.mem_filter.mp hp).1
 show((p.2.toNat:Nat):Int)=p.2
 omega
theorem Rx(s:State)(r:Int)(v:Nat)(x:List (Nat×Int)):sumI ((x.filter fun q=>inReach (distances s) r v q.1).map fun q=>q.2)=gj s r v x:=xY _
structure mG(f:Nat→Int)(l:List Nat)(w:Nat):Prop where
 ex:∃i:Nat,l[i]? =some w∧∀(j x:Nat),l[j]? =some x→f w≤f x∧(j<i→f w<f x)
theorem BR(m:List Row)(u:Nat):∀l:List Nat,server m u l=none∧(l.filter fun v=>(cell m v u).isSome)=[]∨
  ∃w d,server m u l=some (w,d)∧cell m w u=some d∧mG (fun v=>(cell m v u).getD 0) (l.filter fun v=>(cell m v u).isSome) w
 | []=> .inl ⟨rfl,rfl⟩
 |v::r=>by
  have ih:=BR m u r
  unfold server
  cases hv:cell m v u with
  |none=>
   dsimp only
   rw[List.filter_cons,if_neg (by rw[hv];simp)]
   exact ih
  |some d=>
   rw[List.filter_cons,if_pos (by rw[hv];rfl)]
   rcases ih with⟨h1,h2⟩| ⟨w,e,h1,h2,i,h3,h4⟩
   ·rw[h1]
    refine .inr ⟨v,d,rfl,hv,⟨0,rfl,fun j x hj=>?_⟩⟩
    rw[h2]at hj
    cases j with
    |zero=>have:=Option.some.inj hj;subst this;exact⟨Int.le_refl _,fun h=>absurd h (Nat.lt_irrefl _)⟩
    |succ j=>simp at hj
   ·rw[h1]
    dsimp only
    by_cases hlt:e<d
    ·rw[if_pos hlt]
     refine .inr ⟨w,e,rfl,h2,⟨i+1,h3,fun j x hj=>?_⟩⟩
     cases j with
     |zero=>
      have:=Option.some.inj hj;subst this
      simp only[hv,h2,Option.getD_some]
      exact⟨by omega,fun _=>hlt⟩
     |succ j=>exact⟨(h4 j x hj).1,fun h=>(h4 j x hj).2 (by omega)⟩
    ·rw[if_neg hlt]
     refine .inr ⟨v,d,rfl,hv,⟨0,rfl,fun j x hj=>?_⟩⟩
     cases j with
     |zero=>have:=Option.some.inj hj;subst this;exact⟨Int.le_refl _,fun h=>absurd h (Nat.lt_irrefl _)⟩
     |succ j=>
      refine⟨?_,fun h=>absurd h (Nat.not_lt_zero _)⟩
      have:=(h4 j x hj).1
      simp only[h2,Option.getD_some]at this
      simp only[hv,Option.getD_some]
      omega
theorem mG.unique{f:Nat→Int}{l:List Nat}{w w':Nat}(h:mG f l w)(h':mG f l w'):w=w':=by
 obtain⟨i,a1,a2⟩:=h.ex
 obtain⟨j,b1,b2⟩:=h'.ex
 have c1:=a2 j w' b1
 have c2:=b2 i w a1
 rcases Nat.lt_trichotomy i j with q|q|q
 ·have:=c2.2 q;omega
 ·subst q;rw[a1]at b1;exact Option.some.inj b1
 ·have:=c1.2 q;omega
def sJ(s:State)(u:Nat)(x:List Nat):List Int:=match server (distances s) u x with
 |none=>[-1,0]
 |some y=>[nat y.1,y.2]
theorem step0(s:State)(n r:Int):step s [[0,n,r]]=if (inR n 2 40&&inR r 0 1000000000000)=false then ans s [-1]else(fresh n.toNat r,[0]):=rfl
theorem step1(s:State)(a b l:Int):step s [[1,a,b,l]]=road s a b l:=rfl
theorem Wt(s:State)(v d:Int):step s [[2,v,d]]=onV s v (inR d 0 1000) fun _ p=>⟨d.toNat,p.cost,p.barred⟩:=rfl
theorem Ws(s:State)(v c:Int):step s [[3,v,c]]=onV s v (inR c 0 1000000000) fun _ p=>⟨p.need,c,p.barred⟩:=rfl
theorem Wr(s:State)(v b:Int):step s [[4,v,b]]=onV s v (inR b 0 1) fun _ p=>⟨p.need,p.cost,b==1⟩:=rfl
theorem Wq(s:State)(r:Int):step s [[5,r]]=if inR r 0 1000000000000=false then ans s [-1]else(⟨s.places,s.roads,r⟩,[0]):=rfl
theorem QM(s:State)(a b:Int):step s [[6,a,b]]=if (okV s a&&okV s b)=false then ans s [-1]else ans s (maybe (cell (distances s) a.toNat b.toNat)):=rfl
theorem JG(s:State):step s [[10]]=ifTree s (distances s) (let x:=least s (distances s) s.reach (needOf s);nat (total x.1)::(pairsOut x.1++listed x.2)):=rfl
theorem JF(s:State):step s [[11]]=ifTree s (distances s) (let x:=cheapest s (distances s) s.reach;sumI (x.1.map fun v=>(placeOf s v).cost)::(listed x.1++(nat x.2.length::x.2.flatMap fun p=>[nat p.1,p.2]))):=rfl
theorem Jz(s:State)(k:Int):step s [[15,k]]=if inR k 0 3=false then ans s [-1]else ans s (match few s (distances s) s.reach (k.toNat+1) 0 with
  |none=>[1]
  |some l=>0::listed l):=rfl
theorem Jy(s:State)(k:Int):step s [[16,k]]=if inR k 0 40=false then ans s [-1]else if forest s (distances s)=false then ans s [-8]else ans s (maybe (radius s (distances s) k.toNat)):=rfl
theorem QQ(s:State):step s [[19]]=ans s (s.reach::nat (size s)::s.places.flatMap (fun p=>[nat p.need,p.cost,bit p.barred])++(nat s.roads.length::s.roads.flatMap fun e=>[nat e.a,nat e.b,e.len])):=rfl
theorem JD(s:State)(l:List Int):step s [[12],l]=(match pairsIn s 1000000 l with
  |none=>ans s [-2]
  |some x=>if (x.any fun p=>(placeOf s p.1).barred&&decide (0<p.2))=true then ans s [-3]else ans s (match short s (distances s) s.reach (x.map fun p=>(p.1,p.2.toNat))with
   |none=>[0,sumI (x.map fun p=>p.2)]
   |some u=>[1,nat u])):=rfl
theorem JC(s:State)(l:List Int):step s [[13],l]=(match placesIn s l with
  |none=>ans s [-2]
  |some x=>ans s (match both s (distances s) s.reach x with
   |none=>[0,nat (total (x.map fun u=>(u,needOf s u)))]
   |some y=>1::nat y.1::y.2.map nat)):=rfl
theorem JB(s:State)(l:List Int):step s [[14],l]=(match pairsIn s 1000000000000 l with
  |none=>ans s [-2]
  |some x=>if (x.any fun p=>decide (needOf s p.1=0∧0<p.2))=true then ans s [-3]else ans s (match over s (distances s) s.reach x with
   |none=>[0,sumI (x.map fun p=>p.2)]
   |some v=>[1,nat v])):=rfl
theorem Jx(s:State)(l:List Int):step s [[17],l]=(match placesIn s l with
  |none=>ans s [-2]
  |some x=>ans s ((List.range (size s)).flatMap fun u=>sJ s u x)):=rfl
theorem Jw(s:State)(l:List Int):step s [[18],l]=(match pairsIn s 1000000 l with
  |none=>ans s [-2]
  |some x=>ans s (nat (x.map fun p=>(p.1,p.2.toNat)).length::(x.map fun p=>(p.1,p.2.toNat)).flatMap fun p=>[nat p.1,nat ((List.range (size s)).filter fun u=>decide (served (distances s) s.reach (x.map fun p=>(p.1,p.2.toNat)) u<needOf s u+(if 0<p.2∧inReach (distances s) s.reach p.1 u=true then 1 else 0))).length])):=rfl
def behind(p:Int):Option Nat:=if p=0 then some 2 else if p=1 then some 3 else if p=2 then some 2 else if p=3 then some 2 else if p=4 then some 2 else if p=5 then some 1 else if p=6 then some 2 else if p=7 then some 0 else if p=8 then some 0 else if p=9 then some 0 else if p=10 then some 0 else if p=11 then some 0 else if p=15 then some 1 else if p=16 then some 1 else if p=19 then some 0 else none
def bY(p:Int):Bool:=decide (p=12)||decide (p=13)||decide (p=14)||decide (p=17)||decide (p=18)
theorem G4(p:Int){n k:Nat}(h:PyVbedaf.shape p=some (n,k)):(bY p=true∧n=0∧k=1)∨(bY p=false∧behind p=some n∧k=0):=by
 unfold PyVbedaf.shape at h
 have go:∀(q:Int) (a b:Nat) (R:Option (Nat×Nat)),((bY q=true∧a=0∧b=1)∨(bY q=false∧behind q=some a∧b=0))→(R=some (n,k)→(bY p=true∧n=0∧k=1)∨(bY p=false∧behind p=some n∧k=0))→
   (if p=q then some (a,b)else R)=some (n,k)→(bY p=true∧n=0∧k=1)∨(bY p=false∧behind p=some n∧k=0):=fun q a b R h1 h2 h3=>by
  by_cases e:p=q
  ·rw[if_pos e]at h3
   cases h3
   subst e
   exact h1
  ·rw[if_neg e]at h3
   exact h2 h3
 exact go 0 2 0 _ (.inr ⟨by decide,by decide,rfl⟩) (go 1 3 0 _ (.inr ⟨by decide,by decide,rfl⟩) (go 2 2 0 _ (.inr ⟨by decide,by decide,rfl⟩) (go 3 2 0 _ (.inr ⟨by decide,by decide,rfl⟩) (go 4 2 0 _ (.inr ⟨by decide,by decide,rfl⟩)
  (go 5 1 0 _ (.inr ⟨by decide,by decide,rfl⟩) (go 6 2 0 _ (.inr ⟨by decide,by decide,rfl⟩) (go 7 0 0 _ (.inr ⟨by decide,by decide,rfl⟩) (go 8 0 0 _ (.inr ⟨by decide,by decide,rfl⟩) (go 9 0 0 _ (.inr ⟨by decide,by decide,rfl⟩)
  (go 10 0 0 _ (.inr ⟨by decide,by decide,rfl⟩) (go 11 0 0 _ (.inr ⟨by decide,by decide,rfl⟩) (go 12 0 1 _ (.inl ⟨by decide,rfl,rfl⟩) (go 13 0 1 _ (.inl ⟨by decide,rfl,rfl⟩) (go 14 0 1 _ (.inl ⟨by decide,rfl,rfl⟩)
  (go 15 1 0 _ (.inr ⟨by decide,by decide,rfl⟩) (go 16 1 0 _ (.inr ⟨by decide,by decide,rfl⟩) (go 17 0 1 _ (.inl ⟨by decide,rfl,rfl⟩) (go 18 0 1 _ (.inl ⟨by decide,rfl,rfl⟩) (go 19 0 0 none (.inr ⟨by decide,by decide,rfl⟩) (fun z=>nomatch z)))))))))))))))))))) h
inductive One:List Int→List (List Int)→List Int→Prop
 |row {p:Int} {x t:List Int}:bY p=true→One (p::(x.length:Int)::(x++t)) [[p],x] t
 |nums {p:Int} {n:Nat} {x t:List Int}:bY p=false→behind p=some n→x.length=n→One (p::(x++t)) [p::x] t
theorem call_one{l:List Int}{c:List (List Int)}{t:List Int}(h:PyFlat.call PyVbedaf.shape l=some (c,t)):One l c t:=by
 cases l with
 |nil=>cases h
 |cons p r=>
  unfold PyFlat.call at h
  dsimp only at h
  cases hs:PyVbedaf.shape p with
  |none=>rw[hs]at h;cases h
  |some nk=>
   obtain⟨n,k⟩:=nk
   rw[hs]at h
   dsimp only at h
   split at h
   ·cases h
   ·rename_i hlen
    rcases G4 p hs with⟨h1,rfl,rfl⟩| ⟨h1,h2,rfl⟩
    ·rw[List.drop_zero]at h
     unfold PyFlat.rows at h
     cases hr:PyFlat.row r with
     |none=>rw[hr]at h;cases h
     |some xs=>
      obtain⟨x,u⟩:=xs
      rw[hr]at h
      have h:some ((p::r.take 0)::[x],u)=some (c,t):=h
      cases h
      cases r with
      |nil=>cases hr
      |cons k r'=>
       have hr:(if 0≤k∧k.toNat≤r'.length then some (r'.take k.toNat,r'.drop k.toNat)else none)=some (x,t):=hr
       by_cases hk:0≤k∧k.toNat≤r'.length
       ·rw[if_pos hk]at hr
        cases hr
        have e:(k:Int)=((r'.take k.toNat).length:Int):=by rw[List.length_take,Nat.min_eq_left hk.2];omega
        have:=One.row (p:=p) (x:=r'.take k.toNat) (t:=r'.drop k.toNat) h1
        rw[List.take_append_drop,←e]at this
        exact this
       ·rw[if_neg hk]at hr
        cases hr
    ·have h:some ([p::r.take n],r.drop n)=some (c,t):=h
     cases h
     have:=One.nums (p:=p) (n:=n) (x:=r.take n) (t:=r.drop n) h1 h2 (by rw[List.length_take];omega)
     rwa[List.take_append_drop]at this
theorem KR{f:Nat}{l:List Int}{cs:List (List (List Int))}(hne:l≠[])(h:PyFlat.calls PyVbedaf.shape f l=some cs):∃f' c t cs',cs=c::cs'∧One l c t∧PyFlat.calls PyVbedaf.shape f' t=some cs':=by
 cases l with
 |nil=>exact(hne rfl).elim
 |cons p r=>
  cases f with
  |zero=>cases h
  |succ f=>
   unfold PyFlat.calls at h
   cases hc:PyFlat.call PyVbedaf.shape (p::r)with
   |none=>rw[hc]at h;cases h
   |some ct=>
    obtain⟨c,t⟩:=ct
    rw[hc]at h
    dsimp only at h
    cases hr:PyFlat.calls PyVbedaf.shape f t with
    |none=>rw[hr]at h;cases h
    |some cs'=>
     rw[hr]at h
     cases h
     exact⟨f,c,t,cs',rfl,call_one hc,hr⟩
theorem PJ{f:Nat}{cs:List (List (List Int))}(h:PyFlat.calls PyVbedaf.shape f []=some cs):cs=[]:=by
 cases f<;>exact(Option.some.inj h).symm
theorem Qd(c:List (List Int)):PyVbedaf.whole c=c:=by
 rcases c with _| ⟨_| ⟨n,t⟩,c⟩
 ·rfl
 ·rfl
 by_cases h:n=0∨n=1∨n=2∨n=3∨n=4∨n=5∨n=6∨n=7∨n=8∨n=9∨n=10∨n=11∨n=12∨n=13∨n=14∨n=15∨n=16∨n=17∨n=18∨n=19
 ·rcases h with rfl|rfl|rfl|rfl|rfl|rfl|rfl|rfl|rfl|rfl|rfl|rfl|rfl|rfl|rfl|rfl|rfl|rfl|rfl|rfl<;>(rcases t with _| ⟨a,_| ⟨b,_| ⟨d,_| ⟨e,t⟩⟩⟩⟩<;>first|rfl| (rcases c with _| ⟨r,_| ⟨q,c⟩⟩<;>rfl))
 ·simp only[not_or]at h
  obtain⟨h0,h1,h2,h3,h4,h5,h6,h7,h8,h9,h10,h11,h12,h13,h14,h15,h16,h17,h18,h19⟩:=h
  delta PyVbedaf.whole PyVbedaf.whole.match_1
  exact(dif_neg h0).trans<|(dif_neg h1).trans<|(dif_neg h2).trans<|(dif_neg h3).trans<|(dif_neg h4).trans<|(dif_neg h5).trans<|(dif_neg h6).trans<|(dif_neg h7).trans<|(dif_neg h8).trans<|(dif_neg h9).trans<|(dif_neg h10).trans<|(dif_neg h11).trans<|(dif_neg h12).trans<|(dif_neg h13).trans<|(dif_neg h14).trans<|(dif_neg h15).trans<|(dif_neg h16).trans<|(dif_neg h17).trans<|(dif_neg h18).trans<|(dif_neg h19).trans<|rfl
theorem Oz(cs:List (List (List Int))):cs.map PyVbedaf.whole=cs:=by
 have:PyVbedaf.whole=id:=funext Qd
 rw[this,List.map_id]
theorem I_{l:List Int}(h:PyVbedaf.answers_asked l=true):∃f cs,PyFlat.calls PyVbedaf.shape f l=some cs∧cs.length≤200∧PyVbedaf.answers l=PyFlat.told (PyFlat.played step start cs):=by
 unfold PyVbedaf.answers_asked at h
 unfold PyVbedaf.answers
 have e:PyVbedaf.calls l=PyFlat.calls PyVbedaf.shape l.length l:=by
  unfold PyVbedaf.calls
  cases PyFlat.calls PyVbedaf.shape l.length l with
  |none=>rfl
  |some cs=>show some (cs.map PyVbedaf.whole)=some cs;rw[Oz]
 rw[e]at h ⊢
 cases hc:PyFlat.calls PyVbedaf.shape l.length l with
 |none=>rw[hc]at h;cases h
 |some cs=>
  rw[hc]at h
  have h:(PyFlat.atMost 200 cs&&VbedafNeutral.asked cs)=true:=h
  rw[Bool.and_eq_true]at h
  exact⟨_,cs,hc,of_decide_eq_true h.1,rfl⟩
theorem Qg{n:Nat}{r:Int}(h1:2≤n)(h2:n≤40)(h3:0≤r)(h4:r≤1000000000000):Wf (fresh n r):=by
 have e:size (fresh n r)=n:=by show(List.replicate n _).length=n;simp
 refine⟨by rw[e];exact h1,by rw[e];exact h2,fun e he=>(by cases he),Nat.zero_le _,⟨h3,h4⟩,fun p hp=>?_,fun p hp=>?_⟩
 ·rw[List.eq_of_mem_replicate (show p∈List.replicate n _ from hp)];exact(by decide:1≤1000)
 ·rw[List.eq_of_mem_replicate (show p∈List.replicate n _ from hp)];exact⟨by decide,by decide⟩
theorem size_set(s:State)(v:Nat)(p:Place):size (setPlace s v p)=size s:=List.length_set ..
theorem W_{s:State}(W:Wf s)(v:Nat){p:Place}(h1:p.need≤1000)(h2:0≤p.cost∧p.cost≤1000000000):Wf (setPlace s v p):=by
 refine⟨by rw[size_set];exact W.lo,by rw[size_set];exact W.hi,fun e he=>by rw[size_set];exact W.road e he,W.few,W.reach,fun q hq=>?_,fun q hq=>?_⟩
 ·rcases List.mem_or_eq_of_mem_set (show q∈s.places.set v p from hq)with h|h
  ·exact W.need q h
  ·rw[h];exact h1
 ·rcases List.mem_or_eq_of_mem_set (show q∈s.places.set v p from hq)with h|h
  ·exact W.cost q h
  ·rw[h];exact h2
theorem yj{s:State}(W:Wf s){v:Nat}(hv:v<size s):(placeOf s v).need≤1000∧0≤(placeOf s v).cost∧(placeOf s v).cost≤1000000000:=by
 unfold placeOf
 rw[List.getD_eq_getElem?_getD,List.getElem?_eq_getElem hv]
 exact⟨W.need _ (List.getElem_mem _),W.cost _ (List.getElem_mem _)⟩
theorem Qe{s:State}(W:Wf s){r:Int}(h:0≤r∧r≤1000000000000):Wf ⟨s.places,s.roads,r⟩:=⟨W.lo,W.hi,W.road,W.few,h,W.need,W.cost⟩
theorem T8{s:State}(W:Wf s){e:Road}(ok:dj (size s) e)(hl:e.len≤1000000000)(hf:s.roads.length<60):Wf ⟨s.places,s.roads++[e],s.reach⟩:=by
 refine⟨W.lo,W.hi,fun e' he=>?_,by show(s.roads++[e]).length≤60;simp;omega,W.reach,W.need,W.cost⟩
 rcases List.mem_append.mp he with he|he
 ·exact W.road e' he
 ·rw[List.mem_singleton.mp he];exact⟨ok,hl⟩
theorem Ez(n:Nat)(r:Int):forest (fresh n r) (distances (fresh n r))=true:=by
 rw[nj]
 show 0+roots (size (fresh n r)) (tab (size (fresh n r)) (dist (size (fresh n r)) []))=_
 rw[BW];omega
theorem HX{s:State}(W:Wf s){e:Road}(ok:dj (size s) e):forest ⟨s.places,s.roads++[e],s.reach⟩ (distances ⟨s.places,s.roads++[e],s.reach⟩)=(forest s (distances s)&& !(cell (distances s) e.a e.b).isSome):=by
 rw[Bool.eq_iff_iff,nj,Bool.and_eq_true,nj,gW ok.1 ok.2.1]
 show(s.roads++[e]).length+roots (size s) (tab (size s) (dist (size s) (s.roads++[e])))=size s↔_
 obtain⟨h1,h2⟩:=rT W.ok ok
 have lo:=oX (n:=size s) _ s.roads rfl W.ok
 rw[List.length_append]
 by_cases h:lk (dist (size s) s.roads) e.a e.b
 ·have:=h1 h
  have hs:(mH s e.a e.b).isSome=true:=h
  rw[hs]
  simp only[List.length_singleton,Bool.not_true,Bool.false_eq_true,and_false,iff_false]
  have lo:size s≤s.roads.length+roots (size s) (tab (size s) (dist (size s) s.roads)):=lo
  omega
 ·have:=h2 h
  have hs:(mH s e.a e.b).isSome=false:=by cases q:(mH s e.a e.b).isSome with|false=>rfl|true=>exact(h q).elim
  rw[hs]
  simp only[List.length_singleton,Bool.not_false,and_true]
  show _↔s.roads.length+roots (size s) (tab (size s) (dist (size s) s.roads))=size s
  omega
def row(s:State)(i:Nat):Row:=(List.range (size s)).map fun j=>mH s i j
theorem pJ(s:State):distances s=(List.range (size s)).map (row s):=dF s
theorem Ra{s:State}(W:Wf s){e:Road}(ok:dj (size s) e)(i:Nat):row ⟨s.places,s.roads++[e],s.reach⟩ i=(List.range (size s)).map fun j=>wr e.a e.b e.len (mH s) i j:=by
 show(List.range (size s)).map (fun j=>dist (size s) (s.roads++[e]) i j)=_
 exact List.map_congr_left fun j _=>wD W.ok ok i j
theorem Oa(n:Nat)(r:Int)(i:Nat):row (fresh n r) i=(List.range n).map fun j=>if i=j then some 0 else none:=by
 have e:size (fresh n r)=n:=by show(List.replicate n _).length=n;simp
 unfold row
 rw[e]
 refine List.map_congr_left fun j _=>?_
 show dist (size (fresh n r)) [] i j=_
 exact zJ _ i j
theorem Rb{s:State}{i j:Nat}(hi:i<size s):(row s i).getD j none=cell (distances s) i j:=by
 by_cases hj:j<size s
 ·rw[gW hi hj]
  exact cA _ _ _ hj _
 ·rw[dF,jQ (fun q=>hj q.2),List.getD_eq_getElem?_getD,List.getElem?_eq_none (by unfold row;simp;omega)];rfl
theorem Ob{s:State}(W:Wf s){i:Nat}(hi:i<size s):firstOf (row s i)=some (depth (distances s) i):=by
 have:=Bk W.eqv hi
 rw[←dF]at this
 rw[←this]
 refine congrArg firstOf ?_
 rw[pJ,cA _ _ _ hi]
theorem bH(n:Nat)(p:Nat→Bool):((List.range n).filter p).length≤n:=by
 have:=List.length_filter_le p (List.range n)
 rwa[List.length_range]at this
theorem qg{α:Type}(l:List α)(f g:α→Int):(l.flatMap fun p=>[f p,g p]).length=2*l.length:=by
 induction l with
 |nil=>rfl
 |cons x l ih=>rw[List.flatMap_cons,List.length_append,ih];simp;omega
theorem Cp{α:Type}(l:List α)(f g h:α→Int):(l.flatMap fun p=>[f p,g p,h p]).length=3*l.length:=by
 induction l with
 |nil=>rfl
 |cons x l ih=>rw[List.flatMap_cons,List.length_append,ih];simp;omega
end PR
namespace ST
open PySem PySem.SetTable
abbrev tV(xs:Array Nat):Prop:=xs.toList.Pairwise (· < ·)
theorem Hg{xs:Array Nat}(h:tV xs){i j:Nat}(hij:i<j)(hj:j<xs.size):xs[i]'(by omega)<xs[j]:=by
 have:=List.pairwise_iff_getElem.mp h i j (by simpa using(by omega:i<xs.size)) (by simpa using hj) hij
 simpa using this
theorem DK{xs:Array Nat}(h:tV xs){i j:Nat}(hij:i≤j)(hj:j<xs.size):xs[i]'(by omega)≤xs[j]:=by
 rcases Nat.lt_or_eq_of_le hij with q|q
 ·exact Nat.le_of_lt (Hg h q hj)
 ·subst q;exact Nat.le_refl _
theorem zY{xs:Array Nat}(h:tV xs)(j:Nat):∀(fuel lo hi:Nat),hi≤xs.size→lo≤hi→hi - lo≤fuel→(∀i (hi:i<xs.size),i<lo→xs[i]<j)→(∀i (hs:i<xs.size),hi≤i→j≤xs[i])→
  below.go xs j fuel lo hi≤xs.size∧(∀i (hs:i<xs.size),i<below.go xs j fuel lo hi→xs[i]<j)∧(∀i (hs:i<xs.size),below.go xs j fuel lo hi≤i→j≤xs[i])
 |0,lo,hi,h1,h2,h3,h4,h5=>by
  have e:lo=hi:=by omega
  unfold below.go
  exact⟨by omega,h4,fun i hs hl=>h5 i hs (by omega)⟩
 |fuel+1,lo,hi,h1,h2,h3,h4,h5=>by
  unfold below.go
  by_cases hlt:lo<hi
  ·rw[if_pos hlt]
   have hm:(lo+hi) / 2<xs.size:=by omega
   have hg:xs.getD ((lo+hi) / 2) j=xs[(lo+hi) / 2]:=by simp [Array.getD,hm]
   dsimp only
   rw[hg]
   by_cases hc:xs[(lo+hi) / 2]<j
   ·rw[if_pos hc]
    exact zY h j fuel _ _ h1 (by omega) (by omega) (fun i hs hl=>Nat.lt_of_le_of_lt (DK h (by omega) hm) hc) h5
   ·rw[if_neg hc]
    exact zY h j fuel _ _ (by omega) (by omega) (by omega) h4 fun i hs hl=>Nat.le_trans (Nat.not_lt.mp hc) (DK h hl hs)
  ·rw[if_neg hlt]
   exact⟨by omega,h4,fun i hs hl=>h5 i hs (by omega)⟩
theorem nU{xs:Array Nat}(h:tV xs)(j:Nat):below xs j≤xs.size∧(∀i (hs:i<xs.size),i<below xs j→xs[i]<j)∧(∀i (hs:i<xs.size),below xs j≤i→j≤xs[i]):=
 zY h j xs.size 0 xs.size (Nat.le_refl _) (Nat.zero_le _) (by omega) (fun i _ hl=>absurd hl (Nat.not_lt_zero _)) fun i hs hl=>absurd hs (by omega)
theorem Bb{xs:Array Nat}(h:tV xs){j:Nat}(hn:xs[below xs j]? ≠some j):j∉xs.toList:=by
 intro hm
 obtain⟨i,hi,e⟩:=List.mem_iff_getElem.mp hm
 have hi':i<xs.size:=by simpa using hi
 have e':xs[i]=j:=by simpa using e
 obtain⟨b1,b2,b3⟩:=nU h j
 have hle:below xs j≤i:=Nat.not_lt.mp fun q=>by have:=b2 i hi' q;omega
 have hb:below xs j<xs.size:=by omega
 have h1:=b3 (below xs j) hb (Nat.le_refl _)
 have h2:=DK h hle hi'
 refine hn ?_
 rw[Array.getElem?_eq_getElem hb]
 exact congrArg some (by omega)
theorem below_at{xs:Array Nat}(h:tV xs){i:Nat}(hi:i<xs.size):below xs (xs[i]+1)=i+1:=by
 obtain⟨b1,b2,b3⟩:=nU h (xs[i]+1)
 have h1:i<below xs (xs[i]+1):=Nat.not_le.mp fun q=>by have:=b3 i hi q;omega
 rcases Nat.lt_or_eq_of_le (Nat.succ_le_of_lt h1)with q|q
 ·have h2:=b2 (i+1) (by omega) q
  have h3:=Hg h (Nat.lt_succ_self i) (show i+1<xs.size by omega)
  exact absurd h2 (by simp only[Nat.succ_eq_add_one]at h3;omega)
 ·exact q.symm
theorem Lb{xs:Array Nat}(h:tV xs):below xs 0=0:=by
 obtain⟨b1,b2,b3⟩:=nU h 0
 cases e:below xs 0 with
 |zero=>rfl
 |succ k=>have:=b2 0 (by omega) (by omega);omega
theorem Hf{xs:Array Nat}(h:tV xs){j:Nat}(hn:j∉xs.toList):tV (insertAt xs (below xs j) j):=by
 obtain⟨b1,b2,b3⟩:=nU h j
 show(insertAt xs (below xs j) j).toList.Pairwise (· < ·)
 rw[toList_insertAt]
 have hT:∀x∈xs.toList.take (below xs j),x<j:=fun x hx=>by
  obtain⟨i,hi,e⟩:=List.mem_iff_getElem.mp hx
  rw[List.length_take]at hi
  have hi':i<xs.size:=by have:=Nat.lt_of_lt_of_le hi (Nat.min_le_right _ _);simpa using this
  have:=b2 i hi' (Nat.lt_of_lt_of_le hi (Nat.min_le_left _ _))
  rw[List.getElem_take]at e
  have e':xs[i]=x:=by simpa using e
  omega
 have hD:∀x∈xs.toList.drop (below xs j),j<x:=fun x hx=>by
  obtain⟨i,hi,e⟩:=List.mem_iff_getElem.mp hx
  rw[List.length_drop]at hi
  have hi':below xs j+i<xs.size:=by
   have:xs.toList.length=xs.size:=by simp
   omega
  have:=b3 (below xs j+i) hi' (by omega)
  rw[List.getElem_drop]at e
  have e':xs[below xs j+i]=x:=by simpa using e
  have hne:x≠j:=fun q=>hn (q▸List.mem_of_mem_drop hx)
  omega
 have hp:xs.toList.Pairwise (· < ·):=h
 rw[←List.take_append_drop (below xs j) xs.toList,List.pairwise_append]at hp
 refine List.pairwise_append.mpr ⟨hp.1,List.pairwise_cons.mpr ⟨hD,hp.2.1⟩,fun a ha b hb=>?_⟩
 rcases List.mem_cons.mp hb with rfl|hb
 ·exact hT a ha
 ·exact Nat.lt_trans (hT a ha) (hD b hb)
theorem BP{t:SetTable}(h:tV t.place){j:Nat}(hs:∀i,t.slot j≠ .live i):j∉t.place.toList:=by
 refine Bb h fun e=>?_
 refine hs (below t.place j) ?_
 unfold SetTable.slot
 dsimp only
 rw[if_pos (by rw[e];exact beq_self_eq_true _)]
theorem sr{t:SetTable}{hashAt:Nat→Int}{h:Int}:∀(fuel:Nat) (p:Probe),(∀d,p.dummy=some d→∀i,t.slot d≠ .live i)→∀j dm,probe.go t hashAt h fuel p=some (.empty j dm)→
  (∀i,t.slot j≠ .live i)∧∀d,dm=some d→∀i,t.slot d≠ .live i
 |0,p,_,j,dm,e=>by unfold probe.go at e;cases e
 |fuel+1,p,hp,j,dm,e=>by
  unfold probe.go at e
  have adv:∀q:Probe,(t.advance q).dummy=q.dummy:=fun q=>by unfold SetTable.advance;split<;>rfl
  cases hs:t.slot p.j with
  |empty=>
   rw[hs]at e
   cases e
   exact⟨fun i q=>(by rw[hs]at q;cases q),hp⟩
  |dummy=>
   rw[hs]at e
   refine sr fuel _ (fun d hd i=>?_) j dm e
   rw[adv]at hd
   have hd:some p.j=some d:=hd
   cases hd
   rw[hs]
   exact fun q=>nomatch q
  |live i=>
   rw[hs]at e
   dsimp only at e
   split at e
   ·cases e
   ·exact sr fuel _ (fun d hd=>hp d (by rw[adv]at hd;exact hd)) j dm e
theorem Bg{t:SetTable}(hr:tV t.place){h:Int}{j:Nat}{b:Bool}(e:t.freeSlot h=some (j,b)):j∉t.place.toList:=by
 unfold SetTable.freeSlot at e
 split at e
 ·rename_i j' dm hq
  have hq:probe.go t (fun _=>h+1) h (10*turns t.mask) (t.probeStart h)=some (.empty j' dm):=hq
  obtain⟨h1,h2⟩:=sr _ _ (fun d hd=>by unfold SetTable.probeStart at hd;cases hd) j' dm hq
  cases e
  cases dm with
  |none=>exact BP hr h1
  |some d=>exact BP hr (h2 d rfl)
 ·cases e
structure vG(by_:Bool)(t:SetTable):Prop where
 rise:tV t.place
 led:by_=true∨t.led=true
theorem JW(n:Nat):tV (Array.range n):=by
 show(Array.range n).toList.Pairwise (· < ·)
 rw[Array.toList_range]
 exact List.pairwise_lt_range
theorem vG.standIn{b:Bool}{t:SetTable}(h:vG b t)(n:Nat):vG b (t.standIn n):=⟨JW n,h.led⟩
theorem vG.fresh{b:Bool}:vG b (.fresh 0 0 (!b)):=⟨by show([]:List Nat).Pairwise _;exact .nil,by cases b<;>simp [SetTable.fresh]⟩
theorem vG.put{b:Bool}{t:SetTable}(h:vG b t){j:Nat}(hj:j∉t.place.toList):vG b (t.put j).1:=⟨Hf h.rise hj,h.led⟩
theorem vG.orStandIn{b:Bool}{t:SetTable}(h:vG b t)(n:Nat):vG b (t.orStandIn n):=by
 unfold SetTable.orStandIn
 split
 ·exact h
 ·exact h.standIn n
theorem vG.layNew{b:Bool}{t:SetTable}(h:vG b t)(es:Array (Int×Value))(hs:Int)(x:Value):vG b (layNew t es hs x).2.1:=by
 unfold PySem.layNew
 split
 ·rename_i slot wd e
  exact(h.put (Bg h.rise e)).orStandIn _
 ·exact h.standIn _
theorem vG.relayAll{b:Bool}{t:SetTable}(h:vG b t)(es:Array (Int×Value))(n:Nat):vG b (relayAll t es n).2.1:=by
 unfold PySem.relayAll
 split
 ·rename_i t' order e
  dsimp only
  split
  ·unfold SetTable.relaid SetTable.laid at e
   cases ho:SetTable.layClean (SetTable.sizeAbove n - 1) (es.map (·.1))with
   |none=>rw[ho]at e;cases e
   |some owner=>
    rw[ho]at e
    cases e
    refine⟨?_,h.led⟩
    show List.Pairwise _ (List.map _ _).toArray.toList
    rw[List.toList_toArray]
    have key:∀(l:List Nat),l.Pairwise (· < ·)→((l.filterMap fun j=>(owner.getD j none).map (j,·)).map (·.1)).Pairwise (· < ·):=fun l hl=>by
     have hs:((l.filterMap fun j=>(owner.getD j none).map (j,·)).map (·.1)).Sublist l:=by
      clear hl
      induction l with
      |nil=>exact .slnil
      |cons a l ih=>
       rw[List.filterMap_cons]
       cases q:owner.getD a none with
       |none=>exact ih.cons a
       |some k=>exact ih.cons_cons a
     exact hl.sublist hs
    exact key _ List.pairwise_lt_range
  ·exact h.standIn _
 ·exact h.standIn _
theorem vG.Ro{b:Bool}{t:SetTable}(h:vG b t)(p:Bool):vG b {t with plain:=p}:=⟨h.rise,h.led⟩
end ST
namespace ST
open PySem
def IK(w:World):Bool:=w.params.followText "set-order"
section
variable{prog:Program}{w:World}{K:Type}[DecidableEq K](knd:KeyKind prog w K)
def SetT(h:Heap)(a:Addr)(S:K→Bool)(n:Nat):Prop:=
 ∃o es ep t,h.get? a=some o∧o.ExactSet∧o.data= .set es ep t∧ElemsOf knd es.toList∧(∀k,S k=true↔∃e∈es.toList,knd.is k e.2=true)∧es.size<scanBound∧t.fits es.size=true∧es.size=n∧vG (IK w) t
variable{knd}{A:Around}{E:Value→Shared→Prop}{s:Shared}
theorem SetT.at{h h':Heap}{a:Addr}{S:K→Bool}{n:Nat}(x:SetT knd h a S n)(k:∀o,h.get? a=some o→h'.get? a=some o):SetT knd h' a S n:=
 let⟨o,es,ep,t,e,r⟩:=x;⟨o,es,ep,t,k o e,r⟩
theorem SetT.congr{h:Heap}{a:Addr}{S S':K→Bool}{n n':Nat}(x:SetT knd h a S n)(e:∀k,S k=S' k)(en:n=n'):SetT knd h a S' n':=by
 obtain rfl:S=S':=funext e
 subst en;exact x
theorem stored{h:Heap}{a:Addr}{o:Obj}{es es':Array (Int×Value)}{ep:Nat}{t t':SetTable}{S':K→Bool}(ho:h.get? a=some o)(hx:o.ExactSet)(hd:o.data= .set es ep t)(h1:ElemsOf knd es'.toList)
  (h2:∀k,S' k=true↔∃e∈es'.toList,knd.is k e.2=true) (h3:es'.size<scanBound) (h4:t'.fits es'.size=true) (h5:vG (IK w) t'):
  (h.update a (Obj.putSet es' t')).get? a=some {o with data:= .set es' (ep+1) t'}∧SetT knd (h.update a (Obj.putSet es' t')) a S' es'.size:=by
 obtain⟨g,_⟩:=SetOf_store (knd:=knd) ho hx hd h1 h2 h3 h4
 exact⟨g,_,_,_,_,g,hx,rfl,h1,h2,h3,h4,rfl,h5⟩
theorem Wi{g:Bool→Sem Unit}(hg:∀(b:Bool) (s1:Shared) (Q':Unit→Shared→Prop),Q' () s1→wpAny (model prog w) A (g b) Q' E s1){a:Addr}{o:Obj}{es es1:Array (Int×Value)}{ep:Nat}{t t2:SetTable}{S':K→Bool}
  (ho:s.heap.get? a=some o) (hx:o.ExactSet) (hd:o.data= .set es ep t) (h1:ElemsOf knd es1.toList) (h2:∀k,S' k=true↔∃e∈es1.toList,knd.is k e.2=true) (h3:es1.size<scanBound) (h4:t2.fits es1.size=true) (h5:vG (IK w) t2)
  {wd:Bool} {R:Option Bool→Shared→Prop} (h:∀h',Heap.SameBut a s.heap h'→SetT knd h' a S' es1.size→R (some true) {s with heap:=h'}):
  wpAny (model prog w) A (do
   storeSet a es1 t2
   if (!wd&&t2.tooFull)=true then do
    g (relayAll t2 es1 (SetTable.grown es1.size)).2.2
    storeSet a (relayAll t2 es1 (SetTable.grown es1.size)).1 (relayAll t2 es1 (SetTable.grown es1.size)).2.1
    pure (some true)
   else pure (some true)) R E s:=by
 obtain⟨g1,x1⟩:=stored (knd:=knd) (es':=es1) (t':=t2) ho hx hd h1 h2 h3 h4 h5
 have b1:=Heap.SameBut.update s.heap a (Obj.putSet es1 t2)
 refine wpAny_bind (wpAny_storeSet_of ho hd ?_ (fits_of_scanBound h3))
 split
 ·have pp:=relayAll_perm t2 es1 (SetTable.grown es1.size)
  have ff:=relayAll_fits t2 es1 (SetTable.grown es1.size)
  have tt:=h5.relayAll es1 (SetTable.grown es1.size)
  generalize relayAll t2 es1 (SetTable.grown es1.size)=R3 at pp ff tt ⊢
  obtain⟨es3,t3,b3⟩:=R3
  dsimp only at pp ff tt ⊢
  have hz:es3.size=es1.size:=by have:=pp.length_eq;simpa using this
  have h3':es3.size<scanBound:=by rw[hz];exact h3
  obtain⟨_,x2⟩:=stored (knd:=knd) (es':=es3) (t':=t3) (S':=S') g1 hx rfl (h1.perm pp) (fun k=>(h2 k).trans ⟨fun⟨e,m,q⟩=>⟨e,pp.mem_iff.mpr m,q⟩,fun⟨e,m,q⟩=>⟨e,pp.mem_iff.mp m,q⟩⟩) h3' ff tt
  refine wpAny_bind (hg _ _ _ (wpAny_bind (wpAny_storeSet_of g1 rfl ?_ (fits_of_scanBound h3'))))
  rw[hz]at x2
  exact wpAny_pure (h _ (b1.trans (Heap.SameBut.update _ a _)) x2)
 ·exact wpAny_pure (h _ b1 x1)
theorem ac0{a:Addr}{S:K→Bool}{n:Nat}{k:K}{x:Value}{Q:Bool→Shared→Prop}(hk:knd.is k x=true)(hx:x.scannable=true)(hS:SetT knd s.heap a S n)(hz:n+1<scanBound)
  (h:∀h',Heap.SameBut a s.heap h'→SetT knd h' a (fun k'=>S k'||decide (k'=k)) (if S k then n else n+1)→Q (!S k) {s with heap:=h'}):
  wpAny (model prog w) A (setAddHashed a x (knd.hash k)) Q E s:=by
 obtain⟨o,es,ep,t,ho,hex,hd,hel,hm,hb,hf,hn,ht⟩:=hS
 unfold setAddHashed setAddHashedIn
 refine wpAny_holding (wpAny_bind (wpAny_setState_of ho hd hf ?_))
 dsimp only
 rw[byScan_of hx hb hel]
 simp only[↓reduceIte]
 unfold setAddByScan
 refine wpAny_bind (wpAny_bind (wpAny_rule (wpAny_bind (wpAny_setScan_of hk ho hd hf hel ?_))))
 cases hr:List.findIdx? (fun e=>knd.is k e.2) es.toList with
 |some j=>
  dsimp only
  obtain⟨hj,hp,_⟩:=List.findIdx?_eq_some_iff_getElem.mp hr
  have yes:S k=true:=(hm k).mpr ⟨_,List.getElem_mem hj,hp⟩
  refine wpAny_pure (wpAny_pure ?_)
  have fin:=h s.heap (Heap.SameBut.refl a s.heap) ⟨o,es,ep,t,ho,hex,hd,hel,fun k'=>by
   rw[Bool.or_eq_true,decide_eq_true_eq,←hm k']
   exact⟨fun q=>q.elim (fun q=>q) fun q=>q▸yes,.inl⟩,hb,hf,by rw[yes];exact hn,ht⟩
  rw[yes]at fin
  exact fin
 |none=>
  dsimp only
  have no:S k=false:=by
   cases q:S k with
   |false=>rfl
   |true=>
    obtain⟨e,he,hp⟩:=(hm k).mp q
    have z:=List.findIdx?_eq_none_iff.mp hr e he
    rw[hp]at z;cases z
  have pp:=layNew_perm t es (knd.hash k) x
  have ff:=layNew_fits t es (knd.hash k) x
  have tt:=ht.layNew es (knd.hash k) x
  generalize layNew t es (knd.hash k) x=R1 at pp ff tt ⊢
  obtain⟨es1,t1,wd,gv⟩:=R1
  dsimp only at pp ff tt ⊢
  rw[Array.toList_push]at pp
  have z1:es1.size=n+1:=by have:=pp.length_eq;simp at this;omega
  have m1:=mem_push_iff (knd:=knd) hk hm pp
  have b1:es1.size<scanBound:=by omega
  have gw:∀(b:Bool) (s1:Shared) (Q':Unit→Shared→Prop),Q' () s1→wpAny (model prog w) A (match b with|true=>rule "set.scan.the-table-gave-way"|false=>pure ()) Q' E s1:=fun b s1 Q' q=>by
   cases b
   ·exact wpAny_pure q
   ·exact wpAny_rule q
  have last:∀h',Heap.SameBut a s.heap h'→SetT knd h' a (fun k'=>S k'||decide (k'=k)) es1.size→Q true {s with heap:=h'}:=fun h' q1 q2=>by
   have fin:=h h' q1
   rw[no]at fin
   rw[z1]at q2
   exact fin q2
  refine wpAny_bind (gw _ _ _ ?_)
  split
  ·rw[hashByValue_scannable 8 hx]
   refine wpAny_bind (wpAny_pure (Wi (fun b s1 Q' q=>gw b s1 Q' q) ho hex hd ((hel.push hk hx).perm pp) m1 b1 ?_ ?_ fun h' q1 q2=>?_))
   ·split
    ·exact ff
    ·exact SetTable.fits_plain_off ff
   ·split
    ·exact tt
    ·exact tt.Ro _
   ·exact wpAny_pure (last h' q1 q2)
  ·refine wpAny_bind (wpAny_pure ?_)
   simp only[↓reduceIte]
   exact Wi (fun b s1 Q' q=>gw b s1 Q' q) ho hex hd ((hel.push hk hx).perm pp) m1 b1 ff tt fun h' q1 q2=>wpAny_pure (last h' q1 q2)
end
end ST
namespace ST
open PySem PyProof.Rows
abbrev j4(w:World):Obj:={cls:= .type "set",dict:=none,data:= .set #[] 0 (.fresh 0 0 (!IK w))}
section
variable{prog:Program}{w:World}{A:Around}{E:Value→Shared→Prop}{s:Shared}
theorem aca(x:Value){Q:Value→Shared→Prop}(h:Q (.ref s.heap.objs.size) {s with heap:=s.heap.push (j4 w)}):
  codeAny (model prog w) A (.call (.builtin "set.__new__") ⟨[.type "set",x],[]⟩) (wants Q E) s:=by
 refine codeAny_of_tree ?_
 show wpAny _ A.in1 (checkBuiltinCall "set.__new__" ⟨[.type "set",x],[]⟩ >>= fun _=>again (.builtin "set.__new__" ⟨[.type "set",x],[]⟩)) _ _ s
 refine wpAny_bind (wpAny_of_eq (PySem.F.newCall_set_1 x) (wpAny_pure ⟨plainId_quiet PySem.F.plain_set_new _,codeAny_builtin PySem.F.entry_set_new ?_⟩))
 rw[Around.under_plainId PySem.F.plain_set_new _]
 unfold Builtin.«set.__new__» Builtin.Frozenset.newClass
 have q1:=sub_set_self
 obtain⟨s1,s2,s3,s4,s5⟩:=s
 dsimp only
 wp_walk
 refine wpAny_askSetting (wpAny_pure ?_)
 dsimp only
 simp only[newObj]
 exact wpAny_bind (wpAny_alloc (wpAny_pure (wpAny_pure h)))
end
section
variable{prog:Program}{w:World}{A:Around}{R:Result→Shared→Prop}{I:Addr}{fp wr:List Addr}{G:Array GenState→Array GenState→Prop}{n:Nat}{P:Nat→Value→Prop}{St:Nat→Shared→Prop}
abbrev Has(val:Nat→Int)(i:Nat):Int→Bool:=fun k=>(firstMet val i).any (· ==k)
theorem QL(l:List Int)(v k:Int):(step_dedup l v).any (· ==k)=(l.any (· ==k)||decide (k=v)):=by
 unfold step_dedup
 split
 ·rename_i q
  by_cases e:k=v
  ·subst e
   have:l.any (· ==k)=true:=by simpa using q
   rw[this];simp
  ·simp [e]
 ·rw[List.any_append]
  by_cases e:k=v
  ·subst e;simp
  ·have:(v==k)=false:=by simpa using fun z:v=k=>e z.symm
   simp [e,this]
theorem SQ(W:WalksS prog w A.in1 I fp wr G n P St)(S:Addr)(hS0:S∉fp)(val:Nat→Int)(hv:∀i v,P i v→∃t,v= .int (val i) t)(hz:n+1<scanBound):
  ∀(k i:Nat) (s:Shared),n - i=k→i≤n→St i s→SetT (intKind prog w) s.heap S (Has val i) (firstMet val i).length→
   (∀s',Moved (S::wr) G s s'→SetT (intKind prog w) s'.heap S (Has val n) (firstMet val n).length→R (.ok (.ret .none)) s')→
   codeAny (model prog w) A (.builtin "set.update.loop" ⟨[.ref S,.ref I],[]⟩) R s:=by
 have hSw:S∉wr:=fun z=>hS0 (W.sub _ z)
 have up:∀b∈wr,b∈S::wr:=fun b q=>List.mem_cons_of_mem _ q
 intro k
 induction k with
 |zero=>
  intro i s hk hi hst hS hR
  obtain rfl:i=n:=by omega
  refine codeAny_builtin PyProof.Rows.F.entry_set_update_loop ?_
  rw[Around.under_plainId PyProof.Rows.F.plain_set_update_loop _]
  show wpAny _ A.in1 (pyNext (.ref I) >>= _) _ _ s
  refine wpAny_bind (W.done s _ _ hst fun s' hm=>?_)
  exact wpAny_pure (hR s' (hm.mono up) (hS.at fun o e=>hm.heap S o hSw e))
 |succ k ih=>
  intro i s hk hi hst hS hR
  have lt:i<n:=by omega
  refine codeAny_builtin PyProof.Rows.F.entry_set_update_loop ?_
  rw[Around.under_plainId PyProof.Rows.F.plain_set_update_loop _]
  show wpAny _ A.in1 (pyNext (.ref I) >>= _) _ _ s
  refine wpAny_bind (W.item i s _ _ lt hst fun v s' hP hst' hm=>?_)
  obtain⟨t,rfl⟩:=hv i v hP
  have hS':=hS.at (h':=s'.heap) fun o e=>hm.heap S o hSw e
  show wpAny _ A.in1 (holding [Value.int (val i) t] (setAdd S (.int (val i) t)) >>= _) _ _ s'
  refine wpAny_bind (wpAny_holding ?_)
  unfold setAdd
  refine wpAny_holding (wpAny_bind ((intKind prog w).pyHash (k:=val i) (intKind_is _ _ _ _) ?_))
  have hl:=firstMet_length_le val i
  refine ac0 (knd:=intKind prog w) (s:={s' with toks:=s'.toks+1}) (intKind_is _ _ _ _) rfl hS' (by omega) fun h' hsb hS2=>?_
  have hS3:SetT (intKind prog w) h' S (Has val (i+1)) (firstMet val (i+1)).length:=hS2.congr (fun k'=>by show _=(firstMet val (i+1)).any _;rw[firstMet_succ,QL]) (by rw[firstMet_succ,step_length])
  refine wpAny_pure ⟨plainId_quiet PyProof.Rows.F.plain_set_update_loop _,ih (i+1) _ (by omega) lt (W.frame _ s' _ _ hst' (Nat.le_succ _) fun b hb o e=>?_) hS3 fun s2 hm2 hS4=>?_⟩
  ·exact(hsb.2 b fun z:b=S=>hS0 (z▸hb)).trans e
  ·refine hR s2 (Moved.trans W.gtrans ((hm.mono up).then_heap (Nat.le_succ _) fun b o hb e=>?_) hm2) hS4
   exact(hsb.2 b fun z:b=S=>hb (z▸List.mem_cons_self)).trans e
end
section
variable{prog:Program}{w:World}{A:Around}{E:Value→Shared→Prop}{s:Shared}
set_option maxHeartbeats 4000000 in
theorem ofList {l:Addr} {xs:Array Value} {ns:List Int} {Q:Value→Shared→Prop} (hh:A.handled=none) (hl:s.heap.IsList l xs) (hi:IntsAre xs.toList ns) (hz:xs.size+1<scanBound)
  (h:∀(h':Heap) (tk:Nat),SetT (intKind prog w) h' s.heap.objs.size (Has (fun i=>ns.getD i 0) xs.size) (firstMet (fun i=>ns.getD i 0) xs.size).length→
   (∀b o,s.heap.get? b=some o→h'.get? b=some o)→Q (.ref s.heap.objs.size) {s with heap:=h',toks:=tk}):
  wpAny (model prog w) A (call (.type "set") [.ref l]) Q E s:=by
 obtain⟨c,tl,mro⟩:=PySem.F.called_set.mro
 have f1:=PySem.F.called_set.made
 have f2:=PySem.F.called_set.sub
 refine wpAny_call (codeAny_of_tree ?_)
 show wpAny _ _ (callAny (.type "set") _) _ _ _
 refine wpAny_pure ⟨Code.quiet_builtin _ (by decide+kernel),codeAny_builtin PySem.F.entry_type_call ?_⟩
 rw[Around.under_plain (weight_type_call_type "set" [.ref l] []) rfl]
 have f3:=PySem.F.called_set.notType
 have f4:=PySem.F.called_set.canCreate
 have f5:=PySem.F.typeCall_set_1 (.ref l)
 repeat (any_goals (first|assumption|wp_step))
 refine codeAny_mono (aca (.ref l) (E:=E) (Q:=fun v s1=>v= .ref s.heap.objs.size∧s1={s with heap:=s.heap.push (j4 w)}) ⟨rfl,rfl⟩) fun r s1 hr=>?_
 cases r with
 |error e=>exact hr
 |ok fl=>
  cases fl with
  |ret v=>
   obtain⟨rfl,rfl⟩:=hr
   have hS:(s.heap.push (j4 w)).get? s.heap.objs.size=some (j4 w):=Heap.get?_push_size _ rfl
   have hT:Shared.TypeIs {s with heap:=s.heap.push (j4 w)} (.ref s.heap.objs.size) "set":=⟨_,hS,rfl⟩
   have f6:=PySem.F.called_set.init.lookup
   have f7:=PySem.F.called_set.init.bind (.ref s.heap.objs.size)
   repeat (any_goals (first|assumption|wp_step))
   refine codeAny_mono (codeAny_call_builtin (R:=wants (fun r s2=>r= .none∧∃h' tk,s2={s with heap:=h',toks:=tk}∧SetT (intKind prog w) h' s.heap.objs.size (Has (fun i=>ns.getD i 0) xs.size) (firstMet (fun i=>ns.getD i 0) xs.size).length∧
     ∀b o,s.heap.get? b=some o→h'.get? b=some o) E) PySem.F.called_set.init.plain PySem.F.entry_set_init (check_set_init_1 hT ?_)) fun r2 s2 hr2=>?_
   ·obtain⟨⟨oc,od,odt,osl⟩,hol,hcl,nl,hdl⟩:=hl
    simp only at hcl hdl
    subst hcl;subst hdl
    have hol2:(s.heap.push (j4 w)).get? l=some {cls:= .type "list",dict:=od,data:= .seq xs nl,slots:=osl}:=Heap.get?_push_of_some _ hol
    have g1:=PySem.F.sub_list_set
    have g2:=PySem.F.sub_list_frozenset
    have g3:(Value.type "list"==Value.type "dict")=false:=by decide
    have hl2:(s.heap.push (j4 w)).IsList l xs:=⟨_,hol2,rfl,nl,rfl⟩
    unfold Builtin.«set.__init__» noKeywords Builtin.Frozenset.updateFrom
    generalize hPI:pyIter=PI
    wp_walk
    subst hPI
    refine wpAny_pyIter_list hl2 (wpAny_bind (wpAny_runValue ?_))
    have ls:l<s.heap.objs.size:=Heap.lt_size hol
    have sz:(s.heap.push (j4 w)).objs.size=s.heap.objs.size+1:=Heap.size_push ..
    have h3:A.in1.in1.in1.handled=none:=by simp [hh]
    have n1:l≠(s.heap.push (j4 w)).objs.size:=by rw[sz];exact Nat.ne_of_lt (Nat.lt_succ_of_lt ls)
    have n2:s.heap.objs.size∉[(s.heap.push (j4 w)).objs.size,l]:=by
     rw[sz]
     intro z
     rcases List.mem_cons.mp z with z|z
     ·exact absurd z (Nat.ne_of_lt (Nat.lt_succ_self _))
     ·exact absurd (List.mem_singleton.mp z) (Nat.ne_of_gt ls)
    refine SQ ((Walks.list h3 _ l n1 xs).toS) s.heap.objs.size n2 (fun i=>ns.getD i 0) (fun i v q=>IntsAre.int_at hi i v (by rw[Array.getElem?_toList];exact q)) hz (xs.size - 0) 0 _ (by omega) (Nat.zero_le _)
     ⟨⟨_,Heap.get?_push_size _ rfl,rfl,rfl⟩,hl2.push _⟩ ?_ fun s3 hm hS3=>?_
    ·refine⟨j4 w,#[],0,_,Heap.get?_push_of_some _ hS,⟨rfl,rfl,rfl⟩,rfl,fun e q=>(by cases q),fun k=>?_,by unfold scanBound;exact Nat.zero_lt_succ _,rfl,rfl,vG.fresh⟩
     constructor
     ·intro q;cases q
     ·rintro⟨e,q,_⟩;cases q
    ·obtain⟨x1,x2,x3,x4,x5⟩:=s3
     obtain rfl:x2=s.gens:=hm.gens
     obtain rfl:x3=s.drawn:=hm.drawn
     obtain rfl:x5=s.os:=hm.os
     refine wpAny_pure ?_
     show wpAny _ _ (ret Value.none) _ _ _
     refine wpAny_pure ⟨rfl,x1,x4,rfl,hS3,fun b o e=>?_⟩
     have bl:b<s.heap.objs.size:=Heap.lt_size e
     refine hm.heap b o (fun z=>?_) (Heap.get?_push_of_some _ (Heap.get?_push_of_some _ e))
     rcases List.mem_cons.mp z with z|z
     ·exact absurd z (Nat.ne_of_lt bl)
     ·rw[List.mem_singleton.mp z,sz]at bl
      exact absurd bl (Nat.not_lt.mpr (Nat.le_succ _))
   ·cases r2 with
    |error e=>exact hr2
    |ok fl2=>
     cases fl2 with
     |ret r=>
      obtain⟨rfl,h',tk,rfl,hS4,hk⟩:=hr2
      repeat (any_goals (first|assumption|wp_step))
      exact h _ _ hS4 hk
     |_=>exact hr2.elim
  |_=>exact hr.elim
end
theorem ik:Slot "set_iterator" "__next__" "set_iterator.__next__":= .of (owner:="set_iterator") (n:="__next__") (by rw[typeLookup_type,builtinLookup_eq_fast];kernel_rfl) (by decide+kernel) (by decide+kernel) (by decide+kernel) (.inl (by decide+kernel)) (by rw[isSubtype_type];kernel_rfl)
theorem yf:entryFor table "set_iterator.__next__"=some Builtin.«set_iterator.__next__»:=entryFor_of_tree (by kernel_rfl)
theorem yg(a:Value):argsOk "set_iterator.__next__" ⟨[a],[]⟩:=by unfold argsOk;kernel_rfl
theorem V4:entryFor table "set.__iter__"=some Builtin.«frozenset.__iter__»:=entryFor_alias (id':="frozenset.__iter__") (by kernel_rfl) (by first|rfl|decide+kernel) (by decide+kernel) (by kernel_rfl)
abbrev pB(first:Value)(i:Nat)(a:Addr)(n ep:Nat):Obj:={cls:= .type "set_iterator",data:= .fields #[first,rawInt i,.ref a,rawInt n,rawInt ep]}
structure At(h:Heap)(a:Addr)(es:Array (Int×Value))(ep:Nat)(t:SetTable):Prop where
 ex:∃o,h.get? a=some o∧o.ExactSet∧o.data= .set es ep t
 fits:t.fits es.size=true
theorem At.at{h h':Heap}{a:Addr}{es:Array (Int×Value)}{ep:Nat}{t:SetTable}(x:At h a es ep t)(k:∀o,h.get? a=some o→h'.get? a=some o):At h' a es ep t:=
 ⟨let⟨o,e,r⟩:=x.ex;⟨o,k o e,r⟩,x.fits⟩
section
variable{prog:Program}{w:World}{A:Around}{E:Value→Shared→Prop}{s:Shared}{I a:Addr}{es:Array (Int×Value)}{ep:Nat}{t:SetTable}{first:Value}{i:Nat}
theorem qp{Q:Bool→Shared→Prop}(h:Q (IK w) s):wpAny (model prog w) A setsByText Q E s:=by
 unfold setsByText
 exact wpAny_bind (wpAny_askSetting (wpAny_pure h))
theorem PB{M:Model}{src:Source}{n:Nat}{Q:Nat→Shared→Prop}(hn:n≠0)(h:∀k d,k<n→Q k {s with drawn:=d}):wpAny M A (choose src n) Q E s:=fun Γ p hΓ=>by
 show Sem.wp M Γ (.choose src n .pure) _ _ _ _
 rw[Sem.wp_choose]
 exact⟨hn,by rw[Sem.wp_pure];exact h _ _ (Nat.mod_lt _ (Nat.pos_of_ne_zero hn))⟩
theorem tK{α:Type}:∀ {l:List α} {k:Nat} (h:k<l.length),(l[k]::l.eraseIdx k).Perm l
 |x::l,0,_=> .refl _
 |x::l,k+1,h=>by
  have ih:=tK (l:=l) (k:=k) (by simpa using h)
  exact(List.Perm.swap x _ _).trans (ih.cons x)
theorem Ng{M:Model}{α:Type}:∀(n:Nat) (xs:List α) (s:Shared) {Q:List α→Shared→Prop},xs.length=n→(∀ys d,ys.Perm xs→Q ys {s with drawn:=d})→wpAny M A (drawOrder n xs) Q E s
 |0,xs,s,Q,hl,h=>by
  have:xs=[]:=List.length_eq_zero_iff.mp hl
  subst this
  unfold drawOrder
  exact wpAny_pure (h [] s.drawn (.refl _))
 |n+1,[],s,Q,hl,h=>by cases hl
 |n+1,x::xs,s,Q,hl,h=>by
  unfold drawOrder
  refine wpAny_bind (PB (by simp) fun k d hk=>?_)
  rw[List.getElem?_eq_getElem hk]
  dsimp only
  refine wpAny_bind (Ng n _ _ (by rw[List.length_eraseIdx_of_lt hk,hl];rfl) fun ys d' hp=>wpAny_pure ?_)
  refine h _ d' ?_
  exact(hp.cons _).trans (tK hk)
theorem Hx{slot:Int}{tk:Tok}{x:Value}{nx:Nat}{Q:Option Value→Shared→Prop}(hI:s.heap.get? I=some (pB (.int slot tk) i a es.size ep))(hS:At s.heap a es ep t)(hne:a≠I)
  (hN:∀(A:Around) (E:Value→Shared→Prop) (Q:Option (Value×Nat)→Shared→Prop),Q (some (x,nx)) s→wpAny (model prog w) A (setNext a slot.toNat i ep) Q E s)
  (hQ:∀h',h'.get? I=some (pB (rawInt nx) (i+1) a es.size ep)→Heap.SameBut I s.heap h'→Q (some x) {s with heap:=h'}):wpAny (model prog w) A (pyNext (.ref I)) Q E s:=by
 obtain⟨o,ho,hx,hd⟩:=hS.ex
 have hT:s.TypeIs (.ref I) "set_iterator":=⟨_,hI,rfl⟩
 unfold pyNext
 refine wpAny_bind (wpAny_attempt (wpAny_callSpecial?_slot (name:=Str.ofString "__next__") hT ik (wpAny_call_entry ik hT yf ?_ (yg _))))
 unfold Builtin.«set_iterator.__next__»
 refine wpAny_bind (m:=slotArgs "__next__" 0 ⟨[.ref I],[]⟩) (wpAny_pure ?_)
 refine wpAny_bind (wpAny_fieldsOf hI rfl ?_)
 dsimp only
 refine wpAny_bind (wpAny_setEntries_of ho hd hS.fits ?_)
 rw[if_neg (by simp)]
 refine wpAny_bind (hN _ _ _ ?_)
 dsimp only
 refine wpAny_bind (wpAny_setField_rec hI (by simp) fun h1 g1 b1=>?_)
 refine wpAny_bind (wpAny_setField_rec g1 (by simp) fun h2 g2 b2=>?_)
 exact wpAny_pure ⟨_,rfl,wpAny_pure (hQ h2 g2 (b1.trans b2))⟩
theorem end_int{slot:Int}{tk:Tok}{Q:Option Value→Shared→Prop}(hh:A.handled=none)(hI:s.heap.get? I=some (pB (.int slot tk) i a es.size ep))(hS:At s.heap a es ep t)
  (hN:∀(A:Around) (E:Value→Shared→Prop) (Q:Option (Value×Nat)→Shared→Prop),Q none s→wpAny (model prog w) A (setNext a slot.toNat i ep) Q E s)
  (hQ:∀h',Heap.ExtBut I s.heap h'→Q none {s with heap:=h'}):wpAny (model prog w) A (pyNext (.ref I)) Q E s:=by
 obtain⟨o,ho,hx,hd⟩:=hS.ex
 have hT:s.TypeIs (.ref I) "set_iterator":=⟨_,hI,rfl⟩
 unfold pyNext
 refine wpAny_bind (wpAny_attempt (wpAny_callSpecial?_slot (name:=Str.ofString "__next__") hT ik (wpAny_call_entry ik hT yf ?_ (yg _))))
 unfold Builtin.«set_iterator.__next__»
 refine wpAny_bind (m:=slotArgs "__next__" 0 ⟨[.ref I],[]⟩) (wpAny_pure ?_)
 refine wpAny_bind (wpAny_fieldsOf hI rfl ?_)
 dsimp only
 refine wpAny_bind (wpAny_setEntries_of ho hd hS.fits ?_)
 rw[if_neg (by simp)]
 refine wpAny_bind (hN _ _ _ ?_)
 dsimp only
 refine wpAny_bind (wpAny_setField_rec hI (by simp) fun h1 g1 b1=>?_)
 refine wpAny_bind ?_
 simp only[newExc,newTuple]
 refine wpAny_bind (wpAny_newObj_type ?_ (by size_fits))
 refine wpAny_bind (m:=firstArgMember _ _) (wpAny_of_eq (a:=Value.none) (by first|rfl| (simp only[firstArgMember];rfl)) ?_)
 refine wpAny_newObj_type ?_ (by size_fits)
 simp only[raiseNew]
 refine wpAny_bind (wpAny_handled ?_)
 rw[show A.in1.handled=none from hh]
 refine wpAny_bind (wpAny_pure (wpAny_throw ?_))
 refine wpAny_bind (wpAny_isInstance (T:="StopIteration") (b:=true) ⟨_,Heap.get?_push_size _ rfl,rfl⟩ isSubtype_stop ?_)
 exact wpAny_pure (hQ _ ((b1.extBut.push _).push _))
theorem J_{T:Addr}{ps:List Nat}{p:Nat}{x:Int×Value}{Q:Option Value→Shared→Prop}(hI:s.heap.get? I=some (pB (.ref T) i a es.size ep))(hS:At s.heap a es ep t)
  (hT:s.heap.get? T=some {cls:= .type "tuple",data:= .seq (ps.map fun(j:Nat)=>rawInt j).toArray}) (hp:ps[i]? =some p) (hx:es[p]? =some x)
  (hQ:∀h',h'.get? I=some (pB (.ref T) (i+1) a es.size ep)→Heap.SameBut I s.heap h'→Q (some x.2) {s with heap:=h'}):wpAny (model prog w) A (pyNext (.ref I)) Q E s:=by
 obtain⟨o,ho,_,hd⟩:=hS.ex
 have hTI:s.TypeIs (.ref I) "set_iterator":=⟨_,hI,rfl⟩
 unfold pyNext
 refine wpAny_bind (wpAny_attempt (wpAny_callSpecial?_slot (name:=Str.ofString "__next__") hTI ik (wpAny_call_entry ik hTI yf ?_ (yg _))))
 unfold Builtin.«set_iterator.__next__»
 refine wpAny_bind (m:=slotArgs "__next__" 0 ⟨[.ref I],[]⟩) (wpAny_pure ?_)
 refine wpAny_bind (wpAny_fieldsOf hI rfl ?_)
 dsimp only
 refine wpAny_bind (wpAny_setEntries_of ho hd hS.fits ?_)
 rw[if_neg (by simp)]
 unfold seqItems?
 refine wpAny_bind (wpAny_bind (wpAny_load hT (wpAny_pure ?_)))
 dsimp only
 have e:((ps.map fun(j:Nat)=>rawInt j).toArray)[((i:Nat):Int).toNat]? =some (rawInt p):=by
  have:((i:Nat):Int).toNat=i:=by omega
  rw[this,List.getElem?_toArray,List.getElem?_map,hp];rfl
 rw[e]
 show wpAny _ _ (setNextDrawn a ((p:Nat):Int).toNat ((ep:Nat):Int).toNat >>= _) _ _ _
 unfold setNextDrawn
 refine wpAny_bind (wpAny_bind (wpAny_setState_of ho hd hS.fits ?_))
 dsimp only
 rw[if_neg (by simp)]
 have e2:((p:Nat):Int).toNat=p:=by omega
 rw[e2,hx]
 refine wpAny_pure ?_
 refine wpAny_bind (wpAny_setField_rec hI (by simp) fun h2 g2 b2=>?_)
 exact wpAny_pure ⟨_,rfl,wpAny_pure (hQ h2 g2 b2)⟩
theorem Pr{T:Addr}{ps:List Nat}{Q:Option Value→Shared→Prop}(hh:A.handled=none)(hI:s.heap.get? I=some (pB (.ref T) i a es.size ep))(hS:At s.heap a es ep t)
  (hT:s.heap.get? T=some {cls:= .type "tuple",data:= .seq (ps.map fun(j:Nat)=>rawInt j).toArray}) (hp:ps[i]? =none)
  (hQ:∀h',Heap.ExtBut I s.heap h'→Q none {s with heap:=h'}):wpAny (model prog w) A (pyNext (.ref I)) Q E s:=by
 obtain⟨o,ho,_,hd⟩:=hS.ex
 have hTI:s.TypeIs (.ref I) "set_iterator":=⟨_,hI,rfl⟩
 unfold pyNext
 refine wpAny_bind (wpAny_attempt (wpAny_callSpecial?_slot (name:=Str.ofString "__next__") hTI ik (wpAny_call_entry ik hTI yf ?_ (yg _))))
 unfold Builtin.«set_iterator.__next__»
 refine wpAny_bind (m:=slotArgs "__next__" 0 ⟨[.ref I],[]⟩) (wpAny_pure ?_)
 refine wpAny_bind (wpAny_fieldsOf hI rfl ?_)
 dsimp only
 refine wpAny_bind (wpAny_setEntries_of ho hd hS.fits ?_)
 rw[if_neg (by simp)]
 unfold seqItems?
 refine wpAny_bind (wpAny_bind (wpAny_load hT (wpAny_pure ?_)))
 dsimp only
 have e:((ps.map fun(j:Nat)=>rawInt j).toArray)[((i:Nat):Int).toNat]? =none:=by
  have:((i:Nat):Int).toNat=i:=by omega
  rw[this,List.getElem?_toArray,List.getElem?_map,hp];rfl
 rw[e]
 dsimp only
 refine wpAny_bind (wpAny_setField_rec hI (by simp) fun h0 g0 b0=>?_)
 refine wpAny_bind (wpAny_setField_rec g0 (by simp) fun h1 g1 b1=>?_)
 refine wpAny_bind ?_
 simp only[newExc,newTuple]
 refine wpAny_bind (wpAny_newObj_type ?_ (by size_fits))
 refine wpAny_bind (m:=firstArgMember _ _) (wpAny_of_eq (a:=Value.none) (by first|rfl| (simp only[firstArgMember];rfl)) ?_)
 refine wpAny_newObj_type ?_ (by size_fits)
 simp only[raiseNew]
 refine wpAny_bind (wpAny_handled ?_)
 rw[show A.in1.handled=none from hh]
 refine wpAny_bind (wpAny_pure (wpAny_throw ?_))
 refine wpAny_bind (wpAny_isInstance (T:="StopIteration") (b:=true) ⟨_,Heap.get?_push_size _ rfl,rfl⟩ isSubtype_stop ?_)
 exact wpAny_pure (hQ _ (((b0.trans b1).extBut.push _).push _))
end
theorem Mi{α:Type}(f:Nat→Nat):∀(n k:Nat) (l:List α) (out:Array α),l.length=n→(pickOrder.go f n k l out).toList.Perm (out.toList++l)
 |0,k,l,out,h=>by
  have:l=[]:=List.length_eq_zero_iff.mp h
  subst this
  unfold pickOrder.go
  simp
 |n+1,k,l,out,h=>by
  unfold pickOrder.go
  have hlt:f k % l.length<l.length:=Nat.mod_lt _ (by omega)
  rw[List.getElem?_eq_getElem hlt]
  dsimp only
  have ih:=Mi f n (k+1) (l.eraseIdx (f k % l.length)) (out.push l[f k % l.length]) (by rw[List.length_eraseIdx_of_lt hlt];omega)
  refine ih.trans ?_
  rw[Array.toList_push,List.append_assoc]
  exact(tK hlt).append_left _
theorem vQ{α:Type}(f:Nat→Nat)(xs:Array α):(pickOrder f xs).toList.Perm xs.toList:=by
 have:=Mi f xs.size 0 xs.toList #[] (by simp)
 simpa[pickOrder]using this
section
variable{prog:Program}{w:World}{A:Around}{E:Value→Shared→Prop}{s:Shared}{I a:Addr}{es:Array (Int×Value)}{ep:Nat}{t:SetTable}
theorem B_{i slot:Nat}{Q:Option (Value×Nat)→Shared→Prop}(hb:IK w=true)(hS:At s.heap a es ep t)(h:Q (((pickOrder (w.params.setOrder a ep) es)[i]?).map fun e=>(e.2,slot)) s):wpAny (model prog w) A (setNext a slot i ep) Q E s:=by
 obtain⟨o,ho,hx,hd⟩:=hS.ex
 unfold setNext
 refine wpAny_bind (wpAny_setState_of ho hd hS.fits ?_)
 dsimp only
 refine wpAny_bind (qp ?_)
 rw[if_pos hb,if_neg (by simp)]
 unfold setWalk
 refine wpAny_bind (wpAny_bind (wpAny_setState_of ho hd hS.fits ?_))
 dsimp only
 refine wpAny_bind (qp ?_)
 rw[if_pos hb]
 exact wpAny_bind (wpAny_askSetting (wpAny_pure (wpAny_pure h)))
theorem yQ{i slot:Nat}{Q:Option (Value×Nat)→Shared→Prop}(hb:IK w=false)(hl:t.led=true)(hp:(!t.plain&&decide (es.size>1))=false)(hS:At s.heap a es ep t)
  (h:Q (match es[SetTable.below t.place slot]?,t.place[SetTable.below t.place slot]? with|some (_,x),some j=>some (x,j+1)|_,_=>none) s):wpAny (model prog w) A (setNext a slot i ep) Q E s:=by
 obtain⟨o,ho,hx,hd⟩:=hS.ex
 unfold setNext
 refine wpAny_bind (wpAny_setState_of ho hd hS.fits ?_)
 dsimp only
 refine wpAny_bind (qp ?_)
 rw[if_neg (by show ¬IK w=true;rw[hb];simp)]
 rw[if_neg (by show ¬(!t.plain&&decide (es.size>1))=true;rw[hp];simp)]
 refine wpAny_bind (?_:wpAny _ _ (if (!t.led&& !es.isEmpty)=true then unsupported "set:maker-not-led" else pure ()) _ _ _)
 rw[if_neg (by rw[hl];simp)]
 exact wpAny_pure (wpAny_pure h)
structure Wk(prog:Program)(w:World)(vs:Array Value)(I a:Addr)(es:Array (Int×Value))(ep:Nat)(t:SetTable)(fp:List Addr)(St:Nat→Heap→Prop):Prop where
 wk:∀A:Around,A.handled=none→Walks prog w A I fp [I] es.size (fun i v=>vs[i]? =some v) St
 mem:I∈fp
 ne:a≠I
 perm:vs.toList.Perm (es.toList.map (·.2))
theorem Dn{i:Nat}{first:Value}{n:Nat}{Q:Value→Shared→Prop}(hI:s.heap.get? I=some (pB first i a n ep))(h:Q (.ref I) s):wpAny (model prog w) A (pyIter (.ref I)) Q E s:=by
 have hT:s.TypeIs (.ref I) "set_iterator":=⟨_,hI,rfl⟩
 have sl:Slot "set_iterator" "__iter__" "set_iterator.__iter__":= .of (owner:="set_iterator") (n:="__iter__") (by rw[typeLookup_type,builtinLookup_eq_fast];kernel_rfl) (by decide+kernel) (by decide+kernel) (by decide+kernel) (.inl (by decide+kernel)) (by rw[isSubtype_type];kernel_rfl)
 have en:entryFor table "set_iterator.__iter__"=some Builtin.«dict_keyiterator.__iter__»:=entryFor_alias (id':="dict_keyiterator.__iter__") (by kernel_rfl) (by first|rfl|decide+kernel) (by decide+kernel) (by kernel_rfl)
 have ar:argsOk "set_iterator.__iter__" ⟨[.ref I],[]⟩:=by unfold argsOk;kernel_rfl
 refine wpAny_pyIter_slot hT sl (wpAny_call_entry sl hT en ?_ ar)
 show wpAny _ _ (ret (.ref I)) _ _ s
 exact wpAny_pure ⟨_,rfl,"set_iterator",_,hT,ik.lookup,h⟩
theorem T3(hb:IK w=true)(hne:a≠I):Wk prog w ((pickOrder (w.params.setOrder a ep) es).map (·.2)) I a es ep t [I,a] (fun i h=>h.get? I=some (pB (rawInt 0) i a es.size ep)∧At h a es ep t) where
 mem:=by simp
 ne:=hne
 perm:=by rw[Array.toList_map];exact(vQ _ _).map _
 wk:=fun A hh=>{
  sub:=fun b hb=>by simp at hb;simp [hb]
  frame:=fun i h h' st hk=>⟨hk I (by simp) _ st.1,st.2.at fun o e=>hk a (by simp) o e⟩
  item:=fun i s Q E hi st hQ=>by
   have hsz:(pickOrder (w.params.setOrder a ep) es).size=es.size:=by have:=(vQ (w.params.setOrder a ep) es).length_eq;simpa using this
   have hi':i< (pickOrder (w.params.setOrder a ep) es).size:=by omega
   refine Hx st.1 st.2 hne (x:=((pickOrder (w.params.setOrder a ep) es)[i]).2) (nx:=0) (fun A E Q q=>B_ hb st.2 ?_) fun h' g b=>?_
   ·rw[Array.getElem?_eq_getElem hi'];exact q
   ·exact hQ _ h' s.toks (by rw[Array.getElem?_map,Array.getElem?_eq_getElem hi'];rfl) ⟨g,st.2.at fun o e=>(b.2 a hne).trans e⟩ fun c o hc e=>(b.2 c fun z=>hc (by simp [z])).trans e
  done:=fun s Q E st hQ=>by
   have hsz:(pickOrder (w.params.setOrder a ep) es).size=es.size:=by have:=(vQ (w.params.setOrder a ep) es).length_eq;simpa using this
   refine end_int hh st.1 st.2 (fun A E Q q=>B_ hb st.2 ?_) fun h' b=>hQ h' s.toks fun c o hc e=>b c o (fun z=>hc (by simp [z])) e
   rw[Array.getElem?_eq_none (by omega)];exact q
  self:=fun i s Q E st q=>Dn st.1 q}
theorem Qc{T:Addr}{ps:List Nat}(hne:a≠I)(hTI:T≠I)(hps:ps.Perm (List.range es.size)):Wk prog w (ps.map fun p=>(es.getD p (0,.none)).2).toArray I a es ep t [I,a,T]
  (fun i h=>h.get? I=some (pB (.ref T) i a es.size ep)∧At h a es ep t∧h.get? T=some {cls:= .type "tuple",data:= .seq (ps.map fun(j:Nat)=>rawInt j).toArray}) where
 mem:=by simp
 ne:=hne
 perm:=by
  rw[List.toList_toArray]
  refine(hps.map _).trans ?_
  have:(List.range es.size).map (fun p=>(es.getD p (0,.none)).2)=es.toList.map (·.2):=by
   refine List.ext_getElem (by simp) fun i h1 h2=>?_
   have hi:i<es.size:=by simpa using h1
   simp [Array.getD,hi]
  rw[this]
 wk:=fun A hh=>{
  sub:=fun b hb=>by simp at hb;simp [hb]
  frame:=fun i h h' st hk=>⟨hk I (by simp) _ st.1,st.2.1.at fun o e=>hk a (by simp) o e,hk T (by simp) _ st.2.2⟩
  item:=fun i s Q E hi st hQ=>by
   have hl:ps.length=es.size:=by have:=hps.length_eq;simpa using this
   have hi':i<ps.length:=by omega
   have hp:ps[i]<es.size:=by have:=hps.mem_iff.mp (List.getElem_mem hi');simpa using this
   refine J_ st.1 st.2.1 st.2.2 (List.getElem?_eq_getElem hi') (Array.getElem?_eq_getElem hp) fun h' g b=>?_
   refine hQ _ h' s.toks ?_ ⟨g,st.2.1.at fun o e=>(b.2 a hne).trans e,(b.2 T hTI).trans st.2.2⟩ fun c o hc e=>(b.2 c fun z=>hc (by simp [z])).trans e
   rw[List.getElem?_toArray,List.getElem?_map,List.getElem?_eq_getElem hi']
   simp [Array.getD,hp]
  done:=fun s Q E st hQ=>by
   have hl:ps.length=es.size:=by have:=hps.length_eq;simpa using this
   exact Pr hh st.1 st.2.1 st.2.2 (List.getElem?_eq_none (by omega)) fun h' b=>hQ h' s.toks fun c o hc e=>b c o (fun z=>hc (by simp [z])) e
  self:=fun i s Q E st q=>Dn st.1 q}
def slotAt(t:SetTable):Nat→Nat
 |0=>0
 |i+1=>t.place.getD i 0+1
theorem zX{t:SetTable}(h:tV t.place):∀ {i:Nat},i≤t.place.size→SetTable.below t.place (slotAt t i)=i
 |0,_=>Lb h
 |i+1,hi=>by
  have:t.place.getD i 0=t.place[i]'(by omega):=by simp [Array.getD,show i<t.place.size by omega]
  show SetTable.below t.place (t.place.getD i 0+1)=i+1
  rw[this];exact below_at h (by omega)
theorem Qa(hb:IK w=false)(hl:t.led=true)(hr:tV t.place)(hp:(!t.plain&&decide (es.size>1))=false)(hf:t.fits es.size=true)(hne:a≠I):Wk prog w (es.map (·.2)) I a es ep t [I,a]
  (fun i h=>i≤es.size∧h.get? I=some (pB (rawInt (slotAt t i)) i a es.size ep)∧At h a es ep t) where
 mem:=by simp
 ne:=hne
 perm:=by rw[Array.toList_map]
 wk:=fun A hh=>{
  sub:=fun b hb=>by simp at hb;simp [hb]
  frame:=fun i h h' st hk=>⟨st.1,hk I (by simp) _ st.2.1,st.2.2.at fun o e=>hk a (by simp) o e⟩
  item:=fun i s Q E hi st hQ=>by
   have hz:t.place.size=es.size:=by simp only[SetTable.fits,Bool.and_eq_true,beq_iff_eq]at hf;exact hf.1
   have hi':i<t.place.size:=by omega
   have hs:((slotAt t i:Nat):Int).toNat=slotAt t i:=by omega
   refine Hx st.2.1 st.2.2 hne (x:=(es[i]).2) (nx:=t.place[i]+1) (fun A E Q q=>?_) fun h' g b=>?_
   ·rw[hs]
    refine yQ hb hl hp st.2.2 ?_
    rw[zX hr (by omega),Array.getElem?_eq_getElem hi,Array.getElem?_eq_getElem hi']
    exact q
   ·have e1:slotAt t (i+1)=t.place[i]+1:=by show t.place.getD i 0+1=_;simp [Array.getD,hi']
    exact hQ _ h' s.toks (by rw[Array.getElem?_map,Array.getElem?_eq_getElem hi];rfl) ⟨hi,by rw[e1];exact g,st.2.2.at fun o e=>(b.2 a hne).trans e⟩ fun c o hc e=>(b.2 c fun z=>hc (by simp [z])).trans e
  done:=fun s Q E st hQ=>by
   have hz:t.place.size=es.size:=by simp only[SetTable.fits,Bool.and_eq_true,beq_iff_eq]at hf;exact hf.1
   have hs:((slotAt t es.size:Nat):Int).toNat=slotAt t es.size:=by omega
   refine end_int hh st.2.1 st.2.2 (fun A E Q q=>?_) fun h' b=>hQ h' s.toks fun c o hc e=>b c o (fun z=>hc (by simp [z])) e
   rw[hs]
   refine yQ hb hl hp st.2.2 ?_
   rw[zX hr (by omega),Array.getElem?_eq_none (by omega)]
   exact q
  self:=fun i s Q E st q=>Dn st.2.1 q}
theorem Vs{Q:Value→Shared→Prop}(hS:At s.heap a es ep t)(ht:vG (IK w) t)(hz:es.size≤sizeLine)
  (hQ:∀(I:Addr) (fp:List Addr) (St:Nat→Heap→Prop) (vs:Array Value) (h':Heap) (d:Drawn),Wk prog w vs I a es ep t fp St→St 0 h'→(∀b∈fp,b<h'.objs.size)→(∀b∈fp,b=a∨s.heap.objs.size≤b)→(∀b o,s.heap.get? b=some o→h'.get? b=some o)→Q (.ref I) {s with heap:=h',drawn:=d}):
  wpAny (model prog w) A (pyIter (.ref a)) Q E s:=by
 obtain⟨o,ho,hx,hd⟩:=hS.ex
 have hT:s.TypeIs (.ref a) "set":=⟨o,ho,hx.1⟩
 have ha:a<s.heap.objs.size:=Heap.lt_size ho
 refine wpAny_pyIter_slot hT PySem.F.slot_set_iter (wpAny_call_entry PySem.F.slot_set_iter hT V4 ?_ (PySem.F.args_set_iter_1 _))
 unfold Builtin.«frozenset.__iter__» Builtin.Frozenset.slot0 Builtin.Frozenset.sizeOf
 refine wpAny_bind (wpAny_bind (m:=slotArgs "__iter__" 0 ⟨[.ref a],[]⟩) (wpAny_pure (wpAny_pure ?_)))
 refine wpAny_bind (wpAny_bind (wpAny_setEntries_of ho hd hS.fits (wpAny_pure ?_)))
 unfold setDrawn
 refine wpAny_bind (wpAny_bind (wpAny_setState_of ho hd hS.fits ?_))
 dsimp only
 refine wpAny_bind (qp (wpAny_pure ?_))
 show wpAny _ _ (if (!IK w&&(!t.plain&&decide (es.size>1)))=true then _ else _) _ _ _
 by_cases hc:(!IK w&&(!t.plain&&decide (es.size>1)))=true
 ·rw[if_pos hc]
  refine wpAny_bind (Ng es.size (List.range es.size) s (by simp) fun ps d hps=>?_)
  refine wpAny_bind (wpAny_newTuple ?_ (by rw[List.length_map,hps.length_eq,List.length_range];exact hz))
  unfold setEpoch
  refine wpAny_bind (wpAny_bind (wpAny_setState_of (s:={s with heap:=s.heap.push _,drawn:=d}) (Heap.get?_push_of_some _ ho) hd hS.fits (wpAny_pure ?_)))
  refine wpAny_bind (wpAny_newObj_type (wpAny_pure ⟨_,rfl,"set_iterator",_,⟨_,Heap.get?_push_size _ rfl,rfl⟩,ik.lookup,?_⟩))
  have sz:(s.heap.push {cls:= .type "tuple",data:= .seq (ps.map fun(j:Nat)=>rawInt j).toArray}).objs.size=s.heap.objs.size+1:=Heap.size_push ..
  refine hQ _ [_,a,s.heap.objs.size] _ _ _ d (Qc (T:=s.heap.objs.size) (ps:=ps) (by rw[sz];exact Nat.ne_of_lt (Nat.lt_succ_of_lt ha)) (by rw[sz];exact Nat.ne_of_lt (Nat.lt_succ_self _)) hps)
   ⟨Heap.get?_push_size _ rfl,hS.at fun o e=>Heap.get?_push_of_some _ (Heap.get?_push_of_some _ e),Heap.get?_push_of_some _ (Heap.get?_push_size _ rfl)⟩ (fun b hb=>?_) (fun b hb=>?_) fun b o e=>Heap.get?_push_of_some _ (Heap.get?_push_of_some _ e)
  ·rw[Heap.size_push,sz]
   rcases List.mem_cons.mp hb with rfl|hb
   ·rw[sz];exact Nat.lt_succ_self _
   ·rcases List.mem_cons.mp hb with rfl|hb
    ·exact Nat.lt_succ_of_lt (Nat.lt_succ_of_lt ha)
    ·rw[List.mem_singleton.mp hb];exact Nat.lt_succ_of_lt (Nat.lt_succ_self _)
  ·rcases List.mem_cons.mp hb with rfl|hb
   ·exact .inr (by rw[sz];exact Nat.le_succ _)
   ·rcases List.mem_cons.mp hb with rfl|hb
    ·exact .inl rfl
    ·rw[List.mem_singleton.mp hb];exact .inr (Nat.le_refl _)
 ·rw[if_neg hc]
  refine wpAny_bind (wpAny_pure ?_)
  unfold setEpoch
  refine wpAny_bind (wpAny_bind (wpAny_setState_of ho hd hS.fits (wpAny_pure ?_)))
  refine wpAny_bind (wpAny_newObj_type (wpAny_pure ⟨_,rfl,"set_iterator",_,⟨_,Heap.get?_push_size _ rfl,rfl⟩,ik.lookup,?_⟩))
  have ne:a≠s.heap.objs.size:=Nat.ne_of_lt ha
  have bd:∀b∈[s.heap.objs.size,a],b< (s.heap.push (pB (rawInt 0) 0 a es.size ep)).objs.size:=fun b hb=>by
   rw[Heap.size_push]
   rcases List.mem_cons.mp hb with rfl|hb
   ·exact Nat.lt_succ_self _
   ·rw[List.mem_singleton.mp hb];exact Nat.lt_succ_of_lt ha
  have bn:∀b∈[s.heap.objs.size,a],b=a∨s.heap.objs.size≤b:=fun b hb=>by
   rcases List.mem_cons.mp hb with rfl|hb
   ·exact .inr (Nat.le_refl _)
   ·exact .inl (List.mem_singleton.mp hb)
  cases hb:IK w with
  |true=>exact hQ _ _ _ _ _ s.drawn (T3 hb ne) ⟨Heap.get?_push_size _ rfl,hS.at fun o e=>Heap.get?_push_of_some _ e⟩ bd bn fun b o e=>Heap.get?_push_of_some _ e
  |false=>
   have hl:t.led=true:=ht.led.resolve_left (by rw[hb];simp)
   have hp:(!t.plain&&decide (es.size>1))=false:=by rw[hb]at hc;simpa using hc
   exact hQ _ _ _ _ _ s.drawn (Qa hb hl ht.rise hp hS.fits ne) ⟨Nat.zero_le _,Heap.get?_push_size _ rfl,hS.at fun o e=>Heap.get?_push_of_some _ e⟩ bd bn fun b o e=>Heap.get?_push_of_some _ e
end
end ST
namespace Z3
open PySem
theorem yo(a b c:Value):checkTypeCall "zip" ⟨[a,b,c],[]⟩=pure ():=by kernel_rfl
theorem Bc(a b c:Value):checkBuiltinCall "zip.__new__" ⟨[.type "zip",a,b,c],[]⟩=pure ():=by kernel_rfl
theorem tQ(a b c d:Value):argsOk "object.__init__" ⟨[a,b,c,d],[]⟩:=by
 unfold argsOk;rw[signature?_of (id:="object.__init__") (n:=['_','_','t','i','n','i','_','_']) (o:=['t','c','e','j','b','o']) (by kernel_rfl) F.owner_object];kernel_rfl
abbrev qx(h:Heap)(z TI TO:Addr)(f0 f1:Value):Prop:=
 h.get? z=some {cls:= .type "zip",dict:=none,data:= .fields #[f0,f1,.bool false,.ref TI,.ref TO],slots:=#[]}
abbrev eU(h:Heap)(T:Addr)(a b c:Value):Prop:=h.get? T=some {cls:= .type "tuple",data:= .seq #[a,b,c]}
def F0(f0:Value):Prop:=f0= .none∨∃a t,f0= .int a t
structure Apart(z TI TO i1 i2 i3 l1 l2 l3:Addr):Prop where
 nd:[z,TI,TO,i1,i2,i3].Nodup
 l1:l1∉[z,TO,i1,i2,i3]
 l2:l2∉[z,TO,i1,i2,i3]
 l3:l3∉[z,TO,i1,i2,i3]
section
variable{prog:Program}{w:World}{A:Around}{E:Value→Shared→Prop}{s:Shared}
theorem Jk{T:Addr}{a b c x:Value}{k:Nat}{Q:Unit→Shared→Prop}(hT:eU s.heap T a b c)
  (h:∀h',h'.get? T=some {cls:= .type "tuple",data:= .seq ((#[a,b,c]:Array Value).setIfInBounds k x)}→Heap.SameBut T s.heap h'→Q () {s with heap:=h'}):
  wpAny (model prog w) A (updateSeq T (·.setIfInBounds k x)) Q E s:=by
 refine wpAny_updateSeq hT rfl (h _ ?_ (Heap.SameBut.update ..))
 rw[Heap.get?_update_self _ hT rfl]
 simp [Obj.mapSeq]
theorem alive{a:Addr}{Q:Option Obj→Shared→Prop}(h:Q (s.heap.get? a) s):wpAny (model prog w) A (loadIfAlive a) Q E s:=fun _ _ _=>h
theorem isFree{z TI TO:Addr}{f0 f1:Value}{Q:Bool→Shared→Prop}(hz:qx s.heap z TI TO f0 f1)(h0:F0 f0)
  (hQ:∀b h' qj,qx h' z TI TO f0 qj→Heap.SameBut z s.heap h'→Q b {s with heap:=h'}):wpAny (model prog w) A (Builtin.SmallTypes.ownedTupleIsFree (.ref z)) Q E s:=by
 unfold Builtin.SmallTypes.ownedTupleIsFree
 have same:Heap.SameBut z s.heap s.heap:=⟨rfl,fun _ _=>rfl⟩
 rcases h0 with rfl| ⟨a,t,rfl⟩
 ·exact wpAny_bind (wpAny_field hz rfl (x:= .none) rfl (wpAny_pure (hQ true s.heap f1 hz same)))
 ·refine wpAny_bind (wpAny_field hz rfl (x:= .int a t) rfl ?_)
  refine wpAny_bind (alive ?_)
  cases e:s.heap.get? a.toNat with
  |none=>exact wpAny_pure (hQ true s.heap f1 hz same)
  |some o=>
   show wpAny _ _ (field (.ref z) 1 >>= _) _ _ _
   refine wpAny_bind (wpAny_field hz rfl (x:=f1) rfl ?_)
   by_cases hb:(f1 != Value.bool true)=true
   ·simp only[hb,if_true]
    refine wpAny_bind (wpAny_setField_rec hz (by simp) fun h1 hz1 hs1=>wpAny_pure ?_)
    exact hQ false h1 (.bool true) hz1 hs1
   ·simp only[hb]
    exact wpAny_pure (hQ false s.heap f1 hz same)
theorem next_item{z TI TO i1 i2 i3 l1 l2 l3:Addr}{k:Nat}{xs ys zs:Array Value}{x y u a b c f0 f1:Value}{Q:Value→Shared→Prop}(D:Apart z TI TO i1 i2 i3 l1 l2 l3)
  (hz:qx s.heap z TI TO f0 f1) (h0:F0 f0) (hTI:eU s.heap TI (.ref i1) (.ref i2) (.ref i3)) (hTO:eU s.heap TO a b c)
  (h1:s.heap.IsListIter i1 l1 k) (h2:s.heap.IsListIter i2 l2 k) (h3:s.heap.IsListIter i3 l3 k) (hl1:s.heap.IsList l1 xs) (hl2:s.heap.IsList l2 ys) (hl3:s.heap.IsList l3 zs)
  (hx:xs[k]? =some x) (hy:ys[k]? =some y) (hu:zs[k]? =some u)
  (hQ:∀h' f0' qj,qx h' z TI TO f0' qj→F0 f0'→(∃a b c,eU h' TO a b c)→h'.IsListIter i1 l1 (k+1)→h'.IsListIter i2 l2 (k+1)→h'.IsListIter i3 l3 (k+1)→eU h' s.heap.objs.size x y u→h'.objs.size=s.heap.objs.size+1→
   (∀c o,c≠z→c≠TO→c≠i1→c≠i2→c≠i3→s.heap.get? c=some o→h'.get? c=some o)→Q (.ref s.heap.objs.size) {s with heap:=h'}):
  wpAny (model prog w) A (Builtin.«zip.__next__» ⟨[.ref z],[]⟩) (fun fin s'=>∃v,fin= .done (.ret v)∧Q v s') E s:=by
 have nd:=D.nd
 have d1:=D.l1
 have d2:=D.l2
 have d3:=D.l3
 simp only[List.nodup_cons,List.mem_cons,List.not_mem_nil,or_false,not_or,not_false_eq_true,List.nodup_nil,and_true]at nd d1 d2 d3
 obtain⟨⟨Zu,Jj,Bt,Li,W6⟩,⟨TITO,TIi1,TIi2,Y7⟩,⟨TOi1,TOi2,PN⟩,⟨i12,Zh⟩,Zg⟩:=nd
 obtain⟨l1z,l1TO,l1i1,l1i2,acg⟩:=d1
 obtain⟨l2z,l2TO,l2i1,l2i2,aeD⟩:=d2
 obtain⟨l3z,acf,aao,aan,aeC⟩:=d3
 show wpAny _ _ (field (.ref z) 2 >>= _) _ _ _
 refine wpAny_bind (wpAny_field hz rfl (x:= .bool false) rfl ?_)
 show wpAny _ _ (field (.ref z) 3 >>= _) _ _ _
 refine wpAny_bind (wpAny_field hz rfl (x:= .ref TI) rfl ?_)
 refine wpAny_bind (wpAny_seqItems hTI rfl ?_)
 show wpAny _ _ (Builtin.SmallTypes.ownedTupleIsFree (.ref z) >>= _) _ _ _
 refine wpAny_bind (isFree hz h0 fun fr h0' qj hz0 hs0=>?_)
 cases fr with
 |true=>
  simp only[if_true]
  refine wpAny_bind (wpAny_rule ?_)
  refine wpAny_bind (wpAny_field hz0 rfl (x:= .ref TO) rfl ?_)
  refine wpAny_bind (wpAny_setField_rec hz0 (by simp) fun h₁ hz₁ hs₁=>?_)
  replace hz₁:qx h₁ z TI TO .ellipsis qj:=hz₁
  have k1:∀c o,c≠z→s.heap.get? c=some o→h₁.get? c=some o:=fun c o c1 e=>hs₁.extBut _ _ c1 (hs0.extBut _ _ c1 e)
  refine wpAny_bind ?_
  simp only[List.zipIdx_cons,List.zipIdx_nil,List.forIn_cons,List.forIn_nil]
  refine wpAny_bind (wpAny_bind (wpAny_onRaise ?_))
  show wpAny _ _ (Builtin.SmallTypes.nextOf (.ref i1) >>= _) _ _ _
  refine wpAny_bind (wpAny_nextOf_list_item (h1.at fun o e=>k1 _ o (Ne.symm Bt) e) (hl1.at fun o e=>k1 _ o l1z e) hx fun h₂ h1₂ hs₂=>wpAny_pure ?_)
  have k2:∀c o,c≠z→c≠i1→s.heap.get? c=some o→h₂.get? c=some o:=fun c o c1 c2 e=>hs₂.extBut _ _ c2 (k1 c o c1 e)
  have hTO₂:eU h₂ TO a b c:=k2 _ _ (Ne.symm Jj) TOi1 hTO
  refine wpAny_bind (wpAny_seqItems hTO₂ rfl ?_)
  refine wpAny_bind (Jk hTO₂ fun h₃ hTO₃ hs₃=>?_)
  replace hTO₃:eU h₃ TO x b c:=hTO₃
  refine wpAny_bind (wpAny_letGo (wpAny_pure ?_))
  have k3:∀c o,c≠z→c≠i1→c≠TO→s.heap.get? c=some o→h₃.get? c=some o:=fun c o c1 c2 c3 e=>hs₃.extBut _ _ c3 (k2 c o c1 c2 e)
  refine wpAny_bind (wpAny_bind (wpAny_onRaise ?_))
  show wpAny _ _ (Builtin.SmallTypes.nextOf (.ref i2) >>= _) _ _ _
  refine wpAny_bind (wpAny_nextOf_list_item (h2.at fun o e=>k3 _ o (Ne.symm Li) (Ne.symm i12) (Ne.symm TOi2) e) (hl2.at fun o e=>k3 _ o l2z l2i1 l2TO e) hy fun h₄ h2₄ hs₄=>wpAny_pure ?_)
  have hTO₄:eU h₄ TO x b c:=hs₄.extBut _ _ TOi2 hTO₃
  refine wpAny_bind (wpAny_seqItems hTO₄ rfl ?_)
  refine wpAny_bind (Jk hTO₄ fun h₅ hTO₅ hs₅=>?_)
  replace hTO₅:eU h₅ TO x y c:=hTO₅
  refine wpAny_bind (wpAny_letGo (wpAny_pure ?_))
  have k5:∀c o,c≠z→c≠i1→c≠TO→c≠i2→s.heap.get? c=some o→h₅.get? c=some o:=fun c o c1 c2 c3 c4 e=>hs₅.extBut _ _ c3 (hs₄.extBut _ _ c4 (k3 c o c1 c2 c3 e))
  refine wpAny_bind (wpAny_bind (wpAny_onRaise ?_))
  show wpAny _ _ (Builtin.SmallTypes.nextOf (.ref i3) >>= _) _ _ _
  refine wpAny_bind (wpAny_nextOf_list_item (h3.at fun o e=>k5 _ o (Ne.symm W6) (Ne.symm Zh) (Ne.symm PN) (Ne.symm Zg) e) (hl3.at fun o e=>k5 _ o l3z aao acf aan e) hu fun h₆ h3₆ hs₆=>wpAny_pure ?_)
  have hTO₆:eU h₆ TO x y c:=hs₆.extBut _ _ PN hTO₅
  refine wpAny_bind (wpAny_seqItems hTO₆ rfl ?_)
  refine wpAny_bind (Jk hTO₆ fun h₇ hTO₇ hs₇=>?_)
  replace hTO₇:eU h₇ TO x y u:=hTO₇
  refine wpAny_bind (wpAny_letGo (wpAny_pure (wpAny_pure ?_)))
  have k7:∀c o,c≠z→c≠i1→c≠TO→c≠i2→c≠i3→s.heap.get? c=some o→h₇.get? c=some o:=fun c o c1 c2 c3 c4 c5 e=>hs₇.extBut _ _ c3 (hs₆.extBut _ _ c5 (k5 c o c1 c2 c3 c4 e))
  refine wpAny_bind (wpAny_seqItems hTO₇ rfl ?_)
  refine wpAny_bind (wpAny_newTuple ?_)
  have hsz:h₇.objs.size=s.heap.objs.size:=by rw[hs₇.1,hs₆.1,hs₅.1,hs₄.1,hs₃.1,hs₂.1,hs₁.1,hs0.1]
  have hz₇:qx h₇ z TI TO .ellipsis qj:=hs₇.extBut _ _ Jj (hs₆.extBut _ _ W6 (hs₅.extBut _ _ Jj (hs₄.extBut _ _ Li (hs₃.extBut _ _ Jj (hs₂.extBut _ _ Bt hz₁)))))
  have g1:h₇.IsListIter i1 l1 (k+1):=((((h1₂.extBut hs₃.extBut (Ne.symm TOi1)).extBut hs₄.extBut i12).extBut hs₅.extBut (Ne.symm TOi1)).extBut hs₆.extBut Zh).extBut hs₇.extBut (Ne.symm TOi1)
  have g2:h₇.IsListIter i2 l2 (k+1):=((h2₄.extBut hs₅.extBut (Ne.symm TOi2)).extBut hs₆.extBut Zg).extBut hs₇.extBut (Ne.symm TOi2)
  have g3:h₇.IsListIter i3 l3 (k+1):=h3₆.extBut hs₇.extBut (Ne.symm PN)
  have hzlt:z<h₇.objs.size:=Heap.lt_size hz₇
  show wpAny _ _ (Builtin.SmallTypes.ownedTupleHandOut (.ref z) (.ref h₇.objs.size) >>= _) _ _ _
  refine wpAny_bind ?_
  unfold Builtin.SmallTypes.ownedTupleHandOut
  have hz₈:qx (h₇.push {cls:= .type "tuple",data:= .seq #[x,y,u]}) z TI TO .ellipsis qj:=Heap.get?_push_of_some _ hz₇
  refine wpAny_bind (wpAny_setField_rec hz₈ (by simp) fun h₉ hz₉ hs₉=>?_)
  replace hz₉:qx h₉ z TI TO (rawInt h₇.objs.size) qj:=hz₉
  refine wpAny_setField_rec hz₉ (by simp) fun hA Vz Yq=>?_
  replace Vz:qx hA z TI TO (rawInt h₇.objs.size) (.bool false):=Vz
  have up:∀c o,c≠z→h₇.get? c=some o→hA.get? c=some o:=fun c o c1 e=>Yq.extBut _ _ c1 (hs₉.extBut _ _ c1 (Heap.get?_push_of_some _ e))
  have hTA:eU hA h₇.objs.size x y u:=Yq.extBut _ _ (Nat.ne_of_gt hzlt) (hs₉.extBut _ _ (Nat.ne_of_gt hzlt) (Heap.get?_push_size _ rfl))
  have Sq:hA.objs.size=h₇.objs.size+1:=by rw[Yq.1,hs₉.1,Heap.size_push]
  rw[hsz]at Vz hTA Sq
  refine wpAny_pure ⟨_,rfl,?_⟩
  show Q (.ref h₇.objs.size) _
  rw[hsz]
  exact hQ hA _ _ Vz (.inr ⟨_,_,rfl⟩) ⟨_,_,_,up _ _ (Ne.symm Jj) hTO₇⟩ (g1.at fun o e=>up _ o (Ne.symm Bt) e) (g2.at fun o e=>up _ o (Ne.symm Li) e) (g3.at fun o e=>up _ o (Ne.symm W6) e) hTA Sq
   fun c o c1 c2 c3 c4 c5 e=>up c o c1 (k7 c o c1 c3 c2 c4 c5 e)
 |false=>
  simp only[Bool.false_eq_true,if_false]
  have k1:∀c o,c≠z→s.heap.get? c=some o→h0'.get? c=some o:=fun c o c1 e=>hs0.extBut _ _ c1 e
  refine wpAny_bind ?_
  simp only[List.forIn_toArray,List.forIn_cons,List.forIn_nil]
  refine wpAny_bind (wpAny_bind (wpAny_holding ?_))
  show wpAny _ _ (Builtin.SmallTypes.nextOf (.ref i1) >>= _) _ _ _
  refine wpAny_bind (wpAny_nextOf_list_item (h1.at fun o e=>k1 _ o (Ne.symm Bt) e) (hl1.at fun o e=>k1 _ o l1z e) hx fun h₂ h1₂ hs₂=>wpAny_pure (wpAny_pure ?_))
  have k2:∀c o,c≠z→c≠i1→s.heap.get? c=some o→h₂.get? c=some o:=fun c o c1 c2 e=>hs₂.extBut _ _ c2 (k1 c o c1 e)
  refine wpAny_bind (wpAny_bind (wpAny_holding ?_))
  show wpAny _ _ (Builtin.SmallTypes.nextOf (.ref i2) >>= _) _ _ _
  refine wpAny_bind (wpAny_nextOf_list_item (h2.at fun o e=>k2 _ o (Ne.symm Li) (Ne.symm i12) e) (hl2.at fun o e=>k2 _ o l2z l2i1 e) hy fun h₄ h2₄ hs₄=>wpAny_pure (wpAny_pure ?_))
  have k4:∀c o,c≠z→c≠i1→c≠i2→s.heap.get? c=some o→h₄.get? c=some o:=fun c o c1 c2 c3 e=>hs₄.extBut _ _ c3 (k2 c o c1 c2 e)
  refine wpAny_bind (wpAny_bind (wpAny_holding ?_))
  show wpAny _ _ (Builtin.SmallTypes.nextOf (.ref i3) >>= _) _ _ _
  refine wpAny_bind (wpAny_nextOf_list_item (h3.at fun o e=>k4 _ o (Ne.symm W6) (Ne.symm Zh) (Ne.symm Zg) e) (hl3.at fun o e=>k4 _ o l3z aao aan e) hu fun h₆ h3₆ hs₆=>wpAny_pure (wpAny_pure (wpAny_pure ?_)))
  have k6:∀c o,c≠z→c≠i1→c≠i2→c≠i3→s.heap.get? c=some o→h₆.get? c=some o:=fun c o c1 c2 c3 c4 e=>hs₆.extBut _ _ c4 (k4 c o c1 c2 c3 e)
  refine wpAny_bind (wpAny_newTuple (wpAny_pure ?_) (by show 3≤sizeLine;decide))
  have hsz:h₆.objs.size=s.heap.objs.size:=by rw[hs₆.1,hs₄.1,hs₂.1,hs0.1]
  have up:∀c o,h₆.get? c=some o→(h₆.push {cls:= .type "tuple",data:= .seq #[x,y,u]}).get? c=some o:=fun c o e=>Heap.get?_push_of_some _ e
  refine⟨_,rfl,?_⟩
  show Q (.ref h₆.objs.size) {s with heap:=h₆.push {cls:= .type "tuple",data:= .seq #[x,y,u]}}
  have e1:eU (h₆.push {cls:= .type "tuple",data:= .seq #[x,y,u]}) h₆.objs.size x y u:=Heap.get?_push_size _ rfl
  have e2:(h₆.push {cls:= .type "tuple",data:= .seq #[x,y,u]}).objs.size=h₆.objs.size+1:=Heap.size_push ..
  rw[hsz]at e1 e2 ⊢
  have hz₆:qx h₆ z TI TO f0 qj:=hs₆.extBut _ _ W6 (hs₄.extBut _ _ Li (hs₂.extBut _ _ Bt hz0))
  exact hQ _ _ _ (up _ _ hz₆) h0 ⟨a,b,c,up _ _ (k6 _ _ (Ne.symm Jj) TOi1 TOi2 PN hTO)⟩
   (((h1₂.extBut hs₄.extBut i12).extBut hs₆.extBut Zh).at fun o e=>up _ o e) ((h2₄.extBut hs₆.extBut Zg).at fun o e=>up _ o e) (h3₆.at fun o e=>up _ o e) e1 e2
   fun c o c1 _ c3 c4 c5 e=>up c o (k6 c o c1 c3 c4 c5 e)
theorem next_end{z TI TO i1 i2 i3 l1 l2 l3:Addr}{k:Nat}{xs:Array Value}{a b c f0 f1:Value}{Q:Fin→Shared→Prop}(hh:A.handled=none)(D:Apart z TI TO i1 i2 i3 l1 l2 l3)
  (hz:qx s.heap z TI TO f0 f1) (h0:F0 f0) (hTI:eU s.heap TI (.ref i1) (.ref i2) (.ref i3)) (hTO:eU s.heap TO a b c)
  (h1:s.heap.IsListIter i1 l1 k) (hl1:s.heap.IsList l1 xs) (hend:xs[k]? =none)
  (hE:∀h' e,(∀c o,c≠z→c≠TO→c≠i1→c≠i2→c≠i3→s.heap.get? c=some o→h'.get? c=some o)→(∃o,h'.get? e=some o∧o.cls= .type "StopIteration")→E (.ref e) {s with heap:=h'}):
  wpAny (model prog w) A (Builtin.«zip.__next__» ⟨[.ref z],[]⟩) Q E s:=by
 have nd:=D.nd
 have d1:=D.l1
 simp only[List.nodup_cons,List.mem_cons,List.not_mem_nil,or_false,not_or,not_false_eq_true,List.nodup_nil,and_true]at nd d1
 obtain⟨⟨Zu,Jj,Bt,Li,W6⟩,⟨TITO,TIi1,TIi2,Y7⟩,⟨TOi1,TOi2,PN⟩,⟨i12,Zh⟩,Zg⟩:=nd
 obtain⟨l1z,l1TO,l1i1,l1i2,acg⟩:=d1
 show wpAny _ _ (field (.ref z) 2 >>= _) _ _ _
 refine wpAny_bind (wpAny_field hz rfl (x:= .bool false) rfl ?_)
 show wpAny _ _ (field (.ref z) 3 >>= _) _ _ _
 refine wpAny_bind (wpAny_field hz rfl (x:= .ref TI) rfl ?_)
 refine wpAny_bind (wpAny_seqItems hTI rfl ?_)
 show wpAny _ _ (Builtin.SmallTypes.ownedTupleIsFree (.ref z) >>= _) _ _ _
 refine wpAny_bind (isFree hz h0 fun fr h0' qj hz0 hs0=>?_)
 cases fr with
 |true=>
  simp only[if_true]
  refine wpAny_bind (wpAny_rule ?_)
  refine wpAny_bind (wpAny_field hz0 rfl (x:= .ref TO) rfl ?_)
  refine wpAny_bind (wpAny_setField_rec hz0 (by simp) fun h₁ hz₁ hs₁=>?_)
  replace hz₁:qx h₁ z TI TO .ellipsis qj:=hz₁
  have k1:∀c o,c≠z→s.heap.get? c=some o→h₁.get? c=some o:=fun c o c1 e=>hs₁.extBut _ _ c1 (hs0.extBut _ _ c1 e)
  refine wpAny_bind ?_
  simp only[List.zipIdx_cons,List.zipIdx_nil,List.forIn_cons,List.forIn_nil]
  refine wpAny_bind (wpAny_bind (wpAny_onRaise ?_))
  show wpAny _ _ (Builtin.SmallTypes.nextOf (.ref i1) >>= _) _ _ _
  refine wpAny_bind (wpAny_nextOf_list_end hh (h1.at fun o e=>k1 _ o (Ne.symm Bt) e) (hl1.at fun o e=>k1 _ o l1z e) hend fun h₂ e hs₂ he=>?_)
  obtain⟨oe,hoe,hce⟩:=he
  have hz₂:qx h₂ z TI TO .ellipsis qj:=hs₂ _ _ Bt hz₁
  have hez:e≠z:=fun x=>by subst x;rw[hz₂]at hoe;cases hoe;simp at hce
  refine wpAny_setField_rec hz₂ (by simp) fun h₃ _ hs₃=>hE h₃ e (fun c o c1 _ c3 _ _ x=>hs₃.extBut _ _ c1 (hs₂ _ _ c3 (k1 _ _ c1 x))) ⟨oe,hs₃.extBut _ _ hez hoe,hce⟩
 |false=>
  simp only[Bool.false_eq_true,if_false]
  have k1:∀c o,c≠z→s.heap.get? c=some o→h0'.get? c=some o:=fun c o c1 e=>hs0.extBut _ _ c1 e
  refine wpAny_bind ?_
  simp only[List.forIn_toArray,List.forIn_cons,List.forIn_nil]
  refine wpAny_bind (wpAny_bind (wpAny_holding ?_))
  show wpAny _ _ (Builtin.SmallTypes.nextOf (.ref i1) >>= _) _ _ _
  refine wpAny_bind (wpAny_nextOf_list_end hh (h1.at fun o e=>k1 _ o (Ne.symm Bt) e) (hl1.at fun o e=>k1 _ o l1z e) hend fun h₂ e hs₂ he=>?_)
  exact hE h₂ e (fun c o c1 _ c3 _ _ x=>hs₂ _ _ c3 (k1 _ _ c1 x)) he
theorem oY{z TI TO i1 i2 i3 l1 l2 l3:Addr}{k:Nat}{xs ys zs:Array Value}{x y u a b c f0 f1:Value}{Q:Option Value→Shared→Prop}(D:Apart z TI TO i1 i2 i3 l1 l2 l3)
  (hz:qx s.heap z TI TO f0 f1) (h0:F0 f0) (hTI:eU s.heap TI (.ref i1) (.ref i2) (.ref i3)) (hTO:eU s.heap TO a b c)
  (h1:s.heap.IsListIter i1 l1 k) (h2:s.heap.IsListIter i2 l2 k) (h3:s.heap.IsListIter i3 l3 k) (hl1:s.heap.IsList l1 xs) (hl2:s.heap.IsList l2 ys) (hl3:s.heap.IsList l3 zs)
  (hx:xs[k]? =some x) (hy:ys[k]? =some y) (hu:zs[k]? =some u)
  (hQ:∀h' f0' qj,qx h' z TI TO f0' qj→F0 f0'→(∃a b c,eU h' TO a b c)→h'.IsListIter i1 l1 (k+1)→h'.IsListIter i2 l2 (k+1)→h'.IsListIter i3 l3 (k+1)→eU h' s.heap.objs.size x y u→h'.objs.size=s.heap.objs.size+1→
   (∀c o,c≠z→c≠TO→c≠i1→c≠i2→c≠i3→s.heap.get? c=some o→h'.get? c=some o)→Q (some (.ref s.heap.objs.size)) {s with heap:=h'}):
  wpAny (model prog w) A (pyNext (.ref z)) Q E s:=by
 have hT:s.TypeIs (.ref z) "zip":=⟨_,hz,rfl⟩
 unfold pyNext
 exact wpAny_bind (wpAny_attempt (wpAny_callSpecial?_slot (name:=Str.ofString "__next__") hT F.slot_zip_next
  (wpAny_call_entry F.slot_zip_next hT F.entry_zip_next
   (next_item D hz h0 hTI hTO h1 h2 h3 hl1 hl2 hl3 hx hy hu fun h' f0' qj a1 a2 a3 a4 a5 a6 a7 a8 a9=>wpAny_pure (hQ h' f0' qj a1 a2 a3 a4 a5 a6 a7 a8 a9)) (F.args_zip_next_1 _))))
theorem rW{z TI TO i1 i2 i3 l1 l2 l3:Addr}{k:Nat}{xs:Array Value}{a b c f0 f1:Value}{Q:Option Value→Shared→Prop}(hh:A.handled=none)(D:Apart z TI TO i1 i2 i3 l1 l2 l3)
  (hz:qx s.heap z TI TO f0 f1) (h0:F0 f0) (hTI:eU s.heap TI (.ref i1) (.ref i2) (.ref i3)) (hTO:eU s.heap TO a b c)
  (h1:s.heap.IsListIter i1 l1 k) (hl1:s.heap.IsList l1 xs) (hend:xs[k]? =none)
  (hQ:∀h',(∀c o,c≠z→c≠TO→c≠i1→c≠i2→c≠i3→s.heap.get? c=some o→h'.get? c=some o)→Q none {s with heap:=h'}):wpAny (model prog w) A (pyNext (.ref z)) Q E s:=by
 have hT:s.TypeIs (.ref z) "zip":=⟨_,hz,rfl⟩
 unfold pyNext
 refine wpAny_bind (wpAny_attempt (wpAny_callSpecial?_slot (name:=Str.ofString "__next__") hT F.slot_zip_next
  (wpAny_call_entry F.slot_zip_next hT F.entry_zip_next (next_end hh D hz h0 hTI hTO h1 hl1 hend fun h' e hk he=>?_) (F.args_zip_next_1 _))))
 obtain⟨o,ho,hc⟩:=he
 refine wpAny_bind (wpAny_isInstance (T:="StopIteration") (b:=true) ⟨o,ho,hc⟩ isSubtype_stop ?_)
 exact wpAny_pure (hQ _ hk)
theorem yI{z TI TO:Addr}{f0 f1:Value}{Q:Value→Shared→Prop}(hz:qx s.heap z TI TO f0 f1)(h:Q (.ref z) s):wpAny (model prog w) A (pyIter (.ref z)) Q E s:=by
 have hT:s.TypeIs (.ref z) "zip":=⟨_,hz,rfl⟩
 refine wpAny_pyIter_slot hT F.slot_zip_iter (wpAny_call_entry F.slot_zip_iter hT F.entry_zip_iter ?_ (F.args_zip_iter_1 _))
 show wpAny _ _ (ret (.ref z)) _ _ s
 exact wpAny_pure ⟨_,rfl,"zip",_,hT,F.slot_zip_next.lookup,h⟩
end
abbrev zH1(h:Heap)(l1:Addr):Heap:=h.push {cls:= .type "list_iterator",data:= .fields #[.ref l1,.int 0 0]}
abbrev zH2(h:Heap)(l1 l2:Addr):Heap:=(zH1 h l1).push {cls:= .type "list_iterator",data:= .fields #[.ref l2,.int 0 0]}
abbrev zH3(h:Heap)(l1 l2 l3:Addr):Heap:=(zH2 h l1 l2).push {cls:= .type "list_iterator",data:= .fields #[.ref l3,.int 0 0]}
abbrev zH4(h:Heap)(l1 l2 l3:Addr):Heap:=(zH3 h l1 l2 l3).push {cls:= .type "tuple",data:= .seq #[.ref h.objs.size,.ref (zH1 h l1).objs.size,.ref (zH2 h l1 l2).objs.size]}
abbrev zH5(h:Heap)(l1 l2 l3:Addr):Heap:=(zH4 h l1 l2 l3).push {cls:= .type "tuple",data:= .seq #[.none,.none,.none]}
abbrev W7(h:Heap)(l1 l2 l3:Addr):Heap:=(zH5 h l1 l2 l3).push {cls:= .type "zip",data:= .fields #[.none,.bool false,.bool false,.ref (zH3 h l1 l2 l3).objs.size,.ref (zH4 h l1 l2 l3).objs.size]}
theorem Ox(l1 l2 l3:Addr)(xs ys zs:Array Value):
  Meets (Builtin.«zip.__new__» ⟨[.type "zip",.ref l1,.ref l2,.ref l3],[]⟩) (fun _ R s=>s.heap.IsList l1 xs∧s.heap.IsList l2 ys∧s.heap.IsList l3 zs∧
   R (.ok (.ret (.ref (zH5 s.heap l1 l2 l3).objs.size))) {s with heap:=W7 s.heap l1 l2 l3}):=
 .of_wp fun prog w A R s h=>by
  obtain⟨hp,g,d,tk,os⟩:=s;obtain⟨hl1,hl2,hl3,h⟩:=h
  have hsub:=sub_zip
  have hL1:Heap.IsList (Shared.heap ⟨hp,g,d,tk,os⟩) l1 xs:=hl1
  have hL2:Heap.IsList (Shared.heap ⟨hp.push {cls:= .type "list_iterator",data:= .fields #[.ref l1,.int 0 0]},g,d,tk,os⟩) l2 ys:=Heap.IsList.push hl2 _
  have hL3:Heap.IsList (Shared.heap ⟨(hp.push {cls:= .type "list_iterator",data:= .fields #[.ref l1,.int 0 0]}).push {cls:= .type "list_iterator",data:= .fields #[.ref l2,.int 0 0]},g,d,tk,os⟩) l3 zs:=Heap.IsList.push (Heap.IsList.push hl3 _) _
  wp_walk using wpAny_pyIter_list hL1,wpAny_pyIter_list hL2,wpAny_pyIter_list hL3
  exact⟨_,rfl,h⟩
section
variable{prog:Program}{w:World}{A:Around}{E:Value→Shared→Prop}{s:Shared}
theorem Tj{l1 l2 l3:Addr}{xs ys zs:Array Value}{Q:Value→Shared→Prop}(hl1:s.heap.IsList l1 xs)(hl2:s.heap.IsList l2 ys)(hl3:s.heap.IsList l3 zs)
  (h:∀h',qx h' (s.heap.objs.size+5) (s.heap.objs.size+3) (s.heap.objs.size+4) .none (.bool false)→eU h' (s.heap.objs.size+3) (.ref s.heap.objs.size) (.ref (s.heap.objs.size+1)) (.ref (s.heap.objs.size+2))→
   eU h' (s.heap.objs.size+4) .none .none .none→h'.IsListIter s.heap.objs.size l1 0→h'.IsListIter (s.heap.objs.size+1) l2 0→h'.IsListIter (s.heap.objs.size+2) l3 0→
   (∀c o,s.heap.get? c=some o→h'.get? c=some o)→Q (.ref (s.heap.objs.size+5)) {s with heap:=h'}):
  wpAny (model prog w) A (call (.type "zip") [.ref l1,.ref l2,.ref l3]) Q E s:=by
 refine callType_new F.called_zip (by decide) (yo _ _ _) (Bc _ _ _) (fun obj=>tQ obj _ _ _) F.entry_zip_new
  (Ox l1 l2 l3 xs ys zs) ⟨hl1,hl2,hl3,?_⟩
 have z1:(zH1 s.heap l1).objs.size=s.heap.objs.size+1:=Heap.size_push ..
 have z2:(zH2 s.heap l1 l2).objs.size=s.heap.objs.size+2:=by rw[Heap.size_push,z1]
 have z3:(zH3 s.heap l1 l2 l3).objs.size=s.heap.objs.size+3:=by rw[Heap.size_push,z2]
 have z4:(zH4 s.heap l1 l2 l3).objs.size=s.heap.objs.size+4:=by rw[Heap.size_push,z3]
 have z5:(zH5 s.heap l1 l2 l3).objs.size=s.heap.objs.size+5:=by rw[Heap.size_push,z4]
 have g6:(W7 s.heap l1 l2 l3).get? (zH5 s.heap l1 l2 l3).objs.size=some _:=Heap.get?_push_size _ rfl
 have g5:(W7 s.heap l1 l2 l3).get? (zH4 s.heap l1 l2 l3).objs.size=some _:=Heap.get?_push_of_some _ (Heap.get?_push_size _ rfl)
 have g4:(W7 s.heap l1 l2 l3).get? (zH3 s.heap l1 l2 l3).objs.size=some _:=Heap.get?_push_of_some _ (Heap.get?_push_of_some _ (Heap.get?_push_size _ rfl))
 have g3:(W7 s.heap l1 l2 l3).get? (zH2 s.heap l1 l2).objs.size=some _:=Heap.get?_push_of_some _ (Heap.get?_push_of_some _ (Heap.get?_push_of_some _ (Heap.get?_push_size _ rfl)))
 have g2:(W7 s.heap l1 l2 l3).get? (zH1 s.heap l1).objs.size=some _:=Heap.get?_push_of_some _ (Heap.get?_push_of_some _ (Heap.get?_push_of_some _ (Heap.get?_push_of_some _ (Heap.get?_push_size _ rfl))))
 have g1:(W7 s.heap l1 l2 l3).get? s.heap.objs.size=some _:=Heap.get?_push_of_some _ (Heap.get?_push_of_some _ (Heap.get?_push_of_some _ (Heap.get?_push_of_some _ (Heap.get?_push_of_some _ (Heap.get?_push_size _ rfl)))))
 show _∧_
 rw[z3,z4,z5]at g6
 rw[z4]at g5
 rw[z1,z2,z3]at g4
 rw[z2]at g3
 rw[z1]at g2
 rw[z5]
 exact⟨⟨_,g6,rfl⟩,h _ g6 g4 g5 ⟨_,g1,rfl,rfl⟩ ⟨_,g2,rfl,rfl⟩ ⟨_,g3,rfl,rfl⟩ fun c o x=>
  Heap.get?_push_of_some _ (Heap.get?_push_of_some _ (Heap.get?_push_of_some _ (Heap.get?_push_of_some _ (Heap.get?_push_of_some _ (Heap.get?_push_of_some _ x)))))⟩
theorem apart_new(n l1 l2 l3:Nat)(h1:l1<n)(h2:l2<n)(h3:l3<n):Apart (n+5) (n+3) (n+4) n (n+1) (n+2) l1 l2 l3:=by
 have out:∀l:Nat,l<n→l∉([n+5,n+4,n,n+1,n+2]:List Nat):=fun l hl h=>by
  simp only[List.mem_cons,List.not_mem_nil,or_false]at h
  omega
 exact⟨by simp,out l1 h1,out l2 h2,out l3 h3⟩
end
end Z3
namespace Z2
open PySem Z3
abbrev fM(h:Heap)(T:Addr)(a b:Value):Prop:=h.get? T=some {cls:= .type "tuple",data:= .seq #[a,b]}
structure Apart(z TI TO i1 i2 l1 l2:Addr):Prop where
 nd:[z,TI,TO,i1,i2].Nodup
 l1:l1∉[z,TO,i1,i2]
 l2:l2∉[z,TO,i1,i2]
section
variable{prog:Program}{w:World}{A:Around}{E:Value→Shared→Prop}{s:Shared}
theorem Qi{T:Addr}{a b x:Value}{k:Nat}{Q:Unit→Shared→Prop}(hT:fM s.heap T a b)
  (h:∀h',h'.get? T=some {cls:= .type "tuple",data:= .seq ((#[a,b]:Array Value).setIfInBounds k x)}→Heap.SameBut T s.heap h'→Q () {s with heap:=h'}):
  wpAny (model prog w) A (updateSeq T (·.setIfInBounds k x)) Q E s:=by
 refine wpAny_updateSeq hT rfl (h _ ?_ (Heap.SameBut.update ..))
 rw[Heap.get?_update_self _ hT rfl]
 simp [Obj.mapSeq]
theorem next_item{z TI TO i1 i2 l1 l2:Addr}{k:Nat}{xs ys:Array Value}{x y a b f0 f1:Value}{Q:Value→Shared→Prop}(D:Apart z TI TO i1 i2 l1 l2)
  (hz:qx s.heap z TI TO f0 f1) (h0:F0 f0) (hTI:fM s.heap TI (.ref i1) (.ref i2)) (hTO:fM s.heap TO a b)
  (h1:s.heap.IsListIter i1 l1 k) (h2:s.heap.IsListIter i2 l2 k) (hl1:s.heap.IsList l1 xs) (hl2:s.heap.IsList l2 ys)
  (hx:xs[k]? =some x) (hy:ys[k]? =some y)
  (hQ:∀h' f0' qj,qx h' z TI TO f0' qj→F0 f0'→(∃a b,fM h' TO a b)→h'.IsListIter i1 l1 (k+1)→h'.IsListIter i2 l2 (k+1)→fM h' s.heap.objs.size x y→h'.objs.size=s.heap.objs.size+1→
   (∀c o,c≠z→c≠TO→c≠i1→c≠i2→s.heap.get? c=some o→h'.get? c=some o)→Q (.ref s.heap.objs.size) {s with heap:=h'}):
  wpAny (model prog w) A (Builtin.«zip.__next__» ⟨[.ref z],[]⟩) (fun fin s'=>∃v,fin= .done (.ret v)∧Q v s') E s:=by
 have nd:=D.nd
 have d1:=D.l1
 have d2:=D.l2
 simp only[List.nodup_cons,List.mem_cons,List.not_mem_nil,or_false,not_or,not_false_eq_true,List.nodup_nil,and_true]at nd d1 d2
 obtain⟨⟨Zu,Jj,Bt,Li⟩,⟨TITO,TIi1,TIi2⟩,⟨TOi1,TOi2⟩,i12⟩:=nd
 obtain⟨l1z,l1TO,l1i1,l1i2⟩:=d1
 obtain⟨l2z,l2TO,l2i1,l2i2⟩:=d2
 show wpAny _ _ (field (.ref z) 2 >>= _) _ _ _
 refine wpAny_bind (wpAny_field hz rfl (x:= .bool false) rfl ?_)
 show wpAny _ _ (field (.ref z) 3 >>= _) _ _ _
 refine wpAny_bind (wpAny_field hz rfl (x:= .ref TI) rfl ?_)
 refine wpAny_bind (wpAny_seqItems hTI rfl ?_)
 show wpAny _ _ (Builtin.SmallTypes.ownedTupleIsFree (.ref z) >>= _) _ _ _
 refine wpAny_bind (isFree hz h0 fun fr h0' qj hz0 hs0=>?_)
 cases fr with
 |true=>
  simp only[if_true]
  refine wpAny_bind (wpAny_rule ?_)
  refine wpAny_bind (wpAny_field hz0 rfl (x:= .ref TO) rfl ?_)
  refine wpAny_bind (wpAny_setField_rec hz0 (by simp) fun h₁ hz₁ hs₁=>?_)
  replace hz₁:qx h₁ z TI TO .ellipsis qj:=hz₁
  have k1:∀c o,c≠z→s.heap.get? c=some o→h₁.get? c=some o:=fun c o c1 e=>hs₁.extBut _ _ c1 (hs0.extBut _ _ c1 e)
  refine wpAny_bind ?_
  simp only[List.zipIdx_cons,List.zipIdx_nil,List.forIn_cons,List.forIn_nil]
  refine wpAny_bind (wpAny_bind (wpAny_onRaise ?_))
  show wpAny _ _ (Builtin.SmallTypes.nextOf (.ref i1) >>= _) _ _ _
  refine wpAny_bind (wpAny_nextOf_list_item (h1.at fun o e=>k1 _ o (Ne.symm Bt) e) (hl1.at fun o e=>k1 _ o l1z e) hx fun h₂ h1₂ hs₂=>wpAny_pure ?_)
  have k2:∀c o,c≠z→c≠i1→s.heap.get? c=some o→h₂.get? c=some o:=fun c o c1 c2 e=>hs₂.extBut _ _ c2 (k1 c o c1 e)
  have hTO₂:fM h₂ TO a b:=k2 _ _ (Ne.symm Jj) TOi1 hTO
  refine wpAny_bind (wpAny_seqItems hTO₂ rfl ?_)
  refine wpAny_bind (Qi hTO₂ fun h₃ hTO₃ hs₃=>?_)
  replace hTO₃:fM h₃ TO x b:=hTO₃
  refine wpAny_bind (wpAny_letGo (wpAny_pure ?_))
  have k3:∀c o,c≠z→c≠i1→c≠TO→s.heap.get? c=some o→h₃.get? c=some o:=fun c o c1 c2 c3 e=>hs₃.extBut _ _ c3 (k2 c o c1 c2 e)
  refine wpAny_bind (wpAny_bind (wpAny_onRaise ?_))
  show wpAny _ _ (Builtin.SmallTypes.nextOf (.ref i2) >>= _) _ _ _
  refine wpAny_bind (wpAny_nextOf_list_item (h2.at fun o e=>k3 _ o (Ne.symm Li) (Ne.symm i12) (Ne.symm TOi2) e) (hl2.at fun o e=>k3 _ o l2z l2i1 l2TO e) hy fun h₄ h2₄ hs₄=>wpAny_pure ?_)
  have hTO₄:fM h₄ TO x b:=hs₄.extBut _ _ TOi2 hTO₃
  refine wpAny_bind (wpAny_seqItems hTO₄ rfl ?_)
  refine wpAny_bind (Qi hTO₄ fun h₇ hTO₇ hs₇=>?_)
  replace hTO₇:fM h₇ TO x y:=hTO₇
  refine wpAny_bind (wpAny_letGo (wpAny_pure (wpAny_pure ?_)))
  have k7:∀c o,c≠z→c≠i1→c≠TO→c≠i2→s.heap.get? c=some o→h₇.get? c=some o:=fun c o c1 c2 c3 c4 e=>hs₇.extBut _ _ c3 (hs₄.extBut _ _ c4 (k3 c o c1 c2 c3 e))
  refine wpAny_bind (wpAny_seqItems hTO₇ rfl ?_)
  refine wpAny_bind (wpAny_newTuple ?_)
  have hsz:h₇.objs.size=s.heap.objs.size:=by rw[hs₇.1,hs₄.1,hs₃.1,hs₂.1,hs₁.1,hs0.1]
  have hz₇:qx h₇ z TI TO .ellipsis qj:=hs₇.extBut _ _ Jj (hs₄.extBut _ _ Li (hs₃.extBut _ _ Jj (hs₂.extBut _ _ Bt hz₁)))
  have g1:h₇.IsListIter i1 l1 (k+1):=((h1₂.extBut hs₃.extBut (Ne.symm TOi1)).extBut hs₄.extBut i12).extBut hs₇.extBut (Ne.symm TOi1)
  have g2:h₇.IsListIter i2 l2 (k+1):=h2₄.extBut hs₇.extBut (Ne.symm TOi2)
  have hzlt:z<h₇.objs.size:=Heap.lt_size hz₇
  show wpAny _ _ (Builtin.SmallTypes.ownedTupleHandOut (.ref z) (.ref h₇.objs.size) >>= _) _ _ _
  refine wpAny_bind ?_
  unfold Builtin.SmallTypes.ownedTupleHandOut
  have hz₈:qx (h₇.push {cls:= .type "tuple",data:= .seq #[x,y]}) z TI TO .ellipsis qj:=Heap.get?_push_of_some _ hz₇
  refine wpAny_bind (wpAny_setField_rec hz₈ (by simp) fun h₉ hz₉ hs₉=>?_)
  replace hz₉:qx h₉ z TI TO (rawInt h₇.objs.size) qj:=hz₉
  refine wpAny_setField_rec hz₉ (by simp) fun hA Vz Yq=>?_
  replace Vz:qx hA z TI TO (rawInt h₇.objs.size) (.bool false):=Vz
  have up:∀c o,c≠z→h₇.get? c=some o→hA.get? c=some o:=fun c o c1 e=>Yq.extBut _ _ c1 (hs₉.extBut _ _ c1 (Heap.get?_push_of_some _ e))
  have hTA:fM hA h₇.objs.size x y:=Yq.extBut _ _ (Nat.ne_of_gt hzlt) (hs₉.extBut _ _ (Nat.ne_of_gt hzlt) (Heap.get?_push_size _ rfl))
  have Sq:hA.objs.size=h₇.objs.size+1:=by rw[Yq.1,hs₉.1,Heap.size_push]
  rw[hsz]at Vz hTA Sq
  refine wpAny_pure ⟨_,rfl,?_⟩
  show Q (.ref h₇.objs.size) _
  rw[hsz]
  exact hQ hA _ _ Vz (.inr ⟨_,_,rfl⟩) ⟨_,_,up _ _ (Ne.symm Jj) hTO₇⟩ (g1.at fun o e=>up _ o (Ne.symm Bt) e) (g2.at fun o e=>up _ o (Ne.symm Li) e) hTA Sq
   fun c o c1 c2 c3 c4 e=>up c o c1 (k7 c o c1 c3 c2 c4 e)
 |false=>
  simp only[Bool.false_eq_true,if_false]
  have k1:∀c o,c≠z→s.heap.get? c=some o→h0'.get? c=some o:=fun c o c1 e=>hs0.extBut _ _ c1 e
  refine wpAny_bind ?_
  simp only[List.forIn_toArray,List.forIn_cons,List.forIn_nil]
  refine wpAny_bind (wpAny_bind (wpAny_holding ?_))
  show wpAny _ _ (Builtin.SmallTypes.nextOf (.ref i1) >>= _) _ _ _
  refine wpAny_bind (wpAny_nextOf_list_item (h1.at fun o e=>k1 _ o (Ne.symm Bt) e) (hl1.at fun o e=>k1 _ o l1z e) hx fun h₂ h1₂ hs₂=>wpAny_pure (wpAny_pure ?_))
  have k2:∀c o,c≠z→c≠i1→s.heap.get? c=some o→h₂.get? c=some o:=fun c o c1 c2 e=>hs₂.extBut _ _ c2 (k1 c o c1 e)
  refine wpAny_bind (wpAny_bind (wpAny_holding ?_))
  show wpAny _ _ (Builtin.SmallTypes.nextOf (.ref i2) >>= _) _ _ _
  refine wpAny_bind (wpAny_nextOf_list_item (h2.at fun o e=>k2 _ o (Ne.symm Li) (Ne.symm i12) e) (hl2.at fun o e=>k2 _ o l2z l2i1 e) hy fun h₆ h2₆ hs₆=>wpAny_pure (wpAny_pure (wpAny_pure ?_)))
  have k6:∀c o,c≠z→c≠i1→c≠i2→s.heap.get? c=some o→h₆.get? c=some o:=fun c o c1 c2 c3 e=>hs₆.extBut _ _ c3 (k2 c o c1 c2 e)
  refine wpAny_bind (wpAny_newTuple (wpAny_pure ?_) (by show 2≤sizeLine;decide))
  have hsz:h₆.objs.size=s.heap.objs.size:=by rw[hs₆.1,hs₂.1,hs0.1]
  have up:∀c o,h₆.get? c=some o→(h₆.push {cls:= .type "tuple",data:= .seq #[x,y]}).get? c=some o:=fun c o e=>Heap.get?_push_of_some _ e
  refine⟨_,rfl,?_⟩
  show Q (.ref h₆.objs.size) {s with heap:=h₆.push {cls:= .type "tuple",data:= .seq #[x,y]}}
  have e1:fM (h₆.push {cls:= .type "tuple",data:= .seq #[x,y]}) h₆.objs.size x y:=Heap.get?_push_size _ rfl
  have e2:(h₆.push {cls:= .type "tuple",data:= .seq #[x,y]}).objs.size=h₆.objs.size+1:=Heap.size_push ..
  rw[hsz]at e1 e2 ⊢
  have hz₆:qx h₆ z TI TO f0 qj:=hs₆.extBut _ _ Li (hs₂.extBut _ _ Bt hz0)
  exact hQ _ _ _ (up _ _ hz₆) h0 ⟨a,b,up _ _ (k6 _ _ (Ne.symm Jj) TOi1 TOi2 hTO)⟩
   ((h1₂.extBut hs₆.extBut i12).at fun o e=>up _ o e) (h2₆.at fun o e=>up _ o e) e1 e2
   fun c o c1 _ c3 c4 e=>up c o (k6 c o c1 c3 c4 e)
theorem next_end{z TI TO i1 i2 l1 l2:Addr}{k:Nat}{xs:Array Value}{a b f0 f1:Value}{Q:Fin→Shared→Prop}(hh:A.handled=none)(D:Apart z TI TO i1 i2 l1 l2)
  (hz:qx s.heap z TI TO f0 f1) (h0:F0 f0) (hTI:fM s.heap TI (.ref i1) (.ref i2)) (hTO:fM s.heap TO a b)
  (h1:s.heap.IsListIter i1 l1 k) (hl1:s.heap.IsList l1 xs) (hend:xs[k]? =none)
  (hE:∀h' e,(∀c o,c≠z→c≠TO→c≠i1→c≠i2→s.heap.get? c=some o→h'.get? c=some o)→(∃o,h'.get? e=some o∧o.cls= .type "StopIteration")→E (.ref e) {s with heap:=h'}):
  wpAny (model prog w) A (Builtin.«zip.__next__» ⟨[.ref z],[]⟩) Q E s:=by
 have nd:=D.nd
 have d1:=D.l1
 simp only[List.nodup_cons,List.mem_cons,List.not_mem_nil,or_false,not_or,not_false_eq_true,List.nodup_nil,and_true]at nd d1
 obtain⟨⟨Zu,Jj,Bt,Li⟩,⟨TITO,TIi1,TIi2⟩,⟨TOi1,TOi2⟩,i12⟩:=nd
 obtain⟨l1z,l1TO,l1i1,l1i2⟩:=d1
 show wpAny _ _ (field (.ref z) 2 >>= _) _ _ _
 refine wpAny_bind (wpAny_field hz rfl (x:= .bool false) rfl ?_)
 show wpAny _ _ (field (.ref z) 3 >>= _) _ _ _
 refine wpAny_bind (wpAny_field hz rfl (x:= .ref TI) rfl ?_)
 refine wpAny_bind (wpAny_seqItems hTI rfl ?_)
 show wpAny _ _ (Builtin.SmallTypes.ownedTupleIsFree (.ref z) >>= _) _ _ _
 refine wpAny_bind (isFree hz h0 fun fr h0' qj hz0 hs0=>?_)
 cases fr with
 |true=>
  simp only[if_true]
  refine wpAny_bind (wpAny_rule ?_)
  refine wpAny_bind (wpAny_field hz0 rfl (x:= .ref TO) rfl ?_)
  refine wpAny_bind (wpAny_setField_rec hz0 (by simp) fun h₁ hz₁ hs₁=>?_)
  replace hz₁:qx h₁ z TI TO .ellipsis qj:=hz₁
  have k1:∀c o,c≠z→s.heap.get? c=some o→h₁.get? c=some o:=fun c o c1 e=>hs₁.extBut _ _ c1 (hs0.extBut _ _ c1 e)
  refine wpAny_bind ?_
  simp only[List.zipIdx_cons,List.zipIdx_nil,List.forIn_cons,List.forIn_nil]
  refine wpAny_bind (wpAny_bind (wpAny_onRaise ?_))
  show wpAny _ _ (Builtin.SmallTypes.nextOf (.ref i1) >>= _) _ _ _
  refine wpAny_bind (wpAny_nextOf_list_end hh (h1.at fun o e=>k1 _ o (Ne.symm Bt) e) (hl1.at fun o e=>k1 _ o l1z e) hend fun h₂ e hs₂ he=>?_)
  obtain⟨oe,hoe,hce⟩:=he
  have hz₂:qx h₂ z TI TO .ellipsis qj:=hs₂ _ _ Bt hz₁
  have hez:e≠z:=fun x=>by subst x;rw[hz₂]at hoe;cases hoe;simp at hce
  refine wpAny_setField_rec hz₂ (by simp) fun h₃ _ hs₃=>hE h₃ e (fun c o c1 _ c3 _ x=>hs₃.extBut _ _ c1 (hs₂ _ _ c3 (k1 _ _ c1 x))) ⟨oe,hs₃.extBut _ _ hez hoe,hce⟩
 |false=>
  simp only[Bool.false_eq_true,if_false]
  have k1:∀c o,c≠z→s.heap.get? c=some o→h0'.get? c=some o:=fun c o c1 e=>hs0.extBut _ _ c1 e
  refine wpAny_bind ?_
  simp only[List.forIn_toArray,List.forIn_cons,List.forIn_nil]
  refine wpAny_bind (wpAny_bind (wpAny_holding ?_))
  show wpAny _ _ (Builtin.SmallTypes.nextOf (.ref i1) >>= _) _ _ _
  refine wpAny_bind (wpAny_nextOf_list_end hh (h1.at fun o e=>k1 _ o (Ne.symm Bt) e) (hl1.at fun o e=>k1 _ o l1z e) hend fun h₂ e hs₂ he=>?_)
  exact hE h₂ e (fun c o c1 _ c3 _ x=>hs₂ _ _ c3 (k1 _ _ c1 x)) he
theorem oY{z TI TO i1 i2 l1 l2:Addr}{k:Nat}{xs ys:Array Value}{x y a b f0 f1:Value}{Q:Option Value→Shared→Prop}(D:Apart z TI TO i1 i2 l1 l2)
  (hz:qx s.heap z TI TO f0 f1) (h0:F0 f0) (hTI:fM s.heap TI (.ref i1) (.ref i2)) (hTO:fM s.heap TO a b)
  (h1:s.heap.IsListIter i1 l1 k) (h2:s.heap.IsListIter i2 l2 k) (hl1:s.heap.IsList l1 xs) (hl2:s.heap.IsList l2 ys)
  (hx:xs[k]? =some x) (hy:ys[k]? =some y)
  (hQ:∀h' f0' qj,qx h' z TI TO f0' qj→F0 f0'→(∃a b,fM h' TO a b)→h'.IsListIter i1 l1 (k+1)→h'.IsListIter i2 l2 (k+1)→fM h' s.heap.objs.size x y→h'.objs.size=s.heap.objs.size+1→
   (∀c o,c≠z→c≠TO→c≠i1→c≠i2→s.heap.get? c=some o→h'.get? c=some o)→Q (some (.ref s.heap.objs.size)) {s with heap:=h'}):
  wpAny (model prog w) A (pyNext (.ref z)) Q E s:=by
 have hT:s.TypeIs (.ref z) "zip":=⟨_,hz,rfl⟩
 unfold pyNext
 exact wpAny_bind (wpAny_attempt (wpAny_callSpecial?_slot (name:=Str.ofString "__next__") hT F.slot_zip_next
  (wpAny_call_entry F.slot_zip_next hT F.entry_zip_next
   (next_item D hz h0 hTI hTO h1 h2 hl1 hl2 hx hy fun h' f0' qj a1 a2 a3 a4 a5 a6 a7 a8=>wpAny_pure (hQ h' f0' qj a1 a2 a3 a4 a5 a6 a7 a8)) (F.args_zip_next_1 _))))
theorem rW{z TI TO i1 i2 l1 l2:Addr}{k:Nat}{xs:Array Value}{a b f0 f1:Value}{Q:Option Value→Shared→Prop}(hh:A.handled=none)(D:Apart z TI TO i1 i2 l1 l2)
  (hz:qx s.heap z TI TO f0 f1) (h0:F0 f0) (hTI:fM s.heap TI (.ref i1) (.ref i2)) (hTO:fM s.heap TO a b)
  (h1:s.heap.IsListIter i1 l1 k) (hl1:s.heap.IsList l1 xs) (hend:xs[k]? =none)
  (hQ:∀h',(∀c o,c≠z→c≠TO→c≠i1→c≠i2→s.heap.get? c=some o→h'.get? c=some o)→Q none {s with heap:=h'}):wpAny (model prog w) A (pyNext (.ref z)) Q E s:=by
 have hT:s.TypeIs (.ref z) "zip":=⟨_,hz,rfl⟩
 unfold pyNext
 refine wpAny_bind (wpAny_attempt (wpAny_callSpecial?_slot (name:=Str.ofString "__next__") hT F.slot_zip_next
  (wpAny_call_entry F.slot_zip_next hT F.entry_zip_next (next_end hh D hz h0 hTI hTO h1 hl1 hend fun h' e hk he=>?_) (F.args_zip_next_1 _))))
 obtain⟨o,ho,hc⟩:=he
 refine wpAny_bind (wpAny_isInstance (T:="StopIteration") (b:=true) ⟨o,ho,hc⟩ isSubtype_stop ?_)
 exact wpAny_pure (hQ _ hk)
end
end Z2
namespace Mn
open PySem
def low(b:Option Int)(x:Int):Option Int:=match b with
 |none=>some x
 |some m=>if x<m then some x else some m
def least(ns:List Int):Option Int:=ns.foldl low none
def Bst(b:Option Int)(vs:Array Value):Prop:=match b with
 |none=>vs=#[]
 |some m=>∃t,vs=#[.int m t,.int m t]
def Res(d:Value)(b:Option Int)(v:Value):Prop:=match b with
 |none=>v=d
 |some m=>∃t,v= .int m t
theorem Ld(a v:Value):argsOk "min" ⟨[a],[(Str.ofString "default",v)]⟩:=by unfold argsOk;kernel_rfl
section
variable{prog:Program}{w:World}{A:Around}{R:Result→Shared→Prop}
theorem loop{I l S:Addr}{its:Array Value}{ns:List Int}{d:Value}(hh:A.handled=none)(hlI:l≠I)(hSI:S≠I)(hSl:S≠l)(hns:∀(i:Nat) (v:Value),its[i]? =some v→∃t,v= .int (ns.getD i 0) t)(hsz:its.size=ns.length):
  ∀(r j:Nat) (s:Shared) (vs:Array Value) (c:Nat),ns.length - j=r→j≤ns.length→s.heap.IsListIter I l j→s.heap.IsList l its→
  s.heap.get? S=some {cls:= .type "list",dict:=none,data:= .seq vs c,slots:=#[]}→Bst (least (ns.take j)) vs→
  (∀v h' tk,Res d (least ns) v→(∀b o,b≠I→b≠S→s.heap.get? b=some o→h'.get? b=some o)→R (.ok (.ret v)) {s with heap:=h',toks:=tk})→
  codeAny (model prog w) A (.builtin "min.loop" ⟨[.ref I,.none,.ref S],[(Str.ofString "default",d)]⟩) R s:=by
 have hname:(toString "min"++toString ".loop":String)="min.loop":=by decide
 have W:=Walks.list (prog:=prog) (w:=w) (A:=A.in1) hh I l hlI its
 intro r
 induction r with
 |zero=>
  intro j s vs c hr hj hit hl hS hb hR
  have ej:j=ns.length:=by omega
  subst ej
  rw[List.take_length]at hb
  refine codeAny_builtin F.entry_min_loop ?_
  rw[Around.under_plainId F.plain_min_loop _]
  show wpAny _ A.in1 (seqItems? (.ref S) >>= _) _ _ s
  refine wpAny_bind (wpAny_seqItems hS rfl ?_)
  show wpAny _ A.in1 (tryCatch (pyNext (.ref I)) _ >>= _) _ _ s
  refine wpAny_bind (wpAny_tryCatch (W.done s _ _ (by rw[hsz];exact⟨hit,hl⟩) fun h' tk hk'=>?_))
  have hS':=hk' S _ (by simpa using hSI) hS
  cases e:least ns with
  |none=>
   rw[e]at hb
   have hb':vs=#[]:=hb
   subst hb'
   refine wpAny_bind (wpAny_rule (wpAny_pure ?_))
   exact hR d h' tk (by rw[e];rfl) fun b o h1 _ q=>hk' b o (by simpa using h1) q
  |some m=>
   rw[e]at hb
   obtain⟨t,rfl⟩:=hb
   show wpAny _ A.in1 (updateSeq S (fun _=>#[]) >>= _) _ _ _
   refine wpAny_bind (wpAny_updateSeq hS' rfl (wpAny_bind (wpAny_letGo (wpAny_pure ?_))))
   exact hR _ _ tk (by rw[e];exact⟨t,rfl⟩) fun b o h1 h2 q=>(Heap.get?_update_other _ _ (Ne.symm h2)).trans (hk' b o (by simpa using h1) q)
 |succ r ih=>
  intro j s vs c hr hj hit hl hS hb hR
  have hlt:j<ns.length:=by omega
  refine codeAny_builtin F.entry_min_loop ?_
  rw[Around.under_plainId F.plain_min_loop _]
  show wpAny _ A.in1 (seqItems? (.ref S) >>= _) _ _ s
  refine wpAny_bind (wpAny_seqItems hS rfl ?_)
  show wpAny _ A.in1 (tryCatch (pyNext (.ref I)) _ >>= _) _ _ s
  refine wpAny_bind (wpAny_tryCatch (W.item j s _ _ (by rw[hsz];exact hlt) ⟨hit,hl⟩ fun v h' tk hP hst' hk'=>?_))
  obtain⟨t,rfl⟩:=hns j v hP
  have hS':=hk' S _ (by simpa using hSI) hS
  have et:least (ns.take (j+1))=low (least (ns.take j)) (ns.getD j 0):=by
   unfold least
   rw[List.take_add_one,List.getElem?_eq_getElem hlt,List.foldl_append,List.getD_eq_getElem?_getD,List.getElem?_eq_getElem hlt]
   rfl
  have kS:∀(f:Array Value→Array Value) (b:Addr) (o:Obj),b≠S→h'.get? b=some o→(h'.update S (Obj.mapSeq f)).get? b=some o:=fun f b o h1 q=>(Heap.get?_update_other _ _ (Ne.symm h1)).trans q
  cases e:least (ns.take j)with
  |none=>
   rw[e]at hb
   have hb':vs=#[]:=hb
   subst hb'
   show wpAny _ A.in1 (updateSeq S (fun _=>#[.int (ns.getD j 0) t,.int (ns.getD j 0) t]) >>= _) _ _ _
   refine wpAny_bind (wpAny_updateSeq hS' rfl ?_)
   rw[hname]
   refine wpAny_pure ⟨plainId_quiet F.plain_min_loop _,ih (j+1) _ #[.int (ns.getD j 0) t,.int (ns.getD j 0) t] _ (by omega) (by omega) (hst'.1.at fun o q=>kS _ _ o (Ne.symm hSI) q) (hst'.2.at fun o q=>kS _ _ o (Ne.symm hSl) q)
    (Heap.get?_update_self _ hS' rfl) (by rw[et,e];exact⟨t,rfl⟩) fun v' h'' tk'' h1 h2=>?_⟩
   exact hR v' h'' tk'' h1 fun b o n1 n2 q=>h2 b o n1 n2 (kS _ _ o n2 (hk' b o (by simpa using n1) q))
  |some m=>
   rw[e]at hb
   obtain⟨t',rfl⟩:=hb
   show wpAny _ A.in1 (tryCatch (holding [.int (ns.getD j 0) t,.int (ns.getD j 0) t] (richCompare .Lt (.int (ns.getD j 0) t) (.int m t') >>= _)) _ >>= _) _ _ _
   refine wpAny_bind (wpAny_tryCatch (wpAny_holding (wpAny_bind ?_)))
   refine richCompare_gives (op:= .Lt) (typeIs_int _ _ t) (typeIs_int _ _ t') F.slot_int_lt F.entry_int_lt (F.args_int_lt_2 _ _) (gives_int_lt _ _ t t') (fun x=>nomatch x) ?_
   refine wpAny_bind (wpAny_holding (wpAny_truthy_bool ?_))
   refine wpAny_bind (wpAny_letGo (wpAny_pure ?_))
   by_cases hlow:ns.getD j 0<m
   ·rw[decide_eq_true hlow]
    simp only[if_true]
    refine wpAny_bind (wpAny_updateSeq hS' rfl (wpAny_bind (wpAny_letGo ?_)))
    rw[hname]
    refine wpAny_pure ⟨plainId_quiet F.plain_min_loop _,ih (j+1) _ #[.int (ns.getD j 0) t,.int (ns.getD j 0) t] _ (by omega) (by omega) (hst'.1.at fun o q=>kS _ _ o (Ne.symm hSI) q) (hst'.2.at fun o q=>kS _ _ o (Ne.symm hSl) q)
     (Heap.get?_update_self _ hS' rfl) (by rw[et,e];unfold low;simp only[if_pos hlow];exact⟨t,rfl⟩) fun v' h'' tk'' h1 h2=>?_⟩
    exact hR v' h'' tk'' h1 fun b o n1 n2 q=>h2 b o n1 n2 (kS _ _ o n2 (hk' b o (by simpa using n1) q))
   ·rw[decide_eq_false hlow]
    simp only[Bool.false_eq_true,if_false]
    refine wpAny_bind (wpAny_letGo ?_)
    rw[hname]
    refine wpAny_pure ⟨plainId_quiet F.plain_min_loop _,ih (j+1) _ #[.int m t',.int m t'] c (by omega) (by omega) hst'.1 hst'.2 hS' (by rw[et,e];unfold low;simp only[if_neg hlow];exact⟨t',rfl⟩) fun v' h'' tk'' h1 h2=>?_⟩
    exact hR v' h'' tk'' h1 fun b o n1 n2 q=>h2 b o n1 n2 (hk' b o (by simpa using n1) q)
end
section
variable{prog:Program}{w:World}{A:Around}{E:Value→Shared→Prop}{s:Shared}
theorem FP{id:String}{b:Builtin}{args:List Value}{kw:List (Str×Value)}{Q:Value→Shared→Prop}(hk:builtinKind id=none)(hp:plainId id=true)
  (hb:entryFor table id=some b) (ha:argsOk id ⟨args,kw⟩)
  (hc:wpAny (model prog w) A.in1 (b ⟨args,kw⟩) (fun fin s'=>match fin with
   | .done f=>(match (Except.ok f:Result)with| .ok (.ret v)=>Q v s'| .ok _=>False| .error e=>E e s')
   | .again c'=>c'.quiet=true∧codeAny (model prog w) A c' (fun r s'=>match r with| .ok (.ret v)=>Q v s'| .ok _=>False| .error e=>E e s') s') E s):
  wpAny (model prog w) A (call (.builtin id) args kw) Q E s:=by
 refine wpAny_call (codeAny_call_builtin hp hb ?_)
 simp only[checkBuiltinCall,hk]
 cases hsig:Manifest.signature? id with
 |none=>exact wpAny_pure hc
 |some sig=>
  have h2:Bind.checkArgs id sig ⟨args,kw⟩=pure ():=by simpa only[argsOk,hsig]using ha
  show wpAny _ A.in1 (Bind.checkArgs id sig ⟨args,kw⟩) _ _ s
  rw[h2];exact wpAny_pure hc
theorem KY{l:Addr}{its:Array Value}{ns:List Int}{d:Value}{Q:Value→Shared→Prop}(hh:A.handled=none)(hl:s.heap.IsList l its)(hns:∀(i:Nat) (v:Value),its[i]? =some v→∃t,v= .int (ns.getD i 0) t)(hsz:its.size=ns.length)
  (hQ:∀v h' tk,Res d (least ns) v→(∀b o,s.heap.get? b=some o→h'.get? b=some o)→Q v {s with heap:=h',toks:=tk}):
  wpAny (model prog w) A (call (.builtin "min") [.ref l] [(Str.ofString "default",d)]) Q E s:=by
 have hname:(toString "min"++toString ".loop":String)="min.loop":=by decide
 have hlt:l<s.heap.objs.size:=by obtain⟨_,e,_⟩:=hl;exact Heap.lt_size e
 refine FP F.kind_min F.plain_min F.entry_min (Ld _ _) ?_
 show wpAny _ A.in1 (Builtin.Builtins.bindParams "min" ["key","default"] 0 ⟨[],[(Str.ofString "default",d)]⟩ >>= _) _ _ s
 refine wpAny_bind (wpAny_of_eq (show Builtin.Builtins.bindParams "min" ["key","default"] 0 ⟨[],[(Str.ofString "default",d)]⟩=pure [none,some d]from rfl) ?_)
 refine wpAny_bind (wpAny_pure (wpAny_bind (wpAny_pyIter_list hl ?_)))
 refine wpAny_bind (wpAny_newObj_type ?_)
 rw[hname]
 have k1:∀b o,s.heap.get? b=some o→((s.heap.push {cls:= .type "list_iterator",data:= .fields #[.ref l,.int 0 0]}).push {cls:= .type "list",data:= .seq ([]:List Value).toArray}).get? b=some o:=fun b o e=>Heap.get?_push_of_some _ (Heap.get?_push_of_some _ e)
 have z1:(s.heap.push {cls:= .type "list_iterator",data:= .fields #[.ref l,.int 0 0]}).objs.size=s.heap.objs.size+1:=Heap.size_push ..
 refine wpAny_pure ⟨plainId_quiet F.plain_min_loop _,loop (I:=s.heap.objs.size) (l:=l) (S:=(s.heap.push {cls:= .type "list_iterator",data:= .fields #[.ref l,.int 0 0]}).objs.size) (its:=its) (ns:=ns) hh (Nat.ne_of_lt hlt) (by rw[z1];exact Nat.succ_ne_self _) (by rw[z1];exact Nat.ne_of_gt (Nat.lt_succ_of_lt hlt)) hns hsz ns.length 0 _ #[] 0 (by omega) (by omega)
  ⟨_,Heap.get?_push_of_some _ (Heap.get?_push_size _ rfl),rfl,rfl⟩ (hl.at fun o e=>k1 _ o e) (Heap.get?_push_size _ rfl) rfl fun v h' tk h1 h2=>?_⟩
 refine hQ v h' tk h1 fun b o e=>h2 b o (Nat.ne_of_lt (Heap.lt_size e)) ?_ (k1 b o e)
 rw[z1]
 exact Nat.ne_of_lt (Nat.lt_succ_of_lt (Heap.lt_size e))
end
end Mn
namespace L2
open PySem PySem.Spec PyProof.Rows
structure Nm(N:List Str)(sc scope:Scope)(p:Str)(ip:Nat):Prop where
 kind:scope.kind= .function
 co:scope.isCoroutine=false
 gen:scope.isGenerator=false
 ix:N[ip]? =some p
 Z6:scope.names.lookup p=some .local
 loc:∀y∈scope.names,y.2= .local→y.1=p
 J9:∀y∈scope.names,y.2≠ .cell
 free:∀y∈scope.names,y.2= .free→sc.names.lookup y.1=some .cell∨sc.names.lookup y.1=some .free
abbrev Cx.lam(X:Cx)(A:Around)(s:Shared)(H:Hp)(env:Env):Cx:=
 {X with A:=A.deeper env,Am:=s,W3:=H,env:=env,outer:=X.stack,stack:=env::X.stack,ex:=[],fn:=fun _=>false,calm:=true,pn:=[],xe:=fun _ _=>False}
abbrev sY(X:Cx)(qual:Str)(scope:Scope)(L f:Addr)(cd:Value):Env:=PySem.W.envX qual scope L f cd (bN X.env.cells scope.names [])
section
variable{X:Cx}{pins:List (Addr×Obj)}{σ:St}{H:Hp}{s:Shared}
theorem O3{A:Around}{scope:Scope}{p:Str}{ip:Nat}{qual:Str}{f:Addr}{cd:Value}{v:V}{u:Value}{h1:Heap}{tk:Nat}
  (I:Inv X pins σ H s) (hA:A.frames=some X.stack) (hd:A.handled=none) (ok:Nm X.N X.env.scope scope p ip) (hN:X.N.Nodup) (rv:RelV v u)
  (hns:h1.Ns s.heap.objs.size (fun x=>[(p,u)].lookup x)) (kp:∀b o,s.heap.get? b=some o→h1.get? b=some o):
  Inv (X.lam A s H (sY X qual scope s.heap.objs.size f cd)) [] (σ.set ip (some v)) H {s with heap:=h1,toks:=tk}:=by
 have hfree:∀y∈scope.names,y.2= .free→∃c,X.env.cells.lookup y.1=some c:=fun y hy e=>by
  rcases ok.free y hy e with k|k
  ·exact I.ok.has _ (.inl k)
  ·exact I.ok.has _ (.inr k)
 have cm:∀ {y c},(bN X.env.cells scope.names []).lookup y=some c→X.env.cells.lookup y=some c:=fun {y c} e=>by
  rcases jj (PySem.mem_of_lookup e)with hm| ⟨h1,rfl⟩
  ·cases hm
  ·obtain⟨c,hc⟩:=hfree _ h1 rfl
   rw[hc];rfl
 have nmem:∀b:Addr,b∉(X.lam A s H (sY X qual scope s.heap.objs.size f cd)).ex:=fun b z=>absurd (show b∈([]:List Addr)from z) (by simp)
 have okL:(X.lam A s H (sY X qual scope s.heap.objs.size f cd)).Ok:=by
  refine⟨I.ok.mod,ok.kind,rfl,rfl,Nat.le_refl _,fun y z c e1 e2=>I.ok.inj y z c (cm e1) (cm e2),fun y hy=>?_,fun y c z _=>absurd (show false=true from z) (by simp),fun _=>hd,Around.frames_deeper hA,.inr ⟨rfl,rfl⟩,
   fun b z=>absurd z (nmem b),I.bs,Nat.le_trans I.ok.Tn I.sz,fun b _ _=>nmem b,fun b z=>absurd z (nmem b),I.stack,I.Dk⟩
  have hy:scope.names.lookup y=some .cell∨scope.names.lookup y=some .free:=hy
  rcases hy with hy|hy
  ·exact absurd rfl (ok.J9 _ (PySem.mem_of_lookup hy))
  ·exact mem_lookup (jk (cells:=X.env.cells) (acc:=[]) (PySem.mem_of_lookup hy))
 have hlen:ip<σ.length:=by rw[I.len];exact(List.getElem?_eq_some_iff.mp ok.ix).1
 refine⟨okL,rfl,I.bare,Un.kept kp,⟨_,hns,fun i y w' e1 e2 e3=>?_⟩,fun y c e=>?_,I.hok.fresh (Nat.le_refl _),fun y c e=>I.kZ y c (cm e),fun q hq=>absurd (show q∈([]:List (Addr×Obj))++[]from hq) (by simp),I.hok.kept kp,?_⟩
 ·have e3:Y6 scope y:=e3
  rcases e3 with k|k|k
  ·have ey:y=p:=ok.loc _ (PySem.mem_of_lookup k) rfl
   subst ey
   have ei:i=ip:=uP hN e1 ok.ix
   subst ei
   rw[List.getElem?_set_self hlen]at e2
   cases e2
   exact⟨u,rv,.inl ⟨k,by show [(y,u)].lookup y=some u;simp [List.lookup]⟩⟩
  ·exact absurd rfl (ok.J9 _ (PySem.mem_of_lookup k))
  ·have hne:i≠ip:=by
    rintro rfl
    have e:y=p:=Option.some.inj (e1.symm.trans ok.ix)
    subst e
    rw[ok.Z6]at k;cases k
   rw[List.getElem?_set_ne hne.symm]at e2
   have hfr:=ok.free _ (PySem.mem_of_lookup k) rfl
   obtain⟨m,hn,hl⟩:=I.loc
   obtain⟨u',r,l⟩:=hl i y w' e1 e2 (hfr.elim (fun k=> .inr (.inl k)) fun k=> .inr (.inr k))
   refine⟨u',r,.inr ⟨.inr k,?_⟩⟩
   rcases l with⟨k',_⟩| ⟨_,c,e,z⟩
   ·have k':X.env.scope.names.lookup y=some .local:=k'
    rcases hfr with q|q<;>rw[show X.env.scope.names.lookup y=_ from q]at k'<;>cases k'
   ·obtain⟨c',e'⟩:=mem_lookup (jk (cells:=X.env.cells) (acc:=[]) (PySem.mem_of_lookup k))
    have e2':=cm e'
    rw[e]at e2'
    cases e2'
    exact⟨c,e',z.keeps kp⟩
 ·obtain⟨w',z⟩:=I.cell y c (cm e)
  exact⟨w',z.keeps kp⟩
 ·rw[List.length_set];exact I.len
theorem HQ{A:Around}{scope:Scope}{p:Str}{ip:Nat}{qual:Str}{params:Arguments}{body:Expr}{f c':Addr}{pm ctv:Value}{v:V}{u:Value}{te:TE}{Q:VK}
  (I:Inv X pins σ H s) (hA:A.frames=some X.stack) (hd:A.handled=none) (hroom:A.depth<recursionLimit) (ok:Nm X.N X.env.scope scope p ip) (hN:X.N.Nodup) (rv:RelV v u)
  (ho:s.heap.get? f=some (PySem.W.kla_obj "<lambda>" qual params body scope (bN X.env.cells scope.names []) pm c' ctv)) (hcd:s.heap.CodeRec (.ref c') qual)
  (hbind:∀u:Value,bindArgs (PySem.W.kla_fn "<lambda>" qual params body scope (bN X.env.cells scope.names []) pm (.ref c') ctv) ⟨[u],[]⟩=pure [(p,u)])
  (he:PE (X.lam A s H (sY X qual scope s.heap.objs.size f (.ref c'))) body te) (hq:te (σ.set ip (some v)) H Q):
  wpAny (model X.prog X.w) A (call (.ref f) [u]) (fun r s'=>CE X.stack X.prog X.w H s Q r s') (fun _ _=>False) s:=by
 have lim:s.heap.NoLimit:=I.nolimit
 refine wpAny_call (PySem.W.kla_callFunE hroom ho rfl ok.co ok.gen rfl hcd ?_)
 rw[hbind]
 refine wpAny_pure (wpAny_newFunctionEnv ok.J9 (fun y hy=>?_) (fun h₁ hns hsb=>?_) ok.kind)
 ·obtain rfl:=List.mem_singleton.mp hy
  exact ok.Z6
 ·have kp:∀b o,s.heap.get? b=some o→h₁.get? b=some o:=fun b o e=>hsb.extBut b o (Nat.ne_of_lt (Heap.lt_size e)) (Heap.get?_push_of_some _ e)
  refine⟨lim.keeps kp,?_⟩
  show codeAny _ _ (.expr body (sY X qual scope s.heap.objs.size f (.ref c'))) _ _
  refine PySem.W.kla_codeExpr ?_
  have I1:=O3 (A:=A) (qual:=qual) (f:=f) (cd:= .ref c') (tk:=s.toks+[(p,u)].length) I hA hd ok hN rv (by simpa using hns) kp
  refine wpAny_mono (he [] _ _ H Q I1 hq) (fun r s' ⟨w',H',J,rr,q⟩=>?_) fun _ _ z=>z.elim
  exact⟨w',H',J.os,J.bare,J.base,J.hok,rr,q⟩
end
structure aG where
 P:Addr
 pos:Pos
 qual:Str
abbrev Cy(c:Addr)(q:Str):HO:= .ext fun h=>h.CodeRec (.ref c) q
structure tR(t:aG)(H:Hp):Prop where
 ok:∃ps,H t.P=some (.yt ps)∧TriplesOk ps.toList∧(codeAmong t.pos ps.toList=none∨∃c,codeAmong t.pos ps.toList=some (.ref c)∧H c=some (Cy c t.qual))
def Kp(H H':Hp):Prop:=∀b o,H b=some o→(∀ps,o≠ .yt ps)→H' b=some o
structure iQ(L:List aG)(H:Hp):Prop where
 ok:∀t∈L,tR t H
structure Go(L:List aG)(H H':Hp):Prop where
 kp:Kp H H'
 st:iQ L H→iQ L H'
 fr:∀b,H' b=none→H b=none
theorem Go.refl(L:List aG)(H:Hp):Go L H H:=⟨fun _ _ e _=>e,fun x=>x,fun _ e=>e⟩
theorem Go.trans{L:List aG}{H H1 H2:Hp}(a:Go L H H1)(b:Go L H1 H2):Go L H H2:=⟨fun c o e n=>b.kp c o (a.kp c o e n) n,fun x=>b.st (a.st x),fun c e=>a.fr c (b.fr c e)⟩
theorem tR.same{t:aG}{H H':Hp}(x:tR t H)(s:tU H H'):tR t H':=by
 obtain⟨ps,e1,e2,e3⟩:=x.ok
 refine⟨ps,s _ _ e1,e2,e3.imp (fun z=>z) fun⟨c,q1,q2⟩=>⟨c,q1,s _ _ q2⟩⟩
theorem tU.go{L:List aG}{H H':Hp}(s:tU H H'):Go L H H':=⟨fun b o e _=>s b o e,fun x=>⟨fun t ht=>(x.ok t ht).same s⟩,fun b e=>s.free e⟩
theorem uA{H:Hp}{p:Addr}{o:HO}(h:H p=none):tU H (upd H p o):=fun b u e=>by rw[aF (aP e h)];exact e
theorem Go.laid{L:List aG}{H:Hp}{p:Addr}{o:HO}(h:H p=none):Go L H (upd H p o):=(uA h).go
theorem Go.lst{L:List aG}{H H':Hp}(g:Go L H H'){a:Addr}{xs:List V}(h:H a=some (.lst xs)):H' a=some (.lst xs):=g.kp _ _ h fun _ z=>nomatch z
theorem Go.tup{L:List aG}{H H':Hp}(g:Go L H H'){a:Addr}{xs:List V}(h:H a=some (.tup xs)):H' a=some (.tup xs):=g.kp _ _ h fun _ z=>nomatch z
theorem Go.ins{L:List aG}{H H':Hp}(g:Go L H H'){a C dx:Addr}{fs:List (Str×V)}(h:H a=some (.ins C dx fs)):H' a=some (.ins C dx fs):=g.kp _ _ h fun _ z=>nomatch z
theorem Go.seq{L:List aG}{K:PySem.W.Frag}{H H':Hp}{a:Addr}{xs:List V}(g:Go L H H')(h:bC K H a xs):bC K H' a xs:=by
 rcases h with(h| ⟨o,h⟩)|h
 ·exact .inl (.inl (g.lst h))
 ·exact .inl (.inr ⟨o,g.kp _ _ h fun _ z=>nomatch z⟩)
 ·exact .inr h
theorem yE{L:List aG}{t:aG}{H H':Hp}(hL:∀t2∈L,t2=t∨t2.P≠t.P){ps:Array Value}(hP:H t.P=some (.yt ps))(k:∀b o,H b=some o→b≠t.P→H' b=some o)(ok:tR t H'):Go L H H':=by
 refine⟨fun b o e n=>k b o e fun z=>?_,fun x=>⟨fun t2 ht=>?_⟩,fun b e=>?_⟩
 ·subst z
  rw[hP]at e
  exact n ps (Option.some.inj e).symm
 ·rcases hL t2 ht with rfl|ne
  ·exact ok
  ·obtain⟨qs,e1,e2,e3⟩:=(x.ok t2 ht).ok
   refine⟨qs,k _ _ e1 ne,e2,e3.imp (fun z=>z) fun⟨c,q1,q2⟩=>⟨c,q1,k _ _ q2 fun z=>?_⟩⟩
   rw[z,hP]at q2
   cases q2
 ·cases q:H b with
  |none=>rfl
  |some o=>
   by_cases hb:b=t.P
   ·obtain⟨qs,e1,_⟩:=ok.ok
    rw[hb,e1]at e;cases e
   ·rw[k b o q hb]at e;cases e
section
variable{X:Cx}{pins:List (Addr×Obj)}{σ:St}{H:Hp}{s:Shared}{h':Heap}
theorem Inv.adopt{a:Addr}{o:HO}{t':Nat}(I:Inv X pins σ H s)(f:eV X pins H a)(k:∀b u,b≠a→s.heap.get? b=some u→h'.get? b=some u)(new:iR X.prog X.w (upd H a o) h' a o):Inv X pins σ (upd H a o) {s with heap:=h',toks:=t'}:=by
 obtain⟨f0,f1,f2,f3,f4,f5⟩:=f
 have na:∀b u,H b=some u→b≠a:=fun b u e z=>by rw[z,f0]at e;cases e
 refine I.step (g':=s.gens) (d':=s.drawn) (ch:=[a]) (fun b hb=>?_) (fun b u _ _ hc e _=>k b u (fun z=>hc (by simp [z])) e) (fun b u _ _ hc e _=>⟨u.slots,k b u (fun z=>hc (by simp [z])) e⟩)
  (fun b u hc _ n=>by rw[aF (fun z=>hc (by simp [z]))];exact n) (fun b u hc e=>⟨u,k b u (fun z=>hc (by simp [z])) e⟩) (fun b xs e=>by rw[aF (na b _ e)];exact e) (fun b u xs e=>by rw[aF (na b _ e)];exact e)
  (fun b ps e=>⟨#[],by rw[aF (na b _ e),e];simp⟩) (fun m hm=>?_) (fun b u e=>?_) I.bare
 ·have e:b=a:=by simpa using hb
  subst e
  exact⟨f3,f1,f4,f5⟩
 ·obtain⟨ob,es,ep,ho,r⟩:=hm
  exact⟨ob,es,ep,k _ ob (Ne.symm f1) ho,r⟩
 ·by_cases hb:b=a
  ·subst hb
   rw[ao]at e;cases e
   exact new
  ·rw[aF hb]at e
   refine(I.hok b u e).stay (fun c v hc q=>k c v ?_ q) (fun c q=>by rw[aF (na c _ q)];exact q) fun c xs q=>by rw[aF (na c _ q)];exact q
   rcases hc with rfl|hc
   ·exact hb
   ·exact na c _ hc
def Bm(base:Heap)(mg:Str→Option Value):Prop:=∃bm o,mg "__builtins__"=some (.ref bm)∧bm≠builtinsNs∧bm≠mainGlobals∧base.get? bm=some o∧o.cls= .type "module"∧o.dict=some builtinsNs∧o.data= .plain
theorem HN{params:Arguments}{body:Expr}{scope:Scope}{t:aG}{c:Addr}{clos:List (Str×Addr)}{Q:Value→Shared→Prop}(I:Inv X pins σ H s)(hcode:X.env.code= .ref c)(C:PySem.W.CodeHd X.base c t.P)(hb:Bm X.base X.mg)(hs:tR t H)
  (hq:X.env.qual++"<lambda>"=t.qual) (hcl:closureFor scope X.env=pure clos) (hdef:defaultsOf params X.env=([],[]))
  (h:∀(f c':Addr) (ctv pm:Value) (H':Hp) (s':Shared),Inv X pins σ H' s'→s'.heap.get? f=some (PySem.W.kla_obj "<lambda>" t.qual params body scope clos pm c' ctv)→H' f=none→s.heap.objs.size≤f→H' c'=some (Cy c' t.qual)→
   (∀b o,H b=some o→b≠t.P→H' b=some o)→tR t H'→Q (.ref f) s'):
  wpAny (model X.prog X.w) X.A (eval (.Lambda params body scope t.pos) X.env) Q X.xe s:=by
 obtain⟨ps,hP,hT,hcase⟩:=hs.ok
 have hPs:s.heap.get? t.P=some (PySem.W.tabObj ps):=I.hok _ _ hP
 have hg:s.heap.Ns mainGlobals X.mg:=I.mod.glob.keeps I.bk
 have nP:∀b,H b=none→b≠t.P:=fun b n z=>by rw[z,hP]at n;cases n
 have hgP:mainGlobals≠t.P:=fun z=>by
  obtain⟨o,es,ep,e,hd,_⟩:=hg
  rw[z,hPs]at e;cases e;cases hd
 obtain⟨bm,ob,b1,b2,b3,b4,b5,b6,b7⟩:=hb
 have b4':=I.bs _ _ b4
 have hB:s.heap.BuiltinsAt X.mg t.P:=⟨bm,ob,b1,b2,b3,nP _ b4'.2,b4'.1,b5,b6,b7⟩
 refine PySem.W.kla_eval hdef ?_
 rw[hq]
 rcases hcase with hn| ⟨c',hc',Zn⟩
 ·refine PySem.W.kla_makeFunction (mg:=X.mg) hcl I.ok.glob hg hcode (C.keeps I.bk) hPs hT hn hgP hB fun c' ctv h' tk hx hge hlt hrec htb=>?_
  have frc:H c'=none:=I.hok.fresh hge
  have ncP:c'≠t.P:=nP c' frc
  have kp:∀b o,b≠t.P→s.heap.get? b=some o→(h'.push (PySem.W.kla_obj "<lambda>" t.qual params body scope clos ((X.mg "__name__").getD .none) c' ctv)).get? b=some o:=fun b o hb e=>Heap.get?_push_of_some _ (hx b o hb e)
  have nc:∀b o,s.heap.get? b=some o→b≠c':=fun b o e z=>by rw[z]at e;exact absurd (Nat.lt_of_lt_of_le (Heap.lt_size e) hge) (Nat.lt_irrefl _)
  have Zb:∀b u,H b=some u→b≠c':=fun b u e z=>by rw[z,frc]at e;cases e
  let H':Hp:=upd (upd H c' (Cy c' t.qual)) t.P (.yt (ps++#[rawInt t.pos.line,rawInt t.pos.col,.ref c']))
  have old:∀b u,H b=some u→b≠t.P→H' b=some u:=fun b u e hb=>by show upd _ _ _ b=_;rw[aF hb,aF (Zb b u e)];exact e
  have non:∀b,b≠t.P→b≠c'→H b=none→H' b=none:=fun b n1 n2 e=>by show upd _ _ _ b=_;rw[aF n1,aF n2];exact e
  have atP:H' t.P=some (.yt (ps++#[rawInt t.pos.line,rawInt t.pos.col,.ref c'])):=ao
  have atc:H' c'=some (Cy c' t.qual):=by show upd _ _ _ c'=_;rw[aF ncP,ao]
  have hz:s.heap.objs.size≤h'.objs.size:=Nat.le_of_lt (Nat.lt_of_le_of_lt hge hlt)
  have I':Inv X pins σ H' {s with heap:=h'.push (PySem.W.kla_obj "<lambda>" t.qual params body scope clos ((X.mg "__name__").getD .none) c' ctv),toks:=tk}:=by
   refine I.step (g':=s.gens) (d':=s.drawn) (ch:=[]) (fun _ z=>nomatch z) (fun b o _ _ _ e n=>kp b o (nP b n) e) (fun b o _ _ _ e n=>⟨o.slots,kp b o (nP b n) e⟩) (fun b o _ e n=>non b (nP b n) (nc b o e) n) (fun b o _ e=>?_)
    (fun b xs e=>old b _ e fun z=>?_) (fun b o u e=>old b _ e fun z=>?_) (fun b qs e=>?_) (fun m hm=>?_) (fun b u e=>?_) I.bare
   ·by_cases hb:b=t.P
    ·subst hb;exact⟨_,Heap.get?_push_of_some _ htb⟩
    ·exact⟨o,kp b o hb e⟩
   ·rw[z,hP]at e;cases e
   ·rw[z,hP]at e;cases e
   ·by_cases hb:b=t.P
    ·subst hb
     rw[hP]at e;cases e
     exact⟨_,atP⟩
    ·exact⟨#[],by rw[old b _ e hb];simp⟩
   ·obtain⟨o,es,ep,ho,r⟩:=hm
    exact⟨o,es,ep,kp _ o (nP _ I.free) ho,r⟩
   ·by_cases hb:b=t.P
    ·subst hb
     rw[atP]at e;cases e
     exact Heap.get?_push_of_some _ htb
    ·by_cases hb2:b=c'
     ·subst hb2
      rw[atc]at e;cases e
      refine⟨hrec.keeps fun b o e=>Heap.get?_push_of_some _ e,?_,fun h1 h2 x k=>?_⟩
      ·obtain⟨c2,oc,vs,tq,e2,hoc,_⟩:=hrec
       cases e2
       exact⟨oc,Heap.get?_push_of_some _ hoc⟩
      ·obtain⟨c2,oc,vs,tq,e2,hoc,r⟩:=x
       cases e2
       exact⟨_,oc,vs,tq,rfl,k _ hoc,r⟩
     ·have eH:H b=some u:=by
       have e:upd (upd H c' (Cy c' t.qual)) t.P _ b=some u:=e
       rw[aF hb,aF hb2]at e;exact e
      refine(I.hok b u eH).stay (fun x v hx q=>kp x v ?_ q) (fun x q=>old x _ q fun z=>by rw[z,hP]at q;cases q) fun x xs q=>old x _ q fun z=>by rw[z,hP]at q;cases q
      rcases hx with rfl|hx
      ·exact hb
      ·intro z
       rw[z,hP]at hx
       cases hx
  refine h _ c' ctv _ H' _ I' (Heap.get?_push_size _ rfl) ?_ hz atc old ⟨_,atP,?_,.inr ⟨c',?_,atc⟩⟩
  ·have f1:H h'.objs.size=none:=I.hok.fresh hz
   exact non _ (nP _ f1) (Nat.ne_of_gt hlt) f1
  ·rw[Array.toList_append];exact TriplesOk_snoc _ _ _ _ hT
  ·rw[Array.toList_append];exact codeAmong_snoc _ hT hn
 ·refine PySem.W.kla_makeFunctionHit (mg:=X.mg) hcl I.ok.glob hg hcode (C.keeps I.bk) hPs hT hc' hB fun ctv h' tk hk hsz=>?_
  exact h _ c' ctv _ H _ (I.kept (t':=tk) fun b o e=>Heap.get?_push_of_some _ (hk b o e)) (Heap.get?_push_size _ rfl) (I.hok.fresh hsz) hsz Zn (fun b o e _=>e) ⟨ps,hP,hT,.inr ⟨c',hc',Zn⟩⟩
end
section
variable{X:Cx}{pins:List (Addr×Obj)}{σ:St}{H H0:Hp}{s:Shared}
theorem Inv.xX{k:Addr}{ok ok':Obj}{h':Heap}{t':Nat}(I:Inv X (pins++[(k,ok)]) σ H s)(f:eV X pins H0 k)(kp:∀b o,b≠k→s.heap.get? b=some o→h'.get? b=some o)(e:h'.get? k=some ok')(nd:∀v,ok'.data≠ .cell v):
  Inv X (pins++[(k,ok')]) σ H {s with heap:=h',toks:=t'}:=by
 obtain⟨f0,f1,f2,f3,f4,f5⟩:=f
 obtain⟨e1,n1,_⟩:=I.pin (k,ok) (by simp)
 have I1:Inv X pins σ H s:=I.fC
 have I2:Inv X pins σ H {s with heap:=h',toks:=t'}:=I1.turned (it:=k) kp n1 f1 f3 f4 f5
 refine I2.uD fun p hp=>?_
 rcases List.mem_append.mp hp with hp|hp
 ·exact I2.pin p (List.mem_append_right _ hp)
 ·rw[List.mem_singleton.mp hp]
  exact⟨e,n1,f1,f2,nd⟩
theorem Inv.vP{k:Addr}{ok:Obj}(I:Inv X pins σ H s)(f:eV X pins H k)(e:s.heap.get? k=some ok)(nd:∀v,ok.data≠ .cell v):Inv X (pins++[(k,ok)]) σ H s:=I.uD fun p hp=>by
 rcases List.mem_append.mp hp with hp|hp
 ·exact I.pin p (List.mem_append_right _ hp)
 ·rw[List.mem_singleton.mp hp]
  exact⟨e,f.1,f.2.1,f.2.2.1,nd⟩
theorem eV.any{a:Addr}(f:eV X pins H a){H':Hp}(n:H' a=none):eV X pins H' a:=⟨n,f.2⟩
theorem eV.more{a k:Addr}{ok:Obj}(f:eV X pins H a)(n:k≠a):eV X (pins++[(k,ok)]) H a:=
 ⟨f.1,f.2.1,f.2.2.1,f.2.2.2.1,f.2.2.2.2.1,fun p hp=>by
  rcases List.mem_append.mp hp with hp|hp
  ·exact f.2.2.2.2.2 p (List.mem_append_left _ hp)
  ·rcases List.mem_append.mp hp with hp|hp
   ·exact f.2.2.2.2.2 p (List.mem_append_right _ hp)
   ·rw[List.mem_singleton.mp hp];exact n⟩
end
abbrev two(k:Int×Int):List (Int ⊕ List Nat):=[Sum.inl k.1,Sum.inl k.2]
abbrev cF:Nat→Bool:=fun _=>false
theorem Lk{P:Program}{w:World}{H:Hp}{h:Heap}{p:Addr}{k:Int×Int}(x:vI P w H h)(e:H p=some (.tup [.int k.1,.int k.2])):G.tupKeyC h cF (.ref p)=some (two k)∧∃f,TupOf h cF (.ref p) f:=by
 obtain⟨_,its,rv,o,ho,hc,n,hd⟩:=x p _ e
 cases rv with
 |cons r1 r2=>
  cases r2 with
  |cons r3 r4=>
   cases r4
   obtain⟨t1,rfl⟩:=r1
   obtain⟨t2,rfl⟩:=r3
   refine⟨?_,_,p,o,_,n,rfl,ho,hc,hd,rfl,fun _=>⟨_,_,rfl⟩,fun z=>(by cases z)⟩
   unfold G.tupKeyC
   rw[if_pos (by simp [G.isTupObj,ho,hc])]
   simp only[tupKey,ho,hd]
   rfl
theorem Ln{P:Program}{w:World}{H:Hp}{h:Heap}{key:Int→Int×Int}(x:vI P w H h):∀ {pk:List Addr} {ns:List Int},pk.length=ns.length→(∀(j:Nat) p n,pk[j]? =some p→ns[j]? =some n→H p=some (.tup [.int (key n).1,.int (key n).2]))→
  ∃fs,TupsOf h cF (pk.map Value.ref) fs
 | [],_,_,_=>⟨[],.nil⟩
 |p::pk,[],hl,_=>by cases hl
 |p::pk,n::ns,hl,hk=>by
  obtain⟨fs,hf⟩:=Ln (key:=key) x (pk:=pk) (ns:=ns) (by simpa using hl) fun j q m e1 e2=>hk (j+1) q m e1 e2
  obtain⟨_,f,hf1⟩:=Lk x (hk 0 p n rfl rfl)
  exact⟨f::fs,.cons hf1 hf⟩
theorem Vp{a b:Int×Int}(h:lexLt itemOrd (two b) (two a)=false):a.1<b.1∨(a.1=b.1∧a.2≤b.2):=by
 have h:(decide (b.1<a.1)||(!decide (a.1<b.1)&&(decide (b.2<a.2)||(!decide (a.2<b.2)&&false))))=false:=h
 simp only[Bool.and_false,Bool.or_false,Bool.or_eq_false_iff,Bool.and_eq_false_iff,Bool.not_eq_false',decide_eq_false_iff_not,decide_eq_true_eq]at h
 omega
theorem U_{h:Heap}{key:Int→Int×Int}{pk:List Addr}{ns:List Int}{its:List Value}{arr:Array Keyed}(hi:IntsAre its ns)(hl:pk.length=ns.length)(hk:∀(j:Nat) p n,pk[j]? =some p→ns[j]? =some n→G.tupKeyC h cF (.ref p)=some (two (key n)))
  (hp:arr.Perm ((pk.map Value.ref).toArray.zip its.toArray)) (hs:SortedToK (G.tupKindC h cF) arr arr.size):
  ∃ns':List Int,IntsAre (arr.map (·.2)).toList ns'∧ns'.Perm ns∧ns'.Pairwise fun a b=>(key a).1< (key b).1∨((key a).1=(key b).1∧(key a).2≤(key b).2):=by
 have hpl:arr.toList.Perm ((pk.map Value.ref).zip its):=by
  have:=Array.perm_iff_toList_perm.mp hp
  rwa[ksk_zip,List.toList_toArray]at this
 have hlen:=hi.length
 have el:∀p∈arr.toList,∃n t q,n∈ns∧p=(Value.ref q,Value.int n t)∧G.tupKeyC h cF (.ref q)=some (two (key n)):=fun p hq=>by
  obtain⟨j,hj,e⟩:=List.mem_iff_getElem.mp (hpl.mem_iff.mp hq)
  rw[List.length_zip,List.length_map]at hj
  have h1:j<pk.length:=by omega
  have h2:j<ns.length:=by omega
  obtain⟨t,ht⟩:=hi.get j ns[j] (List.getElem?_eq_getElem h2)
  obtain⟨h3,h4⟩:=List.getElem?_eq_some_iff.mp ht
  rw[List.getElem_zip,List.getElem_map,h4]at e
  exact⟨ns[j],t,pk[j],List.getElem_mem h2,e.symm,hk j _ _ (List.getElem?_eq_getElem h1) (List.getElem?_eq_getElem h2)⟩
 refine⟨arr.toList.map fun p=>numOf p.2,?_,?_,?_⟩
 ·rw[Array.toList_map]
  have:arr.toList.map (fun p=>numOf p.2)=(arr.toList.map (·.2)).map numOf:=by rw[List.map_map];rfl
  rw[this]
  refine intsAre_map _ fun v hv=>?_
  obtain⟨p,hq,rfl⟩:=List.mem_map.mp hv
  obtain⟨n,t,q,_,rfl,_⟩:=el p hq
  exact⟨n,t,rfl⟩
 ·have h1:=hpl.map fun p=>numOf p.2
  have e:((pk.map Value.ref).zip its).map (fun p=>numOf p.2)=(((pk.map Value.ref).zip its).map Prod.snd).map numOf:=by rw[List.map_map];rfl
  rw[e,List.map_snd_zip (by rw[List.length_map];omega),hi.nums]at h1
  exact h1
 ·rw[List.pairwise_map,List.pairwise_iff_getElem]
  intro i j hi' hj' hij
  have hi2:i<arr.size:=by simpa using hi'
  have hj2:j<arr.size:=by simpa using hj'
  obtain⟨n,t,q,_,e1,k1⟩:=el arr.toList[i] (List.getElem_mem hi')
  obtain⟨m,t',q',_,e2,k2⟩:=el arr.toList[j] (List.getElem_mem hj')
  have g1:KK (G.tupKindC h cF) arr i=two (key n):=by
   unfold KK
   have:arr[i]? =some (Value.ref q,Value.int n t):=by rw[←Array.getElem?_toList,List.getElem?_eq_getElem hi',e1]
   rw[this]
   show(G.tupKeyC h cF (Value.ref q)).getD []=_
   rw[k1];rfl
  have g2:KK (G.tupKindC h cF) arr j=two (key m):=by
   unfold KK
   have:arr[j]? =some (Value.ref q',Value.int m t'):=by rw[←Array.getElem?_toList,List.getElem?_eq_getElem hj',e2]
   rw[this]
   show(G.tupKeyC h cF (Value.ref q')).getD []=_
   rw[k2];rfl
  have:=hs i j (Nat.le_of_lt hij) hj2
  rw[g1,g2]at this
  rw[e1,e2]
  exact Vp this
section
variable{X:Cx}{L:List aG}{pins:List (Addr×Obj)}{σ:St}{H:Hp}{s:Shared}
theorem QX{A:Around}{E:Value→Shared→Prop}{a k:Addr}{e1 ek:Nat}{pk:List Addr}{its:List Value}{ns:List Int}{key:Int→Int×Int}{Pf:PySem.Fin→Shared→Prop}
  (I:Inv X ((pins++[(a,seqObj "list" #[] e1)])++[(k,seqObj "list" (pk.map Value.ref).toArray ek)]) σ H s) (fa:eV X pins H a) (fk:eV X (pins++[(a,seqObj "list" #[] e1)]) H k)
  (hi:IntsAre its ns) (hl:pk.length=ns.length) (hz:ns.length≤1000) (hk:∀(j:Nat) p n,pk[j]? =some p→ns[j]? =some n→H p=some (.tup [.int (key n).1,.int (key n).2]))
  (fin:∀(ns':List Int) (s':Shared),Inv X pins σ (upd H a (.lst (ns'.map V.int))) s'→ns'.Perm ns→(ns'.Pairwise fun a b=>(key a).1< (key b).1∨((key a).1=(key b).1∧(key a).2≤(key b).2))→Pf (.done (.ret .none)) s'):
  wpAny (model X.prog X.w) A (ksk_end a false its.toArray e1 (.ref k) (pk.map Value.ref).toArray) Pf E s:=by
 have hlen:=hi.length
 have O_:sizeLine=16777216:=sizeLine_eq
 have ka:k≠a:=(fk.2.2.2.2.2 (a,seqObj "list" #[] e1) (by simp)).symm
 have pk0:=(I.pin (k,seqObj "list" (pk.map Value.ref).toArray ek) (by simp)).1
 have pa0:=(I.pin (a,seqObj "list" #[] e1) (by simp)).1
 have hk2:∀(j:Nat) p n,pk[j]? =some p→ns[j]? =some n→G.tupKeyC s.heap cF (.ref p)=some (two (key n)):=fun j p n h1 h2=>(Lk I.hok (hk j p n h1 h2)).1
 have ksz:(pk.map Value.ref).toArray.size=ns.length:=by rw[List.size_toArray,List.length_map,hl]
 have zsz:((pk.map Value.ref).toArray.zip its.toArray).size=ns.length:=by rw[Array.size_zip,ksz,List.size_toArray,hlen,Nat.min_self]
 have tail:∀st:SortSt,(arrOf st).Perm ((pk.map Value.ref).toArray.zip its.toArray)→SortedToK (G.tupKindC s.heap cF) (arrOf st) (arrOf st).size→failedOf st=none→wpAny (model X.prog X.w) A (ksk_tail a false e1 (.ref k) st) Pf E s:=by
  intro st hp hs hf
  obtain⟨ns',h1,h2,h3⟩:=U_ hi hl hk2 hp hs
  have osz:((arrOf st).map (·.2)).size=ns.length:=by rw[Array.size_map,hp.size_eq,zsz]
  unfold ksk_tail
  dsimp only
  refine wpAny_bind (listUpdate_at pk0 rfl ?_ (by rw[ksz,O_];omega) (Nat.zero_le _))
  refine wpAny_bind (wpAny_letGo ?_)
  have pa1:(s.heap.update k (Obj.mapSeq fun _=>(#[]:Array Value))).get? a=some (seqObj "list" #[] e1):=(Heap.get?_update_other _ _ ka).trans pa0
  refine wpAny_bind (seqEpoch_at pa1 rfl ?_)
  refine wpAny_bind (listUpdate_at pa1 rfl ?_ (Nat.zero_le _) (by show((arrOf st).map (·.2)).size≤_;rw[osz,O_];omega))
  rw[hf]
  simp only[bne_self_eq_false,Bool.false_eq_true,if_false]
  refine wpAny_pure (fin ns' _ ?_ h2 h3)
  have I1:Inv X (pins++[(a,seqObj "list" #[] e1)]) σ H {s with heap:=s.heap.update k (Obj.mapSeq fun _=>(#[]:Array Value)),toks:=s.toks}:=
   (I.fC).turned (it:=k) (fun b o hb e=>(Heap.get?_update_other _ _ (Ne.symm hb)).trans e) fk.1 fk.2.1 fk.2.2.2.1 fk.2.2.2.2.1 fk.2.2.2.2.2
  obtain⟨eg,ga⟩:∃eg,((s.heap.update k (Obj.mapSeq fun _=>(#[]:Array Value))).update a (Obj.mapSeq fun _=>(arrOf st).map (·.2))).get? a=some (seqObj "list" ((arrOf st).map (·.2)) eg):=⟨_,get?_update_seq pa1 (fun _=>(arrOf st).map (·.2))⟩
  refine I1.fC.adopt (t':=s.toks) fa (fun b o hb e=>(Heap.get?_update_other _ _ (Ne.symm hb)).trans e) ⟨?_,((arrOf st).map (·.2)).toList,eg,gZ h1,?_⟩
  ·rw[List.length_map,h2.length_eq,O_];omega
  ·rw[Array.toArray_toList];exact ga
 unfold ksk_end
 dsimp only
 simp only[Bool.false_eq_true,if_false]
 by_cases h2:its.toArray.size<2
 ·rw[if_pos h2,if_pos h2]
  refine wpAny_bind (wpAny_pure ?_)
  rw[StateT.run_pure]
  refine wpAny_bind (wpAny_pure ?_)
  refine tail (SortSt.mk' general' ((pk.map Value.ref).toArray.zip its.toArray) #[] 7 none) (Array.Perm.refl _) (fun i j hij hj=>?_) rfl
  have hj:j< ((pk.map Value.ref).toArray.zip its.toArray).size:=hj
  rw[zsz]at hj
  rw[List.size_toArray,hlen]at h2
  obtain rfl:i=j:=by omega
  exact KeyOrd.kle_refl _
 ·rw[if_neg h2,if_neg h2]
  rw[List.size_toArray,hlen]at h2
  obtain⟨fs,hfs⟩:=Ln (key:=key) I.hok hl hk
  have hfl:=G.TupsOf.length hfs
  rw[List.length_map]at hfl
  refine wpAny_bind (tup_kind (vs:=pk.map Value.ref) (fs:=fs) (by omega) hfs ?_)
  refine wpAny_bind (wpAny_mono (G.wpS_sortRunsSt (κ:=G.tupKindC s.heap cF) (kd:=tuples' true) (a₀:=(pk.map Value.ref).toArray.zip its.toArray) (st:=SortSt.mk' (tuples' true) ((pk.map Value.ref).toArray.zip its.toArray) #[] 7 none)
   (Q:=fun _ st'=>(arrOf st').Perm ((pk.map Value.ref).toArray.zip its.toArray)∧failedOf st'=none∧SortedToK (G.tupKindC s.heap cF) (arrOf st') ((pk.map Value.ref).toArray.zip its.toArray).size)
   (G.tupC_ltAt true (G.KeepsTups.refl _)) (fun p hp=>?_) ⟨Array.Perm.refl _,rfl,rfl⟩ rfl (Stable.refl _) (by rw[zsz];omega) fun st' a1 a2 a3 _=>⟨a1,a2,a3⟩) ?_ fun _ _ e=>e)
  ·rw[ksk_zip]at hp
   obtain⟨j,hj,e⟩:=List.mem_iff_getElem.mp hp
   rw[List.length_zip,List.length_map]at hj
   have j1:j<pk.length:=by omega
   have j2:j<ns.length:=by omega
   rw[List.getElem_zip,List.getElem_map]at e
   rw[←e]
   exact⟨_,hk2 j pk[j] ns[j] (List.getElem?_eq_getElem j1) (List.getElem?_eq_getElem j2)⟩
  ·rintro⟨⟨⟩,st'⟩ s' ⟨rfl,hp,hf,hs⟩
   dsimp only
   exact tail st' hp (by rw[hp.size_eq];exact hs) hf
set_option maxHeartbeats 8000000 in
theorem QW {l f:Addr} {of:Obj} {ns:List Int} {key:Int→Int×Int} {Q:Value→Shared→Prop} (I:Inv X pins σ H s) (hf:(f,of)∈pins) (hS:bC X.K H l (ns.map V.int)) (hz:ns.length≤1000)
  (run:∀(n:Int) (u:Value) (jJ:List (Addr×Obj)) (H':Hp) (s':Shared),n∈ns→RelV (.int n) u→Inv X jJ σ H' s'→(f,of)∈jJ→Go L H H'→
   wpAny (model X.prog X.w) X.A.in1.in1 (call (.ref f) [u]) (fun r s2=>∃H2 p,Inv X jJ σ H2 s2∧r= .ref p∧H2 p=some (.tup [.int (key n).1,.int (key n).2])∧Go L H' H2) (fun _ _=>False) s')
  (fin:∀(H':Hp) (D:Addr) (ns':List Int) (s':Shared),Inv X pins σ (upd H' D (.lst (ns'.map V.int))) s'→H' D=none→Go L H H'→ns'.Perm ns→(ns'.Pairwise fun a b=>(key a).1< (key b).1∨((key a).1=(key b).1∧(key a).2≤(key b).2))→Q (.ref D) s'):
  wpAny (model X.prog X.w) X.A (call (.builtin "sorted") [.ref l] [(Str.ofString "key",.ref f)]) Q X.xe s:=by
 have O_:sizeLine=16777216:=sizeLine_eq
 obtain⟨its,rv,hl,adJ⟩:=I.list hS
 have hi:IntsAre its ns:=rv.ints
 have hlen:=hi.length
 refine call_function_entry_kw kind_sorted plain_sorted entry_sorted (ksk_s1 _ _) ?_
 unfold Builtin.«sorted»
 refine wpAny_bind (m:=checkCount "sorted" 1 1 _) (wpAny_pure ?_)
 refine wpAny_bind (collect_list hl.isList ?_ (by rw[O_];omega))
 refine wpAny_bind (wpAny_newList ?_ (by rw[O_];omega))
 have zA:((s.heap.push (seqObj "list" #[] 0)).update s.heap.objs.size (Obj.mapSeq (· ++its.toArray))).objs.size=s.heap.objs.size+1:=by rw[Heap.size_update,size_push']
 have oA:(((s.heap.push (seqObj "list" #[] 0)).update s.heap.objs.size (Obj.mapSeq (· ++its.toArray))).push (seqObj "list" its.toArray 0)).get? (s.heap.objs.size+1)=some (seqObj "list" its.toArray 0):=by rw[←zA];exact Heap.get?_push_size _ rfl
 have kA:∀b o,s.heap.get? b=some o→(((s.heap.push (seqObj "list" #[] 0)).update s.heap.objs.size (Obj.mapSeq (· ++its.toArray))).push (seqObj "list" its.toArray 0)).get? b=some o:=fun b o e=>
  Heap.get?_push_of_some _ ((Heap.get?_update_other _ _ (Nat.ne_of_gt (Heap.lt_size e))).trans (Heap.get?_push_of_some _ e))
 show wpAny _ _ _ _ _ {s with heap:=((s.heap.push (seqObj "list" #[] 0)).update s.heap.objs.size (Obj.mapSeq (· ++its.toArray))).push (seqObj "list" its.toArray 0)}
 rw[zA]
 generalize hA:((s.heap.push (seqObj "list" #[] 0)).update s.heap.objs.size (Obj.mapSeq (· ++its.toArray))).push (seqObj "list" its.toArray 0)=hpA at oA kA ⊢
 have IA:Inv X pins σ H {s with heap:=hpA}:=I.kept (t':=s.toks) kA
 have fA:eV X pins H (s.heap.objs.size+1):=I.vf (Nat.le_succ _) (I.hok.fresh (Nat.le_succ _))
 generalize ea:s.heap.objs.size+1=a at oA fA ⊢
 refine wpAny_bind (wpAny_holding (wpAny_call_entry_kw slot_list_sort ⟨_,oA,rfl⟩ entry_list_sort ?_ (ksk_l1 _ _)))
 show wpAny (model X.prog X.w) X.A.in1.in1 (Builtin.«list.sort» ⟨[.ref a],[(Str.ofString "key",.ref f)]⟩) _ _ _
 rw[ksk_t1]
 unfold ksk_tree
 refine wpAny_bind (listItems_at oA rfl ?_)
 refine wpAny_bind (listUpdate_at oA rfl ?_ (by rw[List.size_toArray,O_];omega) (Nat.zero_le _))
 obtain⟨e1,oB⟩:∃e1,(hpA.update a (Obj.mapSeq fun _=>(#[]:Array Value))).get? a=some (seqObj "list" #[] e1):=⟨_,get?_update_seq oA fun _=>#[]⟩
 have IB:Inv X pins σ H {s with heap:=hpA.update a (Obj.mapSeq fun _=>(#[]:Array Value))}:=Inv.turned (s:={s with heap:=hpA}) (t':=s.toks) (it:=a) IA (fun b o hb e=>(Heap.get?_update_other _ _ (Ne.symm hb)).trans e) fA.1 fA.2.1 fA.2.2.2.1 fA.2.2.2.2.1 fA.2.2.2.2.2
 refine wpAny_bind (seqEpoch_at oB rfl ?_)
 refine wpAny_bind (wpAny_newTuple ?_ (by show its.length≤_;rw[O_];omega))
 refine wpAny_bind (wpAny_newList ?_ (Nat.zero_le _))
 refine wpAny_holding ?_
 have IB':=IB.vP fA oB (fun v z=>by cases z)
 generalize hB:hpA.update a (Obj.mapSeq fun _=>(#[]:Array Value))=Zk at oB IB IB' ⊢
 have IC:Inv X (pins++[(a,seqObj "list" #[] e1)]) σ H {s with heap:=(Zk.push {cls:= .type "tuple",data:= .seq its.toArray.toList.toArray}).push {cls:= .type "list",data:= .seq ([]:List Value).toArray}}:=IB'.kept (t':=s.toks) fun b o e=>Heap.get?_push_of_some _ (Heap.get?_push_of_some _ e)
 have fK:eV X (pins++[(a,seqObj "list" #[] e1)]) H (Zk.push {cls:= .type "tuple",data:= .seq its.toArray.toList.toArray}).objs.size:=IB'.vf (by rw[Heap.size_push];exact Nat.le_succ _) (IB.hok.fresh (by rw[Heap.size_push];exact Nat.le_succ _))
 have oK:((Zk.push {cls:= .type "tuple",data:= .seq its.toArray.toList.toArray}).push {cls:= .type "list",data:= .seq ([]:List Value).toArray}).get? (Zk.push {cls:= .type "tuple",data:= .seq its.toArray.toList.toArray}).objs.size=some (seqObj "list" #[] 0):=Heap.get?_push_size _ rfl
 generalize ek:(Zk.push {cls:= .type "tuple",data:= .seq its.toArray.toList.toArray}).objs.size=k at fK oK ⊢
 have ID:=IC.vP fK oK (fun v z=>by cases z)
 generalize hC:(Zk.push {cls:= .type "tuple",data:= .seq its.toArray.toList.toArray}).push {cls:= .type "list",data:= .seq ([]:List Value).toArray}=hpC at oK IC ID ⊢
 unfold ksk_rest
 refine wpAny_bind (wpAny_rule ?_)
 first
  |rw[List.forIn_toArray]
  | (rw[←Array.forIn_toList];simp only[List.toList_toArray])
 refine wpAny_bind (ksk_fold (fun i s'=>∃(H':Hp) (pk:List Addr) (e2:Nat),Inv X ((pins++[(a,seqObj "list" #[] e1)])++[(k,seqObj "list" (pk.map Value.ref).toArray e2)]) σ H' s'∧Go L H H'∧pk.length=i∧
   ∀(j:Nat) p n,pk[j]? =some p→ns[j]? =some n→H' p=some (.tup [.int (key n).1,.int (key n).2])) its 0 _ ⟨H,[],0,ID,Go.refl L H,rfl,fun j p n e=>(by cases e)⟩ ?step ?done)
 case step=>
  rintro j x s' hx ⟨H',pk,e2,I',g',hpl,hpk⟩
  simp only[Nat.zero_add]at hpl ⊢
  have hj:j<its.length:=(List.getElem?_eq_some_iff.mp hx).1
  have hjn:j<ns.length:=by omega
  obtain⟨t,ht⟩:=hi.get j ns[j] (List.getElem?_eq_getElem hjn)
  rw[ht]at hx
  cases hx
  refine wpAny_bind (wpAny_attempt (wpAny_mono (run ns[j] (.int ns[j] t) _ H' s' (List.getElem_mem hjn) ⟨t,rfl⟩ I' (List.mem_append_left _ (List.mem_append_left _ hf)) g') (fun r s2 hr=>?_) fun _ _ z=>z.elim))
  obtain⟨H2,p,I2,rfl,hp,g2⟩:=hr
  dsimp only
  have Rp:=(I2.pin (k,seqObj "list" (pk.map Value.ref).toArray e2) (by simp)).1
  refine wpAny_bind (listUpdate_at Rp rfl ?_ (by rw[List.size_toArray,List.length_map,O_];omega) (by show((pk.map Value.ref).toArray.push _).size≤_;rw[Array.size_push,List.size_toArray,List.length_map,O_];omega))
  obtain⟨eg,gk⟩:∃eg,(s2.heap.update k (Obj.mapSeq (·.push (.ref p)))).get? k=some (seqObj "list" ((pk.map Value.ref).toArray.push (.ref p)) eg):=⟨_,get?_update_seq Rp (·.push (.ref p))⟩
  have ek2:(pk.map Value.ref).toArray.push (.ref p)=((pk++[p]).map Value.ref).toArray:=by simp
  rw[ek2]at gk
  refine wpAny_pure ⟨rfl,H2,pk++[p],eg,I2.xX (t':=s2.toks) fK (fun b o hb e=>(Heap.get?_update_other _ _ (Ne.symm hb)).trans e) gk (fun v z=>by cases z),g'.trans g2,by simp [hpl],fun i q m h1 h2=>?_⟩
  rcases Nat.lt_trichotomy i pk.length with c|c|c
  ·rw[List.getElem?_append_left c]at h1
   exact g2.tup (hpk i q m h1 h2)
  ·subst c
   rw[List.getElem?_append_right (Nat.le_refl _),Nat.sub_self]at h1
   cases h1
   have:ns[pk.length]? =some ns[j]:=by rw[hpl];exact List.getElem?_eq_getElem hjn
   rw[this]at h2
   cases h2
   exact hp
  ·rw[List.getElem?_eq_none (by simp;omega)]at h1
   cases h1
 case done=>
  rintro s' ⟨H',pk,e2,I',g',hpl,hpk⟩
  rw[Nat.zero_add]at hpl
  have Rp:=(I'.pin (k,seqObj "list" (pk.map Value.ref).toArray e2) (by simp))
  have ZZ:=(I'.pin (a,seqObj "list" #[] e1) (by simp))
  refine wpAny_bind (listItems_at Rp.1 rfl ?_)
  refine QX I' (fA.any ZZ.2.1) (fK.any Rp.2.1) hi (by omega) hz hpk fun ns' s2 I2 hp hs=>⟨.none,rfl,?_⟩
  exact wpAny_pure ⟨_,rfl,fin H' a ns' s2 I2 ZZ.2.1 g' hp hs⟩
end
section
variable{X:Cx}{pins:List (Addr×Obj)}{σ:St}{H:Hp}
def Wg(kf:Int→Int)(ns:List Int)(k i:Nat)(n:Int):Prop:=ns[i]? =some n∧∀(j:Nat) m,j<k→ns[j]? =some m→kf n≤kf m∧(j<i→kf n<kf m)
theorem uh{s:Shared}{a b:Addr×Obj}(I:Inv X ((pins++[a])++[b]) σ H s):Inv X ((pins++[b])++[a]) σ H s:=I.uD fun p hp=>I.pin p (List.mem_append_right _ (by
 simp only[List.mem_append,List.mem_singleton]at hp ⊢
 rcases hp with(hp|hp)|hp<;>simp [hp]))
theorem RT{A:Around}{R:Result→Shared→Prop}{l q I S:Addr}{of:Obj}{ns:List Int}{kf:Int→Int}(hh:A.handled=none)(hq:(q,of)∈pins)(hS:bC X.K H l (ns.map V.int))(fI:eV X pins H I)(fS:eV X pins H S)(hSI:I≠S)
  (run:∀(n:Int) (u:Value) (jJ:List (Addr×Obj)) (s':Shared),n∈ns→RelV (.int n) u→Inv X jJ σ H s'→(q,of)∈jJ→wpAny (model X.prog X.w) A.in1 (call (.ref q) [u]) (fun r s2=>∃t,Inv X jJ σ H s2∧r= .int (kf n) t) (fun _ _=>False) s')
  (fin:∀(i:Nat) (n:Int) (t:Tok) (s':Shared),Wg kf ns ns.length i n→Inv X pins σ H s'→R (.ok (.ret (.int n t))) s'):
  ∀(r j i:Nat) (s:Shared) (n:Int) (t tb:Tok) (c:Nat) (oI:Obj),ns.length - (j+1)=r→j+1≤ns.length→Inv X ((pins++[(I,oI)])++[(S,seqObj "list" #[.int n t,.int (kf n) tb] c)]) σ H s→s.heap.IsListIter I l (j+1)→i≤j→Wg kf ns (j+1) i n→
   codeAny (model X.prog X.w) A (.builtin "min.loop" ⟨[.ref I,.ref q,.ref S],[]⟩) R s:=by
 have nm:(toString "min"++toString ".loop":String)="min.loop":=by decide
 intro r
 induction r with
 |zero=>
  intro j i s n t tb c oI hr hj J hit hij hb
  have jn:j+1=ns.length:=by omega
  obtain⟨its,rv,hl,_⟩:=J.list hS
  have hlen:=rv.length
  rw[List.length_map]at hlen
  have pS:=(J.pin (S,seqObj "list" #[.int n t,.int (kf n) tb] c) (by simp)).1
  refine codeAny_builtin PySem.F.entry_min_loop ?_
  rw[Around.under_plainId PySem.F.plain_min_loop _]
  show wpAny _ A.in1 (seqItems? (.ref S) >>= _) _ _ _
  refine wpAny_bind (wpAny_seqItems pS rfl ?_)
  show wpAny _ A.in1 (tryCatch (pyNext (.ref I)) _ >>= _) _ _ _
  refine wpAny_bind (wpAny_tryCatch (wpAny_pyNext_list_end hh hit hl.isList (by simp;omega) fun h' eb=>?_))
  have J1:Inv X (pins++[(S,seqObj "list" #[.int n t,.int (kf n) tb] c)]) σ H {s with heap:=h'}:=(uh J).fC.turned (t':=s.toks) (it:=I) (fun b o hb e=>eb b o hb e) fI.1 fI.2.1 fI.2.2.2.1 fI.2.2.2.2.1 (eV.more (ok:=seqObj "list" #[.int n t,.int (kf n) tb] c) fI hSI.symm).2.2.2.2.2
  have pS1:=(J1.pin (S,seqObj "list" #[.int n t,.int (kf n) tb] c) (by simp)).1
  show wpAny _ A.in1 (updateSeq S (fun _=>#[]) >>= _) _ _ _
  refine wpAny_bind (wpAny_updateSeq pS1 rfl (wpAny_bind (wpAny_letGo (wpAny_pure ?_))))
  have J2:Inv X pins σ H {s with heap:=h'.update S (Obj.mapSeq fun _=>(#[]:Array Value))}:=Inv.turned (s:={s with heap:=h'}) (t':=s.toks) (it:=S) J1.fC (fun b o hb e=>(Heap.get?_update_other _ _ (Ne.symm hb)).trans e) fS.1 fS.2.1 fS.2.2.2.1 fS.2.2.2.2.1 fS.2.2.2.2.2
  exact fin i n t _ (by rw[←jn];exact hb) J2
 |succ r ih=>
  intro j i s n t tb c oI hr hj J hit hij hb
  have jn:j+1<ns.length:=by omega
  obtain⟨its,rv,hl,_⟩:=J.list hS
  have hlen:=rv.length
  rw[List.length_map]at hlen
  have pS:=(J.pin (S,seqObj "list" #[.int n t,.int (kf n) tb] c) (by simp)).1
  obtain⟨u,hu,ru⟩:=rv.get (show(ns.map V.int)[j+1]? =some (V.int ns[j+1])by rw[List.getElem?_map,List.getElem?_eq_getElem jn];rfl)
  refine codeAny_builtin PySem.F.entry_min_loop ?_
  rw[Around.under_plainId PySem.F.plain_min_loop _]
  show wpAny _ A.in1 (seqItems? (.ref S) >>= _) _ _ _
  refine wpAny_bind (wpAny_seqItems pS rfl ?_)
  show wpAny _ A.in1 (tryCatch (pyNext (.ref I)) _ >>= _) _ _ _
  refine wpAny_bind (wpAny_tryCatch (wpAny_pyNext_list_item hit hl.isList (x:=u) (by simpa using hu) fun h' hit' sb=>?_))
  obtain⟨oI',gI,cI,dI⟩:=id hit'
  have J1:Inv X ((pins++[(S,seqObj "list" #[.int n t,.int (kf n) tb] c)])++[(I,oI')]) σ H {s with heap:=h'}:=
   (uh J).xX (t':=s.toks) (eV.more (ok:=seqObj "list" #[.int n t,.int (kf n) tb] c) fI hSI.symm) (fun b o hb e=>(sb.2 b hb).trans e) gI (fun v z=>by rw[dI]at z;cases z)
  obtain⟨tu,rfl⟩:=ru
  show wpAny _ A.in1 (tryCatch (holding [.int ns[j+1] tu] (call (.ref q) [.int ns[j+1] tu])) _ >>= _) _ _ _
  refine wpAny_bind (wpAny_tryCatch (wpAny_holding (wpAny_mono (run ns[j+1] _ _ _ (List.getElem_mem jn) ⟨tu,rfl⟩ J1 (List.mem_append_left _ (List.mem_append_left _ hq))) (fun x s2 he=>?_) fun _ _ z=>z.elim)))
  obtain⟨t2,J2,rfl⟩:=he
  have J2':=uh J2
  have Z7:=(J2.pin (S,seqObj "list" #[.int n t,.int (kf n) tb] c) (by simp)).1
  have pI2:=(J2.pin (I,oI') (by simp)).1
  show wpAny _ A.in1 (tryCatch (holding [.int ns[j+1] tu,.int (kf ns[j+1]) t2] (richCompare .Lt (.int (kf ns[j+1]) t2) (.int (kf n) tb) >>= _)) _ >>= _) _ _ _
  refine wpAny_bind (wpAny_tryCatch (wpAny_holding (wpAny_bind ?_)))
  refine richCompare_gives (op:= .Lt) (typeIs_int _ _ t2) (typeIs_int _ _ tb) PySem.F.slot_int_lt PySem.F.entry_int_lt (PySem.F.args_int_lt_2 _ _) (gives_int_lt _ _ t2 tb) (fun x=>nomatch x) ?_
  refine wpAny_bind (wpAny_holding (wpAny_truthy_bool ?_))
  refine wpAny_bind (wpAny_letGo (wpAny_pure ?_))
  by_cases lt:kf ns[j+1]<kf n
  ·rw[decide_eq_true lt]
   simp only[if_true]
   refine wpAny_bind (wpAny_updateSeq Z7 rfl (wpAny_bind (wpAny_letGo ?_)))
   rw[nm]
   obtain⟨c2,gS⟩:∃c2,(s2.heap.update S (Obj.mapSeq fun _=>#[.int ns[j+1] tu,.int (kf ns[j+1]) t2])).get? S=some (seqObj "list" #[.int ns[j+1] tu,.int (kf ns[j+1]) t2] c2):=⟨_,get?_update_seq Z7 fun _=>#[.int ns[j+1] tu,.int (kf ns[j+1]) t2]⟩
   refine wpAny_pure ⟨plainId_quiet PySem.F.plain_min_loop _,ih (j+1) (j+1) _ ns[j+1] tu t2 c2 oI' (by omega) jn
    (J2'.xX (t':=s2.toks) (eV.more (ok:=oI') fS hSI) (fun b o hb e=>(Heap.get?_update_other _ _ (Ne.symm hb)).trans e) gS (fun v z=>by cases z)) ⟨oI',(Heap.get?_update_other _ _ hSI.symm).trans pI2,cI,dI⟩ (Nat.le_refl _) ⟨List.getElem?_eq_getElem jn,fun i' m hi' hm=>?_⟩⟩
   by_cases e:i'=j+1
   ·subst e
    rw[List.getElem?_eq_getElem jn]at hm
    cases hm
    exact⟨Int.le_refl _,fun z=>absurd z (Nat.lt_irrefl _)⟩
   ·have:=(hb.2 i' m (by omega) hm).1
    exact⟨by omega,fun _=>by omega⟩
  ·rw[decide_eq_false lt]
   simp only[Bool.false_eq_true,if_false]
   refine wpAny_bind (wpAny_letGo ?_)
   rw[nm]
   refine wpAny_pure ⟨plainId_quiet PySem.F.plain_min_loop _,ih (j+1) i _ n t tb c oI' (by omega) jn J2' ⟨oI',pI2,cI,dI⟩ (by omega) ⟨hb.1,fun i' m hi' hm=>?_⟩⟩
   by_cases e:i'=j+1
   ·subst e
    rw[List.getElem?_eq_getElem jn]at hm
    cases hm
    exact⟨by omega,fun z=>by omega⟩
   ·exact hb.2 i' m (by omega) hm
theorem Vk{s:Shared}{l q:Addr}{of:Obj}{ns:List Int}{kf:Int→Int}{Q:Value→Shared→Prop}(I:Inv X pins σ H s)(hh:X.A.handled=none)(hq:(q,of)∈pins)(hS:bC X.K H l (ns.map V.int))(hne:0<ns.length)
  (run:∀(n:Int) (u:Value) (jJ:List (Addr×Obj)) (s':Shared),n∈ns→RelV (.int n) u→Inv X jJ σ H s'→(q,of)∈jJ→wpAny (model X.prog X.w) X.A.in1 (call (.ref q) [u]) (fun r s2=>∃t,Inv X jJ σ H s2∧r= .int (kf n) t) (fun _ _=>False) s')
  (fin:∀(i:Nat) (n:Int) (t:Tok) (s':Shared),Wg kf ns ns.length i n→Inv X pins σ H s'→Q (.int n t) s'):
  wpAny (model X.prog X.w) X.A (call (.builtin "min") [.ref l] [(Str.ofString "key",.ref q)]) Q X.xe s:=by
 have nm:(toString "min"++toString ".loop":String)="min.loop":=by decide
 obtain⟨its,rv,hl,_⟩:=I.list hS
 have hlen:=rv.length
 rw[List.length_map]at hlen
 refine kmk_tree PySem.F.kind_min PySem.F.plain_min PySem.F.entry_min (kmk_min_key _ _) ?_
 show wpAny _ X.A.in1 (Builtin.Builtins.bindParams "min" ["key","default"] 0 ⟨[],[(Str.ofString "key",.ref q)]⟩ >>= _) _ _ s
 refine wpAny_bind (wpAny_of_eq (show Builtin.Builtins.bindParams "min" ["key","default"] 0 ⟨[],[(Str.ofString "key",.ref q)]⟩=pure [some (.ref q),none]from rfl) ?_)
 refine wpAny_bind (wpAny_pure (wpAny_bind (wpAny_pyIter_list hl.isList ?_)))
 refine wpAny_bind (wpAny_newList ?_ (Nat.zero_le _))
 rw[nm]
 have zI:(s.heap.push {cls:= .type "list_iterator",data:= .fields #[.ref l,.int 0 0]}).objs.size=s.heap.objs.size+1:=Heap.size_push ..
 have fI:eV X pins H s.heap.objs.size:=I.vf (Nat.le_refl _) (I.hok.fresh (Nat.le_refl _))
 have fS:eV X pins H (s.heap.objs.size+1):=I.vf (Nat.le_succ _) (I.hok.fresh (Nat.le_succ _))
 have hSI:s.heap.objs.size≠s.heap.objs.size+1:=Nat.ne_of_lt (Nat.lt_succ_self _)
 rw[zI]
 have I1:Inv X pins σ H {s with heap:=(s.heap.push {cls:= .type "list_iterator",data:= .fields #[.ref l,.int 0 0]}).push (seqObj "list" #[] 0)}:=I.kept (t':=s.toks) fun b o e=>Heap.get?_push_of_some _ (Heap.get?_push_of_some _ e)
 have gI:((s.heap.push {cls:= .type "list_iterator",data:= .fields #[.ref l,.int 0 0]}).push (seqObj "list" #[] 0)).get? s.heap.objs.size=some {cls:= .type "list_iterator",data:= .fields #[.ref l,.int 0 0]}:=Heap.get?_push_of_some _ (Heap.get?_push_size _ rfl)
 have gS:((s.heap.push {cls:= .type "list_iterator",data:= .fields #[.ref l,.int 0 0]}).push (seqObj "list" #[] 0)).get? (s.heap.objs.size+1)=some (seqObj "list" #[] 0):=by rw[←zI];exact Heap.get?_push_size _ rfl
 have I2:=I1.vP fS gS (fun v z=>by cases z)
 obtain⟨aeF,rv1,hl1,_⟩:=I1.list hS
 obtain⟨u,hu,ru⟩:=rv1.get (show(ns.map V.int)[0]? =some (V.int ns[0])by rw[List.getElem?_map,List.getElem?_eq_getElem hne];rfl)
 refine wpAny_pure ⟨plainId_quiet PySem.F.plain_min_loop _,codeAny_builtin PySem.F.entry_min_loop ?_⟩
 rw[Around.under_plainId PySem.F.plain_min_loop _]
 show wpAny _ X.A.in1 (seqItems? (.ref _) >>= _) _ _ _
 refine wpAny_bind (wpAny_seqItems gS rfl ?_)
 show wpAny _ X.A.in1 (tryCatch (pyNext (.ref s.heap.objs.size)) _ >>= _) _ _ _
 refine wpAny_bind (wpAny_tryCatch (wpAny_pyNext_list_item ⟨_,gI,rfl,rfl⟩ hl1.isList (x:=u) (by simpa using hu) fun h' hit' sb=>?_))
 obtain⟨oI',gI',cI,dI⟩:=id hit'
 have I3:Inv X (pins++[(s.heap.objs.size+1,seqObj "list" #[] 0)]) σ H {s with heap:=h'}:=Inv.turned (s:={s with heap:=(s.heap.push {cls:= .type "list_iterator",data:= .fields #[.ref l,.int 0 0]}).push (seqObj "list" #[] 0)}) (t':=s.toks) (it:=s.heap.objs.size) I2 (fun b o hb e=>(sb.2 b hb).trans e)
  fI.1 fI.2.1 fI.2.2.2.1 fI.2.2.2.2.1 (eV.more (ok:=seqObj "list" #[] 0) fI hSI.symm).2.2.2.2.2
 have J1:=I3.vP (eV.more (ok:=seqObj "list" #[] 0) fI hSI.symm) gI' (fun v z=>by rw[dI]at z;cases z)
 obtain⟨tu,rfl⟩:=ru
 show wpAny _ X.A.in1 (tryCatch (holding [.int ns[0] tu] (call (.ref q) [.int ns[0] tu])) _ >>= _) _ _ _
 refine wpAny_bind (wpAny_tryCatch (wpAny_holding (wpAny_mono (run ns[0] _ _ _ (List.getElem_mem hne) ⟨tu,rfl⟩ J1 (List.mem_append_left _ (List.mem_append_left _ hq))) (fun x s2 he=>?_) fun _ _ z=>z.elim)))
 obtain⟨t2,J2,rfl⟩:=he
 have J2':=uh J2
 have Z7:=(J2.pin (s.heap.objs.size+1,seqObj "list" #[] 0) (by simp)).1
 have pI2:=(J2.pin (s.heap.objs.size,oI') (by simp)).1
 show wpAny _ X.A.in1 (updateSeq (s.heap.objs.size+1) (fun _=>#[.int ns[0] tu,.int (kf ns[0]) t2]) >>= _) _ _ _
 refine wpAny_bind (wpAny_updateSeq Z7 rfl ?_)
 rw[nm]
 obtain⟨c2,gS2⟩:∃c2,(s2.heap.update (s.heap.objs.size+1) (Obj.mapSeq fun _=>#[.int ns[0] tu,.int (kf ns[0]) t2])).get? (s.heap.objs.size+1)=some (seqObj "list" #[.int ns[0] tu,.int (kf ns[0]) t2] c2):=⟨_,get?_update_seq Z7 fun _=>#[.int ns[0] tu,.int (kf ns[0]) t2]⟩
 refine wpAny_pure ⟨plainId_quiet PySem.F.plain_min_loop _,RT (R:=_) hh hq hS fI fS hSI run (fun i n t s' hb J=>fin i n t s' hb J) (ns.length - 1) 0 0 _ ns[0] tu t2 c2 oI' rfl (by omega)
  (J2'.xX (t':=s2.toks) (eV.more (ok:=oI') fS hSI) (fun b o hb e=>(Heap.get?_update_other _ _ (Ne.symm hb)).trans e) gS2 (fun v z=>by cases z)) ⟨oI',(Heap.get?_update_other _ _ hSI.symm).trans pI2,cI,dI⟩ (Nat.le_refl _) ⟨List.getElem?_eq_getElem hne,fun i' m hi' hm=>?_⟩⟩
 obtain rfl:i'=0:=by omega
 rw[List.getElem?_eq_getElem hne]at hm
 cases hm
 exact⟨Int.le_refl _,fun z=>absurd z (Nat.lt_irrefl _)⟩
end
section
variable{X:Cx}{L:List aG}
structure Tw(X:Cx)(t:aG)(params:Arguments)(scope:Scope)(clos:List (Str×Addr))(pn:Str)(ip:Nat)(Bd:Pos):Prop where
 code:∃c,X.env.code= .ref c∧PySem.W.CodeHd X.base c t.P
 bm:Bm X.base X.mg
 qual:X.env.qual++"<lambda>"=t.qual
 pos:t.pos=Bd
 clo:closureFor scope X.env=pure clos
 eqc:clos=bN X.env.cells scope.names []
 WY:defaultsOf params X.env=([],[])
 ok:Nm X.N X.env.scope scope pn ip
 bind:∀(body:Expr) (pm ctv:Value) (c':Addr) (u:Value),bindArgs (PySem.W.kla_fn "<lambda>" t.qual params body scope clos pm (.ref c') ctv) ⟨[u],[]⟩=pure [(pn,u)]
def yu(K:PySem.W.Frag)(L:List aG)(t:aG)(ip:Nat)(ta:TA)(tl:TE):TE:=fun σ H Q=>ta σ H fun vs H1=>∃(a:Addr) (ns:List Int) (key:Int→Int×Int),vs=[.ref a]∧bC K H1 a (ns.map V.int)∧ns.length≤1000∧iQ L H1∧
 (∀n∈ns,∀H',Go L H1 H'→∀Qk:VK,(∀H2 q,H2 q=some (.tup [.int (key n).1,.int (key n).2])→Go L H' H2→Qk (.ref q) H2)→tl (σ.set ip (some (.int n))) H' Qk)∧
 ∀(H':Hp) (D:Addr) (ns':List Int),H' D=none→Go L H1 H'→ns'.Perm ns→(ns'.Pairwise fun a b=>(key a).1< (key b).1∨((key a).1=(key b).1∧(key a).2≤(key b).2))→Q (.ref D) (upd H' D (.lst (ns'.map V.int)))
theorem yK{k:Nat}{e body:Expr}{ta:TA}{tl:TE}{params:Arguments}{scope:Scope}{Bd R9 p pos:Pos}{t:aG}{clos:List (Str×Addr)}{pn:Str}{ip:Nat}(hr:eQ (k+3) X.A)(hc:X.calm=true)(hN:X.N.Nodup)(hg:Gl X "sorted")(hm:X.mg "sorted"=none)
  (hL:t∈L) (hap:∀t2∈L,t2=t∨t2.P≠t.P) (T:Tw X t params scope clos pn ip Bd) (ha:PA X [e] ta)
  (hl:∀(s:Shared) (H:Hp) (La f:Addr) (cd:Value),PE (X.lam X.A.in1.in1 s H (sY X t.qual scope La f cd)) body tl)
  (hs:starEach [e] X.env=[(false,eval e X.env)]:=by rfl):
  PE X (.Call (.Name "sorted" p) [e] [⟨some "key",.Lambda params body scope Bd,R9⟩] pos) (yu X.K L t ip ta tl):=by
 intro pins s σ H Q I h
 obtain⟨c,hcode,C⟩:=T.code
 obtain⟨⟩:=T.pos
 obtain⟨⟩:=T.eqc
 refine wpAny_Call_Name_kw (kY I hg hm boot_sorted ?_)
 refine callWith_kw (cW (ha pos pins s σ H _ I h) fun us s1 ⟨vs,H1,I1,r1,q1⟩=>?_) (he:=by rw[hs];rfl) (hplain:=by rw[hs];rfl)
 obtain⟨a,ns,key,rfl,hS,hz,hT,hkey,fin⟩:=q1
 rw[Vals.xK r1]
 show wpAny _ _ (evalAll [(do let v ←eval (.Lambda params body scope t.pos) X.env;standAt pos;pure v)]) _ _ s1
 refine wpAny_evalAll_cons (wpAny_bind (HN I1 hcode C T.bm (hT.ok t hL) T.qual T.clo T.WY fun f c' ctv pm H2 s2 I2 hf nf ZG Zn kp ok2=>wpAny_bind (wpAny_standAt (wpAny_pure (wpAny_evalAll_nil ?_)))))
 show wpAny _ _ (call (.builtin "sorted") [.ref a] [(Str.ofString "key",.ref f)]) _ _ _
 obtain⟨ps,hP,_⟩:=(hT.ok t hL).ok
 have PP:Go L H1 H2:=yE hap hP kp ok2
 have I2':Inv X (pins++[(f,PySem.W.kla_obj "<lambda>" t.qual params body scope (bN X.env.cells scope.names []) pm c' ctv)]) σ H2 s2:=by
  refine I2.vP ?_ hf (fun v z=>by cases z)
  obtain⟨f0,f1,f2,f3,f4,f5⟩:=I1.vf (H':=H1) ZG (I1.hok.fresh ZG)
  exact⟨nf,f1,f2,f3,f4,f5⟩
 refine QW (L:=L) (key:=key) I2' (List.mem_append_right _ (List.mem_singleton.mpr rfl)) (PP.seq hS) hz (fun n u jJ H' s' hn ru I' hp g=>?_) fun H' D ns' s' I' hD g h1 h2=>⟨.ref D,_,I'.fC,rfl,fin H' D ns' hD (PP.trans g) h1 h2⟩
 have ho:=(I'.pin _ (List.mem_append_right _ hp)).1
 have acB:H' c'=some (Cy c' t.qual):=g.kp _ _ Zn fun _ z=>nomatch z
 have hcd:s'.heap.CodeRec (.ref c') t.qual:=(I'.hok _ _ acB).1
 refine cW (HQ (A:=X.A.in1.in1) (te:=tl) (v:= .int n) (Q:=fun v H2=>∃q,v= .ref q∧H2 q=some (.tup [.int (key n).1,.int (key n).2])∧Go L H' H2) I' I.ok.frames (I.ok.hd hc) (hr.in1.in1).depth T.ok hN ru ho hcd (T.bind body pm ctv c') (hl s' H' _ f _) (hkey n hn H' (PP.trans g) _ fun H2 q h1 h2=>⟨q,rfl,h1,h2⟩)) fun r s2 hce=>?_
 obtain⟨v,H2,I3,rv,q,rfl,h1,h2⟩:=I'.after hce
 exact⟨H2,q,I3,rv,h1,h2⟩
def Lw(K:PySem.W.Frag)(L:List aG)(t:aG)(ip:Nat)(ta:TA)(tl:TE):TE:=fun σ H Q=>ta σ H fun vs H1=>∃(a:Addr) (ns:List Int) (kf:Int→Int),vs=[.ref a]∧bC K H1 a (ns.map V.int)∧0<ns.length∧iQ L H1∧
 (∀n∈ns,∀H',Go L H1 H'→∀Qk:VK,Qk (.int (kf n)) H'→tl (σ.set ip (some (.int n))) H' Qk)∧
 ∀(H':Hp) (i:Nat) (n:Int),Go L H1 H'→Wg kf ns ns.length i n→Q (.int n) H'
theorem Oj{k:Nat}{e body:Expr}{ta:TA}{tl:TE}{params:Arguments}{scope:Scope}{Bd R9 p pos:Pos}{t:aG}{clos:List (Str×Addr)}{pn:Str}{ip:Nat}(hr:eQ (k+3) X.A)(hc:X.calm=true)(hN:X.N.Nodup)(hg:Gl X "min")(hm:X.mg "min"=none)
  (hL:t∈L) (hap:∀t2∈L,t2=t∨t2.P≠t.P) (T:Tw X t params scope clos pn ip Bd) (ha:PA X [e] ta)
  (hl:∀(s:Shared) (H:Hp) (La f:Addr) (cd:Value),PE (X.lam X.A.in1 s H (sY X t.qual scope La f cd)) body tl)
  (hs:starEach [e] X.env=[(false,eval e X.env)]:=by rfl):
  PE X (.Call (.Name "min" p) [e] [⟨some "key",.Lambda params body scope Bd,R9⟩] pos) (Lw X.K L t ip ta tl):=by
 intro pins s σ H Q I h
 obtain⟨c,hcode,C⟩:=T.code
 obtain⟨⟩:=T.pos
 obtain⟨⟩:=T.eqc
 refine wpAny_Call_Name_kw (kY I hg hm boot_min ?_)
 refine callWith_kw (cW (ha pos pins s σ H _ I h) fun us s1 ⟨vs,H1,I1,r1,q1⟩=>?_) (he:=by rw[hs];rfl) (hplain:=by rw[hs];rfl)
 obtain⟨a,ns,kf,rfl,hS,hz,hT,hkey,fin⟩:=q1
 rw[Vals.xK r1]
 show wpAny _ _ (evalAll [(do let v ←eval (.Lambda params body scope t.pos) X.env;standAt pos;pure v)]) _ _ s1
 refine wpAny_evalAll_cons (wpAny_bind (HN I1 hcode C T.bm (hT.ok t hL) T.qual T.clo T.WY fun f c' ctv pm H2 s2 I2 hf nf ZG Zn kp ok2=>wpAny_bind (wpAny_standAt (wpAny_pure (wpAny_evalAll_nil ?_)))))
 show wpAny _ _ (call (.builtin "min") [.ref a] [(Str.ofString "key",.ref f)]) _ _ _
 obtain⟨ps,hP,_⟩:=(hT.ok t hL).ok
 have PP:Go L H1 H2:=yE hap hP kp ok2
 have I2':Inv X (pins++[(f,PySem.W.kla_obj "<lambda>" t.qual params body scope (bN X.env.cells scope.names []) pm c' ctv)]) σ H2 s2:=by
  refine I2.vP ?_ hf (fun v z=>by cases z)
  obtain⟨f0,f1,f2,f3,f4,f5⟩:=I1.vf (H':=H1) ZG (I1.hok.fresh ZG)
  exact⟨nf,f1,f2,f3,f4,f5⟩
 refine Vk (kf:=kf) I2' (I.ok.hd hc) (List.mem_append_right _ (List.mem_singleton.mpr rfl)) (PP.seq hS) hz (fun n u jJ s' hn ru I' hp=>?_) fun i n t s' hb I'=>⟨.int n,H2,I'.fC,⟨t,rfl⟩,fin H2 i n PP hb⟩
 have ho:=(I'.pin _ (List.mem_append_right _ hp)).1
 have hcd:s'.heap.CodeRec (.ref c') t.qual:=(I'.hok _ _ Zn).1
 refine cW (HQ (A:=X.A.in1) (te:=tl) (v:= .int n) (Q:=fun v H3=>v= .int (kf n)∧H3=H2) I' I.ok.frames (I.ok.hd hc) (hr.in1).depth T.ok hN ru ho hcd (T.bind body pm ctv c') (hl s' H2 _ f _) (hkey n hn H2 PP _ ⟨rfl,rfl⟩)) fun r s2 hce=>?_
 obtain⟨v,H3,I3,rv,rfl,rfl⟩:=I'.after hce
 obtain⟨t2,rfl⟩:=rv
 exact⟨t2,I3,rfl⟩
def Wm(K:PySem.W.Frag)(ta:TA):TE:=fun σ H Q=>ta σ H fun vs H1=>∃(a:Addr) (ns:List Int),vs=[.ref a]∧bC K H1 a (ns.map V.int)∧Q (match Mn.least ns with|none=> .non|some m=> .int m) H1
theorem U5{e:Expr}{ta:TA}{R9 p pos p3:Pos}{j:_}(hc:X.calm=true)(hg:Gl X "min")(hm:X.mg "min"=none)(ha:PA X [e] ta)(hs:starEach [e] X.env=[(false,eval e X.env)]:=by rfl):
  PE X (.Call (.Name "min" p) [e] [⟨some "default",.Constant .none j p3,R9⟩] pos) (Wm X.K ta):=by
 intro pins s σ H Q I h
 refine wpAny_Call_Name_kw (kY I hg hm boot_min ?_)
 refine callWith_kw (cW (ha pos pins s σ H _ I h) fun us s1 ⟨vs,H1,I1,r1,q1⟩=>?_) (he:=by rw[hs];rfl) (hplain:=by rw[hs];rfl)
 obtain⟨a,ns,rfl,hS,q⟩:=q1
 rw[Vals.xK r1]
 show wpAny _ _ (evalAll [(do let v ←eval (.Constant .none j p3) X.env;standAt pos;pure v)]) _ _ s1
 refine wpAny_evalAll_cons (wpAny_bind (Constant_none (wpAny_bind (wpAny_standAt (wpAny_pure (wpAny_evalAll_nil ?_))))))
 show wpAny _ _ (call (.builtin "min") [.ref a] [(Str.ofString "default",.none)]) _ _ _
 obtain⟨its,rv,hl,_⟩:=I1.list hS
 have hi:=rv.ints
 refine Mn.KY (ns:=ns) (I.ok.hd hc) hl.isList (fun i v hv=>?_) (by rw[List.size_toArray];exact hi.length) fun v h' tk hres hk=>?_
 ·exact IntsAre.int_at hi i v (by simpa using hv)
 ·cases hb:Mn.least ns with
  |none=>
   rw[hb]at q hres
   obtain rfl:v=Value.none:=hres
   exact⟨.non,H1,I1.kept (t':=tk) hk,rfl,q⟩
  |some m=>
   rw[hb]at q hres
   obtain⟨t,rfl⟩:=hres
   exact⟨.int m,H1,I1.kept (t':=tk) hk,⟨t,rfl⟩,q⟩
end
end L2
namespace ST
open PySem PyProof.Rows
theorem Ke:typeLookup (.type "set") "__len__"=pure (some (.builtin "set.__len__")):=by rw[typeLookup_type,builtinLookup_eq_fast];kernel_rfl
section
variable{prog:Program}{w:World}{A:Around}{E:Value→Shared→Prop}{s:Shared}{a:Addr}{es:Array (Int×Value)}{ep:Nat}{t:SetTable}
theorem Sv{Q:Bool→Shared→Prop}(hT:s.TypeIs (.ref a) "set")(h:Q false s):wpAny (model prog w) A (Builtin.List.listLengthHint (.ref a)) Q E s:=by
 unfold Builtin.List.listLengthHint
 refine wpAny_bind (wpAny_specialOf hT Ke ?_)
 generalize hid:("set.__len__":String)=id0
 (fail_if_success (clear hid id0))
 wp_delta
 rw[show splitId id0=some ("set","__len__")from by subst hid;decide+kernel]
 subst hid
 refine wpAny_bind (wpAny_isInstance (b:=true) hT (by rw[isSubtype_type];kernel_rfl) ?_)
 rw[if_neg (by decide)]
 dsimp only
 rw[if_pos (by decide+kernel)]
 exact wpAny_bind (wpAny_typeOf hT (wpAny_pure h))
theorem Iu{Q:List Value→Shared→Prop}(hh:A.handled=none)(hS:At s.heap a es ep t)(ht:vG (IK w) t)(hz:es.size≤sizeLine)
  (hQ:∀(vs:List Value) (h':Heap) (d:Drawn) (tk:Nat),vs.Perm (es.toList.map (·.2))→s.heap.objs.size<h'.objs.size→(∀b o,s.heap.get? b=some o→h'.get? b=some o)→Q vs {s with heap:=h',drawn:=d,toks:=tk}):wpAny (model prog w) A (collect (.ref a)) Q E s:=by
 obtain⟨o,ho,hx,hd⟩:=hS.ex
 have ha:a<s.heap.objs.size:=Heap.lt_size ho
 unfold collect
 refine wpAny_bind (wpAny_runValue (codeAny_builtin PySem.F.entry_proto_collect ?_))
 rw[Around.under_plainId PySem.F.plain_proto_collect _]
 show wpAny _ A.in1 (newList [] >>= fun l=>again (.builtin "list.__iadd__" ⟨[l,.ref a],[]⟩)) _ _ s
 refine wpAny_bind (wpAny_newObj_type ?_)
 refine wpAny_pure ⟨plainId_quiet PySem.F.plain_list_iadd _,codeAny_builtin PySem.F.entry_list_iadd ?_⟩
 rw[Around.under_plainId PySem.F.plain_list_iadd _]
 have gS:(s.heap.push {cls:= .type "list",data:= .seq ([]:List Value).toArray}).get? s.heap.objs.size=some {cls:= .type "list",data:= .seq ([]:List Value).toArray}:=Heap.get?_push_size _ rfl
 have hS1:At (s.heap.push {cls:= .type "list",data:= .seq ([]:List Value).toArray}) a es ep t:=hS.at fun o e=>Heap.get?_push_of_some _ e
 have hT1:Shared.TypeIs {s with heap:=s.heap.push {cls:= .type "list",data:= .seq ([]:List Value).toArray}} (.ref a) "set":=⟨o,Heap.get?_push_of_some _ ho,hx.1⟩
 have nSa:s.heap.objs.size≠a:=Nat.ne_of_gt ha
 show wpAny _ A.in1 (Builtin.List.listExtendWith (.ref s.heap.objs.size) (.ref a) (.ref s.heap.objs.size)) _ _ _
 unfold Builtin.List.listExtendWith
 refine wpAny_bind (wpAny_typeOf hT1 ?_)
 have q1:Builtin.List.listSameRef (.ref s.heap.objs.size) (.ref a)=false:=by simp [Builtin.List.listSameRef,nSa]
 rw[if_neg (by rw[q1];decide)]
 refine wpAny_bind (Vs hS1 ht hz fun I fp St vs h2 d W st0 hfp hnew kp2=>?_)
 have gS2:=kp2 _ _ gS
 refine wpAny_bind (wpAny_holding (Sv ⟨o,kp2 _ _ (Heap.get?_push_of_some _ ho),hx.1⟩ ?_))
 dsimp only
 rw[if_pos (by decide+kernel)]
 refine wpAny_bind (wpAny_rule (wpAny_bind ?_))
 show wpAny _ A.in1 (updateSeq s.heap.objs.size (·.push .none) >>= fun _=>updateSeq s.heap.objs.size (·.pop)) _ _ _
 refine wpAny_bind (wpAny_updateSeq gS2 rfl ?_)
 have gS3:=Heap.get?_update_self (Obj.mapSeq (·.push Value.none)) gS2 rfl
 refine wpAny_updateSeq gS3 rfl ?_
 have gS4:=Heap.get?_update_self (Obj.mapSeq (·.pop)) gS3 rfl
 have oth:∀b o,b≠s.heap.objs.size→h2.get? b=some o→((h2.update s.heap.objs.size (Obj.mapSeq (·.push Value.none))).update s.heap.objs.size (Obj.mapSeq (·.pop))).get? b=some o:=
  fun b o hb e=>(Heap.get?_update_other _ _ (Ne.symm hb)).trans ((Heap.get?_update_other _ _ (Ne.symm hb)).trans e)
 generalize hh3:(h2.update s.heap.objs.size (Obj.mapSeq (·.push Value.none))).update s.heap.objs.size (Obj.mapSeq (·.pop))=h3 at gS4 oth ⊢
 have nS:s.heap.objs.size∉fp:=fun z=>by
  rcases hnew _ z with q|q
  ·exact nSa q
  ·rw[Heap.size_push]at q
   exact absurd q (Nat.not_succ_le_self _)
 have WS:=(W.wk A.in1 hh).toS
 have st3:St 0 h3:=(W.wk A hh).frame 0 h2 h3 st0 fun b hb o e=>oth b o (fun z=>nS (z▸hb)) e
 refine wpAny_pure ⟨plainId_quiet PySem.F.plain_extend_loop _,codeAny_extend_loopS WS hz s.heap.objs.size nS _ es.size 0 _ _ _ rfl (Nat.zero_le _) st3 gS4 (ItemsOf.nil _) fun s' acc c hm gS5 hacc=>?_⟩
 show wpAny _ A (load s.heap.objs.size >>= _) _ _ s'
 refine wpAny_bind (wpAny_load gS5 (wpAny_pure ?_))
 obtain⟨x1,x2,x3,x4,x5⟩:=s'
 obtain rfl:x2=s.gens:=hm.gens
 obtain rfl:x3=d:=hm.drawn
 obtain rfl:x5=s.os:=hm.os
 refine hQ acc.toList x1 _ x4 ?_ (Heap.lt_size gS5) fun b o e=>?_
 ·have:acc=vs:=by
   refine Array.ext (by rw[hacc.1];have:=W.perm.length_eq;simpa using this.symm) fun i h1 h2=>?_
   have q:vs[i]? =some acc[i]:=hacc.2 i acc[i] (Array.getElem?_eq_getElem h1)
   rw[Array.getElem?_eq_getElem h2]at q
   exact(Option.some.inj q).symm
  rw[this];exact W.perm
 ·have bl:b<s.heap.objs.size:=Heap.lt_size e
  refine hm.heap b o (fun z=>?_) (oth b o (Nat.ne_of_lt bl) (kp2 b o (Heap.get?_push_of_some _ e)))
  rcases List.mem_cons.mp z with z|z
  ·exact absurd z (Nat.ne_of_lt bl)
  ·have zI:=List.mem_singleton.mp z
   rcases hnew I W.mem with q|q
   ·exact absurd q.symm W.ne
   ·rw[Heap.size_push,←zI]at q
    exact absurd (Nat.lt_of_lt_of_le bl (Nat.le_of_succ_le q)) (Nat.lt_irrefl _)
theorem JK{ks:List Int}{Q:Value→Shared→Prop}(hh:A.handled=none)(hS:At s.heap a es ep t)(ht:vG (IK w) t)(hz:es.size≤100000)(hks:∀vs:List Value,vs.Perm (es.toList.map (·.2))→∃ns,IntsAre vs ns∧ns.Perm ks)
  (h:∀(D:Addr) (out:List Value) (ns:List Int) (h':Heap) (d:Drawn) (tk ec:Nat),IntsAre out ns→ns.Perm ks→ns.Pairwise (· ≤ ·)→h'.get? D=some {cls:= .type "list",data:= .seq out.toArray ec}→s.heap.objs.size≤D→(∀b o,s.heap.get? b=some o→h'.get? b=some o)→
   Q (.ref D) {s with heap:=h',drawn:=d,toks:=tk}):wpAny (model prog w) A (call (.builtin "sorted") [.ref a]) Q E s:=by
 have O_:sizeLine=16777216:=sizeLine_eq
 refine Calls.call_function_entry kind_sorted plain_sorted entry_sorted (args_sorted1 _) ?_
 unfold Builtin.«sorted»
 refine wpAny_bind (m:=checkCount "sorted" 1 1 _) (wpAny_pure ?_)
 refine wpAny_bind (Iu (A:=A.in1) hh hS ht (by rw[O_];omega) fun vs h' d tk hp szl kp=>?_)
 obtain⟨ns,hi,hns⟩:=hks vs hp
 have hlen:vs.length≤sizeLine:=by rw[hp.length_eq,List.length_map,Array.length_toList,O_];omega
 refine wpAny_bind (wpAny_newList ?_ hlen)
 have oL:(h'.push (seqObj "list" vs.toArray 0)).get? h'.objs.size=some (seqObj "list" vs.toArray 0):=Heap.get?_push_size _ rfl
 refine wpAny_bind (wpAny_holding (wpAny_call_entry slot_list_sort ⟨_,oL,rfl⟩ entry_list_sort (list_sort_treeAny oL hi hlen fun out ns' h1 h2 h3=>⟨_,rfl,?_⟩) (args_list_sort _)))
 obtain⟨ec,g⟩:=sortedHeap_at (vs:=vs) (out:=out) oL
 have sz:s.heap.objs.size≤h'.objs.size:=Nat.le_of_lt szl
 refine wpAny_pure ⟨_,rfl,h h'.objs.size out.toList ns' _ d tk ec h1 (h2.trans hns) h3 (by rw[Array.toArray_toList];exact g) sz fun b o e=>?_⟩
 have e':=kp b o e
 have bl:b<h'.objs.size:=Heap.lt_size e'
 exact(sortedHeap_old (Nat.ne_of_lt bl) (by rw[Heap.size_push];exact Nat.lt_succ_of_lt bl)).trans (Heap.get?_push_of_some _ e')
end
def Cw(ns:List Int):List Int:=ns.foldl step_dedup []
theorem Cv:∀(ns acc:List Int),acc.Nodup→(ns.foldl step_dedup acc).Nodup∧∀k,k∈ns.foldl step_dedup acc↔k∈acc∨k∈ns
 | [],acc,h=>⟨h,fun k=>by simp⟩
 |n::ns,acc,h=>by
  rw[List.foldl_cons]
  have hs:(step_dedup acc n).Nodup∧∀k,k∈step_dedup acc n↔k∈acc∨k=n:=by
   unfold step_dedup
   split
   ·rename_i q
    have q':n∈acc:=by simpa using q
    exact⟨h,fun k=>⟨.inl,fun z=>z.elim (fun z=>z) fun z=>z▸q'⟩⟩
   ·rename_i q
    have q':n∉acc:=by simpa using q
    refine⟨List.nodup_append.mpr ⟨h,by simp,fun a ha b hb e=>q' (by rw[List.mem_singleton.mp hb]at e;exact e▸ha)⟩,fun k=>by simp⟩
  obtain⟨h1,h2⟩:=Cv ns _ hs.1
  refine⟨h1,fun k=>?_⟩
  rw[h2,hs.2]
  constructor
  ·rintro((z|z)|z)<;>simp [z]
  ·rintro(z|z)
   ·exact .inl (.inl z)
   ·rcases List.mem_cons.mp z with z|z
    ·exact .inl (.inr z)
    ·exact .inr z
theorem Fo(ns:List Int):(Cw ns).Nodup∧∀k,k∈Cw ns↔k∈ns:=by
 have:=Cv ns [] .nil
 exact⟨this.1,fun k=>by rw[show Cw ns=ns.foldl step_dedup []from rfl,this.2];simp⟩
theorem vo(ns:List Int):firstMet (fun i=>ns.getD i 0) ns.length=Cw ns:=by
 unfold firstMet Cw
 congr 1
 refine List.ext_getElem (by simp) fun i h1 h2=>?_
 simp [h2]
theorem lL:∀ {l k:List Int},l.Nodup→(∀x∈l,x∈k)→k.length≤l.length→l.Perm k
 | [],k,_,_,h=>by
  have:k=[]:=List.length_eq_zero_iff.mp (by simpa using h)
  subst this;exact .refl _
 |x::l,k,hn,hs,h=>by
  rw[List.nodup_cons]at hn
  have hx:=hs x List.mem_cons_self
  have h0:0<k.length:=List.length_pos_of_mem hx
  have ih:=lL (l:=l) (k:=k.erase x) hn.2 (fun y hy=>(List.mem_erase_of_ne (fun e:y=x=>hn.1 (e▸hy))).mpr (hs y (List.mem_cons_of_mem _ hy))) (by rw[List.length_erase_of_mem hx];simp at h;omega)
  exact(ih.cons x).trans (List.perm_cons_erase hx).symm
theorem V7{ns:List Int}:(Cw ns).length=ns.length↔ns.Nodup:=by
 obtain⟨h1,h2⟩:=Fo ns
 constructor
 ·intro h
  exact(lL h1 (fun x hx=>(h2 x).mp hx) (by omega)).nodup_iff.mp h1
 ·intro h
  exact(lL (l:=ns) (k:=Cw ns) h (fun x hx=>(h2 x).mpr hx) (by
   rw[show Cw ns=firstMet (fun i=>ns.getD i 0) ns.length from (vo ns).symm];exact firstMet_length_le _ _)).length_eq.symm
theorem SetT.ints{prog:Program}{w:World}{h:Heap}{a:Addr}{ns:List Int}(x:SetT (intKind prog w) h a (fun k=>(Cw ns).any (· ==k)) (Cw ns).length):
  ∃es ep t,At h a es ep t∧vG (IK w) t∧es.size<scanBound∧es.size=(Cw ns).length∧∀vs:List Value,vs.Perm (es.toList.map (·.2))→∃ks,IntsAre vs ks∧ks.Perm (Cw ns):=by
 obtain⟨o,es,ep,t,e1,e2,e3,e4,e5,e6,e7,e8,e9⟩:=x
 refine⟨es,ep,t,⟨⟨o,e1,e2,e3⟩,e7⟩,e9,e6,e8,fun vs hp=>?_⟩
 have all:∀v∈vs,∃k tk,v= .int k tk:=fun v hv=>by
  obtain⟨e,he,rfl⟩:=List.mem_map.mp (hp.mem_iff.mp hv)
  obtain⟨⟨k,hk,_⟩,_⟩:=e4 e he
  obtain⟨tk,q⟩:=Value.isInt_shape (k:=k) (v:=e.2) hk
  exact⟨k,tk,q⟩
 refine⟨vs.map numOf,intsAre_map _ all,?_⟩
 refine(lL (Fo ns).1 (fun k hk=>?_) ?_).symm
 ·have:(Cw ns).any (· ==k)=true:=by simpa using hk
  obtain⟨e,he,q⟩:=(e5 k).mp this
  obtain⟨tk,q⟩:=Value.isInt_shape (k:=k) (v:=e.2) q
  refine List.mem_map.mpr ⟨e.2,hp.mem_iff.mpr (List.mem_map.mpr ⟨e,he,rfl⟩),?_⟩
  rw[q];rfl
 ·rw[List.length_map,hp.length_eq,List.length_map,Array.length_toList,e8];exact Nat.le_refl _
end ST
namespace L2
open PySem PySem.Spec PyProof.Rows ST
def Ut(P:Program)(w:World)(a:Addr)(ns:List Int):HO:= .ext fun h=>SetT (PySem.intKind P w) h a (fun k=>(Cw ns).any (· ==k)) (Cw ns).length
section
variable{X:Cx}
theorem Inv.drawn{pins:List (Addr×Obj)}{σ:St}{H:Hp}{s:Shared}(I:Inv X pins σ H s)(d:Drawn):Inv X pins σ H {s with drawn:=d}:=⟨I.ok,I.os,I.bare,I.base,I.loc,I.cell,I.free,I.kZ,I.pin,I.hok,I.len⟩
def abX(P:Program)(w:World)(K:PySem.W.Frag):List V→Hp→VK→Prop:=fun vs H Q=>∃(a:Addr) (ns:List Int),vs=[.ref a]∧bC K H a (ns.map V.int)∧ns.length≤4000∧∀D,H D=none→Q (.ref D) (upd H D (Ut P w D ns))
theorem Ti(hc:X.calm=true):gY X (.type "set") (abX X.prog X.w X.K):=by
 intro pins s σ H vs us Q I r h
 obtain⟨a,ns,rfl,hS,hz,q⟩:=h
 obtain⟨its,rv,hl,_⟩:=I.list hS
 have hi:=rv.ints
 have hlen:=hi.length
 rw[Vals.xK r]
 refine ofList (I.ok.hd hc) hl.isList (by simpa using hi) (by rw[List.size_toArray];unfold scanBound;omega) fun h' tk x kp=>?_
 have esz:its.toArray.size=ns.length:=by rw[List.size_toArray];exact hlen
 rw[esz]at x
 have x:SetT (PySem.intKind X.prog X.w) h' s.heap.objs.size (fun k=>(firstMet (fun i=>ns.getD i 0) ns.length).any (· ==k)) (firstMet (fun i=>ns.getD i 0) ns.length).length:=x
 rw[vo]at x
 refine⟨.ref s.heap.objs.size,upd H s.heap.objs.size (Ut X.prog X.w s.heap.objs.size ns),I.laid (t':=tk) kp (Nat.le_refl _) ⟨x,?_,fun h1 h2 y k=>y.at k⟩,rfl,q _ (I.hok.fresh (Nat.le_refl _))⟩
 obtain⟨o,_,_,_,e,_⟩:=x
 exact⟨o,e⟩
def UL(P:Program)(w:World):List V→Hp→VK→Prop:=fun vs H Q=>∃(a:Addr) (ns:List Int),vs=[.ref a]∧H a=some (Ut P w a ns)∧Q (.int (Cw ns).length) H
theorem Pz:gY X (.builtin "len") (UL X.prog X.w):=by
 intro pins s σ H vs us Q I r h
 obtain⟨a,ns,rfl,hS,q⟩:=h
 rw[Vals.xK r]
 obtain⟨es,ep,t,A1,ht,hb,hn,_⟩:=SetT.ints (I.hok a _ hS).1
 obtain⟨o,e1,e2,e3⟩:=A1.ex
 refine call_len_set e1 e2 e3 A1.fits (by unfold scanBound at hb;omega) ?_
 exact⟨.int (Cw ns).length,H,I.tok _,⟨_,by rw[hn]⟩,q⟩
def JX(P:Program)(w:World):List V→Hp→VK→Prop:=fun vs H Q=>∃(a:Addr) (ns:List Int),vs=[.ref a]∧H a=some (Ut P w a ns)∧
 ∀(ns':List Int) (D:Addr),ns'.Pairwise (· < ·)→(∀k,k∈ns'↔k∈ns)→H D=none→Q (.ref D) (upd H D (.lst (ns'.map V.int)))
theorem FJ(hc:X.calm=true):gY X (.builtin "sorted") (JX X.prog X.w):=by
 intro pins s σ H vs us Q I r h
 obtain⟨a,ns,rfl,hS,q⟩:=h
 rw[Vals.xK r]
 obtain⟨es,ep,t,A1,ht,hb,hn,hk⟩:=SetT.ints (I.hok a _ hS).1
 refine JK (I.ok.hd hc) A1 ht (by unfold scanBound at hb;omega) hk fun D out ks h' d tk ec h1 h2 h3 g sz kp=>?_
 have hlen:(ks.map V.int).length≤sizeLine:=by rw[List.length_map,h2.length_eq,sizeLine_eq,←hn];unfold scanBound at hb;omega
 have J:=(I.laid (t':=tk) (a:=D) (o:= .lst (ks.map V.int)) kp sz ⟨hlen,out,ec,gZ h1,g⟩).drawn d
 have nd:ks.Nodup:=h2.nodup_iff.mpr (Fo ns).1
 refine⟨.ref D,_,J,rfl,q ks D ((List.Pairwise.and h3 nd).imp fun {x y} z=>?_) (fun k=>(h2.mem_iff).trans ((Fo ns).2 k)) (I.hok.fresh sz)⟩
 have:=z.1;have:=z.2;omega
end
end L2
namespace L2
open PySem PySem.Spec PyProof.Rows
theorem Go.put{L:List aG}{H1 H:Hp}{D:Addr}{xs ys:List V}(g:Go L H1 H)(n:H1 D=none)(h:H D=some (.lst xs)):Go L H1 (upd H D (.lst ys)):=by
 refine⟨fun b o e nt=>?_,fun x=>⟨fun t ht=>?_⟩,fun b e=>?_⟩
 ·rw[aF (aP e n)];exact g.kp b o e nt
 ·obtain⟨ps,e1,e2,e3⟩:=((g.st x).ok t ht).ok
  refine⟨ps,?_,e2,e3.imp (fun z=>z) fun⟨c,q1,q2⟩=>⟨c,q1,?_⟩⟩
  ·rw[aF (f9 e1 h (by intro z;cases z))];exact e1
  ·rw[aF (f9 q2 h (by intro z;cases z))];exact q2
 ·by_cases hb:b=D
  ·rw[hb];exact n
  ·rw[aF hb]at e;exact g.fr b e
def Tk(H H':Hp):Prop:=∀b xs,H b=some (.tup xs)→H' b=some (.tup xs)
theorem Go.tk{L:List aG}{H H':Hp}(g:Go L H H'):Tk H H':=fun b xs e=>g.tup e
theorem Tk.put{H:Hp}{D:Addr}{xs ys:List V}(h:H D=some (.lst xs)):Tk H (upd H D (.lst ys)):=fun b zs e=>by rw[aF (f9 e h (by intro z;cases z))];exact e
theorem Tk.trans{H H1 H2:Hp}(a:Tk H H1)(b:Tk H1 H2):Tk H H2:=fun c xs e=>b c xs (a c xs e)
def LcB(J:It)(g:TG)(tt:TT)(te:TE)(vs:List Nat)(σ:St)(Q:VK)(H1:Hp)(D:Addr):Prop:=∃W:Nat→Nat→Hp→Prop,(∃m,W 0 m (upd H1 D (.lst [])))∧∀i m H,W i m H→
   (J.stop i H∧Q (.ref D) H)∨(J.go i H∧∃Nx:Hp→Prop,(∀H',Nx H'→∃m',m'<m∧W (i+1) m' H')∧∀x H',J.W8 i H x H'→g x (wipe σ vs) H' fun σ2 H2=>wipe σ2 vs=wipe σ vs∧tt σ2 H2 fun b H3=>
    if b=true then te σ2 H3 fun y H4=>∃acc,H4 D=some (.lst acc)∧acc.length<sizeLine∧Nx (upd H4 D (.lst (acc++[y])))else Nx H3)
theorem bO{wi:TI}{g:TG}{tt:TT}{te:TE}{vs:List Nat}{σ:St}{H:Hp}{Q:VK}(h:wi σ H fun J H1=>∀D,H1 D=none→LcB J g tt te vs σ Q H1 D):ZC wi g tt te vs σ H Q:=h
def aa4(J:It)(g:TG)(tb:TS)(D:Ends)(σ:St)(H:Hp):Prop:=∃W:Nat→Nat→St→Hp→Prop,(∃m,W 0 m σ H)∧∀i m σ H,W i m σ H→
   (J.stop i H∧D.nx σ H)∨(J.go i H∧∃N:St→Hp→Prop,(∀σ' H',N σ' H'→∃m',m'<m∧W (i+1) m' σ' H')∧∀x H',J.W8 i H x H'→g x σ H' fun σ2 H2=>tb {D with nx:=N,ct:=N,bk:=D.nx} σ2 H2)
theorem cM{wi:TI}{g:TG}{tb:TS}{D:Ends}{σ:St}{H:Hp}(h:wi σ H fun J H1=>aa4 J g tb D σ H1):ZD wi g tb D σ H:=h
structure Walks{α:Type}(J:It)(C:Hp→Prop)(xs:List α)(E:α→V→Hp→Prop):Prop where
 go:∀(i:Nat) (x:α) (H:Hp),xs[i]? =some x→C H→J.go i H∧∀v H',J.W8 i H v H'→H'=H∧E x v H
 stop:∀H,C H→J.stop xs.length H
theorem bx{α:Type}{K:PySem.W.Frag}{a:Addr}{xs:List α}{f:α→V}:Walks (Itl K a) (fun H=>bC K H a (xs.map f)) xs (fun x v _=>v=f x):=by
 refine⟨fun i x H hi h=>?_,fun H h=>⟨_,h,by simp⟩⟩
 have e:(xs.map f)[i]? =some (f x):=by rw[List.getElem?_map,hi];rfl
 refine⟨⟨_,_,h,e⟩,fun v H' y=>?_⟩
 obtain⟨y1,y2⟩:=y
 exact⟨y1,Option.some.inj ((y2 _ h).symm.trans e)⟩
theorem yl{lo:Int}{n:Nat}:Walks (Zt lo n) (fun _=>True) (List.range n) (fun i v _=>v= .int (lo+i)):=by
 refine⟨fun i x H hi _=>?_,fun H _=>(by show n≤(List.range n).length;simp)⟩
 obtain⟨h1,h2⟩:=List.getElem?_eq_some_iff.mp hi
 rw[List.getElem_range]at h2
 subst h2
 rw[List.length_range]at h1
 exact⟨h1,fun v H' y=>⟨y.1,y.2⟩⟩
structure qL(H:Hp)(a:Addr)(ts:List (List V)):Prop where
 ex:∃as:List Addr,H a=some (.lst (as.map V.ref))∧as.length=ts.length∧∀(i:Nat) (p:Addr) (t:List V),as[i]? =some p→ts[i]? =some t→H p=some (.tup t)
theorem qL.tk{H H':Hp}{a:Addr}{ts:List (List V)}(h:qL H a ts)(k:Tk H H')(ka:∀xs,H a=some (.lst xs)→H' a=some (.lst xs)):qL H' a ts:=by
 obtain⟨as,h1,h2,h3⟩:=h.ex
 exact⟨as,ka _ h1,h2,fun i p t e1 e2=>k _ _ (h3 i p t e1 e2)⟩
theorem qL.go{L:List aG}{H H':Hp}{a:Addr}{ts:List (List V)}(h:qL H a ts)(g:Go L H H'):qL H' a ts:=h.tk g.tk fun _ e=>g.lst e
theorem fB{α:Type}{K:PySem.W.Frag}{a:Addr}{xs:List α}{f:α→List V}:Walks (Itl K a) (fun H=>qL H a (xs.map f)) xs (fun x v H=>∃p,v= .ref p∧H p=some (.tup (f x))):=by
 refine⟨fun i x H hi h=>?_,fun H h=>?_⟩
 ·obtain⟨as,h1,h2,h3⟩:=h.ex
  have hl:i<xs.length:=(List.getElem?_eq_some_iff.mp hi).1
  have hl2:i<as.length:=by rw[h2,List.length_map];exact hl
  have e:(as.map V.ref)[i]? =some (V.ref as[i]):=by rw[List.getElem?_map,List.getElem?_eq_getElem hl2];rfl
  refine⟨⟨_,_,bC.of h1,e⟩,fun v H' y=>?_⟩
  obtain⟨y1,y2⟩:=y
  refine⟨y1,as[i],Option.some.inj ((y2 _ (bC.of h1)).symm.trans e),h3 i _ _ (List.getElem?_eq_getElem hl2) (by rw[List.getElem?_map,hi];rfl)⟩
 ·obtain⟨as,h1,h2,h3⟩:=h.ex
  exact⟨_,bC.of h1,by rw[List.length_map,h2,List.length_map];exact Nat.le_refl _⟩
theorem Gq{α:Type}{K:PySem.W.Frag}{a:Addr}{xs:List α}{f:α→List V}:Walks (Itv K a xs.length) (fun H=>qL H a (xs.map f)) xs.reverse (fun x v H=>∃p,v= .ref p∧H p=some (.tup (f x))):=by
 refine⟨fun i x H hi h=>?_,fun H h=>?_⟩
 ·obtain⟨as,h1,h2,h3⟩:=h.ex
  rw[List.length_map]at h2
  have hl:i<xs.length:=by have:=(List.getElem?_eq_some_iff.mp hi).1;simpa using this
  rw[List.getElem?_reverse hl]at hi
  have hl2:xs.length - 1 - i<as.length:=by rw[h2];omega
  have e:(as.map V.ref)[xs.length - 1 - i]? =some (V.ref as[xs.length - 1 - i]):=by rw[List.getElem?_map,List.getElem?_eq_getElem hl2];rfl
  refine⟨⟨hl,_,_,bC.of h1,e⟩,fun v H' y=>?_⟩
  obtain⟨y1,y2⟩:=y
  refine⟨y1,as[xs.length - 1 - i],Option.some.inj ((y2 _ (bC.of h1)).symm.trans e),h3 _ _ _ (List.getElem?_eq_getElem hl2) (by rw[List.getElem?_map,hi];rfl)⟩
 ·show xs.length≤xs.reverse.length
  simp
theorem bZ{α:Type}{J:It}{C:Hp→Prop}{xs:List α}{E:α→V→Hp→Prop}{g:TG}{tb:TS}{D:Ends}{σ:St}{H:Hp}(W:Walks J C xs E)(Pv:Nat→St→Hp→Prop)(h0:Pv 0 σ H)(hl:∀i σ H,Pv i σ H→C H)
  (hs:∀i x v σ H,xs[i]? =some x→E x v H→Pv i σ H→g v σ H fun σ2 H2=>tb {D with nx:=Pv (i+1),ct:=Pv (i+1),bk:=D.nx} σ2 H2) (hd:∀σ H,Pv xs.length σ H→D.nx σ H):
  aa4 J g tb D σ H:=by
 refine⟨fun i m σ H=>m=xs.length - i∧i≤xs.length∧Pv i σ H,⟨xs.length,by simp,Nat.zero_le _,h0⟩,?_⟩
 rintro i m σ H ⟨rfl,hi,p⟩
 have q:=hl i σ H p
 by_cases hlt:i<xs.length
 ·obtain⟨g1,g2⟩:=W.go i xs[i] H (List.getElem?_eq_getElem hlt) q
  refine .inr ⟨g1,Pv (i+1),fun σ' H' p'=>⟨xs.length - (i+1),by omega,rfl,hlt,p'⟩,fun x H' y=>?_⟩
  obtain⟨e,y⟩:=g2 x H' y
  subst e
  exact hs i _ x σ _ (List.getElem?_eq_getElem hlt) y p
 ·have e:i=xs.length:=by omega
  subst e
  exact .inl ⟨W.stop H q,hd σ H p⟩
theorem take_snoc{α:Type}{l:List α}{i:Nat}{x:α}(h:l[i]? =some x):l.take (i+1)=l.take i++[x]:=by
 rw[List.take_add_one,h];rfl
theorem rC{α β:Type}{F:α→β→Prop}:∀ {a:List α} {b:List β} {c:List α} {d:List β},Paired F a b→Paired F c d→Paired F (a++c) (b++d)
 |_,_,_,_,.nil,h=>h
 |_,_,_,_,.cons r t,h=> .cons r (rC t h)
theorem WM{α:Type}{L:List aG}{J:It}{C:Hp→Prop}{xs:List α}{E:α→V→Hp→Prop}{g:TG}{tt:TT}{te:TE}{vs:List Nat}{σ:St}{H1:Hp}{D:Addr}{Q:VK}(p:α→Bool)(R:α→V→Hp→Prop)
  (hD:H1 D=none) (W:Walks J C xs E) (hC:∀H',Go L H1 H'→C H') (hz:xs.length≤sizeLine) (Rm:∀x v H H',R x v H→Tk H H'→R x v H')
  (hs:∀x v H',x∈xs→Go L H1 H'→E x v H'→∀(Qn:Hp→Prop) (Qy:VK),(p x=false→∀H2,Go L H' H2→Qn H2)→(p x=true→∀y H2,Go L H' H2→R x y H2→Qy y H2)→
   g v (wipe σ vs) H' fun σ2 H2=>wipe σ2 vs=wipe σ vs∧tt σ2 H2 fun b H3=>if b=true then te σ2 H3 Qy else Qn H3)
  (hd:∀H' ys,Go L H1 H'→H' D=some (.lst ys)→Paired (fun x y=>R x y H') (xs.filter p) ys→Q (.ref D) H'):
  LcB J g tt te vs σ Q H1 D:=by
 let Pv:Nat→Hp→Prop:=fun i H=>Go L H1 H∧∃ys,H D=some (.lst ys)∧ys.length≤i∧Paired (fun x y=>R x y H) ((xs.take i).filter p) ys
 refine⟨fun i m H=>m=xs.length - i∧i≤xs.length∧Pv i H,⟨xs.length,by simp,Nat.zero_le _,Go.laid hD,[],ao,Nat.le_refl _,.nil⟩,?_⟩
 rintro i m H ⟨rfl,hi,gH,ys,hy,hyl,hp⟩
 have q:=hC H gH
 by_cases hlt:i<xs.length
 ·have hx:xs[i]? =some xs[i]:=List.getElem?_eq_getElem hlt
  obtain⟨g1,g2⟩:=W.go i xs[i] H hx q
  refine .inr ⟨g1,Pv (i+1),fun H' p'=>⟨xs.length - (i+1),by omega,rfl,hlt,p'⟩,fun v H' y=>?_⟩
  obtain⟨rfl,y⟩:=g2 v H' y
  refine hs xs[i] v H' (List.getElem_mem _) gH y _ _ (fun e H2 g=>?_) (fun e z H2 g r=>?_)
  ·refine⟨gH.trans g,ys,g.lst hy,by omega,?_⟩
   rw[take_snoc hx,List.filter_append,List.filter_cons,if_neg (by rw[e];decide),List.filter_nil,List.append_nil]
   exact Paired.Vl hp fun a b r=>Rm _ _ _ _ r g.tk
  ·refine⟨ys,g.lst hy,by omega,(gH.trans g).put hD (g.lst hy),ys++[z],ao,by simp;omega,?_⟩
   rw[take_snoc hx,List.filter_append,List.filter_cons,if_pos e,List.filter_nil]
   have k:=Tk.put (ys:=ys++[z]) (g.lst hy)
   exact rC (Paired.Vl hp fun a b r=>Rm _ _ _ _ r (g.tk.trans k)) (.cons (Rm _ _ _ _ r k) .nil)
 ·have e:i=xs.length:=by omega
  subst e
  rw[List.take_length]at hp
  exact .inl ⟨W.stop H q,hd H ys gH hy hp⟩
theorem yO{α:Type}{f:α→V}:∀ {xs:List α} {ys:List V},Paired (fun x y=>y=f x) xs ys→ys=xs.map f
 |_,_,.nil=>rfl
 |_,_,.cons r t=>by rw[r,yO t];rfl
theorem bU{α:Type}{L:List aG}{J:It}{C:Hp→Prop}{xs:List α}{E:α→V→Hp→Prop}{g:TG}{tt:TT}{te:TE}{vs:List Nat}{σ:St}{H1:Hp}{D:Addr}{Q:VK}(p:α→Bool)(f:α→V)
  (hD:H1 D=none) (W:Walks J C xs E) (hC:∀H',Go L H1 H'→C H') (hz:xs.length≤sizeLine)
  (hs:∀x v H',x∈xs→Go L H1 H'→E x v H'→∀(Qn:Hp→Prop) (Qy:VK),(p x=false→∀H2,Go L H' H2→Qn H2)→(p x=true→∀H2,Go L H' H2→Qy (f x) H2)→
   g v (wipe σ vs) H' fun σ2 H2=>wipe σ2 vs=wipe σ vs∧tt σ2 H2 fun b H3=>if b=true then te σ2 H3 Qy else Qn H3)
  (hd:∀H',Go L H1 H'→H' D=some (.lst ((xs.filter p).map f))→Q (.ref D) H'):
  LcB J g tt te vs σ Q H1 D:=
 WM p (fun x y _=>y=f x) hD W hC hz (fun _ _ _ _ r _=>r) (fun x v H' hx g1 e Qn Qy h1 h2=>hs x v H' hx g1 e Qn Qy h1 fun e2 H2 g2=>h2 e2 _ H2 g2 rfl)
  fun H' ys g1 hy hp=>hd H' g1 (by rw[←yO hp];exact hy)
theorem Ep{α:Type}{L:List aG}{J:It}{C:Hp→Prop}{xs:List α}{E:α→V→Hp→Prop}{g:TG}{tt:TT}{te:TE}{vs:List Nat}{σ:St}{H1:Hp}{D:Addr}{Q:VK}(p:α→Bool)(f:α→List V)
  (hD:H1 D=none) (W:Walks J C xs E) (hC:∀H',Go L H1 H'→C H') (hz:xs.length≤sizeLine)
  (hs:∀x v H',x∈xs→Go L H1 H'→E x v H'→∀(Qn:Hp→Prop) (Qy:VK),(p x=false→∀H2,Go L H' H2→Qn H2)→(p x=true→∀q H2,Go L H' H2→H2 q=some (.tup (f x))→Qy (.ref q) H2)→
   g v (wipe σ vs) H' fun σ2 H2=>wipe σ2 vs=wipe σ vs∧tt σ2 H2 fun b H3=>if b=true then te σ2 H3 Qy else Qn H3)
  (hd:∀H',Go L H1 H'→qL H' D ((xs.filter p).map f)→Q (.ref D) H'):
  LcB J g tt te vs σ Q H1 D:=by
 refine WM p (fun x y H=>∃q,y= .ref q∧H q=some (.tup (f x))) hD W hC hz (fun _ _ _ _ ⟨q,r1,r2⟩ k=>⟨q,r1,k _ _ r2⟩) (fun x v H' hx g1 e Qn Qy h1 h2=>hs x v H' hx g1 e Qn Qy h1 fun e2 q H2 g2 h3=>h2 e2 _ H2 g2 ⟨q,rfl,h3⟩)
  fun H' ys g1 hy hp=>hd H' g1 ?_
 have:∀ {xs:List α} {ys:List V},Paired (fun x y=>∃q,y=V.ref q∧H' q=some (.tup (f x))) xs ys→∃as:List Addr,ys=as.map V.ref∧as.length=(xs.map f).length∧∀(i:Nat) (p:Addr) (t:List V),as[i]? =some p→(xs.map f)[i]? =some t→H' p=some (.tup t):=by
  intro xs ys h
  induction h with
  |nil=>exact⟨[],rfl,rfl,fun i p t e=>by simp at e⟩
  |cons r t ih=>
   obtain⟨as,h1,h2,h3⟩:=ih
   obtain⟨q,rfl,r2⟩:=r
   refine⟨q::as,by rw[h1];rfl,by simp [h2],fun i p t e1 e2=>?_⟩
   cases i with
   |zero=>simp at e1 e2;subst e1 e2;exact r2
   |succ i=>exact h3 i p t (by simpa using e1) (by simpa using e2)
 obtain⟨as,h1,h2,h3⟩:=this hp
 exact⟨as,by rw[←h1];exact hy,h2,h3⟩
end L2
namespace PM
open PySem PySem.Spec PyProof.Rows L2 Vbedaf
def top(i:Nat):Stmt:=PySem.Challenge.pw_postroads_s01_answers.main.body.getD i (.Pass ⟨0,0,0,0⟩)
structure Bs where
 P:Program
 w:World
 K:PySem.W.Frag
 mg:Str→Option Value
 base:Heap
def bJ(B:Bs)(name:Str)(st:Stmt)(ps:List Str):Prop:=∃f fd,Za B.K name name st f fd∧B.mg name=some (.ref f)∧Binds B.K fd ps []
def lV(B:Bs)(C:Addr)(name qual:Str)(st:Stmt)(ps:List Str):Prop:=∃f fd,Za B.K name qual st f fd∧Meth B.K C name f∧Binds B.K fd ps []
def Df(B:Bs)(k:Nat)(name:Str)(ps:List Str)(sp:Sp):Prop:=∃f fd,tX B.P B.w B.K B.mg B.base TQ k f fd ps sp∧B.mg name=some (.ref f)∧PySem.W.keepIn B.K (.ref f)=true∧Binds B.K fd ps []
def Mt(B:Bs)(C:Addr)(k:Nat)(name:Str)(ps:List Str)(sp:Sp):Prop:=∃f fd,tX B.P B.w B.K B.mg B.base TQ k f fd ps sp∧Meth B.K C name f∧Binds B.K fd ps []
abbrev W4(B:Bs)(N:List Str)(qual:Str)(st:Stmt)(f:Addr)(cdv:Value)(A:Around)(outer:List Env)(s:Shared)(H:Hp)(E:XK):Cx:=(KQ TQ B.P B.w B.K B.mg B.base N qual (au st) f cdv A outer s H E).X_
theorem bJ.df{B:Bs}{x:Str}{st:Stmt}{N ps:List Str}{k:Nat}{sp:Sp}(F:bJ B x st ps)(S:aJ N ps (au st))(len:∀vs H Q E,sp vs H Q E→vs.length=ps.length)
  (hbody:∀(f:Addr) (cdv:Value) (A:Around) (outer:List Env) (s:Shared) (H:Hp) (vs:List V) (Q:VK) (E:XK),eQ k (A.deeper (envOfC x (au st) s.heap.objs.size f cdv))→sp vs H Q E→
   ∃t,Jc (W4 B N x st f cdv A outer s H E) (eE st) t∧t {nx:=fun _ H'=>Q .non H',rt:=Q} (start N vs) H):Df B (k+1) x ps sp:=by
 obtain⟨f,fd,F,h1,h2⟩:=F
 exact⟨f,fd,F.ok S len (hbody f),h1,F.kp,h2⟩
theorem lV.mt{B:Bs}{C:Addr}{x qual:Str}{st:Stmt}{N ps:List Str}{k:Nat}{sp:Sp}(F:lV B C x qual st ps)(S:aJ N ps (au st))(len:∀vs H Q E,sp vs H Q E→vs.length=ps.length)
  (hbody:∀(f:Addr) (cdv:Value) (A:Around) (outer:List Env) (s:Shared) (H:Hp) (vs:List V) (Q:VK) (E:XK),eQ k (A.deeper (envOfC qual (au st) s.heap.objs.size f cdv))→sp vs H Q E→
   ∃t,Jc (W4 B N qual st f cdv A outer s H E) (eE st) t∧t {nx:=fun _ H'=>Q .non H',rt:=Q} (start N vs) H):Mt B C (k+1) x ps sp:=by
 obtain⟨f,fd,F,h1,h2⟩:=F
 exact⟨f,fd,F.ok S len (hbody f),h1,h2⟩
structure aa3(K:PySem.W.Frag)(x qual:Str)(st:Stmt)(f:Addr)(fd:FuncData)(cdv:Value):Prop where
 ex:∃(oc:Value) (od:Option Addr) (kV doc pm:Value) (an:Option Addr) (ct:Value) (osl:Array (Option Value)),
  fd=PySem.W.fnOf x qual (jd st) (eE st) (au st) .none kV doc pm an cdv ct∧K.lookup f=some ⟨oc,od,.func fd,osl⟩∧PySem.W.codeIn K cdv qual=true
 kp:PySem.W.keepIn K (.ref f)=true
def z7(B:Bs)(name:Str)(st:Stmt)(ps:List Str)(cdv:Value):Prop:=∃f fd,aa3 B.K name name st f fd cdv∧B.mg name=some (.ref f)∧Binds B.K fd ps []
def Gg(B:Bs)(C:Addr)(name qual:Str)(st:Stmt)(ps:List Str)(cdv:Value):Prop:=∃f fd,aa3 B.K name qual st f fd cdv∧Meth B.K C name f∧Binds B.K fd ps []
theorem z7.df{B:Bs}{x:Str}{st:Stmt}{N ps:List Str}{k:Nat}{sp:Sp}{cdv:Value}(F:z7 B x st ps cdv)(S:aJ N ps (au st))(len:∀vs H Q E,sp vs H Q E→vs.length=ps.length)
  (hbody:∀(f:Addr) (A:Around) (outer:List Env) (s:Shared) (H:Hp) (vs:List V) (Q:VK) (E:XK),eQ k (A.deeper (envOfC x (au st) s.heap.objs.size f cdv))→sp vs H Q E→
   ∃t,Jc (W4 B N x st f cdv A outer s H E) (eE st) t∧t {nx:=fun _ H'=>Q .non H',rt:=Q} (start N vs) H):Df B (k+1) x ps sp:=by
 obtain⟨f,fd,F,h1,h2⟩:=F
 obtain⟨oc,od,kV,doc,pm,an,ct,osl,rfl,lk,hcd⟩:=F.ex
 refine⟨f,_,SM lk hcd S len fun A outer s H vs Q E hr hsp=>?_,h1,F.kp,h2⟩
 obtain⟨t,h,q⟩:=hbody f A outer s H vs Q E hr hsp
 exact⟨t,h.X_,q⟩
theorem Gg.mt{B:Bs}{C:Addr}{x qual:Str}{st:Stmt}{N ps:List Str}{k:Nat}{sp:Sp}{cdv:Value}(F:Gg B C x qual st ps cdv)(S:aJ N ps (au st))(len:∀vs H Q E,sp vs H Q E→vs.length=ps.length)
  (hbody:∀(f:Addr) (A:Around) (outer:List Env) (s:Shared) (H:Hp) (vs:List V) (Q:VK) (E:XK),eQ k (A.deeper (envOfC qual (au st) s.heap.objs.size f cdv))→sp vs H Q E→
   ∃t,Jc (W4 B N qual st f cdv A outer s H E) (eE st) t∧t {nx:=fun _ H'=>Q .non H',rt:=Q} (start N vs) H):Mt B C (k+1) x ps sp:=by
 obtain⟨f,fd,F,h1,h2⟩:=F
 obtain⟨oc,od,kV,doc,pm,an,ct,osl,rfl,lk,hcd⟩:=F.ex
 refine⟨f,_,SM lk hcd S len fun A outer s H vs Q E hr hsp=>?_,h1,h2⟩
 obtain⟨t,h,q⟩:=hbody f A outer s H vs Q E hr hsp
 exact⟨t,h.X_,q⟩
structure Jd(B:Bs)(L:List aG)(t:aG)(c:Addr):Prop where
 mem:t∈L
 ap:∀t2∈L,t2=t∨t2.P≠t.P
 hd:PySem.W.CodeHd B.base c t.P
 bm:Bm B.base B.mg
structure In(B:Bs)(X:Cx):Prop where
 P:X.prog=B.P
 w:X.w=B.w
 K:X.K=B.K
 mg:X.mg=B.mg
 base:X.base=B.base
section
variable{X:Cx}{B:Bs}{C:Addr}{k:Nat}{x m:Str}{ps:List Str}{sp:Sp}{p pos apos:Pos}{e o:Expr}{es:List Expr}{ta:TE}{t:TA}
theorem aZ(D:Df B k x ps sp)(i:In B X)(hr:eQ k X.A)(ha:PA X (e::es) t)(hg:Gl X x:=by rfl)(hdb:(x==("__debug__":Str))=false:=by decide)(he:starEach (e::es) X.env=(false,eval e X.env)::starEach es X.env:=by rfl)(hpl:(backTo pos (starEach es X.env)).any (·.1)=false:=by rfl):
  PE X (.Call (.Name x p) (e::es) [] pos) (Lx sp [] E0 t):=by
 obtain⟨f,fd,F,h1,h2,h3⟩:=D
 have hK:=i.K
 have hm:=i.mg
 rw[←i.P,←i.w,←hK,←hm,←i.base]at F
 rw[←hm]at h1
 rw[←hK]at h2 h3
 exact U8 F hr hg h1 h2 h3 .nil Mm ha hdb he hpl
theorem gQ{pl:Sem Bool}(he:PE X o ta)(i:In B X)(c:Nq B.K C)(D:Mt B C k m ps sp)(hr:eQ k X.A)(ha:PA X (e::es) t)
  (hst:starEach (e::es) X.env=(false,eval e X.env)::starEach es X.env:=by rfl) (hpl:(backTo pos (starEach es X.env)).any (·.1)=false:=by rfl)
  (ht:eval (.Call (.Attribute o m apos) (e::es) [] pos) X.env=(do
   let ov ←eval o X.env
   standAt apos.atName
   let(f,first) ←holding [ov] (getMethod ov m pl)
   callWith pos f first (backTo pos (starEach (e::es) X.env)) (backToKw pos (keywordEach [] X.env))):=by rfl):
  PE X (.Call (.Attribute o m apos) (e::es) [] pos) (GD C m sp [] E0 ta t):=by
 obtain⟨f,fd,F,h1,h3⟩:=D
 have hK:=i.K
 have hm:=i.mg
 rw[←i.P,←i.w,←hK,←hm,←i.base]at F
 rw[←hK]at h1 h3 c
 exact U6 he c h1 F hr h3 .nil Mm ha hst hpl ht
theorem iz{pl:Sem Bool}(he:PE X o ta)(i:In B X)(c:Nq B.K C)(D:Mt B C k m ps sp)(hr:eQ k X.A)
  (ht:eval (.Call (.Attribute o m apos) [] [] pos) X.env=(do
   let ov ←eval o X.env
   standAt apos.atName
   let(f,first) ←holding [ov] (getMethod ov m pl)
   callWith pos f first (backTo pos (starEach [] X.env)) (backToKw pos (keywordEach [] X.env))):=by rfl):
  PE X (.Call (.Attribute o m apos) [] [] pos) (GD C m sp [] E0 ta Jt):=by
 obtain⟨f,fd,F,h1,h3⟩:=D
 have hK:=i.K
 have hm:=i.mg
 rw[←i.P,←i.w,←hK,←hm,←i.base]at F
 rw[←hK]at h1 h3 c
 exact Rt he c h1 F hr h3 .nil Mm ht
end
section
variable{X:Cx}{B:Bs}
theorem aV{e:Expr}{f:Str}{pos:Pos}{ta:TE}(i:In B X)(he:PE X e ta)(hb:attributeBase e f X.env (eval e X.env)=eval e X.env):PE X (.Attribute e f pos) (Ah B.K ta f):=i.K▸XQ he hb
theorem aD(i:In B X):IxR X (Rh B.K):=i.K▸Vq
theorem MJ(i:In B X):IxR X (ZV B.K):=i.K▸Yk
theorem kI(i:In B X):vH X (compareOp .In) (rIn B.K false):=i.K▸Om
theorem bA(i:In B X):gY X (.builtin "len") (fun xs H Q=>∃p ys,xs=[.ref p]∧(bC B.K H p ys∨mF B.K H p ys)∧Q (.int ys.length) H):=i.K▸FT
theorem ql(i:In B X)(hc:X.calm=true):gY X (.builtin "any") (ZW B.K):=i.K▸YS hc
theorem Nj(i:In B X)(hc:X.calm=true):gY X (.builtin "all") (ZX B.K):=i.K▸YT hc
theorem lR(i:In B X)(hc:X.calm=true):gY X (.builtin "sum") (ZP B.K):=i.K▸YM hc
theorem V_(i:In B X)(hc:X.calm=true):gY X (.builtin "min") (ZS B.K):=i.K▸YQ hc
theorem zO(i:In B X):gY X (.builtin "sorted") (Mf B.K):=i.K▸Py
theorem Bp(i:In B X):gY X (.type "list") (fun xs H Q=>∃p ys,xs=[.ref p]∧(bC B.K H p ys∨mF B.K H p ys)∧∀l,H l=none→Q (.ref l) (upd H l (.lst ys))):=i.K▸FQ
theorem aW{tg l:Expr}{tl:TE}(i:In B X)(hl:PE X l tl):PI X tg l (M8 B.K tl):=i.K▸U3 hl
theorem U0{tg l:Expr}{tl:TE}(i:In B X)(hl:PE X l tl):PI X tg l (Vx B.K tl):=i.K▸XF hl
theorem uE{tg e:Expr}{ta:TA}{p pos:Pos}(i:In B X)(hg:Gl X "reversed")(hm:X.mg "reversed"=none)(ha:PA X [e] ta)(hs:starEach [e] X.env=[(false,eval e X.env)]:=by rfl):PI X tg (.Call (.Name "reversed" p) [e] [] pos) (Vy B.K ta):=i.K▸Hj hg hm ha hs
theorem gF{es:List Expr}{k:Nat}{t:W2}{n:Nat}{pos:Pos}(i:In B X)(hc:X.calm=true)(h:PGs X es t)(hn:(assignEach es X.env).length=n:=by rfl)(hst:(assignEach es X.env).findIdx? (·.1)=none:=by rfl):PG X (.Tuple es k pos) (VL B.K n t):=i.K▸XJ hc h hn hst
theorem QZ(i:In B X):SlR X (ZQ B.K):=i.K▸Uq
end
def oV:Option Int→V
 |none=> .non
 |some x=> .int x
def Hc(e:Road):List V:=[.int e.a,.int e.b,.int e.len]
structure Ad where
 p:Addr
 dx:Addr
 an:Addr
 ac:Addr
 ab:Addr
 ar:Addr
 ad:Addr
 rs:List Addr
def fields(sz r:Int)(lr:Bool)(m:Ad):List (Str×V):=[("size",.int sz),("reach",.int r),("needs",.ref m.an),("costs",.ref m.ac),("barred",.ref m.ab),("roads",.ref m.ar),("leads_round",.bl lr),("distances",.ref m.ad)]
def round(s:State):Bool:= !forest s (distances s)
structure pQ(H:Hp)(ad:Addr)(rs:List Addr)(n:Nat)(row:Nat→Vbedaf.Row):Prop where
 dist:H ad=some (.lst (rs.map V.ref))
 len:rs.length=n
 rows:∀(i:Nat) (q:Addr),rs[i]? =some q→H q=some (.lst ((row i).map oV))
structure aR(L:List aG)(C:Addr)(H:Hp)(m:Ad)(s:State):Prop where
 ins:H m.p=some (.ins C m.dx (fields (size s) s.reach (round s) m))
 needs:H m.an=some (.lst (s.places.map fun p=> .int p.need))
 costs:H m.ac=some (.lst (s.places.map fun p=> .int p.cost))
 barred:H m.ab=some (.lst (s.places.map fun p=> .int (bit p.barred)))
 roads:qL H m.ar (s.roads.map Hc)
 table:pQ H m.ad m.rs (size s) (PR.row s)
 nd:[m.an,m.ac,m.ab,m.ar,m.ad].Nodup
 Ze:∀q∈m.rs,q∉[m.an,m.ac,m.ab,m.ar,m.ad]
 wf:PR.Wf s
 st:iQ L H
theorem pQ.kept{H H':Hp}{ad:Addr}{rs:List Addr}{n:Nat}{row:Nat→Vbedaf.Row}(h:pQ H ad rs n row)(k:∀a xs,(a=ad∨a∈rs)→H a=some (.lst xs)→H' a=some (.lst xs)):pQ H' ad rs n row:=
 ⟨k _ _ (.inl rfl) h.dist,h.len,fun i q e=>k _ _ (.inr (List.mem_of_getElem? e)) (h.rows i q e)⟩
theorem aR.go{L:List aG}{C:Addr}{H H':Hp}{m:Ad}{s:State}(M:aR L C H m s)(g:Go L H H'):aR L C H' m s:=
 ⟨g.ins M.ins,g.lst M.needs,g.lst M.costs,g.lst M.barred,M.roads.go g,M.table.kept fun _ _ _ e=>g.lst e,M.nd,M.Ze,M.wf,g.st M.st⟩
theorem gR{α:Type}{f:Str}{v:α}{r:List (Str×α)}:((f,v)::r).lookup f=some v:=by simp [List.lookup]
theorem aU{α:Type}{f g:Str}{v:α}{r:List (Str×α)}(h:¬f=g):((g,v)::r).lookup f=r.lookup f:=by
 have:(f==g)=false:=by simpa using h
 simp [List.lookup,this]
section
variable{sz r:Int}{lr:Bool}{m:Ad}
theorem Vm:(fields sz r lr m).lookup ("size":Str)=some (.int sz):=gR
theorem R5:(fields sz r lr m).lookup ("reach":Str)=some (.int r):=(aU (by decide+kernel)).trans gR
theorem R6:(fields sz r lr m).lookup ("needs":Str)=some (.ref m.an):=(aU (by decide+kernel)).trans<|(aU (by decide+kernel)).trans gR
theorem R7:(fields sz r lr m).lookup ("costs":Str)=some (.ref m.ac):=(aU (by decide+kernel)).trans<|(aU (by decide+kernel)).trans<|(aU (by decide+kernel)).trans gR
theorem O1:(fields sz r lr m).lookup ("barred":Str)=some (.ref m.ab):=(aU (by decide+kernel)).trans<|(aU (by decide+kernel)).trans<|(aU (by decide+kernel)).trans<|(aU (by decide+kernel)).trans gR
theorem HH:(fields sz r lr m).lookup ("roads":Str)=some (.ref m.ar):=(aU (by decide+kernel)).trans<|(aU (by decide+kernel)).trans<|(aU (by decide+kernel)).trans<|(aU (by decide+kernel)).trans<|(aU (by decide+kernel)).trans gR
theorem R0:(fields sz r lr m).lookup ("leads_round":Str)=some (.bl lr):=(aU (by decide+kernel)).trans<|(aU (by decide+kernel)).trans<|(aU (by decide+kernel)).trans<|(aU (by decide+kernel)).trans<|(aU (by decide+kernel)).trans<|(aU (by decide+kernel)).trans gR
theorem My:(fields sz r lr m).lookup ("distances":Str)=some (.ref m.ad):=(aU (by decide+kernel)).trans<|(aU (by decide+kernel)).trans<|(aU (by decide+kernel)).trans<|(aU (by decide+kernel)).trans<|(aU (by decide+kernel)).trans<|(aU (by decide+kernel)).trans<|(aU (by decide+kernel)).trans gR
theorem aaf{f:Str}(h:decide (f∈(["size","reach","needs","costs","barred","roads","leads_round","distances"]:List Str))=false):(fields sz r lr m).lookup f=none:=by
 have h:=of_decide_eq_false h
 simp only[List.mem_cons,not_or]at h
 obtain⟨h1,h2,h3,h4,h5,h6,h7,h8,_⟩:=h
 exact(aU h1).trans<|(aU h2).trans<|(aU h3).trans<|(aU h4).trans<|(aU h5).trans<|(aU h6).trans<|(aU h7).trans<|(aU h8).trans rfl
end
structure Txt(B:Bs)(C:Addr):Prop where
 cl:Nq B.K C
 Ej:dB B.K C "size"
 uU:dB B.K C "reach"
 x_:dB B.K C "needs"
 yc:dB B.K C "costs"
 uV:dB B.K C "barred"
 uT:dB B.K C "roads"
 uR:dB B.K C "leads_round"
 vW:dB B.K C "distances"
 gn:B.mg "len"=none
 wZ:B.mg "any"=none
 Mv:B.mg "all"=none
 rD:B.mg "sum"=none
 HB:B.mg "min"=none
 Mu:B.mg "set"=none
 Ek:B.mg "list"=none
 Ms:B.mg "zip"=none
 d_:B.mg "range"=none
 jh:B.mg "sorted"=none
 m7:B.mg "reversed"=none
 mgC:B.mg "Roadmap"=some (.ref C)
 bM:∃t,B.mg "OUT_OF_RANGE"=some (.int (-1) t)
 bW:∃t,B.mg "LIST_NOT_AS_TOLD"=some (.int (-2) t)
 dM:∃t,B.mg "NOT_ALLOWED_THERE"=some (.int (-3) t)
 nQ:∃t,B.mg "SAME_PLACE"=some (.int (-4) t)
 jx:∃t,B.mg "ROAD_IS_THERE"=some (.int (-5) t)
 jy:∃t,B.mg "NO_MORE_ROADS"=some (.int (-6) t)
 gO:∃t,B.mg "BEYOND_ALL_POSTS"=some (.int (-7) t)
 eG:∃t,B.mg "ROADS_LEAD_ROUND"=some (.int (-8) t)
 nT:∃t,B.mg "LEAST_SIZE"=some (.int (2) t)
 jz:∃t,B.mg "GREATEST_SIZE"=some (.int (40) t)
 fX:∃t,B.mg "GREATEST_REACH"=some (.int (1000000000000) t)
 lu:∃t,B.mg "LEAST_LENGTH"=some (.int (1) t)
 iI:∃t,B.mg "GREATEST_LENGTH"=some (.int (1000000000) t)
 jA:∃t,B.mg "GREATEST_NEED"=some (.int (1000) t)
 jB:∃t,B.mg "GREATEST_COST"=some (.int (1000000000) t)
 nR:∃t,B.mg "MOST_ROADS"=some (.int (60) t)
 fY:∃t,B.mg "GREATEST_COUNT"=some (.int (1000000) t)
 iJ:∃t,B.mg "GREATEST_AMOUNT"=some (.int (1000000000000) t)
 lq:∃t,B.mg "MOST_FOR_FEW"=some (.int (3) t)
 iH:∃t,B.mg "MOST_FOR_RADIUS"=some (.int (40) t)
 lY:∃t,B.mg "LAST_CHANGE"=some (.int (5) t)
section
variable{L:List aG}{B:Bs}{C:Addr}{H:Hp}{m:Ad}{s:State}{σ:L2.St}{i:Nat}{Q:VK}
theorem fW(T:Txt B C)(M:aR L C H m s)(e:σ[i]? =some (some (.ref m.p)))(q:Q (.int (size s)) H):Ah B.K (ug i) "size" σ H Q:=⟨_,e,m.p,C,m.dx,_,_,rfl,M.ins,T.cl,T.Ej,Vm,q⟩
theorem vm(T:Txt B C)(M:aR L C H m s)(e:σ[i]? =some (some (.ref m.p)))(q:Q (.int s.reach) H):Ah B.K (ug i) "reach" σ H Q:=⟨_,e,m.p,C,m.dx,_,_,rfl,M.ins,T.cl,T.uU,R5,q⟩
theorem gq(T:Txt B C)(M:aR L C H m s)(e:σ[i]? =some (some (.ref m.p)))(q:Q (.ref m.an) H):Ah B.K (ug i) "needs" σ H Q:=⟨_,e,m.p,C,m.dx,_,_,rfl,M.ins,T.cl,T.x_,R6,q⟩
theorem pI(T:Txt B C)(M:aR L C H m s)(e:σ[i]? =some (some (.ref m.p)))(q:Q (.ref m.ac) H):Ah B.K (ug i) "costs" σ H Q:=⟨_,e,m.p,C,m.dx,_,_,rfl,M.ins,T.cl,T.yc,R7,q⟩
theorem qi(T:Txt B C)(M:aR L C H m s)(e:σ[i]? =some (some (.ref m.p)))(q:Q (.ref m.ab) H):Ah B.K (ug i) "barred" σ H Q:=⟨_,e,m.p,C,m.dx,_,_,rfl,M.ins,T.cl,T.uV,O1,q⟩
theorem vh(T:Txt B C)(M:aR L C H m s)(e:σ[i]? =some (some (.ref m.p)))(q:Q (.ref m.ar) H):Ah B.K (ug i) "roads" σ H Q:=⟨_,e,m.p,C,m.dx,_,_,rfl,M.ins,T.cl,T.uT,HH,q⟩
theorem zu(T:Txt B C)(M:aR L C H m s)(e:σ[i]? =some (some (.ref m.p)))(q:Q (.bl (round s)) H):Ah B.K (ug i) "leads_round" σ H Q:=⟨_,e,m.p,C,m.dx,_,_,rfl,M.ins,T.cl,T.uR,R0,q⟩
theorem nq(T:Txt B C)(M:aR L C H m s)(e:σ[i]? =some (some (.ref m.p)))(q:Q (.ref m.ad) H):Ah B.K (ug i) "distances" σ H Q:=⟨_,e,m.p,C,m.dx,_,_,rfl,M.ins,T.cl,T.vW,My,q⟩
theorem cP{mm:Str}{sp:Sp}{t:TA}(M:aR L C H m s)(e:σ[i]? =some (some (.ref m.p)))(h:decide (mm∈(["size","reach","needs","costs","barred","roads","leads_round","distances"]:List Str))=false)
  (q:t σ H fun vs H2=>sp (.ref m.p::(vs++[])) H2 Q E0):GD C mm sp [] E0 (ug i) t σ H Q:=⟨_,e,m.p,m.dx,_,rfl,M.ins,aaf h,q⟩
theorem bj{K:PySem.W.Frag}{p:Addr}{xs:List V}{j:Nat}{z:Int}{v:V}{H1:Hp}(h:H1 p=some (.lst xs))(hz:z=(j:Int))(hv:xs[j]? =some v)(q:Q v H1):Rh K (.ref p) (.int z) H1 Q:=
 ⟨p,xs,z,v,rfl,rfl,bC.of h,at_of hz hv,q⟩
end
end PM
namespace L2
open PySem PySem.Spec PyProof.Rows
section
variable{X:Cx}
def Lr(K:PySem.W.Frag)(k:Int)(te:TE):TE:=fun σ H Q=>te σ H fun x H1=>∃(a:Addr) (ns:List Int),x= .ref a∧bC K H1 a (ns.map V.int)∧∀p,H1 p=none→Q (.ref p) (upd H1 p (.lst ((pickNums ns (some k) none (some 2)).map V.int)))
theorem U4{e:Expr}{te:TE}{k:Int}{j1 j2:_}{q1 q2 p2 pos:Pos}(he:PE X e te):PE X (.Subscript e (.Slice (some (.Constant (.int k) j1 q1)) none (some (.Constant (.int 2) j2 q2)) p2) pos) (Lr X.K k te):=by
 intro pins s σ H Q I h
 refine Subscript_ (cW (he pins s σ H _ I h) fun v s1 ⟨x,H1,I1,r1,q1⟩=>?_)
 refine wpAny_Slice ?_
 rw[evalPart_some]
 refine wpAny_Constant_int ?_
 rw[evalPart_none]
 refine wpAny_pure ?_
 rw[evalPart_some]
 refine wpAny_Constant_int ?_
 obtain⟨a,ns,rfl,hx,q⟩:=q1
 cases r1
 show wpAny (model X.prog X.w) X.A (subscriptTail e (.Slice (some (.Constant (.int k) j1 q1)) none (some (.Constant (.int 2) j2 q2)) p2) (.ref a) (.ref s1.heap.objs.size)) (EP X pins σ Q) X.xe {s1 with heap:=s1.heap.push {cls:= .type "slice",data:= .fields #[.int k s1.toks,.none,.int 2 (s1.toks+1)]},toks:=s1.toks+1+1}
 have I4:Inv X pins σ H1 {s1 with heap:=s1.heap.push {cls:= .type "slice",data:= .fields #[.int k s1.toks,.none,.int 2 (s1.toks+1)]},toks:=s1.toks+1+1}:=I1.kept (t':=s1.toks+1+1) fun b ob q=>Heap.get?_push_of_some _ q
 obtain⟨its,r,ht,hz⟩:=I4.list hx
 have hi:=r.ints
 refine tail_any (ops:=[.ref a,.ref s1.heap.objs.size]) ht.isList.typeIs slot_list_getitem.lookup ?_ (by with_unfolding_all rfl)
 refine wpAny_getItem_list_slice ht.isList (Heap.IsSliceOf.new ..) (.int k _) .none (.int 2 _) (by simp) ?_ (by have:=r.length;rw[List.size_toArray];omega)
 have hp:=hi.pick (some k) none (some 2)
 refine⟨.ref _,_,I4.laid (t':=s1.toks+1+1) (o:= .lst ((pickNums ns (some k) none (some 2)).map V.int)) (fun b ob q=>Heap.get?_push_of_some _ q) (Nat.le_refl _) ?_,rfl,q _ (I4.hok.fresh (Nat.le_refl _))⟩
 have hl:=length_pickNums_le hi (some k) none (some 2)
 refine⟨by rw[List.length_map];rw[List.length_map]at hz;omega,(slicePick its.toArray (some k) none (some 2)).toList,0,gZ hp,?_⟩
 rw[Array.toArray_toList];exact Heap.get?_push_size _ rfl
end
theorem filterMap_some{α β:Type}{f:α→Option β}{g:α→β}:∀ {l:List α},(∀x∈l,f x=some (g x))→l.filterMap f=l.map g
 | [],_=>rfl
 |x::l,h=>by rw[List.filterMap_cons,h x List.mem_cons_self,filterMap_some (l:=l) fun y hy=>h y (List.mem_cons_of_mem _ hy)];rfl
theorem Rg(ns:List Int)(k c:Nat)(hc:∀i,i<c→2*i+k<ns.length):((List.range c).map fun i:Nat=>((k:Int)+2*(i:Int)).toNat).filterMap (ns[·]?)=(List.range c).map fun i=>ns.getD (2*i+k) 0:=by
 rw[List.filterMap_map]
 refine filterMap_some fun i hi=>?_
 have h:=hc i (List.mem_range.mp hi)
 have e:((k:Int)+2*(i:Int)).toNat=2*i+k:=by omega
 show ns[((k:Int)+2*(i:Int)).toNat]? =_
 rw[e,List.getElem?_eq_getElem h,List.getD_eq_getElem?_getD,List.getElem?_eq_getElem h];rfl
theorem Ww(ns:List Int):pickNums ns (some 0) none (some 2)=PR.evs ns:=by
 have e:pickNums ns (some 0) none (some 2)=((List.range ((ns.length+1) / 2)).map fun i:Nat=>((0:Nat)+2*(i:Int):Int).toNat).filterMap (ns[·]?):=by
  unfold pickNums sliceRange sliceBounds
  have b1:max (0:Int) (min 0 (ns.length:Int))=0:=by omega
  simp only[Option.getD_some,gt_iff_lt,if_true,Int.lt_irrefl,if_false,b1,show((0:Int)<2)from by decide]
  congr 2
  by_cases h:(0:Int)<ns.length
  ·rw[if_pos h];congr 1;omega
  ·rw[if_neg h]
   have:ns.length=0:=by omega
   rw[this];rfl
 rw[e,Rg ns 0 _ (fun i hi=>by omega)]
 refine List.ext_getElem? fun i=>?_
 rw[PR.Nf]
 by_cases h:i< (ns.length+1) / 2
 ·rw[List.getElem?_map,List.getElem?_range h,List.getElem?_eq_getElem (by omega:2*i<ns.length),Option.map_some,List.getD_eq_getElem?_getD,List.getElem?_eq_getElem (by omega:2*i+0<ns.length)];rfl
 ·rw[List.getElem?_eq_none (by simp;omega),List.getElem?_eq_none (by omega)]
theorem Wv(ns:List Int):pickNums ns (some 1) none (some 2)=PR.Ba ns:=by
 have e:pickNums ns (some 1) none (some 2)=((List.range (ns.length / 2)).map fun i:Nat=>((1:Nat)+2*(i:Int):Int).toNat).filterMap (ns[·]?):=by
  unfold pickNums sliceRange sliceBounds
  by_cases h0:ns.length=0
  ·have:ns=[]:=List.length_eq_zero_iff.mp h0
   subst this;rfl
  have b1:max (0:Int) (min 1 (ns.length:Int))=1:=by omega
  simp only[Option.getD_some,gt_iff_lt,if_true,if_false,b1,show((0:Int)<2)from by decide,show ¬((1:Int)<0)from by decide]
  congr 2
  by_cases h:(1:Int)<ns.length
  ·rw[if_pos h];congr 1;omega
  ·rw[if_neg h]
   have:ns.length=1:=by omega
   rw[this];rfl
 rw[e,Rg ns 1 _ (fun i hi=>by omega)]
 refine List.ext_getElem? fun i=>?_
 rw[PR.Mq]
 by_cases h:i<ns.length / 2
 ·rw[List.getElem?_map,List.getElem?_range h,List.getElem?_eq_getElem (by omega:2*i+1<ns.length),Option.map_some,List.getD_eq_getElem?_getD,List.getElem?_eq_getElem (by omega:2*i+1<ns.length)];rfl
 ·rw[List.getElem?_eq_none (by simp;omega),List.getElem?_eq_none (by omega)]
def Rw(p:Int×Int):List V:=[.int p.1,.int p.2]
def abZ:R2:=fun x y H Q=>∃(a l:Addr) (p:Int×Int) (ts:List (Int×Int)),x= .ref a∧y= .ref l∧H a=some (.tup (Rw p))∧qL H l (ts.map Rw)∧Q (.bl (ts.any fun t=>t==p)) H
def eqP(H:Hp)(p:Int×Int)(v:Value):Bool:=match v with
 | .ref q=>match H q with
  |some (.tup [.int x,.int y])=>(x,y)==p
  |_=>false
 |_=>false
section
variable{X:Cx}
theorem BZ(hu:X.A.units+1<cLine):vH X (compareOp .In) abZ:=by
 intro pins s σ H x y v u Q I rx ry h
 obtain⟨a,l,p,ts,rfl,rfl,ha,hT,q⟩:=h
 cases rx
 cases ry
 obtain⟨as,h1,h2,h3⟩:=hT.ex
 obtain⟨its,r,pl,hz⟩:=I.list (bC.of h1)
 have ei:its=as.map Value.ref:=by
  have:∀ {as:List Addr} {its:List Value},Vals (as.map V.ref) its→its=as.map Value.ref:=by
   intro as
   induction as with
   |nil=>intro its r;cases r;rfl
   |cons b as ih=>intro its r;cases r with|cons r t=>cases r;rw[ih t];rfl
  exact this r
 subst ei
 rw[List.length_map]at h2
 have tup:∀(i:Nat) (q:Addr),as[i]? =some q→∃t,ts[i]? =some t∧H q=some (.tup (Rw t)):=fun i q e=>by
  have hi:i<ts.length:=by rw[←h2];exact(List.getElem?_eq_some_iff.mp e).1
  exact⟨ts[i],List.getElem?_eq_getElem hi,h3 i q _ e (by rw[List.getElem?_map,List.getElem?_eq_getElem hi];rfl)⟩
 refine SeqAt.in_listAt (eqP H p) pl.isList (fun w hw=>?_) ⟨.bl _,H,I,rfl,?_⟩
 ·have hw:w∈as.map Value.ref:=by simpa using hw
  obtain⟨b,hb,rfl⟩:=List.mem_map.mp hw
  obtain⟨i,hi⟩:=List.getElem?_of_mem hb
  obtain⟨t,_,ht⟩:=tup i b hi
  have ee:eqP H p (.ref b)=(t==p):=by unfold eqP;dsimp only;rw[show H b=some (.tup [.int t.1,.int t.2])from ht]
  rw[ee]
  by_cases hab:b=a
  ·subst hab
   rw[ha]at ht
   have:p=t:=by
    injection ht with ht;injection ht with ht
    unfold Rw at ht
    simp only[List.cons.injEq,V.int.injEq,and_true]at ht
    exact Prod.ext ht.1 ht.2
   rw[this,beq_self_eq_true]
   exact SeqAt.EqAt.same _
  ·obtain⟨i1,r1,p1,_⟩:=I.tuple (mF.of ht)
   obtain⟨i2,r2,p2,_⟩:=I.tuple (mF.of ha)
   obtain⟨t1,t2,rfl⟩:=Vals.aau r1
   obtain⟨t3,t4,rfl⟩:=Vals.aau r2
   have:=SeqAt.RcAt.tuples (A:=X.A.in1) (e:=fun j=>if j=0 then t.1==p.1 else t.2==p.2) p1 p2 (by show X.A.units+1<cLine;exact hu) (fun j g1 g2=>?_)
   ·refine SeqAt.EqAt.of_refs hab ?_
    have e2:((List.range (min ([Value.int t.1 t1,.int t.2 t2].toArray.size) ([Value.int p.1 t3,.int p.2 t4].toArray.size))).all (fun j=>if j=0 then t.1==p.1 else t.2==p.2)&&[Value.int t.1 t1,.int t.2 t2].toArray.size==[Value.int p.1 t3,.int p.2 t4].toArray.size)=(t==p):=by
     show((List.range 2).all (fun j=>if j=0 then t.1==p.1 else t.2==p.2)&&true)=_
     simp only[List.range_succ,List.range_zero,List.nil_append,List.cons_append,List.all_cons,List.all_nil,if_true,Bool.and_true,show ¬(1=0)from by decide,if_false]
     rfl
    rw[e2]at this
    exact this
   ·have g1:j<2:=g1
    have:j=0∨j=1:=by omega
    rcases this with rfl|rfl
    ·exact SeqAt.EqAt.int_int _ _ _ _
    ·exact SeqAt.EqAt.int_int _ _ _ _
 ·have e:((as.map Value.ref).toArray.any (eqP H p))=ts.any fun t=>t==p:=by
   rw[show(as.map Value.ref).toArray.any (eqP H p)=(as.map Value.ref).any (eqP H p)by simp,List.any_map]
   have:∀(as:List Addr) (ts:List (Int×Int)),as.length=ts.length→(∀(i:Nat) (q:Addr),as[i]? =some q→∃t,ts[i]? =some t∧H q=some (.tup (Rw t)))→(as.any (eqP H p∘Value.ref))=ts.any fun t=>t==p:=by
    intro as
    induction as with
    |nil=>intro ts h _;cases ts with|nil=>rfl|cons _ _=>cases h
    |cons b as ih=>
     intro ts h g
     cases ts with
     |nil=>cases h
     |cons t ts=>
      obtain⟨t',e1,e2⟩:=g 0 b rfl
      cases e1
      rw[List.any_cons,List.any_cons,ih ts (by simpa using h) fun i q e=>g (i+1) q e]
      congr 1
      show eqP H p (.ref b)=_
      unfold eqP;dsimp only;rw[show H b=some (.tup [.int t.1,.int t.2])from e2]
   exact this as ts h2 tup
  rw[e];exact q
end
def Wo(t:Int×Int×Int):List V:=[.int t.1,.int t.2.1,.int t.2.2]
def Jo(H:Hp)(p:Addr):Int×Int×Int:=match H p with
 |some (.tup [.int x,.int y,.int z])=>(x,y,z)
 |_=>(0,0,0)
theorem Lp{H:Hp}{p:Addr}{t:Int×Int×Int}(h:H p=some (.tup (Wo t))):Jo H p=t:=by
 unfold Jo
 rw[show H p=some (.tup [.int t.1,.int t.2.1,.int t.2.2])from h]
abbrev three(k:Int×Int×Int):List (Int ⊕ List Nat):=[Sum.inl k.1,Sum.inl k.2.1,Sum.inl k.2.2]
theorem pU{P:Program}{w:World}{H:Hp}{h:Heap}{p:Addr}{k:Int×Int×Int}(x:vI P w H h)(e:H p=some (.tup (Wo k))):G.tupKeyC h cF (.ref p)=some (three k)∧∃f,TupOf h cF (.ref p) f:=by
 obtain⟨_,its,rv,o,ho,hc,n,hd⟩:=x p _ e
 cases rv with
 |cons r1 r2=>
  cases r2 with
  |cons r3 r4=>
   cases r4 with
   |cons r5 r6=>
    cases r6
    obtain⟨t1,rfl⟩:=r1
    obtain⟨t2,rfl⟩:=r3
    obtain⟨t3,rfl⟩:=r5
    refine⟨?_,_,p,o,_,n,rfl,ho,hc,hd,rfl,fun _=>⟨_,_,rfl⟩,fun z=>(by cases z)⟩
    unfold G.tupKeyC
    rw[if_pos (by simp [G.isTupObj,ho,hc])]
    simp only[tupKey,ho,hd]
    rfl
theorem Bv{P:Program}{w:World}{H:Hp}{h:Heap}(x:vI P w H h):∀ {as:List Addr},(∀p∈as,∃t,H p=some (.tup (Wo t)))→∃fs,TupsOf h cF (as.map Value.ref) fs
 | [],_=>⟨[],.nil⟩
 |p::as,hk=>by
  obtain⟨fs,hf⟩:=Bv x (as:=as) fun q hq=>hk q (List.mem_cons_of_mem _ hq)
  obtain⟨t,ht⟩:=hk p List.mem_cons_self
  obtain⟨_,f,hf1⟩:=pU x ht
  exact⟨f::fs,.cons hf1 hf⟩
theorem O4{a b:Int×Int×Int}(h:lexLt itemOrd (three b) (three a)=false):a.1≤b.1:=by
 have h:(decide (b.1<a.1)||_)=false:=h
 rw[Bool.or_eq_false_iff]at h
 have:=of_decide_eq_false h.1
 omega
def Rf:Value→Addr
 | .ref a=>a
 |_=>0
theorem UJ{as:List Addr}{its:List Value}(r:Vals (as.map V.ref) its):its=as.map Value.ref:=by
 have:∀ {as:List Addr} {its:List Value},Vals (as.map V.ref) its→its=as.map Value.ref:=by
  intro as
  induction as with
  |nil=>intro its r;cases r;rfl
  |cons b as ih=>intro its r;cases r with|cons r t=>cases r;rw[ih t];rfl
 exact this r
theorem Bu:∀(as:List Addr),Vals (as.map V.ref) (as.map Value.ref)
 | []=> .nil
 |_::as=> .cons rfl (Bu as)
def XC:List V→Hp→VK→Prop:=fun vs H Q=>∃(a:Addr) (ts:List (Int×Int×Int)),vs=[.ref a]∧qL H a (ts.map Wo)∧ts.length≤1000∧
 ∀(D:Addr) (xs:List V) (ts':List (Int×Int×Int)),H D=none→ts'.Perm ts→(ts'.Pairwise fun a b=>a.1≤b.1)→qL (upd H D (.lst xs)) D (ts'.map Wo)→Q (.ref D) (upd H D (.lst xs))
section
variable{X:Cx}
theorem Th:gY X (.builtin "sorted") XC:=by
 intro pins s σ H vs us Q I r h
 obtain⟨a,ts,rfl,hT,hz,q⟩:=h
 obtain⟨as,h1,h2,h3⟩:=hT.ex
 obtain⟨its,rv,hl,_⟩:=I.list (bC.of h1)
 obtain rfl:=UJ rv
 rw[List.length_map]at h2
 rw[Vals.xK r]
 have tup:∀p∈as,H p=some (.tup (Wo (Jo H p))):=fun p hp=>by
  obtain⟨i,hi⟩:=List.getElem?_of_mem hp
  have hl:i<ts.length:=by rw[←h2];exact(List.getElem?_eq_some_iff.mp hi).1
  have:=h3 i p _ hi (by rw[List.getElem?_map,List.getElem?_eq_getElem hl];rfl)
  rw[Lp this];exact this
 have ets:ts=as.map (Jo H):=by
  refine List.ext_getElem (by rw[List.length_map,h2]) fun i g1 g2=>?_
  rw[List.getElem_map]
  rw[List.length_map]at g2
  have:=h3 i as[i] _ (List.getElem?_eq_getElem g2) (by rw[List.getElem?_map,List.getElem?_eq_getElem g1];rfl)
  exact(Lp this).symm
 obtain⟨fs,hfs⟩:=Bv I.hok (as:=as) fun p hp=>⟨_,tup p hp⟩
 refine G.sorted_tups (shape:=cF) hl.isList hfs (fun v hv=>?_) (by rw[List.length_map,h2,sizeLine_eq];omega) fun st' hp hs _=>?_
 ·obtain⟨p,hp,rfl⟩:=List.mem_map.mp hv
  exact⟨_,(pU I.hok (tup p hp)).1⟩
 ·have hpl:(arrOf st').toList.Perm ((as.map Value.ref).zip (as.map Value.ref)):=by
   have:=Array.perm_iff_toList_perm.mp hp
   rwa[pairsOf_toList]at this
  have el:∀x∈(arrOf st').toList,∃p∈as,x=(Value.ref p,Value.ref p):=fun x hx=>by
   have hx:=hpl.mem_iff.mp hx
   obtain⟨e,hm⟩:=mem_zip_self hx
   obtain⟨p,hp,e2⟩:=List.mem_map.mp hm
   refine⟨p,hp,?_⟩
   rw[←e2]at e
   exact Prod.ext e2.symm (by rw[e2]at e;first|exact e.symm▸e2.symm| (have:=e;simp_all))
  let as':List Addr:=(arrOf st').toList.map fun x=>Rf x.1
  have hout:((arrOf st').map (·.2)).toList=as'.map Value.ref:=by
   rw[Array.toList_map,List.map_map]
   refine List.map_congr_left fun x hx=>?_
   obtain⟨p,_,rfl⟩:=el x hx
   rfl
  have hperm:as'.Perm as:=by
   have:=hpl.map fun x=>Rf x.1
   have e:((as.map Value.ref).zip (as.map Value.ref)).map (fun x=>Rf x.1)=as:=by
    have e0:((as.map Value.ref).zip (as.map Value.ref)).map (fun x=>Rf x.1)=(((as.map Value.ref).zip (as.map Value.ref)).map Prod.fst).map Rf:=by rw[List.map_map];rfl
    rw[e0,List.map_fst_zip (by simp),List.map_map]
    conv=>rhs;rw[←List.map_id as]
    rfl
   rw[e]at this
   exact this
  obtain⟨ec,g⟩:=sortedAll_at s.heap (as.map Value.ref) ((arrOf st').map (·.2))
  have hD:H (s.heap.objs.size+1)=none:=I.hok.fresh (Nat.le_succ _)
  refine⟨.ref (s.heap.objs.size+1),_,I.laid (t':=s.toks) (o:= .lst (as'.map V.ref)) (fun b o e=>sortedAll_old e) (Nat.le_succ _) ⟨?_,as'.map Value.ref,ec,Bu as',?_⟩,rfl,q _ (as'.map V.ref) (as'.map (Jo H)) hD ?_ ?_ ?_⟩
  ·rw[List.length_map,hperm.length_eq,h2,sizeLine_eq];omega
  ·rw[←hout,Array.toArray_toList];exact g
  ·rw[ets];exact hperm.map _
  ·rw[List.pairwise_map,List.pairwise_map,List.pairwise_iff_getElem]
   intro i j hi hj hij
   obtain⟨p,hp1,e1⟩:=el _ (List.getElem_mem hi)
   obtain⟨p',hp2,e2⟩:=el _ (List.getElem_mem hj)
   have g1:KK (G.tupKindC s.heap cF) (arrOf st') i=three (Jo H p):=by
    unfold KK
    have:(arrOf st')[i]? =some (Value.ref p,Value.ref p):=by rw[←Array.getElem?_toList,List.getElem?_eq_getElem hi,e1]
    rw[this]
    show(G.tupKeyC s.heap cF (Value.ref p)).getD []=_
    rw[(pU I.hok (tup p hp1)).1];rfl
   have g2:KK (G.tupKindC s.heap cF) (arrOf st') j=three (Jo H p'):=by
    unfold KK
    have:(arrOf st')[j]? =some (Value.ref p',Value.ref p'):=by rw[←Array.getElem?_toList,List.getElem?_eq_getElem hj,e2]
    rw[this]
    show(G.tupKeyC s.heap cF (Value.ref p')).getD []=_
    rw[(pU I.hok (tup p' hp2)).1];rfl
   have hsz:(arrOf st').size=(pairsOf (as.map Value.ref)).size:=hp.size_eq
   have:=hs i j (Nat.le_of_lt hij) (by rw[←hsz];simpa using hj)
   rw[g1,g2]at this
   rw[e1,e2]
   exact O4 this
  ·refine⟨as',ao,by simp,fun i p t e1 e2=>?_⟩
   rw[List.getElem?_map,List.getElem?_map,e1]at e2
   cases e2
   have hp':p∈as:=hperm.mem_iff.mp (List.mem_of_getElem? e1)
   have:=tup p hp'
   rw[aF (aP this hD)]
   exact this
end
def Y_(K:PySem.W.Frag)(a b c:Addr):It:=
 ⟨fun i H=>∃(xs ys zs:List V) (x y z:V),bC K H a xs∧bC K H b ys∧bC K H c zs∧xs[i]? =some x∧ys[i]? =some y∧zs[i]? =some z,
  fun i H v H'=>∃T x y z,v= .ref T∧H T=none∧H'=upd H T (.tup [x,y,z])∧(∀xs,bC K H a xs→xs[i]? =some x)∧(∀ys,bC K H b ys→ys[i]? =some y)∧∀zs,bC K H c zs→zs[i]? =some z,
  fun i H=>∃xs:List V,bC K H a xs∧xs.length≤i⟩
def st3(z TI TO i1 i2 i3 a b c:Addr)(i:Nat)(h:Heap):Prop:=(∃f0 f1,Z3.qx h z TI TO f0 f1∧Z3.F0 f0)∧Z3.eU h TI (.ref i1) (.ref i2) (.ref i3)∧(∃x y w,Z3.eU h TO x y w)∧h.IsListIter i1 a i∧h.IsListIter i2 b i∧h.IsListIter i3 c i
theorem Nu{P:Program}{w:World}{K:PySem.W.Frag}{x:Str}{tpos:Pos}{a b c z TI TO i1 i2 i3:Addr}(D:Z3.Apart z TI TO i1 i2 i3 a b c):
  Turn P w K (.Name x tpos) (Y_ K a b c) [z,TI,TO,i1,i2,i3] z (st3 z TI TO i1 i2 i3 a b c) where
 mem:=by simp
 obj:=fun i h st d hd=>by
  obtain⟨⟨f0,f1,hz,_⟩,hTI,⟨x,y,u,hTO⟩,⟨o1,e1,_,d1⟩,⟨o2,e2,_,d2⟩,⟨o3,e3,_,d3⟩⟩:=st
  have e':d=z∨d=TI∨d=TO∨d=i1∨d=i2∨d=i3:=by simpa using hd
  rcases e' with q|q|q|q|q|q
  ·rw[q];exact⟨_,hz,fun v q=>nomatch q⟩
  ·rw[q];exact⟨_,hTI,fun v q=>nomatch q⟩
  ·rw[q];exact⟨_,hTO,fun v q=>nomatch q⟩
  ·rw[q];exact⟨o1,e1,fun v q=>by rw[d1]at q;cases q⟩
  ·rw[q];exact⟨o2,e2,fun v q=>by rw[d2]at q;cases q⟩
  ·rw[q];exact⟨o3,e3,fun v q=>by rw[d3]at q;cases q⟩
 keep:=fun i h h' st k=>by
  obtain⟨⟨f0,f1,hz,hf⟩,hTI,⟨x,y,u,hTO⟩,h1,h2,h3⟩:=st
  exact⟨⟨f0,f1,k z (by simp) _ hz,hf⟩,k TI (by simp) _ hTI,⟨x,y,u,k TO (by simp) _ hTO⟩,h1.at fun o q=>k i1 (by simp) o q,h2.at fun o q=>k i2 (by simp) o q,h3.at fun o q=>k i3 (by simp) o q⟩
 item:=by
  intro X hP hw hK hc i pins s σ H E I hf st hg
  subst hP hw hK
  obtain⟨⟨f0,f1,hz,hf0⟩,hTI,⟨x0,y0,u0,hTO⟩,h1,h2,h3⟩:=st
  obtain⟨xs,ys,zs,x,y,u,WR,Zj,hqz,hx,hy,hu⟩:=hg
  obtain⟨its,rv,p,_⟩:=I.list WR
  obtain⟨its2,ZL,p2,_⟩:=I.list Zj
  obtain⟨acj,rv3,p3,_⟩:=I.list hqz
  obtain⟨w1,hw1,r1⟩:=rv.get hx
  obtain⟨w2,hw2,r2⟩:=ZL.get hy
  obtain⟨w3,hw3,r3⟩:=rv3.get hu
  have hzl:z<s.heap.objs.size:=Heap.lt_size hz
  refine Z3.oY D hz hf0 hTI hTO h1 h2 h3 p.isList p2.isList p3.isList (x:=w1) (y:=w2) (u:=w3) (by simpa using hw1) (by simpa using hw2) (by simpa using hw3) fun h' f0' qj z' acx TO' h1' h2' h3' hT hsz hk=>?_
  refine⟨_,rfl,?_⟩
  show wpAny _ _ (pure ()) _ _ _
  refine wpAny_pure ?_
  have new:iR X.prog X.w (upd H s.heap.objs.size (.tup [x,y,u])) h' s.heap.objs.size (.tup [x,y,u]):=
   ⟨by show 3≤sizeLine;decide,[w1,w2,w3],.cons r1 (.cons r2 (.cons r3 .nil)),⟨_,hT,rfl,_,rfl⟩⟩
  have I1:Inv X pins σ (upd H s.heap.objs.size (.tup [x,y,u])) {s with heap:=h'}:=
   I.Nt (t':=s.toks) (ch:=[z,TI,TO,i1,i2,i3]) (fun c o hb q=>hk c o (fun q'=>hb (by simp [q'])) (fun q'=>hb (by simp [q'])) (fun q'=>hb (by simp [q'])) (fun q'=>hb (by simp [q'])) (fun q'=>hb (by simp [q'])) q) hf (Nat.le_refl _) new
  have nd:=D.nd
  simp only[List.nodup_cons,List.mem_cons,List.not_mem_nil,or_false,not_or,not_false_eq_true,List.nodup_nil,and_true]at nd
  obtain⟨⟨Zu,Jj,Bt,Li,W6⟩,⟨TITO,TIi1,TIi2,Y7⟩,⟨TOi1,TOi2,PN⟩,⟨i12,Zh⟩,Zg⟩:=nd
  refine⟨.ref s.heap.objs.size,_,I1,rfl,⟨_,x,y,u,rfl,I.hok.fresh (Nat.le_refl _),rfl,fun l hl=>by rw[I.o9 hl WR];exact hx,fun l hl=>by rw[I.o9 hl Zj];exact hy,fun l hl=>by rw[I.o9 hl hqz];exact hu⟩,
   ⟨⟨f0',qj,z',acx⟩,hk _ _ (Ne.symm Zu) TITO TIi1 TIi2 Y7 hTI,TO',h1',h2',h3'⟩,fun d hdm=>?_⟩
  have hlt:d<s.heap.objs.size:=by
   have e':d=z∨d=TI∨d=TO∨d=i1∨d=i2∨d=i3:=by simpa using hdm
   rcases e' with q|q|q|q|q|q
   ·rw[q];exact hzl
   ·rw[q];exact Heap.lt_size hTI
   ·rw[q];exact Heap.lt_size hTO
   ·rw[q];obtain⟨_,e1,_⟩:=h1;exact Heap.lt_size e1
   ·rw[q];obtain⟨_,e2,_⟩:=h2;exact Heap.lt_size e2
   ·rw[q];obtain⟨_,e3,_⟩:=h3;exact Heap.lt_size e3
  rw[aF (Nat.ne_of_lt hlt)]
  exact(hf d hdm).1
 done:=by
  intro X hP hw hK hc i pins s σ H E I hf st hg
  subst hP hw hK
  obtain⟨⟨f0,f1,hz,hf0⟩,hTI,⟨x0,y0,u0,hTO⟩,h1,h2,h3⟩:=st
  obtain⟨xs,WR,hend⟩:=hg
  obtain⟨its,rv,p,_⟩:=I.list WR
  have l1:=rv.length
  refine Z3.rW (I.ok.hd hc) D hz hf0 hTI hTO h1 p.isList (by simp;omega) fun h' hk=>⟨rfl,I.T9 (t':=s.toks) (ch:=[z,TI,TO,i1,i2,i3]) (fun c o hb q=>
   hk c o (fun q'=>hb (by simp [q'])) (fun q'=>hb (by simp [q'])) (fun q'=>hb (by simp [q'])) (fun q'=>hb (by simp [q'])) (fun q'=>hb (by simp [q'])) q) hf⟩
 self:=fun A i s Q E st h=>by
  obtain⟨⟨f0,f1,hz,_⟩,_⟩:=st
  exact Z3.yI hz h
def Sd(K:PySem.W.Frag)(ta:TA):TI:=fun σ H R=>ta σ H fun vs H1=>∃a b c xs ys zs,vs=[.ref a,.ref b,.ref c]∧bC K H1 a xs∧bC K H1 b ys∧bC K H1 c zs∧R (Y_ K a b c) H1
theorem UW{X:Cx}{e e2 e3:Expr}{ta:TA}{p pos tpos:Pos}{x:Str}(hg:Gl X "zip")(hm:X.mg "zip"=none)(ha:PA X [e,e2,e3] ta)
  (hs:starEach [e,e2,e3] X.env=(false,eval e X.env)::starEach [e2,e3] X.env:=by rfl) (hpl:(backTo pos (starEach [e2,e3] X.env)).any (·.1)=false:=by rfl):
  PI X (.Name x tpos) (.Call (.Name "zip" p) [e,e2,e3] [] pos) (Sd X.K ta):=by
 intro pins s σ H R I h
 refine Call_ (kY I hg hm CG (PyProof.Rows.callWith_type1 (cW (ha pos pins s σ H _ I h) fun us s1 ⟨vs,H1,I1,r1,q1⟩=>?_) hs hpl))
 obtain⟨a,b,c,xs,ys,zs,ex,WR,Zj,hqz,q⟩:=q1
 subst ex
 cases r1 with
 |cons r rr=>
  cases rr with
  |cons r' rr=>
   cases rr with
   |cons r'' rr=>
    cases rr
    cases r
    cases r'
    cases r''
    obtain⟨its,rv,p1,_⟩:=I1.list WR
    obtain⟨its2,ZL,p2,_⟩:=I1.list Zj
    obtain⟨acj,rv3,p3,_⟩:=I1.list hqz
    have la:a<s1.heap.objs.size:=p1.lt
    have lb:b<s1.heap.objs.size:=p2.lt
    have lc:c<s1.heap.objs.size:=p3.lt
    refine Z3.Tj p1.isList p2.isList p3.isList fun h' hz hTI hTO h1 h2 h3 hk=>Z3.yI hz ?_
    have I2:Inv X pins σ H1 {s1 with heap:=h'}:=I1.kept (t':=s1.toks) hk
    refine⟨s1.heap.objs.size+5,[s1.heap.objs.size+5,s1.heap.objs.size+3,s1.heap.objs.size+4,s1.heap.objs.size,s1.heap.objs.size+1,s1.heap.objs.size+2],_,_,H1,rfl,I2,Nu (Z3.apart_new s1.heap.objs.size a b c la lb lc),⟨⟨_,_,hz,.inl rfl⟩,hTI,⟨_,_,_,hTO⟩,h1,h2,h3⟩,fun d hdm=>?_,q⟩
    have e':d=s1.heap.objs.size+5∨d=s1.heap.objs.size+3∨d=s1.heap.objs.size+4∨d=s1.heap.objs.size∨d=s1.heap.objs.size+1∨d=s1.heap.objs.size+2:=by simpa using hdm
    have hle:s1.heap.objs.size≤d:=by
     rcases e' with z|z|z|z|z|z
     ·rw[z];exact Nat.le_add_right _ _
     ·rw[z];exact Nat.le_add_right _ _
     ·rw[z];exact Nat.le_add_right _ _
     ·rw[z];exact Nat.le_refl _
     ·rw[z];exact Nat.le_add_right _ _
     ·rw[z];exact Nat.le_add_right _ _
    exact I1.vf hle (I1.hok.fresh hle)
structure Tu{α:Type}(L:List aG)(J:It)(C:Hp→Prop)(xs:List α)(E:α→V→Hp→Prop):Prop where
 go:∀(i:Nat) (x:α) (H:Hp),xs[i]? =some x→C H→J.go i H∧∀v H',J.W8 i H v H'→Go L H H'∧E x v H'
 stop:∀H,C H→J.stop xs.length H
theorem Nr{α:Type}{L:List aG}{K:PySem.W.Frag}{a b c:Addr}{xs:List α}{f g h:α→V}:Tu L (Y_ K a b c) (fun H=>bC K H a (xs.map f)∧bC K H b (xs.map g)∧bC K H c (xs.map h)) xs (fun x v H=>∃p,v= .ref p∧H p=some (.tup [f x,g x,h x])):=by
 refine⟨fun i x H hi ⟨h1,h2,h3⟩=>?_,fun H ⟨h1,_,_⟩=>⟨_,h1,by simp⟩⟩
 have e:∀k:α→V,(xs.map k)[i]? =some (k x):=fun k=>by rw[List.getElem?_map,hi];rfl
 refine⟨⟨_,_,_,_,_,_,h1,h2,h3,e f,e g,e h⟩,fun v H' y=>?_⟩
 obtain⟨T,x1,x2,x3,rfl,hT,rfl,y1,y2,y3⟩:=y
 have e1:=Option.some.inj ((y1 _ h1).symm.trans (e f))
 have e2:=Option.some.inj ((y2 _ h2).symm.trans (e g))
 have e3:=Option.some.inj ((y3 _ h3).symm.trans (e h))
 exact⟨Go.laid hT,T,rfl,by rw[ao,e1,e2,e3]⟩
theorem Vo{α:Type}{L:List aG}{J:It}{C:Hp→Prop}{xs:List α}{E:α→V→Hp→Prop}{g:TG}{tt:TT}{te:TE}{vs:List Nat}{σ:St}{H1:Hp}{D:Addr}{Q:VK}(p:α→Bool)(f:α→V)
  (hD:H1 D=none) (W:Tu L J C xs E) (hC:∀H',Go L H1 H'→C H') (hz:xs.length≤sizeLine)
  (hs:∀x v H',x∈xs→Go L H1 H'→E x v H'→∀(Qn:Hp→Prop) (Qy:VK),(p x=false→∀H2,Go L H' H2→Qn H2)→(p x=true→∀H2,Go L H' H2→Qy (f x) H2)→
   g v (wipe σ vs) H' fun σ2 H2=>wipe σ2 vs=wipe σ vs∧tt σ2 H2 fun b H3=>if b=true then te σ2 H3 Qy else Qn H3)
  (hd:∀H',Go L H1 H'→H' D=some (.lst ((xs.filter p).map f))→Q (.ref D) H'):
  LcB J g tt te vs σ Q H1 D:=by
 let Pv:Nat→Hp→Prop:=fun i H=>Go L H1 H∧H D=some (.lst (((xs.take i).filter p).map f))
 refine⟨fun i m H=>m=xs.length - i∧i≤xs.length∧Pv i H,⟨xs.length,by simp,Nat.zero_le _,Go.laid hD,ao⟩,?_⟩
 rintro i m H ⟨rfl,hi,gH,hy⟩
 have q:=hC H gH
 by_cases hlt:i<xs.length
 ·have hx:xs[i]? =some xs[i]:=List.getElem?_eq_getElem hlt
  obtain⟨g1,g2⟩:=W.go i xs[i] H hx q
  refine .inr ⟨g1,Pv (i+1),fun H' p'=>⟨xs.length - (i+1),by omega,rfl,hlt,p'⟩,fun v H' y=>?_⟩
  obtain⟨gy,y⟩:=g2 v H' y
  refine hs xs[i] v H' (List.getElem_mem _) (gH.trans gy) y _ _ (fun e H2 g=>?_) (fun e H2 g=>?_)
  ·refine⟨(gH.trans gy).trans g,?_⟩
   rw[take_snoc hx,List.filter_append,List.filter_cons,if_neg (by rw[e];decide),List.filter_nil,List.append_nil]
   exact g.lst (gy.lst hy)
  ·have hy2:=g.lst (gy.lst hy)
   refine⟨_,hy2,?_,((gH.trans gy).trans g).put hD hy2,?_⟩
   ·rw[List.length_map]
    have:=List.length_filter_le p (xs.take i)
    rw[List.length_take]at this
    omega
   ·rw[ao,take_snoc hx,List.filter_append,List.filter_cons,if_pos e,List.filter_nil,List.map_append];rfl
 ·have e:i=xs.length:=by omega
  subst e
  rw[List.take_length]at hy
  exact .inl ⟨W.stop H q,hd H gH hy⟩
theorem Qh{α:Type}{K:PySem.W.Frag}{a:Addr}{xs:List α}{f:α→V}:Walks (Itt K a) (fun H=>mF K H a (xs.map f)) xs (fun x v _=>v=f x):=by
 refine⟨fun i x H hi h=>?_,fun H h=>⟨_,h,by simp⟩⟩
 have e:(xs.map f)[i]? =some (f x):=by rw[List.getElem?_map,hi];rfl
 refine⟨⟨_,_,h,e⟩,fun v H' y=>?_⟩
 obtain⟨y1,y2⟩:=y
 exact⟨y1,Option.some.inj ((y2 _ h).symm.trans e)⟩
end L2
namespace PM
open PySem PySem.Spec PyProof.Rows L2
theorem Rq{X:Cx}{B:Bs}{e e2 e3:Expr}{ta:TA}{p pos tpos:Pos}{x:Str}(i:In B X)(hg:Gl X "zip")(hm:X.mg "zip"=none)(ha:PA X [e,e2,e3] ta)
  (hs:starEach [e,e2,e3] X.env=(false,eval e X.env)::starEach [e2,e3] X.env:=by rfl) (hpl:(backTo pos (starEach [e2,e3] X.env)).any (·.1)=false:=by rfl):
  PI X (.Name x tpos) (.Call (.Name "zip" p) [e,e2,e3] [] pos) (Sd B.K ta):=i.K▸UW hg hm ha hs hpl
end PM
namespace Z2
open PySem Z3 PyProof.Rows
theorem Ji:typeLookup (.type "zip") "__len__"=pure none:=by rw[typeLookup_type,builtinLookup_eq_fast];kernel_rfl
theorem Gk:typeLookup (.type "zip") "__length_hint__"=pure none:=by rw[typeLookup_type,builtinLookup_eq_fast];kernel_rfl
structure Zq(h:Heap)(z TI TO i1 i2 l1 l2:Addr)(xs ys:Array Value)(i:Nat):Prop where
 zz:∃f0 f1,qx h z TI TO f0 f1∧F0 f0
 ti:fM h TI (.ref i1) (.ref i2)
 to:∃a b,fM h TO a b
 t1:h.IsListIter i1 l1 i
 t2:h.IsListIter i2 l2 i
 e1:h.IsList l1 xs
 e2:h.IsList l2 ys
theorem Zq.kept{h h':Heap}{z TI TO i1 i2 l1 l2:Addr}{xs ys:Array Value}{i:Nat}{S:Addr}(x:Zq h z TI TO i1 i2 l1 l2 xs ys i)(hS:S∉[z,TI,TO,i1,i2,l1,l2])(k:∀b o,b≠S→h.get? b=some o→h'.get? b=some o):Zq h' z TI TO i1 i2 l1 l2 xs ys i:=by
 simp only[List.mem_cons,List.not_mem_nil,or_false,not_or]at hS
 obtain⟨s1,s2,s3,s4,s5,s6,s7⟩:=hS
 obtain⟨f0,f1,a1,a2⟩:=x.zz
 obtain⟨a,b,b1⟩:=x.to
 exact⟨⟨f0,f1,k _ _ (Ne.symm s1) a1,a2⟩,k _ _ (Ne.symm s2) x.ti,⟨a,b,k _ _ (Ne.symm s3) b1⟩,x.t1.at fun o e=>k _ o (Ne.symm s4) e,x.t2.at fun o e=>k _ o (Ne.symm s5) e,x.e1.at fun o e=>k _ o (Ne.symm s6) e,x.e2.at fun o e=>k _ o (Ne.symm s7) e⟩
theorem nb{b x:Addr}{N:Nat}(hb:N≤b)(hx:x<N):b≠x:=Nat.ne_of_gt (Nat.lt_of_lt_of_le hx hb)
def Made(h:Heap)(N:Nat)(xs ys:Array Value)(as:List Addr):Prop:=as.Nodup∧∀(j:Nat) (q:Addr),as[j]? =some q→N≤q∧q<h.objs.size∧∃x y,xs[j]? =some x∧ys[j]? =some y∧fM h q x y
section
variable{prog:Program}{w:World}{A:Around}{R:Result→Shared→Prop}{s:Shared}{z TI TO i1 i2 l1 l2 S:Addr}{xs ys:Array Value}{n N:Nat}{h0:Heap}
theorem S8(D:Apart z TI TO i1 i2 l1 l2)(hh:A.handled=none)(hn:n≤sizeLine)(hx:xs.size=n)(hy:ys.size=n)(hS:S∉[z,TI,TO,i1,i2,l1,l2])(hN:z<N∧TO<N∧i1<N∧i2<N∧S<N)(hfr:∀b o,h0.get? b=some o→b≠z∧b≠TO∧b≠i1∧b≠i2∧b≠S)(res:Value)
  (hR:∀(h':Heap) (as:List Addr) (c':Nat),as.length=n→Made h' N xs ys as→h'.get? S=some {cls:= .type "list",data:= .seq (as.map Value.ref).toArray c'}→(∀b o,h0.get? b=some o→h'.get? b=some o)→R (.ok (.ret res)) {s with heap:=h'}):
  ∀(k i:Nat) (h:Heap) (as:List Addr) (c:Nat),n - i=k→i≤n→Zq h z TI TO i1 i2 l1 l2 xs ys i→N≤h.objs.size→as.length=i→Made h N xs ys as→h.get? S=some {cls:= .type "list",data:= .seq (as.map Value.ref).toArray c}→(∀b o,h0.get? b=some o→h.get? b=some o)→
   codeAny (model prog w) A (.builtin "list.extend.loop" ⟨[.ref S,.ref z,res],[]⟩) R {s with heap:=h}:=by
 intro k
 induction k with
 |zero=>
  intro i h as c hk hi hst hsz hlen hm hSl hkp
  have hin:i=n:=by omega
  subst hin
  refine codeAny_builtin F.entry_extend_loop ?_
  rw[Around.under_plainId F.plain_extend_loop _]
  show wpAny _ A.in1 (pyNext (.ref z) >>= _) _ _ _
  obtain⟨f0,f1,a1,a2⟩:=hst.zz
  obtain⟨a,b,b1⟩:=hst.to
  refine wpAny_bind (rW (s:={s with heap:=h}) hh D a1 a2 hst.ti b1 hst.t1 hst.e1 (by rw[Array.getElem?_eq_none];omega) fun h' hk'=>?_)
  obtain⟨n1,n2,n3,n4,n5⟩:=hN
  simp only[List.mem_cons,List.not_mem_nil,or_false,not_or]at hS
  have big:∀(b:Addr) (o:Obj),N≤b→h.get? b=some o→h'.get? b=some o:=fun b o hb e=>hk' b o (nb hb n1) (nb hb n2) (nb hb n3) (nb hb n4) e
  refine wpAny_pure (hR h' as c hlen ⟨hm.1,fun j q e=>?_⟩ (hk' _ _ hS.1 hS.2.2.1 hS.2.2.2.1 hS.2.2.2.2.1 hSl) fun b o e=>?_)
  ·obtain⟨m1,m2,x,y,m3,m4,m5⟩:=hm.2 j q e
   have:=big q _ m1 m5
   exact⟨m1,Heap.lt_size this,x,y,m3,m4,this⟩
  ·obtain⟨q1,q2,q3,q4,_⟩:=hfr b o e
   exact hk' b o q1 q2 q3 q4 (hkp b o e)
 |succ k ih=>
  intro i h as c hk hi hst hsz hlen hm hSl hkp
  have hlt:i<n:=by omega
  refine codeAny_builtin F.entry_extend_loop ?_
  rw[Around.under_plainId F.plain_extend_loop _]
  show wpAny _ A.in1 (pyNext (.ref z) >>= _) _ _ _
  obtain⟨f0,f1,a1,a2⟩:=hst.zz
  obtain⟨a,b,b1⟩:=hst.to
  have hxi:xs[i]? =some xs[i]:=Array.getElem?_eq_getElem (by omega)
  have hyi:ys[i]? =some ys[i]:=Array.getElem?_eq_getElem (by omega)
  refine wpAny_bind (oY (s:={s with heap:=h}) D a1 a2 hst.ti b1 hst.t1 hst.t2 hst.e1 hst.e2 hxi hyi fun h' f0' qj z' F' TO' t1' t2' hT hsz' hk'=>?_)
  have hT:fM h' h.objs.size xs[i] ys[i]:=hT
  have hsz':h'.objs.size=h.objs.size+1:=hsz'
  have hk':∀c o,c≠z→c≠TO→c≠i1→c≠i2→h.get? c=some o→h'.get? c=some o:=hk'
  obtain⟨n1,n2,n3,n4,n5⟩:=hN
  have hS2:=hS
  simp only[List.mem_cons,List.not_mem_nil,or_false,not_or]at hS
  have aaG:=hk' _ _ hS.1 hS.2.2.1 hS.2.2.2.1 hS.2.2.2.2.1 hSl
  have nd:=D.nd
  have dl1:=D.l1
  have dl2:=D.l2
  simp only[List.nodup_cons,List.mem_cons,List.not_mem_nil,or_false,not_or,not_false_eq_true,List.nodup_nil,and_true]at nd dl1 dl2
  have st':Zq h' z TI TO i1 i2 l1 l2 xs ys (i+1):=⟨⟨_,_,z',F'⟩,hk' _ _ (Ne.symm nd.1.1) nd.2.1.1 nd.2.1.2.1 nd.2.1.2.2 hst.ti,TO',t1',t2',hst.e1.at fun o e=>hk' _ o dl1.1 dl1.2.1 dl1.2.2.1 dl1.2.2.2 e,hst.e2.at fun o e=>hk' _ o dl2.1 dl2.2.1 dl2.2.2.1 dl2.2.2.2 e⟩
  show wpAny _ A.in1 (updateSeq S (·.push (.ref h.objs.size)) >>= _) _ _ {s with heap:=h'}
  refine wpAny_bind ?_
  have asz:(as.map Value.ref).toArray.size=i:=by rw[List.size_toArray,List.length_map,hlen]
  have oth:∀b o,b≠S→h'.get? b=some o→(h'.update S (Obj.mapSeq (·.push (Value.ref h.objs.size)))).get? b=some o:=fun b o hb e=>(Heap.get?_update_other _ _ (Ne.symm hb)).trans e
  obtain⟨ec,gec⟩:∃ec,(h'.update S (Obj.mapSeq (·.push (Value.ref h.objs.size)))).get? S=some (seqObj "list" ((as.map Value.ref).toArray.push (Value.ref h.objs.size)) ec):=⟨_,get?_update_seq aaG (·.push (Value.ref h.objs.size))⟩
  refine wpAny_updateSeq (s:={s with heap:=h'}) aaG rfl (wpAny_pure ⟨plainId_quiet F.plain_extend_loop _,ih (i+1) (h'.update S (Obj.mapSeq (·.push (Value.ref h.objs.size)))) (as++[h.objs.size]) ec (by omega) hlt (st'.kept hS2 oth) (by rw[Heap.size_update];omega) (by rw[List.length_append,hlen];rfl) ?_ ?_ fun b o e=>?_⟩) (by rw[asz];omega) (by show((as.map Value.ref).toArray.push _).size≤_;rw[Array.size_push,asz];omega)
  ·refine⟨List.nodup_append.mpr ⟨hm.1,by simp,fun x hx y hy e=>?_⟩,fun j q e=>?_⟩
   ·rw[List.mem_singleton.mp hy]at e
    obtain⟨j,hj⟩:=List.getElem?_of_mem hx
    have:=(hm.2 j x hj).2.1
    rw[e]at this
    exact absurd this (Nat.lt_irrefl _)
   ·by_cases hj:j<as.length
    ·rw[List.getElem?_append_left hj]at e
     obtain⟨m1,m2,x,y,m3,m4,m5⟩:=hm.2 j q e
     have e5:=oth q _ (nb m1 n5) (hk' q _ (nb m1 n1) (nb m1 n2) (nb m1 n3) (nb m1 n4) m5)
     exact⟨m1,Heap.lt_size e5,x,y,m3,m4,e5⟩
    ·rw[List.getElem?_append_right (by omega)]at e
     have h00:j - as.length=0:=by
      have:=(List.getElem?_eq_some_iff.mp e).1
      simp at this;omega
     rw[h00]at e
     cases e
     have hji:j=i:=by omega
     subst hji
     have e5:=oth _ _ (nb hsz n5) hT
     exact⟨hsz,Heap.lt_size e5,_,_,hxi,hyi,e5⟩
  ·rw[gec]
   have ea:(as.map Value.ref).toArray.push (Value.ref h.objs.size)=((as++[h.objs.size]).map Value.ref).toArray:=by simp
   rw[ea]
  ·obtain⟨q1,q2,q3,q4,q5⟩:=hfr b o e
   exact oth b o q5 (hk' b o q1 q2 q3 q4 (hkp b o e))
end
section
variable{prog:Program}{w:World}{A:Around}{E:Value→Shared→Prop}{s:Shared}{z TI TO i1 i2 l1 l2:Addr}{xs ys:Array Value}{n:Nat}
theorem PK{Q:Value→Shared→Prop}{h0:Heap}(D:Apart z TI TO i1 i2 l1 l2)(hh:A.handled=none)(hn:n≤sizeLine)(hx:xs.size=n)(hy:ys.size=n)(hst:Zq s.heap z TI TO i1 i2 l1 l2 xs ys 0)(hlt:z<s.heap.objs.size∧TI<s.heap.objs.size∧TO<s.heap.objs.size∧i1<s.heap.objs.size∧i2<s.heap.objs.size∧l1<s.heap.objs.size∧l2<s.heap.objs.size)
  (hfr:∀b o,h0.get? b=some o→b≠z∧b≠TO∧b≠i1∧b≠i2∧b<s.heap.objs.size) (hkp:∀b o,h0.get? b=some o→s.heap.get? b=some o)
  (hQ:∀(h':Heap) (as:List Addr) (c':Nat),as.length=n→Made h' (s.heap.objs.size+1) xs ys as→h'.get? s.heap.objs.size=some {cls:= .type "list",data:= .seq (as.map Value.ref).toArray c'}→(∀b o,h0.get? b=some o→h'.get? b=some o)→Q (.ref s.heap.objs.size) {s with heap:=h'}):
  wpAny (model prog w) A (call (.type "list") [.ref z]) Q E s:=by
 obtain⟨q1,q2,q3,q4,q5,q6,q7⟩:=hlt
 have hS:s.heap.objs.size∉[z,TI,TO,i1,i2,l1,l2]:=by
  simp only[List.mem_cons,List.not_mem_nil,or_false,not_or]
  exact⟨Nat.ne_of_gt q1,Nat.ne_of_gt q2,Nat.ne_of_gt q3,Nat.ne_of_gt q4,Nat.ne_of_gt q5,Nat.ne_of_gt q6,Nat.ne_of_gt q7⟩
 refine callType_codes (Q₁:=fun obj s₁=>obj= .ref s.heap.objs.size∧s₁={s with heap:=s.heap.push {cls:= .type "list",data:= .seq #[]}}) F.called_list (F.typeCall_list_1 _) F.entry_list_init
  (code_list_new _ ⟨rfl,rfl⟩) fun obj s₁ h₁=>?_
 obtain⟨rfl,rfl⟩:=h₁
 have hSl:(s.heap.push {cls:= .type "list",data:= .seq #[]}).get? s.heap.objs.size=some {cls:= .type "list",data:= .seq #[]}:=Heap.get?_push_size _ rfl
 refine⟨⟨_,hSl,rfl⟩,F.args_list_init_2 _ _,?_⟩
 show wpAny _ A.in1.in1 (do let old ←Builtin.List.listItems (.ref s.heap.objs.size);Builtin.List.listUpdate (.ref s.heap.objs.size) (fun _=>#[]);letGo old.toList.reverse;Builtin.List.listExtendWith (.ref s.heap.objs.size) (.ref z) .none) _ _ _
 refine wpAny_bind ?_
 unfold Builtin.List.listItems
 refine wpAny_bind (wpAny_seqItems hSl rfl (wpAny_pure ?_))
 show wpAny _ A.in1.in1 (updateSeq s.heap.objs.size (fun _=>#[]) >>= fun _=>letGo (#[]:Array Value).toList.reverse >>= fun _=>Builtin.List.listExtendWith (.ref s.heap.objs.size) (.ref z) .none) _ _ _
 refine wpAny_bind (wpAny_updateSeq hSl rfl ?_)
 obtain⟨e1,VH⟩:∃e1,((s.heap.push {cls:= .type "list",data:= .seq #[]}).update s.heap.objs.size (Obj.mapSeq (fun _=>(#[]:Array Value)))).get? s.heap.objs.size=some (seqObj "list" #[] e1):=⟨_,get?_update_seq hSl (fun _=>#[])⟩
 have XS:∀b o,b≠s.heap.objs.size→s.heap.get? b=some o→((s.heap.push {cls:= .type "list",data:= .seq #[]}).update s.heap.objs.size (Obj.mapSeq (fun _=>(#[]:Array Value)))).get? b=some o:=fun b o hb e=>(Heap.get?_update_other _ _ (Ne.symm hb)).trans (Heap.get?_push_of_some _ e)
 have sz1:((s.heap.push {cls:= .type "list",data:= .seq #[]}).update s.heap.objs.size (Obj.mapSeq (fun _=>(#[]:Array Value)))).objs.size=s.heap.objs.size+1:=by rw[Heap.size_update,Heap.size_push]
 have Yp:=hst.kept hS XS
 generalize (s.heap.push {cls:= .type "list",data:= .seq #[]}).update s.heap.objs.size (Obj.mapSeq (fun _=>(#[]:Array Value)))=h1 at VH XS sz1 Yp ⊢
 refine wpAny_bind (wpAny_letGo ?_)
 obtain⟨f0,f1,a1,a2⟩:=Yp.zz
 have hT:Shared.TypeIs {s with heap:=h1} (.ref z) "zip":=⟨_,a1,rfl⟩
 unfold Builtin.List.listExtendWith
 refine wpAny_bind (wpAny_typeOf hT ?_)
 have b1:Builtin.List.listSameRef (.ref s.heap.objs.size) (.ref z)=false:=by simp [Builtin.List.listSameRef,Nat.ne_of_gt q1]
 have b2:(Value.type "zip"==Value.type "list")=false:=by decide
 have b3:(Value.type "zip"==Value.type "tuple")=false:=by decide
 simp only[b1,b2,b3,Bool.or_false,Bool.false_eq_true,if_false]
 refine wpAny_bind (yI (s:={s with heap:=h1}) a1 ?_)
 refine wpAny_bind (wpAny_holding ?_)
 unfold Builtin.List.listLengthHint
 refine wpAny_bind (wpAny_specialOf hT Ji ?_)
 show wpAny _ A.in1.in1 (specialOf (Value.ref z) (Str.ofString "__length_hint__") >>= _) _ _ _
 refine wpAny_bind (wpAny_specialOf hT Gk ?_)
 refine wpAny_pure ?_
 show wpAny _ A.in1.in1 (rule "list.extend.makes-room" >>= fun _=>Builtin.List.listTouch (.ref s.heap.objs.size) >>= fun _=>
  again (.builtin "list.extend.loop" ⟨[.ref s.heap.objs.size,.ref z,.none],[]⟩)) _ _ _
 refine wpAny_bind (wpAny_rule ?_)
 refine wpAny_bind ?_
 show wpAny _ A.in1.in1 (updateSeq s.heap.objs.size (·.push .none) >>= fun _=>updateSeq s.heap.objs.size (·.pop)) _ _ _
 refine wpAny_bind (wpAny_updateSeq (s:={s with heap:=h1}) VH rfl ?_)
 have acH:=Heap.get?_update_self (Obj.mapSeq (·.push Value.none)) VH rfl
 refine wpAny_updateSeq acH rfl ?_
 obtain⟨e2,aaF⟩:∃e2,((h1.update s.heap.objs.size (Obj.mapSeq (·.push Value.none))).update s.heap.objs.size (Obj.mapSeq (·.pop))).get? s.heap.objs.size=some (seqObj "list" #[] e2):=by
  obtain⟨e',g'⟩:∃e',(h1.update s.heap.objs.size (Obj.mapSeq (·.push Value.none))).get? s.heap.objs.size=some (seqObj "list" #[Value.none] e'):=⟨_,get?_update_seq VH (·.push Value.none)⟩
  exact⟨_,get?_update_seq g' (·.pop)⟩
 have XR:∀b o,b≠s.heap.objs.size→h1.get? b=some o→((h1.update s.heap.objs.size (Obj.mapSeq (·.push Value.none))).update s.heap.objs.size (Obj.mapSeq (·.pop))).get? b=some o:=fun b o hb e=>(Heap.get?_update_other _ _ (Ne.symm hb)).trans ((Heap.get?_update_other _ _ (Ne.symm hb)).trans e)
 have sz3:((h1.update s.heap.objs.size (Obj.mapSeq (·.push Value.none))).update s.heap.objs.size (Obj.mapSeq (·.pop))).objs.size=s.heap.objs.size+1:=by rw[Heap.size_update,Heap.size_update,sz1]
 have hst3:=Yp.kept hS XR
 generalize (h1.update s.heap.objs.size (Obj.mapSeq (·.push Value.none))).update s.heap.objs.size (Obj.mapSeq (·.pop))=h3 at aaF XR sz3 hst3 ⊢
 refine wpAny_pure ⟨plainId_quiet F.plain_extend_loop _,S8 (A:=A.in1) (R:=wants (fun r s₂=>r= .none∧Q (.ref s.heap.objs.size) s₂) E) (N:=s.heap.objs.size+1) (h0:=h0) (s:=s) D hh hn hx hy hS ⟨Nat.lt_succ_of_lt q1,Nat.lt_succ_of_lt q3,Nat.lt_succ_of_lt q4,Nat.lt_succ_of_lt q5,Nat.lt_succ_self _⟩ (fun b o e=>⟨(hfr b o e).1,(hfr b o e).2.1,(hfr b o e).2.2.1,(hfr b o e).2.2.2.1,Nat.ne_of_lt (hfr b o e).2.2.2.2⟩) .none (fun h' as c' c1 c2 c3 c4=>⟨rfl,hQ h' as c' c1 c2 c3 c4⟩) n 0 h3 [] e2 (by omega) (Nat.zero_le _) hst3 (by omega) rfl ⟨.nil,fun j q e=>by cases e⟩ aaF fun b o e=>?_⟩
 have hb:b≠s.heap.objs.size:=Nat.ne_of_lt (hfr b o e).2.2.2.2
 exact XR b o hb (XS b o hb (hkp b o e))
end
end Z2
namespace L2
open PySem PySem.Spec PyProof.Rows
section
variable{X:Cx}{pins:List (Addr×Obj)}{σ:St}{s:Shared}
theorem z6:∀(ps:List (Addr×List V)) (H:Hp),Inv X pins σ H s→(ps.map (·.1)).Nodup→(∀p∈ps,eV X pins H p.1∧p.2.length≤sizeLine∧∃us:List Value,Vals p.2 us∧s.heap.get? p.1=some {cls:= .type "tuple",data:= .seq us.toArray})→
  ∃H',Inv X pins σ H' s∧tU H H'∧(∀p∈ps,H' p.1=some (.tup p.2))∧∀b,b∉ps.map (·.1)→H' b=H b
 | [],H,I,_,_=>⟨H,I,tU.refl H,fun p hp=>(by cases hp),fun _ _=>rfl⟩
 |p::ps,H,I,nd,hp=>by
  have nd:(p.1::ps.map (·.1)).Nodup:=nd
  obtain⟨n1,n2⟩:=List.nodup_cons.mp nd
  obtain⟨fp,hl,us,rv,ho⟩:=hp p List.mem_cons_self
  have I1:Inv X pins σ (upd H p.1 (.tup p.2)) {s with heap:=s.heap,toks:=s.toks}:=I.adopt (t':=s.toks) fp (fun b u _ e=>e) ⟨hl,us,rv,⟨_,ho,rfl,_,rfl⟩⟩
  have I1:Inv X pins σ (upd H p.1 (.tup p.2)) s:=I1
  obtain⟨H',J,sm,h1,h2⟩:=z6 ps (upd H p.1 (.tup p.2)) I1 n2 fun q hq=>by
   obtain⟨f,r⟩:=hp q (List.mem_cons_of_mem _ hq)
   refine⟨eV.any f ?_,r⟩
   rw[aF (fun z=>n1 (List.mem_map.mpr ⟨q,hq,z⟩))];exact f.1
  refine⟨H',J,(uA fp.1).trans sm,fun q hq=>?_,fun b hb=>?_⟩
  ·rcases List.mem_cons.mp hq with rfl|hq
   ·exact sm _ _ ao
   ·exact h1 q hq
  ·have hb:b∉p.1::ps.map (·.1):=hb
   rw[List.mem_cons,not_or]at hb
   rw[h2 b hb.2,aF hb.1]
end
theorem ym:∀(as:List Addr),Vals (as.map V.ref) (as.map Value.ref)
 | []=> .nil
 |_::as=> .cons rfl (ym as)
theorem lt5(n m a b:Nat)(h:m=n+5)(ha:a<n)(hb:b<n):n+4<m∧n+2<m∧n+3<m∧n<m∧n+1<m∧a<m∧b<m:=by omega
theorem ne5(n b m:Nat)(hb:b<n)(h:m=n+5):b≠n+4∧b≠n+3∧b≠n∧b≠n+1∧b<m:=by omega
def tLZ(K:PySem.W.Frag)(ta:TA):TE:=fun σ H Q=>ta σ H fun vs H1=>∃(a b:Addr) (xs ys:List V),vs=[.ref a,.ref b]∧bC K H1 a xs∧bC K H1 b ys∧xs.length=ys.length∧
 ∀(H':Hp) (D:Addr),tU H1 H'→qL H' D ((xs.zip ys).map fun p=>[p.1,p.2])→Q (.ref D) H'
theorem J0{X:Cx}{e e2:Expr}{ta:TA}{p p2 pos pos2:Pos}(hc:X.calm=true)(hg:Gl X "list")(hm:X.mg "list"=none)(hgz:Gl X "zip")(hmz:X.mg "zip"=none)(ha:PA X [e,e2] ta)
  (hs:starEach [e,e2] X.env=(false,eval e X.env)::starEach [e2] X.env:=by rfl) (hpl:(backTo pos2 (starEach [e2] X.env)).any (·.1)=false:=by rfl)
  (hs1:starEach [.Call (.Name "zip" p2) [e,e2] [] pos2] X.env=[(false,eval (.Call (.Name "zip" p2) [e,e2] [] pos2) X.env)]:=by rfl) (aco:(backTo pos (starEach [] X.env)).any (·.1)=false:=by rfl):
  PE X (.Call (.Name "list" p) [.Call (.Name "zip" p2) [e,e2] [] pos2] [] pos) (tLZ X.K ta):=by
 intro pins s σ H Q I h
 refine wpAny_Call_Name_kw (kY I hg hm (show bootBuiltins "list"=some (.type "list")by decide+kernel) ?_)
 refine PyProof.Rows.callWith_type1 ?_ hs1 aco
 rw[hs1]
 show wpAny _ _ (spliced ((false,eval (.Call (.Name "zip" p2) [e,e2] [] pos2) X.env)::backTo pos [])) _ _ s
 refine Calls.spliced_cons ?_
 refine Call_ (kY I hgz hmz CG (PyProof.Rows.callWith_type1 (cW (ha pos2 pins s σ H _ I h) fun us s1 ⟨vs,H1,I1,r1,q1⟩=>?_) hs hpl))
 obtain⟨a,b,xs,ys,ex,WR,Zj,hxy,q⟩:=q1
 subst ex
 cases r1 with
 |cons r rr=>
  cases rr with
  |cons r' rr=>
   cases rr
   cases r
   cases r'
   obtain⟨its,rv,p1,hz1⟩:=I1.list WR
   obtain⟨its2,ZL,p3,_⟩:=I1.list Zj
   have la:a<s1.heap.objs.size:=p1.lt
   have lb:b<s1.heap.objs.size:=p3.lt
   have vX:=rv.length
   have sW:=ZL.length
   refine call_zip_2 p1.isList p3.isList fun h' hz hTI hTO h1 h2 hsz hk=>?_
   refine Calls.spliced_nil ?_
   have D:Z2.Apart (s1.heap.objs.size+4) (s1.heap.objs.size+2) (s1.heap.objs.size+3) s1.heap.objs.size (s1.heap.objs.size+1) a b:=by
    have out:∀l:Nat,l<s1.heap.objs.size→l∉([s1.heap.objs.size+4,s1.heap.objs.size+3,s1.heap.objs.size,s1.heap.objs.size+1]:List Nat):=fun l hl h=>by
     simp only[List.mem_cons,List.not_mem_nil,or_false]at h
     omega
    exact⟨by simp,out a la,out b lb⟩
   refine Z2.PK (s:={s1 with heap:=h'}) (h0:=s1.heap) (n:=xs.length) (xs:=its.toArray) (ys:=its2.toArray) D (I.ok.hd hc) hz1 (by rw[List.size_toArray];exact vX.symm) (by rw[List.size_toArray];omega)
    ⟨⟨_,_,hz,.inl rfl⟩,hTI,⟨_,_,hTO⟩,h1,h2,p1.isList.at fun o e=>hk _ o e,p3.isList.at fun o e=>hk _ o e⟩ (lt5 _ _ _ _ hsz la lb)
    (fun b o e=>?_) hk fun h'' as c' c1 c2 c3 c4=>?_
   ·exact ne5 _ _ _ (Heap.lt_size e) hsz
   ·have I2:Inv X pins σ H1 {s1 with heap:=h''}:=I1.kept (t':=s1.toks) c4
    have big:∀q:Nat,h'.objs.size≤q→H1 q=none:=fun q hq=>I1.hok.fresh (by omega)
    let ps:List (Addr×List V):=as.zip ((xs.zip ys).map fun p=>[p.1,p.2])
    have pl:((xs.zip ys).map fun p=>[p.1,p.2]).length=as.length:=by rw[List.length_map,List.length_zip,c1];omega
    have Z1:ps.map (·.1)=as:=by
     show(as.zip _).map Prod.fst=as
     rw[List.map_fst_zip (by omega)]
    have at_:∀(i:Nat) (q:Addr) (t:List V),as[i]? =some q→((xs.zip ys).map fun p=>[p.1,p.2])[i]? =some t→∃x y,xs[i]? =some x∧ys[i]? =some y∧t=[x,y]:=fun i q t e1 e2=>by
     rw[List.getElem?_map]at e2
     cases ez:(xs.zip ys)[i]? with
     |none=>rw[ez]at e2;cases e2
     |some pr=>
      rw[ez]at e2
      have e2:=(Option.some.inj e2).symm
      obtain⟨z1,z2⟩:=List.getElem?_zip_eq_some.mp ez
      exact⟨pr.1,pr.2,z1,z2,e2⟩
    obtain⟨H',J,sm,k1,k2⟩:=z6 ps H1 I2 (by rw[Z1];exact c2.1) fun pr hpr=>by
     obtain⟨i,hi⟩:=List.getElem?_of_mem hpr
     obtain⟨i1,i2⟩:=List.getElem?_zip_eq_some.mp hi
     obtain⟨m1,m2,x',y',m3,m4,m5⟩:=c2.2 i pr.1 i1
     obtain⟨x,y,e1,e2,e3⟩:=at_ i pr.1 pr.2 i1 i2
     obtain⟨u1,hu1,ru1⟩:=rv.get e1
     obtain⟨u2,hu2,ru2⟩:=ZL.get e2
     have ex':u1=x':=Option.some.inj (hu1.symm.trans (by simpa using m3))
     have ey':u2=y':=Option.some.inj (hu2.symm.trans (by simpa using m4))
     subst ex' ey'
     have m1:h'.objs.size+1≤pr.1:=m1
     refine⟨I1.vf (by omega) (big _ (by omega)),by rw[e3];show 2≤sizeLine;decide,[u1,u2],?_,m5⟩
     rw[e3]
     exact .cons ru1 (.cons ru2 .nil)
    have hSn:h'.objs.size∉ps.map (·.1):=by
     rw[Z1]
     intro hm'
     obtain⟨i,hi⟩:=List.getElem?_of_mem hm'
     have m1:h'.objs.size+1≤h'.objs.size:=(c2.2 i _ hi).1
     omega
    have hS0:H' h'.objs.size=none:=by rw[k2 _ hSn];exact big _ (Nat.le_refl _)
    have c3:h''.get? h'.objs.size=some {cls:= .type "list",data:= .seq (as.map Value.ref).toArray c'}:=c3
    have J2:Inv X pins σ (upd H' h'.objs.size (.lst (as.map V.ref))) {s1 with heap:=h''}:=
     Inv.adopt (s:={s1 with heap:=h''}) (h':=h'') (t':=s1.toks) J (eV.any (I1.vf (H':=H1) (by omega) (big _ (Nat.le_refl _))) hS0) (fun b u _ e=>e) ⟨by rw[List.length_map,c1];exact hz1,as.map Value.ref,c',ym as,c3⟩
    refine⟨.ref h'.objs.size,_,J2,rfl,q _ _ (sm.trans (uA hS0)) ⟨as,ao,pl.symm,fun i q' t e1 e2=>?_⟩⟩
    have hmem:(q',t)∈ps:=List.mem_of_getElem? (List.getElem?_zip_eq_some.mpr ⟨e1,e2⟩)
    have:=k1 _ hmem
    exact(uA hS0) _ _ this
end L2
namespace PM
open PySem PySem.Spec PyProof.Rows L2 Vbedaf
theorem wM:bootBuiltins "any"=some (.builtin "any"):=by decide+kernel
theorem Tq:bootBuiltins "all"=some (.builtin "all"):=by decide+kernel
theorem pP:bootBuiltins "sum"=some (.builtin "sum"):=by decide+kernel
theorem YX:bootBuiltins "min"=some (.builtin "min"):=by decide+kernel
theorem qt:bootBuiltins "sorted"=some (.builtin "sorted"):=by decide+kernel
theorem Tp:bootBuiltins "set"=some (.type "set"):=by decide+kernel
theorem Wa:bootBuiltins "list"=some (.type "list"):=by decide+kernel
theorem cD{X:Cx}{x:Str}{i:Int}{pos:Pos}(h:∃t,X.mg x=some (.int i t))(hg:Gl X x:=by rfl)(hd:(x==("__debug__":Str))=false:=by decide):PE X (.Name x pos) (tC (.int i)):=by
 obtain⟨t,h⟩:=h
 exact DR hg h ⟨t,rfl⟩ hd
theorem v9{X:Cx}{B:Bs}(i:In B X):aaY X (Rh B.K):=by
 rw[←i.K]
 clear i
 intro pins s σ H x y v u Q I rx ry h
 obtain⟨p,xs,i,z,rfl,rfl,hq,he,q⟩:=h
 cases rx
 obtain⟨t,rfl⟩:=ry
 obtain⟨its,r,pl,hz⟩:=I.list hq
 obtain⟨j,h1,h2,h3,h4,h5⟩:=F_ he
 obtain⟨w,ew,ZK⟩:=r.get h2
 have hl:=r.length
 have hn:=yW
 have fin:EP X pins σ Q w s:=⟨z,H,I,ZK,q⟩
 by_cases h0:0≤i
 ·have hj:i.toNat=j:=by
   rw[seqIndex_of h0 h5]at h1
   exact Option.some.inj h1
  exact wpAny_getItem_list pl.isList h0 (by omega) (by rw[hj];simpa using ew) fin
 ·have hj:(i+(its.toArray.size:Int)).toNat=j:=by
   rw[seqIndex_neg (by omega) h4]at h1
   rw[List.size_toArray,←hl]
   exact Option.some.inj h1
  exact wpAny_getItem_list_neg pl.isList (by omega) (by rw[List.size_toArray]<;>omega) (by omega) (by rw[hj];simpa using ew) fin
local macro_rules|`(tactic|ac_nf)=>`(tactic|dsimp only[Xk,Xl,Wj,QH,Ck,Zc,tUn,Lx,tCB,QF,Jt,Lq,Xq,QD,tC,tB,Xu,tOr,Xn,QJ,Xm,Wl,tIf,Xo,Xj,Di,tBM,ZF,M8,Vx,Sh,Sg,Vy,Ri,rI,rU,rEq,rNe,Xi,VL,Sy,Yx,Yw,Xr,QG,ipI,Xz,QC,tSl,QB,Ls])
theorem vr{σ:L2.St}{i:Nat}{H:Hp}{Q:VK}{v:V}(e:σ[i]? =some (some v))(q:Q v H):ug i σ H Q:=⟨v,e,q⟩
def within(o:Option Int)(r:Int):Bool:=match o with
 |none=>false
 |some x=>decide (x≤r)
def mR(_:Bs)(_:List aG)(_:Addr):Sp:=fun vs H Q _=>∃(o:Option Int) (r:Int),vs=[oV o,.int r]∧Q (.bl (within o r)) H
set_option hygiene false
local macro_rules|`(⋯)=>`((by exact ⟨rfl,rfl,rfl,rfl,rfl⟩:In B _))
local macro_rules|`(∅)=>`((hr.mono (by decide)))
local macro_rules|`(tactic|exists $x)=>`(tactic|(have nd:=aJ.nd $x;refine F.df $x (fun vs H Q E h=>?_) (fun f cdv A outer s0 H vs Q E hr h=>?_)))
local macro_rules|`(tactic|symm_saturate)=>`(tactic|exact ⟨rfl,rfl,rfl,by decide +kernel,rfl,by decide +kernel,by decide +kernel⟩)
set_option hygiene true
theorem Dw:aJ ["far","reach"] ["far","reach"] (au (top 42)):=by symm_saturate
theorem Ef{B:Bs}{L:List aG}{C c:Addr}(T:Txt B C)(F:bJ B "is_within" (top 42) ["far","reach"]):Df B 2 "is_within" ["far","reach"] (mR B L C):=by
 exists Dw
 ·obtain⟨_,_,rfl,_⟩:=h
  rfl
 ·obtain⟨o,r,rfl,k⟩:=h
  refine⟨_,(aq (az (DW (fO iB (pv 0) dw (by exact aX _)) (yL (fO fj (pv 0) (pv 1) (by exact aX _)))))),?_⟩
  cases o with
  |none=>exact⟨_,rfl,rfl,_,rfl,k⟩
  |some x=>exact⟨_,rfl,rfl,_,rfl,aQ ⟨_,rfl,_,rfl,_,_,rfl,rfl,k⟩⟩
def Gives(L:List aG)(H:Hp)(Q:VK)(ns:List Int):Prop:=∀(H':Hp) (p:Addr),Go L H H'→H' p=some (.lst (ns.map V.int))→Q (.ref p) H'
def jT(_:Bs)(L:List aG)(_:Addr):Sp:=fun vs H Q _=>∃(a:Addr) (ns:List Int),vs=[.ref a]∧H a=some (.lst (ns.map V.int))∧ns.length≤100000∧Gives L H Q (ns.length::ns)
theorem N8:aJ ["numbers"] ["numbers"] (au (top 27)):=by symm_saturate
theorem Oq{B:Bs}{L:List aG}{C c:Addr}(T:Txt B C)(F:bJ B "listed" (top 27) ["numbers"]):Df B 2 "listed" ["numbers"] (jT B L C):=by
 exists N8
 ·obtain⟨_,_,rfl,_⟩:=h
  rfl
 ·obtain⟨a,ns,rfl,h,hz,k⟩:=h
  refine⟨_,(aq (az (cH o5 (aN (aa (aY (bA ⋯) rfl T.gn PySem.boot_len (aa (pv 0) aj)) aj)) (pv 0)))),?_⟩
  refine⟨_,rfl,a,_,rfl,.inl (bC.of h),by show 1≤sizeLine;decide,fun p hp=>?_⟩
  refine⟨_,rfl,p,a,_,_,rfl,rfl,ao,(Go.laid (L:=L) hp).lst h,by rw[sizeLine_eq];simp;omega,fun q hq=>?_⟩
  have g:Go L H (upd (upd H p (.lst [.int (ns.map V.int).length])) q (.lst ([.int (ns.map V.int).length]++ns.map V.int))):=(Go.laid hp).trans (Go.laid hq)
  exact k _ q g (by rw[ao];simp)
def h_(_:Bs)(L:List aG)(_:Addr):Sp:=fun vs H Q _=>∃(o:Option Int),vs=[oV o]∧Gives L H Q (maybe o)
theorem uw:aJ ["number"] ["number"] (au (top 29)):=by symm_saturate
theorem uI{B:Bs}{L:List aG}{C c:Addr}(T:Txt B C)(F:bJ B "maybe_a_number" (top 29) ["number"]):Df B 2 "maybe_a_number" ["number"] (h_ B L C):=by
 exists uw
 ·obtain⟨_,rfl,_⟩:=h
  rfl
 ·obtain⟨o,rfl,k⟩:=h
  refine⟨_,(ak (bB (aO J3 (pv 0) dw (by exact aX _)) (aq (az (aN (aa aA (aa aA aj))))) aK)
   (aq (az (aN (aa aA (aa (pv 0) aj)))))),?_⟩
  cases o with
  |none=>exact⟨_,rfl,rfl,_,rfl,by show 2≤sizeLine;decide,fun p hp=>k _ p (Go.laid hp) ao⟩
  |some x=>exact⟨_,rfl,rfl,_,rfl,_,rfl,by show 2≤sizeLine;decide,fun p hp=>k _ p (Go.laid hp) ao⟩
def cX(_:Bs)(L:List aG)(C:Addr):Sp:=fun vs H Q _=>∃(m:Ad) (s:State) (v:Int),vs=[.ref m.p,.int v]∧aR L C H m s∧Q (.bl (okV s v)) H
theorem oR:aJ ["self","v"] ["self","v"] (au (inClass (top 41) 2)):=by symm_saturate
theorem yP{B:Bs}{L:List aG}{C c:Addr}(T:Txt B C)(F:lV B C "has_place" "Roadmap.has_place" (inClass (top 41) 2) ["self","v"]):Mt B C 2 "has_place" ["self","v"] (cX B L C):=by
 have nd:=oR.nd
 refine F.mt oR (fun vs H Q E h=>?_) (fun f cdv A outer s0 H vs Q E hr h=>?_)
 ·obtain⟨_,_,_,rfl,_⟩:=h
  rfl
 ·obtain⟨m,s,v,rfl,M,k⟩:=h
  refine⟨_,(aq (az (Hm fj Hq aA (pv 1) (aV ⋯ (pv 0) (by rfl))))),?_⟩
  refine⟨_,rfl,_,_,rfl,rfl,_,rfl,vZ (fun h=>fW T M rfl ⟨_,_,rfl,rfl,?_⟩) (fun h=>?_)⟩
  ·have e:okV s v=decide (v< (size s:Int)):=by
    rw[Bool.eq_iff_iff,PR.fP,decide_eq_true_iff]
    exact⟨fun z=>z.2,fun z=>⟨of_decide_eq_true h,z⟩⟩
   rw[e]at k;exact k
  ·have e:okV s v=false:=by
    rw[Bool.eq_false_iff,ne_eq,PR.fP]
    exact fun z=>h (decide_eq_true z.1)
   rw[e]at k;exact k
theorem aR.cell{L:List aG}{C:Addr}{H:Hp}{m:Ad}{s:State}(M:aR L C H m s){i:Nat}(hi:i<size s):∃q,m.rs[i]? =some q∧(m.rs.map V.ref)[i]? =some (.ref q)∧H q=some (.lst ((PR.row s i).map oV))∧(PR.row s i).length=size s:=by
 have hl:i<m.rs.length:=by rw[M.table.len];exact hi
 refine⟨m.rs[i],List.getElem?_eq_getElem hl,by rw[List.getElem?_map,List.getElem?_eq_getElem hl];rfl,M.table.rows i _ (List.getElem?_eq_getElem hl),by unfold PR.row;simp⟩
theorem rR{s:State}{i j:Nat}(hi:i<size s)(hj:j<size s):((PR.row s i).map oV)[j]? =some (oV (cell (distances s) i j)):=by
 rw[List.getElem?_map,←PR.Rb hi,List.getD_eq_getElem?_getD]
 have:j< (PR.row s i).length:=by unfold PR.row;simpa using hj
 rw[List.getElem?_eq_getElem this];rfl
theorem CQ{s:State}{i j:Nat}{r:Int}:within (cell (distances s) i j) r=inReach (distances s) r i j:=rfl
def eX(_:Bs)(L:List aG)(C:Addr):Sp:=fun vs H Q _=>∃(m:Ad) (s:State) (p v:Nat),vs=[.ref m.p,.int p,.int v]∧aR L C H m s∧p<size s∧v<size s∧Q (.bl (inReach (distances s) s.reach p v)) H
theorem qZ:aJ ["self","post","v"] ["self","post","v"] (au (inClass (top 41) 5)):=by symm_saturate
theorem Aw{B:Bs}{L:List aG}{C c:Addr}(T:Txt B C)(F:lV B C "in_reach" "Roadmap.in_reach" (inClass (top 41) 5) ["self","post","v"])(gV:Df B 2 "is_within" ["far","reach"] (mR B L C)):Mt B C 4 "in_reach" ["self","post","v"] (eX B L C):=by
 have nd:=qZ.nd
 refine F.mt qZ (fun vs H Q E h=>?_) (fun f cdv A outer s0 H vs Q E hr h=>?_)
 ·obtain⟨_,_,_,_,rfl,_⟩:=h
  rfl
 ·obtain⟨m,s,p,v,rfl,M,hp,hv,k⟩:=h
  refine⟨_,(aq (az (aZ gV ⋯ ∅ (aa (bc (aD ⋯) (bc (aD ⋯) (aV ⋯ (pv 0) (by rfl)) (pv 1) (by intro _ _;rfl)) (pv 2) (by intro _ _;rfl)) (aa (aV ⋯ (pv 0) (by rfl)) aj))))),?_⟩
  obtain⟨q,h1,h2,h3,h4⟩:=M.cell hp
  ac_nf
  refine nq T M rfl ⟨_,rfl,bj M.table.dist rfl h2 ⟨_,rfl,bj h3 rfl (rR hp hv) (vm T M rfl ⟨_,_,rfl,?_⟩)⟩⟩
  exact k
theorem Ia:∀(r:Vbedaf.Row) (d:Int),PR.firstOf r=some d→((r.filter fun o=>o.isSome).map oV)[0]? =some (.int d)
 | [],d,h=>by cases h
 |none::r,d,h=>by
  have h:PR.firstOf r=some d:=h
  have:=Ia r d h
  rw[List.filter_cons,if_neg (by decide)];exact this
 |some z::r,d,h=>by
  have h:some z=some d:=h
  cases h
  rw[List.filter_cons,if_pos (by rfl)];rfl
def rO(_:Bs)(L:List aG)(C:Addr):Sp:=fun vs H Q _=>∃(m:Ad) (s:State) (v:Nat),vs=[.ref m.p,.int v]∧aR L C H m s∧v<size s∧∀H',Go L H H'→Q (.int (depth (distances s) v)) H'
theorem yG:aJ ["self","v","there","far"] ["self","v"] (au (inClass (top 41) 6)):=by symm_saturate
theorem J5{B:Bs}{L:List aG}{C c:Addr}(T:Txt B C)(F:lV B C "depth" "Roadmap.depth" (inClass (top 41) 6) ["self","v"]):Mt B C 2 "depth" ["self","v"] (rO B L C):=by
 have nd:=yG.nd
 refine F.mt yG (fun vs H Q E h=>?_) (fun f cdv A outer s0 H vs Q E hr h=>?_)
 ·obtain⟨_,_,_,rfl,_⟩:=h
  rfl
 ·obtain⟨m,s,v,rfl,M,hv,k⟩:=h
  refine⟨_,(ak (gm rfl nd (i:=2) rfl rfl rfl (aW ⋯ (bc (aD ⋯) (aV ⋯ (pv 0) (by rfl)) (pv 1) (by intro _ _;rfl))) (bh (own:=[("far",3)]) (by kernel_rfl)) (fun _ _ _ _ _=>(aH (i:=3) nd rfl (Or.inl rfl))) (fun _ _ _ _ _=>(fc (aO iB (pv 3) dw (by exact aX _)))) (fun _ _ _ _ _=>(pv 3)))
   (aq (az (bc (aD ⋯) (pv 2) aA (by intro _ _;rfl))))),?_⟩
  obtain⟨q,h1,h2,h3,h4⟩:=M.cell hv
  ac_nf
  refine bO ?_
  ac_nf
  refine nq T M rfl ⟨_,rfl,bj M.table.dist rfl h2 ⟨q,rfl,⟨_,bC.of h3⟩,fun D hD=>?_⟩⟩
  refine bU (L:=L) (xs:=PR.row s v) (fun o=>o.isSome) oV hD bx (fun H' g=>bC.of (g.lst h3)) (by rw[h4,sizeLine_eq];have:=M.wf.hi;omega) (fun x y H' hx g e Qn Qy hn hy=>?_) (fun H' g hl=>?_)
  ·subst e
   ac_nf
   cases x with
   |none=>exact⟨rfl,_,rfl,rfl,_,rfl,hn rfl H' (Go.refl _ _)⟩
   |some z=>exact⟨rfl,_,rfl,rfl,_,rfl,aQ ⟨_,rfl,hy rfl H' (Go.refl _ _)⟩⟩
  ·exact⟨_,rfl,bj hl rfl (Ia _ _ (PR.Ob M.wf hv)) (k H' g)⟩
def dg(v:Nat):V:= .int v
theorem dR(l:List Nat):l.map dg=(l.map nat).map V.int:=by rw[List.map_map];rfl
def Gi(L:List aG)(H:Hp)(Q:VK)(l:List Nat):Prop:=∀(H':Hp) (p:Addr),Go L H H'→H' p=some (.lst (l.map dg))→Q (.ref p) H'
theorem cJ{n:Nat}:Walks (Zt 0 n) (fun _=>True) (List.range n) (fun i v _=>v=dg i):=by
 have:=yl (lo:=0) (n:=n)
 refine⟨fun i x H h c=>?_,this.stop⟩
 obtain⟨h1,h2⟩:=this.go i x H h c
 refine⟨h1,fun v H' y=>?_⟩
 obtain⟨e1,e2⟩:=h2 v H' y
 exact⟨e1,by rw[e2,Int.zero_add];rfl⟩
theorem kh{α:Type}{s:State}{v:Nat}(hv:v<size s)(f:Vbedaf.Place→α):(s.places.map f)[v]? =some (f (placeOf s v)):=by
 unfold Vbedaf.placeOf
 rw[List.getElem?_map,List.getD_eq_getElem?_getD,List.getElem?_eq_getElem hv];rfl
theorem d7{L:List aG}{C:Addr}{H:Hp}{m:Ad}{s:State}(M:aR L C H m s): -(2 ^ 62)≤(size s:Int)∧(size s:Int)<2 ^ 62∧(List.range (size s)).length≤sizeLine:=by
 have:=M.wf.hi
 refine⟨by omega,by omega,by rw[List.length_range,sizeLine_eq];omega⟩
def dJ(_:Bs)(L:List aG)(C:Addr):Sp:=fun vs H Q _=>∃(m:Ad) (s:State),vs=[.ref m.p]∧aR L C H m s∧Gi L H Q (PR.kO s)
theorem jH:aJ ["self","v"] ["self"] (au (inClass (top 41) 7)):=by symm_saturate
theorem qG{B:Bs}{L:List aG}{C c:Addr}(T:Txt B C)(F:lV B C "places_in_need" "Roadmap.places_in_need" (inClass (top 41) 7) ["self"]):Mt B C 2 "places_in_need" ["self"] (dJ B L C):=by
 have nd:=jH.nd
 refine F.mt jH (fun vs H Q E h=>?_) (fun f cdv A outer s0 H vs Q E hr h=>?_)
 ·obtain⟨_,_,rfl,_⟩:=h
  rfl
 ·obtain⟨m,s,rfl,M,k⟩:=h
  refine⟨_,(aq (az (dO rfl nd (dN rfl T.d_ (aa (aV ⋯ (pv 0) (by rfl)) aj)) (bh (own:=[("v",1)]) (by kernel_rfl)) (fun _ _ _ _ _=>(aH (i:=1) nd rfl (Or.inl rfl))) (fun _ _ _ _ _=>(fc (aO uG (bc (aD ⋯) (aV ⋯ (pv 0) (by rfl)) (pv 1) (by intro _ _;rfl)) aA (by exact aX _)))) (fun _ _ _ _ _=>(pv 1))))),?_⟩
  obtain⟨z1,z2,z3⟩:=d7 M
  refine bO ?_
  ac_nf
  refine fW T M rfl ⟨_,rfl,z1,z2,fun D hD=>?_⟩
  refine bU (L:=L) (xs:=List.range (size s)) (fun v=>decide (0< (placeOf s v).need)) dg hD cJ (fun _ _=>trivial) z3 (fun x y H' hx g e Qn Qy hn hy=>?_) (fun H' g hl=>k H' D g hl)
  subst e
  ac_nf
  have hx:=List.mem_range.mp hx
  refine⟨rfl,gq T (M.go g) rfl ⟨_,rfl,bj (M.go g).needs rfl (kh hx _) ⟨_,_,rfl,rfl,_,rfl,vZ (fun h=>⟨_,rfl,hy ?_ H' (Go.refl _ _)⟩) (fun h=>hn ?_ H' (Go.refl _ _))⟩⟩⟩
  ·have h:=of_decide_eq_true h
   exact decide_eq_true (by omega)
  ·refine decide_eq_false fun z=>h (decide_eq_true ?_)
   omega
def bT(_:Bs)(L:List aG)(C:Addr):Sp:=fun vs H Q _=>∃(m:Ad) (s:State),vs=[.ref m.p]∧aR L C H m s∧Gi L H Q (PR.free s)
theorem iu:aJ ["self","v"] ["self"] (au (inClass (top 41) 8)):=by symm_saturate
theorem mZ{B:Bs}{L:List aG}{C c:Addr}(T:Txt B C)(F:lV B C "places_not_barred" "Roadmap.places_not_barred" (inClass (top 41) 8) ["self"]):Mt B C 2 "places_not_barred" ["self"] (bT B L C):=by
 have nd:=iu.nd
 refine F.mt iu (fun vs H Q E h=>?_) (fun f cdv A outer s0 H vs Q E hr h=>?_)
 ·obtain⟨_,_,rfl,_⟩:=h
  rfl
 ·obtain⟨m,s,rfl,M,k⟩:=h
  refine⟨_,(aq (az (dO rfl nd (dN rfl T.d_ (aa (aV ⋯ (pv 0) (by rfl)) aj)) (bh (own:=[("v",1)]) (by kernel_rfl)) (fun _ _ _ _ _=>(aH (i:=1) nd rfl (Or.inl rfl))) (fun _ _ _ _ _=>(fc (aO du (bc (aD ⋯) (aV ⋯ (pv 0) (by rfl)) (pv 1) (by intro _ _;rfl)) aA (by exact aX _)))) (fun _ _ _ _ _=>(pv 1))))),?_⟩
  obtain⟨z1,z2,z3⟩:=d7 M
  refine bO ?_
  ac_nf
  refine fW T M rfl ⟨_,rfl,z1,z2,fun D hD=>?_⟩
  refine bU (L:=L) (xs:=List.range (size s)) (fun v=> !(placeOf s v).barred) dg hD cJ (fun _ _=>trivial) z3 (fun x y H' hx g e Qn Qy hn hy=>?_) (fun H' g hl=>k H' D g hl)
  subst e
  ac_nf
  have hx:=List.mem_range.mp hx
  refine⟨rfl,qi T (M.go g) rfl ⟨_,rfl,bj (M.go g).barred rfl (kh hx _) ⟨rfl,_,rfl,?_⟩⟩⟩
  cases hb:(placeOf s x).barred with
  |true=>exact hn (by rw[hb];rfl) H' (Go.refl _ _)
  |false=>exact aQ ⟨_,rfl,hy (by rw[hb];rfl) H' (Go.refl _ _)⟩
theorem qd{s:State}{v:Nat}(h:v∈PR.free s):v<size s:=(PR.HD.mp h).1
theorem yR{s:State}{v:Nat}(h:v∈PR.kO s):v<size s:=List.mem_range.mp (List.mem_filter.mp h).1
theorem vd(s:State):(PR.free s).length≤size s:=PR.bH _ _
theorem my(s:State):(PR.kO s).length≤size s:=PR.bH _ _
def seen(s:State)(v:Nat):Bool:=((PR.free s).map fun p=>inReach (distances s) s.reach p v).any id
def je(_:Bs)(L:List aG)(C:Addr):Sp:=fun vs H Q _=>∃(m:Ad) (s:State) (v:Nat),vs=[.ref m.p,.int v]∧aR L C H m s∧v<size s∧∀H',Go L H H'→Q (.bl (seen s v)) H'
theorem jg:aJ ["self","v","post"] ["self","v"] (au (inClass (top 41) 11)):=by symm_saturate
theorem o6{B:Bs}{L:List aG}{C c:Addr}(T:Txt B C)(F:lV B C "can_have_a_post" "Roadmap.can_have_a_post" (inClass (top 41) 11) ["self","v"])(aM:Mt B C 2 "places_not_barred" ["self"] (bT B L C))(bL:Mt B C 4 "in_reach" ["self","post","v"] (eX B L C)):Mt B C 6 "can_have_a_post" ["self","v"] (je B L C):=by
 have nd:=jg.nd
 refine F.mt jg (fun vs H Q E h=>?_) (fun f cdv A outer s0 H vs Q E hr h=>?_)
 ·obtain⟨_,_,_,rfl,_⟩:=h
  rfl
 ·obtain⟨m,s,v,rfl,M,hv,k⟩:=h
  refine⟨_,(aq (az (aY (ql ⋯ rfl) rfl T.wZ wM (aa (dO rfl nd (aW ⋯ (iz (pv 0) ⋯ T.cl aM ∅)) (bh (own:=[("post",2)]) (by kernel_rfl)) (fun _ _ _ _ _=>(aH (i:=2) nd rfl (Or.inl rfl))) (fun _ _ _ _ _=>cu) (fun _ _ _ _ _=>(gQ (pv 0) ⋯ T.cl bL ∅ (aa (pv 2) (aa (pv 1) aj))))) aj)))),?_⟩
  ac_nf
  refine bO ?_
  ac_nf
  refine cP M rfl (by decide+kernel) ⟨m,s,rfl,M,fun H1 p g1 hl=>⟨p,rfl,⟨_,bC.of hl⟩,fun D hD=>?_⟩⟩
  have M1:=M.go g1
  refine bU (L:=L) (xs:=PR.free s) (fun _=>true) (fun u=>V.bl (inReach (distances s) s.reach u v)) hD bx (fun H' g=>bC.of (g.lst hl)) (by rw[sizeLine_eq];have:=vd s;have:=M.wf.hi;omega) (fun x y H' hx g e Qn Qy hn hy=>?_) (fun H' g hl2=>?_)
  ·subst e
   ac_nf
   exact⟨rfl,aQ (cP (M1.go g) rfl (by decide+kernel) ⟨_,rfl,_,rfl,m,s,x,v,rfl,M1.go g,qd hx,hv,hy rfl H' (Go.refl _ _)⟩)⟩
  ·rw[List.filter_eq_self.mpr (fun _ _=>rfl)]at hl2
   exact⟨D,_,rfl,bC.of (by rw[List.map_map];exact hl2),k H' (g1.trans g)⟩
theorem bG{α:Type}(l:List α):l.filter (fun _=>true)=l:=List.filter_eq_self.mpr (fun _ _=>rfl)
theorem JZ(s:State)(r:Int)(u:Nat):posts s (distances s) r u=(PR.free s).filter fun v=>inReach (distances s) r v u:=by
 unfold posts PR.free
 rw[List.filter_filter]
 congr 1
 funext v
 exact Bool.and_comm _ _
theorem Pu{α:Type}(l:List α)(p:α→Bool):(l.filter p).isEmpty= !(l.any p):=by
 induction l with
 |nil=>rfl
 |cons x l ih=>rw[List.filter_cons,List.any_cons];cases p x<;>simp [ih]
theorem Tr(s:State):(PR.kO s).filter (fun v=> !seen s v)=blind s (distances s) s.reach:=by
 unfold PR.kO blind
 rw[List.filter_filter]
 congr 1
 funext v
 rw[JZ,Pu]
 unfold seen needOf
 rw[List.any_map,Bool.and_comm]
 rfl
def ie(_:Bs)(L:List aG)(C:Addr):Sp:=fun vs H Q _=>∃(m:Ad) (s:State),vs=[.ref m.p]∧aR L C H m s∧Gi L H Q (blind s (distances s) s.reach)
theorem lK:aJ ["self","v"] ["self"] (au (inClass (top 41) 10)):=by symm_saturate
theorem uJ{B:Bs}{L:List aG}{C c:Addr}(T:Txt B C)(F:lV B C "blind_places" "Roadmap.blind_places" (inClass (top 41) 10) ["self"])(gf:Mt B C 6 "can_have_a_post" ["self","v"] (je B L C))(bK:Mt B C 2 "places_in_need" ["self"] (dJ B L C)):Mt B C 8 "blind_places" ["self"] (ie B L C):=by
 have nd:=lK.nd
 refine F.mt lK (fun vs H Q E h=>?_) (fun f cdv A outer s0 H vs Q E hr h=>?_)
 ·obtain⟨_,_,rfl,_⟩:=h
  rfl
 ·obtain⟨m,s,rfl,M,k⟩:=h
  refine⟨_,(aq (az (dO rfl nd (aW ⋯ (iz (pv 0) ⋯ T.cl bK ∅)) (bh (own:=[("v",1)]) (by kernel_rfl)) (fun _ _ _ _ _=>(aH (i:=1) nd rfl (Or.inl rfl))) (fun _ _ _ _ _=>(fc (d9 (cz (gQ (pv 0) ⋯ T.cl gf ∅ (aa (pv 1) aj)))))) (fun _ _ _ _ _=>(pv 1))))),?_⟩
  ac_nf
  refine bO ?_
  ac_nf
  refine cP M rfl (by decide+kernel) ⟨m,s,rfl,M,fun H1 p g1 hl=>⟨p,rfl,⟨_,bC.of hl⟩,fun D hD=>?_⟩⟩
  have M1:=M.go g1
  refine bU (L:=L) (xs:=PR.kO s) (fun v=> !seen s v) dg hD bx (fun H' g=>bC.of (g.lst hl)) (by rw[sizeLine_eq];have:=my s;have:=M.wf.hi;omega) (fun x y H' hx g e Qn Qy hn hy=>?_) (fun H' g hl2=>?_)
  ·subst e
   ac_nf
   refine⟨rfl,cP (M1.go g) rfl (by decide+kernel) ⟨_,rfl,m,s,x,rfl,M1.go g,yR hx,fun H2 g2=>⟨_,rfl,?_⟩⟩⟩
   cases e:seen s x with
   |true=>exact hn (by rw[e];rfl) H2 g2
   |false=>exact aQ ⟨_,rfl,hy (by rw[e];rfl) H2 g2⟩
  ·rw[Tr]at hl2
   exact k H' D (g1.trans g) hl2
def Ho(p:Int×Int):List V:=[.int p.1,.int p.2]
def xf(ps:List (Int×Int)):List Int:=ps.flatMap fun p=>[p.1,p.2]
theorem qe(ps:List (Int×Int)):(xf ps).length=2*ps.length:=PR.qg _ _ _
def gC(_:Bs)(L:List aG)(_:Addr):Sp:=fun vs H Q _=>∃(a:Addr) (ps:List (Int×Int)),vs=[.ref a]∧qL H a (ps.map Ho)∧ps.length≤100000∧Gives L H Q (ps.length::xf ps)
theorem xH:aJ ["pairs","numbers","place","number"] ["pairs"] (au (top 28)):=by symm_saturate
theorem xQ{B:Bs}{L:List aG}{C c:Addr}(T:Txt B C)(F:bJ B "listed_pairs" (top 28) ["pairs"]):Df B 2 "listed_pairs" ["pairs"] (gC B L C):=by
 exists xH
 ·obtain⟨_,_,rfl,_⟩:=h
  rfl
 ·obtain⟨a,ps,rfl,h,hz,k⟩:=h
  refine⟨_,(ak (a_ (i:=1) nd rfl (Or.inl rfl) (aN (aa (aY (bA ⋯) rfl T.gn PySem.boot_len (aa (pv 0) aj)) aj)))
   (ak (dH PassesOwn.never rfl (aW ⋯ (pv 0)) (gF (n:=2) ⋯ rfl (bI (aH (i:=2) nd rfl (Or.inl rfl)) (bI (aH (i:=3) nd rfl (Or.inl rfl)) gD)))
   (aq (cQ (jK PySem.F.plainAttrs_list PySem.F.slot_list_extend PySem.F.type_list_extend jW (pv 1) (aa (aN (aa (pv 2) (aa (pv 3) aj))) aj)))))
   (aq (az (pv 1))))),?_⟩
  ac_nf
  obtain⟨as,h1,h2,h3⟩:=id h.ex
  refine⟨_,rfl,a,_,rfl,.inl (bC.of h1),by show 1≤sizeLine;decide,fun q hq=>cM ?_⟩
  have e1:(as.map V.ref).length=ps.length:=by rw[List.length_map,h2,List.length_map]
  rw[e1]
  ac_nf
  have g0:Go L H (upd H q (.lst [.int ps.length])):=Go.laid hq
  refine⟨_,rfl,a,rfl,⟨_,bC.of (g0.lst h1)⟩,bZ (fB (xs:=ps) (f:=Ho)) (fun i σ H'=>∃(v2 v3:Option V),σ=[some (.ref a),some (.ref q),v2,v3]∧Go L H H'∧H' q=some (.lst ((ps.length::xf (ps.take i):List Int).map V.int)))
   ⟨_,_,rfl,g0,ao⟩ (fun i σ H' ⟨_,_,_,g,_⟩=>h.go g) ?_ ?_⟩
  ·rintro i x v σ H' hi ⟨p,rfl,hp⟩ ⟨v2,v3,rfl,g,hl⟩
   ac_nf
   refine⟨p,_,rfl,mF.of hp,rfl,_,_,rfl,_,_,rfl,rfl,?_⟩
   refine⟨_,rfl,.inl ⟨rfl,_,bC.of hl⟩,_,rfl,_,rfl,by show 2≤sizeLine;decide,fun b hb=>?_⟩
   have g2:Go L H' (upd H' b (.lst [.int x.1,.int x.2])):=Go.laid hb
   refine⟨q,b,_,_,rfl,rfl,g2.lst hl,ao,?_,?_⟩
   ·have:=qe (ps.take i)
    rw[List.length_map,List.length_cons,this,List.length_take,sizeLine_eq]
    show _+2≤_
    omega
   ·refine⟨_,_,rfl,(g.trans g2).put hq (g2.lst hl),?_⟩
    rw[ao,take_snoc hi]
    unfold xf
    rw[List.flatMap_append,←List.cons_append,List.map_append]
    rfl
  ·rintro σ H' ⟨v2,v3,rfl,g,hl⟩
   rw[List.take_length]at hl
   exact⟨_,rfl,k H' q g hl⟩
theorem Kf{B:Bs}{L:List aG}{N:List Str}{qual:Str}{st:Stmt}{f c:Addr}{A:Around}{outer:List Env}{s:Shared}{H:Hp}{E:XK}{t:aG}{params:Arguments}{scope:Scope}{pn:Str}{ip:Nat}{Bd:Pos}
  (hL:Jd B L t c) (hq:qual++".<locals>."++"<lambda>"=t.qual) (hp:t.pos=Bd) (hd:defaultsOf params (W4 B N qual st f (.ref c) A outer s H E).env=([],[])) (ok:Nm N (au st) scope pn ip) (nf:∀y∈(au st).names,y.2≠ .free)
  (bind:∀(body:Expr) (pm ctv:Value) (c':Addr) (u:Value),bindArgs (PySem.W.kla_fn "<lambda>" t.qual params body scope (bN (W4 B N qual st f (.ref c) A outer s H E).env.cells scope.names []) pm (.ref c') ctv) ⟨[u],[]⟩=pure [(pn,u)]):
  Tw (W4 B N qual st f (.ref c) A outer s H E) t params scope (bN (W4 B N qual st f (.ref c) A outer s H E).env.cells scope.names []) pn ip Bd:=by
 refine⟨⟨c,rfl,hL.hd⟩,hL.bm,hq,hp,zR fun y hy e=>?_,rfl,hd,ok,bind⟩
 rcases ok.free y hy e with k|k
 ·exact zU k
 ·exact absurd rfl (nf _ (PySem.mem_of_lookup k))
theorem Hl{ns:List Int}{l:List Nat}(h:ns.Perm (l.map nat)):ns=(ns.map Int.toNat).map nat∧(ns.map Int.toNat).Perm l:=by
 have h0:∀n∈ns,0≤n:=fun n hn=>by
  obtain⟨v,_,rfl⟩:=List.mem_map.mp (h.mem_iff.mp hn)
  exact Int.natCast_nonneg v
 constructor
 ·rw[List.map_map]
  conv=>lhs;rw[←List.map_id ns]
  exact List.map_congr_left fun n hn=>by show n=Int.ofNat n.toNat;have:=h0 n hn;simp;omega
 ·have:=h.map Int.toNat
  rw[List.map_map]at this
  have e:l.map (Int.toNat∘nat)=l:=by
   conv=>rhs;rw[←List.map_id l]
   exact List.map_congr_left fun v _=>rfl
  rwa[e]at this
def cY(_:Bs)(L:List aG)(C:Addr):Sp:=fun vs H Q _=>∃(m:Ad) (s:State),vs=[.ref m.p]∧aR L C H m s∧Gi L H Q (order s (distances s))
def ir:Addr:=195
theorem j5:aJ ["self","v"] ["self"] (au (inClass (top 41) 9)):=by symm_saturate
def fG:aG:=⟨ir,⟨168,49,168,78⟩,"Roadmap.deepest_first.<locals>.<lambda>"⟩
theorem sH{B:Bs}{L:List aG}{C c:Addr}(T:Txt B C)(F:Gg B C "deepest_first" "Roadmap.deepest_first" (inClass (top 41) 9) ["self"] (.ref c))(hL:Jd B L fG c)(bK:Mt B C 2 "places_in_need" ["self"] (dJ B L C))(jX:Mt B C 2 "depth" ["self","v"] (rO B L C)):Mt B C 8 "deepest_first" ["self"] (cY B L C):=by
 have nd:=j5.nd
 refine F.mt j5 (fun vs H Q E h=>?_) (fun f A outer s0 H vs Q E hr h=>?_)
 ·obtain⟨_,_,rfl,_⟩:=h
  rfl
 ·obtain⟨m,s,rfl,M,k⟩:=h
  refine⟨_,(aq (az (yK (k:=0) ∅ rfl nd rfl T.jh hL.mem hL.ap (by exact Kf (pn:="v") (ip:=1) hL (by rfl) (by rfl) (by rfl) ⟨rfl,rfl,rfl,rfl,rfl,by decide+kernel,by decide+kernel,by decide+kernel⟩ (by decide+kernel) (by intros;rfl)) (aa (iz (pv 0) ⋯ T.cl bK ∅) aj) (fun _ _ _ _ _=>(kj (aa (Mj Qj (gQ (pv 0) ⋯ T.cl jX ((hr.in1.in1.deeper _).mono (by decide)) (aa (pv 1) aj))) (aa (pv 1) aj))))))),?_⟩
  ac_nf
  unfold yu
  ac_nf
  refine cP M rfl (by decide+kernel) ⟨m,s,rfl,M,fun H1 p g1 hl=>?_⟩
  have M1:=M.go g1
  rw[dR]at hl
  refine⟨p,(PR.kO s).map nat,fun n=>(-(depth (distances s) n.toNat),n),rfl,bC.of hl,?_,M1.st,fun n hn H' g Qk hk=>?_,fun H' D ns' hD g hp hs=>?_⟩
  ·have:=my s;have:=M.wf.hi
   rw[List.length_map];omega
  ·obtain⟨v,hv,rfl⟩:=List.mem_map.mp hn
   refine cP (M1.go g) rfl (by decide+kernel) ⟨_,rfl,m,s,v,rfl,M1.go g,yR hv,fun H2 g2=>⟨_,rfl,_,rfl,by show 2≤sizeLine;decide,fun q hq=>?_⟩⟩
   exact hk _ q ao (g2.trans (Go.laid hq))
  ·obtain⟨e1,e2⟩:=Hl hp
   have nd2:(ns'.map Int.toNat).Nodup:=e2.nodup_iff.mpr ((List.nodup_range).filter _)
   have e3:ns'.map Int.toNat=order s (distances s):=by
    refine PR.DX e2 ?_
    rw[e1]at hs
    rw[List.pairwise_map]at hs
    refine(List.Pairwise.and hs nd2).imp fun {a b} z=>?_
    unfold before
    rw[Bool.or_eq_true,Bool.and_eq_true,decide_eq_true_iff,decide_eq_true_iff,decide_eq_true_iff]
    obtain⟨z1,z2⟩:=z
    have f:∀v:Nat,(nat v).toNat=v:=fun v=>rfl
    have f2:∀v:Nat,nat v=(v:Int):=fun v=>rfl
    simp only[f2,Int.toNat_natCast]at z1
    rcases z1 with z1| ⟨z1,z3⟩
    ·left;omega
    ·right;exact⟨by omega,by omega⟩
   rw[e1,e3,←dR]
   exact k _ D ((g1.trans g).trans (Go.laid hD)) ao
def Lz(_:Bs)(L:List aG)(C:Addr):Sp:=fun vs H Q _=>∃(m:Ad) (s:State),vs=[.ref m.p]∧aR L C H m s∧Gives L H Q [bit (forest s (distances s))]
theorem Uu:aJ ["roadmap"] ["roadmap"] (au (top 59)):=by symm_saturate
theorem Vc{B:Bs}{L:List aG}{C c:Addr}(T:Txt B C)(F:bJ B "tree" (top 59) ["roadmap"]):Df B 2 "tree" ["roadmap"] (Lz B L C):=by
 exists Uu
 ·obtain⟨_,_,rfl,_⟩:=h
  rfl
 ·obtain⟨m,s,rfl,M,k⟩:=h
  refine⟨_,(ak (bB (cz (aV ⋯ (pv 0) (by rfl))) (aq (az (aN (aa aA aj)))) aK)
   (aq (az (aN (aa aA aj))))),?_⟩
  ac_nf
  refine zu T M rfl ⟨_,rfl,?_⟩
  unfold PM.round
  cases hf:forest s (distances s)with
  |true=>
   rw[hf]at k
   exact bu ⟨by show 1≤sizeLine;decide,fun p hp=>k _ p (Go.laid hp) ao⟩
  |false=>
   rw[hf]at k
   exact aQ ⟨by show 1≤sizeLine;decide,fun p hp=>k _ p (Go.laid hp) ao⟩
theorem sS(l:List Nat):Vbedaf.listed l=((l.map nat).length:Int)::l.map nat:=by unfold Vbedaf.listed;rw[List.length_map];rfl
def GK(_:Bs)(L:List aG)(C:Addr):Sp:=fun vs H Q _=>∃(m:Ad) (s:State),vs=[.ref m.p]∧aR L C H m s∧Gives L H Q (Vbedaf.listed (order s (distances s)))
theorem Q4:aJ ["roadmap"] ["roadmap"] (au (top 60)):=by symm_saturate
theorem RC{B:Bs}{L:List aG}{C c:Addr}(T:Txt B C)(F:bJ B "order" (top 60) ["roadmap"])(di:Df B 2 "listed" ["numbers"] (jT B L C))(bD:Mt B C 8 "deepest_first" ["self"] (cY B L C)):Df B 10 "order" ["roadmap"] (GK B L C):=by
 exists Q4
 ·obtain⟨_,_,rfl,_⟩:=h
  rfl
 ·obtain⟨m,s,rfl,M,k⟩:=h
  refine⟨_,(aq (az (aZ di ⋯ ∅ (aa (iz (pv 0) ⋯ T.cl bD ∅) aj)))),?_⟩
  ac_nf
  refine cP M rfl (by decide+kernel) ⟨m,s,rfl,M,fun H1 p g1 hl=>?_⟩
  rw[dR]at hl
  refine⟨p,_,rfl,hl,?_,fun H2 q g2 h2=>k H2 q (g1.trans g2) (by rw[sS];exact h2)⟩
  have:=(PR.kE s (distances s)).length_eq
  have:=my s
  have:=M.wf.hi
  rw[List.length_map];omega
def GR(_:Bs)(L:List aG)(C:Addr):Sp:=fun vs H Q _=>∃(m:Ad) (s:State),vs=[.ref m.p]∧aR L C H m s∧Gives L H Q (Vbedaf.listed (blind s (distances s) s.reach))
theorem Q7:aJ ["roadmap"] ["roadmap"] (au (top 61)):=by symm_saturate
theorem RJ{B:Bs}{L:List aG}{C c:Addr}(T:Txt B C)(F:bJ B "blind" (top 61) ["roadmap"])(di:Df B 2 "listed" ["numbers"] (jT B L C))(cV:Mt B C 8 "blind_places" ["self"] (ie B L C)):Df B 10 "blind" ["roadmap"] (GR B L C):=by
 exists Q7
 ·obtain⟨_,_,rfl,_⟩:=h
  rfl
 ·obtain⟨m,s,rfl,M,k⟩:=h
  refine⟨_,(aq (az (aZ di ⋯ ∅ (aa (iz (pv 0) ⋯ T.cl cV ∅) aj)))),?_⟩
  ac_nf
  refine cP M rfl (by decide+kernel) ⟨m,s,rfl,M,fun H1 p g1 hl=>?_⟩
  rw[dR]at hl
  refine⟨p,_,rfl,hl,?_,fun H2 q g2 h2=>k H2 q (g1.trans g2) (by rw[sS];exact h2)⟩
  have:(blind s (distances s) s.reach).length≤size s:=PR.bH _ _
  have:=M.wf.hi
  rw[List.length_map];omega
theorem sG{s:State}{v:Int}(h:okV s v=true):∃n:Nat,v=(n:Int)∧n<size s:=by
 obtain⟨h1,h2⟩:=PR.fP.mp h
 exact⟨v.toNat,by omega,by omega⟩
def wU(_:Bs)(L:List aG)(C:Addr):Sp:=fun vs H Q _=>∃(m:Ad) (s:State) (a b:Int),vs=[.ref m.p,.int a,.int b]∧aR L C H m s∧Gives L H Q (step s [[6,a,b]]).2
theorem G_:aJ ["roadmap","a","b"] ["roadmap","a","b"] (au (top 58)):=by symm_saturate
theorem Ht{B:Bs}{L:List aG}{C c:Addr}(T:Txt B C)(F:bJ B "distance" (top 58) ["roadmap","a","b"])(bf:Mt B C 2 "has_place" ["self","v"] (cX B L C))(cU:Df B 2 "maybe_a_number" ["number"] (h_ B L C)):Df B 4 "distance" ["roadmap","a","b"] (wU B L C):=by
 exists G_
 ·obtain⟨_,_,_,_,rfl,_⟩:=h
  rfl
 ·obtain⟨m,s,a,b,rfl,M,k⟩:=h
  refine⟨_,(ak (bB (d9 (PW.pt (rY (cz (gQ (pv 0) ⋯ T.cl bf ∅ (aa (pv 1) aj))) (mX (cz (gQ (pv 0) ⋯ T.cl bf ∅ (aa (pv 2) aj))))))) (aq (az (aN (aa (cD T.bM) aj)))) aK)
   (aq (az (aZ cU ⋯ ∅ (aa (bc (aD ⋯) (bc (aD ⋯) (aV ⋯ (pv 0) (by rfl)) (pv 1) (by intro _ _;rfl)) (pv 2) (by intro _ _;rfl)) aj))))),?_⟩
  ac_nf
  rw[PR.QM]at k
  have no:(okV s a&&okV s b)=false→∃H1,Gives L H1 Q [-1]∧H1=H:=fun h=>by rw[if_pos h]at k;exact⟨H,k,rfl⟩
  refine cP M rfl (by decide+kernel) ⟨_,rfl,m,s,a,rfl,M,_,rfl,?_⟩
  cases ha:okV s a with
  |false=>
   obtain⟨_,k',rfl⟩:=no (by rw[ha];rfl)
   exact bu (aQ ⟨by show 1≤sizeLine;decide,fun p hp=>k' _ p (Go.laid hp) ao⟩)
  |true=>
   refine aQ (cP M rfl (by decide+kernel) ⟨_,rfl,m,s,b,rfl,M,_,rfl,?_⟩)
   cases hb:okV s b with
   |false=>
    obtain⟨_,k',rfl⟩:=no (by rw[hb];simp)
    exact aQ ⟨by show 1≤sizeLine;decide,fun p hp=>k' _ p (Go.laid hp) ao⟩
   |true=>
    rw[ha,hb]at k
    obtain⟨i,rfl,hi⟩:=sG ha
    obtain⟨j,rfl,hj⟩:=sG hb
    obtain⟨q,h1,h2,h3,h4⟩:=M.cell hi
    refine bu (nq T M rfl ⟨_,rfl,bj M.table.dist rfl h2 ⟨_,rfl,bj h3 rfl (rR hi hj) ?_⟩⟩)
    exact⟨_,rfl,k⟩
def jc(_:Bs)(L:List aG)(C:Addr):Sp:=fun vs H Q _=>∃(m:Ad) (s:State) (a:Addr) (ns:List Int),vs=[.ref m.p,.ref a]∧aR L C H m s∧H a=some (.lst (ns.map V.int))∧ns.length≤4000∧∀H',Go L H H'→Q (.bl (PR.placesOk s ns)) H'
theorem Al:aJ ["roadmap","row","v"] ["roadmap","row"] (au (top 24)):=by symm_saturate
theorem A_{B:Bs}{L:List aG}{C c:Addr}(T:Txt B C)(F:bJ B "are_places" (top 24) ["roadmap","row"])(bf:Mt B C 2 "has_place" ["self","v"] (cX B L C)):Df B 4 "are_places" ["roadmap","row"] (jc B L C):=by
 exists Al
 ·obtain⟨_,_,_,_,rfl,_⟩:=h
  rfl
 ·obtain⟨m,s,a,ns,rfl,M,ha,hz,k⟩:=h
  refine⟨_,(aq (az (DW (aY (Nj ⋯ rfl) rfl T.Mv Tq (aa (dO rfl nd (aW ⋯ (pv 1)) (bh (own:=[("v",2)]) (by kernel_rfl)) (fun _ _ _ _ _=>(aH (i:=2) nd rfl (Or.inl rfl))) (fun _ _ _ _ _=>cu) (fun _ _ _ _ _=>(gQ (pv 0) ⋯ T.cl bf ∅ (aa (pv 2) aj)))) aj)) (yL (fO du (aY Pz rfl T.gn PySem.boot_len (aa (vR (Ti rfl) rfl T.Mu Tp (aa (pv 1) aj)) aj)) (aY (bA ⋯) rfl T.gn PySem.boot_len (aa (pv 1) aj)) (by exact aX _)))))),?_⟩
  ac_nf
  refine bO ?_
  ac_nf
  refine⟨_,rfl,a,rfl,⟨_,bC.of ha⟩,fun D hD=>?_⟩
  refine bU (L:=L) (xs:=ns) (fun _=>true) (fun v=>V.bl (okV s v)) hD bx (fun H' g=>bC.of (g.lst ha)) (by rw[sizeLine_eq];omega) (fun x y H' hx g e Qn Qy hn hy=>?_) (fun H' g hl2=>?_)
  ·subst e
   ac_nf
   exact⟨rfl,aQ (cP (M.go g) rfl (by decide+kernel) ⟨_,rfl,m,s,x,rfl,M.go g,hy rfl H' (Go.refl _ _)⟩)⟩
  ·rw[bG]at hl2
   refine⟨D,ns.map (okV s),rfl,bC.of (by rw[List.map_map];exact hl2),_,rfl,?_⟩
   have e1:(ns.map (okV s)).any id=ns.any (okV s):=by rw[List.any_map];rfl
   have e2:(ns.map (okV s)).all id=ns.all (okV s):=by rw[List.all_map];rfl
   rw[e2]
   unfold PR.placesOk at k
   cases hall:ns.all (okV s)with
   |false=>
    rw[hall]at k
    exact bu (k H' g)
   |true=>
    rw[hall]at k
    refine aQ ⟨_,rfl,a,ns,rfl,bC.of (g.lst ha),hz,fun D2 hD2=>⟨D2,ns,rfl,ao,_,rfl,a,_,rfl,.inl (bC.of ((g.trans (Go.laid hD2)).lst ha)),rfl,?_⟩⟩
    have e3:decide (V.int ((ST.Cw ns).length:Int)=V.int ((ns.map V.int).length:Int))=decide ns.Nodup:=by
     rw[List.length_map,decide_eq_decide,V.int.injEq]
     rw[show(((ST.Cw ns).length:Int)=(ns.length:Int))↔(ST.Cw ns).length=ns.length from by omega]
     exact ST.V7
    rw[e3]
    exact k _ (g.trans (Go.laid hD2))
def npV(p:Nat×Int):List V:=[.int p.1,.int p.2]
def jo(_:Bs)(L:List aG)(C:Addr):Sp:=fun vs H Q _=>∃(m:Ad) (s:State) (v:Nat) (a:Addr) (x:List (Nat×Int)),vs=[.ref m.p,.int v,.ref a]∧aR L C H m s∧v<size s∧qL H a (x.map npV)∧(∀p∈x,p.1<size s)∧x.length≤100000∧
 ∀H',Go L H H'→Q (.int (PR.gj s s.reach v x)) H'
theorem xF:aJ ["roadmap","v","pairs","u","number"] ["roadmap","v","pairs"] (au (top 39)):=by symm_saturate
theorem xM{B:Bs}{L:List aG}{C c:Addr}(T:Txt B C)(F:bJ B "sum_in_reach" (top 39) ["roadmap","v","pairs"])(bL:Mt B C 4 "in_reach" ["self","post","v"] (eX B L C)):Df B 6 "sum_in_reach" ["roadmap","v","pairs"] (jo B L C):=by
 exists xF
 ·obtain⟨_,_,_,_,_,rfl,_⟩:=h
  rfl
 ·obtain⟨m,s,v,a,x,rfl,M,hv,hx,hlt,hz,k⟩:=h
  refine⟨_,(aq (az (aY (lR ⋯ rfl) rfl T.rD pP (aa (dO rfl nd (aW ⋯ (pv 2)) (bh (own:=[("u",3),("number",4)]) (by kernel_rfl)) (fun _ _ _ _ _=>(gF (n:=2) ⋯ rfl (bI (aH (i:=3) nd rfl (Or.inl rfl)) (bI (aH (i:=4) nd rfl (Or.inl rfl)) gD)))) (fun _ _ _ _ _=>(fc (cz (gQ (pv 0) ⋯ T.cl bL ∅ (aa (pv 1) (aa (pv 3) aj)))))) (fun _ _ _ _ _=>(pv 4))) aj)))),?_⟩
  ac_nf
  refine bO ?_
  ac_nf
  obtain⟨as,h1,h2,h3⟩:=id hx.ex
  refine⟨_,rfl,a,rfl,⟨_,bC.of h1⟩,fun D hD=>?_⟩
  refine bU (L:=L) (xs:=x) (fun p=>inReach (distances s) s.reach v p.1) (fun p=>V.int p.2) hD fB (fun H' g=>hx.go g) (by rw[sizeLine_eq];omega) (fun x y H' Ss g e Qn Qy hn hy=>?_) (fun H' g hl2=>?_)
  ·obtain⟨q,rfl,hq⟩:=e
   ac_nf
   refine⟨q,_,rfl,mF.of hq,rfl,_,_,rfl,_,_,rfl,rfl,rfl,cP (M.go g) rfl (by decide+kernel) ⟨_,rfl,_,rfl,m,s,v,x.1,rfl,M.go g,hv,hlt x Ss,_,rfl,?_⟩⟩
   cases e:inReach (distances s) s.reach v x.1 with
   |false=>exact hn e H' (Go.refl _ _)
   |true=>exact aQ ⟨_,rfl,hy e H' (Go.refl _ _)⟩
  ·exact⟨D,_,rfl,bC.of (by rw[List.map_map];exact hl2),k H' g⟩
def g_(_:Bs)(L:List aG)(C:Addr):Sp:=fun vs H Q _=>∃(m:Ad) (s:State) (a:Addr) (x:List (Nat×Int)),vs=[.ref m.p,.ref a]∧aR L C H m s∧qL H a (x.map npV)∧(∀p∈x,p.1<size s)∧x.length≤100000∧
 ∀(H':Hp) (p:Addr),Go L H H'→H' p=some (.lst ((List.range (size s)).map fun v=>V.int (PR.gj s s.reach v x)))→Q (.ref p) H'
theorem ut:aJ ["roadmap","posts","v"] ["roadmap","posts"] (au (top 38)):=by symm_saturate
theorem uH{B:Bs}{L:List aG}{C c:Addr}(T:Txt B C)(F:bJ B "posts_in_reach" (top 38) ["roadmap","posts"])(dW:Df B 6 "sum_in_reach" ["roadmap","v","pairs"] (jo B L C)):Df B 8 "posts_in_reach" ["roadmap","posts"] (g_ B L C):=by
 exists ut
 ·obtain⟨_,_,_,_,rfl,_⟩:=h
  rfl
 ·obtain⟨m,s,a,x,rfl,M,hx,hlt,hz,k⟩:=h
  refine⟨_,(aq (az (dO rfl nd (dN rfl T.d_ (aa (aV ⋯ (pv 0) (by rfl)) aj)) (bh (own:=[("v",2)]) (by kernel_rfl)) (fun _ _ _ _ _=>(aH (i:=2) nd rfl (Or.inl rfl))) (fun _ _ _ _ _=>cu) (fun _ _ _ _ _=>(aZ dW ⋯ ∅ (aa (pv 0) (aa (pv 2) (aa (pv 1) aj)))))))),?_⟩
  obtain⟨z1,z2,z3⟩:=d7 M
  ac_nf
  refine bO ?_
  ac_nf
  refine fW T M rfl ⟨_,rfl,z1,z2,fun D hD=>?_⟩
  refine bU (L:=L) (xs:=List.range (size s)) (fun _=>true) (fun v=>V.int (PR.gj s s.reach v x)) hD cJ (fun _ _=>trivial) z3 (fun v y H' hv g e Qn Qy hn hy=>?_) (fun H' g hl=>k H' D g (by rw[bG]at hl;exact hl))
  subst e
  ac_nf
  exact⟨rfl,aQ ⟨_,rfl,_,rfl,_,rfl,m,s,v,a,x,rfl,M.go g,List.mem_range.mp hv,hx.go g,hlt,hz,fun H2 g2=>hy rfl H2 g2⟩⟩
def lack(s:State)(f:Nat→Int)(p:Nat)(c:Int)(u:Nat):Bool:=decide (f u - (if 0<c∧inReach (distances s) s.reach p u=true then 1 else 0)< (needOf s u:Int))
def lE(_:Bs)(L:List aG)(C:Addr):Sp:=fun vs H Q _=>∃(m:Ad) (s:State) (h:Addr) (f:Nat→Int) (p:Nat) (c:Int),vs=[.ref m.p,.ref h,.int p,.int c]∧aR L C H m s∧H h=some (.lst ((List.range (size s)).map fun v=>V.int (f v)))∧p<size s∧
 Q (.int ((List.range (size s)).filter (lack s f p c)).length) H
theorem ux:aJ ["roadmap","have","post","count","short","v","lost"] ["roadmap","have","post","count"] (au (top 37)):=by symm_saturate
theorem uK{B:Bs}{L:List aG}{C c:Addr}(T:Txt B C)(F:bJ B "how_many_short" (top 37) ["roadmap","have","post","count"])(bL:Mt B C 4 "in_reach" ["self","post","v"] (eX B L C)):Df B 6 "how_many_short" ["roadmap","have","post","count"] (lE B L C):=by
 exists ux
 ·obtain⟨_,_,_,_,_,_,rfl,_⟩:=h
  rfl
 ·obtain⟨m,s,h,f,p,c,rfl,M,hh,hp,k⟩:=h
  refine⟨_,(ak (a_ (i:=4) nd rfl (Or.inl rfl) aA)
   (ak (dH PassesOwn.never rfl (dN rfl T.d_ (aa (aV ⋯ (pv 0) (by rfl)) aj)) (aH (i:=5) nd rfl (Or.inl rfl))
   (ak (a_ (i:=6) nd rfl (Or.inl rfl) (yM (PW.pt (rY (aO uG (pv 3) aA (by exact aX _)) (mX (cz (gQ (pv 0) ⋯ T.cl bL ∅ (aa (pv 2) (aa (pv 5) aj))))))) aA aA))
    (aq (bB (aO Hq (cH DY (bc (aD ⋯) (pv 1) (pv 5) (by intro _ _;rfl)) (pv 6)) (bc (aD ⋯) (aV ⋯ (pv 0) (by rfl)) (pv 5) (by intro _ _;rfl)) (by exact aX _)) (aq (XD (i:=4) nd rfl (Or.inl rfl) aA Kh)) aK))))
   (aq (az (pv 4))))),?_⟩
  obtain⟨z1,z2,z3⟩:=d7 M
  ac_nf
  refine cM ?_
  ac_nf
  refine fW T M rfl ⟨_,rfl,z1,z2,?_⟩
  refine bZ (cJ (n:=size s)) (fun i σ H'=>∃(v5 v6:Option V),σ=[some (.ref m.p),some (.ref h),some (.int p),some (.int c),some (.int (((List.range (size s)).take i).filter (lack s f p c)).length),v5,v6]∧H'=H)
   ⟨_,_,rfl,rfl⟩ (fun _ _ _ _=>trivial) ?_ ?_
  ·rintro i x v σ H' hi rfl ⟨v5,v6,rfl,rfl⟩
   have hx:x<size s:=List.mem_range.mp (List.mem_of_getElem? hi)
   ac_nf
   have get:∀(q:VK) (σ:L2.St),σ[1]? =some (some (.ref h))→σ[5]? =some (some (dg x))→q (.int (f x)) H'→ug 1 σ H' fun o H1=>ug 5 σ H1 fun i H2=>Rh B.K o i H2 q:=fun q σ e1 e2 hq=>
    ⟨_,e1,_,e2,bj hh rfl (by rw[List.getElem?_map,List.getElem?_range hx];rfl) hq⟩
   have key:∀(l:Int),l=(if 0<c∧inReach (distances s) s.reach p x=true then 1 else 0)→lack s f p c x=decide (f x - l< ((placeOf s x).need:Int)):=fun l hl=>by unfold lack;rw[hl];rfl
   have yes:lack s f p c x=true→((((List.range (size s)).take (i+1)).filter (lack s f p c)).length:Int)=((((List.range (size s)).take i).filter (lack s f p c)).length:Int)+1:=fun h=>by
    rw[take_snoc hi,List.filter_append,List.filter_cons,List.filter_nil,if_pos h,List.length_append];rfl
   have no:lack s f p c x=false→((((List.range (size s)).take (i+1)).filter (lack s f p c)).length:Int)=((((List.range (size s)).take i).filter (lack s f p c)).length:Int):=fun h=>by
    rw[take_snoc hi,List.filter_append,List.filter_cons,List.filter_nil,if_neg (by rw[h];decide),List.append_nil]
   refine⟨_,rfl,_,_,rfl,rfl,_,rfl,?_⟩
   by_cases hc:0<c
   ·rw[decide_eq_true hc]
    refine aQ (cP M rfl (by decide+kernel) ⟨_,rfl,_,rfl,m,s,p,x,rfl,M,hp,hx,_,rfl,?_⟩)
    cases hr:inReach (distances s) s.reach p x with
    |true=>
     refine aQ (get _ _ rfl rfl ⟨_,rfl,_,_,rfl,rfl,gq T M rfl ⟨_,rfl,bj M.needs rfl (kh hx _) ⟨_,_,rfl,rfl,_,rfl,vZ (fun hb=>⟨_,rfl,_,_,rfl,rfl,some (dg x),some (.int 1),?_,rfl⟩) (fun hb=>⟨some (dg x),some (.int 1),?_,rfl⟩)⟩⟩⟩)
     ·rw[yes (by rw[key 1 (by rw[if_pos ⟨hc,hr⟩])];exact hb)];rfl
     ·rw[no (by rw[key 1 (by rw[if_pos ⟨hc,hr⟩])];exact Bool.eq_false_iff.mpr hb)];rfl
    |false=>
     refine bu (get _ _ rfl rfl ⟨_,rfl,_,_,rfl,rfl,gq T M rfl ⟨_,rfl,bj M.needs rfl (kh hx _) ⟨_,_,rfl,rfl,_,rfl,vZ (fun hb=>⟨_,rfl,_,_,rfl,rfl,some (dg x),some (.int 0),?_,rfl⟩) (fun hb=>⟨some (dg x),some (.int 0),?_,rfl⟩)⟩⟩⟩)
     ·rw[yes (by rw[key 0 (by rw[if_neg (fun z=>by rw[hr]at z;exact absurd z.2 (by decide))])];exact hb)];rfl
     ·rw[no (by rw[key 0 (by rw[if_neg (fun z=>by rw[hr]at z;exact absurd z.2 (by decide))])];exact Bool.eq_false_iff.mpr hb)];rfl
   ·rw[decide_eq_false hc]
    refine bu (bu (get _ _ rfl rfl ⟨_,rfl,_,_,rfl,rfl,gq T M rfl ⟨_,rfl,bj M.needs rfl (kh hx _) ⟨_,_,rfl,rfl,_,rfl,vZ (fun hb=>⟨_,rfl,_,_,rfl,rfl,some (dg x),some (.int 0),?_,rfl⟩) (fun hb=>⟨some (dg x),some (.int 0),?_,rfl⟩)⟩⟩⟩))
    ·rw[yes (by rw[key 0 (by rw[if_neg (fun z=>hc z.1)])];exact hb)];rfl
    ·rw[no (by rw[key 0 (by rw[if_neg (fun z=>hc z.1)])];exact Bool.eq_false_iff.mpr hb)];rfl
  ·rintro σ H' ⟨v5,v6,rfl,rfl⟩
   rw[List.take_length]
   exact⟨_,rfl,k⟩
theorem uF{X:Cx}{B:Bs}{e:Expr}{te:TE}{k:Int}{j1 j2:_}{q1 q2 p2 pos:Pos}(i:In B X)(he:PE X e te):PE X (.Subscript e (.Slice (some (.Constant (.int k) j1 q1)) none (some (.Constant (.int 2) j2 q2)) p2) pos) (Lr B.K k te):=i.K▸U4 he
def jM(_:Bs)(L:List aG)(C:Addr):Sp:=fun vs H Q _=>∃(m:Ad) (s:State) (a:Addr) (ns:List Int) (g:Int),vs=[.ref m.p,.ref a,.int g]∧aR L C H m s∧H a=some (.lst (ns.map V.int))∧ns.length≤4000∧∀H',Go L H H'→Q (.bl (PR.pairsOk s g ns)) H'
theorem Dy:aJ ["roadmap","row","greatest","number"] ["roadmap","row","greatest"] (au (top 25)):=by symm_saturate
theorem Eg{B:Bs}{L:List aG}{C c:Addr}(T:Txt B C)(F:bJ B "are_pairs" (top 25) ["roadmap","row","greatest"])(cR:Df B 4 "are_places" ["roadmap","row"] (jc B L C)):Df B 6 "are_pairs" ["roadmap","row","greatest"] (jM B L C):=by
 exists Dy
 ·obtain⟨_,_,_,_,_,rfl,_⟩:=h
  rfl
 ·obtain⟨m,s,a,ns,g,rfl,M,ha,hz,k⟩:=h
  refine⟨_,(ak (bB (PW.pt (Wu (aO du (cH X3 (aY (bA ⋯) rfl T.gn PySem.boot_len (aa (pv 1) aj)) aA) aA (by exact aX _)) (Rj (d9 (cz (aZ cR ⋯ ∅ (aa (pv 0) (aa (uF ⋯ (pv 1)) aj)))))))) (aq (az Ml)) aK)
   (aq (az (aY (Nj ⋯ rfl) rfl T.Mv Tq (aa (dO rfl nd (aW ⋯ (uF ⋯ (pv 1))) (bh (own:=[("number",3)]) (by kernel_rfl)) (fun _ _ _ _ _=>(aH (i:=3) nd rfl (Or.inl rfl))) (fun _ _ _ _ _=>cu) (fun _ _ _ _ _=>(Hm fj fj aA (pv 3) (pv 2)))) aj))))),?_⟩
  ac_nf
  unfold PR.pairsOk at k
  refine⟨_,rfl,a,_,rfl,.inl (bC.of ha),_,_,rfl,rfl,by show(0:Int)<2;decide,rfl,_,rfl,?_⟩
  rw[List.length_map]
  by_cases hev:ns.length % 2=0
  ·have e1:decide (V.int ((ns.length:Int) % 2)=V.int 1)=false:=decide_eq_false fun z=>by injection z with z;omega
   rw[e1]
   rw[decide_eq_true hev]at k
   unfold Lr
   refine bu ⟨_,rfl,_,rfl,a,ns,rfl,bC.of ha,fun p hp=>⟨m,s,p,PR.evs ns,rfl,M.go (Go.laid hp),by rw[ao,Ww],by rw[PR.ye];omega,fun H1 g1=>⟨_,rfl,?_⟩⟩⟩
   have g0:Go L H H1:=(Go.laid hp).trans g1
   cases hpl:PR.placesOk s (PR.evs ns)with
   |false=>
    rw[hpl]at k
    exact aQ (k H1 g0)
   |true=>
    rw[hpl]at k
    refine bu ?_
    refine bO ?_
    ac_nf
    refine⟨_,rfl,a,ns,rfl,bC.of (g0.lst ha),fun q hq=>⟨q,rfl,⟨_,bC.of ao⟩,fun D hD=>?_⟩⟩
    have g2:Go L H1 (upd H1 q (.lst ((pickNums ns (some 1) none (some 2)).map V.int))):=Go.laid hq
    refine bU (L:=L) (xs:=PR.Ba ns) (f:=fun v=>V.bl (inR v 0 g)) (fun _=>true) hD bx (fun H' g3=>bC.of (by rw[←Wv];exact g3.lst ao)) (by rw[sizeLine_eq,PR.uO];omega) (fun x y H' hx g3 e Qn Qy hn hy=>?_) (fun H' g3 hl2=>?_)
    ·subst e
     ac_nf
     refine⟨rfl,aQ ⟨_,rfl,_,_,rfl,rfl,_,rfl,?_⟩⟩
     by_cases h0:0≤x
     ·rw[decide_eq_true h0]
      refine aQ ⟨_,rfl,_,_,rfl,rfl,?_⟩
      have e:inR x 0 g=decide (x≤g):=by unfold Vbedaf.inR;rw[decide_eq_true h0];rfl
      have:=hy rfl H' (Go.refl _ _)
      rw[e]at this;exact this
     ·rw[decide_eq_false h0]
      have e:inR x 0 g=false:=by unfold Vbedaf.inR;rw[decide_eq_false h0];rfl
      have:=hy rfl H' (Go.refl _ _)
      rw[e]at this;exact bu this
    ·rw[bG]at hl2
     refine⟨D,(PR.Ba ns).map fun v=>inR v 0 g,rfl,bC.of (by rw[List.map_map];exact hl2),?_⟩
     rw[List.all_map]
     exact k H' ((g0.trans g2).trans g3)
  ·have e1:decide (V.int ((ns.length:Int) % 2)=V.int 1)=true:=decide_eq_true (by congr 1;omega)
   rw[e1]
   rw[decide_eq_false hev]at k
   exact aQ (k H (Go.refl _ _))
theorem SN{n v:Nat}{p:Nat→Bool}(hv:v<n)(h1:p v=true)(h2:∀j,j<v→p j=false):(List.range n).find? p=some v:=by
 rw[List.find?_range_eq_some]
 exact⟨h1,List.mem_range.mpr hv,fun j hj=>by rw[h2 j hj];rfl⟩
theorem Ph{n:Nat}{p:Nat→Bool}(h2:∀j,j<n→p j=false):(List.range n).find? p=none:=by
 rw[List.find?_eq_none]
 intro j hj
 rw[h2 j (List.mem_range.mp hj)];decide
theorem Jh{ns:List Int}(h:∀v∈PR.evs ns,0≤v):((PR.evs ns).zip (PR.Ba ns)).map Rw=(PR.pairs ns).map npV:=by
 unfold PR.pairs
 rw[List.zip_map_left,List.map_map]
 refine List.map_congr_left fun p hp=>?_
 have:=h p.1 (List.of_mem_zip hp).1
 show [V.int p.1,V.int p.2]=[V.int (p.1.toNat:Int),V.int p.2]
 rw[Int.toNat_of_nonneg this]
theorem J6{s:State}{g:Int}{ns:List Int}(h:PR.pairsOk s g ns=true):ns.length % 2=0∧∀v∈PR.evs ns,0≤v:=by
 unfold PR.pairsOk PR.placesOk at h
 simp only[Bool.and_eq_true,decide_eq_true_eq,List.all_eq_true]at h
 exact⟨h.1,fun v hv=>(PR.fP.mp (h.2.1.1 v hv)).1⟩
def lD(_:Bs)(L:List aG)(_:Addr):Sp:=fun vs H Q _=>∃(a:Addr) (ns:List Int),vs=[.ref a]∧H a=some (.lst (ns.map V.int))∧ns.length % 2=0∧ns.length≤4000∧∀(H':Hp) (p:Addr),Go L H H'→qL H' p (((PR.evs ns).zip (PR.Ba ns)).map Rw)→Q (.ref p) H'
theorem _root_.L2.qL.seq{K:PySem.W.Frag}{H:Hp}{a:Addr}{ts:List (List V)}(h:qL H a ts):∃xs,bC K H a xs:=let⟨as,h1,_⟩:=h.ex;⟨_,bC.of h1⟩
theorem lM{ns:List Int}(h:ns.length≤4000):(PR.pairs ns).length≤4000:=by
 unfold PR.pairs
 rw[List.length_zip,PR.uO];omega
def BL(_:Bs)(L:List aG)(C:Addr):Sp:=fun vs H Q _=>∃(m:Ad) (s:State) (a:Addr) (ns:List Int),vs=[.ref m.p,.ref a]∧aR L C H m s∧H a=some (.lst (ns.map V.int))∧ns.length≤4000∧Gives L H Q (step s [[12],ns]).2
theorem N_:aJ ["roadmap","row","posts","have","v","count"] ["roadmap","row"] (au (top 33)):=by symm_saturate
theorem Ot{B:Bs}{L:List aG}{C c:Addr}(T:Txt B C)(F:bJ B "covers" (top 33) ["roadmap","row"])(dG:Df B 6 "are_pairs" ["roadmap","row","greatest"] (jM B L C))(eF:Df B 2 "pairs_of" ["row"] (lD B L C))(cT:Df B 8 "posts_in_reach" ["roadmap","posts"] (g_ B L C)):Df B 10 "covers" ["roadmap","row"] (BL B L C):=by
 exists N_
 ·obtain⟨_,_,_,_,rfl,_⟩:=h
  rfl
 ·obtain⟨m,s,a,ns,rfl,M,ha,hz,k⟩:=h
  refine⟨_,(ak (bB (d9 (cz (aZ dG ⋯ ∅ (aa (pv 0) (aa (pv 1) (aa (cD T.fY) aj)))))) (aq (az (aN (aa (cD T.bW) aj)))) aK)
   (ak (a_ (i:=2) nd rfl (Or.inl rfl) (aZ eF ⋯ ∅ (aa (pv 1) aj)))
   (ak (bB (cz (aY (ql ⋯ rfl) rfl T.wZ wM (aa (dO rfl nd (aW ⋯ (pv 2)) (bh (own:=[("v",4),("count",5)]) (by kernel_rfl)) (fun _ _ _ _ _=>(gF (n:=2) ⋯ rfl (bI (aH (i:=4) nd rfl (Or.inl rfl)) (bI (aH (i:=5) nd rfl (Or.inl rfl)) gD)))) (fun _ _ _ _ _=>cu) (fun _ _ _ _ _=>(DW (fO uG (pv 5) aA (by exact aX _)) (yL (fO du (bc (aD ⋯) (aV ⋯ (pv 0) (by rfl)) (pv 4) (by intro _ _;rfl)) aA (by exact aX _)))))) aj))) (aq (az (aN (aa (cD T.dM) aj)))) aK)
   (ak (a_ (i:=3) nd rfl (Or.inl rfl) (aZ cT ⋯ ∅ (aa (pv 0) (aa (pv 2) aj))))
   (ak (dH PassesOwn.never rfl (dN rfl T.d_ (aa (aV ⋯ (pv 0) (by rfl)) aj)) (aH (i:=4) nd rfl (Or.inl rfl))
   (aq (bB (aO Hq (bc (aD ⋯) (pv 3) (pv 4) (by intro _ _;rfl)) (bc (aD ⋯) (aV ⋯ (pv 0) (by rfl)) (pv 4) (by intro _ _;rfl)) (by exact aX _)) (aq (az (aN (aa aA (aa (pv 4) aj))))) aK)))
   (aq (az (aN (aa aA (aa (aY (lR ⋯ rfl) rfl T.rD pP (aa (dO rfl nd (aW ⋯ (pv 2)) (bh (own:=[("v",4),("count",5)]) (by kernel_rfl)) (fun _ _ _ _ _=>(gF (n:=2) ⋯ rfl (bI (aH (i:=4) nd rfl (Or.inl rfl)) (bI (aH (i:=5) nd rfl (Or.inl rfl)) gD)))) (fun _ _ _ _ _=>cu) (fun _ _ _ _ _=>(pv 5))) aj)) aj)))))))))),?_⟩
  ac_nf
  rw[PR.JD,PR.km]at k
  refine⟨_,rfl,_,rfl,m,s,a,ns,_,rfl,M,ha,hz,fun H1 g1=>⟨_,rfl,?_⟩⟩
  cases hok:PR.pairsOk s 1000000 ns with
  |false=>
   rw[hok]at k
   exact aQ ⟨by show 1≤sizeLine;decide,fun p hp=>k _ p (g1.trans (Go.laid hp)) ao⟩
  |true=>
   rw[hok,if_pos rfl]at k
   dsimp only at k
   obtain⟨hev,hnn⟩:=J6 hok
   have OK:=PR.yN hok
   have hsm:=lM hz
   refine bu ⟨_,rfl,a,ns,rfl,g1.lst ha,hev,hz,fun H2 p g2 hp=>?_⟩
   rw[Jh hnn]at hp
   have M2:=M.go (g1.trans g2)
   refine bO ?_
   ac_nf
   refine⟨_,rfl,p,rfl,hp.seq,fun D hD=>?_⟩
   refine bU (L:=L) (xs:=PR.pairs ns) (fun _=>true) (fun q=>V.bl ((placeOf s q.1).barred&&decide (0<q.2))) hD fB (fun H' g=>hp.go g) (by rw[sizeLine_eq];omega) (fun x y H' Ss g e Qn Qy hn hy=>?_) (fun H3 g3 hl3=>?_)
   ·obtain⟨q,rfl,hq⟩:=e
    ac_nf
    refine⟨q,_,rfl,mF.of hq,rfl,_,_,rfl,_,_,rfl,rfl,rfl,aQ ⟨_,rfl,_,_,rfl,rfl,_,rfl,?_⟩⟩
    have hy:=hy rfl H' (Go.refl _ _)
    by_cases hc:0<x.2
    ·rw[decide_eq_true hc]at hy ⊢
     refine aQ (qi T (M2.go g) rfl ⟨_,rfl,bj (M2.go g).barred rfl (kh (OK.lt x Ss) _) ⟨rfl,?_⟩⟩)
     cases hb:(placeOf s x.1).barred with
     |true=>rw[hb]at hy;exact hy
     |false=>rw[hb]at hy;exact hy
    ·rw[decide_eq_false hc]at hy ⊢
     rw[Bool.and_false]at hy
     exact bu hy
   ·rw[bG]at hl3
    refine⟨D,(PR.pairs ns).map fun q=>(placeOf s q.1).barred&&decide (0<q.2),rfl,bC.of (by rw[List.map_map];exact hl3),_,rfl,?_⟩
    rw[List.any_map]
    have Pa:=(g1.trans g2).trans g3
    have M3:=M.go Pa
    cases hany:(PR.pairs ns).any (id∘fun q=>(placeOf s q.1).barred&&decide (0<q.2))with
    |true=>
     rw[if_pos (show(PR.pairs ns).any (fun q=>(placeOf s q.1).barred&&decide (0<q.2))=true from hany)]at k
     exact aQ ⟨by show 1≤sizeLine;decide,fun p hp=>k _ p (Pa.trans (Go.laid hp)) ao⟩
    |false=>
     rw[if_neg (show ¬(PR.pairs ns).any (fun q=>(placeOf s q.1).barred&&decide (0<q.2))=true from by rw[show(PR.pairs ns).any (fun q=>(placeOf s q.1).barred&&decide (0<q.2))=false from hany];decide)]at k
     have hp3:=hp.go g3
     refine bu ⟨_,rfl,_,rfl,m,s,p,PR.pairs ns,rfl,M3,hp3,OK.lt,by omega,fun H4 h g4 hh=>?_⟩
     have M4:=M3.go g4
     have hp4:=hp3.go g4
     have Cm:=Pa.trans g4
     obtain⟨z1,z2,z3⟩:=d7 M
     refine cM ?_
     ac_nf
     refine fW T M4 rfl ⟨_,rfl,z1,z2,?_⟩
     have vN:∀v,decide (served (distances s) s.reach ((PR.pairs ns).map fun p=>(p.1,p.2.toNat)) v<needOf s v)=decide (PR.gj s s.reach v (PR.pairs ns)< ((placeOf s v).need:Int)):=fun v=>by
      rw[decide_eq_decide,←PR.yF (fun p hp=>(OK.nn p hp).1) v]
      unfold needOf
      omega
     refine bZ (cJ (n:=size s)) (fun i σ H'=>∃(v4:Option V),σ=[some (.ref m.p),some (.ref a),some (.ref p),some (.ref h),v4,none]∧H'=H4∧∀j,j<i→decide (PR.gj s s.reach j (PR.pairs ns)< ((placeOf s j).need:Int))=false)
      ⟨_,rfl,rfl,fun j hj=>absurd hj (Nat.not_lt_zero j)⟩ (fun _ _ _ _=>trivial) ?_ ?_
     ·rintro i x v σ H' hi rfl ⟨v4,rfl,rfl,hno⟩
      have hx:x<size s:=List.mem_range.mp (List.mem_of_getElem? hi)
      have hix:i=x:=by
       obtain⟨h1,h2⟩:=List.getElem?_eq_some_iff.mp hi
       rw[List.getElem_range]at h2;exact h2
      subst hix
      ac_nf
      refine⟨_,rfl,_,rfl,bj hh rfl (by rw[List.getElem?_map,List.getElem?_range hx];rfl) (gq T M4 rfl ⟨_,rfl,bj M4.needs rfl (kh hx _) ⟨_,_,rfl,rfl,_,rfl,vZ (fun hb=>?_) (fun hb=>?_)⟩⟩)⟩
      ·refine⟨_,rfl,by show 2≤sizeLine;decide,fun q hq=>?_⟩
       have e:short s (distances s) s.reach ((PR.pairs ns).map fun p=>(p.1,p.2.toNat))=some i:=by
        unfold short
        refine SN hx ?_ ?_
        ·rw[vN];exact hb
        ·intro j hj;rw[vN];exact hno j hj
       rw[e]at k
       exact k _ q (Cm.trans (Go.laid hq)) ao
      ·refine⟨_,rfl,rfl,fun j hj=>?_⟩
       by_cases hji:j<i
       ·exact hno j hji
       ·have:j=i:=by omega
        subst this
        exact Bool.eq_false_iff.mpr hb
     ·rintro σ H' ⟨v4,rfl,rfl,hno⟩
      have e:short s (distances s) s.reach ((PR.pairs ns).map fun p=>(p.1,p.2.toNat))=none:=by
       unfold short
       refine Ph fun j hj=>?_
       rw[vN];exact hno j (by rw[List.length_range];exact hj)
      rw[e]at k
      ac_nf
      refine bO ?_
      ac_nf
      refine⟨_,rfl,p,rfl,hp4.seq,fun D hD=>?_⟩
      refine bU (L:=L) (xs:=PR.pairs ns) (fun _=>true) (fun q=>V.int q.2) hD fB (fun H' g=>hp4.go g) (by rw[sizeLine_eq];omega) (fun x y H5 Ss g e Qn Qy hn hy=>?_) (fun H5 g5 Ex=>?_)
      ·obtain⟨q,rfl,hq⟩:=e
       ac_nf
       exact⟨q,_,rfl,mF.of hq,rfl,_,_,rfl,_,_,rfl,rfl,rfl,aQ ⟨_,rfl,hy rfl H5 (Go.refl _ _)⟩⟩
      ·rw[bG]at Ex
       refine⟨D,(PR.pairs ns).map (·.2),rfl,bC.of (by rw[List.map_map];exact Ex),by show 2≤sizeLine;decide,fun q hq=>?_⟩
       have k':=k _ q ((Cm.trans g5).trans (Go.laid (o:= .lst [.int 0,.int ((PR.pairs ns).map (·.2)).sum]) hq))
       rw[PR.xY]at k'
       exact k' ao
theorem Mp{s:State}{ns:List Int}(h:PR.placesOk s ns=true):∃x:List Nat,ns=x.map nat∧(∀v∈x,v<size s)∧ns.map Int.toNat=x:=by
 unfold PR.placesOk at h
 rw[Bool.and_eq_true,List.all_eq_true]at h
 refine⟨ns.map Int.toNat,?_,fun v hv=>?_,rfl⟩
 ·rw[List.map_map]
  conv=>lhs;rw[←List.map_id ns]
  refine List.map_congr_left fun n hn=>?_
  have:=(PR.fP.mp (h.1 n hn)).1
  show n=Int.ofNat n.toNat
  simp;omega
 ·obtain⟨n,hn,rfl⟩:=List.mem_map.mp hv
  have:=PR.fP.mp (h.1 n hn)
  omega
theorem lW{α:Type}{p:α→Bool}:∀ {l:List α} {i:Nat} {x:α},l[i]? =some x→p x=true→(∀(j:Nat) (y:α),j<i→l[j]? =some y→p y=false)→l.find? p=some x
 | [],i,x,h,_,_=>by simp at h
 |a::l,0,x,h,h1,_=>by
  have:a=x:=by simpa using h
  subst this
  rw[List.find?_cons_of_pos h1]
 |a::l,i+1,x,h,h1,h2=>by
  have:=h2 0 a (Nat.succ_pos _) rfl
  rw[List.find?_cons_of_neg (by rw[this];decide)]
  exact lW (i:=i) (by simpa using h) h1 fun j y hj hy=>h2 (j+1) y (by omega) (by simpa using hy)
theorem o_{α:Type}{p:α→Bool}{l:List α}(h2:∀(j:Nat) (y:α),j<l.length→l[j]? =some y→p y=false):l.find? p=none:=by
 rw[List.find?_eq_none]
 intro y hy
 obtain⟨j,hj⟩:=List.getElem?_of_mem hy
 rw[h2 j y (List.getElem?_eq_some_iff.mp hj).1 hj];decide
theorem Cq(s:State)(q:Nat→Bool):(List.range (size s)).find? (fun v=> !(placeOf s v).barred&&q v)=(PR.free s).find? q:=by
 unfold PR.free
 rw[List.find?_filter]
 congr 1
 funext v
 simp [Bool.decide_and]
theorem zr{α β:Type}{f g:α→List β}:∀ {l:List α},(∀x∈l,f x=g x)→l.flatMap f=l.flatMap g
 | [],_=>rfl
 |x::l,h=>by rw[List.flatMap_cons,List.flatMap_cons,h x List.mem_cons_self,zr (l:=l) fun y hy=>h y (List.mem_cons_of_mem _ hy)]
def GZ(_:Bs)(L:List aG)(C:Addr):Sp:=fun vs H Q _=>∃(m:Ad) (s:State) (a:Addr) (ns:List Int),vs=[.ref m.p,.ref a]∧aR L C H m s∧H a=some (.lst (ns.map V.int))∧ns.length≤4000∧Gives L H Q (step s [[13],ns]).2
theorem Q9:aJ ["roadmap","row","post","met","v"] ["roadmap","row"] (au (top 34)):=by symm_saturate
theorem RL{B:Bs}{L:List aG}{C c:Addr}(T:Txt B C)(F:bJ B "apart" (top 34) ["roadmap","row"])(cR:Df B 4 "are_places" ["roadmap","row"] (jc B L C))(aM:Mt B C 2 "places_not_barred" ["self"] (bT B L C))(bL:Mt B C 4 "in_reach" ["self","post","v"] (eX B L C)):Df B 6 "apart" ["roadmap","row"] (GZ B L C):=by
 exists Q9
 ·obtain⟨_,_,_,_,rfl,_⟩:=h
  rfl
 ·obtain⟨m,s,a,ns,rfl,M,ha,hz,k⟩:=h
  refine⟨_,(ak (bB (d9 (cz (aZ cR ⋯ ∅ (aa (pv 0) (aa (pv 1) aj))))) (aq (az (aN (aa (cD T.bW) aj)))) aK)
   (ak (dH PassesOwn.never rfl (aW ⋯ (iz (pv 0) ⋯ T.cl aM ∅)) (aH (i:=2) nd rfl (Or.inr rfl))
   (ak (gm rfl nd (i:=3) rfl rfl rfl (aW ⋯ (pv 1)) (bh (own:=[("v",4)]) (by kernel_rfl)) (fun _ _ _ _ _=>(aH (i:=4) nd rfl (Or.inl rfl))) (fun _ _ _ _ _=>(fc (cz (gQ (pv 0) ⋯ T.cl bL ∅ (aa (pv 2) (aa (pv 4) aj)))))) (fun _ _ _ _ _=>(pv 4)))
    (aq (bB (aO Wx (aY (bA ⋯) rfl T.gn PySem.boot_len (aa (pv 3) aj)) aA (by exact aX _)) (aq (az (aN (aa aA (aa (pv 2) (aa (bc (aD ⋯) (pv 3) aA (by intro _ _;rfl)) (aa (bc (aD ⋯) (pv 3) aA (by intro _ _;rfl)) aj))))))) aK))))
   (aq (az (aN (aa aA (aa (aY (lR ⋯ rfl) rfl T.rD pP (aa (dO rfl nd (aW ⋯ (pv 1)) (bh (own:=[("v",4)]) (by kernel_rfl)) (fun _ _ _ _ _=>(aH (i:=4) nd rfl (Or.inl rfl))) (fun _ _ _ _ _=>cu) (fun _ _ _ _ _=>(bc (aD ⋯) (aV ⋯ (pv 0) (by rfl)) (pv 4) (by intro _ _;rfl)))) aj)) aj))))))),?_⟩
  ac_nf
  rw[PR.JC,PR.oZ]at k
  refine⟨_,rfl,_,rfl,m,s,a,ns,rfl,M,ha,hz,fun H1 g1=>⟨_,rfl,?_⟩⟩
  cases hok:PR.placesOk s ns with
  |false=>
   rw[hok]at k
   exact aQ ⟨by show 1≤sizeLine;decide,fun p hp=>k _ p (g1.trans (Go.laid hp)) ao⟩
  |true=>
   rw[hok,if_pos rfl]at k
   dsimp only at k
   obtain⟨x,rfl,hlt,ex⟩:=Mp hok
   rw[ex]at k
   rw[←dR]at ha
   rw[List.length_map]at hz
   refine bu (cM ?_)
   ac_nf
   have M1:=M.go g1
   refine cP M1 rfl (by decide+kernel) ⟨m,s,rfl,M1,fun H2 fr g2 hfr=>⟨fr,rfl,⟨_,bC.of hfr⟩,?_⟩⟩
   have M2:=M1.go g2
   have PQ:=g1.trans g2
   have ha2:=PQ.lst ha
   let cond:Nat→Bool:=fun v=>decide (1< (x.filter fun u=>inReach (distances s) s.reach v u).length)
   have both_eq:both s (distances s) s.reach x=match (PR.free s).find? cond with
     |none=>none
     |some v=>some (v,(x.filter fun u=>inReach (distances s) s.reach v u).take 2):=by
    unfold both
    rw[Cq s (fun v=>decide (1< (x.filter fun u=>inReach (distances s) s.reach v u).length))]
    rfl
   rw[both_eq]at k
   refine bZ (bx (xs:=PR.free s) (f:=dg)) (fun i σ H'=>∃(v2 v3:Option V),σ=[some (.ref m.p),some (.ref a),v2,v3,none]∧Go L H2 H'∧∀(j:Nat) (y:Nat),j<i→(PR.free s)[j]? =some y→cond y=false)
    ⟨_,_,rfl,Go.refl _ _,fun j y hj=>absurd hj (Nat.not_lt_zero j)⟩ (fun i σ H' ⟨_,_,_,g,_⟩=>bC.of (g.lst hfr)) ?_ ?_
   ·rintro i p v σ H' hi rfl ⟨v2,v3,rfl,g3,hno⟩
    have hp:p<size s:=qd (List.mem_of_getElem? hi)
    have M3:=M2.go g3
    ac_nf
    refine bO ?_
    ac_nf
    refine⟨_,rfl,a,rfl,⟨_,bC.of (g3.lst ha2)⟩,fun D hD=>?_⟩
    refine bU (L:=L) (xs:=x) (fun u=>inReach (distances s) s.reach p u) dg hD bx (fun H4 g=>bC.of (g.lst (g3.lst ha2))) (by rw[sizeLine_eq];omega) (fun u y H4 hu g e Qn Qy hn hy=>?_) (fun H4 g4 lX=>?_)
    ·subst e
     ac_nf
     refine⟨rfl,cP (M3.go g) rfl (by decide+kernel) ⟨_,rfl,_,rfl,m,s,p,u,rfl,M3.go g,hp,hlt u hu,_,rfl,?_⟩⟩
     cases e:inReach (distances s) s.reach p u with
     |false=>exact hn e H4 (Go.refl _ _)
     |true=>exact aQ ⟨_,rfl,hy e H4 (Go.refl _ _)⟩
    ·refine⟨_,rfl,D,_,rfl,.inl (bC.of lX),_,_,rfl,rfl,_,rfl,?_⟩
     rw[List.length_map]
     refine vZ (fun hb=>?_) (fun hb=>?_)
     ·have hb:=of_decide_eq_true hb
      have hc:cond p=true:=decide_eq_true (by omega)
      rw[lW hi hc hno]at k
      dsimp only at k
      match hf:(x.filter fun u=>inReach (distances s) s.reach p u),hb with
      | [],hb=>exact absurd hb (by decide)
      | [u],hb=>exact absurd hb (by simp)
      |u1::u2::r,hb=>
       rw[hf]at lX k
       refine⟨_,rfl,_,rfl,bj lX (j:=0) rfl rfl ⟨_,rfl,bj lX (j:=1) rfl rfl ⟨by show 4≤sizeLine;decide,fun q hq=>?_⟩⟩⟩
       exact k _ q (((PQ.trans g3).trans g4).trans (Go.laid hq)) ao
     ·refine⟨_,_,rfl,g3.trans g4,fun j y hj hy=>?_⟩
      by_cases hji:j<i
      ·exact hno j y hji hy
      ·have:j=i:=by omega
       subst this
       have:y=p:=Option.some.inj (hy.symm.trans hi)
       subst this
       refine decide_eq_false fun z=>hb (decide_eq_true ?_)
       omega
   ·rintro σ H' ⟨v2,v3,rfl,g3,hno⟩
    rw[o_ hno]at k
    dsimp only at k
    have M3:=M2.go g3
    ac_nf
    refine bO ?_
    ac_nf
    refine⟨_,rfl,a,rfl,⟨_,bC.of (g3.lst ha2)⟩,fun D hD=>?_⟩
    refine bU (L:=L) (xs:=x) (fun _=>true) (fun v=>V.int ((placeOf s v).need:Int)) hD bx (fun H4 g=>bC.of (g.lst (g3.lst ha2))) (by rw[sizeLine_eq];omega) (fun u y H4 hu g e Qn Qy hn hy=>?_) (fun H4 g4 lX=>?_)
    ·subst e
     ac_nf
     exact⟨rfl,aQ (gq T (M3.go g) rfl ⟨_,rfl,bj (M3.go g).needs rfl (kh (hlt u hu) _) (hy rfl H4 (Go.refl _ _))⟩)⟩
    ·rw[bG]at lX
     refine⟨D,x.map fun v=>((placeOf s v).need:Int),rfl,bC.of (by rw[List.map_map];exact lX),by show 2≤sizeLine;decide,fun q hq=>?_⟩
     have k':=k _ q (((PQ.trans g3).trans g4).trans (Go.laid (o:= .lst [.int 0,.int (x.map fun v=>((placeOf s v).need:Int)).sum]) hq))
     have e:nat (total (x.map fun u=>(u,needOf s u)))=(x.map fun v=>((placeOf s v).need:Int)).sum:=by
      rw[PR.jL,List.map_map,PR.ul];rfl
     unfold ans at k'
     dsimp only at k'
     rw[e]at k'
     exact k' ao
def LQ(_:Bs)(L:List aG)(C:Addr):Sp:=fun vs H Q _=>∃(m:Ad) (s:State) (a:Addr) (ns:List Int),vs=[.ref m.p,.ref a]∧aR L C H m s∧H a=some (.lst (ns.map V.int))∧ns.length≤4000∧Gives L H Q (step s [[14],ns]).2
theorem Ux:aJ ["roadmap","row","amounts","post","v","amount"] ["roadmap","row"] (au (top 35)):=by symm_saturate
theorem Vf{B:Bs}{L:List aG}{C c:Addr}(T:Txt B C)(F:bJ B "pays" (top 35) ["roadmap","row"])(dG:Df B 6 "are_pairs" ["roadmap","row","greatest"] (jM B L C))(eF:Df B 2 "pairs_of" ["row"] (lD B L C))(aM:Mt B C 2 "places_not_barred" ["self"] (bT B L C))(dW:Df B 6 "sum_in_reach" ["roadmap","v","pairs"] (jo B L C)):Df B 8 "pays" ["roadmap","row"] (LQ B L C):=by
 exists Ux
 ·obtain⟨_,_,_,_,rfl,_⟩:=h
  rfl
 ·obtain⟨m,s,a,ns,rfl,M,ha,hz,k⟩:=h
  refine⟨_,(ak (bB (d9 (cz (aZ dG ⋯ ∅ (aa (pv 0) (aa (pv 1) (aa (cD T.iJ) aj)))))) (aq (az (aN (aa (cD T.bW) aj)))) aK)
   (ak (a_ (i:=2) nd rfl (Or.inl rfl) (aZ eF ⋯ ∅ (aa (pv 1) aj)))
   (ak (bB (cz (aY (ql ⋯ rfl) rfl T.wZ wM (aa (dO rfl nd (aW ⋯ (pv 2)) (bh (own:=[("v",4),("amount",5)]) (by kernel_rfl)) (fun _ _ _ _ _=>(gF (n:=2) ⋯ rfl (bI (aH (i:=4) nd rfl (Or.inl rfl)) (bI (aH (i:=5) nd rfl (Or.inl rfl)) gD)))) (fun _ _ _ _ _=>cu) (fun _ _ _ _ _=>(DW (fO uG (pv 5) aA (by exact aX _)) (yL (fO du (bc (aD ⋯) (aV ⋯ (pv 0) (by rfl)) (pv 4) (by intro _ _;rfl)) aA (by exact aX _)))))) aj))) (aq (az (aN (aa (cD T.dM) aj)))) aK)
   (ak (dH PassesOwn.never rfl (aW ⋯ (iz (pv 0) ⋯ T.cl aM ∅)) (aH (i:=3) nd rfl (Or.inl rfl))
   (aq (bB (aO uG (aZ dW ⋯ ∅ (aa (pv 0) (aa (pv 3) (aa (pv 2) aj)))) (bc (aD ⋯) (aV ⋯ (pv 0) (by rfl)) (pv 3) (by intro _ _;rfl)) (by exact aX _)) (aq (az (aN (aa aA (aa (pv 3) aj))))) aK)))
   (aq (az (aN (aa aA (aa (aY (lR ⋯ rfl) rfl T.rD pP (aa (dO rfl nd (aW ⋯ (pv 2)) (bh (own:=[("v",4),("amount",5)]) (by kernel_rfl)) (fun _ _ _ _ _=>(gF (n:=2) ⋯ rfl (bI (aH (i:=4) nd rfl (Or.inl rfl)) (bI (aH (i:=5) nd rfl (Or.inl rfl)) gD)))) (fun _ _ _ _ _=>cu) (fun _ _ _ _ _=>(pv 5))) aj)) aj))))))))),?_⟩
  ac_nf
  rw[PR.JB,PR.km]at k
  refine⟨_,rfl,_,rfl,m,s,a,ns,_,rfl,M,ha,hz,fun H1 g1=>⟨_,rfl,?_⟩⟩
  cases hok:PR.pairsOk s 1000000000000 ns with
  |false=>
   rw[hok]at k
   exact aQ ⟨by show 1≤sizeLine;decide,fun p hp=>k _ p (g1.trans (Go.laid hp)) ao⟩
  |true=>
   rw[hok,if_pos rfl]at k
   dsimp only at k
   obtain⟨hev,hnn⟩:=J6 hok
   have OK:=PR.yN hok
   have hsm:=lM hz
   refine bu ⟨_,rfl,a,ns,rfl,g1.lst ha,hev,hz,fun H2 p g2 hp=>?_⟩
   rw[Jh hnn]at hp
   have M2:=M.go (g1.trans g2)
   refine bO ?_
   ac_nf
   refine⟨_,rfl,p,rfl,hp.seq,fun D hD=>?_⟩
   refine bU (L:=L) (xs:=PR.pairs ns) (fun _=>true) (fun q=>V.bl (decide (needOf s q.1=0∧0<q.2))) hD fB (fun H' g=>hp.go g) (by rw[sizeLine_eq];omega) (fun x y H' Ss g e Qn Qy hn hy=>?_) (fun H3 g3 hl3=>?_)
   ·obtain⟨q,rfl,hq⟩:=e
    ac_nf
    refine⟨q,_,rfl,mF.of hq,rfl,_,_,rfl,_,_,rfl,rfl,rfl,aQ ⟨_,rfl,_,_,rfl,rfl,_,rfl,?_⟩⟩
    have hy:=hy rfl H' (Go.refl _ _)
    by_cases hc:0<x.2
    ·rw[decide_eq_true hc]
     refine aQ (gq T (M2.go g) rfl ⟨_,rfl,bj (M2.go g).needs rfl (kh (OK.lt x Ss) _) ⟨rfl,?_⟩⟩)
     have e:decide (V.int ((placeOf s x.1).need:Int)=V.int 0)=decide (needOf s x.1=0∧0<x.2):=by
      rw[decide_eq_decide,V.int.injEq]
      unfold needOf
      constructor
      ·intro z;exact⟨by omega,hc⟩
      ·intro z;have:=z.1;omega
     rw[e];exact hy
    ·rw[decide_eq_false hc]
     rw[decide_eq_false (fun z=>hc z.2)]at hy
     exact bu hy
   ·rw[bG]at hl3
    refine⟨D,(PR.pairs ns).map fun q=>decide (needOf s q.1=0∧0<q.2),rfl,bC.of (by rw[List.map_map];exact hl3),_,rfl,?_⟩
    rw[List.any_map]
    have Pa:=(g1.trans g2).trans g3
    have M3:=M.go Pa
    cases hany:(PR.pairs ns).any (id∘fun q=>decide (needOf s q.1=0∧0<q.2))with
    |true=>
     rw[if_pos (show(PR.pairs ns).any (fun q=>decide (needOf s q.1=0∧0<q.2))=true from hany)]at k
     exact aQ ⟨by show 1≤sizeLine;decide,fun p hp=>k _ p (Pa.trans (Go.laid hp)) ao⟩
    |false=>
     rw[if_neg (show ¬(PR.pairs ns).any (fun q=>decide (needOf s q.1=0∧0<q.2))=true from by rw[show(PR.pairs ns).any (fun q=>decide (needOf s q.1=0∧0<q.2))=false from hany];decide)]at k
     have hp3:=hp.go g3
     refine bu (cM ?_)
     ac_nf
     refine cP M3 rfl (by decide+kernel) ⟨m,s,rfl,M3,fun H4 fr g4 hfr=>⟨fr,rfl,⟨_,bC.of hfr⟩,?_⟩⟩
     have M4:=M3.go g4
     have hp4:=hp3.go g4
     have Cm:=Pa.trans g4
     let cond:Nat→Bool:=fun v=>decide ((placeOf s v).cost<PR.gj s s.reach v (PR.pairs ns))
     have U9:over s (distances s) s.reach (PR.pairs ns)=(PR.free s).find? cond:=by
      unfold over
      rw[Cq s (fun v=>decide ((placeOf s v).cost<sumI (((PR.pairs ns).filter fun q=>inReach (distances s) s.reach v q.1).map fun q=>q.2)))]
      congr 1
      funext v
      rw[PR.Rx]
     rw[U9]at k
     refine bZ (bx (xs:=PR.free s) (f:=dg)) (fun i σ H'=>∃(v3:Option V),σ=[some (.ref m.p),some (.ref a),some (.ref p),v3,none,none]∧Go L H4 H'∧∀(j:Nat) (y:Nat),j<i→(PR.free s)[j]? =some y→cond y=false)
      ⟨_,rfl,Go.refl _ _,fun j y hj=>absurd hj (Nat.not_lt_zero j)⟩ (fun i σ H' ⟨_,_,g,_⟩=>bC.of (g.lst hfr)) ?_ ?_
     ·rintro i pt v σ H' hi rfl ⟨v3,rfl,g5,hno⟩
      have hpt:pt<size s:=qd (List.mem_of_getElem? hi)
      have M5:=M4.go g5
      ac_nf
      refine⟨_,rfl,_,rfl,_,rfl,m,s,pt,p,PR.pairs ns,rfl,M5,hpt,hp4.go g5,OK.lt,by omega,fun H6 g6=>?_⟩
      have M6:=M5.go g6
      refine pI T M6 rfl ⟨_,rfl,bj M6.costs rfl (kh hpt _) ⟨_,_,rfl,rfl,_,rfl,vZ (fun hb=>?_) (fun hb=>?_)⟩⟩
      ·rw[lW hi hb hno]at k
       exact⟨_,rfl,by show 2≤sizeLine;decide,fun q hq=>k _ q (((Cm.trans g5).trans g6).trans (Go.laid hq)) ao⟩
      ·refine⟨_,rfl,g5.trans g6,fun j y hj hy=>?_⟩
       by_cases hji:j<i
       ·exact hno j y hji hy
       ·have:j=i:=by omega
        subst this
        have:y=pt:=Option.some.inj (hy.symm.trans hi)
        subst this
        exact Bool.eq_false_iff.mpr hb
     ·rintro σ H' ⟨v3,rfl,g5,hno⟩
      rw[o_ hno]at k
      dsimp only at k
      have hp5:=hp4.go g5
      ac_nf
      refine bO ?_
      ac_nf
      refine⟨_,rfl,p,rfl,hp5.seq,fun D hD=>?_⟩
      refine bU (L:=L) (xs:=PR.pairs ns) (fun _=>true) (fun q=>V.int q.2) hD fB (fun H' g=>hp5.go g) (by rw[sizeLine_eq];omega) (fun x y H5 Ss g e Qn Qy hn hy=>?_) (fun H6 g6 WT=>?_)
      ·obtain⟨q,rfl,hq⟩:=e
       ac_nf
       exact⟨q,_,rfl,mF.of hq,rfl,_,_,rfl,_,_,rfl,rfl,rfl,aQ ⟨_,rfl,hy rfl H5 (Go.refl _ _)⟩⟩
      ·rw[bG]at WT
       refine⟨D,(PR.pairs ns).map (·.2),rfl,bC.of (by rw[List.map_map];exact WT),by show 2≤sizeLine;decide,fun q hq=>?_⟩
       have k':=k _ q (((Cm.trans g5).trans g6).trans (Go.laid (o:= .lst [.int 0,.int ((PR.pairs ns).map (·.2)).sum]) hq))
       unfold ans at k'
       dsimp only at k'
       rw[PR.xY]at k'
       exact k' ao
def GQ(_:Bs)(L:List aG)(C:Addr):Sp:=fun vs H Q _=>∃(m:Ad) (s:State) (a:Addr) (ns:List Int),vs=[.ref m.p,.ref a]∧aR L C H m s∧H a=some (.lst (ns.map V.int))∧ns.length≤4000∧Gives L H Q (step s [[18],ns]).2
theorem Q6:aJ ["roadmap","row","posts","have","post","count"] ["roadmap","row"] (au (top 36)):=by symm_saturate
theorem RG{B:Bs}{L:List aG}{C c:Addr}(T:Txt B C)(F:bJ B "frail" (top 36) ["roadmap","row"])(dG:Df B 6 "are_pairs" ["roadmap","row","greatest"] (jM B L C))(eF:Df B 2 "pairs_of" ["row"] (lD B L C))(cT:Df B 8 "posts_in_reach" ["roadmap","posts"] (g_ B L C))(cC:Df B 2 "listed_pairs" ["pairs"] (gC B L C))(iW:Df B 6 "how_many_short" ["roadmap","have","post","count"] (lE B L C)):Df B 10 "frail" ["roadmap","row"] (GQ B L C):=by
 exists Q6
 ·obtain⟨_,_,_,_,rfl,_⟩:=h
  rfl
 ·obtain⟨m,s,a,ns,rfl,M,ha,hz,k⟩:=h
  refine⟨_,(ak (bB (d9 (cz (aZ dG ⋯ ∅ (aa (pv 0) (aa (pv 1) (aa (cD T.fY) aj)))))) (aq (az (aN (aa (cD T.bW) aj)))) aK)
   (ak (a_ (i:=2) nd rfl (Or.inl rfl) (aZ eF ⋯ ∅ (aa (pv 1) aj)))
   (ak (a_ (i:=3) nd rfl (Or.inr rfl) (aZ cT ⋯ ∅ (aa (pv 0) (aa (pv 2) aj))))
   (aq (az (aZ cC ⋯ ∅ (aa (dO rfl nd (aW ⋯ (pv 2)) (bh (own:=[("post",4),("count",5)]) (by kernel_rfl)) (fun _ _ _ _ _=>(gF (n:=2) ⋯ rfl (bI (aH (i:=4) nd rfl (Or.inl rfl)) (bI (aH (i:=5) nd rfl (Or.inl rfl)) gD)))) (fun _ _ _ _ _=>cu) (fun _ _ _ _ _=>(kj (aa (pv 4) (aa (aZ iW ⋯ ∅ (aa (pv 0) (aa (pv 3) (aa (pv 4) (aa (pv 5) aj))))) aj))))) aj))))))),?_⟩
  ac_nf
  rw[PR.Jw,PR.km]at k
  refine⟨_,rfl,_,rfl,m,s,a,ns,_,rfl,M,ha,hz,fun H1 g1=>⟨_,rfl,?_⟩⟩
  cases hok:PR.pairsOk s 1000000 ns with
  |false=>
   rw[hok]at k
   exact aQ ⟨by show 1≤sizeLine;decide,fun p hp=>k _ p (g1.trans (Go.laid hp)) ao⟩
  |true=>
   rw[hok,if_pos rfl]at k
   dsimp only at k
   obtain⟨hev,hnn⟩:=J6 hok
   have OK:=PR.yN hok
   have hsm:=lM hz
   refine bu ⟨_,rfl,a,ns,rfl,g1.lst ha,hev,hz,fun H2 p g2 hp=>?_⟩
   rw[Jh hnn]at hp
   have M2:=M.go (g1.trans g2)
   refine⟨_,rfl,_,rfl,m,s,p,PR.pairs ns,rfl,M2,hp,OK.lt,by omega,fun H3 h g3 hh=>?_⟩
   have M3:=M2.go g3
   have hp3:=hp.go g3
   refine bO ?_
   ac_nf
   refine⟨_,rfl,p,rfl,hp3.seq,fun D hD=>?_⟩
   let f:Nat→Int:=fun v=>PR.gj s s.reach v (PR.pairs ns)
   refine Ep (L:=L) (xs:=PR.pairs ns) (fun _=>true) (fun q=>Ho ((q.1:Int),(((List.range (size s)).filter (lack s f q.1 q.2)).length:Int))) hD fB (fun H' g=>hp3.go g) (by rw[sizeLine_eq];omega) (fun x y H' Ss g e Qn Qy hn hy=>?_) (fun H4 g4 lX=>?_)
   ·obtain⟨q,rfl,hq⟩:=e
    ac_nf
    refine⟨q,_,rfl,mF.of hq,rfl,_,_,rfl,_,_,rfl,rfl,rfl,aQ ⟨_,rfl,_,rfl,_,rfl,_,rfl,_,rfl,m,s,h,f,x.1,x.2,rfl,M3.go g,g.lst hh,OK.lt x Ss,by show 2≤sizeLine;decide,fun t ht=>?_⟩⟩
    exact hy rfl t _ (Go.laid ht) ao
   ·rw[bG]at lX
    refine⟨D,(PR.pairs ns).map fun q=>((q.1:Int),(((List.range (size s)).filter (lack s f q.1 q.2)).length:Int)),rfl,by rw[List.map_map];exact lX,by rw[List.length_map];omega,fun H5 r g5 hr5=>?_⟩
    refine k H5 r ((((g1.trans g2).trans g3).trans g4).trans g5) ?_
    rw[hr5]
    congr 3
    unfold ans xf
    dsimp only
    rw[List.length_map,List.length_map,List.flatMap_map,List.flatMap_map]
    congr 1
    refine zr fun q hq=>?_
    congr 2
    show((_:Nat):Int)=((_:Nat):Int)
    refine congrArg (fun l:List Nat=>((l.length:Nat):Int)) ?_
    refine List.filter_congr fun u hu=>?_
    unfold lack
    rw[decide_eq_decide]
    have e1:=PR.yF (s:=s) (r:=s.reach) (x:=PR.pairs ns) (fun p hp=>(OK.nn p hp).1) u
    show f u - _<_↔_
    have e2:f u=_:=e1.symm
    rw[e2]
    have hn:=(OK.nn q hq).1
    by_cases hc:0<q.2∧inReach (distances s) s.reach q.1 u=true
    ·rw[if_pos hc,if_pos ⟨by omega,hc.2⟩];omega
    ·rw[if_neg hc,if_neg (fun z=>hc ⟨by have:=z.1;omega,z.2⟩)];omega
theorem RM(o:Option Int):decide (oV o=V.non)= !o.isSome:=by cases o<;>rfl
def qP(_:Bs)(L:List aG)(_:Addr):Sp:=fun vs H Q _=>∃(s:State) (v:Nat) (d a:Addr) (x:List Nat),vs=[.ref d,.ref a]∧H d=some (.lst ((PR.row s v).map oV))∧v<size s∧H a=some (.lst (x.map dg))∧(∀u∈x,u<size s)∧x.length≤4000∧iQ L H∧Gives L H Q (PR.sJ s v x)
def lJ:Addr:=334
theorem qY:aJ ["distances","row","joined","near","u"] ["distances","row"] (au (top 63)):=by symm_saturate
def jr:aG:=⟨lJ,⟨289,27,289,49⟩,"nearest_to.<locals>.<lambda>"⟩
theorem Av{B:Bs}{L:List aG}{C c:Addr}(T:Txt B C)(F:z7 B "nearest_to" (top 63) ["distances","row"] (.ref c))(hL:Jd B L jr c):Df B 6 "nearest_to" ["distances","row"] (qP B L C):=by
 have nd:=qY.nd
 refine F.df qY (fun vs H Q E h=>?_) (fun f A outer s0 H vs Q E hr h=>?_)
 ·obtain⟨_,_,_,_,_,rfl,_⟩:=h
  rfl
 ·obtain⟨s,v,d,a,x,rfl,hd,hv,ha,hlt,hz,hS,k⟩:=h
  refine⟨_,(ak (gm rfl nd (i:=2) rfl rfl rfl (aW ⋯ (pv 1)) (bh (own:=[("u",4)]) (by kernel_rfl)) (fun _ _ _ _ _=>(aH (i:=4) nd rfl (Or.inl rfl))) (fun _ _ _ _ _=>(fc (aO iB (bc (aD ⋯) (pv 0) (pv 4) (by intro _ _;rfl)) dw (by exact aX _)))) (fun _ _ _ _ _=>(pv 4)))
   (ak (bB (aO du (aY (bA ⋯) rfl T.gn PySem.boot_len (aa (pv 2) aj)) aA (by exact aX _)) (aq (az (aN (aa (Mj Qj aA) (aa aA aj))))) aK)
   (ak (a_ (i:=3) nd rfl (Or.inl rfl) (Oj (k:=0) ∅ rfl nd rfl T.HB hL.mem hL.ap (by exact Kf (pn:="u") (ip:=4) hL (by rfl) (by rfl) (by rfl) ⟨rfl,rfl,rfl,rfl,rfl,by decide+kernel,by decide+kernel,by decide+kernel⟩ (by decide+kernel) (by intros;rfl)) (aa (pv 2) aj) (fun _ _ _ _ _=>(bc (aD ⋯) (pv 0) (pv 4) (by intro _ _;rfl)))))
   (aq (az (aN (aa (pv 3) (aa (bc (aD ⋯) (pv 0) (pv 3) (by intro _ _;rfl)) aj)))))))),?_⟩
  ac_nf
  refine bO ?_
  ac_nf
  refine⟨_,rfl,a,rfl,⟨_,bC.of ha⟩,fun D hD=>?_⟩
  refine bU (L:=L) (xs:=x) (fun u=>(cell (distances s) v u).isSome) dg hD bx (fun H' g=>bC.of (g.lst ha)) (by rw[sizeLine_eq];omega) (fun u y H' hu g e Qn Qy hn hy=>?_) (fun H1 g1 hl=>?_)
  ·subst e
   ac_nf
   refine⟨rfl,_,rfl,_,rfl,bj (g.lst hd) rfl (rR hv (hlt u hu)) ⟨rfl,_,rfl,?_⟩⟩
   rw[RM,Bool.not_not]
   cases e:(cell (distances s) v u).isSome with
   |false=>exact hn e H' (Go.refl _ _)
   |true=>exact aQ ⟨_,rfl,hy e H' (Go.refl _ _)⟩
  ·let J:=x.filter fun u=>(cell (distances s) v u).isSome
   have sym:∀u,cell (distances s) u v=cell (distances s) v u:=fun u=>PR.Iz s u v
   have hJ:(x.filter fun u=>(cell (distances s) u v).isSome)=J:=List.filter_congr fun u _=>by rw[sym]
   have Yv:∀u∈J,u<size s∧(cell (distances s) v u).isSome=true:=fun u hu=>⟨hlt u (List.mem_filter.mp hu).1,(List.mem_filter.mp hu).2⟩
   refine⟨_,rfl,D,_,rfl,.inl (bC.of hl),rfl,_,rfl,?_⟩
   rw[List.length_map]
   rcases PR.BR (distances s) v x with⟨e1,e2⟩| ⟨w,dd,e1,e2,fm⟩
   ·rw[hJ]at e2
    rw[show(x.filter fun u=>(cell (distances s) v u).isSome)=J from rfl,e2]
    have k':Gives L H Q [-1,0]:=by unfold PR.sJ at k;rw[e1]at k;exact k
    exact aQ ⟨_,rfl,by show 2≤sizeLine;decide,fun q hq=>k' _ q (g1.trans (Go.laid hq)) ao⟩
   ·rw[hJ]at fm
    have hne:0<J.length:=by
     obtain⟨i,hi,_⟩:=fm.ex
     have:=(List.getElem?_eq_some_iff.mp hi).1
     omega
    rw[show decide (V.int ((x.filter fun u=>(cell (distances s) v u).isSome).length:Int)=V.int 0)=false from decide_eq_false fun z=>by injection z with z;have:(J.length:Int)=0:=z;omega]
    have k':Gives L H Q [nat w,dd]:=by unfold PR.sJ at k;rw[e1]at k;exact k
    refine bu ?_
    unfold Lw
    ac_nf
    rw[dR]at hl
    refine⟨_,rfl,D,J.map nat,fun n=>(cell (distances s) v n.toNat).getD 0,rfl,bC.of hl,by rw[List.length_map];exact hne,g1.st hS,fun n hn H2 g2 Qk hk=>?_,fun H2 i n g2 hb=>?_⟩
    ·obtain⟨u,hu,rfl⟩:=List.mem_map.mp hn
     refine⟨_,rfl,_,rfl,bj (g2.lst (g1.lst hd)) rfl (rR hv (Yv u hu).1) ?_⟩
     obtain⟨z,hz2⟩:=Option.isSome_iff_exists.mp (Yv u hu).2
     have e:oV (cell (distances s) v u)=V.int ((cell (distances s) v (nat u).toNat).getD 0):=by
      rw[show(nat u).toNat=u from rfl,hz2];rfl
     rw[e];exact hk
    ·obtain⟨hb1,hb2⟩:=hb
     rw[List.getElem?_map]at hb1
     obtain⟨u,hu,rfl⟩:∃u,J[i]? =some u∧nat u=n:=by
      cases q:J[i]? with
      |none=>rw[q]at hb1;cases hb1
      |some u=>rw[q]at hb1;exact⟨u,rfl,Option.some.inj hb1⟩
     have fm2:PR.mG (fun y=>(cell (distances s) y v).getD 0) J u:=by
      refine⟨i,hu,fun j y hj=>?_⟩
      have hjl:j<J.length:=(List.getElem?_eq_some_iff.mp hj).1
      have:=hb2 j (nat y) (by rw[List.length_map];exact hjl) (by rw[List.getElem?_map,hj];rfl)
      simp only[sym]
      exact this
     have ew:=PR.mG.unique fm2 fm
     subst ew
     have hum:u∈J:=List.mem_of_getElem? hu
     refine⟨_,rfl,_,rfl,_,rfl,bj (g2.lst (g1.lst hd)) rfl (rR hv (Yv u hum).1) ⟨by show 2≤sizeLine;decide,fun q hq=>?_⟩⟩
     have e:oV (cell (distances s) v u)=V.int dd:=by rw[←sym,e2];rfl
     refine k' _ q ((g1.trans g2).trans (Go.laid hq)) ?_
     rw[ao,e];rfl
def yC(_:Bs)(L:List aG)(C:Addr):Sp:=fun vs H Q _=>∃(m:Ad) (s:State) (a:Addr) (ns:List Int),vs=[.ref m.p,.ref a]∧aR L C H m s∧H a=some (.lst (ns.map V.int))∧ns.length≤4000∧Gives L H Q (step s [[17],ns]).2
theorem yS(s:State)(v:Nat)(x:List Nat):(PR.sJ s v x).length=2:=by
 unfold PR.sJ
 split<;>rfl
theorem mz{α:Type}{f:α→List Int}{c:Nat}:∀ {l:List α},(∀x∈l,(f x).length=c)→(l.flatMap f).length=c*l.length
 | [],_=>by simp
 |x::l,h=>by rw[List.flatMap_cons,List.length_append,h x List.mem_cons_self,mz (l:=l) fun y hy=>h y (List.mem_cons_of_mem _ hy),List.length_cons,Nat.mul_add];omega
theorem JN:aJ ["roadmap","row","answer","v"] ["roadmap","row"] (au (top 62)):=by symm_saturate
theorem J4{B:Bs}{L:List aG}{C c:Addr}(T:Txt B C)(F:bJ B "nearest" (top 62) ["roadmap","row"])(cR:Df B 4 "are_places" ["roadmap","row"] (jc B L C))(nF:Df B 6 "nearest_to" ["distances","row"] (qP B L C)):Df B 8 "nearest" ["roadmap","row"] (yC B L C):=by
 exists JN
 ·obtain⟨_,_,_,_,rfl,_⟩:=h
  rfl
 ·obtain⟨m,s,a,ns,rfl,M,ha,hz,k⟩:=h
  refine⟨_,(ak (bB (d9 (cz (aZ cR ⋯ ∅ (aa (pv 0) (aa (pv 1) aj))))) (aq (az (aN (aa (cD T.bW) aj)))) aK)
   (ak (a_ (i:=2) nd rfl (Or.inl rfl) (aN aj))
   (ak (dH PassesOwn.never rfl (dN rfl T.d_ (aa (aV ⋯ (pv 0) (by rfl)) aj)) (aH (i:=3) nd rfl (Or.inl rfl))
   (aq (cQ (jK PySem.F.plainAttrs_list PySem.F.slot_list_extend PySem.F.type_list_extend jW (pv 2) (aa (aZ nF ⋯ ∅ (aa (bc (aD ⋯) (aV ⋯ (pv 0) (by rfl)) (pv 3) (by intro _ _;rfl)) (aa (pv 1) aj))) aj)))))
   (aq (az (pv 2)))))),?_⟩
  ac_nf
  rw[PR.Jx,PR.oZ]at k
  refine⟨_,rfl,_,rfl,m,s,a,ns,rfl,M,ha,hz,fun H1 g1=>⟨_,rfl,?_⟩⟩
  cases hok:PR.placesOk s ns with
  |false=>
   rw[hok]at k
   exact aQ ⟨by show 1≤sizeLine;decide,fun p hp=>k _ p (g1.trans (Go.laid hp)) ao⟩
  |true=>
   rw[hok,if_pos rfl]at k
   dsimp only at k
   obtain⟨x,rfl,hlt,ex⟩:=Mp hok
   rw[ex]at k
   rw[←dR]at ha
   rw[List.length_map]at hz
   refine bu ⟨by show 0≤sizeLine;decide,fun q hq=>cM ?_⟩
   ac_nf
   have g2:Go L H1 (upd H1 q (.lst [])):=Go.laid hq
   have M2:=M.go (g1.trans g2)
   have PQ:=g1.trans g2
   obtain⟨z1,z2,z3⟩:=d7 M
   refine fW T M2 rfl ⟨_,rfl,z1,z2,?_⟩
   refine bZ (cJ (n:=size s)) (fun i σ H'=>∃(v3:Option V),σ=[some (.ref m.p),some (.ref a),some (.ref q),v3]∧Go L H1 H'∧H' q=some (.lst ((((List.range (size s)).take i).flatMap fun u=>PR.sJ s u x).map V.int)))
    ⟨_,rfl,g2,ao⟩ (fun _ _ _ _=>trivial) ?_ ?_
   ·rintro i u v σ H' hi rfl ⟨v3,rfl,g3,hl⟩
    have hu:u<size s:=List.mem_range.mp (List.mem_of_getElem? hi)
    have M3:=M.go (g1.trans g3)
    obtain⟨r,h1,h2,h3,h4⟩:=M3.cell hu
    ac_nf
    refine⟨_,rfl,.inl ⟨rfl,_,bC.of hl⟩,nq T M3 rfl ⟨_,rfl,bj M3.table.dist rfl h2 ⟨_,rfl,s,u,r,a,x,rfl,h3,hu,(g1.trans g3).lst ha,hlt,hz,M3.st,fun H4 b g4 hb=>?_⟩⟩⟩
    refine⟨q,b,_,_,rfl,rfl,g4.lst hl,hb,?_,⟨_,rfl,(g3.trans g4).put hq (g4.lst hl),?_⟩⟩
    ·rw[List.length_map,List.length_map,yS,mz (c:=2) (fun y _=>yS s y x),List.length_take,sizeLine_eq]
     have:=M.wf.hi
     rw[List.length_range];omega
    ·rw[ao,take_snoc hi,List.flatMap_append,List.map_append]
     simp
   ·rintro σ H' ⟨v3,rfl,g3,hl⟩
    rw[List.take_length]at hl
    exact⟨_,rfl,k H' q (g1.trans g3) hl⟩
theorem mY(s:State):s.places=(List.range (size s)).map (placeOf s):=by
 refine List.ext_getElem (by simp [size]) fun i h1 h2=>?_
 rw[List.getElem_map,List.getElem_range]
 unfold Vbedaf.placeOf
 rw[List.getD_eq_getElem?_getD,List.getElem?_eq_getElem h1];rfl
def Gu(p:Vbedaf.Place):List Int:=[nat p.need,p.cost,bit p.barred]
def Rc(e:Road):List Int:=[nat e.a,nat e.b,e.len]
def LC(_:Bs)(L:List aG)(C:Addr):Sp:=fun vs H Q _=>∃(m:Ad) (s:State),vs=[.ref m.p]∧aR L C H m s∧Gives L H Q (step s [[19]]).2
theorem Uv:aJ ["roadmap","answer","v","a","b","length"] ["roadmap"] (au (top 64)):=by symm_saturate
theorem Vd{B:Bs}{L:List aG}{C c:Addr}(T:Txt B C)(F:bJ B "told" (top 64) ["roadmap"]):Df B 2 "told" ["roadmap"] (LC B L C):=by
 exists Uv
 ·obtain⟨_,_,rfl,_⟩:=h
  rfl
 ·obtain⟨m,s,rfl,M,k⟩:=h
  refine⟨_,(ak (a_ (i:=1) nd rfl (Or.inl rfl) (aN (aa (aV ⋯ (pv 0) (by rfl)) (aa (aV ⋯ (pv 0) (by rfl)) aj))))
   (ak (dH PassesOwn.never rfl (dN rfl T.d_ (aa (aV ⋯ (pv 0) (by rfl)) aj)) (aH (i:=2) nd rfl (Or.inl rfl))
   (aq (cQ (jK PySem.F.plainAttrs_list PySem.F.slot_list_extend PySem.F.type_list_extend jW (pv 1) (aa (aN (aa (bc (aD ⋯) (aV ⋯ (pv 0) (by rfl)) (pv 2) (by intro _ _;rfl)) (aa (bc (aD ⋯) (aV ⋯ (pv 0) (by rfl)) (pv 2) (by intro _ _;rfl)) (aa (bc (aD ⋯) (aV ⋯ (pv 0) (by rfl)) (pv 2) (by intro _ _;rfl)) aj)))) aj)))))
   (ak (cQ (jK PySem.F.plainAttrs_list PySem.F.slot_list_append PySem.F.type_list_append eY (pv 1) (aa (aY (bA ⋯) rfl T.gn PySem.boot_len (aa (aV ⋯ (pv 0) (by rfl)) aj)) aj)))
   (ak (dH PassesOwn.never rfl (aW ⋯ (aV ⋯ (pv 0) (by rfl))) (gF (n:=3) ⋯ rfl (bI (aH (i:=3) nd rfl (Or.inl rfl)) (bI (aH (i:=4) nd rfl (Or.inl rfl)) (bI (aH (i:=5) nd rfl (Or.inl rfl)) gD))))
   (aq (cQ (jK PySem.F.plainAttrs_list PySem.F.slot_list_extend PySem.F.type_list_extend jW (pv 1) (aa (aN (aa (pv 3) (aa (pv 4) (aa (pv 5) aj)))) aj)))))
   (aq (az (pv 1))))))),?_⟩
  ac_nf
  refine vm T M rfl (fW T M rfl ⟨by show 2≤sizeLine;decide,fun q hq=>cM ?_⟩)
  ac_nf
  have g1:Go L H (upd H q (.lst [.int s.reach,.int (size s)])):=Go.laid hq
  obtain⟨z1,z2,z3⟩:=d7 M
  refine fW T (M.go g1) rfl ⟨_,rfl,z1,z2,?_⟩
  have hn:=M.wf.hi
  refine bZ (cJ (n:=size s)) (fun i σ H'=>∃(v2:Option V),σ=[some (.ref m.p),some (.ref q),v2,none,none,none]∧Go L H H'∧H' q=some (.lst (([s.reach,nat (size s)]++((List.range (size s)).take i).flatMap fun v=>Gu (placeOf s v)).map V.int)))
   ⟨_,rfl,g1,ao⟩ (fun _ _ _ _=>trivial) ?_ ?_
  ·rintro i u v σ H' hi rfl ⟨v2,rfl,g,hl⟩
   have hu:u<size s:=List.mem_range.mp (List.mem_of_getElem? hi)
   have M1:=M.go g
   ac_nf
   refine⟨_,rfl,.inl ⟨rfl,_,bC.of hl⟩,gq T M1 rfl ⟨_,rfl,bj M1.needs rfl (kh hu _) (pI T M1 rfl ⟨_,rfl,bj M1.costs rfl (kh hu _) (qi T M1 rfl ⟨_,rfl,bj M1.barred rfl (kh hu _) ⟨by show 3≤sizeLine;decide,fun b hb=>?_⟩⟩)⟩)⟩⟩
   have g2:Go L H' (upd H' b (.lst [.int (placeOf s u).need,.int (placeOf s u).cost,.int (bit (placeOf s u).barred)])):=Go.laid hb
   refine⟨q,b,_,_,rfl,rfl,g2.lst hl,ao,?_,⟨_,rfl,(g.trans g2).put hq (g2.lst hl),?_⟩⟩
   ·rw[List.length_map,List.length_append,mz (c:=3) (fun y _=>rfl),List.length_take,List.length_range,sizeLine_eq]
    show 2+3*min i (size s)+3≤_
    omega
   ·rw[ao,take_snoc hi,List.flatMap_append,←List.append_assoc,List.map_append,List.map_append]
    congr 3
  ·rintro σ H' ⟨v2,rfl,g,hl⟩
   rw[List.take_length,←List.flatMap_map,←mY]at hl
   have M1:=M.go g
   ac_nf
   have hT:=M1.roads
   obtain⟨as,h1,h2,h3⟩:=hT.ex
   have hlen:([s.reach,nat (size s)]++s.places.flatMap Gu).length=2+3*size s:=by
    rw[List.length_append,mz (c:=3) (fun y _=>rfl)];rfl
   refine⟨_,rfl,.inl ⟨rfl,_,bC.of hl⟩,vh T M1 rfl ⟨m.ar,_,rfl,.inl (bC.of h1),q,_,_,rfl,rfl,hl,?_,cM ?_⟩⟩
   ·rw[List.length_map,hlen,sizeLine_eq];omega
   have e1:(as.map V.ref).length=s.roads.length:=by rw[List.length_map,h2,List.length_map]
   rw[e1]
   ac_nf
   have hqn:q≠m.ar:=fun z=>by rw[z,M.roads.ex.choose_spec.1]at hq;cases hq
   have g2:Go L H (upd H' q (.lst (([s.reach,nat (size s)]++s.places.flatMap Gu).map V.int++[.int s.roads.length]))):=g.put hq hl
   refine vh T (M.go g2) rfl ⟨m.ar,rfl,(M.go g2).roads.seq,?_⟩
   refine bZ (fB (xs:=s.roads) (f:=Hc)) (fun i σ H'=>∃(v3 v4 v5:Option V),σ=[some (.ref m.p),some (.ref q),v2,v3,v4,v5]∧Go L H H'∧H' q=some (.lst (([s.reach,nat (size s)]++s.places.flatMap Gu++(nat s.roads.length::(s.roads.take i).flatMap Rc)).map V.int)))
    ⟨_,_,_,rfl,g2,by rw[ao,List.map_append (l₁:=[s.reach,nat (size s)]++s.places.flatMap Gu) (l₂:=nat s.roads.length::(s.roads.take 0).flatMap Rc)];rfl⟩ (fun i σ H' ⟨_,_,_,_,g,_⟩=>(M.go g).roads) ?_ ?_
   ·rintro i e v σ H' hi ⟨p,rfl,hp⟩ ⟨v3,v4,v5,rfl,g,hl⟩
    ac_nf
    refine⟨p,_,rfl,mF.of hp,rfl,_,_,rfl,_,_,rfl,_,_,rfl,rfl,?_⟩
    refine⟨_,rfl,.inl ⟨rfl,_,bC.of hl⟩,_,rfl,_,rfl,_,rfl,by show 3≤sizeLine;decide,fun b hb=>?_⟩
    have g2:Go L H' (upd H' b (.lst [.int e.a,.int e.b,.int e.len])):=Go.laid hb
    refine⟨q,b,_,_,rfl,rfl,g2.lst hl,ao,?_,⟨_,_,_,rfl,(g.trans g2).put hq (g2.lst hl),?_⟩⟩
    ·rw[List.length_map,List.length_append,hlen,List.length_cons,mz (c:=3) (fun y _=>rfl),List.length_take,sizeLine_eq]
     have:=M.wf.few
     show 2+3*size s+(3*min i s.roads.length+1)+3≤_
     omega
    ·rw[ao,take_snoc hi,List.flatMap_append,←List.cons_append,←List.append_assoc,List.map_append,List.map_append]
     congr 3
     simp [Rc]
     exact⟨rfl,rfl⟩
   ·rintro σ H' ⟨v3,v4,v5,rfl,g,hl⟩
    rw[List.take_length]at hl
    refine⟨_,rfl,k H' q g ?_⟩
    rw[hl,PR.QQ];rfl
structure lC(L:List aG)(fp:List Addr)(H H':Hp):Prop where
 kp:∀b o,H b=some o→(∀ps,o≠ .yt ps)→b∉fp→H' b=some o
 st:iQ L H→iQ L H'
def Ad.fp(m:Ad):List Addr:=[m.p,m.an,m.ac,m.ab,m.ar]
def Ad.lists(m:Ad):List Addr:=[m.an,m.ac,m.ab,m.ar,m.ad]++m.rs
theorem lC.of{L:List aG}{fp:List Addr}{H H':Hp}(g:Go L H H'):lC L fp H H':=⟨fun b o e n _=>g.kp b o e n,g.st⟩
theorem lC.go{L:List aG}{fp:List Addr}{H H1 H2:Hp}(c:lC L fp H H1)(g:Go L H1 H2):lC L fp H H2:=⟨fun b o e n f=>g.kp b o (c.kp b o e n f) n,fun x=>g.st (c.st x)⟩
theorem lC.after{L:List aG}{fp:List Addr}{H H1 H2:Hp}(c:lC L fp H1 H2)(g:Go L H H1):lC L fp H H2:=⟨fun b o e n f=>c.kp b o (g.kp b o e n) n f,fun x=>c.st (g.st x)⟩
theorem lC.trans{L:List aG}{fp:List Addr}{H H1 H2:Hp}(g:lC L fp H H1)(c:lC L fp H1 H2):lC L fp H H2:=⟨fun b o e n f=>c.kp b o (g.kp b o e n f) n f,fun x=>c.st (g.st x)⟩
theorem iQ.put{L:List aG}{H:Hp}{a:Addr}{o u:HO}(h:H a=some o)(h1:∀ps,o≠ .yt ps)(h2:∀f,o≠ .ext f)(x:iQ L H):iQ L (upd H a u):=by
 refine⟨fun t ht=>?_⟩
 obtain⟨ps,e1,e2,e3⟩:=(x.ok t ht).ok
 refine⟨ps,?_,e2,e3.imp (fun z=>z) fun⟨c,q1,q2⟩=>⟨c,q1,?_⟩⟩
 ·rw[aF (f9 e1 h (fun z=>h1 ps z.symm))];exact e1
 ·rw[aF (f9 q2 h (fun z=>h2 _ z.symm))];exact q2
theorem lC.put{L:List aG}{fp:List Addr}{H:Hp}{a:Addr}{o u:HO}(h:H a=some o)(h1:∀ps,o≠ .yt ps)(h2:∀f,o≠ .ext f)(hf:a∈fp):lC L fp H (upd H a u):=
 ⟨fun b o' e n f=>by rw[aF (fun z:b=a=>f (by rw[z];exact hf))];exact e,iQ.put h h1 h2⟩
def bV(L:List aG)(C:Addr)(H:Hp)(Q:VK)(m:Ad)(r:State×List Int):Prop:=∀(H':Hp) (m':Ad) (p:Addr),aR L C H' m' r.1→m'.p=m.p→lC L m.fp H H'→(∀b∈m'.lists,b∈m.lists∨H b=none)→H' p=some (.lst (r.2.map V.int))→Q (.ref p) H'
theorem bV.same{L:List aG}{C:Addr}{H:Hp}{Q:VK}{m:Ad}{s:State}{l:List Int}(M:aR L C H m s)(k:bV L C H Q m (s,l)):Gives L H Q l:=fun H' p g h=>k H' m p (M.go g) rfl (lC.of g) (fun b hb=> .inl hb) h
theorem bV.one{L:List aG}{C:Addr}{H H1:Hp}{Q:VK}{m m1:Ad}{r:State×List Int}{n:Int}(k:bV L C H Q m r)(M:aR L C H1 m1 r.1)(hp:m1.p=m.p)(c:lC L m.fp H H1)(hl:∀b∈m1.lists,b∈m.lists∨H b=none)(e:r.2=[n]):
  [V.int n].length≤sizeLine∧∀p,H1 p=none→Q (.ref p) (upd H1 p (.lst [.int n])):=
 ⟨by show 1≤sizeLine;decide,fun p h=>k _ m1 p (M.go (Go.laid h)) hp (c.go (Go.laid h)) hl (by rw[e];exact ao)⟩
theorem BV{s s':State}(h1:size s'=size s)(h2:s'.roads=s.roads):distances s'=distances s∧round s'=round s∧PR.row s'=PR.row s:=by
 have e:distances s'=distances s:=by
  unfold distances
  rw[h1]
  congr 2
  funext i
  congr 1
  funext j
  unfold direct
  rw[h2]
 refine⟨e,?_,?_⟩
 ·unfold PM.round forest;rw[e,h1,h2]
 ·funext i;unfold PR.row PR.mH;rw[h1,h2]
theorem fU{α β:Type}(f:α→β)(l:List α)(v:Nat)(x:α)(h:∀y,l[v]? =some y→f x=f y):(l.set v x).map f=l.map f:=by
 refine List.ext_getElem? fun i=>?_
 rw[List.getElem?_map,List.getElem?_map,List.getElem?_set]
 by_cases hi:v=i
 ·subst hi
  rw[if_pos rfl]
  cases e:l[v]? with
  |none=>rw[if_neg (by rw[List.getElem?_eq_none_iff]at e;omega)]
  |some y=>rw[if_pos (List.getElem?_eq_some_iff.mp e).1];simp [h y e]
 ·rw[if_neg hi]
theorem jV{s:State}{v:Nat}(hv:v<size s):s.places[v]? =some (placeOf s v):=by
 have:=kh hv id
 rwa[List.map_id]at this
section
variable{L:List aG}{C:Addr}{H:Hp}{m:Ad}{s:State}
theorem aR.apart(M:aR L C H m s):m.an≠m.ac∧m.an≠m.ab∧m.an≠m.ar∧m.an≠m.ad∧m.ac≠m.ab∧m.ac≠m.ar∧m.ac≠m.ad∧m.ab≠m.ar∧m.ab≠m.ad∧m.ar≠m.ad:=by
 have nd:=M.nd
 simp only[List.nodup_cons,List.mem_cons,List.not_mem_nil,or_false,not_or,not_false_eq_true,List.nodup_nil,and_true]at nd
 obtain⟨⟨a,b,c,d⟩,⟨e,f,g⟩,⟨h,i⟩,j⟩:=nd
 exact⟨a,b,c,d,e,f,g,h,i,j⟩
theorem aR.Xv(M:aR L C H m s){v:Nat}(hv:v<size s){q:Vbedaf.Place}(h1:q.need≤1000)(h2:0≤q.cost∧q.cost≤1000000000){a:Addr}{xs:List V}{y:V}(ha:a=m.an∨a=m.ac∨a=m.ab)(hx:H a=some (.lst xs))
  (en:(if a=m.an then xs.set v y else s.places.map fun p=>V.int p.need)=(setPlace s v q).places.map fun p=> .int p.need)
  (ec:(if a=m.ac then xs.set v y else s.places.map fun p=>V.int p.cost)=(setPlace s v q).places.map fun p=> .int p.cost)
  (eb:(if a=m.ab then xs.set v y else s.places.map fun p=>V.int (bit p.barred))=(setPlace s v q).places.map fun p=> .int (bit p.barred)):
  aR L C (upd H a (.lst (xs.set v y))) m (setPlace s v q)∧lC L m.fp H (upd H a (.lst (xs.set v y))):=by
 obtain⟨d1,d2,d3⟩:=BV (s:=s) (s':=setPlace s v q) (PR.size_set s v q) rfl
 obtain⟨n1,n2,n3,n4,n5,n6,n7,n8,n9,n10⟩:=M.apart
 have other:∀b o,H b=some o→b≠a→upd H a (.lst (xs.set v y)) b=some o:=fun b o e n=>by rw[aF n];exact e
 have aar:m.ar≠a:=by rcases ha with rfl|rfl|rfl;exact n3.symm;exact n6.symm;exact n8.symm
 have aad:m.ad≠a:=by rcases ha with rfl|rfl|rfl;exact n4.symm;exact n7.symm;exact n9.symm
 have ars:∀b∈m.rs,b≠a:=fun b hb z=>M.Ze b hb (by rcases ha with h|h|h<;>simp [z,h])
 have get:∀(b:Addr) (ys zs:List V),H b=some (.lst ys)→(if a=b then xs.set v y else ys)=zs→upd H a (.lst (xs.set v y)) b=some (.lst zs):=fun b ys zs h e=>by
  by_cases hb:a=b
  ·subst hb
   rw[if_pos rfl]at e
   rw[ao,e]
  ·rw[if_neg hb]at e
   rw[aF (fun z=>hb z.symm),h,e]
 refine⟨⟨?_,get _ _ _ M.needs en,get _ _ _ M.costs ec,get _ _ _ M.barred eb,?_,?_,M.nd,M.Ze,PR.W_ M.wf v h1 h2,?_⟩,lC.put hx (by intro _ z;cases z) (by intro _ z;cases z) ?_⟩
 ·rw[PR.size_set,d2]
  exact other _ _ M.ins (f9 M.ins hx (by intro z;cases z))
 ·exact M.roads.tk (Tk.put hx) fun _ e=>other _ _ e aar
 ·rw[PR.size_set,d3]
  exact M.table.kept fun b ys hb e=>other _ _ e (by rcases hb with rfl|hb;exact aad;exact ars b hb)
 ·exact iQ.put hx (by intro _ z;cases z) (by intro _ z;cases z) M.st
 ·unfold Ad.fp
  rcases ha with h|h|h<;>simp [h]
end
def LR(_:Bs)(L:List aG)(C:Addr):Sp:=fun vs H Q _=>∃(m:Ad) (s:State) (v d:Int),vs=[.ref m.p,.int v,.int d]∧aR L C H m s∧bV L C H Q m (step s [[2,v,d]])
theorem m_{n v:Nat}(h:v<n):Vr n (v:Int)=some v:=by
 unfold Vr
 rw[if_pos (by omega),if_pos (by omega)]
 simp
theorem Uy:aJ ["roadmap","v","d"] ["roadmap","v","d"] (au (top 19)):=by symm_saturate
theorem Vg{B:Bs}{L:List aG}{C c:Addr}(T:Txt B C)(F:bJ B "need" (top 19) ["roadmap","v","d"])(bf:Mt B C 2 "has_place" ["self","v"] (cX B L C)):Df B 4 "need" ["roadmap","v","d"] (LR B L C):=by
 exists Uy
 ·obtain⟨_,_,_,_,rfl,_⟩:=h
  rfl
 ·obtain⟨m,s,v,d,rfl,M,k⟩:=h
  refine⟨_,(ak (bB (d9 (PW.pt (rY (cz (gQ (pv 0) ⋯ T.cl bf ∅ (aa (pv 1) aj))) (mX (iy fj fj aA (pv 2) (cD T.jA)))))) (aq (az (aN (aa (cD T.bM) aj)))) aK)
   (ak (DP (pv 2) (DQ (aV ⋯ (pv 0) (by rfl)) (pv 1) set_list))
   (aq (az (aN (aa aA aj)))))),?_⟩
  ac_nf
  rw[PR.Wt]at k
  unfold onV at k
  have bad:(okV s v&&inR d 0 1000)=false→[V.int (-1)].length≤sizeLine∧∀p,H p=none→Q (.ref p) (upd H p (.lst [.int (-1)])):=fun h=>by
   rw[if_pos h]at k
   exact bV.one (r:=(s,[-1])) k M rfl (lC.of (Go.refl _ _)) (fun b hb=> .inl hb) rfl
  refine cP M rfl (by decide+kernel) ⟨_,rfl,m,s,v,rfl,M,_,rfl,?_⟩
  cases hv:okV s v with
  |false=>exact bu (aQ (bad (by rw[hv];rfl)))
  |true=>
   refine aQ ⟨_,rfl,_,_,rfl,rfl,_,rfl,?_⟩
   by_cases h0:0≤d
   ·rw[decide_eq_true h0]
    refine aQ ⟨_,_,rfl,rfl,_,rfl,?_⟩
    by_cases h1:d≤1000
    ·rw[decide_eq_true h1]
     obtain⟨n,rfl,hn⟩:=sG hv
     rw[if_neg (by rw[hv,PR.b_.mpr ⟨h0,h1⟩];decide)]at k
     refine bu ⟨_,rfl,gq T M rfl ⟨_,rfl,m.an,_,_,n,rfl,rfl,M.needs,m_ (by rw[List.length_map];exact hn),?_⟩⟩
     have hw:=PR.yj M.wf hn
     obtain⟨n1,n2,n3,n4,n5,n6,n7,n8,n9,n10⟩:=M.apart
     obtain⟨M',c⟩:=M.Xv hn (q:=⟨d.toNat,(placeOf s n).cost,(placeOf s n).barred⟩) (y:= .int d) (by show d.toNat≤1000;omega) ⟨hw.2.1,hw.2.2⟩ (.inl rfl) M.needs (by rw[if_pos rfl];unfold setPlace;dsimp only;rw[List.map_set];dsimp only;rw[Int.toNat_of_nonneg h0]) (by rw[if_neg (n1)];unfold setPlace;dsimp only;exact(fU _ _ _ _ (fun y hy=>by have e:=(jV hn).symm.trans hy;cases e;rfl)).symm) (by rw[if_neg (n2)];unfold setPlace;dsimp only;exact(fU _ _ _ _ (fun y hy=>by have e:=(jV hn).symm.trans hy;cases e;rfl)).symm)
     exact bV.one k M' rfl c (fun b hb=> .inl hb) rfl
    ·rw[decide_eq_false h1]
     exact aQ (bad (by rw[Bool.and_eq_false_iff];right;rw[Bool.eq_false_iff,ne_eq,PR.b_];exact fun z=>h1 z.2))
   ·rw[decide_eq_false h0]
    exact bu ⟨_,rfl,aQ (bad (by rw[Bool.and_eq_false_iff];right;rw[Bool.eq_false_iff,ne_eq,PR.b_];exact fun z=>h0 z.1))⟩
def L_(_:Bs)(L:List aG)(C:Addr):Sp:=fun vs H Q _=>∃(m:Ad) (s:State) (v d:Int),vs=[.ref m.p,.int v,.int d]∧aR L C H m s∧bV L C H Q m (step s [[3,v,d]])
theorem Uz:aJ ["roadmap","v","c"] ["roadmap","v","c"] (au (top 20)):=by symm_saturate
theorem Vh{B:Bs}{L:List aG}{C c:Addr}(T:Txt B C)(F:bJ B "cost" (top 20) ["roadmap","v","c"])(bf:Mt B C 2 "has_place" ["self","v"] (cX B L C)):Df B 4 "cost" ["roadmap","v","c"] (L_ B L C):=by
 exists Uz
 ·obtain⟨_,_,_,_,rfl,_⟩:=h
  rfl
 ·obtain⟨m,s,v,d,rfl,M,k⟩:=h
  refine⟨_,(ak (bB (d9 (PW.pt (rY (cz (gQ (pv 0) ⋯ T.cl bf ∅ (aa (pv 1) aj))) (mX (iy fj fj aA (pv 2) (cD T.jB)))))) (aq (az (aN (aa (cD T.bM) aj)))) aK)
   (ak (DP (pv 2) (DQ (aV ⋯ (pv 0) (by rfl)) (pv 1) set_list))
   (aq (az (aN (aa aA aj)))))),?_⟩
  ac_nf
  rw[PR.Ws]at k
  unfold onV at k
  have bad:(okV s v&&inR d 0 1000000000)=false→[V.int (-1)].length≤sizeLine∧∀p,H p=none→Q (.ref p) (upd H p (.lst [.int (-1)])):=fun h=>by
   rw[if_pos h]at k
   exact bV.one (r:=(s,[-1])) k M rfl (lC.of (Go.refl _ _)) (fun b hb=> .inl hb) rfl
  refine cP M rfl (by decide+kernel) ⟨_,rfl,m,s,v,rfl,M,_,rfl,?_⟩
  cases hv:okV s v with
  |false=>exact bu (aQ (bad (by rw[hv];rfl)))
  |true=>
   refine aQ ⟨_,rfl,_,_,rfl,rfl,_,rfl,?_⟩
   by_cases h0:0≤d
   ·rw[decide_eq_true h0]
    refine aQ ⟨_,_,rfl,rfl,_,rfl,?_⟩
    by_cases h1:d≤1000000000
    ·rw[decide_eq_true h1]
     obtain⟨n,rfl,hn⟩:=sG hv
     rw[if_neg (by rw[hv,PR.b_.mpr ⟨h0,h1⟩];decide)]at k
     refine bu ⟨_,rfl,pI T M rfl ⟨_,rfl,m.ac,_,_,n,rfl,rfl,M.costs,m_ (by rw[List.length_map];exact hn),?_⟩⟩
     have hw:=PR.yj M.wf hn
     obtain⟨n1,n2,n3,n4,n5,n6,n7,n8,n9,n10⟩:=M.apart
     obtain⟨M',c⟩:=M.Xv hn (q:=⟨(placeOf s n).need,d,(placeOf s n).barred⟩) (y:= .int d) hw.1 ⟨h0,h1⟩ (.inr (.inl rfl)) M.costs (by rw[if_neg (n1.symm)];unfold setPlace;dsimp only;exact(fU _ _ _ _ (fun y hy=>by have e:=(jV hn).symm.trans hy;cases e;rfl)).symm) (by rw[if_pos rfl];unfold setPlace;dsimp only;rw[List.map_set];skip) (by rw[if_neg (n5)];unfold setPlace;dsimp only;exact(fU _ _ _ _ (fun y hy=>by have e:=(jV hn).symm.trans hy;cases e;rfl)).symm)
     exact bV.one k M' rfl c (fun b hb=> .inl hb) rfl
    ·rw[decide_eq_false h1]
     exact aQ (bad (by rw[Bool.and_eq_false_iff];right;rw[Bool.eq_false_iff,ne_eq,PR.b_];exact fun z=>h1 z.2))
   ·rw[decide_eq_false h0]
    exact bu ⟨_,rfl,aQ (bad (by rw[Bool.and_eq_false_iff];right;rw[Bool.eq_false_iff,ne_eq,PR.b_];exact fun z=>h0 z.1))⟩
def QV(_:Bs)(L:List aG)(C:Addr):Sp:=fun vs H Q _=>∃(m:Ad) (s:State) (v d:Int),vs=[.ref m.p,.int v,.int d]∧aR L C H m s∧bV L C H Q m (step s [[4,v,d]])
theorem Xy:aJ ["roadmap","v","k"] ["roadmap","v","k"] (au (top 21)):=by symm_saturate
theorem X8{B:Bs}{L:List aG}{C c:Addr}(T:Txt B C)(F:bJ B "bar" (top 21) ["roadmap","v","k"])(bf:Mt B C 2 "has_place" ["self","v"] (cX B L C)):Df B 4 "bar" ["roadmap","v","k"] (QV B L C):=by
 exists Xy
 ·obtain⟨_,_,_,_,rfl,_⟩:=h
  rfl
 ·obtain⟨m,s,v,d,rfl,M,k⟩:=h
  refine⟨_,(ak (bB (d9 (PW.pt (rY (cz (gQ (pv 0) ⋯ T.cl bf ∅ (aa (pv 1) aj))) (mX (iy fj fj aA (pv 2) aA))))) (aq (az (aN (aa (cD T.bM) aj)))) aK)
   (ak (DP (pv 2) (DQ (aV ⋯ (pv 0) (by rfl)) (pv 1) set_list))
   (aq (az (aN (aa aA aj)))))),?_⟩
  ac_nf
  rw[PR.Wr]at k
  unfold onV at k
  have bad:(okV s v&&inR d 0 1)=false→[V.int (-1)].length≤sizeLine∧∀p,H p=none→Q (.ref p) (upd H p (.lst [.int (-1)])):=fun h=>by
   rw[if_pos h]at k
   exact bV.one (r:=(s,[-1])) k M rfl (lC.of (Go.refl _ _)) (fun b hb=> .inl hb) rfl
  refine cP M rfl (by decide+kernel) ⟨_,rfl,m,s,v,rfl,M,_,rfl,?_⟩
  cases hv:okV s v with
  |false=>exact bu (aQ (bad (by rw[hv];rfl)))
  |true=>
   refine aQ ⟨_,rfl,_,_,rfl,rfl,_,rfl,?_⟩
   by_cases h0:0≤d
   ·rw[decide_eq_true h0]
    refine aQ ⟨_,_,rfl,rfl,_,rfl,?_⟩
    by_cases h1:d≤1
    ·rw[decide_eq_true h1]
     obtain⟨n,rfl,hn⟩:=sG hv
     rw[if_neg (by rw[hv,PR.b_.mpr ⟨h0,h1⟩];decide)]at k
     refine bu ⟨_,rfl,qi T M rfl ⟨_,rfl,m.ab,_,_,n,rfl,rfl,M.barred,m_ (by rw[List.length_map];exact hn),?_⟩⟩
     have hw:=PR.yj M.wf hn
     obtain⟨n1,n2,n3,n4,n5,n6,n7,n8,n9,n10⟩:=M.apart
     obtain⟨M',c⟩:=M.Xv hn (q:=⟨(placeOf s n).need,(placeOf s n).cost,d==1⟩) (y:= .int d) hw.1 ⟨hw.2.1,hw.2.2⟩ (.inr (.inr rfl)) M.barred (by rw[if_neg (n2.symm)];unfold setPlace;dsimp only;exact(fU _ _ _ _ (fun y hy=>by have e:=(jV hn).symm.trans hy;cases e;rfl)).symm) (by rw[if_neg (n5.symm)];unfold setPlace;dsimp only;exact(fU _ _ _ _ (fun y hy=>by have e:=(jV hn).symm.trans hy;cases e;rfl)).symm) (by rw[if_pos rfl];unfold setPlace;dsimp only;rw[List.map_set];dsimp only;rcases(show d=0∨d=1 by omega)with rfl|rfl<;>rfl)
     exact bV.one k M' rfl c (fun b hb=> .inl hb) rfl
    ·rw[decide_eq_false h1]
     exact aQ (bad (by rw[Bool.and_eq_false_iff];right;rw[Bool.eq_false_iff,ne_eq,PR.b_];exact fun z=>h1 z.2))
   ·rw[decide_eq_false h0]
    exact bu ⟨_,rfl,aQ (bad (by rw[Bool.and_eq_false_iff];right;rw[Bool.eq_false_iff,ne_eq,PR.b_];exact fun z=>h0 z.1))⟩
theorem Oh{f:Str}{v u:V}{r:List (Str×V)}:eN f v ((f,u)::r)=(f,v)::r:=by
 show(if f=f then(f,v)::r else(f,u)::eN f v r)=_
 rw[if_pos rfl]
theorem Og{f g:Str}{v u:V}{r:List (Str×V)}(h:¬g=f):eN f v ((g,u)::r)=(g,u)::eN f v r:=by
 show(if g=f then(g,v)::r else(g,u)::eN f v r)=_
 rw[if_neg h]
theorem Rn{f:Str}{v:V}:eN f v []=[(f,v)]:=rfl
local macro_rules|`(tactic|subst_eqs)=>`(tactic| (repeat (first|rw[Oh]|rw[Og (by decide+kernel)]|rw[Rn])))
theorem Oe{sz r r':Int}{lr:Bool}{m:Ad}:eN "reach" (.int r') (fields sz r lr m)=fields sz r' lr m:=by
 unfold fields;subst_eqs
theorem Od{sz r:Int}{lr Ye:Bool}{m:Ad}:eN "leads_round" (.bl Ye) (fields sz r lr m)=fields sz r Ye m:=by
 unfold fields;subst_eqs
theorem Rk{sz r:Int}{lr:Bool}{m m':Ad}(h:m'.an=m.an∧m'.ac=m.ac∧m'.ab=m.ab∧m'.ar=m.ar):eN "distances" (.ref m'.ad) (fields sz r lr m)=fields sz r lr m':=by
 unfold fields;rw[h.1,h.2.1,h.2.2.1,h.2.2.2];subst_eqs
theorem Mg{sz r:Int}{lr:Bool}{m:Ad}{fs:List (Str×V)}(h:fs=[]∨∃sz' r' Ye m',fs=fields sz' r' Ye m'):
  eN "distances" (.ref m.ad) (eN "leads_round" (.bl lr) (eN "roads" (.ref m.ar) (eN "barred" (.ref m.ab) (eN "costs" (.ref m.ac) (eN "needs" (.ref m.an) (eN "reach" (.int r) (eN "size" (.int sz) fs)))))))=fields sz r lr m:=by
 rcases h with rfl| ⟨sz',r',Ye,m',rfl⟩
 ·unfold fields;subst_eqs
 ·unfold fields;subst_eqs
theorem mV(sz r:Int)(lr:Bool)(m:Ad):(fields sz r lr m).length<1000:=by show 8<1000;decide
def GJ(_:Bs)(L:List aG)(C:Addr):Sp:=fun vs H Q _=>∃(m:Ad) (s:State) (r:Int),vs=[.ref m.p,.int r]∧aR L C H m s∧bV L C H Q m (step s [[5,r]])
theorem aR.abL{L:List aG}{C:Addr}{H:Hp}{m:Ad}{s s':State}(M:aR L C H m s)(h1:size s'=size s)(h2:s'.roads=s.roads)(h3:s'.places=s.places)(W:PR.Wf s'):
  aR L C (upd H m.p (.ins C m.dx (fields (size s') s'.reach (round s') m))) m s'∧lC L m.fp H (upd H m.p (.ins C m.dx (fields (size s') s'.reach (round s') m))):=by
 obtain⟨d1,d2,d3⟩:=BV h1 h2
 have other:∀(b:Addr) (xs:List V),H b=some (.lst xs)→upd H m.p (.ins C m.dx (fields (size s') s'.reach (round s') m)) b=some (.lst xs):=fun b xs e=>by rw[aF (f9 e M.ins (by intro z;cases z))];exact e
 refine⟨⟨ao,by rw[h3];exact other _ _ M.needs,by rw[h3];exact other _ _ M.costs,by rw[h3];exact other _ _ M.barred,?_,?_,M.nd,M.Ze,W,?_⟩,lC.put M.ins (by intro _ z;cases z) (by intro _ z;cases z) (by unfold Ad.fp;simp)⟩
 ·rw[h2]
  exact M.roads.tk (fun b xs e=>by rw[aF (f9 e M.ins (by intro z;cases z))];exact e) fun _ e=>other _ _ e
 ·have t:=M.table.kept fun b ys _ e=>other b ys e
  rw[←d3,←h1]at t
  exact t
 ·exact iQ.put M.ins (by intro _ z;cases z) (by intro _ z;cases z) M.st
theorem Q3:aJ ["roadmap","r"] ["roadmap","r"] (au (top 22)):=by symm_saturate
theorem RB{B:Bs}{L:List aG}{C c:Addr}(T:Txt B C)(F:bJ B "reach" (top 22) ["roadmap","r"]):Df B 2 "reach" ["roadmap","r"] (GJ B L C):=by
 exists Q3
 ·obtain⟨_,_,_,rfl,_⟩:=h
  rfl
 ·obtain⟨m,s,r,rfl,M,k⟩:=h
  refine⟨_,(ak (bB (d9 (iy fj fj aA (pv 1) (cD T.fX))) (aq (az (aN (aa (cD T.bM) aj)))) aK)
   (ak (j_ (pv 0) (pv 1) rfl)
   (aq (az (aN (aa aA aj)))))),?_⟩
  ac_nf
  rw[PR.Wq]at k
  have bad:inR r 0 1000000000000=false→[V.int (-1)].length≤sizeLine∧∀p,H p=none→Q (.ref p) (upd H p (.lst [.int (-1)])):=fun h=>by
   rw[if_pos h]at k
   exact bV.one (r:=(s,[-1])) k M rfl (lC.of (Go.refl _ _)) (fun b hb=> .inl hb) rfl
  refine⟨_,rfl,_,_,rfl,rfl,_,rfl,?_⟩
  by_cases h0:0≤r
  ·rw[decide_eq_true h0]
   refine aQ ⟨_,_,rfl,rfl,_,rfl,?_⟩
   by_cases h1:r≤1000000000000
   ·rw[decide_eq_true h1]
    rw[if_neg (by rw[PR.b_.mpr ⟨h0,h1⟩];decide)]at k
    refine bu ⟨_,rfl,_,rfl,m.p,C,m.dx,_,rfl,M.ins,T.cl,T.uU,mV _ _ _ _,?_⟩
    have W:=PR.Qe M.wf (r:=r) ⟨h0,h1⟩
    obtain⟨M',c⟩:=M.abL (s':=⟨s.places,s.roads,r⟩) rfl rfl rfl W
    rw[Oe]
    exact bV.one k M' rfl c (fun b hb=> .inl hb) rfl
   ·rw[decide_eq_false h1]
    exact aQ (bad (by rw[Bool.eq_false_iff,ne_eq,PR.b_];exact fun z=>h1 z.2))
  ·rw[decide_eq_false h0]
   exact bu ⟨_,rfl,aQ (bad (by rw[Bool.eq_false_iff,ne_eq,PR.b_];exact fun z=>h0 z.1))⟩
def noRoads(n i:Nat):Vbedaf.Row:=(List.range n).map fun j=>if i=j then some 0 else none
def fD(_:Bs)(L:List aG)(_:Addr):Sp:=fun vs H Q _=>∃(n:Nat),vs=[.int n]∧n≤40∧∀(H':Hp) (ad:Addr) (rs:List Addr),Go L H H'→pQ H' ad rs n (noRoads n)→H ad=none→(∀q∈rs,H q=none∧q≠ad)→Q (.ref ad) H'
theorem Ov{n i:Nat}(hi:i<n):((List.replicate n V.non).set i (.int 0))=(noRoads n i).map oV:=by
 refine List.ext_getElem? fun j=>?_
 unfold noRoads
 rw[List.map_map,List.getElem?_map,List.getElem?_set]
 by_cases hj:j<n
 ·rw[List.getElem?_range hj]
  by_cases h:i=j
  ·subst h
   rw[if_pos rfl,if_pos (by rw[List.length_replicate];exact hi)]
   simp [oV]
  ·rw[if_neg h,List.getElem?_replicate,if_pos hj]
   simp [h,oV]
 ·have e1:(List.range n)[j]? =none:=List.getElem?_eq_none (by simpa using hj)
  rw[e1]
  by_cases h:i=j
  ·omega
  ·rw[if_neg h,List.getElem?_replicate,if_neg hj];rfl
theorem j6:aJ ["size","table","u","row"] ["size"] (au (top 43)):=by symm_saturate
theorem kJ{B:Bs}{L:List aG}{C c:Addr}(T:Txt B C)(F:bJ B "distances_without_roads" (top 43) ["size"]):Df B 2 "distances_without_roads" ["size"] (fD B L C):=by
 exists j6
 ·obtain⟨_,rfl,_⟩:=h
  rfl
 ·obtain⟨n,rfl,hn,k⟩:=h
  refine⟨_,(ak (a_ (i:=1) nd rfl (Or.inl rfl) (aN aj))
   (ak (dH PassesOwn.never rfl (dN rfl T.d_ (aa (pv 0) aj)) (aH (i:=2) nd rfl (Or.inl rfl))
   (ak (a_ (i:=3) nd rfl (Or.inl rfl) (cH su (aN (aa dw aj)) (pv 0)))
    (ak (DP aA (DQ (pv 3) (pv 2) set_list))
    (aq (cQ (jK PySem.F.plainAttrs_list PySem.F.slot_list_append PySem.F.type_list_append eY (pv 1) (aa (pv 3) aj)))))))
   (aq (az (pv 1))))),?_⟩
  ac_nf
  refine⟨by show 0≤sizeLine;decide,fun q hq=>cM ?_⟩
  ac_nf
  have g1:Go L H (upd H q (.lst [])):=Go.laid hq
  refine⟨_,rfl,_,rfl,by omega,by omega,?_⟩
  refine bZ (cJ (n:=n)) (fun i σ H'=>∃(v2 v3:Option V) (rs:List Addr),σ=[some (.int n),some (.ref q),v2,v3]∧Go L H H'∧H' q=some (.lst (rs.map V.ref))∧rs.length=i∧(∀(j:Nat) (p:Addr),rs[j]? =some p→H' p=some (.lst ((noRoads n j).map oV)))∧∀p∈rs,H p=none∧p≠q)
   ⟨_,_,[],rfl,g1,ao,rfl,fun j p e=>(by cases e),fun p hp=>(by cases hp)⟩ (fun _ _ _ _=>trivial) ?_ ?_
  ·rintro i u v σ H' hi rfl ⟨v2,v3,rs,rfl,g,hl,hlen,pD,hfr⟩
   have hu:u<n:=List.mem_range.mp (List.mem_of_getElem? hi)
   have hiu:i=u:=by
    obtain⟨h1,h2⟩:=List.getElem?_eq_some_iff.mp hi
    rw[List.getElem_range]at h2;exact h2
   subst hiu
   ac_nf
   refine⟨by show 1≤sizeLine;decide,fun b hb=>⟨_,rfl,b,_,_,rfl,rfl,ao,by omega,by omega,?_,fun p hp=>?_⟩⟩
   ·show 1*_≤_
    rw[sizeLine_eq];omega
   have g2:Go L H' (upd H' b (.lst [.non])):=Go.laid hb
   have e1:(List.replicate (n:Int).toNat [V.non]).flatten=List.replicate n V.non:=by
    show(List.replicate n [V.non]).flatten=_
    simp
   refine⟨_,rfl,_,rfl,p,_,_,i,rfl,rfl,ao,m_ (by rw[e1,List.length_replicate];exact hu),?_⟩
   have g3:Go L H' (upd (upd H' b (.lst [.non])) p (.lst (List.replicate (n:Int).toNat [V.non]).flatten)):=g2.trans (Go.laid hp)
   rw[e1,CT,Ov hu]
   have g4:Go L H' (upd (upd H' b (.lst [.non])) p (.lst ((noRoads n i).map oV))):=g2.trans (Go.laid hp)
   have hp0:H' p=none:=g2.fr p hp
   have lX:=g4.lst hl
   refine⟨_,rfl,.inl ⟨rfl,_,bC.of lX⟩,_,rfl,q,_,_,rfl,rfl,lX,?_,⟨_,_,rs++[p],rfl,(g.trans g4).put hq lX,?_,?_,fun j r e=>?_,fun r hr=>?_⟩⟩
   ·rw[List.length_map,hlen,sizeLine_eq];omega
   ·rw[ao,List.map_append];rfl
   ·rw[List.length_append,hlen];rfl
   ·have hpq:p≠q:=fun z=>by rw[z,hl]at hp0;cases hp0
    by_cases hj:j<rs.length
    ·rw[List.getElem?_append_left hj]at e
     have hr:=pD j r e
     rw[aF (hfr r (List.mem_of_getElem? e)).2]
     exact g4.lst hr
    ·rw[List.getElem?_append_right (by omega)]at e
     have hji:j - rs.length=0:=by
      have:=(List.getElem?_eq_some_iff.mp e).1
      simp at this;omega
     rw[hji]at e
     cases e
     have:j=i:=by omega
     subst this
     rw[aF hpq,ao]
   ·rcases List.mem_append.mp hr with h|h
    ·exact hfr r h
    ·rw[List.mem_singleton.mp h]
     exact⟨g.fr p hp0,fun z=>by rw[z,hl]at hp0;cases hp0⟩
  ·rintro σ H' ⟨v2,v3,rs,rfl,g,hl,hlen,pD,hfr⟩
   rw[List.length_range]at hlen
   exact⟨_,rfl,k H' q rs g ⟨hl,hlen,pD⟩ hq hfr⟩
structure Pg(L:List aG)(C p dx:Addr)(H Hk:Hp)(fs:List (Str×V)):Prop where
 ins:Hk p=some (.ins C dx fs)
 c:lC L [p] H Hk
 fr:∀b,Hk b=none→H b=none
 len:fs.length<900
def Kl(H H':Hp):Prop:=∀(a:Addr) (xs:List V),H a=some (.lst xs)→H' a=some (.lst xs)
theorem Kl.trans{H H1 H2:Hp}(a:Kl H H1)(b:Kl H1 H2):Kl H H2:=fun c xs e=>b c xs (a c xs e)
section
variable{L:List aG}{C p dx:Addr}{H Hk H':Hp}{fs:List (Str×V)}
theorem Pg.go(P:Pg L C p dx H Hk fs)(g:Go L Hk H'):Pg L C p dx H H' fs∧Kl Hk H':=⟨⟨g.ins P.ins,P.c.go g,fun b e=>P.fr b (g.fr b e),P.len⟩,fun _ _ e=>g.lst e⟩
theorem Pg.fld(P:Pg L C p dx H Hk fs)(f:Str)(v:V)(hl:(eN f v fs).length<900):Pg L C p dx H (upd Hk p (.ins C dx (eN f v fs))) (eN f v fs)∧Kl Hk (upd Hk p (.ins C dx (eN f v fs))):=by
 refine⟨⟨ao,P.c.trans (lC.put P.ins (by intro _ z;cases z) (by intro _ z;cases z) (by simp)),fun b e=>?_,hl⟩,fun a xs e=>by rw[aF (f9 e P.ins (by intro z;cases z))];exact e⟩
 by_cases hb:b=p
 ·rw[hb,ao]at e;cases e
 ·rw[aF hb]at e;exact P.fr b e
end
theorem pZ(n:Nat)(z:Int):(List.replicate (n:Int).toNat [V.int z]).flatten=List.replicate n (V.int z):=by
 show(List.replicate n [V.int z]).flatten=_
 simp
def jq(_:Bs)(L:List aG)(C:Addr):Sp:=fun vs H Q _=>∃(p dx:Addr) (fs:List (Str×V)) (n:Nat) (r:Int),vs=[.ref p,.int n,.int r]∧H p=some (.ins C dx fs)∧(fs=[]∨∃sz' r' Ye m',fs=fields sz' r' Ye m')∧(2≤n∧n≤40)∧(0≤r∧r≤1000000000000)∧iQ L H∧
 ∀(H':Hp) (m':Ad),aR L C H' m' (fresh n r)→m'.p=p→lC L [p] H H'→(∀b∈m'.lists,H b=none)→Q .non H'
theorem oh:aJ ["self","size","reach"] ["self","size","reach"] (au (inClass (top 41) 1)):=by symm_saturate
theorem xP{B:Bs}{L:List aG}{C c:Addr}(T:Txt B C)(F:lV B C "begin_anew" "Roadmap.begin_anew" (inClass (top 41) 1) ["self","size","reach"])(dz:Df B 2 "distances_without_roads" ["size"] (fD B L C)):Mt B C 4 "begin_anew" ["self","size","reach"] (jq B L C):=by
 have nd:=oh.nd
 refine F.mt oh (fun vs H Q E h=>?_) (fun f cdv A outer s0 H vs Q E hr h=>?_)
 ·obtain⟨_,_,_,_,_,rfl,_⟩:=h
  rfl
 ·obtain⟨p,dx,fs,n,r,rfl,hp,hfs,hn,hr0,hS,k⟩:=h
  refine⟨_,(ak (j_ (pv 0) (pv 1) rfl)
   (ak (j_ (pv 0) (pv 2) rfl)
   (ak (j_ (pv 0) (cH su (aN (aa aA aj)) (pv 1)) rfl)
   (ak (j_ (pv 0) (cH su (aN (aa aA aj)) (pv 1)) rfl)
   (ak (j_ (pv 0) (cH su (aN (aa aA aj)) (pv 1)) rfl)
   (ak (j_ (pv 0) (aN aj) rfl)
   (ak (j_ (pv 0) Ml rfl)
   (aq (j_ (pv 0) (aZ dz ⋯ ∅ (aa (pv 1) aj)) rfl))))))))),?_⟩
  ac_nf
  have P0:Pg L C p dx H H fs:=⟨hp,lC.of (Go.refl _ _),fun _ e=>e,by rcases hfs with rfl| ⟨_,_,_,_,rfl⟩;exact(by decide);exact(by show 8<900;decide)⟩
  have len0:fs.length≤8:=by rcases hfs with rfl| ⟨_,_,_,_,rfl⟩;exact(by decide);exact(by show 8≤8;decide)
  have ln:∀(f:Str) (v:V) (gs:List (Str×V)) (i:Nat),gs.length≤i→(eN f v gs).length≤i+1:=fun f v gs i h=>Nat.le_trans (pA f v gs) (by omega)
  have sz: -(2 ^ 63)≤(n:Int)∧(n:Int)<2 ^ 63∧1*(n:Int).toNat≤sizeLine:=⟨by omega,by omega,by rw[sizeLine_eq];omega⟩
  refine⟨_,rfl,_,rfl,p,C,dx,_,rfl,P0.ins,T.cl,T.Ej,by have:=P0.len;omega,?_⟩
  have l1:=ln "size" (.int n) fs 8 len0
  obtain⟨P1,K1⟩:=P0.fld "size" (.int n) (by omega)
  refine⟨_,rfl,_,rfl,p,C,dx,_,rfl,P1.ins,T.cl,T.uU,by have:=P1.len;omega,?_⟩
  have l2:=ln "reach" (.int r) _ 9 l1
  obtain⟨P2,K2⟩:=P1.fld "reach" (.int r) (by omega)
  refine⟨by show 1≤sizeLine;decide,fun b1 hb1=>⟨_,rfl,b1,_,_,rfl,rfl,ao,sz.1,sz.2.1,sz.2.2,fun an han=>?_⟩⟩
  obtain⟨P3',K3'⟩:=P2.go (Go.laid (o:= .lst [.int 1]) hb1)
  obtain⟨P3,K3⟩:=P2.go ((Go.laid (o:= .lst [.int 1]) hb1).trans (Go.laid (o:= .lst (List.replicate (n:Int).toNat [V.int 1]).flatten) han))
  have acO:H an=none:=P3'.fr an han
  have a3:∀G:Hp,(upd (upd G b1 (.lst [.int 1])) an (.lst (List.replicate (n:Int).toNat [V.int 1]).flatten)) an=some (.lst (List.replicate n (.int 1))):=fun G=>by rw[ao,pZ]
  refine⟨_,rfl,p,C,dx,_,rfl,P3.ins,T.cl,T.x_,by have:=P3.len;omega,?_⟩
  have l4:=ln "needs" (.ref an) _ 10 l2
  obtain⟨P4,K4⟩:=P3.fld "needs" (.ref an) (by omega)
  refine⟨by show 1≤sizeLine;decide,fun b2 hb2=>⟨_,rfl,b2,_,_,rfl,rfl,ao,sz.1,sz.2.1,sz.2.2,fun ac hac=>?_⟩⟩
  obtain⟨P5',K5'⟩:=P4.go (Go.laid (o:= .lst [.int 1]) hb2)
  obtain⟨P5,K5⟩:=P4.go ((Go.laid (o:= .lst [.int 1]) hb2).trans (Go.laid (o:= .lst (List.replicate (n:Int).toNat [V.int 1]).flatten) hac))
  have acP:H ac=none:=P5'.fr ac hac
  have a4:=K4 _ _ (a3 _)
  have n1:an≠ac:=aP (K5' _ _ a4) hac
  have a5:=K5 _ _ a4
  have c5:∀G:Hp,(upd (upd G b2 (.lst [.int 1])) ac (.lst (List.replicate (n:Int).toNat [V.int 1]).flatten)) ac=some (.lst (List.replicate n (.int 1))):=fun G=>by rw[ao,pZ]
  refine⟨_,rfl,p,C,dx,_,rfl,P5.ins,T.cl,T.yc,by have:=P5.len;omega,?_⟩
  have l6:=ln "costs" (.ref ac) _ 11 l4
  obtain⟨P6,K6⟩:=P5.fld "costs" (.ref ac) (by omega)
  have a6:=K6 _ _ a5
  have c6:=K6 _ _ (c5 _)
  refine⟨by show 1≤sizeLine;decide,fun b3 hb3=>⟨_,rfl,b3,_,_,rfl,rfl,ao,sz.1,sz.2.1,sz.2.2,fun ab hab=>?_⟩⟩
  obtain⟨P7',K7'⟩:=P6.go (Go.laid (o:= .lst [.int 0]) hb3)
  obtain⟨P7,K7⟩:=P6.go ((Go.laid (o:= .lst [.int 0]) hb3).trans (Go.laid (o:= .lst (List.replicate (n:Int).toNat [V.int 0]).flatten) hab))
  have acQ:H ab=none:=P7'.fr ab hab
  have n2:an≠ab:=aP (K7' _ _ a6) hab
  have n3:ac≠ab:=aP (K7' _ _ c6) hab
  have a7:=K7 _ _ a6
  have c7:=K7 _ _ c6
  have b7:∀G:Hp,(upd (upd G b3 (.lst [.int 0])) ab (.lst (List.replicate (n:Int).toNat [V.int 0]).flatten)) ab=some (.lst (List.replicate n (.int 0))):=fun G=>by rw[ao,pZ]
  refine⟨_,rfl,p,C,dx,_,rfl,P7.ins,T.cl,T.uV,by have:=P7.len;omega,?_⟩
  have l8:=ln "barred" (.ref ab) _ 12 l6
  obtain⟨P8,K8⟩:=P7.fld "barred" (.ref ab) (by omega)
  have a8:=K8 _ _ a7
  have c8:=K8 _ _ c7
  have b8:=K8 _ _ (b7 _)
  refine⟨by show 0≤sizeLine;decide,fun ar har=>⟨_,rfl,?_⟩⟩
  obtain⟨P9,K9⟩:=P8.go (Go.laid (o:= .lst []) har)
  have acN:H ar=none:=P8.fr ar har
  have n4:an≠ar:=aP a8 har
  have n5:ac≠ar:=aP c8 har
  have n6:ab≠ar:=aP b8 har
  refine⟨p,C,dx,_,rfl,P9.ins,T.cl,T.uT,by have:=P9.len;omega,?_⟩
  have l10:=ln "roads" (.ref ar) _ 13 l8
  obtain⟨P10,K10⟩:=P9.fld "roads" (.ref ar) (by omega)
  have a10:=K10 _ _ (K9 _ _ a8)
  have c10:=K10 _ _ (K9 _ _ c8)
  have b10:=K10 _ _ (K9 _ _ b8)
  have r10:=K10 ar [] ao
  refine⟨_,rfl,p,C,dx,_,rfl,P10.ins,T.cl,T.uR,by have:=P10.len;omega,?_⟩
  have l11:=ln "leads_round" (.bl false) _ 14 l10
  obtain⟨P11,PX⟩:=P10.fld "leads_round" (.bl false) (by omega)
  refine⟨_,rfl,n,rfl,hn.2,fun H12 ad rs PP R12 Fj zy=>⟨_,rfl,?_⟩⟩
  obtain⟨P12,K12⟩:=P11.go PP
  refine⟨p,C,dx,_,rfl,P12.ins,T.cl,T.vW,by have:=P12.len;omega,?_⟩
  have l13:=ln "distances" (.ref ad) _ 15 l11
  obtain⟨P13,K13⟩:=P12.fld "distances" (.ref ad) (by omega)
  have Np:=K12.trans K13
  have a13:=Np _ _ (PX _ _ a10)
  have c13:=Np _ _ (PX _ _ c10)
  have b13:=Np _ _ (PX _ _ b10)
  have r13:=Np _ _ (PX _ _ r10)
  have n7:an≠ad:=aP (PX _ _ a10) Fj
  have n8:ac≠ad:=aP (PX _ _ c10) Fj
  have n9:ab≠ad:=aP (PX _ _ b10) Fj
  have n10:ar≠ad:=aP (PX _ _ r10) Fj
  have rn:∀q∈rs,q≠an∧q≠ac∧q≠ab∧q≠ar∧q≠ad:=fun q hq=>⟨(aP (PX _ _ a10) (zy q hq).1).symm,(aP (PX _ _ c10) (zy q hq).1).symm,(aP (PX _ _ b10) (zy q hq).1).symm,(aP (PX _ _ r10) (zy q hq).1).symm,(zy q hq).2⟩
  have esz:size (fresh n r)=n:=by show(List.replicate n _).length=n;simp
  refine k _ ⟨p,dx,an,ac,ab,ar,ad,rs⟩ ⟨?_,?_,?_,?_,?_,?_,?_,?_,PR.Qg hn.1 hn.2 hr0.1 hr0.2,P13.c.st hS⟩ rfl P13.c ?_
  ·have e:=P13.ins
   rw[Mg (m:=⟨p,dx,an,ac,ab,ar,ad,rs⟩) hfs]at e
   rw[esz]
   have er:round (fresh n r)=false:=by unfold PM.round;rw[PR.Ez];rfl
   rw[er]
   rw[Mg (m:=⟨p,dx,an,ac,ab,ar,ad,rs⟩) hfs]
   exact ao
  ·exact a13.trans (by unfold Vbedaf.fresh;simp)
  ·exact c13.trans (by unfold Vbedaf.fresh;simp)
  ·exact b13.trans (by unfold Vbedaf.fresh;simp [bit])
  ·exact⟨[],r13,rfl,fun i q t e=>by cases e⟩
  ·rw[esz]
   have e:PR.row (fresh n r)=noRoads n:=by funext i;rw[PR.Oa];rfl
   rw[e]
   exact R12.kept fun b ys _ h=>K13 _ _ h
  ·simp [n1,n2,n3,n4,n5,n6,n7,n8,n9,n10]
  ·intro q hq
   obtain⟨x1,x2,x3,x4,x5⟩:=rn q hq
   simp [x1,x2,x3,x4,x5]
  ·intro b hb
   unfold Ad.lists at hb
   rcases List.mem_append.mp hb with h|h
   ·simp only[List.mem_cons,List.not_mem_nil,or_false]at h
    rcases h with rfl|rfl|rfl|rfl|rfl
    ·exact acO
    ·exact acP
    ·exact acQ
    ·exact acN
    ·exact P11.fr _ Fj
   ·exact P11.fr _ (zy b h).1
theorem lC.mono{L:List aG}{fp fp':List Addr}{H H':Hp}(c:lC L fp H H')(h:∀b∈fp,b∈fp'):lC L fp' H H':=⟨fun b o e n f=>c.kp b o e n fun z=>f (h b z),c.st⟩
def qT(_:Bs)(L:List aG)(C:Addr):Sp:=fun vs H Q _=>∃(p dx:Addr),vs=[.ref p]∧H p=some (.ins C dx [])∧iQ L H∧∀(H':Hp) (m':Ad),aR L C H' m' Vbedaf.start→m'.p=p→lC L [p] H H'→(∀b∈m'.lists,H b=none)→Q .non H'
theorem rA:aJ ["self"] ["self"] (au (inClass (top 41) 0)):=by symm_saturate
theorem Az{B:Bs}{L:List aG}{C c:Addr}(T:Txt B C)(F:lV B C "__init__" "Roadmap.__init__" (inClass (top 41) 0) ["self"])(dX:Mt B C 4 "begin_anew" ["self","size","reach"] (jq B L C)):Mt B C 6 "__init__" ["self"] (qT B L C):=by
 have nd:=rA.nd
 refine F.mt rA (fun vs H Q E h=>?_) (fun f cdv A outer s0 H vs Q E hr h=>?_)
 ·obtain⟨_,_,rfl,_⟩:=h
  rfl
 ·obtain⟨p,dx,rfl,hp,hS,k⟩:=h
  refine⟨_,(aq (cQ (gQ (pv 0) ⋯ T.cl dX ∅ (aa aA (aa aA aj))))),?_⟩
  ac_nf
  exact⟨_,rfl,p,dx,[],rfl,hp,rfl,p,dx,[],2,0,rfl,hp,.inl rfl,⟨by decide,by decide⟩,⟨by decide,by decide⟩,hS,fun H' m' M e c f=>k H' m' M e c f⟩
def GX(_:Bs)(L:List aG)(C:Addr):Sp:=fun vs H Q _=>∃(m:Ad) (s:State) (n r:Int),vs=[.ref m.p,.int n,.int r]∧aR L C H m s∧bV L C H Q m (step s [[0,n,r]])
theorem Q8:aJ ["roadmap","n","r"] ["roadmap","n","r"] (au (top 17)):=by symm_saturate
theorem RK{B:Bs}{L:List aG}{C c:Addr}(T:Txt B C)(F:bJ B "begin" (top 17) ["roadmap","n","r"])(dX:Mt B C 4 "begin_anew" ["self","size","reach"] (jq B L C)):Df B 6 "begin" ["roadmap","n","r"] (GX B L C):=by
 exists Q8
 ·obtain⟨_,_,_,_,rfl,_⟩:=h
  rfl
 ·obtain⟨m,s,n,r,rfl,M,k⟩:=h
  refine⟨_,(ak (bB (d9 (PW.pt (rY (iy fj fj (cD T.nT) (pv 1) (cD T.jz)) (mX (iy fj fj aA (pv 2) (cD T.fX)))))) (aq (az (aN (aa (cD T.bM) aj)))) aK)
   (ak (cQ (gQ (pv 0) ⋯ T.cl dX ∅ (aa (pv 1) (aa (pv 2) aj))))
   (aq (az (aN (aa aA aj)))))),?_⟩
  ac_nf
  rw[PR.step0]at k
  have bad:(inR n 2 40&&inR r 0 1000000000000)=false→[V.int (-1)].length≤sizeLine∧∀p,H p=none→Q (.ref p) (upd H p (.lst [.int (-1)])):=fun h=>by
   rw[if_pos h]at k
   exact bV.one (r:=(s,[-1])) k M rfl (lC.of (Go.refl _ _)) (fun b hb=> .inl hb) rfl
  have aaU:¬(2≤n∧n≤40)→(inR n 2 40&&inR r 0 1000000000000)=false:=fun h=>by
   rw[Bool.and_eq_false_iff];left;rw[Bool.eq_false_iff,ne_eq,PR.b_];exact h
  have bad2:¬(0≤r∧r≤1000000000000)→(inR n 2 40&&inR r 0 1000000000000)=false:=fun h=>by
   rw[Bool.and_eq_false_iff];right;rw[Bool.eq_false_iff,ne_eq,PR.b_];exact h
  refine⟨_,rfl,_,_,rfl,rfl,_,rfl,?_⟩
  by_cases h1:2≤n
  ·rw[decide_eq_true h1]
   refine aQ ⟨_,_,rfl,rfl,_,rfl,?_⟩
   by_cases h2:n≤40
   ·rw[decide_eq_true h2]
    refine aQ ⟨_,rfl,_,_,rfl,rfl,_,rfl,?_⟩
    by_cases h3:0≤r
    ·rw[decide_eq_true h3]
     refine aQ ⟨_,_,rfl,rfl,_,rfl,?_⟩
     by_cases h4:r≤1000000000000
     ·rw[decide_eq_true h4]
      rw[if_neg (by rw[PR.b_.mpr ⟨h1,h2⟩,PR.b_.mpr ⟨h3,h4⟩];decide)]at k
      obtain⟨w,rfl⟩:∃w:Nat,n=w:=⟨n.toNat,by omega⟩
      refine bu (cP M rfl (by decide+kernel) ⟨_,rfl,_,rfl,m.p,m.dx,_,w,r,rfl,M.ins,.inr ⟨_,_,_,_,rfl⟩,⟨by omega,by omega⟩,⟨h3,h4⟩,M.st,fun H' m' M' e c f=>?_⟩)
      exact bV.one k M' e (c.mono (by intro b hb;rw[List.mem_singleton.mp hb];unfold Ad.fp;simp)) (fun b hb=> .inr (f b hb)) rfl
     ·rw[decide_eq_false h4]
      exact aQ (bad (bad2 fun z=>h4 z.2))
    ·rw[decide_eq_false h3]
     exact bu ⟨_,rfl,aQ (bad (bad2 fun z=>h3 z.1))⟩
   ·rw[decide_eq_false h2]
    exact bu (aQ (bad (aaU fun z=>h2 z.2)))
  ·rw[decide_eq_false h1]
   exact bu ⟨_,rfl,bu (aQ (bad (aaU fun z=>h1 z.1)))⟩
def qQ(_:Bs)(L:List aG)(C:Addr):Sp:=fun vs H Q _=>∃(m:Ad) (s:State) (a b:Nat),vs=[.ref m.p,.int a,.int b]∧aR L C H m s∧∀H',Go L H H'→Q (.bl (s.roads.any fun e=>(e.a==a&&e.b==b)||(e.a==b&&e.b==a))) H'
theorem q_:aJ ["self","a","b","joined","road"] ["self","a","b"] (au (inClass (top 41) 3)):=by symm_saturate
theorem Ax{B:Bs}{L:List aG}{C c:Addr}(T:Txt B C)(F:lV B C "has_road" "Roadmap.has_road" (inClass (top 41) 3) ["self","a","b"]):Mt B C 2 "has_road" ["self","a","b"] (qQ B L C):=by
 have nd:=q_.nd
 refine F.mt q_ (fun vs H Q E h=>?_) (fun f cdv A outer s0 H vs Q E hr h=>?_)
 ·obtain⟨_,_,_,_,rfl,_⟩:=h
  rfl
 ·obtain⟨m,s,a,b,rfl,M,k⟩:=h
  refine⟨_,(ak (gm rfl nd (i:=3) rfl rfl rfl (aW ⋯ (aV ⋯ (pv 0) (by rfl))) (bh (own:=[("road",4)]) (by kernel_rfl)) (fun _ _ _ _ _=>(aH (i:=4) nd rfl (Or.inl rfl))) (fun _ _ _ _ _=>cu) (fun _ _ _ _ _=>(kj (aa (bc (MJ ⋯) (pv 4) aA (by intro _ _;rfl)) (aa (bc (MJ ⋯) (pv 4) aA (by intro _ _;rfl)) aj)))))
   (aq (az (Z4 (fO (BZ (WQ hr)) (kj (aa (pv 1) (aa (pv 2) aj))) (pv 3) rfl) (yL (fO (BZ (WQ hr)) (kj (aa (pv 2) (aa (pv 1) aj))) (pv 3) rfl)))))),?_⟩
  ac_nf
  refine bO ?_
  ac_nf
  refine vh T M rfl ⟨m.ar,rfl,M.roads.seq,fun D hD=>?_⟩
  refine Ep (L:=L) (xs:=s.roads) (fun _=>true) (fun e=>Rw ((e.a:Int),(e.b:Int))) hD fB (fun H' g=>M.roads.go g) (by rw[sizeLine_eq];have:=M.wf.few;omega) (fun x y H' Ss g e Qn Qy hn hy=>?_) (fun H1 g1 hl=>?_)
  ·obtain⟨q,rfl,hq⟩:=e
   ac_nf
   refine⟨rfl,aQ ⟨_,rfl,q,_,_,_,rfl,rfl,mF.of hq,qw (j:=0) rfl,_,rfl,q,_,_,_,rfl,rfl,mF.of hq,qw (j:=1) rfl,by show 2≤sizeLine;decide,fun t ht=>?_⟩⟩
   exact hy rfl t _ (Go.laid ht) ao
  ·rw[bG]at hl
   have el:s.roads.map (fun e=>Rw ((e.a:Int),(e.b:Int)))=(s.roads.map fun e=>((e.a:Int),(e.b:Int))).map Rw:=by rw[List.map_map];rfl
   rw[el]at hl
   have key:∀(x y:Nat),((s.roads.map fun e=>((e.a:Int),(e.b:Int))).any fun t=>t==((x:Int),(y:Int)))=s.roads.any fun e=>e.a==x&&e.b==y:=fun x y=>by
    rw[List.any_map]
    congr 1
    funext e
    show(((e.a:Int),(e.b:Int))==((x:Int),(y:Int)))=_
    rw[Bool.eq_iff_iff]
    simp
    omega
   refine⟨_,rfl,_,rfl,by show 2≤sizeLine;decide,fun t ht=>⟨_,rfl,t,D,((a:Int),(b:Int)),_,rfl,rfl,ao,hl.go (Go.laid (L:=L) ht),_,rfl,?_⟩⟩
   have g2:Go L H1 (upd H1 t (.tup [.int a,.int b])):=Go.laid ht
   rw[key]
   have split:(s.roads.any fun e=>(e.a==a&&e.b==b)||(e.a==b&&e.b==a))=((s.roads.any fun e=>e.a==a&&e.b==b)||s.roads.any fun e=>e.a==b&&e.b==a):=by
    induction s.roads with
    |nil=>rfl
    |cons e l ih=>rw[List.any_cons,List.any_cons,List.any_cons,ih];cases(e.a==a&&e.b==b)<;>cases(e.a==b&&e.b==a)<;>simp
   rw[split]at k
   cases h1:(s.roads.any fun e=>e.a==a&&e.b==b)with
   |true=>
    rw[h1]at k
    exact aQ (k _ (g1.trans g2))
   |false=>
    rw[h1]at k
    refine bu ⟨_,rfl,_,rfl,by show 2≤sizeLine;decide,fun u hu=>⟨_,rfl,u,D,((b:Int),(a:Int)),_,rfl,rfl,ao,(hl.go g2).go (Go.laid (L:=L) hu),?_⟩⟩
    rw[key]
    exact k _ ((g1.trans g2).trans (Go.laid hu))
abbrev more(s:State)(a b:Nat)(l:Int):State:=⟨s.places,s.roads++[⟨a,b,l⟩],s.reach⟩
def ig(_:Bs)(L:List aG)(_:Addr):Sp:=fun vs H Q _=>∃(s:State) (ad:Addr) (rs:List Addr) (a b:Nat) (l:Int),vs=[.ref ad,.int a,.int b,.int l]∧pQ H ad rs (size s) (PR.row s)∧PR.Wf s∧PR.dj (size s) ⟨a,b,l⟩∧
 ∀(H':Hp) (Tt:Addr) (rs':List Addr),Go L H H'→pQ H' Tt rs' (size s) (PR.row (more s a b l))→H Tt=none→(∀q∈rs',H q=none∧q≠Tt)→Q (.ref Tt) H'
def qR(_:Bs)(L:List aG)(C:Addr):Sp:=fun vs H Q _=>∃(m:Ad) (s:State) (a b:Nat) (l:Int),vs=[.ref m.p,.int a,.int b,.int l]∧aR L C H m s∧PR.dj (size s) ⟨a,b,l⟩∧l≤1000000000∧s.roads.length<60∧
 ∀(H':Hp) (m':Ad),aR L C H' m' (more s a b l)→m'.p=m.p→lC L m.fp H H'→(∀b∈m'.lists,b∈m.lists∨H b=none)→Q .non H'
theorem rm:aJ ["self","a","b","length"] ["self","a","b","length"] (au (inClass (top 41) 4)):=by symm_saturate
theorem Ay{B:Bs}{L:List aG}{C c:Addr}(T:Txt B C)(F:lV B C "add_road" "Roadmap.add_road" (inClass (top 41) 4) ["self","a","b","length"])(eZ:Df B 4 "distances_with_road" ["distances","a","b","length"] (ig B L C)):Mt B C 6 "add_road" ["self","a","b","length"] (qR B L C):=by
 have nd:=rm.nd
 refine F.mt rm (fun vs H Q E h=>?_) (fun f cdv A outer s0 H vs Q E hr h=>?_)
 ·obtain⟨_,_,_,_,_,rfl,_⟩:=h
  rfl
 ·obtain⟨m,s,a,b,l,rfl,M,ok,hl,hf,k⟩:=h
  refine⟨_,(ak (bB (aO iB (bc (aD ⋯) (bc (aD ⋯) (aV ⋯ (pv 0) (by rfl)) (pv 1) (by intro _ _;rfl)) (pv 2) (by intro _ _;rfl)) dw (by exact aX _)) (aq (j_ (pv 0) Ml rfl)) aK)
   (ak (cQ (jK PySem.F.plainAttrs_list PySem.F.slot_list_append PySem.F.type_list_append eY (aV ⋯ (pv 0) (by rfl)) (aa (kj (aa (pv 1) (aa (pv 2) (aa (pv 3) aj)))) aj)))
   (aq (j_ (pv 0) (aZ eZ ⋯ ∅ (aa (aV ⋯ (pv 0) (by rfl)) (aa (pv 1) (aa (pv 2) (aa (pv 3) aj))))) rfl)))),?_⟩
  ac_nf
  obtain⟨q,h1,h2,h3,h4⟩:=M.cell ok.1
  have er:round (more s a b l)=(round s||(cell (distances s) a b).isSome):=by
   unfold PM.round
   rw[show forest (more s a b l) (distances (more s a b l))=_ from PR.HX M.wf ok]
   cases forest s (distances s)<;>cases(cell (distances s) a b).isSome<;>rfl
  refine nq T M rfl ⟨_,rfl,bj M.table.dist rfl h2 ⟨_,rfl,bj h3 rfl (rR ok.1 ok.2.1) ⟨rfl,_,rfl,?_⟩⟩⟩
  rw[RM,Bool.not_not]
  cases hs:(cell (distances s) a b).isSome
  case' true=>
   rw[hs,Bool.or_true]at er
   refine aQ ⟨_,rfl,m.p,C,m.dx,_,rfl,M.ins,T.cl,T.uR,mV _ _ _ _,?_⟩
   rw[Od]
   have hi1:upd H m.p (.ins C m.dx (fields (size s) s.reach true m)) m.p=some (.ins C m.dx (fields (size s) s.reach (round (more s a b l)) m)):=by rw[ao,er]
   have c1:lC L m.fp H (upd H m.p (.ins C m.dx (fields (size s) s.reach true m))):=lC.put M.ins (by intro _ z;cases z) (by intro _ z;cases z) (by unfold Ad.fp;simp)
   have f1:∀b,upd H m.p (.ins C m.dx (fields (size s) s.reach true m)) b=none→H b=none:=fun b e=>by
    by_cases hb:b=m.p
    ·rw[hb,ao]at e;cases e
    ·rw[aF hb]at e;exact e
   have k1:Kl H (upd H m.p (.ins C m.dx (fields (size s) s.reach true m))):=fun x xs e=>by rw[aF (f9 e M.ins (by intro z;cases z))];exact e
   have t1:Tk H (upd H m.p (.ins C m.dx (fields (size s) s.reach true m))):=fun x xs e=>by rw[aF (f9 e M.ins (by intro z;cases z))];exact e
   generalize upd H m.p (.ins C m.dx (fields (size s) s.reach true m))=H1 at hi1 c1 f1 k1 t1 ⊢
  case' false=>
   rw[hs,Bool.or_false]at er
   refine bu ?_
   have hi1:H m.p=some (.ins C m.dx (fields (size s) s.reach (round (more s a b l)) m)):=by rw[er];exact M.ins
   have c1:lC L m.fp H H:=lC.of (Go.refl _ _)
   have f1:∀b,H b=none→H b=none:=fun b e=>e
   have k1:Kl H H:=fun x xs e=>e
   have t1:Tk H H:=fun x xs e=>e
   revert hi1 c1 f1 k1 t1
   suffices hh:∀H1:Hp,H1=H→H1 m.p=some (.ins C m.dx (fields (size s) s.reach (round (more s a b l)) m))→lC L m.fp H H1→(∀b,H1 b=none→H b=none)→Kl H H1→Tk H H1→_ from hh H rfl
   intro H1 eH hi1 c1 f1 k1 t1
   rw[←eH]
  all_goals
   obtain⟨as,ra1,ra2,ra3⟩:=id M.roads.ex
   obtain⟨n1,n2,n3,n4,n5,n6,n7,n8,n9,n10⟩:=M.apart
   refine⟨_,rfl,m.p,C,m.dx,_,_,rfl,hi1,T.cl,T.uT,HH,.inl ⟨rfl,_,bC.of (k1 _ _ ra1)⟩,_,rfl,_,rfl,_,rfl,by show 3≤sizeLine;decide,fun t ht=>?_⟩
   have g2:Go L H1 (upd H1 t (.tup [.int a,.int b,.int l])):=Go.laid ht
   have ra4:=g2.lst (k1 _ _ ra1)
   have asl:as.length=s.roads.length:=by rw[ra2,List.length_map]
   refine⟨m.ar,_,_,rfl,rfl,ra4,by rw[List.length_map,asl,sizeLine_eq];omega,?_⟩
   have hi2:=g2.ins hi1
   have c2:lC L m.fp H (upd (upd H1 t (.tup [.int a,.int b,.int l])) m.ar (.lst (as.map V.ref++[.ref t]))):=(c1.go g2).trans (lC.put ra4 (by intro _ z;cases z) (by intro _ z;cases z) (by unfold Ad.fp;simp))
   have keep:∀(x:Addr) (xs:List V),x≠m.ar→H x=some (.lst xs)→(upd (upd H1 t (.tup [.int a,.int b,.int l])) m.ar (.lst (as.map V.ref++[.ref t]))) x=some (.lst xs):=fun x xs n e=>by rw[aF n];exact g2.lst (k1 _ _ e)
   have hi3:(upd (upd H1 t (.tup [.int a,.int b,.int l])) m.ar (.lst (as.map V.ref++[.ref t]))) m.p=some (.ins C m.dx (fields (size s) s.reach (round (more s a b l)) m)):=by rw[aF (f9 hi2 ra4 (by intro z;cases z))];exact hi2
   have f3:∀x,(upd (upd H1 t (.tup [.int a,.int b,.int l])) m.ar (.lst (as.map V.ref++[.ref t]))) x=none→H x=none:=fun x e=>by
    by_cases hx:x=m.ar
    ·rw[hx,ao]at e;cases e
    ·rw[aF hx]at e;exact f1 x (g2.fr x e)
   have Xe:qL (upd (upd H1 t (.tup [.int a,.int b,.int l])) m.ar (.lst (as.map V.ref++[.ref t]))) m.ar ((more s a b l).roads.map Hc):=by
    refine⟨as++[t],by rw[ao,List.map_append];rfl,?_,fun i p u e1 e2=>?_⟩
    ·show(as++[t]).length=(List.map Hc (s.roads++[_])).length
     rw[List.length_append,asl,List.length_map,List.length_append];rfl
    ·have e2:(List.map Hc (s.roads++[⟨a,b,l⟩]))[i]? =some u:=e2
     rw[List.map_append]at e2
     have tup:∀(x:Addr) (xs:List V),(upd H1 t (.tup [.int a,.int b,.int l])) x=some (.tup xs)→(upd (upd H1 t (.tup [.int a,.int b,.int l])) m.ar (.lst (as.map V.ref++[.ref t]))) x=some (.tup xs):=fun x xs e=>by rw[aF (f9 e ra4 (by intro z;cases z))];exact e
     by_cases hi:i<as.length
     ·rw[List.getElem?_append_left hi]at e1
      rw[List.getElem?_append_left (by rw[List.length_map,←asl];exact hi)]at e2
      exact tup _ _ (g2.tup (t1 _ _ (ra3 i p u e1 e2)))
     ·rw[List.getElem?_append_right (by omega)]at e1
      rw[List.getElem?_append_right (by rw[List.length_map,←asl];omega),List.length_map,←asl]at e2
      have h0:i - as.length=0:=by
       have:=(List.getElem?_eq_some_iff.mp e1).1
       simp at this;omega
      rw[h0]at e1 e2
      cases e1
      cases e2
      exact tup _ _ ao
   generalize (upd (upd H1 t (.tup [.int a,.int b,.int l])) m.ar (.lst (as.map V.ref++[.ref t])))=H3 at c2 keep hi3 f3 Xe ⊢
   refine⟨_,rfl,m.p,C,m.dx,_,_,rfl,hi3,T.cl,T.vW,My,_,rfl,_,rfl,_,rfl,?_⟩
   have ZM:pQ H3 m.ad m.rs (size s) (PR.row s):=M.table.kept fun x xs hx e=>keep x xs (by
    rcases hx with rfl|hx
    ·exact n10.symm
    ·exact fun z=>M.Ze x hx (by simp [z])) e
   refine⟨s,m.ad,m.rs,a,b,l,rfl,ZM,M.wf,ok,fun H4 Tt rs' g4 R4 Fj zy=>⟨_,rfl,m.p,C,m.dx,_,rfl,g4.ins hi3,T.cl,T.vW,mV _ _ _ _,?_⟩⟩
   have hi4:=g4.ins hi3
   rw[Rk (m:=m) (m':=⟨m.p,m.dx,m.an,m.ac,m.ab,m.ar,Tt,rs'⟩) ⟨rfl,rfl,rfl,rfl⟩]
   have c5:lC L m.fp H (upd H4 m.p (.ins C m.dx (fields (size s) s.reach (round (more s a b l)) ⟨m.p,m.dx,m.an,m.ac,m.ab,m.ar,Tt,rs'⟩))):=(c2.go g4).trans (lC.put hi4 (by intro _ z;cases z) (by intro _ z;cases z) (by unfold Ad.fp;simp))
   have Yd:∀(x:Addr) (xs:List V),H4 x=some (.lst xs)→(upd H4 m.p (.ins C m.dx (fields (size s) s.reach (round (more s a b l)) ⟨m.p,m.dx,m.an,m.ac,m.ab,m.ar,Tt,rs'⟩))) x=some (.lst xs):=fun x xs e=>by rw[aF (f9 e hi4 (by intro z;cases z))];exact e
   have R_:=fun(x:Addr) (xs:List V) (n:x≠m.ar) (e:H x=some (.lst xs))=>Yd x xs (g4.lst (keep x xs n e))
   have nn:∀(x:Addr),(∃xs,H x=some (.lst xs))→x≠m.ar→x≠Tt∧∀q∈rs',q≠x:=fun x ⟨xs,e⟩ n=>⟨aP (keep x xs n e) Fj,fun q hq=>(aP (keep x xs n e) (zy q hq).1).symm⟩
   obtain⟨tas,ta1,_⟩:=Xe.ex
   have nr:m.ar≠Tt∧∀q∈rs',q≠m.ar:=⟨aP ta1 Fj,fun q hq=>(aP ta1 (zy q hq).1).symm⟩
   have x1:=nn m.an ⟨_,M.needs⟩ n3
   have x2:=nn m.ac ⟨_,M.costs⟩ n6
   have x3:=nn m.ab ⟨_,M.barred⟩ n8
   refine k _ ⟨m.p,m.dx,m.an,m.ac,m.ab,m.ar,Tt,rs'⟩ ⟨ao,R_ _ _ n3 M.needs,R_ _ _ n6 M.costs,R_ _ _ n8 M.barred,?_,R4.kept fun x xs _ e=>Yd x xs e,?_,?_,PR.T8 M.wf ok hl hf,c5.st M.st⟩ rfl c5 ?_
   ·exact(Xe.go g4).tk (fun x xs e=>by rw[aF (f9 e hi4 (by intro z;cases z))];exact e) fun _ e=>Yd _ _ e
   ·simp [n1,n2,n3,n5,n6,n8,x1.1,x2.1,x3.1,nr.1]
   ·intro q hq
    simp [x1.2 q hq,x2.2 q hq,x3.2 q hq,nr.2 q hq,(zy q hq).2]
   ·intro x hx
    unfold Ad.lists at hx
    rcases List.mem_append.mp hx with h|h
    ·simp only[List.mem_cons,List.not_mem_nil,or_false]at h
     unfold Ad.lists
     rcases h with rfl|rfl|rfl|rfl|rfl
     ·left;simp
     ·left;simp
     ·left;simp
     ·left;simp
     ·right;exact f3 _ Fj
    ·right;exact f3 _ (zy x h).1
def LK(_:Bs)(L:List aG)(C:Addr):Sp:=fun vs H Q _=>∃(m:Ad) (s:State) (a b l:Int),vs=[.ref m.p,.int a,.int b,.int l]∧aR L C H m s∧bV L C H Q m (step s [[1,a,b,l]])
theorem Uw:aJ ["roadmap","a","b","length"] ["roadmap","a","b","length"] (au (top 18)):=by symm_saturate
theorem Ve{B:Bs}{L:List aG}{C c:Addr}(T:Txt B C)(F:bJ B "road" (top 18) ["roadmap","a","b","length"])(bf:Mt B C 2 "has_place" ["self","v"] (cX B L C))(nG:Mt B C 2 "has_road" ["self","a","b"] (qQ B L C))(nH:Mt B C 6 "add_road" ["self","a","b","length"] (qR B L C)):Df B 8 "road" ["roadmap","a","b","length"] (LK B L C):=by
 exists Uw
 ·obtain⟨_,_,_,_,_,rfl,_⟩:=h
  rfl
 ·obtain⟨m,s,a,b,l,rfl,M,k⟩:=h
  refine⟨_,(ak (bB (d9 (PW.pt (rY (cz (gQ (pv 0) ⋯ T.cl bf ∅ (aa (pv 1) aj))) (mX (cz (gQ (pv 0) ⋯ T.cl bf ∅ (aa (pv 2) aj))))))) (aq (az (aN (aa (cD T.bM) aj)))) aK)
   (ak (bB (d9 (iy fj fj (cD T.lu) (pv 3) (cD T.iI))) (aq (az (aN (aa (cD T.bM) aj)))) aK)
   (ak (bB (aO du (pv 1) (pv 2) (by exact aX _)) (aq (az (aN (aa (cD T.nQ) aj)))) aK)
   (ak (bB (cz (gQ (pv 0) ⋯ T.cl nG ∅ (aa (pv 1) (aa (pv 2) aj)))) (aq (az (aN (aa (cD T.jx) aj)))) aK)
   (ak (bB (aO Wx (aY (bA ⋯) rfl T.gn PySem.boot_len (aa (aV ⋯ (pv 0) (by rfl)) aj)) (cD T.nR) (by exact aX _)) (aq (az (aN (aa (cD T.jy) aj)))) aK)
   (ak (cQ (gQ (pv 0) ⋯ T.cl nH ∅ (aa (pv 1) (aa (pv 2) (aa (pv 3) aj)))))
   (aq (az (aN (aa aA aj)))))))))),?_⟩
  ac_nf
  rw[PR.step1]at k
  unfold Vbedaf.road at k
  have out:∀(n:Int),bV L C H Q m (s,[n])→∀H1,Go L H H1→[V.int n].length≤sizeLine∧∀p,H1 p=none→Q (.ref p) (upd H1 p (.lst [.int n])):=fun n k' H1 g=>
   bV.one (r:=(s,[n])) k' (M.go g) rfl (lC.of g) (fun b hb=> .inl hb) rfl
  have bad:(okV s a&&(okV s b&&inR l 1 1000000000))=false→[V.int (-1)].length≤sizeLine∧∀p,H p=none→Q (.ref p) (upd H p (.lst [.int (-1)])):=fun h=>by
   rw[if_pos h]at k
   exact out _ k H (Go.refl _ _)
  have Zd:¬(1≤l∧l≤1000000000)→(okV s a&&(okV s b&&inR l 1 1000000000))=false:=fun h=>by
   have:inR l 1 1000000000=false:=by rw[Bool.eq_false_iff,ne_eq,PR.b_];exact h
   rw[this];simp
  refine cP M rfl (by decide+kernel) ⟨_,rfl,m,s,a,rfl,M,_,rfl,?_⟩
  cases ha:okV s a with
  |false=>exact bu (aQ (bad (by rw[ha];rfl)))
  |true=>
   refine aQ (cP M rfl (by decide+kernel) ⟨_,rfl,m,s,b,rfl,M,_,rfl,?_⟩)
   cases hb:okV s b with
   |false=>exact aQ (bad (by rw[hb];simp))
   |true=>
    refine bu ⟨_,rfl,_,_,rfl,rfl,_,rfl,?_⟩
    by_cases h1:1≤l
    ·rw[decide_eq_true h1]
     refine aQ ⟨_,_,rfl,rfl,_,rfl,?_⟩
     by_cases h2:l≤1000000000
     ·rw[decide_eq_true h2]
      refine bu ⟨_,rfl,_,rfl,rfl,_,rfl,?_⟩
      rw[if_neg (by rw[ha,hb,PR.b_.mpr ⟨h1,h2⟩];decide)]at k
      by_cases hab:a=b
      ·rw[decide_eq_true (by rw[hab]:V.int a=V.int b)]
       rw[if_pos hab]at k
       exact aQ (out _ k H (Go.refl _ _))
      ·rw[decide_eq_false (fun z=>hab (by injection z):¬V.int a=V.int b)]
       rw[if_neg hab]at k
       obtain⟨i,rfl,hi⟩:=sG ha
       obtain⟨j,rfl,hj⟩:=sG hb
       refine bu (cP M rfl (by decide+kernel) ⟨_,rfl,_,rfl,m,s,i,j,rfl,M,fun H1 g1=>⟨_,rfl,?_⟩⟩)
       have k:bV L C H Q m (if (s.roads.any fun e=>(e.a==i&&e.b==j)||(e.a==j&&e.b==i))=true then ans s [-5]else if 60≤s.roads.length then ans s [-6]else(more s i j l,[0])):=k
       cases hex:(s.roads.any fun e=>(e.a==i&&e.b==j)||(e.a==j&&e.b==i))with
       |true=>
        rw[hex,if_pos rfl]at k
        exact aQ (out _ k H1 g1)
       |false=>
        rw[hex,if_neg (by decide)]at k
        have M1:=M.go g1
        obtain⟨as,h1',h2',_⟩:=M1.roads.ex
        have el:(as.map V.ref).length=s.roads.length:=by rw[List.length_map,h2',List.length_map]
        refine bu (vh T M1 rfl ⟨m.ar,_,rfl,.inl (bC.of h1'),_,_,rfl,rfl,_,rfl,?_⟩)
        rw[el]
        by_cases h60:60≤s.roads.length
        ·rw[decide_eq_true (by omega:(60:Int)≤(s.roads.length:Int))]
         rw[if_pos h60]at k
         exact aQ (out _ k H1 g1)
        ·rw[decide_eq_false (by omega:¬(60:Int)≤(s.roads.length:Int))]
         rw[if_neg h60]at k
         refine bu (cP M1 rfl (by decide+kernel) ⟨_,rfl,_,rfl,_,rfl,m,s,i,j,l,rfl,M1,⟨hi,hj,fun z=>hab (by have:i=j:=z;omega),h1⟩,h2,by omega,fun H2 m' M' e c f=>?_⟩)
         exact bV.one (r:=(more s i j l,[0])) k M' e (c.after g1) (fun x hx=>(f x hx).imp (fun z=>z) fun z=>g1.fr x z) rfl
     ·rw[decide_eq_false h2]
      exact aQ (bad (Zd fun z=>h2 z.2))
    ·rw[decide_eq_false h1]
     exact bu ⟨_,rfl,aQ (bad (Zd fun z=>h1 z.1))⟩
structure wO(H:Hp)(q:Addr)(rs:List Addr)(s:State)(r:Int):Prop where
 lst:H q=some (.lst (rs.map V.ref))
 len:rs.length=size s
 rows:∀(i:Nat) (p:Addr),rs[i]? =some p→H p=some (.lst ((PR.around s r i).map dg))
theorem wO.kl{H H':Hp}{q:Addr}{rs:List Addr}{s:State}{r:Int}(h:wO H q rs s r)(k:Kl H H'):wO H' q rs s r:=⟨k _ _ h.lst,h.len,fun i p e=>k _ _ (h.rows i p e)⟩
theorem wO.go{L:List aG}{H H':Hp}{q:Addr}{rs:List Addr}{s:State}{r:Int}(h:wO H q rs s r)(g:Go L H H'):wO H' q rs s r:=h.kl fun _ _ e=>g.lst e
theorem wO.at{H:Hp}{q:Addr}{rs:List Addr}{s:State}{r:Int}(h:wO H q rs s r){v:Nat}(hv:v<size s):∃p,rs[v]? =some p∧(rs.map V.ref)[v]? =some (.ref p)∧H p=some (.lst ((PR.around s r v).map dg)):=by
 have hl:v<rs.length:=by rw[h.len];exact hv
 exact⟨rs[v],List.getElem?_eq_getElem hl,by rw[List.getElem?_map,List.getElem?_eq_getElem hl];rfl,h.rows v _ (List.getElem?_eq_getElem hl)⟩
theorem G6(s:State)(m:List Vbedaf.Row):(PR.xx s m).length≤size s:=by rw[(PR.l_ s m).length_eq];exact vd s
theorem zZ(s:State)(r:Int)(v:Nat):(PR.around s r v).length≤size s:=Nat.le_trans (List.length_filter_le _ _) (G6 s _)
def gr(_:Bs)(L:List aG)(C:Addr):Sp:=fun vs H Q _=>∃(m:Ad) (s:State) (r:Int),vs=[.ref m.p,.int r]∧aR L C H m s∧∀(H':Hp) (q:Addr) (rs:List Addr),Go L H H'→wO H' q rs s r→Q (.ref q) H'
def jG:Addr:=267
theorem n_:aJ ["roadmap","reach","shallowest","around","distances","u"] ["roadmap","reach"] (au (top 51)):=by symm_saturate
def il:aG:=⟨jG,⟨223,57,223,88⟩,"posts_around.<locals>.<lambda>"⟩
theorem xO{B:Bs}{L:List aG}{C c:Addr}(T:Txt B C)(F:z7 B "posts_around" (top 51) ["roadmap","reach"] (.ref c))(hL:Jd B L il c)(aM:Mt B C 2 "places_not_barred" ["self"] (bT B L C))(jX:Mt B C 2 "depth" ["self","v"] (rO B L C))(gV:Df B 2 "is_within" ["far","reach"] (mR B L C)):Df B 8 "posts_around" ["roadmap","reach"] (gr B L C):=by
 have nd:=n_.nd
 refine F.df n_ (fun vs H Q E h=>?_) (fun f A outer s0 H vs Q E hr h=>?_)
 ·obtain⟨_,_,_,rfl,_⟩:=h
  rfl
 ·obtain⟨m,s,r,rfl,M,k⟩:=h
  refine⟨_,(ak (a_ (i:=2) nd rfl (Or.inl rfl) (yK (k:=0) ∅ rfl nd rfl T.jh hL.mem hL.ap (by exact Kf (pn:="u") (ip:=5) hL (by rfl) (by rfl) (by rfl) ⟨rfl,rfl,rfl,rfl,rfl,by decide+kernel,by decide+kernel,by decide+kernel⟩ (by decide+kernel) (by intros;rfl)) (aa (iz (pv 0) ⋯ T.cl aM ∅) aj) (fun _ _ _ _ _=>(kj (aa (gQ (pv 0) ⋯ T.cl jX ((hr.in1.in1.deeper _).mono (by decide)) (aa (pv 5) aj)) (aa (pv 5) aj))))))
   (ak (a_ (i:=3) nd rfl (Or.inl rfl) (aN aj))
   (ak (dH PassesOwn.never rfl (aW ⋯ (aV ⋯ (pv 0) (by rfl))) (aH (i:=4) nd rfl (Or.inr rfl))
   (aq (cQ (jK PySem.F.plainAttrs_list PySem.F.slot_list_append PySem.F.type_list_append eY (pv 3) (aa (dO rfl nd (aW ⋯ (pv 2)) (bh (own:=[("u",5)]) (by kernel_rfl)) (fun _ _ _ _ _=>(aH (i:=5) nd rfl (Or.inl rfl))) (fun _ _ _ _ _=>(fc (cz (aZ gV ⋯ ∅ (aa (bc (aD ⋯) (pv 4) (pv 5) (by intro _ _;rfl)) (aa (pv 1) aj)))))) (fun _ _ _ _ _=>(pv 5))) aj)))))
   (aq (az (pv 3)))))),?_⟩
  ac_nf
  unfold yu
  ac_nf
  refine cP M rfl (by decide+kernel) ⟨m,s,rfl,M,fun H1 p g1 hl=>?_⟩
  have M1:=M.go g1
  rw[dR]at hl
  refine⟨p,(PR.free s).map nat,fun n=>(depth (distances s) n.toNat,n),rfl,bC.of hl,?_,M1.st,fun n hn H' g Qk hk=>?_,fun H' D ns' hD g hp hs=>?_⟩
  ·have:=vd s;have:=M.wf.hi
   rw[List.length_map];omega
  ·obtain⟨v,hv,rfl⟩:=List.mem_map.mp hn
   refine cP (M1.go g) rfl (by decide+kernel) ⟨_,rfl,m,s,v,rfl,M1.go g,qd hv,fun H2 g2=>⟨_,rfl,by show 2≤sizeLine;decide,fun q hq=>?_⟩⟩
   exact hk _ q ao (g2.trans (Go.laid hq))
  ·obtain⟨e1,e2⟩:=Hl hp
   have nd2:(ns'.map Int.toNat).Nodup:=e2.nodup_iff.mpr ((List.nodup_range).filter _)
   have e3:ns'.map Int.toNat=PR.xx s (distances s):=by
    refine PR.G5 e2 ?_
    rw[e1]at hs
    rw[List.pairwise_map]at hs
    refine(List.Pairwise.and hs nd2).imp fun {a b} z=>?_
    rw[PR.cZ]
    obtain⟨z1,z2⟩:=z
    have f2:∀v:Nat,nat v=(v:Int):=fun v=>rfl
    simp only[f2,Int.toNat_natCast]at z1
    rcases z1 with z1| ⟨z1,z3⟩
    ·left;omega
    ·right;exact⟨by omega,by omega⟩
   rw[e1,e3,←dR]
   have g2:Go L H (upd H' D (.lst ((PR.xx s (distances s)).map dg))):=(g1.trans g).trans (Go.laid hD)
   have hD2:(upd H' D (.lst ((PR.xx s (distances s)).map dg))) D=some (.lst ((PR.xx s (distances s)).map dg)):=ao
   generalize upd H' D (.lst ((PR.xx s (distances s)).map dg))=H2 at g2 hD2 ⊢
   have M2:=M.go g2
   refine⟨by show 0≤sizeLine;decide,fun q hq=>cM ?_⟩
   ac_nf
   have g3:Go L H2 (upd H2 q (.lst [])):=Go.laid hq
   refine nq T (M2.go g3) rfl ⟨m.ad,rfl,⟨_,bC.of (M2.go g3).table.dist⟩,?_⟩
   refine bZ (bx (xs:=m.rs) (f:=V.ref)) (fun i σ H'=>∃(v4:Option V) (rs:List Addr),σ=[some (.ref m.p),some (.int r),some (.ref D),some (.ref q),v4,none]∧Go L H2 H'∧H' q=some (.lst (rs.map V.ref))∧rs.length=i∧(∀(j:Nat) (p:Addr),rs[j]? =some p→H' p=some (.lst ((PR.around s r j).map dg)))∧∀p∈rs,p≠q)
    ⟨_,[],rfl,g3,ao,rfl,fun j p e=>(by cases e),fun p hp=>(by cases hp)⟩ (fun i σ H' ⟨_,_,_,g,_⟩=>bC.of (M2.go g).table.dist) ?_ ?_
   ·rintro i d v σ H3 hi rfl ⟨v4,rs,rfl,g4,lX,hlen,pD,hne⟩
    have hil:i<size s:=by rw[←M.table.len];exact(List.getElem?_eq_some_iff.mp hi).1
    have M3:=M2.go g4
    ac_nf
    refine⟨_,rfl,.inl ⟨rfl,_,bC.of lX⟩,bO ?_⟩
    ac_nf
    refine⟨_,rfl,D,rfl,⟨_,bC.of (g4.lst hD2)⟩,fun b hb=>?_⟩
    refine bU (L:=L) (xs:=PR.xx s (distances s)) (fun u=>inReach (distances s) r i u) dg hb bx (fun H4 g=>bC.of (g.lst (g4.lst hD2))) (by rw[sizeLine_eq];have:=G6 s (distances s);have:=M.wf.hi;omega) (fun u y H4 hu g e Qn Qy hn hy=>?_) (fun H4 g5 Ex=>?_)
    ·subst e
     ac_nf
     have Zi:u<size s:=qd ((PR.l_ s (distances s)).mem_iff.mp hu)
     refine⟨rfl,_,rfl,_,rfl,bj ((M3.go g).table.rows i d hi) rfl (rR hil Zi) ⟨_,rfl,_,r,rfl,_,rfl,?_⟩⟩
     rw[CQ]
     cases e:inReach (distances s) r i u with
     |false=>exact hn e H4 (Go.refl _ _)
     |true=>exact aQ ⟨_,rfl,hy e H4 (Go.refl _ _)⟩
    ·have WT:=g5.lst lX
     refine⟨q,_,_,rfl,rfl,WT,?_,⟨_,rs++[b],rfl,(g4.trans g5).put hq WT,by rw[ao,List.map_append];rfl,by rw[List.length_append,hlen];rfl,fun j p e=>?_,fun p hp=>?_⟩⟩
     ·rw[List.length_map,hlen,sizeLine_eq];have:=M.wf.hi;omega
     ·have hbq:b≠q:=fun z=>by rw[z,lX]at hb;cases hb
      by_cases hj:j<rs.length
      ·rw[List.getElem?_append_left hj]at e
       rw[aF (hne p (List.mem_of_getElem? e))]
       exact g5.lst (pD j p e)
      ·rw[List.getElem?_append_right (by omega)]at e
       have h0:j - rs.length=0:=by
        have:=(List.getElem?_eq_some_iff.mp e).1
        simp at this;omega
       rw[h0]at e
       cases e
       have:j=i:=by omega
       subst this
       rw[aF hbq]
       exact Ex
     ·rcases List.mem_append.mp hp with h|h
      ·exact hne p h
      ·rw[List.mem_singleton.mp h]
       exact fun z=>by rw[z,lX]at hb;cases hb
   ·rintro σ H3 ⟨v4,rs,rfl,g4,lX,hlen,pD,hne⟩
    exact⟨_,rfl,k H3 q rs (g2.trans g4) ⟨lX,by rw[hlen,M.table.len],pD⟩⟩
def Gr(q:Nat×Nat×Nat):List V:=[.int q.1,.int q.2.1,.int q.2.2]
def nO(n:Nat)(t:PR.Short):List V:=(List.range n).map fun u=>V.int (PR.cnt (PR.aL t) u)
theorem nM{n u:Nat}(t:PR.Short)(h:u<n):(nO n t)[u]? =some (.int (PR.cnt (PR.aL t) u)):=by
 unfold nO;rw[List.getElem?_map,List.getElem?_range h];rfl
theorem pN(n:Nat)(t:PR.Short):(nO n t).length=n:=by unfold nO;simp
theorem Iv(n:Nat):nO n []=List.replicate n (.int 0):=by
 unfold nO
 refine List.ext_getElem (by simp) fun i h1 h2=>?_
 simp;rfl
theorem Cz{n:Nat}(t:PR.Short)(q:Nat×Nat×Nat)(h:q.2.1<n):(nO n t).set q.2.1 (.int ((PR.cnt (PR.aL t) q.2.1:Int)+q.2.2))=nO n (t++[q]):=by
 refine List.ext_getElem? fun i=>?_
 rw[List.getElem?_set]
 have e:∀u,PR.cnt (PR.aL (t++[q])) u=PR.cnt (PR.aL t) u+(if q.2.1=u then q.2.2 else 0):=fun u=>by
  unfold PR.aL
  rw[List.map_append,PR.cnt_append]
  congr 1
  show PR.cnt [(q.2.1,q.2.2)] u=_
  rw[PR.cnt_cons,PR.cnt_nil];rfl
 by_cases hi:i<n
 ·rw[nM _ hi,nM _ hi,e]
  by_cases h2:q.2.1=i
  ·rw[if_pos h2,if_pos (by rw[pN];exact h),if_pos h2,h2];congr 2
  ·rw[if_neg h2,if_neg h2];rfl
 ·have n1:(nO n t)[i]? =none:=List.getElem?_eq_none (by rw[pN];omega)
  have n2:(nO n (t++[q]))[i]? =none:=List.getElem?_eq_none (by rw[pN];omega)
  rw[n1,n2,if_neg (by omega)]
theorem Gs{H:Hp}{a t:Addr}{ts:List (List V)}{u:List V}(h:qL H a ts)(ht:H t=some (.tup u)):∃xs,H a=some (.lst xs)∧xs.length=ts.length∧qL (upd H a (.lst (xs++[.ref t]))) a (ts++[u]):=by
 obtain⟨as,h1,h2,h3⟩:=h.ex
 refine⟨_,h1,by rw[List.length_map,h2],as++[t],by rw[ao,List.map_append];rfl,by rw[List.length_append,List.length_append,h2];rfl,fun i p v e1 e2=>?_⟩
 have tup:∀(x:Addr) (xs:List V),H x=some (.tup xs)→upd H a (.lst (as.map V.ref++[.ref t])) x=some (.tup xs):=fun x xs e=>by rw[aF (f9 e h1 (by intro z;cases z))];exact e
 by_cases hi:i<as.length
 ·rw[List.getElem?_append_left hi]at e1
  rw[List.getElem?_append_left (by rw[←h2];exact hi)]at e2
  exact tup _ _ (h3 i p v e1 e2)
 ·rw[List.getElem?_append_right (by omega)]at e1
  rw[List.getElem?_append_right (by omega),←h2]at e2
  have h0:i - as.length=0:=by
   have:=(List.getElem?_eq_some_iff.mp e1).1
   simp at this;omega
  rw[h0]at e1 e2
  cases e1
  cases e2
  exact tup _ _ ht
def mQ(_:Bs)(L:List aG)(_:Addr):Sp:=fun vs H Q _=>∃(s:State) (r:Int) (vD:Nat→Nat) (l:List Nat) (a b q:Addr) (rs:List Addr),vs=[.ref a,.ref b,.ref q]∧H a=some (.lst (l.map dg))∧H b=some (.lst ((List.range (size s)).map fun v=>V.int (vD v)))∧wO H q rs s r∧
 (∀v∈l,v<size s∧PR.around s r v≠[])∧size s≤40∧l.length≤40∧∀(H':Hp) (p:Addr),Go L H H'→qL H' p ((PR.ju s r vD l []).map Gr)→Q (.ref p) H'
theorem M_{s:State}{r:Int}{vD:Nat→Nat}(l:List Nat):(PR.ju s r vD l []).length≤l.length:=by
 obtain⟨k,h1,h2⟩:=PR.lO (s:=s) (r:=r) (need:=vD) (l:=l) (t:=[])
 have:=congrArg List.length h2
 rw[List.length_map]at this
 rw[this]
 exact h1.length_le
theorem Ds:aJ ["places","needs","around","posts","short","v","missing","at","u"] ["places","needs","around"] (au (top 52)):=by symm_saturate
theorem Ec{B:Bs}{L:List aG}{C c:Addr}(T:Txt B C)(F:bJ B "put_posts" (top 52) ["places","needs","around"]):Df B 2 "put_posts" ["places","needs","around"] (mQ B L C):=by
 exists Ds
 ·obtain⟨_,_,_,_,_,_,_,_,rfl,_⟩:=h
  rfl
 ·obtain⟨s,r,vD,l,a,b,q,rs,rfl,ha,hb,hq,hl,hn,hll,k⟩:=h
  refine⟨_,(ak (a_ (i:=3) nd rfl (Or.inr rfl) (cH su (aN (aa aA aj)) (aY (bA ⋯) rfl T.gn PySem.boot_len (aa (pv 2) aj))))
   (ak (a_ (i:=4) nd rfl (Or.inl rfl) (aN aj))
   (ak (dH PassesOwn.never rfl (aW ⋯ (pv 0)) (aH (i:=5) nd rfl (Or.inl rfl))
   (ak (a_ (i:=6) nd rfl (Or.inl rfl) (cH DY (bc (aD ⋯) (pv 1) (pv 5) (by intro _ _;rfl)) (aY (lR ⋯ rfl) rfl T.rD pP (aa (dO rfl nd (aW ⋯ (bc (aD ⋯) (pv 2) (pv 5) (by intro _ _;rfl))) (bh (own:=[("u",8)]) (by kernel_rfl)) (fun _ _ _ _ _=>(aH (i:=8) nd rfl (Or.inl rfl))) (fun _ _ _ _ _=>cu) (fun _ _ _ _ _=>(bc (aD ⋯) (pv 3) (pv 8) (by intro _ _;rfl)))) aj))))
    (aq (bB (aO uG (pv 6) aA (by exact aX _)) (ak (a_ (i:=7) nd rfl (Or.inl rfl) (bc (aD ⋯) (bc (aD ⋯) (pv 2) (pv 5) (by intro _ _;rfl)) aA (by intro _ _;rfl)))
     (ak (DN (pv 3) (pv 7) (v9 ⋯) (pv 6) Kh set_list)
     (aq (cQ (jK PySem.F.plainAttrs_list PySem.F.slot_list_append PySem.F.type_list_append eY (pv 4) (aa (kj (aa (pv 5) (aa (pv 7) (aa (pv 6) aj)))) aj)))))) aK))))
   (aq (az (pv 4)))))),?_⟩
  ac_nf
  refine⟨by show 1≤sizeLine;decide,fun x1 hx1=>⟨_,rfl,q,_,rfl,.inl (bC.of ((Go.laid (L:=L) hx1).lst hq.lst)),x1,_,_,rfl,rfl,ao,by omega,by rw[List.length_map,hq.len];omega,?_,fun P hP=>?_⟩⟩
  ·rw[List.length_map,hq.len,sizeLine_eq];show 1*_≤_;omega
  rw[List.length_map,hq.len,pZ]
  have g1:Go L H (upd H x1 (.lst [.int 0])):=Go.laid hx1
  have g2:Go L (upd H x1 (.lst [.int 0])) (upd (upd H x1 (.lst [.int 0])) P (.lst (List.replicate (size s) (.int 0)))):=Go.laid hP
  have hP0:H P=none:=g1.fr P hP
  have eP:(upd (upd H x1 (.lst [.int 0])) P (.lst (List.replicate (size s) (.int 0)))) P=some (.lst (nO (size s) [])):=by rw[ao,Iv]
  have PQ:=g1.trans g2
  generalize (upd (upd H x1 (.lst [.int 0])) P (.lst (List.replicate (size s) (.int 0))))=H2 at PQ eP ⊢
  refine⟨by show 0≤sizeLine;decide,fun S hS=>cM ?_⟩
  ac_nf
  have g3:Go L H2 (upd H2 S (.lst [])):=Go.laid hS
  have hS0:H S=none:=PQ.fr S hS
  have hPS:P≠S:=aP eP hS
  refine⟨_,rfl,a,rfl,⟨_,bC.of ((PQ.trans g3).lst ha)⟩,?_⟩
  refine bZ (bx (xs:=l) (f:=dg)) (fun i σ H'=>∃(v5 v6 v7:Option V),σ=[some (.ref a),some (.ref b),some (.ref q),some (.ref P),some (.ref S),v5,v6,v7,none]∧Go L H H'∧H' P=some (.lst (nO (size s) (PR.ju s r vD (l.take i) [])))∧qL H' S ((PR.ju s r vD (l.take i) []).map Gr))
   ⟨_,_,_,rfl,PQ.trans g3,g3.lst eP,⟨[],ao,rfl,fun i p t e=>by cases e⟩⟩ (fun i σ H' ⟨_,_,_,_,g,_⟩=>bC.of (g.lst ha)) ?_ ?_
  ·rintro i x v σ H3 hi rfl ⟨v5,v6,v7,rfl,g,VG,hT⟩
   have hxl:x∈l:=List.mem_of_getElem? hi
   obtain⟨hx,hxa⟩:=hl x hxl
   have Z8:=PR.pF (need:=vD) (l:=l.take i) (t:=[]) (⟨fun q hq=>by cases hq⟩:PR.jR s r [])
   have hsn:=PR.u6 s r vD x (l.take i) []
   rw[←take_snoc hi]at hsn
   have hlen:=M_ (s:=s) (r:=r) (vD:=vD) (l.take i)
   rw[List.length_take]at hlen
   generalize PR.ju s r vD (l.take i) []=t at VG hT Z8 hsn hlen
   obtain⟨p,p1,p2,p3⟩:=(hq.go g).at hx
   ac_nf
   refine⟨_,rfl,_,rfl,bj (g.lst hb) rfl (by rw[List.getElem?_map,List.getElem?_range hx];rfl) (bO ?_)⟩
   ac_nf
   refine⟨_,rfl,_,rfl,bj (g.lst hq.lst) rfl p2 ⟨p,rfl,⟨_,bC.of p3⟩,fun D hD=>?_⟩⟩
   refine bU (L:=L) (xs:=PR.around s r x) (fun _=>true) (fun u=>V.int (PR.cnt (PR.aL t) u)) hD bx (fun H4 g=>bC.of (g.lst p3)) (by rw[sizeLine_eq];have:=zZ s r x;omega) (fun u y H4 hu g4 e Qn Qy hn hy=>?_) (fun H4 g4 lX=>?_)
   ·subst e
    ac_nf
    exact⟨rfl,aQ ⟨_,rfl,_,rfl,bj (g4.lst VG) rfl (nM _ (PR.dh.mp hu).1.1) (hy rfl H4 (Go.refl _ _))⟩⟩
   ·rw[bG]at lX
    refine⟨D,(PR.around s r x).map fun u=>(PR.cnt (PR.aL t) u:Int),rfl,bC.of (by rw[List.map_map];exact lX),_,_,rfl,rfl,?_⟩
    rw[PR.ul,PR.Ju Z8.posts]
    have HS:=g4.lst VG
    have hT4:=hT.go g4
    have Cm:=g.trans g4
    refine⟨_,rfl,_,_,rfl,rfl,_,rfl,vZ (fun hbb=>?_) (fun hbb=>?_)⟩
    ·have hpos:¬vD x≤served (distances s) r (PR.aL t) x:=fun z=>by have:=of_decide_eq_true hbb;omega
     obtain⟨w,wr,hw⟩:∃w wr,PR.around s r x=w::wr:=by
      cases e:PR.around s r x with
      |nil=>exact(hxa e).elim
      |cons w wr=>exact⟨w,wr,rfl⟩
     have hnear:nearest (distances s) (posts s (distances s) r x)=some w:=by rw[←PR.Ja,hw];rfl
     have hgo:PR.ju s r vD [x] t=t++[(x,w,vD x - served (distances s) r (PR.aL t) x)]:=by
      unfold PR.ju
      rw[if_neg hpos,hnear];rfl
     rw[hgo]at hsn
     have hwl:w<size s:=(PR.dh.mp (by rw[hw];exact List.mem_cons_self:w∈PR.around s r x)).1.1
     have e0:((PR.around s r x).map dg)[0]? =some (dg w):=by rw[hw];rfl
     refine⟨_,rfl,_,rfl,bj (Cm.lst hq.lst) rfl p2 (bj (j:=0) (g4.lst p3) rfl e0 ?_)⟩
     refine⟨_,rfl,_,rfl,bj HS rfl (nM _ hwl) ⟨_,rfl,_,_,rfl,rfl,P,_,_,w,rfl,rfl,HS,m_ (by rw[pN];exact hwl),?_⟩⟩
     have acU:(vD x:Int) - (served (distances s) r (PR.aL t) x:Int)=((vD x - served (distances s) r (PR.aL t) x:Nat):Int):=by omega
     rw[acU]
     have g5:=Cm.put (ys:=nO (size s) (t++[(x,w,vD x - served (distances s) r (PR.aL t) x)])) hP0 HS
     have aaO:=Cz (n:=size s) t (x,w,vD x - served (distances s) r (PR.aL t) x) hwl
     dsimp only at aaO
     rw[aaO]
     have hT5:qL (upd H4 P (.lst (nO (size s) (t++[(x,w,vD x - served (distances s) r (PR.aL t) x)])))) S (t.map Gr):=hT4.tk (Tk.put HS) fun xs e=>by rw[aF hPS.symm];exact e
     have hc5:(upd H4 P (.lst (nO (size s) (t++[(x,w,vD x - served (distances s) r (PR.aL t) x)])))) P=some (.lst (nO (size s) (t++[(x,w,vD x - served (distances s) r (PR.aL t) x)]))):=ao
     generalize (upd H4 P (.lst (nO (size s) (t++[(x,w,vD x - served (distances s) r (PR.aL t) x)]))))=H5 at g5 hT5 hc5 ⊢
     obtain⟨as5,Ex,_⟩:=hT5.ex
     refine⟨_,rfl,.inl ⟨rfl,_,bC.of Ex⟩,_,rfl,_,rfl,_,rfl,by show 3≤sizeLine;decide,fun tt htt=>?_⟩
     have g6:Go L H5 (upd H5 tt (.tup (Gr (x,w,vD x - served (distances s) r (PR.aL t) x)))):=Go.laid htt
     obtain⟨xs6,h61,h62,h63⟩:=Gs (hT5.go g6) (t:=tt) ao
     refine⟨S,_,_,rfl,rfl,h61,by rw[h62,List.length_map,sizeLine_eq];omega,?_⟩
     refine⟨_,_,_,rfl,(g5.trans g6).put hS0 h61,?_,?_⟩
     ·rw[aF hPS,hsn];exact g6.lst hc5
     ·rw[hsn,List.map_append];exact h63
    ·have hneg:vD x≤served (distances s) r (PR.aL t) x:=by
      refine Nat.le_of_not_lt fun z=>hbb (decide_eq_true ?_)
      omega
     have hgo:PR.ju s r vD [x] t=t:=by
      unfold PR.ju
      rw[if_pos hneg];rfl
     rw[hgo]at hsn
     rw[hsn]
     exact⟨_,_,_,rfl,Cm,HS,hT4⟩
  ·rintro σ H3 ⟨v5,v6,v7,rfl,g,VG,hT⟩
   rw[List.take_length]at hT
   exact⟨_,rfl,k H3 S g hT⟩
def uq(_:Bs)(L:List aG)(_:Addr):Sp:=fun vs H Q _=>∃(a:Addr) (t:PR.Short) (n:Nat),vs=[.ref a,.int n]∧qL H a (t.map Gr)∧(∀q∈t,q.2.1<n)∧n≤40∧∀(H':Hp) (p:Addr),Go L H H'→H' p=some (.lst (nO n t))→Q (.ref p) H'
theorem Dt:aJ ["short","size","posts","v","at","missing"] ["short","size"] (au (top 53)):=by symm_saturate
theorem Ed{B:Bs}{L:List aG}{C c:Addr}(T:Txt B C)(F:bJ B "posts_put" (top 53) ["short","size"]):Df B 2 "posts_put" ["short","size"] (uq B L C):=by
 exists Dt
 ·obtain⟨_,_,_,rfl,_⟩:=h
  rfl
 ·obtain⟨a,t,n,rfl,hT,hlt,hn,k⟩:=h
  refine⟨_,(ak (a_ (i:=2) nd rfl (Or.inl rfl) (cH su (aN (aa aA aj)) (pv 1)))
   (ak (dH PassesOwn.never rfl (aW ⋯ (pv 0)) (gF (n:=3) ⋯ rfl (bI (aH (i:=3) nd rfl (Or.inl rfl)) (bI (aH (i:=4) nd rfl (Or.inl rfl)) (bI (aH (i:=5) nd rfl (Or.inl rfl)) gD))))
   (aq (DN (pv 2) (pv 4) (v9 ⋯) (pv 5) Kh set_list)))
   (aq (az (pv 2))))),?_⟩
  ac_nf
  refine⟨by show 1≤sizeLine;decide,fun x1 hx1=>⟨_,rfl,x1,_,_,rfl,rfl,ao,by omega,by omega,by rw[sizeLine_eq];show 1*_≤_;omega,fun P hP=>cM ?_⟩⟩
  ac_nf
  rw[pZ]
  have g1:Go L H (upd H x1 (.lst [.int 0])):=Go.laid hx1
  have hP0:H P=none:=g1.fr P hP
  have PQ:Go L H (upd (upd H x1 (.lst [.int 0])) P (.lst (List.replicate n (.int 0)))):=g1.trans (Go.laid hP)
  refine⟨_,rfl,a,rfl,(hT.go PQ).seq,?_⟩
  refine bZ (fB (xs:=t) (f:=Gr)) (fun i σ H'=>∃(v3 v4 v5:Option V),σ=[some (.ref a),some (.int n),some (.ref P),v3,v4,v5]∧Go L H H'∧H' P=some (.lst (nO n (t.take i))))
   ⟨_,_,_,rfl,PQ,by rw[ao];exact congrArg _ (congrArg _ (Iv n).symm)⟩ (fun i σ H' ⟨_,_,_,_,g,_⟩=>hT.go g) ?_ ?_
  ·rintro i x v σ H3 hi ⟨p,rfl,hp⟩ ⟨v3,v4,v5,rfl,g,hc⟩
   ac_nf
   have hx:=hlt x (List.mem_of_getElem? hi)
   refine⟨p,_,rfl,mF.of hp,rfl,_,_,rfl,_,_,rfl,_,_,rfl,rfl,?_⟩
   refine⟨_,rfl,_,rfl,bj hc rfl (nM _ hx) ⟨_,rfl,_,_,rfl,rfl,P,_,_,x.2.1,rfl,rfl,hc,m_ (by rw[pN];exact hx),?_⟩⟩
   refine⟨_,_,_,rfl,g.put hP0 hc,?_⟩
   rw[ao,Cz _ _ hx,take_snoc hi]
  ·rintro σ H3 ⟨v3,v4,v5,rfl,g,hc⟩
   rw[List.take_length]at hc
   exact⟨_,rfl,k H3 P g hc⟩
theorem MT(v:Nat)(l:List Nat):inV (.int v) (l.map dg)=decide (v∈l):=by
 unfold inV
 rw[List.any_map,Bool.eq_iff_iff,List.any_eq_true,decide_eq_true_iff]
 constructor
 ·rintro⟨x,hx,e⟩
  have e:((x:Int)==(v:Int))=true:=e
  have e:=eq_of_beq e
  have:x=v:=by omega
  exact this▸hx
 ·intro h
  exact⟨v,h,by show((v:Int)==(v:Int))=true;simp⟩
theorem HY(l:List Nat):(l.map dg).all vg=true:=by
 rw[List.all_map,List.all_eq_true];intro x _;rfl
def qO(_:Bs)(L:List aG)(_:Addr):Sp:=fun vs H Q _=>∃(s:State) (r:Int) (a q:Addr) (rs:List Addr) (t:PR.Short),vs=[.ref a,.ref q]∧qL H a (t.map Gr)∧wO H q rs s r∧(∀x∈t,x.1<size s)∧t.length≤40∧size s≤40∧
 ∀(H':Hp) (p:Addr) (out:List Int),Go L H H'→out.Perm (PR.Ca (PR.takes s r (PR.fZ t).reverse []))→out.Pairwise (· ≤ ·)→H' p=some (.lst (out.map V.int))→Q (.ref p) H'
theorem Bw(s:State)(r:Int)(q:List (Nat×Nat)):(PR.takes s r q []).length≤q.length∧∀v∈PR.takes s r q [],v∈q.map (·.1):=by
 obtain⟨k,h1,h2⟩:=PR.pW (s:=s) (r:=r) q []
 rw[h2,List.nil_append]
 exact⟨by have:=h1.length_le;rwa[List.length_map]at this,fun v hv=>h1.subset hv⟩
theorem Ak:aJ ["short","around","taken","v","at","missing","other"] ["short","around"] (au (top 54)):=by symm_saturate
theorem Ar{B:Bs}{L:List aG}{C c:Addr}(T:Txt B C)(F:bJ B "witness_of" (top 54) ["short","around"]):Df B 2 "witness_of" ["short","around"] (qO B L C):=by
 exists Ak
 ·obtain⟨_,_,_,_,_,_,rfl,_⟩:=h
  rfl
 ·obtain⟨s,r,a,q,rs,t,rfl,hT,hA,hlt,htl,hn,k⟩:=h
  refine⟨_,(ak (a_ (i:=2) nd rfl (Or.inl rfl) (aN aj))
   (ak (dH PassesOwn.never rfl (uE ⋯ rfl T.m7 (aa (pv 0) aj)) (gF (n:=3) ⋯ rfl (bI (aH (i:=3) nd rfl (Or.inl rfl)) (bI (aH (i:=4) nd rfl (Or.inr rfl)) (bI (aH (i:=5) nd rfl (Or.inl rfl)) gD))))
   (aq (bB (d9 (cz (aY (ql ⋯ rfl) rfl T.wZ wM (aa (dO rfl nd (aW ⋯ (pv 2)) (bh (own:=[("other",6)]) (by kernel_rfl)) (fun _ _ _ _ _=>(aH (i:=6) nd rfl (Or.inl rfl))) (fun _ _ _ _ _=>cu) (fun _ _ _ _ _=>(fO (kI ⋯) (pv 4) (bc (aD ⋯) (pv 1) (pv 6) (by intro _ _;rfl)) rfl))) aj)))) (aq (cQ (jK PySem.F.plainAttrs_list PySem.F.slot_list_append PySem.F.type_list_append eY (pv 2) (aa (pv 3) aj)))) aK)))
   (aq (az (aY (zO ⋯) rfl T.jh qt (aa (pv 2) aj)))))),?_⟩
  ac_nf
  refine⟨by show 0≤sizeLine;decide,fun S hS=>cM ?_⟩
  ac_nf
  have g1:Go L H (upd H S (.lst [])):=Go.laid hS
  have O6:(PR.fZ t).reverse=t.reverse.map fun x=>(x.1,x.2.1):=by unfold PR.fZ;rw[List.map_reverse]
  obtain⟨as,ha1,ha2,_⟩:=(hT.go g1).ex
  have hlen:(as.map V.ref).length=t.length:=by rw[List.length_map,ha2,List.length_map]
  refine⟨_,rfl,a,_,rfl,bC.of ha1,?_⟩
  rw[hlen]
  refine bZ (Gq (xs:=t) (f:=Gr)) (fun i σ H'=>∃(v3 v4 v5:Option V),σ=[some (.ref a),some (.ref q),some (.ref S),v3,v4,v5,none]∧Go L H H'∧H' S=some (.lst ((PR.takes s r ((t.reverse.take i).map fun x=>(x.1,x.2.1)) []).map dg)))
   ⟨_,_,_,rfl,g1,ao⟩ (fun i σ H' ⟨_,_,_,_,g,_⟩=>hT.go g) ?_ ?_
  ·rintro i x v σ H3 hi ⟨p,rfl,hp⟩ ⟨v3,v4,v5,rfl,g,hl⟩
   have hxt:x∈t:=List.mem_reverse.mp (List.mem_of_getElem? hi)
   have hsn:=PR.rN s r (x.1,x.2.1) ((t.reverse.take i).map fun x=>(x.1,x.2.1)) []
   have zj:=Bw s r ((t.reverse.take i).map fun x=>(x.1,x.2.1))
   rw[show(t.reverse.take i).map (fun x=>(x.1,x.2.1))++[(x.1,x.2.1)]=(t.reverse.take (i+1)).map (fun x=>(x.1,x.2.1))by rw[take_snoc hi,List.map_append];rfl]at hsn
   have hlt2:∀w∈PR.takes s r ((t.reverse.take i).map fun x=>(x.1,x.2.1)) [],w<size s:=fun w hw=>by
    obtain⟨y,hy,rfl⟩:=List.mem_map.mp (zj.2 w hw)
    obtain⟨z,hz,rfl⟩:=List.mem_map.mp hy
    exact hlt z (List.mem_reverse.mp (List.mem_of_mem_take hz))
   have acv:(PR.takes s r ((t.reverse.take i).map fun x=>(x.1,x.2.1)) []).length≤40:=by
    have:=zj.1
    rw[List.length_map,List.length_take,List.length_reverse]at this
    omega
   generalize PR.takes s r ((t.reverse.take i).map fun x=>(x.1,x.2.1)) []=tk at hl hsn hlt2 acv
   ac_nf
   refine⟨p,_,rfl,mF.of hp,rfl,_,_,rfl,_,_,rfl,_,_,rfl,rfl,bO ?_⟩
   ac_nf
   refine⟨_,rfl,S,rfl,⟨_,bC.of hl⟩,fun D hD=>?_⟩
   refine bU (L:=L) (xs:=tk) (fun _=>true) (fun w=>V.bl (decide (x.2.1∈PR.around s r w))) hD bx (fun H4 g=>bC.of (g.lst hl)) (by rw[sizeLine_eq];omega) (fun u y H4 hu g4 e Qn Qy hn hy=>?_) (fun H4 g4 lX=>?_)
   ·subst e
    ac_nf
    obtain⟨b,b1,b2,b3⟩:=((hA.go g).go g4).at (hlt2 u hu)
    refine⟨rfl,aQ ⟨_,rfl,_,rfl,_,rfl,bj (g4.lst (g.lst hA.lst)) rfl b2 ⟨b,_,rfl,.inl (bC.of b3),rfl,HY _,?_⟩⟩⟩
    have:=hy rfl H4 (Go.refl _ _)
    rw[←MT]at this
    exact this
   ·rw[bG]at lX
    refine⟨D,tk.map fun w=>decide (x.2.1∈PR.around s r w),rfl,bC.of (by rw[List.map_map];exact lX),_,rfl,?_⟩
    rw[List.any_map]
    have htk:PR.takes s r [(x.1,x.2.1)] tk=if (tk.any fun w=>decide (x.2.1∈PR.around s r w))=true then tk else tk++[x.1]:=by
     unfold PR.takes;split<;>rfl
    rw[htk]at hsn
    cases hany:tk.any (id∘fun w=>decide (x.2.1∈PR.around s r w))with
    |true=>
     rw[if_pos (show tk.any (fun w=>decide (x.2.1∈PR.around s r w))=true from hany)]at hsn
     exact bu ⟨_,_,_,rfl,g.trans g4,by rw[hsn];exact g4.lst hl⟩
    |false=>
     rw[if_neg (by rw[show tk.any (fun w=>decide (x.2.1∈PR.around s r w))=false from hany];decide)]at hsn
     refine aQ ⟨_,rfl,.inl ⟨rfl,_,bC.of (g4.lst hl)⟩,_,rfl,S,_,_,rfl,rfl,g4.lst hl,by rw[List.length_map,sizeLine_eq];omega,?_⟩
     exact⟨_,_,_,rfl,(g.trans g4).put hS (g4.lst hl),by rw[ao,hsn,List.map_append];rfl⟩
  ·rintro σ H3 ⟨v3,v4,v5,rfl,g,hl⟩
   rw[List.take_length,←O6,dR]at hl
   have zj:=Bw s r (PR.fZ t).reverse
   rw[List.length_reverse]at zj
   unfold PR.fZ at zj
   rw[List.length_map]at zj
   refine⟨_,rfl,S,_,rfl,bC.of hl,by rw[List.length_map];unfold PR.fZ;omega,fun out p h1 h2 hp=>?_⟩
   exact k _ p out (g.trans (Go.laid hp)) h1 h2 ao
def uB(s:State):V:=if forest s (distances s)=false then .int (-8)else if (blind s (distances s) s.reach).isEmpty=false then .int (-7)else .non
def gG(_:Bs)(L:List aG)(C:Addr):Sp:=fun vs H Q _=>∃(m:Ad) (s:State),vs=[.ref m.p]∧aR L C H m s∧∀H',Go L H H'→Q (uB s) H'
theorem rQ:aJ ["roadmap"] ["roadmap"] (au (top 50)):=by symm_saturate
theorem sE{B:Bs}{L:List aG}{C c:Addr}(T:Txt B C)(F:bJ B "refusal_of_plan" (top 50) ["roadmap"])(cV:Mt B C 8 "blind_places" ["self"] (ie B L C)):Df B 10 "refusal_of_plan" ["roadmap"] (gG B L C):=by
 exists rQ
 ·obtain⟨_,_,rfl,_⟩:=h
  rfl
 ·obtain⟨m,s,rfl,M,k⟩:=h
  refine⟨_,(ak (bB (cz (aV ⋯ (pv 0) (by rfl))) (aq (az (cD T.eG))) aK)
   (ak (bB (aO uG (aY (bA ⋯) rfl T.gn PySem.boot_len (aa (iz (pv 0) ⋯ T.cl cV ∅) aj)) aA (by exact aX _)) (aq (az (cD T.gO))) aK)
   (aq (az dw)))),?_⟩
  ac_nf
  unfold uB at k
  refine zu T M rfl ⟨_,rfl,?_⟩
  unfold PM.round
  cases hf:forest s (distances s)with
  |false=>
   rw[hf,if_pos rfl]at k
   exact aQ (k H (Go.refl _ _))
  |true=>
   rw[hf,if_neg (by decide)]at k
   refine bu (cP M rfl (by decide+kernel) ⟨m,s,rfl,M,fun H1 p g1 hl=>⟨p,_,rfl,.inl (bC.of hl),_,_,rfl,rfl,_,rfl,?_⟩⟩)
   rw[List.length_map]
   cases hb:blind s (distances s) s.reach with
   |nil=>
    rw[hb]at k
    exact k H1 g1
   |cons x l=>
    rw[hb]at k
    rw[decide_eq_true (by rw[List.length_cons];omega:(0:Int)< ((x::l).length:Int))]
    exact aQ (k H1 g1)
theorem Hz(s:State):s.places.map (fun p=>V.int p.need)=(List.range (size s)).map fun v=>V.int (needOf s v):=by
 conv=>lhs;rw[mY s]
 rw[List.map_map];rfl
theorem mq{s:State}:(order s (distances s)).length≤size s:=by rw[(PR.kE s (distances s)).length_eq];exact my s
theorem wN{s:State}{r:Int}{u:Nat}(h:posts s (distances s) r u≠[]):PR.around s r u≠[]:=fun z=>h (by
 have:=(PR.dZ s r u).length_eq
 rw[z]at this
 exact List.length_eq_zero_iff.mp this.symm)
def GP(_:Bs)(L:List aG)(C:Addr):Sp:=fun vs H Q _=>∃(m:Ad) (s:State),vs=[.ref m.p]∧aR L C H m s∧Gives L H Q (step s [[10]]).2
theorem Q5:aJ ["roadmap","refused","around","short","posts","standing","v"] ["roadmap"] (au (top 48)):=by symm_saturate
theorem RD{B:Bs}{L:List aG}{C c:Addr}(T:Txt B C)(F:bJ B "least" (top 48) ["roadmap"])(cN:Df B 10 "refusal_of_plan" ["roadmap"] (gG B L C))(cB:Df B 8 "posts_around" ["roadmap","reach"] (gr B L C))(gU:Df B 2 "put_posts" ["places","needs","around"] (mQ B L C))(bD:Mt B C 8 "deepest_first" ["self"] (cY B L C))(pL:Df B 2 "posts_put" ["short","size"] (uq B L C))(cC:Df B 2 "listed_pairs" ["pairs"] (gC B L C))(di:Df B 2 "listed" ["numbers"] (jT B L C))(nD:Df B 2 "witness_of" ["short","around"] (qO B L C)):Df B 12 "least" ["roadmap"] (GP B L C):=by
 exists Q5
 ·obtain⟨_,_,rfl,_⟩:=h
  rfl
 ·obtain⟨m,s,rfl,M,k⟩:=h
  refine⟨_,(ak (a_ (i:=1) nd rfl (Or.inl rfl) (aZ cN ⋯ ∅ (aa (pv 0) aj)))
   (ak (bB (aO iB (pv 1) dw (by exact aX _)) (aq (az (aN (aa (pv 1) aj)))) aK)
   (ak (a_ (i:=2) nd rfl (Or.inl rfl) (aZ cB ⋯ ∅ (aa (pv 0) (aa (aV ⋯ (pv 0) (by rfl)) aj))))
   (ak (a_ (i:=3) nd rfl (Or.inl rfl) (aZ gU ⋯ ∅ (aa (iz (pv 0) ⋯ T.cl bD ∅) (aa (aV ⋯ (pv 0) (by rfl)) (aa (pv 2) aj)))))
   (ak (a_ (i:=4) nd rfl (Or.inr rfl) (aZ pL ⋯ ∅ (aa (pv 3) (aa (aV ⋯ (pv 0) (by rfl)) aj))))
   (ak (gm rfl nd (i:=5) rfl rfl rfl (dN rfl T.d_ (aa (aV ⋯ (pv 0) (by rfl)) aj)) (bh (own:=[("v",6)]) (by kernel_rfl)) (fun _ _ _ _ _=>(aH (i:=6) nd rfl (Or.inl rfl))) (fun _ _ _ _ _=>(fc (aO uG (bc (aD ⋯) (pv 4) (pv 6) (by intro _ _;rfl)) aA (by exact aX _)))) (fun _ _ _ _ _=>(kj (aa (pv 6) (aa (bc (aD ⋯) (pv 4) (pv 6) (by intro _ _;rfl)) aj)))))
   (aq (az (cH o5 (cH o5 (aN (aa (aY (lR ⋯ rfl) rfl T.rD pP (aa (pv 4) aj)) aj)) (aZ cC ⋯ ∅ (aa (pv 5) aj))) (aZ di ⋯ ∅ (aa (aZ nD ⋯ ∅ (aa (pv 3) (aa (pv 2) aj))) aj))))))))))),?_⟩
  ac_nf
  rw[PR.JG]at k
  unfold ifTree at k
  refine⟨_,rfl,m,s,rfl,M,fun H1 g1=>⟨_,rfl,rfl,_,rfl,?_⟩⟩
  cases hf:forest s (distances s)with
  |false=>
   rw[hf,if_pos rfl]at k
   rw[show uB s=V.int (-8)from by unfold uB;rw[hf];rfl]
   exact aQ ⟨_,rfl,by show 1≤sizeLine;decide,fun p hp=>k _ p (g1.trans (Go.laid hp)) ao⟩
  |true=>
   rw[hf,if_neg (by decide)]at k
   cases hb:(blind s (distances s) s.reach).isEmpty with
   |false=>
    rw[hb,if_pos rfl]at k
    rw[show uB s=V.int (-7)from by unfold uB;rw[hf,hb];rfl]
    exact aQ ⟨_,rfl,by show 1≤sizeLine;decide,fun p hp=>k _ p (g1.trans (Go.laid hp)) ao⟩
   |true=>
    rw[hb,if_neg (by decide)]at k
    rw[show uB s=V.non from by unfold uB;rw[hf,hb];rfl]
    have M1:=M.go g1
    have hn:=M.wf.hi
    refine bu ⟨_,rfl,vm T M1 rfl ⟨m,s,s.reach,rfl,M1,fun H2 q rs g2 A2=>?_⟩⟩
    have M2:=M1.go g2
    have ol:=mq (s:=s)
    refine cP M2 rfl (by decide+kernel) ⟨m,s,rfl,M2,fun H3 p g3 hl3=>?_⟩
    have M3:=M2.go g3
    refine gq T M3 rfl ⟨_,rfl,s,s.reach,needOf s,order s (distances s),p,m.an,q,rs,rfl,hl3,by rw[←Hz];exact M3.needs,A2.go g3,fun v hv=>⟨(PR.dU.mp hv).1,wN (PR.jl hb hv)⟩,hn,by omega,fun H4 S g4 T4=>?_⟩
    have A4:=(A2.go g3).go g4
    have M4:=M3.go g4
    have Z8:=PR.pF (need:=needOf s) (l:=order s (distances s)) (t:=[]) (⟨fun q hq=>by cases hq⟩:PR.jR s s.reach [])
    have hle:=PR.yZ s s.reach (needOf s)
    have htn:=PR.GC s s.reach (needOf s)
    have tl:=M_ (s:=s) (r:=s.reach) (vD:=needOf s) (order s (distances s))
    have O6:∀x∈PR.ju s s.reach (needOf s) (order s (distances s)) [],x.1<size s:=fun x hx=>by
     obtain⟨k',h1,h2⟩:=PR.lO (s:=s) (r:=s.reach) (need:=needOf s) (l:=order s (distances s)) (t:=[])
     have:x.1∈(PR.ju s s.reach (needOf s) (order s (distances s)) []).map (·.1):=List.mem_map.mpr ⟨x,hx,rfl⟩
     rw[h2]at this
     exact(PR.dU.mp (h1.subset this)).1
    dsimp only at k
    rw[hle]at k
    generalize PR.ju s s.reach (needOf s) (order s (distances s)) []=t at T4 Z8 hle htn tl O6 k
    dsimp only at k
    refine⟨_,rfl,fW T M4 rfl ⟨S,t,size s,rfl,T4,fun x hx=>(Z8.ok x hx).1.1,hn,fun H5 P g5 hP=>bO ?_⟩⟩
    ac_nf
    have M5:=M4.go g5
    obtain⟨z1,z2,z3⟩:=d7 M
    refine fW T M5 rfl ⟨_,rfl,z1,z2,fun D hD=>?_⟩
    refine Ep (L:=L) (xs:=List.range (size s)) (fun v=>decide (0<PR.cnt (PR.aL t) v)) (fun v=>Ho ((v:Int),(PR.cnt (PR.aL t) v:Int))) hD cJ (fun _ _=>trivial) z3 (fun v y H6 hv g6 e Qn Qy hn hy=>?_) (fun H6 g6 T6=>?_)
    ·subst e
     ac_nf
     have hv:=List.mem_range.mp hv
     refine⟨rfl,_,rfl,_,rfl,bj (g6.lst hP) rfl (nM _ hv) ⟨_,_,rfl,rfl,_,rfl,vZ (fun hb=>?_) (fun hb=>?_)⟩⟩
     ·refine⟨_,rfl,_,rfl,_,rfl,bj (g6.lst hP) rfl (nM _ hv) ⟨by show 2≤sizeLine;decide,fun tt htt=>?_⟩⟩
      exact hy (decide_eq_true (by have:=of_decide_eq_true hb;omega)) tt _ (Go.laid htt) ao
     ·exact hn (decide_eq_false fun z=>hb (decide_eq_true (by omega))) H6 (Go.refl _ _)
    ·have g06:Go L H H6:=((((g1.trans g2).trans g3).trans g4).trans g5).trans g6
     have hP6:=g6.lst hP
     have el:((List.range (size s)).filter fun v=>decide (0<PR.cnt (PR.aL t) v)).length≤size s:=PR.bH _ _
     refine⟨_,rfl,P,(List.range (size s)).map fun u=>(PR.cnt (PR.aL t) u:Int),rfl,bC.of (by rw[List.map_map];exact hP6),by show 1≤sizeLine;decide,fun b hb=>?_⟩
     have g7:Go L H6 (upd H6 b (.lst [.int ((List.range (size s)).map fun u=>(PR.cnt (PR.aL t) u:Int)).sum])):=Go.laid hb
     refine⟨_,rfl,D,((List.range (size s)).filter fun v=>decide (0<PR.cnt (PR.aL t) v)).map fun v:Nat=>((v:Int),(PR.cnt (PR.aL t) v:Int)),rfl,by rw[List.map_map];exact T6.go g7,by rw[List.length_map];omega,fun H8 p8 g8 h8=>?_⟩
     have hb8:=g8.lst (show(upd H6 b (.lst [.int ((List.range (size s)).map fun u=>(PR.cnt (PR.aL t) u:Int)).sum])) b=_ from ao)
     refine⟨b,p8,_,_,rfl,rfl,hb8,h8,?_,fun c hc=>?_⟩
     ·simp only[List.length_map,List.length_cons,List.length_nil,qe,sizeLine_eq]
      omega
     have g9:Go L H8 (upd H8 c (.lst ([.int ((List.range (size s)).map fun u=>(PR.cnt (PR.aL t) u:Int)).sum]++((((((List.range (size s)).filter fun v=>decide (0<PR.cnt (PR.aL t) v)).map fun v:Nat=>((v:Int),(PR.cnt (PR.aL t) v:Int))).length:Int)::xf (((List.range (size s)).filter fun v=>decide (0<PR.cnt (PR.aL t) v)).map fun v:Nat=>((v:Int),(PR.cnt (PR.aL t) v:Int)))).map V.int)))):=Go.laid hc
     have g49:=(((g5.trans g6).trans g7).trans g8).trans g9
     refine⟨_,rfl,_,rfl,s,s.reach,S,q,rs,t,rfl,T4.go g49,A4.go g49,O6,by omega,hn,fun H10 p10 out Zo hp1 hp2 h10=>?_⟩
     have hout:=PR.qU (n:=size s) htn.1 htn.2 (fun v=>Iff.rfl) hp1 hp2
     subst hout
     refine⟨p10,_,rfl,h10,?_,fun H11 p11 g11 h11=>?_⟩
     ·have:(rising (size s) (PR.takes s s.reach (PR.fZ t).reverse [])).length≤size s:=PR.bH _ _
      rw[List.length_map];omega
     have acD:=(Zo.trans g11).lst (show(upd H8 c _) c=_ from ao)
     refine⟨c,p11,_,_,rfl,rfl,acD,h11,?_,fun d hd=>?_⟩
     ·have:(rising (size s) (PR.takes s s.reach (PR.fZ t).reverse [])).length≤size s:=PR.bH _ _
      simp only[List.length_append,List.length_map,List.length_cons,List.length_nil,qe,sizeLine_eq]
      omega
     refine k _ d ((((((g06.trans g7).trans g8).trans g9).trans Zo).trans g11).trans (Go.laid hd)) ?_
     rw[ao]
     congr 2
     unfold ans
     dsimp only
     rw[PR.oM,PR.pG]
     have e1:nat (((List.range (size s)).map (PR.cnt (PR.aL t))).sum)=((List.range (size s)).map fun u=>(PR.cnt (PR.aL t) u:Int)).sum:=(PR.ul _ _).symm
     rw[e1]
     unfold pairsOut Vbedaf.listed xf
     simp only[List.map_cons,List.map_append,List.flatMap_map,List.length_map,List.cons_append,List.nil_append,List.append_assoc]
     rfl
theorem p7{s:State}{r:Int}{f g:Nat→Nat}:∀ {l:List Nat} {t:PR.Short},(∀u∈l,f u=g u)→PR.ju s r f l t=PR.ju s r g l t
 | [],t,_=>rfl
 |u::l,t,h=>by
  unfold PR.ju
  rw[h u List.mem_cons_self]
  split
  ·exact p7 fun v hv=>h v (List.mem_cons_of_mem _ hv)
  ·split
   ·exact p7 fun v hv=>h v (List.mem_cons_of_mem _ hv)
   ·exact p7 fun v hv=>h v (List.mem_cons_of_mem _ hv)
theorem PL(s:State)(r:Int):((order s (distances s)).any fun v=>decide ((PR.around s r v).length=0))= !(blind s (distances s) r).isEmpty:=by
 rw[Bool.eq_iff_iff,List.any_eq_true]
 have hb:∀v,v∈blind s (distances s) r↔v∈order s (distances s)∧posts s (distances s) r v=[]:=fun v=>by
  rw[PR.dU]
  unfold blind
  simp [List.mem_filter,List.isEmpty_iff,and_assoc]
 have ha:∀v,(PR.around s r v).length=0↔posts s (distances s) r v=[]:=fun v=>by
  rw[(PR.dZ s r v).length_eq,List.length_eq_zero_iff]
 constructor
 ·rintro⟨v,h1,h2⟩
  have:v∈blind s (distances s) r:=(hb v).mpr ⟨h1,(ha v).mp (of_decide_eq_true h2)⟩
  cases e:blind s (distances s) r with
  |nil=>rw[e]at this;cases this
  |cons _ _=>rfl
 ·intro h
  cases e:blind s (distances s) r with
  |nil=>rw[e]at h;cases h
  |cons v _=>
   obtain⟨h1,h2⟩:=(hb v).mp (by rw[e];exact List.mem_cons_self)
   exact⟨v,h1,decide_eq_true ((ha v).mpr h2)⟩
def jE(_:Bs)(L:List aG)(C:Addr):Sp:=fun vs H Q _=>∃(m:Ad) (s:State) (r:Int) (n:Nat),vs=[.ref m.p,.int r,.int n]∧aR L C H m s∧∀H',Go L H H'→Q (.bl (PR.jb s n r)) H'
theorem qD:aJ ["roadmap","reach","k","around","places","v"] ["roadmap","reach","k"] (au (top 75)):=by symm_saturate
theorem qH{B:Bs}{L:List aG}{C c:Addr}(T:Txt B C)(F:bJ B "do_posts_suffice" (top 75) ["roadmap","reach","k"])(cB:Df B 8 "posts_around" ["roadmap","reach"] (gr B L C))(bD:Mt B C 8 "deepest_first" ["self"] (cY B L C))(gU:Df B 2 "put_posts" ["places","needs","around"] (mQ B L C)):Df B 10 "do_posts_suffice" ["roadmap","reach","k"] (jE B L C):=by
 exists qD
 ·obtain⟨_,_,_,_,rfl,_⟩:=h
  rfl
 ·obtain⟨m,s,r,n,rfl,M,k⟩:=h
  refine⟨_,(ak (a_ (i:=3) nd rfl (Or.inr rfl) (aZ cB ⋯ ∅ (aa (pv 0) (aa (pv 1) aj))))
   (ak (a_ (i:=4) nd rfl (Or.inl rfl) (iz (pv 0) ⋯ T.cl bD ∅))
   (ak (bB (cz (aY (ql ⋯ rfl) rfl T.wZ wM (aa (dO rfl nd (aW ⋯ (pv 4)) (bh (own:=[("v",5)]) (by kernel_rfl)) (fun _ _ _ _ _=>(aH (i:=5) nd rfl (Or.inl rfl))) (fun _ _ _ _ _=>cu) (fun _ _ _ _ _=>(fO du (aY (bA ⋯) rfl T.gn PySem.boot_len (aa (bc (aD ⋯) (pv 3) (pv 5) (by intro _ _;rfl)) aj)) aA (by exact aX _)))) aj))) (aq (az Ml)) aK)
   (aq (az (fO fj (aY (bA ⋯) rfl T.gn PySem.boot_len (aa (aZ gU ⋯ ∅ (aa (pv 4) (aa (cH su (aN (aa aA aj)) (aV ⋯ (pv 0) (by rfl))) (aa (pv 3) aj)))) aj)) (pv 2) (by exact aX _))))))),?_⟩
  ac_nf
  have hn:=M.wf.hi
  have ol:=mq (s:=s)
  refine⟨_,rfl,_,rfl,m,s,r,rfl,M,fun H1 q rs g1 A1=>?_⟩
  have M1:=M.go g1
  refine cP M1 rfl (by decide+kernel) ⟨m,s,rfl,M1,fun H2 p g2 hl2=>bO ?_⟩
  have M2:=M1.go g2
  have A2:=A1.go g2
  ac_nf
  refine⟨_,rfl,p,rfl,⟨_,bC.of hl2⟩,fun D hD=>?_⟩
  refine bU (L:=L) (xs:=order s (distances s)) (fun _=>true) (fun v=>V.bl (decide ((PR.around s r v).length=0))) hD bx (fun H4 g=>bC.of (g.lst hl2)) (by rw[sizeLine_eq];omega) (fun u y H4 hu g4 e Qn Qy hn hy=>?_) (fun H3 g3 hl3=>?_)
  ·subst e
   ac_nf
   obtain⟨b,b1,b2,b3⟩:=(A2.go g4).at (PR.dU.mp hu).1
   refine⟨rfl,aQ ⟨_,rfl,_,rfl,bj (g4.lst A2.lst) rfl b2 ⟨b,_,rfl,.inl (bC.of b3),rfl,?_⟩⟩⟩
   have:=hy rfl H4 (Go.refl _ _)
   have e:decide (V.int (((PR.around s r u).map dg).length:Int)=V.int 0)=decide ((PR.around s r u).length=0):=by
    rw[List.length_map,decide_eq_decide,V.int.injEq];omega
   rw[e];exact this
  ·rw[bG]at hl3
   refine⟨D,(order s (distances s)).map fun v=>decide ((PR.around s r v).length=0),rfl,bC.of (by rw[List.map_map];exact hl3),_,rfl,?_⟩
   rw[List.any_map]
   have ea:(order s (distances s)).any (id∘fun v=>decide ((PR.around s r v).length=0))= !(blind s (distances s) r).isEmpty:=PL s r
   rw[ea]
   have M3:=M2.go g3
   unfold PR.jb at k
   cases hb:(blind s (distances s) r).isEmpty with
   |false=>
    rw[hb]at k
    exact aQ (k H3 ((g1.trans g2).trans g3))
   |true=>
    rw[hb]at k
    refine bu ⟨_,rfl,by show 1≤sizeLine;decide,fun x1 hx1=>fW T (M3.go (Go.laid hx1)) rfl ⟨x1,_,_,rfl,rfl,ao,by omega,by omega,by rw[sizeLine_eq];show 1*_≤_;omega,fun b hb2=>⟨_,rfl,?_⟩⟩⟩
    have g4:Go L H3 (upd (upd H3 x1 (.lst [.int 1])) b (.lst (List.replicate (size s:Int).toNat [V.int 1]).flatten)):=(Go.laid hx1).trans (Go.laid hb2)
    refine⟨s,r,fun _=>1,order s (distances s),p,b,q,rs,rfl,(g3.trans g4).lst hl2,?_,A2.go (g3.trans g4),fun v hv=>⟨(PR.dU.mp hv).1,wN (PR.jl hb hv)⟩,hn,by omega,fun H5 S g5 T5=>?_⟩
    ·rw[ao,pZ]
     congr 2
     refine List.ext_getElem (by simp) fun i h1 h2=>?_
     simp
    ·rw[p7 (g:=one s) (fun u hu=>(PR.vU hu).symm)]at T5
     obtain⟨as,h1,h2,_⟩:=T5.ex
     refine⟨S,_,rfl,.inl (bC.of h1),_,rfl,_,_,rfl,rfl,?_⟩
     rw[List.length_map,h2,List.length_map]
     have:=k H5 ((((g1.trans g2).trans g3).trans g4).trans g5)
     have e:decide (((PR.ju s r (one s) (order s (distances s)) []).length:Int)≤(n:Int))=(true&&decide ((PR.d8 s r).length≤n)):=by
      rw[Bool.true_and,decide_eq_decide];exact Int.ofNat_le
     rw[e];exact this
theorem xZ:∀(r:Vbedaf.Row),(r.filter fun o=>o.isSome).map oV=(r.filterMap id).map V.int
 | []=>rfl
 |none::r=>by rw[List.filter_cons,if_neg (by decide),xZ r];rfl
 |some z::r=>by rw[List.filter_cons,if_pos (by rfl),List.map_cons,xZ r];rfl
def lZ(_:Bs)(L:List aG)(C:Addr):Sp:=fun vs H Q _=>∃(m:Ad) (s:State),vs=[.ref m.p]∧aR L C H m s∧Gives L H Q (lengths (distances s))
theorem Mr(s:State):∀l:List Nat,(l.flatMap fun i=>(PR.row s i).filterMap id).length≤l.length*size s
 | []=>by simp
 |i::l=>by
  rw[List.flatMap_cons,List.length_append,List.length_cons,Nat.add_mul]
  have:=Mr s l
  have h2:=List.length_filterMap_le id (PR.row s i)
  have h3:(PR.row s i).length=size s:=by unfold PR.row;simp
  omega
theorem vO:aJ ["roadmap","found","distances","far"] ["roadmap"] (au (top 74)):=by symm_saturate
theorem vV{B:Bs}{L:List aG}{C c:Addr}(T:Txt B C)(F:bJ B "all_distances" (top 74) ["roadmap"]):Df B 2 "all_distances" ["roadmap"] (lZ B L C):=by
 exists vO
 ·obtain⟨_,_,rfl,_⟩:=h
  rfl
 ·obtain⟨m,s,rfl,M,k⟩:=h
  refine⟨_,(ak (a_ (i:=1) nd rfl (Or.inl rfl) (aN aj))
   (ak (dH PassesOwn.never rfl (aW ⋯ (aV ⋯ (pv 0) (by rfl))) (aH (i:=2) nd rfl (Or.inl rfl))
   (aq (cQ (jK PySem.F.plainAttrs_list PySem.F.slot_list_extend PySem.F.type_list_extend jW (pv 1) (aa (dO rfl nd (aW ⋯ (pv 2)) (bh (own:=[("far",3)]) (by kernel_rfl)) (fun _ _ _ _ _=>(aH (i:=3) nd rfl (Or.inl rfl))) (fun _ _ _ _ _=>(fc (aO iB (pv 3) dw (by exact aX _)))) (fun _ _ _ _ _=>(pv 3))) aj)))))
   (aq (az (aY (FJ rfl) rfl T.jh qt (aa (vR (Ti rfl) rfl T.Mu Tp (aa (pv 1) aj)) aj)))))),?_⟩
  ac_nf
  have hn:=M.wf.hi
  refine⟨by show 0≤sizeLine;decide,fun q hq=>cM ?_⟩
  ac_nf
  have g1:Go L H (upd H q (.lst [])):=Go.laid hq
  have small:∀i,((((List.range (size s)).take i).flatMap fun i=>(PR.row s i).filterMap id).length)≤1600:=fun i=>by
   have h:=Mr s ((List.range (size s)).take i)
   have h2:((List.range (size s)).take i).length≤size s:=by rw[List.length_take,List.length_range];omega
   have h3:=Nat.mul_le_mul (Nat.le_trans h2 hn) hn
   omega
  refine nq T (M.go g1) rfl ⟨m.ad,rfl,⟨_,bC.of (M.go g1).table.dist⟩,?_⟩
  refine bZ (bx (xs:=m.rs) (f:=V.ref)) (fun i σ H'=>∃(v2:Option V),σ=[some (.ref m.p),some (.ref q),v2,none]∧Go L H H'∧H' q=some (.lst ((((List.range (size s)).take i).flatMap fun i=>(PR.row s i).filterMap id).map V.int)))
   ⟨_,rfl,g1,ao⟩ (fun i σ H' ⟨_,_,g,_⟩=>bC.of (M.go g).table.dist) ?_ ?_
  ·rintro i d v σ H3 hi rfl ⟨v2,rfl,g,hl⟩
   have hil:i<size s:=by rw[←M.table.len];exact(List.getElem?_eq_some_iff.mp hi).1
   have M3:=M.go g
   have hrow:=M3.table.rows i d hi
   have hrl:(PR.row s i).length=size s:=by unfold PR.row;simp
   ac_nf
   refine⟨_,rfl,.inl ⟨rfl,_,bC.of hl⟩,bO ?_⟩
   ac_nf
   refine⟨_,rfl,d,rfl,⟨_,bC.of hrow⟩,fun D hD=>?_⟩
   refine bU (L:=L) (xs:=PR.row s i) (fun o=>o.isSome) oV hD bx (fun H4 g=>bC.of (g.lst hrow)) (by rw[hrl,sizeLine_eq];omega) (fun x y H4 hx g4 e Qn Qy hn hy=>?_) (fun H4 g4 lX=>?_)
   ·subst e
    ac_nf
    cases x with
    |none=>exact⟨rfl,_,rfl,rfl,_,rfl,hn rfl H4 (Go.refl _ _)⟩
    |some z=>exact⟨rfl,_,rfl,rfl,_,rfl,aQ ⟨_,rfl,hy rfl H4 (Go.refl _ _)⟩⟩
   ·rw[xZ]at lX
    have sm:=small (i+1)
    have tk:(List.range (size s)).take (i+1)=(List.range (size s)).take i++[i]:=take_snoc (List.getElem?_range hil)
    rw[tk,List.flatMap_append,List.length_append]at sm
    refine⟨q,D,_,_,rfl,rfl,g4.lst hl,lX,?_,⟨_,rfl,(g.trans g4).put hq (g4.lst hl),?_⟩⟩
    ·rw[List.length_map,List.length_map,sizeLine_eq]
     simp only[List.flatMap_cons,List.flatMap_nil,List.append_nil]at sm
     omega
    ·rw[ao,tk,List.flatMap_append,List.map_append]
     simp
  ·rintro σ H3 ⟨v2,rfl,g,hl⟩
   have sm:=small (size s)
   rw[M.table.len]at hl
   rw[show(List.range (size s)).take (size s)=List.range (size s)from by rw[List.take_of_length_le (by simp)]]at hl sm
   have em:((List.range (size s)).flatMap fun i=>(PR.row s i).filterMap id)=PR.vB (distances s):=by
    unfold PR.vB
    rw[PR.pJ,List.flatMap_map]
   rw[em]at hl sm
   ac_nf
   refine⟨_,rfl,q,_,rfl,bC.of hl,by omega,fun D hD=>⟨D,_,rfl,ao,fun ns' p h1 h2 hp=>?_⟩⟩
   have e:=PR.yX (m:=distances s) h1 h2
   subst e
   exact k _ p ((g.trans (Go.laid hD)).trans (Go.laid hp)) ao
def nZ(_:Bs)(L:List aG)(C:Addr):Sp:=fun vs H Q _=>∃(m:Ad) (s:State) (n:Nat),vs=[.ref m.p,.int n]∧aR L C H m s∧forest s (distances s)=true∧∀H',Go L H H'→Q (oV (radius s (distances s) n)) H'
def gap(σ:List (Option V)):Nat:=match (σ[3]? :Option (Option V)),(σ[4]? :Option (Option V))with
 |some (some (V.int lo)),some (some (V.int hi))=>(hi - lo).toNat
 |_,_=>0
theorem xJ:aJ ["roadmap","k","radii","least_left","behind","middle"] ["roadmap","k"] (au (top 73)):=by symm_saturate
theorem xR{B:Bs}{L:List aG}{C c:Addr}(T:Txt B C)(F:bJ B "least_radius" (top 73) ["roadmap","k"])(jw:Df B 2 "all_distances" ["roadmap"] (lZ B L C))(gK:Df B 10 "do_posts_suffice" ["roadmap","reach","k"] (jE B L C)):Df B 12 "least_radius" ["roadmap","k"] (nZ B L C):=by
 exists xJ
 ·obtain⟨_,_,_,rfl,_⟩:=h
  rfl
 ·obtain⟨m,s,n,rfl,M,hf,k⟩:=h
  refine⟨_,(ak (a_ (i:=2) nd rfl (Or.inl rfl) (aZ jw ⋯ ∅ (aa (pv 0) aj)))
   (ak (a_ (i:=3) nd rfl (Or.inl rfl) aA)
   (ak (a_ (i:=4) nd rfl (Or.inl rfl) (aY (bA ⋯) rfl T.gn PySem.boot_len (aa (pv 2) aj)))
   (ak (Hi PassesOwn.never (aO Hq (pv 3) (pv 4) (by exact aX _))
   (ak (a_ (i:=5) nd rfl (Or.inl rfl) (cH Va (cH jt (pv 3) (pv 4)) aA))
    (aq (bB (cz (aZ gK ⋯ ∅ (aa (pv 0) (aa (bc (aD ⋯) (pv 2) (pv 5) (by intro _ _;rfl)) (aa (pv 1) aj))))) (aq (a_ (i:=4) nd rfl (Or.inl rfl) (pv 5))) (aq (a_ (i:=3) nd rfl (Or.inl rfl) (cH jt (pv 5) aA)))))))
   (ak (bB (aO du (pv 3) (aY (bA ⋯) rfl T.gn PySem.boot_len (aa (pv 2) aj)) (by exact aX _)) (aq (az dw)) aK)
   (aq (az (bc (aD ⋯) (pv 2) (pv 3) (by intro _ _;rfl))))))))),?_⟩
  ac_nf
  refine⟨_,rfl,m,s,rfl,M,fun H1 q g1 hl=>⟨_,rfl,q,_,rfl,.inl (bC.of hl),?_⟩⟩
  rw[List.length_map]
  have srt:=PR.pq (distances s)
  have mono:∀a b,a∈lengths (distances s)→b∈lengths (distances s)→a≤b→PR.jb s n a=true→PR.jb s n b=true:=fun a b _ _ h1 h2=>PR.Dj M.wf hf h1 h2
  rw[PR.Oc]at k
  refine Gp (fun σ H'=>∃(lo hi:Nat) (v5:Option V),σ=[some (.ref m.p),some (.int n),some (.ref q),some (.int lo),some (.int hi),v5]∧Go L H1 H'∧PR.P_ (PR.jb s n) (lengths (distances s)) lo hi) (fun σ _=>gap σ)
   ⟨0,(lengths (distances s)).length,_,rfl,Go.refl _ _,PR.P_.start _ _⟩ ?_ ?_
  ·rintro σ H' ⟨lo,hi,v5,rfl,g,B0⟩
   ac_nf
   refine⟨_,rfl,_,rfl,_,_,rfl,rfl,_,rfl,vZ (fun hb=>?_) (fun hb=>?_)⟩
   ·have hlt:lo<hi:=by have:=of_decide_eq_true hb;omega
    have em:((lo:Int)+(hi:Int)) / 2=(((lo+hi) / 2:Nat):Int):=by omega
    have hmid:(lo+hi) / 2< (lengths (distances s)).length:=by have:=B0.len;omega
    refine⟨_,rfl,_,rfl,_,_,rfl,rfl,_,_,rfl,rfl,⟨by decide,by decide⟩,?_⟩
    rw[em]
    have hx:(lengths (distances s))[(lo+hi) / 2]? =some (lengths (distances s))[(lo+hi) / 2]:=List.getElem?_eq_getElem hmid
    refine⟨_,rfl,_,rfl,_,rfl,bj (g.lst hl) rfl (by rw[List.getElem?_map,hx];rfl) ⟨_,rfl,m,s,(lengths (distances s))[(lo+hi) / 2],n,rfl,M.go (g1.trans g),fun H2 g2=>⟨_,rfl,?_⟩⟩⟩
    cases hs:PR.jb s n (lengths (distances s))[(lo+hi) / 2]with
    |true=>
     refine aQ ⟨_,rfl,⟨lo,(lo+hi) / 2,_,rfl,g.trans g2,B0.yes srt mono (by omega) (by omega) hx hs⟩,?_⟩
     show((((lo+hi) / 2:Nat):Int) - (lo:Int)).toNat< ((hi:Int) - (lo:Int)).toNat
     omega
    |false=>
     refine bu ⟨_,rfl,_,_,rfl,rfl,⟨(lo+hi) / 2+1,hi,_,rfl,g.trans g2,B0.no srt mono (by omega) hx hs⟩,?_⟩
     show((hi:Int) - ((((lo+hi) / 2:Nat):Int)+1)).toNat< ((hi:Int) - (lo:Int)).toNat
     omega
   ·have hle:=B0.le
    have heq:lo=hi:=by
     have:¬(lo:Int)< (hi:Int):=fun z=>hb (decide_eq_true z)
     omega
    subst heq
    have hd:=B0.done
    rw[hd]at k
    refine⟨_,rfl,_,rfl,q,_,rfl,.inl (bC.of (g.lst hl)),rfl,_,rfl,?_⟩
    rw[List.length_map]
    have hlen:=B0.len
    by_cases he:lo=(lengths (distances s)).length
    ·rw[decide_eq_true (by rw[he]:V.int (lo:Int)=V.int ((lengths (distances s)).length:Int))]
     rw[List.getElem?_eq_none (by omega)]at k
     exact aQ (k H' (g1.trans g))
    ·rw[decide_eq_false (fun z=>he (by injection z with z;omega):¬V.int (lo:Int)=V.int ((lengths (distances s)).length:Int))]
     rw[List.getElem?_eq_getElem (by omega)]at k
     exact bu ⟨_,rfl,_,rfl,bj (g.lst hl) rfl (by rw[List.getElem?_map,List.getElem?_eq_getElem (by omega:lo< (lengths (distances s)).length)];rfl) (k H' (g1.trans g))⟩
  ·rintro σ H' Q1 Q2 h ⟨v,e1,w,e2,i,j,rfl,rfl,c,e3,q⟩
   exact⟨_,e1,_,e2,i,j,rfl,rfl,c,e3,h _ _ q⟩
def BK(_:Bs)(L:List aG)(C:Addr):Sp:=fun vs H Q _=>∃(m:Ad) (s:State) (n:Int),vs=[.ref m.p,.int n]∧aR L C H m s∧Gives L H Q (step s [[16,n]]).2
theorem N7:aJ ["roadmap","k"] ["roadmap","k"] (au (top 72)):=by symm_saturate
theorem Oo{B:Bs}{L:List aG}{C c:Addr}(T:Txt B C)(F:bJ B "radius" (top 72) ["roadmap","k"])(cU:Df B 2 "maybe_a_number" ["number"] (h_ B L C))(lg:Df B 12 "least_radius" ["roadmap","k"] (nZ B L C)):Df B 14 "radius" ["roadmap","k"] (BK B L C):=by
 exists N7
 ·obtain⟨_,_,_,rfl,_⟩:=h
  rfl
 ·obtain⟨m,s,n,rfl,M,k⟩:=h
  refine⟨_,(ak (bB (d9 (iy fj fj aA (pv 1) (cD T.iH))) (aq (az (aN (aa (cD T.bM) aj)))) aK)
   (ak (bB (cz (aV ⋯ (pv 0) (by rfl))) (aq (az (aN (aa (cD T.eG) aj)))) aK)
   (aq (az (aZ cU ⋯ ∅ (aa (aZ lg ⋯ ∅ (aa (pv 0) (aa (pv 1) aj))) aj)))))),?_⟩
  ac_nf
  rw[PR.Jy]at k
  have bad:¬(0≤n∧n≤40)→[V.int (-1)].length≤sizeLine∧∀p,H p=none→Q (.ref p) (upd H p (.lst [.int (-1)])):=fun h=>by
   rw[if_pos (by rw[Bool.eq_false_iff,ne_eq,PR.b_];exact h)]at k
   exact⟨by show 1≤sizeLine;decide,fun p hp=>k _ p (Go.laid hp) ao⟩
  refine⟨_,rfl,_,_,rfl,rfl,_,rfl,?_⟩
  by_cases h0:0≤n
  ·rw[decide_eq_true h0]
   refine aQ ⟨_,_,rfl,rfl,_,rfl,?_⟩
   by_cases h1:n≤40
   ·rw[decide_eq_true h1]
    rw[if_neg (by rw[PR.b_.mpr ⟨h0,h1⟩];decide)]at k
    refine bu (zu T M rfl ⟨_,rfl,?_⟩)
    unfold PM.round
    cases hf:forest s (distances s)with
    |false=>
     rw[hf,if_pos rfl]at k
     exact aQ ⟨by show 1≤sizeLine;decide,fun p hp=>k _ p (Go.laid hp) ao⟩
    |true=>
     rw[hf,if_neg (by decide)]at k
     obtain⟨w,rfl⟩:∃w:Nat,n=w:=⟨n.toNat,by omega⟩
     exact bu ⟨_,rfl,_,rfl,m,s,w,rfl,M,hf,fun H1 g1=>⟨_,rfl,fun H2 p g2 h2=>k H2 p (g1.trans g2) h2⟩⟩
   ·rw[decide_eq_false h1]
    exact aQ (bad fun z=>h1 z.2)
  ·rw[decide_eq_false h0]
   exact bu ⟨_,rfl,aQ (bad fun z=>h0 z.1)⟩
def rP(_:Bs)(L:List aG)(_:Addr):Sp:=fun vs H Q _=>∃(a:Addr) (l:List Nat),vs=[.ref a]∧H a=some (.lst (l.map dg))∧(∀v∈l,v≤1000)∧l.length≤1000∧∀H',Go L H H'→Q (.int (l.map fun v=>(1:Int)*2 ^ v).sum) H'
theorem JP:aJ ["places","v"] ["places"] (au (top 69)):=by symm_saturate
theorem J7{B:Bs}{L:List aG}{C c:Addr}(T:Txt B C)(F:bJ B "as_bits" (top 69) ["places"]):Df B 2 "as_bits" ["places"] (rP B L C):=by
 exists JP
 ·obtain⟨_,_,rfl,_⟩:=h
  rfl
 ·obtain⟨a,l,rfl,ha,hv,hz,k⟩:=h
  refine⟨_,(aq (az (aY (lR ⋯ rfl) rfl T.rD pP (aa (dO rfl nd (aW ⋯ (pv 0)) (bh (own:=[("v",1)]) (by kernel_rfl)) (fun _ _ _ _ _=>(aH (i:=1) nd rfl (Or.inl rfl))) (fun _ _ _ _ _=>cu) (fun _ _ _ _ _=>(cH XX aA (pv 1)))) aj)))),?_⟩
  ac_nf
  refine bO ?_
  ac_nf
  refine⟨_,rfl,a,rfl,⟨_,bC.of ha⟩,fun D hD=>?_⟩
  refine bU (L:=L) (xs:=l) (fun _=>true) (fun v=>V.int ((1:Int)*2 ^ v)) hD bx (fun H' g=>bC.of (g.lst ha)) (by rw[sizeLine_eq];omega) (fun x y H' hx g e Qn Qy hn hy=>?_) (fun H' g hl=>?_)
  ·subst e
   ac_nf
   refine⟨rfl,aQ ⟨_,rfl,_,_,rfl,rfl,⟨by omega,by have:=hv x hx;omega,by decide⟩,?_⟩⟩
   exact hy rfl H' (Go.refl _ _)
  ·rw[bG]at hl
   exact⟨D,_,rfl,bC.of (by rw[List.map_map];exact hl),k H' g⟩
def uo(_:Bs)(L:List aG)(C:Addr):Sp:=fun vs H Q _=>∃(m:Ad) (s:State) (p:Nat),vs=[.ref m.p,.int p]∧aR L C H m s∧p<size s∧∀H',Go L H H'→Q (.int (PR.mask (fun v=>inReach (distances s) s.reach p v) (size s))) H'
theorem Dr:aJ ["roadmap","post","v"] ["roadmap","post"] (au (top 70)):=by symm_saturate
theorem Eb{B:Bs}{L:List aG}{C c:Addr}(T:Txt B C)(F:bJ B "seen_from" (top 70) ["roadmap","post"])(jY:Df B 2 "as_bits" ["places"] (rP B L C))(bL:Mt B C 4 "in_reach" ["self","post","v"] (eX B L C)):Df B 6 "seen_from" ["roadmap","post"] (uo B L C):=by
 exists Dr
 ·obtain⟨_,_,_,rfl,_⟩:=h
  rfl
 ·obtain⟨m,s,p,rfl,M,hp,k⟩:=h
  refine⟨_,(aq (az (aZ jY ⋯ ∅ (aa (dO rfl nd (dN rfl T.d_ (aa (aV ⋯ (pv 0) (by rfl)) aj)) (bh (own:=[("v",2)]) (by kernel_rfl)) (fun _ _ _ _ _=>(aH (i:=2) nd rfl (Or.inl rfl))) (fun _ _ _ _ _=>(fc (cz (gQ (pv 0) ⋯ T.cl bL ∅ (aa (pv 1) (aa (pv 2) aj)))))) (fun _ _ _ _ _=>(pv 2))) aj)))),?_⟩
  obtain⟨z1,z2,z3⟩:=d7 M
  have hn:=M.wf.hi
  ac_nf
  refine bO ?_
  ac_nf
  refine fW T M rfl ⟨_,rfl,z1,z2,fun D hD=>?_⟩
  refine bU (L:=L) (xs:=List.range (size s)) (fun v=>inReach (distances s) s.reach p v) dg hD cJ (fun _ _=>trivial) z3 (fun v y H' hv g e Qn Qy hn hy=>?_) (fun H' g hl=>?_)
  ·subst e
   ac_nf
   refine⟨rfl,cP (M.go g) rfl (by decide+kernel) ⟨_,rfl,_,rfl,m,s,p,v,rfl,M.go g,hp,List.mem_range.mp hv,_,rfl,?_⟩⟩
   cases e:inReach (distances s) s.reach p v with
   |false=>exact hn e H' (Go.refl _ _)
   |true=>exact aQ ⟨_,rfl,hy e H' (Go.refl _ _)⟩
  ·have hlen:((List.range (size s)).filter fun v=>inReach (distances s) s.reach p v).length≤size s:=PR.bH _ _
   refine⟨D,_,rfl,hl,fun v hv=>?_,by omega,fun H2 g2=>?_⟩
   ·have:=List.mem_range.mp (List.mem_filter.mp hv).1
    omega
   ·rw[PR.HF]
    exact k H2 (g.trans g2)
def SJ(H:Hp)(v:V):Option (List Nat)→Prop
 |none=>v= .non
 |some l=>∃p,v= .ref p∧H p=some (.lst (l.map dg))
def JH(c:Nat)(_:Bs)(L:List aG)(_:Addr):Sp:=fun vs H Q _=>∃(n:Nat) (S:List (Nat→Bool)) (a:Addr) (st:Nat) (W:Nat→Bool),vs=[.ref a,.int st,.int (PR.mask W n),.int c]∧H a=some (.lst (S.map fun p=>V.int (PR.mask p n)))∧S.length≤40∧st≤100∧
 ∀(H':Hp) (v:V),Go L H H'→SJ H' v (PR.yd n S c st W)→Q v H'
def lF(B:Bs)(L:List aG)(C:Addr):Sp:=fun vs H Q E=>∃c,c≤3∧JH c B L C vs H Q E
theorem iw:aJ ["seen","start","wanted","count","at","rest"] ["seen","start","wanted","count"] (au (top 71)):=by symm_saturate
theorem nu{α β:Type}{f:α→Option β}{y:β}:∀ {l:List α} {i:Nat} {x:α},l[i]? =some x→f x=some y→(∀(j:Nat) (z:α),j<i→l[j]? =some z→f z=none)→l.findSome? f=some y
 | [],i,x,h,_,_=>by simp at h
 |a::l,0,x,h,h1,_=>by
  have:a=x:=by simpa using h
  subst this
  rw[List.findSome?_cons,h1]
 |a::l,i+1,x,h,h1,h2=>by
  have:=h2 0 a (Nat.succ_pos _) rfl
  rw[List.findSome?_cons,this]
  exact nu (i:=i) (by simpa using h) h1 fun j y hj hy=>h2 (j+1) y (by omega) (by simpa using hy)
theorem rH{α β:Type}{f:α→Option β}{l:List α}(h2:∀(j:Nat) (y:α),j<l.length→l[j]? =some y→f y=none):l.findSome? f=none:=by
 rw[List.findSome?_eq_none_iff]
 intro y hy
 obtain⟨j,hj⟩:=List.getElem?_of_mem hy
 exact h2 j y (List.getElem?_eq_some_iff.mp hj).1 hj
section
variable{B:Bs}{L:List aG}{C:Addr}
theorem VM(T:Txt B C)(F:bJ B "first_that_see" (top 71) ["seen","start","wanted","count"]):∃f fd,B.mg "first_that_see"=some (.ref f)∧PySem.W.keepIn B.K (.ref f)=true∧Binds B.K fd ["seen","start","wanted","count"] []∧∀c:Nat,tX B.P B.w B.K B.mg B.base TQ (2*c+2) f fd ["seen","start","wanted","count"] (JH c B L C):=by
 obtain⟨f,fd,F,h1,h2⟩:=F
 have nd:=iw.nd
 refine⟨f,fd,h1,F.kp,h2,fun c=>?_⟩
 induction c with
 |zero=>
  have cG:Df B 0 "first_that_see" ["seen","start","wanted","count"] (fun _ _ _ _=>False):=⟨f,fd,⟨fun _ _ _ _ h=>h.elim,fun _ _ _ _ _ _ _ _ _ _ _ _ _ h=>h.elim⟩,h1,F.kp,h2⟩
  refine F.ok iw (fun vs H Q E h=>?_) (fun cdv A outer s0 H vs Q E hr h=>?_)
  ·obtain⟨_,_,_,_,_,rfl,_⟩:=h
   rfl
  ·obtain⟨n,S,a,st,W,rfl,hS,hz,hst,k⟩:=h
   refine⟨_,(ak (bB (aO du (pv 3) aA (by exact aX _)) (aq (az (yM (aO du (pv 2) aA (by exact aX _)) (aN aj) dw))) aK)
   (ak (dH PassesOwn.never rfl (BX rfl T.d_ (aa (pv 1) (aa (aY (bA ⋯) rfl T.gn PySem.boot_len (aa (pv 0) aj)) aj))) (aH (i:=4) nd rfl (Or.inl rfl))
   (ak (a_ (i:=5) nd rfl (Or.inl rfl) (aZ cG ⋯ (hr.mono (by omega)) (aa (pv 0) (aa (cH jt (pv 4) aA) (aa (cH Ry (pv 2) (Mj Ql (bc (aD ⋯) (pv 0) (pv 4) (by intro _ _;rfl)))) (aa (cH DY (pv 3) aA) aj))))))
    (aq (bB (aO iB (pv 5) dw (by exact aX _)) (aq (az (cH o5 (aN (aa (pv 4) aj)) (pv 5)))) aK))))
   (aq (az dw)))),?_⟩
   ac_nf
   refine⟨_,rfl,rfl,_,rfl,aQ ⟨_,rfl,rfl,_,rfl,?_⟩⟩
   have k:∀(H':Hp) (v:V),Go L H H'→SJ H' v (if PR.mask W n=0 then some []else none)→Q v H':=k
   by_cases hm:PR.mask W n=0
   ·rw[if_pos hm]at k
    rw[decide_eq_true (by rw[hm];rfl:V.int (PR.mask W n:Int)=V.int 0)]
    exact aQ ⟨by show 0≤sizeLine;decide,fun p hp=>k _ _ (Go.laid hp) ⟨p,rfl,ao⟩⟩
   ·rw[if_neg hm]at k
    rw[decide_eq_false (fun z=>hm (by injection z with z;omega):¬V.int (PR.mask W n:Int)=V.int 0)]
    exact bu (k _ _ (Go.refl _ _) rfl)
 |succ c ih=>
  have cG:Df B (2*c+2) "first_that_see" ["seen","start","wanted","count"] (JH c B L C):=⟨f,fd,ih,h1,F.kp,h2⟩
  refine(F.ok (k:=2*c+3) iw (fun vs H Q E h=>?_) (fun cdv A outer s0 H vs Q E hr h=>?_):tX _ _ _ _ _ _ (2*c+3+1) _ _ _ _)
  ·obtain⟨_,_,_,_,_,rfl,_⟩:=h
   rfl
  ·obtain⟨n,S,a,st,W,rfl,hS,hz,hst,k⟩:=h
   refine⟨_,(ak (bB (aO du (pv 3) aA (by exact aX _)) (aq (az (yM (aO du (pv 2) aA (by exact aX _)) (aN aj) dw))) aK)
   (ak (dH PassesOwn.never rfl (BX rfl T.d_ (aa (pv 1) (aa (aY (bA ⋯) rfl T.gn PySem.boot_len (aa (pv 0) aj)) aj))) (aH (i:=4) nd rfl (Or.inl rfl))
   (ak (a_ (i:=5) nd rfl (Or.inl rfl) (aZ cG ⋯ (hr.mono (by omega)) (aa (pv 0) (aa (cH jt (pv 4) aA) (aa (cH Ry (pv 2) (Mj Ql (bc (aD ⋯) (pv 0) (pv 4) (by intro _ _;rfl)))) (aa (cH DY (pv 3) aA) aj))))))
    (aq (bB (aO iB (pv 5) dw (by exact aX _)) (aq (az (cH o5 (aN (aa (pv 4) aj)) (pv 5)))) aK))))
   (aq (az dw)))),?_⟩
   ac_nf
   refine⟨_,rfl,rfl,_,rfl,?_⟩
   rw[decide_eq_false (fun z=>by injection z with z;omega:¬V.int (((c+1:Nat):Int))=V.int 0)]
   refine bu (cM ?_)
   ac_nf
   refine⟨_,rfl,_,rfl,a,_,rfl,.inl (bC.of hS),_,_,rfl,⟨by omega,by omega,by omega,by rw[List.length_map];omega⟩,?_⟩
   rw[List.length_map]
   have en:((S.length:Int) - (st:Int)).toNat=S.length - st:=by omega
   rw[en]
   have er:List.range' st (S.length - st)=(List.range (S.length - st)).map (st+ ·):=by rw[List.range'_eq_map_range]
   let fn:Nat→Option (List Nat):=fun i=>(PR.yd n S c (st+i+1) (fun v=>W v&& !(S.getD (st+i) fun _=>false) v)).map ((st+i):: ·)
   have ef:PR.yd n S (c+1) st W=(List.range (S.length - st)).findSome? fn:=by
    show(List.range' st (S.length - st)).findSome? _=_
    rw[er,List.findSome?_map]
    rfl
   rw[ef]at k
   refine bZ (yl (lo:=st) (n:=S.length - st)) (fun i σ H'=>∃(v4 v5:Option V),σ=[some (.ref a),some (.int st),some (.int (PR.mask W n)),some (.int ((c+1:Nat):Int)),v4,v5]∧Go L H H'∧∀(j:Nat) (z:Nat),j<i→(List.range (S.length - st))[j]? =some z→fn z=none)
    ⟨_,_,rfl,Go.refl _ _,fun j z hj=>absurd hj (Nat.not_lt_zero j)⟩ (fun _ _ _ _=>trivial) ?_ ?_
   ·rintro i x v σ H3 hi rfl ⟨v4,v5,rfl,g,hno⟩
    have hx:x<S.length - st:=List.mem_range.mp (List.mem_of_getElem? hi)
    have hxl:st+x<S.length:=by omega
    have hget:S[st+x]? =some S[st+x]:=List.getElem?_eq_getElem hxl
    have hgd:(S.getD (st+x) fun _=>false)=S[st+x]:=by rw[List.getD_eq_getElem?_getD,hget];rfl
    ac_nf
    refine⟨_,rfl,_,rfl,_,_,rfl,rfl,_,rfl,_,rfl,_,rfl,bj (j:=st+x) (g.lst hS) (by omega) (by rw[List.getElem?_map,hget];rfl) ⟨_,rfl,_,_,rfl,rfl,_,rfl,_,_,rfl,rfl,?_⟩⟩
    have e1:Builtin.bitAnd (PR.mask W n:Int) (Builtin.bitNot (PR.mask S[st+x] n:Int))=(PR.mask (fun v=>W v&& !(S.getD (st+x) fun _=>false) v) n:Int):=by
     rw[hgd,bitAnd_not,bitAnd_pp (by omega) (by omega)]
     exact PR.El W S[st+x] n
    have e2:((c+1:Nat):Int) - 1=(c:Int):=by omega
    have e3:(st:Int)+(x:Int)+1=((st+x+1:Nat):Int):=by omega
    refine⟨n,S,a,st+x+1,fun v=>W v&& !(S.getD (st+x) fun _=>false) v,?_,g.lst hS,hz,by omega,fun H4 v g4 hout=>?_⟩
    ·show [V.ref a,V.int ((st:Int)+(x:Int)+1),V.int (Builtin.bitAnd (PR.mask W n:Int) (Builtin.bitNot (PR.mask S[st+x] n:Int))),V.int (((c+1:Nat):Int) - 1)]=_
     rw[e1,e2,e3]
    ·cases hf:PR.yd n S c (st+x+1) (fun v=>W v&& !(S.getD (st+x) fun _=>false) v)with
     |none=>
      rw[hf]at hout
      obtain rfl:v= .non:=hout
      refine⟨_,rfl,rfl,_,rfl,⟨_,_,rfl,g.trans g4,fun j z hj hz=>?_⟩⟩
      by_cases hji:j<i
      ·exact hno j z hji hz
      ·have:j=i:=by omega
       subst this
       have:z=x:=Option.some.inj (hz.symm.trans hi)
       subst this
       show(PR.yd n S c (st+z+1) _).map _=none
       rw[hf];rfl
     |some l=>
      rw[hf]at hout
      obtain⟨p,rfl,hp⟩:=hout
      have efn:fn x=some ((st+x)::l):=by show(PR.yd n S c (st+x+1) _).map _=_;rw[hf];rfl
      rw[nu hi efn hno]at k
      refine⟨_,rfl,rfl,_,rfl,aQ ⟨_,rfl,by show 1≤sizeLine;decide,fun b hb=>?_⟩⟩
      have g5:Go L H4 (upd H4 b (.lst [.int ((st:Int)+(x:Int))])):=Go.laid hb
      have hfl:=(PR.zp hf).2
      have aeW:=(PR.zp hf).1
      refine⟨_,rfl,b,p,_,_,rfl,rfl,ao,g5.lst hp,?_,fun d hd=>?_⟩
      ·rw[List.length_map,hfl,sizeLine_eq]
       show 1+c≤_
       have:=hr.dp
       have hrl:recursionLimit≤1000:=by decide
       omega
      ·exact k _ _ (((g.trans g4).trans g5).trans (Go.laid hd)) ⟨d,rfl,by rw[ao];rfl⟩
   ·rintro σ H3 ⟨v4,v5,rfl,g,hno⟩
    rw[rH (by intro j y hj;rw[List.length_range]at hj;exact hno j y (by rw[List.length_range];exact hj))]at k
    exact k _ _ g rfl
theorem uL(T:Txt B C)(F:bJ B "first_that_see" (top 71) ["seen","start","wanted","count"]):Df B 8 "first_that_see" ["seen","start","wanted","count"] (lF B L C):=by
 obtain⟨f,fd,h1,h2,h3,h4⟩:=VM (L:=L) T F
 refine⟨f,fd,⟨fun vs H Q E ⟨c,_,h⟩=>(h4 c).len vs H Q E h,fun A outer s H args us vs Q E hr e0 hb hv ⟨c,hc,h⟩=>(h4 c).run A outer s H args us vs Q E (hr.mono (by omega)) e0 hb hv h⟩,h1,h2,h3⟩
end
def QT(_:Bs)(L:List aG)(C:Addr):Sp:=fun vs H Q _=>∃(m:Ad) (s:State) (n:Int),vs=[.ref m.p,.int n]∧aR L C H m s∧Gives L H Q (step s [[15,n]]).2
theorem Xx:aJ ["roadmap","k","wanted","posts","seen","count","found","post","at"] ["roadmap","k"] (au (top 68)):=by symm_saturate
theorem X7{B:Bs}{L:List aG}{C c:Addr}(T:Txt B C)(F:bJ B "few" (top 68) ["roadmap","k"])(jY:Df B 2 "as_bits" ["places"] (rP B L C))(bK:Mt B C 2 "places_in_need" ["self"] (dJ B L C))(aM:Mt B C 2 "places_not_barred" ["self"] (bT B L C))(pK:Df B 6 "seen_from" ["roadmap","post"] (uo B L C))(cG:Df B 8 "first_that_see" ["seen","start","wanted","count"] (lF B L C))(di:Df B 2 "listed" ["numbers"] (jT B L C)):Df B 10 "few" ["roadmap","k"] (QT B L C):=by
 exists Xx
 ·obtain⟨_,_,_,rfl,_⟩:=h
  rfl
 ·obtain⟨m,s,n,rfl,M,k⟩:=h
  refine⟨_,(ak (bB (d9 (iy fj fj aA (pv 1) (cD T.lq))) (aq (az (aN (aa (cD T.bM) aj)))) aK)
   (ak (a_ (i:=2) nd rfl (Or.inl rfl) (aZ jY ⋯ ∅ (aa (iz (pv 0) ⋯ T.cl bK ∅) aj)))
   (ak (a_ (i:=3) nd rfl (Or.inr rfl) (iz (pv 0) ⋯ T.cl aM ∅))
   (ak (gm rfl nd (i:=4) rfl rfl rfl (aW ⋯ (pv 3)) (bh (own:=[("post",7)]) (by kernel_rfl)) (fun _ _ _ _ _=>(aH (i:=7) nd rfl (Or.inl rfl))) (fun _ _ _ _ _=>cu) (fun _ _ _ _ _=>(aZ pK ⋯ ∅ (aa (pv 0) (aa (pv 7) aj)))))
   (ak (dH PassesOwn.never rfl (dN rfl T.d_ (aa (cH jt (pv 1) aA) aj)) (aH (i:=5) nd rfl (Or.inl rfl))
   (ak (a_ (i:=6) nd rfl (Or.inl rfl) (aZ cG ⋯ ∅ (aa (pv 4) (aa aA (aa (pv 2) (aa (pv 5) aj))))))
    (aq (bB (aO iB (pv 6) dw (by exact aX _)) (aq (az (cH o5 (aN (aa aA aj)) (aZ di ⋯ ∅ (aa (dO rfl nd (aW ⋯ (pv 6)) (bh (own:=[("at",8)]) (by kernel_rfl)) (fun _ _ _ _ _=>(aH (i:=8) nd rfl (Or.inl rfl))) (fun _ _ _ _ _=>cu) (fun _ _ _ _ _=>(bc (aD ⋯) (pv 3) (pv 8) (by intro _ _;rfl)))) aj))))) aK))))
   (aq (az (aN (aa aA aj))))))))),?_⟩
  ac_nf
  rw[PR.Jz]at k
  have bad:¬(0≤n∧n≤3)→[V.int (-1)].length≤sizeLine∧∀p,H p=none→Q (.ref p) (upd H p (.lst [.int (-1)])):=fun h=>by
   rw[if_pos (by rw[Bool.eq_false_iff,ne_eq,PR.b_];exact h)]at k
   exact⟨by show 1≤sizeLine;decide,fun p hp=>k _ p (Go.laid hp) ao⟩
  refine⟨_,rfl,_,_,rfl,rfl,_,rfl,?_⟩
  by_cases h0:0≤n
  ·rw[decide_eq_true h0]
   refine aQ ⟨_,_,rfl,rfl,_,rfl,?_⟩
   by_cases h1:n≤3
   ·rw[decide_eq_true h1]
    rw[if_neg (by rw[PR.b_.mpr ⟨h0,h1⟩];decide)]at k
    obtain⟨w,rfl⟩:∃w:Nat,n=w:=⟨n.toNat,by omega⟩
    have hn:=M.wf.hi
    have nl:=my s
    have fl:=vd s
    refine bu (cP M rfl (by decide+kernel) ⟨m,s,rfl,M,fun H1 p1 g1 hl1=>⟨p1,PR.kO s,rfl,hl1,fun v hv=>by have:=yR hv;omega,by omega,fun H2 g2=>?_⟩⟩)
    have ew:((PR.kO s).map fun v=>(1:Int)*2 ^ v).sum=(PR.mask (fun v=>decide (0<needOf s v)) (size s):Int):=PR.HF _ _
    rw[ew]
    have M2:=M.go (g1.trans g2)
    refine cP M2 rfl (by decide+kernel) ⟨m,s,rfl,M2,fun H3 p3 g3 hl3=>bO ?_⟩
    have M3:=M2.go g3
    ac_nf
    refine⟨_,rfl,p3,rfl,⟨_,bC.of hl3⟩,fun D hD=>?_⟩
    refine bU (L:=L) (xs:=PR.free s) (fun _=>true) (fun p=>V.int (PR.mask (fun v=>inReach (distances s) s.reach p v) (size s))) hD bx (fun H' g=>bC.of (g.lst hl3)) (by rw[sizeLine_eq];omega) (fun x y H' hx g e Qn Qy hn hy=>?_) (fun H4 g4 lX=>?_)
    ·subst e
     ac_nf
     exact⟨rfl,aQ ⟨_,rfl,_,rfl,m,s,x,rfl,M3.go g,qd hx,fun H5 g5=>hy rfl H5 g5⟩⟩
    ·rw[bG]at lX
     have Cm:=((g1.trans g2).trans g3).trans g4
     have VD:=g4.lst hl3
     let S:List (Nat→Bool):=(PR.free s).map fun p v=>inReach (distances s) s.reach p v
     have hS:H4 D=some (.lst (S.map fun p=>V.int (PR.mask p (size s)))):=by rw[List.map_map];exact lX
     have hSl:S.length=(PR.free s).length:=by show((PR.free s).map _).length=_;rw[List.length_map]
     let fn:Nat→Option (List Nat):=fun c=>(PR.yd (size s) S c 0 fun v=>decide (0<needOf s v)).map fun l=>l.map fun i=>(PR.free s).getD i 0
     have ef:few s (distances s) s.reach (w+1) 0=(List.range (w+1)).findSome? fn:=PR.Nb s s.reach w
     rw[show(w:Int).toNat=w from rfl,ef]at k
     refine cM ?_
     ac_nf
     refine⟨_,rfl,_,_,rfl,rfl,_,rfl,by omega,by omega,?_⟩
     have en:((w:Int)+1).toNat=w+1:=by omega
     rw[en]
     refine bZ (cJ (n:=w+1)) (fun i σ H'=>∃(v5 v6:Option V),σ=[some (.ref m.p),some (.int w),some (.int (PR.mask (fun v=>decide (0<needOf s v)) (size s))),some (.ref p3),some (.ref D),v5,v6,none,none]∧Go L H4 H'∧∀(j:Nat) (z:Nat),j<i→(List.range (w+1))[j]? =some z→fn z=none)
      ⟨_,_,rfl,Go.refl _ _,fun j z hj=>absurd hj (Nat.not_lt_zero j)⟩ (fun _ _ _ _=>trivial) ?_ ?_
     ·rintro i c v σ H5 hi rfl ⟨v5,v6,rfl,g5,hno⟩
      have hc:c<w+1:=List.mem_range.mp (List.mem_of_getElem? hi)
      ac_nf
      refine⟨_,rfl,_,rfl,_,rfl,c,by omega,size s,S,D,0,fun v=>decide (0<needOf s v),rfl,g5.lst hS,by omega,by omega,fun H6 v g6 hout=>?_⟩
      cases hf:PR.yd (size s) S c 0 (fun v=>decide (0<needOf s v))with
      |none=>
       rw[hf]at hout
       obtain rfl:v= .non:=hout
       refine⟨_,rfl,rfl,_,rfl,⟨_,_,rfl,g5.trans g6,fun j z hj hz=>?_⟩⟩
       by_cases hji:j<i
       ·exact hno j z hji hz
       ·have:j=i:=by omega
        subst this
        have:z=c:=Option.some.inj (hz.symm.trans hi)
        subst this
        show(PR.yd (size s) S z 0 _).map _=none
        rw[hf];rfl
      |some l=>
       rw[hf]at hout
       obtain⟨p,rfl,hp⟩:=hout
       obtain⟨hlt,hll⟩:=PR.zp hf
       have efn:fn c=some (l.map fun i=>(PR.free s).getD i 0):=by show(PR.yd (size s) S c 0 _).map _=_;rw[hf];rfl
       rw[nu hi efn hno]at k
       dsimp only at k
       refine⟨_,rfl,rfl,_,rfl,aQ ⟨by show 1≤sizeLine;decide,fun b hb=>bO ?_⟩⟩
       ac_nf
       have g7:Go L H6 (upd H6 b (.lst [.int 0])):=Go.laid hb
       have hp7:=g7.lst hp
       have Ys:=((g5.trans g6).trans g7).lst VD
       refine⟨_,rfl,p,rfl,⟨_,bC.of hp7⟩,fun D2 hD2=>?_⟩
       refine bU (L:=L) (xs:=l) (fun _=>true) (fun i=>dg ((PR.free s).getD i 0)) hD2 bx (fun H' g=>bC.of (g.lst hp7)) (by rw[sizeLine_eq];omega) (fun x y H' hx g e Qn Qy hn hy=>?_) (fun H8 g8 Zm=>?_)
       ·subst e
        ac_nf
        have hxl:x< (PR.free s).length:=by rw[←hSl];exact hlt x hx
        refine⟨rfl,aQ ⟨_,rfl,_,rfl,bj (g.lst Ys) rfl (by rw[List.getElem?_map,List.getElem?_eq_getElem hxl];rfl) ?_⟩⟩
        have:=hy rfl H' (Go.refl _ _)
        rw[List.getD_eq_getElem?_getD,List.getElem?_eq_getElem hxl]at this
        exact this
       ·rw[bG]at Zm
        have e8:l.map (fun i=>dg ((PR.free s).getD i 0))=((l.map fun i=>(PR.free s).getD i 0).map nat).map V.int:=by rw[←dR,List.map_map];rfl
        rw[e8]at Zm
        refine⟨D2,_,rfl,Zm,by rw[List.length_map,List.length_map];omega,fun H9 p9 g9 h9=>?_⟩
        have hb9:=(g8.trans g9).lst (show(upd H6 b (.lst [.int 0])) b=_ from ao)
        refine⟨b,p9,_,_,rfl,rfl,hb9,h9,?_,fun d hd=>?_⟩
        ·simp only[List.length_map,List.length_cons,List.length_nil,sizeLine_eq]
         omega
        ·refine k _ d (((((Cm.trans (g5.trans g6)).trans g7).trans g8).trans g9).trans (Go.laid hd)) ?_
         rw[ao]
         congr 2
         unfold ans
         dsimp only
         rw[sS]
         rfl
     ·rintro σ H5 ⟨v5,v6,rfl,g5,hno⟩
      rw[rH (by intro j y hj;rw[List.length_range]at hj;exact hno j y (by rw[List.length_range];exact hj))]at k
      ac_nf
      exact⟨by show 1≤sizeLine;decide,fun p hp=>k _ p ((Cm.trans g5).trans (Go.laid hp)) ao⟩
   ·rw[decide_eq_false h1]
    exact aQ (bad fun z=>h1 z.2)
  ·rw[decide_eq_false h0]
   exact bu ⟨_,rfl,aQ (bad fun z=>h0 z.1)⟩
def IW(q:Nat×Int×Nat):List V:=[.int q.1,.int q.2.1,.int q.2.2]
def QS(_:Bs)(L:List aG)(_:Addr):Sp:=fun vs H Q _=>∃(s:State) (r:Int) (l:List Nat) (lN:List Int) (a b q:Addr) (rs:List Addr),vs=[.ref a,.ref b,.ref q]∧H a=some (.lst (l.map dg))∧H b=some (.lst (lN.map V.int))∧lN.length=size s∧wO H q rs s r∧
 (∀v∈l,v<size s∧PR.around s r v≠[])∧size s≤40∧l.length≤40∧∀(H':Hp) (p:Addr),Go L H H'→qL H' p ((PR.ji s r l lN []).2.map IW)→Q (.ref p) H'
theorem O2(left:List Int)(y:Int)(l:List Nat)(u:Nat):PR.less left y (l++[u])=(PR.less left y l).set u ((PR.less left y l).getD u 0 - y):=by
 unfold PR.less;rw[List.foldl_append];rfl
theorem getD_at{l:List Int}{u:Nat}(h:u<l.length):(l.map V.int)[u]? =some (.int (l.getD u 0)):=by
 rw[List.getElem?_map,List.getD_eq_getElem?_getD,List.getElem?_eq_getElem h];rfl
theorem iM(s:State)(r:Int)(v:Nat):(PR.around s r v).Nodup:=(PR.dZ s r v).nodup_iff.mpr (List.nodup_range.filter _)
theorem Cj{s:State}{r:Int}:∀(l:List Nat) (left:List Int) (t:PR.jm),(PR.ji s r l left t).1.length=left.length∧(PR.ji s r l left t).2.length=t.length+l.length
 | [],left,t=>⟨rfl,rfl⟩
 |u::l,left,t=>by
  obtain⟨h1,h2⟩:=Cj (s:=s) (r:=r) l (PR.e_ s r u left t).1 (PR.e_ s r u left t).2
  unfold PR.ji
  refine⟨h1.trans (PR.dY _ _ _),h2.trans ?_⟩
  show(t++[_]).length+l.length=t.length+(l.length+1)
  rw[List.length_append,List.length_singleton];omega
theorem Xw:aJ ["places","costs","around","left","bills","v","paid","u","used_up"] ["places","costs","around"] (au (top 55)):=by symm_saturate
theorem X6{B:Bs}{L:List aG}{C c:Addr}(T:Txt B C)(F:bJ B "pay" (top 55) ["places","costs","around"]):Df B 2 "pay" ["places","costs","around"] (QS B L C):=by
 exists Xw
 ·obtain⟨_,_,_,_,_,_,_,_,rfl,_⟩:=h
  rfl
 ·obtain⟨s,r,l,lN,a,b,q,rs,rfl,ha,hb,hl0,hq,hl,hn,hll,k⟩:=h
  refine⟨_,(ak (a_ (i:=3) nd rfl (Or.inr rfl) (vR (Bp ⋯) rfl T.Ek Wa (aa (pv 1) aj)))
   (ak (a_ (i:=4) nd rfl (Or.inl rfl) (aN aj))
   (ak (dH PassesOwn.never rfl (aW ⋯ (pv 0)) (aH (i:=5) nd rfl (Or.inl rfl))
   (ak (a_ (i:=6) nd rfl (Or.inl rfl) (aY (V_ ⋯ rfl) rfl T.HB YX (aa (dO rfl nd (aW ⋯ (bc (aD ⋯) (pv 2) (pv 5) (by intro _ _;rfl))) (bh (own:=[("u",7)]) (by kernel_rfl)) (fun _ _ _ _ _=>(aH (i:=7) nd rfl (Or.inl rfl))) (fun _ _ _ _ _=>cu) (fun _ _ _ _ _=>(bc (aD ⋯) (pv 3) (pv 7) (by intro _ _;rfl)))) aj)))
    (ak (dH PassesOwn.never rfl (aW ⋯ (bc (aD ⋯) (pv 2) (pv 5) (by intro _ _;rfl))) (aH (i:=7) nd rfl (Or.inl rfl))
    (aq (DN (pv 3) (pv 7) (v9 ⋯) (pv 6) Yl set_list)))
    (ak (gm rfl nd (i:=8) rfl rfl rfl (aW ⋯ (bc (aD ⋯) (pv 2) (pv 5) (by intro _ _;rfl))) (bh (own:=[("u",7)]) (by kernel_rfl)) (fun _ _ _ _ _=>(aH (i:=7) nd rfl (Or.inl rfl))) (fun _ _ _ _ _=>(fc (aO du (bc (aD ⋯) (pv 3) (pv 7) (by intro _ _;rfl)) aA (by exact aX _)))) (fun _ _ _ _ _=>(pv 7)))
    (aq (cQ (jK PySem.F.plainAttrs_list PySem.F.slot_list_append PySem.F.type_list_append eY (pv 4) (aa (kj (aa (pv 5) (aa (pv 6) (aa (bc (aD ⋯) (pv 8) aA (by intro _ _;rfl)) aj)))) aj))))))))
   (aq (az (pv 4)))))),?_⟩
  ac_nf
  refine⟨_,rfl,b,_,rfl,.inl (bC.of hb),fun P hP=>?_⟩
  have g1:Go L H (upd H P (.lst (lN.map V.int))):=Go.laid hP
  refine⟨by show 0≤sizeLine;decide,fun S hS=>cM ?_⟩
  ac_nf
  have g2:Go L H (upd (upd H P (.lst (lN.map V.int))) S (.lst [])):=g1.trans (Go.laid hS)
  have eP:(upd (upd H P (.lst (lN.map V.int))) S (.lst [])) P=some (.lst (lN.map V.int)):=(Go.laid (L:=L) hS).lst ao
  have hPS:P≠S:=aP (show(upd H P (.lst (lN.map V.int))) P=_ from ao) hS
  have hS0:H S=none:=g1.fr S hS
  refine⟨_,rfl,a,rfl,⟨_,bC.of (g2.lst ha)⟩,?_⟩
  refine bZ (bx (xs:=l) (f:=dg)) (fun i σ H'=>∃(v5 v6 v7 v8:Option V),σ=[some (.ref a),some (.ref b),some (.ref q),some (.ref P),some (.ref S),v5,v6,v7,v8]∧Go L H H'∧H' P=some (.lst ((PR.ji s r (l.take i) lN []).1.map V.int))∧qL H' S ((PR.ji s r (l.take i) lN []).2.map IW))
   ⟨_,_,_,_,rfl,g2,eP,⟨[],ao,rfl,fun i p t e=>by cases e⟩⟩ (fun i σ H' ⟨_,_,_,_,_,g,_⟩=>bC.of (g.lst ha)) ?_ ?_
  ·rintro i x v σ H3 hi rfl ⟨v5,v6,v7,v8,rfl,g,hleft,hT⟩
   obtain⟨hx,hxa⟩:=hl x (List.mem_of_getElem? hi)
   have hsn:=PR.zm s r x (l.take i) lN []
   rw[←take_snoc hi]at hsn
   obtain⟨vX,sW⟩:=Cj (s:=s) (r:=r) (l.take i) lN []
   rw[List.length_take,List.length_nil]at sW
   rw[hl0]at vX
   generalize PR.ji s r (l.take i) lN []=lt at hleft hT hsn vX sW
   obtain⟨left,t⟩:=lt
   dsimp only at hleft hT hsn vX sW
   obtain⟨p,p1,p2,p3⟩:=(hq.go g).at hx
   have hpH:H p=some (.lst ((PR.around s r x).map dg)):=hq.rows x p p1
   have hpP:p≠P:=aP hpH hP
   have al:=zZ s r x
   have and_:=iM s r x
   have alt:∀u∈PR.around s r x,u<left.length:=fun u hu=>by rw[vX];exact(PR.dh.mp hu).1.1
   ac_nf
   refine bO ?_
   ac_nf
   refine⟨_,rfl,_,rfl,bj (g.lst hq.lst) rfl p2 ⟨p,rfl,⟨_,bC.of p3⟩,fun D hD=>?_⟩⟩
   refine bU (L:=L) (xs:=PR.around s r x) (fun _=>true) (fun u=>V.int (left.getD u 0)) hD bx (fun H4 g=>bC.of (g.lst p3)) (by rw[sizeLine_eq];omega) (fun u y H4 hu g4 e Qn Qy hn hy=>?_) (fun H4 g4 lX=>?_)
   ·subst e
    ac_nf
    exact⟨rfl,aQ ⟨_,rfl,_,rfl,bj (g4.lst hleft) rfl (getD_at (alt u hu)) (hy rfl H4 (Go.refl _ _))⟩⟩
   ·rw[bG]at lX
    have Yr:=g4.lst hleft
    have Cm:=g.trans g4
    refine⟨D,(PR.around s r x).map fun u=>left.getD u 0,rfl,bC.of (by rw[List.map_map];exact lX),by rw[List.length_map];exact List.length_pos_iff.mpr hxa,fun y hy1 hy2=>?_⟩
    have ey:y=leastOf ((posts s (distances s) r x).map fun v=>left.getD v 0):=PR.En ((PR.dZ s r x).map _) hy1 hy2
    have p4:=g4.lst p3
    refine cM ?_
    ac_nf
    refine⟨_,rfl,_,rfl,bj (Cm.lst hq.lst) rfl p2 ⟨p,rfl,⟨_,bC.of p4⟩,?_⟩⟩
    refine bZ (bx (xs:=PR.around s r x) (f:=dg)) (fun j σ H'=>∃(w7:Option V),σ=[some (.ref a),some (.ref b),some (.ref q),some (.ref P),some (.ref S),some (dg x),some (.int y),w7,v8]∧Go L H H'∧H' P=some (.lst ((PR.less left y ((PR.around s r x).take j)).map V.int))∧qL H' S (t.map IW))
     ⟨_,rfl,Cm,Yr,hT.go g4⟩ (fun j σ H' ⟨_,_,g,_⟩=>bC.of (g.lst hpH)) ?_ ?_
    ·rintro j u v σ H5 hj rfl ⟨w7,rfl,g5,Ex,hT5⟩
     have hu:=alt u (List.mem_of_getElem? hj)
     have Zi:u< (PR.less left y ((PR.around s r x).take j)).length:=by rw[PR.dY];exact hu
     ac_nf
     refine⟨_,rfl,_,rfl,bj Ex rfl (getD_at Zi) ⟨_,rfl,_,_,rfl,rfl,P,_,_,u,rfl,rfl,Ex,m_ (by rw[List.length_map];exact Zi),?_⟩⟩
     refine⟨_,rfl,g5.put hP Ex,?_,hT5.tk (Tk.put Ex) fun xs e=>by rw[aF hPS.symm];exact e⟩
     rw[ao,take_snoc hj,O2,List.map_set]
    ·rintro σ H5 ⟨w7,rfl,g5,Ex,hT5⟩
     rw[List.take_length]at Ex
     have p5:=g5.lst hpH
     ac_nf
     refine bO ?_
     ac_nf
     refine⟨_,rfl,_,rfl,bj (g5.lst hq.lst) rfl p2 ⟨p,rfl,⟨_,bC.of p5⟩,fun D2 hD2=>?_⟩⟩
     refine bU (L:=L) (xs:=PR.around s r x) (fun u=>(PR.less left y (PR.around s r x)).getD u 0==0) dg hD2 bx (fun H6 g=>bC.of (g.lst p5)) (by rw[sizeLine_eq];omega) (fun u y' H6 hu g6 e Qn Qy hn hy=>?_) (fun H6 g6 WT=>?_)
     ·subst e
      ac_nf
      have Zi:u< (PR.less left y (PR.around s r x)).length:=by rw[PR.dY];exact alt u hu
      refine⟨rfl,_,rfl,_,rfl,bj (g6.lst Ex) rfl (getD_at Zi) ⟨rfl,_,rfl,?_⟩⟩
      rw[Nh]
      cases hz:(PR.less left y (PR.around s r x)).getD u 0==0 with
      |true=>exact aQ ⟨_,rfl,hy hz H6 (Go.refl _ _)⟩
      |false=>exact hn hz H6 (Go.refl _ _)
     ·have hT6:=hT5.go g6
      obtain⟨u0,hu0,eu0⟩:=List.mem_map.mp hy1
      have hmem:u0∈(PR.around s r x).filter fun u=>(PR.less left y (PR.around s r x)).getD u 0==0:=by
       refine List.mem_filter.mpr ⟨hu0,?_⟩
       rw[PR.less_get y _ _ and_ alt u0 (alt u0 hu0),if_pos hu0,eu0]
       simp
      obtain⟨c,cs,hc⟩:∃c cs,(PR.around s r x).filter (fun u=>(PR.less left y (PR.around s r x)).getD u 0==0)=c::cs:=by
       cases e:(PR.around s r x).filter (fun u=>(PR.less left y (PR.around s r x)).getD u 0==0)with
       |nil=>rw[e]at hmem;cases hmem
       |cons c cs=>exact⟨c,cs,rfl⟩
      rw[hc]at WT
      obtain⟨as6,acu,_⟩:=hT6.ex
      refine⟨_,rfl,.inl ⟨rfl,_,bC.of acu⟩,_,rfl,_,rfl,_,rfl,bj (j:=0) WT rfl rfl ⟨by show 3≤sizeLine;decide,fun tt htt=>?_⟩⟩
      have g7:Go L H6 (upd H6 tt (.tup (IW (x,y,c)))):=Go.laid htt
      obtain⟨xs7,h71,h72,h73⟩:=Gs (hT6.go g7) (t:=tt) ao
      refine⟨S,_,_,rfl,rfl,h71,by rw[h72,List.length_map,sizeLine_eq];omega,?_⟩
      have et:PR.e_ s r x left t=(PR.less left y (PR.around s r x),t++[(x,y,c)]):=by
       unfold PR.e_
       dsimp only
       rw[←ey,hc];rfl
      rw[et]at hsn
      refine⟨_,_,_,_,rfl,((g5.trans g6).trans g7).put hS0 h71,?_,?_⟩
      ·rw[aF hPS,hsn];exact g7.lst (g6.lst Ex)
      ·rw[hsn,List.map_append];exact h73
  ·rintro σ H3 ⟨v5,v6,v7,v8,rfl,g,hleft,hT⟩
   rw[List.take_length]at hT
   exact⟨_,rfl,k H3 S g hT⟩
def nY(_:Bs)(L:List aG)(_:Addr):Sp:=fun vs H Q _=>∃(s:State) (r:Int) (a q:Addr) (rs:List Addr) (t:PR.jm),vs=[.ref a,.ref q]∧qL H a (t.map IW)∧wO H q rs s r∧(∀x∈t,x.1<size s)∧t.length≤40∧size s≤40∧
 ∀(H':Hp) (p:Addr) (out:List Int),Go L H H'→out.Perm (PR.Ca (PR.jC s r (PR.xW t).reverse []))→out.Pairwise (· ≤ ·)→H' p=some (.lst (out.map V.int))→Q (.ref p) H'
theorem vz(s:State)(r:Int):∀(q:List (Nat×Nat)) (l:List Nat),(PR.jC s r q l).length≤l.length+q.length
 | [],l=>by unfold PR.jC;simp
 | (u,v)::q,l=>by
  unfold PR.jC
  split
  ·have:=vz s r q l;rw[List.length_cons];omega
  ·have:=vz s r q (l++[v]);rw[List.length_append,List.length_singleton]at this;rw[List.length_cons];omega
theorem xG:aJ ["bills","around","posts","v","paid","choice","post"] ["bills","around"] (au (top 56)):=by symm_saturate
theorem xN{B:Bs}{L:List aG}{C c:Addr}(T:Txt B C)(F:bJ B "posts_chosen" (top 56) ["bills","around"]):Df B 2 "posts_chosen" ["bills","around"] (nY B L C):=by
 exists xG
 ·obtain⟨_,_,_,_,_,_,rfl,_⟩:=h
  rfl
 ·obtain⟨s,r,a,q,rs,t,rfl,hT,hA,hlt,htl,hn,k⟩:=h
  refine⟨_,(ak (a_ (i:=2) nd rfl (Or.inl rfl) (aN aj))
   (ak (dH PassesOwn.never rfl (uE ⋯ rfl T.m7 (aa (pv 0) aj)) (gF (n:=3) ⋯ rfl (bI (aH (i:=3) nd rfl (Or.inr rfl)) (bI (aH (i:=4) nd rfl (Or.inl rfl)) (bI (aH (i:=5) nd rfl (Or.inl rfl)) gD))))
   (aq (bB (d9 (cz (aY (ql ⋯ rfl) rfl T.wZ wM (aa (dO rfl nd (aW ⋯ (pv 2)) (bh (own:=[("post",6)]) (by kernel_rfl)) (fun _ _ _ _ _=>(aH (i:=6) nd rfl (Or.inl rfl))) (fun _ _ _ _ _=>cu) (fun _ _ _ _ _=>(fO (kI ⋯) (pv 6) (bc (aD ⋯) (pv 1) (pv 3) (by intro _ _;rfl)) rfl))) aj)))) (aq (cQ (jK PySem.F.plainAttrs_list PySem.F.slot_list_append PySem.F.type_list_append eY (pv 2) (aa (pv 5) aj)))) aK)))
   (aq (az (aY (zO ⋯) rfl T.jh qt (aa (pv 2) aj)))))),?_⟩
  ac_nf
  refine⟨by show 0≤sizeLine;decide,fun S hS=>cM ?_⟩
  ac_nf
  have g1:Go L H (upd H S (.lst [])):=Go.laid hS
  have O6:(PR.xW t).reverse=t.reverse.map fun x=>(x.1,x.2.2):=by show(t.map _).reverse=_;rw[List.map_reverse]
  obtain⟨as,ha1,ha2,_⟩:=(hT.go g1).ex
  have hlen:(as.map V.ref).length=t.length:=by rw[List.length_map,ha2,List.length_map]
  refine⟨_,rfl,a,_,rfl,bC.of ha1,?_⟩
  rw[hlen]
  refine bZ (Gq (xs:=t) (f:=IW)) (fun i σ H'=>∃(v3 v4 v5:Option V),σ=[some (.ref a),some (.ref q),some (.ref S),v3,v4,v5,none]∧Go L H H'∧H' S=some (.lst ((PR.jC s r ((t.reverse.take i).map fun x=>(x.1,x.2.2)) []).map dg)))
   ⟨_,_,_,rfl,g1,ao⟩ (fun i σ H' ⟨_,_,_,_,g,_⟩=>hT.go g) ?_ ?_
  ·rintro i x v σ H3 hi ⟨p,rfl,hp⟩ ⟨v3,v4,v5,rfl,g,hl⟩
   have hxt:x∈t:=List.mem_reverse.mp (List.mem_of_getElem? hi)
   have hsn:=PR.wL s r (x.1,x.2.2) ((t.reverse.take i).map fun x=>(x.1,x.2.2)) []
   have zj:=vz s r ((t.reverse.take i).map fun x=>(x.1,x.2.2)) []
   rw[show(t.reverse.take i).map (fun x=>(x.1,x.2.2))++[(x.1,x.2.2)]=(t.reverse.take (i+1)).map (fun x=>(x.1,x.2.2))by rw[take_snoc hi,List.map_append];rfl]at hsn
   rw[List.length_map,List.length_take,List.length_reverse,List.length_nil]at zj
   generalize PR.jC s r ((t.reverse.take i).map fun x=>(x.1,x.2.2)) []=tk at hl hsn zj
   ac_nf
   refine⟨p,_,rfl,mF.of hp,rfl,_,_,rfl,_,_,rfl,_,_,rfl,rfl,bO ?_⟩
   ac_nf
   obtain⟨b,b1,b2,b3⟩:=(hA.go g).at (hlt x hxt)
   refine⟨_,rfl,S,rfl,⟨_,bC.of hl⟩,fun D hD=>?_⟩
   refine bU (L:=L) (xs:=tk) (fun _=>true) (fun w=>V.bl (decide (w∈PR.around s r x.1))) hD bx (fun H4 g=>bC.of (g.lst hl)) (by rw[sizeLine_eq];omega) (fun u y H4 hu g4 e Qn Qy hn hy=>?_) (fun H4 g4 lX=>?_)
   ·subst e
    ac_nf
    refine⟨rfl,aQ ⟨_,rfl,_,rfl,_,rfl,bj (g4.lst (g.lst hA.lst)) rfl b2 ⟨b,_,rfl,.inl (bC.of (g4.lst b3)),rfl,HY _,?_⟩⟩⟩
    have:=hy rfl H4 (Go.refl _ _)
    rw[←MT]at this
    exact this
   ·rw[bG]at lX
    refine⟨D,tk.map fun w=>decide (w∈PR.around s r x.1),rfl,bC.of (by rw[List.map_map];exact lX),_,rfl,?_⟩
    rw[List.any_map]
    have htk:PR.jC s r [(x.1,x.2.2)] tk=if (tk.any fun w=>decide (w∈PR.around s r x.1))=true then tk else tk++[x.2.2]:=by
     unfold PR.jC;split<;>rfl
    rw[htk]at hsn
    cases hany:tk.any (id∘fun w=>decide (w∈PR.around s r x.1))with
    |true=>
     rw[if_pos (show tk.any (fun w=>decide (w∈PR.around s r x.1))=true from hany)]at hsn
     exact bu ⟨_,_,_,rfl,g.trans g4,by rw[hsn];exact g4.lst hl⟩
    |false=>
     rw[if_neg (by rw[show tk.any (fun w=>decide (w∈PR.around s r x.1))=false from hany];decide)]at hsn
     refine aQ ⟨_,rfl,.inl ⟨rfl,_,bC.of (g4.lst hl)⟩,_,rfl,S,_,_,rfl,rfl,g4.lst hl,by rw[List.length_map,sizeLine_eq];omega,?_⟩
     exact⟨_,_,_,rfl,(g.trans g4).put hS (g4.lst hl),by rw[ao,hsn,List.map_append];rfl⟩
  ·rintro σ H3 ⟨v3,v4,v5,rfl,g,hl⟩
   rw[List.take_length,←O6,dR]at hl
   have zj:=vz s r (PR.xW t).reverse []
   rw[List.length_reverse,List.length_map,List.length_nil]at zj
   refine⟨_,rfl,S,_,rfl,bC.of hl,by rw[List.length_map];omega,fun out p h1 h2 hp=>?_⟩
   exact k _ p out (g.trans (Go.laid hp)) h1 h2 ao
def Km(q:Nat×Int×Nat):Int×Int×Int:=((q.1:Int),q.2.1,(q.2.2:Int))
def RQ(q:Int×Int×Int):Nat×Int×Nat:=(q.1.toNat,q.2.1,q.2.2.toNat)
theorem Y0(t:PR.jm):t.map IW=(t.map Km).map Wo:=by rw[List.map_map];rfl
theorem Oi{ts:List (Int×Int×Int)}{t:PR.jm}(h:ts.Perm (t.map Km))(hs:ts.Pairwise fun a b=>a.1≤b.1):∃k:PR.jm,ts=k.map Km∧k.Perm t∧k.Pairwise fun a b=>a.1≤b.1:=by
 have back:∀q,RQ (Km q)=q:=fun q=>rfl
 have e:ts=(ts.map RQ).map Km:=by
  rw[List.map_map]
  conv=>lhs;rw[←List.map_id ts]
  refine List.map_congr_left fun x hx=>?_
  obtain⟨q,_,rfl⟩:=List.mem_map.mp (h.mem_iff.mp hx)
  rfl
 refine⟨ts.map RQ,e,?_,?_⟩
 ·have:=h.map RQ
  rw[List.map_map]at this
  have e2:t.map (RQ∘Km)=t:=by
   conv=>rhs;rw[←List.map_id t]
   exact List.map_congr_left fun _ _=>rfl
  rwa[e2]at this
 ·rw[e,List.pairwise_map]at hs
  exact hs.imp fun {a b} z=>by have:((a.1:Int))≤(b.1:Int):=z;omega
theorem Ir(s:State):s.places.map (fun p=>V.int p.cost)=((List.range (size s)).map fun v=>(placeOf s v).cost).map V.int:=by
 conv=>lhs;rw[mY s]
 rw[List.map_map,List.map_map];rfl
def wV(_:Bs)(L:List aG)(C:Addr):Sp:=fun vs H Q _=>∃(m:Ad) (s:State),vs=[.ref m.p]∧aR L C H m s∧Gives L H Q (step s [[11]]).2
theorem Ha:aJ ["roadmap","refused","around","bills","posts","paying","v","paid","choice"] ["roadmap"] (au (top 49)):=by symm_saturate
theorem Hu{B:Bs}{L:List aG}{C c:Addr}(T:Txt B C)(F:bJ B "cheapest" (top 49) ["roadmap"])(cN:Df B 10 "refusal_of_plan" ["roadmap"] (gG B L C))(cB:Df B 8 "posts_around" ["roadmap","reach"] (gr B L C))(Te:Df B 2 "pay" ["places","costs","around"] (QS B L C))(bD:Mt B C 8 "deepest_first" ["self"] (cY B L C))(k_:Df B 2 "posts_chosen" ["bills","around"] (nY B L C))(di:Df B 2 "listed" ["numbers"] (jT B L C))(cC:Df B 2 "listed_pairs" ["pairs"] (gC B L C)):Df B 12 "cheapest" ["roadmap"] (wV B L C):=by
 exists Ha
 ·obtain⟨_,_,rfl,_⟩:=h
  rfl
 ·obtain⟨m,s,rfl,M,k⟩:=h
  refine⟨_,(ak (a_ (i:=1) nd rfl (Or.inl rfl) (aZ cN ⋯ ∅ (aa (pv 0) aj)))
   (ak (bB (aO iB (pv 1) dw (by exact aX _)) (aq (az (aN (aa (pv 1) aj)))) aK)
   (ak (a_ (i:=2) nd rfl (Or.inl rfl) (aZ cB ⋯ ∅ (aa (pv 0) (aa (aV ⋯ (pv 0) (by rfl)) aj))))
   (ak (a_ (i:=3) nd rfl (Or.inl rfl) (aZ Te ⋯ ∅ (aa (iz (pv 0) ⋯ T.cl bD ∅) (aa (aV ⋯ (pv 0) (by rfl)) (aa (pv 2) aj)))))
   (ak (a_ (i:=4) nd rfl (Or.inl rfl) (aZ k_ ⋯ ∅ (aa (pv 3) (aa (pv 2) aj))))
   (ak (gm rfl nd (i:=5) rfl rfl rfl (aW ⋯ (aY Th rfl T.jh qt (aa (pv 3) aj))) (bh (own:=[("v",6),("paid",7),("choice",8)]) (by kernel_rfl)) (fun _ _ _ _ _=>(gF (n:=3) ⋯ rfl (bI (aH (i:=6) nd rfl (Or.inl rfl)) (bI (aH (i:=7) nd rfl (Or.inl rfl)) (bI (aH (i:=8) nd rfl (Or.inl rfl)) gD))))) (fun _ _ _ _ _=>(fc (aO uG (pv 7) aA (by exact aX _)))) (fun _ _ _ _ _=>(kj (aa (pv 6) (aa (pv 7) aj)))))
   (aq (az (cH o5 (cH o5 (aN (aa (aY (lR ⋯ rfl) rfl T.rD pP (aa (dO rfl nd (aW ⋯ (pv 4)) (bh (own:=[("v",6)]) (by kernel_rfl)) (fun _ _ _ _ _=>(aH (i:=6) nd rfl (Or.inl rfl))) (fun _ _ _ _ _=>cu) (fun _ _ _ _ _=>(bc (aD ⋯) (aV ⋯ (pv 0) (by rfl)) (pv 6) (by intro _ _;rfl)))) aj)) aj)) (aZ di ⋯ ∅ (aa (pv 4) aj))) (aZ cC ⋯ ∅ (aa (pv 5) aj))))))))))),?_⟩
  ac_nf
  rw[PR.JF]at k
  unfold ifTree at k
  refine⟨_,rfl,m,s,rfl,M,fun H1 g1=>⟨_,rfl,rfl,_,rfl,?_⟩⟩
  cases hf:forest s (distances s)with
  |false=>
   rw[hf,if_pos rfl]at k
   rw[show uB s=V.int (-8)from by unfold uB;rw[hf];rfl]
   exact aQ ⟨_,rfl,by show 1≤sizeLine;decide,fun p hp=>k _ p (g1.trans (Go.laid hp)) ao⟩
  |true=>
   rw[hf,if_neg (by decide)]at k
   cases hb:(blind s (distances s) s.reach).isEmpty with
   |false=>
    rw[hb,if_pos rfl]at k
    rw[show uB s=V.int (-7)from by unfold uB;rw[hf,hb];rfl]
    exact aQ ⟨_,rfl,by show 1≤sizeLine;decide,fun p hp=>k _ p (g1.trans (Go.laid hp)) ao⟩
   |true=>
    rw[hb,if_neg (by decide)]at k
    rw[show uB s=V.non from by unfold uB;rw[hf,hb];rfl]
    have M1:=M.go g1
    have hn:=M.wf.hi
    have ol:=mq (s:=s)
    refine bu ⟨_,rfl,vm T M1 rfl ⟨m,s,s.reach,rfl,M1,fun H2 q rs g2 A2=>?_⟩⟩
    have M2:=M1.go g2
    refine cP M2 rfl (by decide+kernel) ⟨m,s,rfl,M2,fun H3 p g3 hl3=>?_⟩
    have M3:=M2.go g3
    refine pI T M3 rfl ⟨_,rfl,s,s.reach,order s (distances s),(List.range (size s)).map fun v=>(placeOf s v).cost,p,m.ac,q,rs,rfl,hl3,by rw[←Ir];exact M3.costs,by simp,A2.go g3,fun v hv=>⟨(PR.dU.mp hv).1,wN (PR.jl hb hv)⟩,hn,by omega,fun H4 S g4 T4=>?_⟩
    have A4:=(A2.go g3).go g4
    have M4:=M3.go g4
    have who:(PR.cO s s.reach).map (·.1)=order s (distances s):=PR.p_ (s:=s) (r:=s.reach) (order s (distances s)) ((List.range (size s)).map fun v=>(placeOf s v).cost) []
    have hlt:∀x∈PR.cO s s.reach,x.1<size s:=fun x hx=>(PR.dU.mp (by rw[←who];exact List.mem_map.mpr ⟨x,hx,rfl⟩)).1
    have hbl:(PR.cO s s.reach).length≤size s:=by have:=congrArg List.length who;rw[List.length_map]at this;omega
    have T4:qL H4 S ((PR.cO s s.reach).map IW):=T4
    have hbn:=PR.KZ M.wf hb
    refine⟨_,rfl,_,rfl,s,s.reach,S,q,rs,PR.cO s s.reach,rfl,T4,A4,hlt,by omega,hn,fun H5 P out g5 hp1 hp2 hP=>bO ?_⟩
    have hout:=PR.qU (n:=size s) hbn.1 hbn.2 (fun v=>Iff.rfl) hp1 hp2
    subst hout
    ac_nf
    have T5:=T4.go g5
    rw[Y0]at T5
    refine⟨_,rfl,S,_,rfl,T5,by rw[List.length_map];omega,fun D xs ts' hD hperm hpw T6=>?_⟩
    obtain⟨kk,rfl,hk1,hk2⟩:=Oi hperm hpw
    have g6:Go L H5 (upd H5 D (.lst xs)):=Go.laid hD
    generalize upd H5 D (.lst xs)=H6 at g6 T6 ⊢
    have hce:=PR.Iw M.wf hb hk1 hk2
    dsimp only at k
    rw[hce]at k
    dsimp only at k
    have hkl:kk.length≤size s:=by rw[hk1.length_eq];exact hbl
    refine⟨D,rfl,T6.seq,fun D2 hD2=>?_⟩
    refine Ep (L:=L) (xs:=kk) (fun q=>decide (0<q.2.1)) (fun q=>Ho ((q.1:Int),q.2.1)) hD2 (fB (f:=fun q=>Wo (Km q))) (fun H' g=>by have:=T6.go g;rw[List.map_map]at this;exact this) (by rw[sizeLine_eq];omega) (fun x y H' Ss g e Qn Qy hn hy=>?_) (fun H7 g7 T7=>?_)
    ·obtain⟨t,rfl,ht⟩:=e
     ac_nf
     refine⟨t,_,rfl,mF.of ht,rfl,_,_,rfl,_,_,rfl,_,_,rfl,rfl,rfl,_,rfl,_,_,rfl,rfl,_,rfl,vZ (fun hbb=>?_) (fun hbb=>?_)⟩
     ·refine⟨_,rfl,_,rfl,by show 2≤sizeLine;decide,fun tt htt=>?_⟩
      exact hy hbb tt _ (Go.laid htt) ao
     ·exact hn (Bool.eq_false_iff.mpr hbb) H' (Go.refl _ _)
    ·have hP7:=(g6.trans g7).lst hP
     have M7:=(M4.go g5).go (g6.trans g7)
     have g07:Go L H H7:=(((((g1.trans g2).trans g3).trans g4).trans g5).trans g6).trans g7
     have hrl:(rising (size s) (PR.jC s s.reach (PR.xW (PR.cO s s.reach)).reverse [])).length≤size s:=PR.bH _ _
     have aax:∀v∈rising (size s) (PR.jC s s.reach (PR.xW (PR.cO s s.reach)).reverse []),v<size s:=fun v hv=>List.mem_range.mp (List.mem_filter.mp hv).1
     generalize rising (size s) (PR.jC s s.reach (PR.xW (PR.cO s s.reach)).reverse [])=rz at hP7 k hrl aax
     have aaI:H7 P=some (.lst (rz.map dg)):=by rw[dR];exact hP7
     refine bO ?_
     ac_nf
     refine⟨_,rfl,P,rfl,⟨_,bC.of aaI⟩,fun D3 WW=>?_⟩
     refine bU (L:=L) (xs:=rz) (fun _=>true) (fun v=>V.int (placeOf s v).cost) WW bx (fun H' g=>bC.of (g.lst aaI)) (by rw[sizeLine_eq];omega) (fun x y H' hx g e Qn Qy hn hy=>?_) (fun H8 g8 Zm=>?_)
     ·subst e
      ac_nf
      exact⟨rfl,aQ (pI T (M7.go g) rfl ⟨_,rfl,bj (M7.go g).costs rfl (kh (aax x hx) _) (hy rfl H' (Go.refl _ _))⟩)⟩
     ·rw[bG]at Zm
      refine⟨D3,rz.map fun v=>(placeOf s v).cost,rfl,bC.of (by rw[List.map_map];exact Zm),by show 1≤sizeLine;decide,fun b hb9=>?_⟩
      have g9:Go L H8 (upd H8 b (.lst [.int (rz.map fun v=>(placeOf s v).cost).sum])):=Go.laid hb9
      refine⟨_,rfl,P,rz.map nat,rfl,(g8.trans g9).lst hP7,by rw[List.length_map];omega,fun H10 p10 Zo h10=>?_⟩
      have acF:=Zo.lst (show(upd H8 b (.lst [.int (rz.map fun v=>(placeOf s v).cost).sum])) b=_ from ao)
      refine⟨b,p10,_,_,rfl,rfl,acF,h10,?_,fun c hc=>?_⟩
      ·simp only[List.length_map,List.length_cons,List.length_nil,sizeLine_eq]
       omega
      have g11:Go L H10 (upd H10 c (.lst ([.int (rz.map fun v=>(placeOf s v).cost).sum]++((((rz.map nat).length:Int)::rz.map nat)).map V.int))):=Go.laid hc
      have hfl:(kk.filter fun q=>decide (0<q.2.1)).length≤kk.length:=List.length_filter_le _ _
      refine⟨_,rfl,D2,(kk.filter fun q=>decide (0<q.2.1)).map fun q:Nat×Int×Nat=>((q.1:Int),q.2.1),rfl,by rw[List.map_map];exact T7.go (((g8.trans g9).trans Zo).trans g11),by rw[List.length_map];omega,fun H12 p12 PP h12=>?_⟩
      have acC:=PP.lst (show(upd H10 c _) c=_ from ao)
      refine⟨c,p12,_,_,rfl,rfl,acC,h12,?_,fun d hd=>?_⟩
      ·simp only[List.length_append,List.length_map,List.length_cons,List.length_nil,qe,sizeLine_eq]
       omega
      refine k _ d ((((((g07.trans g8).trans g9).trans Zo).trans g11).trans PP).trans (Go.laid hd)) ?_
      rw[ao]
      congr 2
      unfold ans
      dsimp only
      rw[PR.xY]
      unfold Vbedaf.listed xf
      simp only[List.map_cons,List.map_append,List.flatMap_map,List.length_map,List.cons_append,List.nil_append,List.append_assoc]
      rfl
theorem iK{p:Int}{n:Nat}(h:PR.behind p=some n):(p=0∧n=2)∨(p=1∧n=3)∨(p=2∧n=2)∨(p=3∧n=2)∨(p=4∧n=2)∨(p=5∧n=1)∨(p=6∧n=2)∨(p=7∧n=0)∨(p=8∧n=0)∨(p=9∧n=0)∨(p=10∧n=0)∨(p=11∧n=0)∨(p=15∧n=1)∨(p=16∧n=1)∨(p=19∧n=0):=by
 unfold PR.behind at h
 have go:∀(q:Int) (a:Nat) (R:Option Nat) (Z W:Prop),(p=q→n=a→W)→(R=some n→W)→(if p=q then some a else R)=some n→W:=fun q a R Z W h1 h2 h3=>by
  by_cases e:p=q
  ·rw[if_pos e]at h3;exact h1 e (Option.some.inj h3).symm
  ·rw[if_neg e]at h3;exact h2 h3
 revert h
 refine go 0 2 _ True _ (fun a b=> .inl ⟨a,b⟩) fun h=> .inr ?_
 revert h
 refine go 1 3 _ True _ (fun a b=> .inl ⟨a,b⟩) fun h=> .inr ?_
 revert h
 refine go 2 2 _ True _ (fun a b=> .inl ⟨a,b⟩) fun h=> .inr ?_
 revert h
 refine go 3 2 _ True _ (fun a b=> .inl ⟨a,b⟩) fun h=> .inr ?_
 revert h
 refine go 4 2 _ True _ (fun a b=> .inl ⟨a,b⟩) fun h=> .inr ?_
 revert h
 refine go 5 1 _ True _ (fun a b=> .inl ⟨a,b⟩) fun h=> .inr ?_
 revert h
 refine go 6 2 _ True _ (fun a b=> .inl ⟨a,b⟩) fun h=> .inr ?_
 revert h
 refine go 7 0 _ True _ (fun a b=> .inl ⟨a,b⟩) fun h=> .inr ?_
 revert h
 refine go 8 0 _ True _ (fun a b=> .inl ⟨a,b⟩) fun h=> .inr ?_
 revert h
 refine go 9 0 _ True _ (fun a b=> .inl ⟨a,b⟩) fun h=> .inr ?_
 revert h
 refine go 10 0 _ True _ (fun a b=> .inl ⟨a,b⟩) fun h=> .inr ?_
 revert h
 refine go 11 0 _ True _ (fun a b=> .inl ⟨a,b⟩) fun h=> .inr ?_
 revert h
 refine go 15 1 _ True _ (fun a b=> .inl ⟨a,b⟩) fun h=> .inr ?_
 revert h
 refine go 16 1 _ True _ (fun a b=> .inl ⟨a,b⟩) fun h=> .inr ?_
 revert h
 exact go 19 0 none True _ (fun a b=>⟨a,b⟩) fun h=>by cases h
theorem vX{x:List Int}(h:x.length=1):∃a,x=[a]:=by
 match x,h with| [a],_=>exact⟨a,rfl⟩
theorem sW{x:List Int}(h:x.length=2):∃a b,x=[a,b]:=by
 match x,h with| [a,b],_=>exact⟨a,b,rfl⟩
theorem aag{x:List Int}(h:x.length=3):∃a b c,x=[a,b,c]:=by
 match x,h with| [a,b,c],_=>exact⟨a,b,c,rfl⟩
theorem len0{x:List Int}(h:x.length=0):x=[]:=List.length_eq_zero_iff.mp h
theorem bV.ro{L:List aG}{C:Addr}{H:Hp}{Q:VK}{m:Ad}{s:State}{c:Rows}(k:bV L C H Q m (step s c))(M:aR L C H m s)(h:(step s c).1=s):Gives L H Q (step s c).2:=
 bV.same M (by have e:step s c=(s,(step s c).2):=Prod.ext h rfl;rw[e]at k;exact k)
theorem ro6(s:State)(a b:Int):(step s [[6,a,b]]).1=s:=by rw[PR.QM];split<;>rfl
theorem ro7(s:State):(step s [[7]]).1=s:=rfl
theorem ro8(s:State):(step s [[8]]).1=s:=rfl
theorem ro9(s:State):(step s [[9]]).1=s:=rfl
theorem abV(s:State):(step s [[10]]).1=s:=by rw[PR.JG];unfold ifTree;split;rfl;split<;>rfl
theorem abU(s:State):(step s [[11]]).1=s:=by rw[PR.JF];unfold ifTree;split;rfl;split<;>rfl
theorem abT(s:State)(l:List Int):(step s [[12],l]).1=s:=by rw[PR.JD];split;rfl;split<;>rfl
theorem abS(s:State)(l:List Int):(step s [[13],l]).1=s:=by rw[PR.JC];split<;>rfl
theorem abR(s:State)(l:List Int):(step s [[14],l]).1=s:=by rw[PR.JB];split;rfl;split<;>rfl
theorem abQ(s:State)(k:Int):(step s [[15,k]]).1=s:=by rw[PR.Jz];split<;>rfl
theorem abP(s:State)(k:Int):(step s [[16,k]]).1=s:=by rw[PR.Jy];split;rfl;split<;>rfl
theorem abO(s:State)(l:List Int):(step s [[17],l]).1=s:=by rw[PR.Jx];split<;>rfl
theorem abN(s:State)(l:List Int):(step s [[18],l]).1=s:=by rw[PR.Jw];split<;>rfl
theorem abM(s:State):(step s [[19]]).1=s:=rfl
def jF(_:Bs)(L:List aG)(C:Addr):Sp:=fun vs H Q _=>∃(m:Ad) (s:State) (c:Int) (a:Addr) (x:List Int) (n:Nat),vs=[.ref m.p,.int c,.ref a]∧aR L C H m s∧H a=some (.lst (x.map V.int))∧PR.behind c=some n∧x.length=n∧c≤5∧bV L C H Q m (step s [c::x])
theorem qF:aJ ["roadmap","call","numbers"] ["roadmap","call","numbers"] (au (top 83)):=by symm_saturate
theorem qI{B:Bs}{L:List aG}{C c:Addr}(T:Txt B C)(F:bJ B "answer_to_change" (top 83) ["roadmap","call","numbers"])(Fx:Df B 6 "begin" ["roadmap","n","r"] (GX B L C))(KD:Df B 8 "road" ["roadmap","a","b","length"] (LK B L C))(KJ:Df B 4 "need" ["roadmap","v","d"] (LR B L C))(KN:Df B 4 "cost" ["roadmap","v","c"] (L_ B L C))(Tg:Df B 4 "bar" ["roadmap","v","k"] (QV B L C))(Fp:Df B 2 "reach" ["roadmap","r"] (GJ B L C)):Df B 10 "answer_to_change" ["roadmap","call","numbers"] (jF B L C):=by
 exists qF
 ·obtain⟨_,_,_,_,_,_,rfl,_⟩:=h
  rfl
 ·obtain⟨m,s,c,a,x,n,rfl,M,ha,hb,hx,hc,k⟩:=h
  refine⟨_,(ak (bB (aO du (pv 1) aA (by exact aX _)) (aq (az (aZ Fx ⋯ ∅ (aa (pv 0) (aa (bc (aD ⋯) (pv 2) aA (by intro _ _;rfl)) (aa (bc (aD ⋯) (pv 2) aA (by intro _ _;rfl)) aj)))))) aK)
   (ak (bB (aO du (pv 1) aA (by exact aX _)) (aq (az (aZ KD ⋯ ∅ (aa (pv 0) (aa (bc (aD ⋯) (pv 2) aA (by intro _ _;rfl)) (aa (bc (aD ⋯) (pv 2) aA (by intro _ _;rfl)) (aa (bc (aD ⋯) (pv 2) aA (by intro _ _;rfl)) aj))))))) aK)
   (ak (bB (aO du (pv 1) aA (by exact aX _)) (aq (az (aZ KJ ⋯ ∅ (aa (pv 0) (aa (bc (aD ⋯) (pv 2) aA (by intro _ _;rfl)) (aa (bc (aD ⋯) (pv 2) aA (by intro _ _;rfl)) aj)))))) aK)
   (ak (bB (aO du (pv 1) aA (by exact aX _)) (aq (az (aZ KN ⋯ ∅ (aa (pv 0) (aa (bc (aD ⋯) (pv 2) aA (by intro _ _;rfl)) (aa (bc (aD ⋯) (pv 2) aA (by intro _ _;rfl)) aj)))))) aK)
   (ak (bB (aO du (pv 1) aA (by exact aX _)) (aq (az (aZ Tg ⋯ ∅ (aa (pv 0) (aa (bc (aD ⋯) (pv 2) aA (by intro _ _;rfl)) (aa (bc (aD ⋯) (pv 2) aA (by intro _ _;rfl)) aj)))))) aK)
   (aq (az (aZ Fp ⋯ ∅ (aa (pv 0) (aa (bc (aD ⋯) (pv 2) aA (by intro _ _;rfl)) aj)))))))))),?_⟩
  ac_nf
  rcases iK hb with⟨rfl,rfl⟩| ⟨rfl,rfl⟩| ⟨rfl,rfl⟩| ⟨rfl,rfl⟩| ⟨rfl,rfl⟩| ⟨rfl,rfl⟩| ⟨rfl,rfl⟩| ⟨rfl,rfl⟩| ⟨rfl,rfl⟩| ⟨rfl,rfl⟩| ⟨rfl,rfl⟩| ⟨rfl,rfl⟩| ⟨rfl,rfl⟩| ⟨rfl,rfl⟩| ⟨rfl,rfl⟩
  ·obtain⟨u,w,rfl⟩:=sW hx
   exact⟨_,rfl,rfl,_,rfl,aQ ⟨_,rfl,_,rfl,bj (j:=0) ha rfl rfl ⟨_,rfl,bj (j:=1) ha rfl rfl ⟨m,s,u,w,rfl,M,k⟩⟩⟩⟩
  ·obtain⟨u,w,z,rfl⟩:=aag hx
   exact⟨_,rfl,rfl,_,rfl,bu ⟨_,rfl,rfl,_,rfl,aQ ⟨_,rfl,_,rfl,bj (j:=0) ha rfl rfl ⟨_,rfl,bj (j:=1) ha rfl rfl ⟨_,rfl,bj (j:=2) ha rfl rfl ⟨m,s,u,w,z,rfl,M,k⟩⟩⟩⟩⟩⟩
  ·obtain⟨u,w,rfl⟩:=sW hx
   exact⟨_,rfl,rfl,_,rfl,bu ⟨_,rfl,rfl,_,rfl,bu ⟨_,rfl,rfl,_,rfl,aQ ⟨_,rfl,_,rfl,bj (j:=0) ha rfl rfl ⟨_,rfl,bj (j:=1) ha rfl rfl ⟨m,s,u,w,rfl,M,k⟩⟩⟩⟩⟩⟩
  ·obtain⟨u,w,rfl⟩:=sW hx
   exact⟨_,rfl,rfl,_,rfl,bu ⟨_,rfl,rfl,_,rfl,bu ⟨_,rfl,rfl,_,rfl,bu ⟨_,rfl,rfl,_,rfl,aQ ⟨_,rfl,_,rfl,bj (j:=0) ha rfl rfl ⟨_,rfl,bj (j:=1) ha rfl rfl ⟨m,s,u,w,rfl,M,k⟩⟩⟩⟩⟩⟩⟩
  ·obtain⟨u,w,rfl⟩:=sW hx
   exact⟨_,rfl,rfl,_,rfl,bu ⟨_,rfl,rfl,_,rfl,bu ⟨_,rfl,rfl,_,rfl,bu ⟨_,rfl,rfl,_,rfl,bu ⟨_,rfl,rfl,_,rfl,aQ ⟨_,rfl,_,rfl,bj (j:=0) ha rfl rfl ⟨_,rfl,bj (j:=1) ha rfl rfl ⟨m,s,u,w,rfl,M,k⟩⟩⟩⟩⟩⟩⟩⟩
  ·obtain⟨u,rfl⟩:=vX hx
   exact⟨_,rfl,rfl,_,rfl,bu ⟨_,rfl,rfl,_,rfl,bu ⟨_,rfl,rfl,_,rfl,bu ⟨_,rfl,rfl,_,rfl,bu ⟨_,rfl,rfl,_,rfl,bu ⟨_,rfl,_,rfl,bj (j:=0) ha rfl rfl ⟨m,s,u,rfl,M,k⟩⟩⟩⟩⟩⟩⟩
  all_goals exact absurd hc (by decide)
def lH(_:Bs)(L:List aG)(C:Addr):Sp:=fun vs H Q _=>∃(m:Ad) (s:State) (c:Int) (a:Addr) (x:List Int),vs=[.ref m.p,.int c,.ref a]∧aR L C H m s∧H a=some (.lst (x.map V.int))∧PR.bY c=true∧x.length≤4000∧bV L C H Q m (step s [[c],x])
theorem sU{c:Int}(h:PR.bY c=true):c=12∨c=13∨c=14∨c=17∨c=18:=by
 unfold PR.bY at h
 simp only[Bool.or_eq_true,decide_eq_true_eq]at h
 omega
theorem uz:aJ ["roadmap","call","row"] ["roadmap","call","row"] (au (top 84)):=by symm_saturate
theorem uN{B:Bs}{L:List aG}{C c:Addr}(T:Txt B C)(F:bJ B "answer_to_list" (top 84) ["roadmap","call","row"])(zN:Df B 10 "covers" ["roadmap","row"] (BL B L C))(Fy:Df B 6 "apart" ["roadmap","row"] (GZ B L C))(KH:Df B 8 "pays" ["roadmap","row"] (LQ B L C))(wG:Df B 8 "nearest" ["roadmap","row"] (yC B L C))(Fv:Df B 10 "frail" ["roadmap","row"] (GQ B L C)):Df B 12 "answer_to_list" ["roadmap","call","row"] (lH B L C):=by
 exists uz
 ·obtain⟨_,_,_,_,_,rfl,_⟩:=h
  rfl
 ·obtain⟨m,s,c,a,x,rfl,M,ha,hb,hx,k⟩:=h
  refine⟨_,(ak (bB (aO du (pv 1) aA (by exact aX _)) (aq (az (aZ zN ⋯ ∅ (aa (pv 0) (aa (pv 2) aj))))) aK)
   (ak (bB (aO du (pv 1) aA (by exact aX _)) (aq (az (aZ Fy ⋯ ∅ (aa (pv 0) (aa (pv 2) aj))))) aK)
   (ak (bB (aO du (pv 1) aA (by exact aX _)) (aq (az (aZ KH ⋯ ∅ (aa (pv 0) (aa (pv 2) aj))))) aK)
   (ak (bB (aO du (pv 1) aA (by exact aX _)) (aq (az (aZ wG ⋯ ∅ (aa (pv 0) (aa (pv 2) aj))))) aK)
   (aq (az (aZ Fv ⋯ ∅ (aa (pv 0) (aa (pv 2) aj))))))))),?_⟩
  ac_nf
  rcases sU hb with rfl|rfl|rfl|rfl|rfl
  ·exact⟨_,rfl,rfl,_,rfl,aQ ⟨_,rfl,_,rfl,m,s,a,x,rfl,M,ha,hx,k.ro M (abT s x)⟩⟩
  ·exact⟨_,rfl,rfl,_,rfl,bu ⟨_,rfl,rfl,_,rfl,aQ ⟨_,rfl,_,rfl,m,s,a,x,rfl,M,ha,hx,k.ro M (abS s x)⟩⟩⟩
  ·exact⟨_,rfl,rfl,_,rfl,bu ⟨_,rfl,rfl,_,rfl,bu ⟨_,rfl,rfl,_,rfl,aQ ⟨_,rfl,_,rfl,m,s,a,x,rfl,M,ha,hx,k.ro M (abR s x)⟩⟩⟩⟩
  ·exact⟨_,rfl,rfl,_,rfl,bu ⟨_,rfl,rfl,_,rfl,bu ⟨_,rfl,rfl,_,rfl,bu ⟨_,rfl,rfl,_,rfl,aQ ⟨_,rfl,_,rfl,m,s,a,x,rfl,M,ha,hx,k.ro M (abO s x)⟩⟩⟩⟩⟩
  ·exact⟨_,rfl,rfl,_,rfl,bu ⟨_,rfl,rfl,_,rfl,bu ⟨_,rfl,rfl,_,rfl,bu ⟨_,rfl,rfl,_,rfl,bu ⟨_,rfl,_,rfl,m,s,a,x,rfl,M,ha,hx,k.ro M (abN s x)⟩⟩⟩⟩⟩
def lG(_:Bs)(L:List aG)(C:Addr):Sp:=fun vs H Q _=>∃(m:Ad) (s:State) (c:Int),vs=[.ref m.p,.int c]∧aR L C H m s∧PR.behind c=some 0∧bV L C H Q m (step s [[c]])
theorem uy:aJ ["roadmap","call"] ["roadmap","call"] (au (top 85)):=by symm_saturate
theorem uM{B:Bs}{L:List aG}{C c:Addr}(T:Txt B C)(F:bJ B "answer_to_word" (top 85) ["roadmap","call"])(Kz:Df B 2 "tree" ["roadmap"] (Lz B L C))(Fq:Df B 10 "order" ["roadmap"] (GK B L C))(Fw:Df B 10 "blind" ["roadmap"] (GR B L C))(Ft:Df B 12 "least" ["roadmap"] (GP B L C))(tO:Df B 12 "cheapest" ["roadmap"] (wV B L C))(KC:Df B 2 "told" ["roadmap"] (LC B L C)):Df B 14 "answer_to_word" ["roadmap","call"] (lG B L C):=by
 exists uy
 ·obtain⟨_,_,_,rfl,_⟩:=h
  rfl
 ·obtain⟨m,s,c,rfl,M,hb,k⟩:=h
  refine⟨_,(ak (bB (aO du (pv 1) aA (by exact aX _)) (aq (az (aZ Kz ⋯ ∅ (aa (pv 0) aj)))) aK)
   (ak (bB (aO du (pv 1) aA (by exact aX _)) (aq (az (aZ Fq ⋯ ∅ (aa (pv 0) aj)))) aK)
   (ak (bB (aO du (pv 1) aA (by exact aX _)) (aq (az (aZ Fw ⋯ ∅ (aa (pv 0) aj)))) aK)
   (ak (bB (aO du (pv 1) aA (by exact aX _)) (aq (az (aZ Ft ⋯ ∅ (aa (pv 0) aj)))) aK)
   (ak (bB (aO du (pv 1) aA (by exact aX _)) (aq (az (aZ tO ⋯ ∅ (aa (pv 0) aj)))) aK)
   (aq (az (aZ KC ⋯ ∅ (aa (pv 0) aj))))))))),?_⟩
  ac_nf
  rcases iK hb with⟨rfl,h⟩| ⟨rfl,h⟩| ⟨rfl,h⟩| ⟨rfl,h⟩| ⟨rfl,h⟩| ⟨rfl,h⟩| ⟨rfl,h⟩| ⟨rfl,h⟩| ⟨rfl,h⟩| ⟨rfl,h⟩| ⟨rfl,h⟩| ⟨rfl,h⟩| ⟨rfl,h⟩| ⟨rfl,h⟩| ⟨rfl,h⟩
  all_goals (first| (exfalso;clear k;revert h;decide)|clear h)
  ·exact⟨_,rfl,rfl,_,rfl,aQ ⟨_,rfl,m,s,rfl,M,k.ro M (ro7 s)⟩⟩
  ·exact⟨_,rfl,rfl,_,rfl,bu ⟨_,rfl,rfl,_,rfl,aQ ⟨_,rfl,m,s,rfl,M,k.ro M (ro8 s)⟩⟩⟩
  ·exact⟨_,rfl,rfl,_,rfl,bu ⟨_,rfl,rfl,_,rfl,bu ⟨_,rfl,rfl,_,rfl,aQ ⟨_,rfl,m,s,rfl,M,k.ro M (ro9 s)⟩⟩⟩⟩
  ·exact⟨_,rfl,rfl,_,rfl,bu ⟨_,rfl,rfl,_,rfl,bu ⟨_,rfl,rfl,_,rfl,bu ⟨_,rfl,rfl,_,rfl,aQ ⟨_,rfl,m,s,rfl,M,k.ro M (abV s)⟩⟩⟩⟩⟩
  ·exact⟨_,rfl,rfl,_,rfl,bu ⟨_,rfl,rfl,_,rfl,bu ⟨_,rfl,rfl,_,rfl,bu ⟨_,rfl,rfl,_,rfl,bu ⟨_,rfl,rfl,_,rfl,aQ ⟨_,rfl,m,s,rfl,M,k.ro M (abU s)⟩⟩⟩⟩⟩⟩
  ·exact⟨_,rfl,rfl,_,rfl,bu ⟨_,rfl,rfl,_,rfl,bu ⟨_,rfl,rfl,_,rfl,bu ⟨_,rfl,rfl,_,rfl,bu ⟨_,rfl,rfl,_,rfl,bu ⟨_,rfl,m,s,rfl,M,k.ro M (abM s)⟩⟩⟩⟩⟩⟩
def jf(_:Bs)(L:List aG)(C:Addr):Sp:=fun vs H Q _=>∃(m:Ad) (s:State) (c:Int) (a:Addr) (x:List Int) (n:Nat),vs=[.ref m.p,.int c,.ref a]∧aR L C H m s∧H a=some (.lst (x.map V.int))∧PR.behind c=some n∧x.length=n∧(c=6∨c=15∨c=16)∧bV L C H Q m (step s [c::x])
theorem oU:aJ ["roadmap","call","numbers"] ["roadmap","call","numbers"] (au (top 86)):=by symm_saturate
theorem o7{B:Bs}{L:List aG}{C c:Addr}(T:Txt B C)(F:bJ B "answer_to_numbers" (top 86) ["roadmap","call","numbers"])(tM:Df B 4 "distance" ["roadmap","a","b"] (wU B L C))(Tf:Df B 10 "few" ["roadmap","k"] (QT B L C))(zM:Df B 14 "radius" ["roadmap","k"] (BK B L C)):Df B 16 "answer_to_numbers" ["roadmap","call","numbers"] (jf B L C):=by
 exists oU
 ·obtain⟨_,_,_,_,_,_,rfl,_⟩:=h
  rfl
 ·obtain⟨m,s,c,a,x,n,rfl,M,ha,hb,hx,hc,k⟩:=h
  refine⟨_,(ak (bB (aO du (pv 1) aA (by exact aX _)) (aq (az (aZ tM ⋯ ∅ (aa (pv 0) (aa (bc (aD ⋯) (pv 2) aA (by intro _ _;rfl)) (aa (bc (aD ⋯) (pv 2) aA (by intro _ _;rfl)) aj)))))) aK)
   (ak (bB (aO du (pv 1) aA (by exact aX _)) (aq (az (aZ Tf ⋯ ∅ (aa (pv 0) (aa (bc (aD ⋯) (pv 2) aA (by intro _ _;rfl)) aj))))) aK)
   (aq (az (aZ zM ⋯ ∅ (aa (pv 0) (aa (bc (aD ⋯) (pv 2) aA (by intro _ _;rfl)) aj))))))),?_⟩
  ac_nf
  rcases hc with rfl|rfl|rfl
  ·have:n=2:=by have:some 2=some n:=hb;exact(Option.some.inj this).symm
   subst this
   obtain⟨u,w,rfl⟩:=sW hx
   exact⟨_,rfl,rfl,_,rfl,aQ ⟨_,rfl,_,rfl,bj (j:=0) ha rfl rfl ⟨_,rfl,bj (j:=1) ha rfl rfl ⟨m,s,u,w,rfl,M,k.ro M (ro6 s u w)⟩⟩⟩⟩
  ·have:n=1:=by have:some 1=some n:=hb;exact(Option.some.inj this).symm
   subst this
   obtain⟨u,rfl⟩:=vX hx
   exact⟨_,rfl,rfl,_,rfl,bu ⟨_,rfl,rfl,_,rfl,aQ ⟨_,rfl,_,rfl,bj (j:=0) ha rfl rfl ⟨m,s,u,rfl,M,k.ro M (abQ s u)⟩⟩⟩⟩
  ·have:n=1:=by have:some 1=some n:=hb;exact(Option.some.inj this).symm
   subst this
   obtain⟨u,rfl⟩:=vX hx
   exact⟨_,rfl,rfl,_,rfl,bu ⟨_,rfl,rfl,_,rfl,bu ⟨_,rfl,_,rfl,bj (j:=0) ha rfl rfl ⟨m,s,u,rfl,M,k.ro M (abP s u)⟩⟩⟩⟩
def nbD:List (PyData×PyData):=[(.int 0,.int 2),(.int 1,.int 3),(.int 2,.int 2),(.int 3,.int 2),(.int 4,.int 2),(.int 5,.int 1),(.int 6,.int 2),(.int 7,.int 0),(.int 8,.int 0),(.int 9,.int 0),(.int 10,.int 0),(.int 11,.int 0),(.int 15,.int 1),(.int 16,.int 1),(.int 19,.int 0)]
def Zy:List V:=[.int 12,.int 13,.int 14,.int 17,.int 18]
def Zx:List V:=[.int 7,.int 8,.int 9,.int 10,.int 11,.int 19]
structure Txt2(B:Bs)(C:Addr):Prop where
 qN:∃a,B.mg "WITH_A_LIST"=some (.ref a)∧∀H,mF B.K H a Zy
 uf:∃a,B.mg "WITHOUT_NUMBERS"=some (.ref a)∧∀H,mF B.K H a Zx
 wH:∃a,B.mg "NUMBERS_BEHIND"=some (.ref a)∧IntTab B.P B.w B.base a nbD
 mks:PySem.W.makesIn B.K C=true∧PySem.W.keepIn B.K (.ref C)=true
def tGT(K:PySem.W.Frag)(xs:List V):TE:=fun _ H Q=>∀a,(∀H',mF K H' a xs)→Q (.ref a) H
def tKd(D:List (PyData×PyData))(te:TE):TE:=fun σ H Q=>te σ H fun x H1=>∃i n:Int,x= .int i∧lookup (.int i) D=some (.int n)∧Q (.int n) H1
section
variable{X:Cx}{B:Bs}{C:Addr}{x:Str}{pos p:Pos}
theorem Rv{xs:List V}(i:In B X)(h:∃a,B.mg x=some (.ref a)∧∀H,mF B.K H a xs)(hg:Gl X x:=by rfl)(hd:(x==("__debug__":Str))=false:=by decide):PE X (.Name x pos) (tGT B.K xs):=by
 obtain⟨a,h1,h2⟩:=h
 intro pins s σ H Q I q
 exact DR hg (by rw[i.mg];exact h1) (show RelV (.ref a) (.ref a)from rfl) hd pins s σ H Q I (q a h2)
theorem Z5{e:Expr}{te:TE}{D:List (PyData×PyData)}(i:In B X)(h:∃a,B.mg x=some (.ref a)∧IntTab B.P B.w B.base a D)(he:PE X e te)(hs:Nk e:=by intro _ _;rfl)(hg:Gl X x:=by rfl)(hd:(x==("__debug__":Str))=false:=by decide)(hlt:∀o r,letTemporaryGo (.Name x p) o r=pure ():=by intro _ _;with_unfolding_all rfl):
  PE X (.Subscript (.Name x p) e pos) (tKd D te):=by
 obtain⟨a,h1,h2⟩:=h
 intro pins s σ H Q I q
 refine Subscript_ (cW ((DR hg (by rw[i.mg];exact h1) (show RelV (.ref a) (.ref a)from rfl) hd:PE X (.Name x p) (tC (.ref a))) pins s σ H (fun v H1=>v= .ref a∧H1=H) I ⟨rfl,rfl⟩) fun v s1 ⟨xv,H1,I1,rx,e1,e2⟩=>?_)
 subst e1 e2
 cases rx
 refine cW (he pins s1 σ H1 _ I1 q) fun u s2 ⟨yv,H2,I2,ry,j,n,e,hl,q⟩=>?_
 subst e
 obtain⟨t,rfl⟩:=ry
 rw[←i.P,←i.w]at h2
 refine item_intTab (KTD.tab_keep h2 fun b o e=>I2.bk b o (by rw[i.base];exact e)) hl (fun v hv=>?_) (hs _ _) (hlt _)
 obtain⟨tv,rfl⟩:=hv.int_inv
 exact⟨.int n,H2,I2.tok _,⟨tv,rfl⟩,q⟩
theorem XN{k:Nat}{sp:Sp}(D:Mt B C k "__init__" ["self"] sp)(i:In B X)(M:PySem.W.makesIn B.K C=true∧PySem.W.keepIn B.K (.ref C)=true)(hm:B.mg x=some (.ref C))(hr:eQ (k+1) X.A)(hg:Gl X x:=by rfl)(hdb:(x==("__debug__":Str))=false:=by decide):
  PE X (.Call (.Name x p) [] [] pos) (Wn C sp [] E0 Jt):=by
 obtain⟨f,fd,F,h1,h3⟩:=D
 have hK:=i.K
 have hmg:=i.mg
 rw[←i.P,←i.w,←hK,←hmg,←i.base]at F
 rw[←hK]at h1 h3 M
 exact Ru (f:=f) ⟨M.1,h1.at_,h1.fn,M.2⟩ F hr hg (by rw[hmg];exact hm) h3 .nil Mm hdb
end
theorem Yn(c:Int):inV (.int c) Zy=PR.bY c:=by
 unfold inV Zy PR.bY
 rw[Bool.eq_iff_iff]
 simp only[List.any_cons,List.any_nil,Bool.or_false,Bool.or_eq_true,TF,decide_eq_true_eq,beq_iff_eq]
 omega
theorem Ym(c:Int):inV (.int c) Zx=(decide (c=7)||decide (c=8)||decide (c=9)||decide (c=10)||decide (c=11)||decide (c=19)):=by
 unfold inV Zx
 rw[Bool.eq_iff_iff]
 simp only[List.any_cons,List.any_nil,Bool.or_false,Bool.or_eq_true,TF,decide_eq_true_eq,beq_iff_eq]
 omega
theorem MP{c:Int}{b:Bool}(h:PR.bY c=b):(if false=true then !inV (V.int c) Zy else inV (V.int c) Zy)=b:=by
 rw[if_neg (by decide),Yn];exact h
theorem WP{c:Int}{b:Bool}(h:(decide (c=7)||decide (c=8)||decide (c=9)||decide (c=10)||decide (c=11)||decide (c=19))=b):(if false=true then !inV (V.int c) Zx else inV (V.int c) Zx)=b:=by
 rw[if_neg (by decide),Ym];exact h
inductive Jf(c:Int)(x:List Int):Rows→Prop
 |row:PR.bY c=true→x.length≤4000→Jf c x [[c],x]
 |nums {n:Nat}:PR.bY c=false→PR.behind c=some n→x.length=n→Jf c x [c::x]
def ur(_:Bs)(L:List aG)(C:Addr):Sp:=fun vs H Q _=>∃(m:Ad) (s:State) (c:Int) (a:Addr) (x:List Int) (r:Rows),vs=[.ref m.p,.int c,.ref a]∧aR L C H m s∧H a=some (.lst (x.map V.int))∧Jf c x r∧bV L C H Q m (step s r)
theorem Dz:aJ ["roadmap","call","numbers"] ["roadmap","call","numbers"] (au (top 82)):=by symm_saturate
theorem Eh{B:Bs}{L:List aG}{C c:Addr}(T:Txt B C)(F:bJ B "answer_to" (top 82) ["roadmap","call","numbers"])(gM:Df B 10 "answer_to_change" ["roadmap","call","numbers"] (jF B L C))(iZ:Df B 12 "answer_to_list" ["roadmap","call","row"] (lH B L C))(iY:Df B 14 "answer_to_word" ["roadmap","call"] (lG B L C))(gh:Df B 16 "answer_to_numbers" ["roadmap","call","numbers"] (jf B L C))(T2:Txt2 B C):Df B 18 "answer_to" ["roadmap","call","numbers"] (ur B L C):=by
 exists Dz
 ·obtain⟨_,_,_,_,_,_,rfl,_⟩:=h
  rfl
 ·obtain⟨m,s,c,a,x,r,rfl,M,ha,hc,k⟩:=h
  refine⟨_,(ak (bB (aO fj (pv 1) (cD T.lY) (by exact aX _)) (aq (az (aZ gM ⋯ ∅ (aa (pv 0) (aa (pv 1) (aa (pv 2) aj)))))) aK)
   (ak (bB (aO (kI ⋯) (pv 1) (Rv ⋯ T2.qN) rfl) (aq (az (aZ iZ ⋯ ∅ (aa (pv 0) (aa (pv 1) (aa (pv 2) aj)))))) aK)
   (ak (bB (aO (kI ⋯) (pv 1) (Rv ⋯ T2.uf) rfl) (aq (az (aZ iY ⋯ ∅ (aa (pv 0) (aa (pv 1) aj))))) aK)
   (aq (az (aZ gh ⋯ ∅ (aa (pv 0) (aa (pv 1) (aa (pv 2) aj))))))))),?_⟩
  ac_nf
  refine⟨_,rfl,_,_,rfl,rfl,_,rfl,?_⟩
  cases hc with
  |row hw hx=>
   have h5:¬c≤5:=by rcases sU hw with rfl|rfl|rfl|rfl|rfl<;>decide
   rw[decide_eq_false h5]
   refine bu ⟨_,rfl,fun wa hwa=>⟨wa,_,rfl,.inr (hwa _),rfl,by decide,_,rfl,?_⟩⟩
   rw[MP hw]
   exact aQ ⟨_,rfl,_,rfl,_,rfl,m,s,c,a,x,rfl,M,ha,hw,hx,k⟩
  |nums hw hb hx=>
   by_cases h5:c≤5
   ·rw[decide_eq_true h5]
    exact aQ ⟨_,rfl,_,rfl,_,rfl,m,s,c,a,x,_,rfl,M,ha,hb,hx,h5,k⟩
   ·rw[decide_eq_false h5]
    refine bu ⟨_,rfl,fun wa hwa=>⟨wa,_,rfl,.inr (hwa _),rfl,by decide,_,rfl,?_⟩⟩
    rw[MP hw]
    refine bu ⟨_,rfl,fun wb hwb=>⟨wb,_,rfl,.inr (hwb _),rfl,by decide,_,rfl,?_⟩⟩
    have word:(c=7∨c=8∨c=9∨c=10∨c=11∨c=19)∨(c=6∨c=15∨c=16):=by
     rcases iK hb with⟨e,_⟩| ⟨e,_⟩| ⟨e,_⟩| ⟨e,_⟩| ⟨e,_⟩| ⟨e,_⟩| ⟨e,_⟩| ⟨e,_⟩| ⟨e,_⟩| ⟨e,_⟩| ⟨e,_⟩| ⟨e,_⟩| ⟨e,_⟩| ⟨e,_⟩| ⟨e,_⟩<;>omega
    rcases word with word|word
    ·have e:(decide (c=7)||decide (c=8)||decide (c=9)||decide (c=10)||decide (c=11)||decide (c=19))=true:=by
      simp only[Bool.or_eq_true,decide_eq_true_eq];omega
     rw[WP e]
     have hb0:PR.behind c=some 0:=by rcases word with rfl|rfl|rfl|rfl|rfl|rfl<;>rfl
     rw[hb0]at hb
     have:=Option.some.inj hb
     subst this
     obtain rfl:=len0 hx
     exact aQ ⟨_,rfl,_,rfl,m,s,c,rfl,M,hb0,k⟩
    ·have e:(decide (c=7)||decide (c=8)||decide (c=9)||decide (c=10)||decide (c=11)||decide (c=19))=false:=by
      simp only[Bool.or_eq_false_iff,decide_eq_false_iff_not];omega
     rw[WP e]
     exact bu ⟨_,rfl,_,rfl,_,rfl,m,s,c,a,x,_,rfl,M,ha,hb,hx,word,k⟩
end PM
namespace PM
open Vbedaf
theorem kW(l:List Nat):(Vbedaf.listed l).length=l.length+1:=by unfold Vbedaf.listed;simp
theorem zg{s:State}{l:List Int}{b:Nat}(h:forest s (distances s)=true→(blind s (distances s) s.reach).isEmpty=true→l.length≤b)(hb:1≤b):(ifTree s (distances s) l).2.length≤b:=by
 unfold ifTree
 cases hf:forest s (distances s)with
 |false=>rw[if_pos rfl];exact hb
 |true=>
  rw[if_neg (by decide)]
  cases hbl:(blind s (distances s) s.reach).isEmpty with
  |false=>rw[if_pos rfl];exact hb
  |true=>rw[if_neg (by decide)];exact h hf hbl
theorem H_{α β:Type}{f:α→List β}{c:Nat}:∀ {l:List α},(∀x∈l,(f x).length≤c)→(l.flatMap f).length≤c*l.length
 | [],_=>by simp
 |x::l,h=>by
  rw[List.flatMap_cons,List.length_append,List.length_cons,Nat.mul_add]
  have:=h x List.mem_cons_self
  have:=H_ (l:=l) fun y hy=>h y (List.mem_cons_of_mem _ hy)
  omega
theorem D_(s:State)(v:Int)(ok:Bool)(f:Nat→Place→Place):(onV s v ok f).2.length=1:=by unfold onV;split<;>rfl
theorem Cd(o:Option Int):(maybe o).length=2:=by cases o<;>rfl
theorem aam{s:State}(W:PR.Wf s):(step s [[10]]).2.length≤9000:=by
 rw[PR.JG]
 refine zg (fun _ _=>?_) (by decide)
 dsimp only
 rw[PR.yZ]
 dsimp only
 rw[List.length_cons,List.length_append,kW]
 unfold pairsOut
 rw[List.length_cons,PR.qg,PR.pG,List.length_map]
 have h1:=PR.bH (size s) fun v=>decide (0<PR.cnt (PR.aL (PR.ju s s.reach (needOf s) (order s (distances s)) [])) v)
 have h2:(rising (size s) (PR.takes s s.reach (PR.fZ (PR.ju s s.reach (needOf s) (order s (distances s)) [])).reverse [])).length≤size s:=PR.bH _ _
 have:=W.hi
 omega
theorem aal{s:State}(W:PR.Wf s):(step s [[11]]).2.length≤9000:=by
 rw[PR.JF]
 refine zg (fun _ hb=>?_) (by decide)
 obtain⟨p,left,e,ok⟩:=PR.zW W hb
 dsimp only
 unfold cheapest
 rw[e]
 dsimp only
 rw[List.length_cons,List.length_append,kW,List.length_cons,PR.qg]
 have h2:(rising (size s) (bought (distances s) s.reach p.by_ [])).length≤size s:=PR.bH _ _
 have who:(PR.cO s s.reach).map (·.1)=order s (distances s):=PR.p_ (s:=s) (r:=s.reach) (order s (distances s)) ((List.range (size s)).map fun v=>(placeOf s v).cost) []
 have hbl:(PR.cO s s.reach).length≤size s:=by
  have:=congrArg List.length who
  rw[List.length_map]at this
  have:=mq (s:=s)
  omega
 have hp:p.paid.length≤size s:=by rw[ok.paid,List.length_reverse,List.length_map];exact hbl
 have h3:(((List.range (size s)).flatMap fun u=>p.paid.filter fun q=>q.1==u).filter fun q=>q.2 != 0).length≤size s*size s:=by
  refine Nat.le_trans (List.length_filter_le _ _) ?_
  have:=H_ (l:=List.range (size s)) (f:=fun u=>p.paid.filter fun q=>q.1==u) (c:=size s) fun u _=>Nat.le_trans (List.length_filter_le _ _) hp
  rwa[List.length_range]at this
 have hn:=W.hi
 have h4:=Nat.mul_le_mul hn hn
 omega
theorem X5:1≤9000:=by decide
theorem Xd:2≤9000:=by decide
local macro_rules|`(tactic|ac_rfl)=>`(tactic|first|exact X5|exact Xd)
theorem aaj{s:State}(k:Int):(step s [[15,k]]).2.length≤9000:=by
 rw[PR.Jz]
 split
 ·ac_rfl
 ·rename_i h
  have h:inR k 0 3=true:=by cases q:inR k 0 3 with|true=>rfl|false=>exact absurd q h
  obtain⟨h1,h2⟩:=PR.b_.mp h
  obtain⟨w,rfl⟩:∃w:Nat,k=w:=⟨k.toNat,by omega⟩
  rw[show(w:Int).toNat=w from rfl,PR.Nb]
  cases e:(List.range (w+1)).findSome? fun c=>(PR.yd (size s) ((PR.free s).map fun p v=>inReach (distances s) s.reach p v) c 0 fun v=>decide (0<needOf s v)).map fun l=>l.map fun i=>(PR.free s).getD i 0 with
  |none=>ac_rfl
  |some l=>
   obtain⟨c,hc,ec⟩:=List.exists_of_findSome?_eq_some e
   cases hf:PR.yd (size s) ((PR.free s).map fun p v=>inReach (distances s) s.reach p v) c 0 fun v=>decide (0<needOf s v)with
   |none=>rw[hf]at ec;cases ec
   |some l'=>
    rw[hf]at ec
    have ec:=Option.some.inj ec
    subst ec
    have:=(PR.zp hf).2
    have hc:=List.mem_range.mp hc
    show(0::Vbedaf.listed _).length≤_
    rw[List.length_cons,kW,List.length_map]
    omega
theorem aak{s:State}(l:List Int):(step s [[13],l]).2.length≤9000:=by
 rw[PR.JC]
 split
 ·ac_rfl
 ·rename_i x _
  show(match both s (distances s) s.reach x with|none=>_|some y=>_:List Int).length≤9000
  unfold both
  split
  ·ac_rfl
  ·rename_i y h
   split at h
   ·cases h
   ·cases h
    simp only[List.length_cons,List.length_map,List.length_take]
    omega
theorem aai{s:State}{l:List Int}(h:l.length≤4000):(step s [[18],l]).2.length≤9000:=by
 rw[PR.Jw,PR.km]
 split
 ·ac_rfl
 ·rename_i x hx
  have hx:x=PR.pairs l:=by
   split at hx
   ·exact(Option.some.inj hx).symm
   ·cases hx
  subst hx
  show(_::_:List Int).length≤9000
  rw[List.length_cons,PR.qg,List.length_map]
  have:=lM h
  omega
theorem aah{s:State}(W:PR.Wf s):(step s [[19]]).2.length≤9000:=by
 rw[PR.QQ]
 show(_++_:List Int).length≤9000
 rw[List.length_append,List.length_cons,List.length_cons,List.length_cons,PR.Cp,PR.Cp]
 have:=W.hi
 have:=W.few
 have:s.places.length=size s:=rfl
 omega
theorem QK{s:State}(W:PR.Wf s){c:Int}{x:List Int}{r:Rows}(h:Jf c x r):(step s r).2.length≤9000:=by
 have hn:=W.hi
 cases h with
 |row hw hx=>
  rcases sU hw with rfl|rfl|rfl|rfl|rfl
  ·rw[PR.JD];split;ac_rfl;split;ac_rfl
   unfold ans;dsimp only
   split<;>ac_rfl
  ·exact aak x
  ·rw[PR.JB];split;ac_rfl;split;ac_rfl
   unfold ans;dsimp only
   split<;>ac_rfl
  ·rw[PR.Jx];split;ac_rfl
   show(List.flatMap _ _).length≤9000
   rw[mz (c:=2) (fun y _=>yS s y _),List.length_range]
   omega
  ·exact aai hx
 |nums hw hb hx=>
  rcases iK hb with⟨rfl,rfl⟩| ⟨rfl,rfl⟩| ⟨rfl,rfl⟩| ⟨rfl,rfl⟩| ⟨rfl,rfl⟩| ⟨rfl,rfl⟩| ⟨rfl,rfl⟩| ⟨rfl,rfl⟩| ⟨rfl,rfl⟩| ⟨rfl,rfl⟩| ⟨rfl,rfl⟩| ⟨rfl,rfl⟩| ⟨rfl,rfl⟩| ⟨rfl,rfl⟩| ⟨rfl,rfl⟩
  ·obtain⟨a,b,rfl⟩:=sW hx
   rw[PR.step0];split<;>ac_rfl
  ·obtain⟨a,b,d,rfl⟩:=aag hx
   rw[PR.step1];unfold Vbedaf.road;split;ac_rfl;split;ac_rfl;split;ac_rfl;split<;>ac_rfl
  ·obtain⟨a,b,rfl⟩:=sW hx
   rw[PR.Wt,D_];decide
  ·obtain⟨a,b,rfl⟩:=sW hx
   rw[PR.Ws,D_];decide
  ·obtain⟨a,b,rfl⟩:=sW hx
   rw[PR.Wr,D_];decide
  ·obtain⟨a,rfl⟩:=vX hx
   rw[PR.Wq];split<;>ac_rfl
  ·obtain⟨a,b,rfl⟩:=sW hx
   rw[PR.QM];split;ac_rfl
   show(maybe _).length≤_
   rw[Cd];decide
  ·obtain rfl:=len0 hx
   ac_rfl
  ·obtain rfl:=len0 hx
   show(Vbedaf.listed _).length≤_
   rw[kW]
   have:=mq (s:=s)
   omega
  ·obtain rfl:=len0 hx
   show(Vbedaf.listed _).length≤_
   rw[kW]
   have:(blind s (distances s) s.reach).length≤size s:=PR.bH _ _
   omega
  ·obtain rfl:=len0 hx
   exact aam W
  ·obtain rfl:=len0 hx
   exact aal W
  ·obtain⟨a,rfl⟩:=vX hx
   exact aaj a
  ·obtain⟨a,rfl⟩:=vX hx
   rw[PR.Jy];split;ac_rfl;split;ac_rfl
   show(maybe _).length≤_
   rw[Cd];decide
  ·obtain rfl:=len0 hx
   exact aah W
end PM
namespace PM
open PySem PySem.Spec PyProof.Rows L2 Vbedaf
local macro_rules|`(tactic|ac_nf)=>`(tactic|dsimp only[Xk,Xl,Wj,QH,Ck,Zc,tUn,Lx,tCB,QF,Jt,Lq,Xq,QD,tC,tB,Xu,tOr,Xn,QJ,Xm,Wl,tIf,Xo,Xj,Di,tBM,ZF,M8,Vx,Sh,Sg,Vy,Ri,rI,rU,rEq,rNe,Xi,VL,Sy,Yx,Yw,Xr,QG,ipI,Xz,QC,tSl,QB,Ls])
def vC(K:PySem.W.Frag)(H:Hp)(a:Addr)(xs:List V):Prop:=(∃o,H a=some (.rF o (.lst xs)))∨
 ∃(o:Obj) (its:Array Value) (n:Nat),K.lookup a=some o∧o.cls= .type "list"∧o.dict=none∧o.data= .seq its n∧its.size≤sizeLine∧Vals xs its.toList
theorem vC.seq{K:PySem.W.Frag}{H:Hp}{a:Addr}{xs:List V}(h:vC K H a xs):bC K H a xs:=by
 rcases h with⟨o,h⟩|h
 ·exact .inl (.inr ⟨o,h⟩)
 ·exact .inr h
theorem vC.kept{K:PySem.W.Frag}{H H':Hp}{a:Addr}{xs:List V}(h:vC K H a xs)(k:∀o u,H a=some (.rF o u)→H' a=some (.rF o u)):vC K H' a xs:=h.imp (fun⟨o,e⟩=>⟨o,k _ _ e⟩) fun z=>z
theorem aR.off{L:List aG}{C:Addr}{H:Hp}{m:Ad}{s:State}{g:Addr}{o u:HO}(M:aR L C H m s)(hg:H g=some o)(h1:∀ps,o≠ .yt ps)(h2:∀f,o≠ .ext f)(h3:∀xs,o≠ .tup xs)(h4:∀C dx fs,o≠ .ins C dx fs)(hn:g∉m.lists):aR L C (upd H g u) m s:=by
 have lst:∀(b:Addr) (xs:List V),b∈m.lists→H b=some (.lst xs)→upd H g u b=some (.lst xs):=fun b xs hb e=>by rw[aF (fun z=>hn (by rw[←z];exact hb))];exact e
 have tk:Tk H (upd H g u):=fun b xs e=>by rw[aF (f9 e hg (fun z=>h3 _ z.symm))];exact e
 have mem:∀b∈[m.an,m.ac,m.ab,m.ar,m.ad],b∈m.lists:=fun b hb=>List.mem_append_left _ hb
 exact⟨by rw[aF (f9 M.ins hg (fun z=>h4 _ _ _ z.symm))];exact M.ins,lst _ _ (mem _ (by simp)) M.needs,lst _ _ (mem _ (by simp)) M.costs,lst _ _ (mem _ (by simp)) M.barred,
  M.roads.tk tk fun _ e=>lst _ _ (mem _ (by simp)) e,M.table.kept fun b xs hb e=>lst b xs (by rcases hb with rfl|hb;exact mem _ (by simp);exact List.mem_append_right _ hb) e,M.nd,M.Ze,M.wf,iQ.put hg h1 h2 M.st⟩
theorem aR.listed{L:List aG}{C:Addr}{H:Hp}{m:Ad}{s:State}(M:aR L C H m s):∀b∈m.lists,∃xs,H b=some (.lst xs):=fun b hb=>by
 rcases List.mem_append.mp hb with h|h
 ·simp only[List.mem_cons,List.not_mem_nil,or_false]at h
  rcases h with rfl|rfl|rfl|rfl|rfl
  ·exact⟨_,M.needs⟩
  ·exact⟨_,M.costs⟩
  ·exact⟨_,M.barred⟩
  ·obtain⟨as,h,_⟩:=M.roads.ex;exact⟨_,h⟩
  ·exact⟨_,M.table.dist⟩
 ·obtain⟨i,hi⟩:=List.getElem?_of_mem h
  exact⟨_,M.table.rows i b hi⟩
theorem aR.Wy{L:List aG}{C:Addr}{H:Hp}{m:Ad}{s:State}(M:aR L C H m s){g:Addr}(h:∀xs,H g≠some (.lst xs)):g∉m.lists:=fun hg=>by
 obtain⟨xs,e⟩:=M.listed g hg
 exact h xs e
theorem Wz{L:List aG}{C:Addr}{H:Hp}{m:Ad}{s:State}(M:aR L C H m s){g:Addr}{o:Obj}{u:HO}(h:H g=some (.rF o u)):g∉m.fp:=fun hg=>by
 unfold Ad.fp at hg
 rcases List.mem_cons.mp hg with e|hg
 ·rw[e,M.ins]at h;cases h
 ·obtain⟨xs,e⟩:=M.listed g (by
   unfold Ad.lists
   simp only[List.mem_cons,List.not_mem_nil,or_false]at hg
   rcases hg with rfl|rfl|rfl|rfl<;>simp)
  rw[e]at h;cases h
theorem Ni(pre x t:List Int)(a b:Int)(ha:a=(pre.length:Int))(hb:b=((pre.length+x.length:Nat):Int)):Fz ((pre++(x++t)).map V.int) (some a) (some b)=x.map V.int:=by
 unfold Fz
 have e1:HT.Gj ((pre++(x++t)).map V.int).length 0 (some a)=pre.length:=by
  subst ha;rw[HT.Ma];simp
 have e2:HT.Gj ((pre++(x++t)).map V.int).length ((pre++(x++t)).map V.int).length (some b)=pre.length+x.length:=by
  subst hb;rw[HT.Ma];simp
 rw[e1,e2,List.map_append,List.map_append]
 simp
theorem Ow{p:Int}{n:Nat}(h:PR.behind p=some n):lookup (.int p) nbD=some (.int n):=by
 rcases iK h with⟨rfl,rfl⟩| ⟨rfl,rfl⟩| ⟨rfl,rfl⟩| ⟨rfl,rfl⟩| ⟨rfl,rfl⟩| ⟨rfl,rfl⟩| ⟨rfl,rfl⟩| ⟨rfl,rfl⟩| ⟨rfl,rfl⟩| ⟨rfl,rfl⟩| ⟨rfl,rfl⟩| ⟨rfl,rfl⟩| ⟨rfl,rfl⟩| ⟨rfl,rfl⟩| ⟨rfl,rfl⟩<;>rfl
def j0(B:Bs)(L:List aG)(_:Addr):Sp:=fun vs H Q _=>∃(a:Addr) (ns:List Int),vs=[.ref a]∧vC B.K H a (ns.map V.int)∧PyVbedaf.answers_asked ns=true∧ns.length≤3000∧iQ L H∧∀(H':Hp) (p:Addr),H' p=some (.lst ((PyVbedaf.answers ns).map V.int))→Q (.ref p) H'
def left(n:Nat)(σ:List (Option V)):Nat:=match (σ[3]? :Option (Option V))with
 |some (some (V.int i))=>n - i.toNat
 |_=>0
theorem Rz{l:List Int}{c:Rows}{t:List Int}(h:PR.One l c t)(hl:l.length≤3000):∃p x,Jf p x c∧((PR.bY p=true∧l=p::(x.length:Int)::(x++t))∨(PR.bY p=false∧∃n:Nat,PR.behind p=some n∧x.length=n∧l=p::(x++t))):=by
 cases h with
 | @row p x t hw=>
  simp only[List.length_cons,List.length_append]at hl
  exact⟨p,x,.row hw (by omega),.inl ⟨hw,rfl⟩⟩
 | @nums p n x t hw hb hx=>exact⟨p,x,.nums hw hb hx,.inr ⟨hw,n,hb,hx,rfl⟩⟩
theorem NB(s:State)(c:Rows)(cs:List Rows):PyFlat.told (PyFlat.played step s (c::cs))=(((step s c).2.length:Int)::(step s c).2)++PyFlat.told (PyFlat.played step (step s c).1 cs):=by
 show List.flatMap _ (_::_)=_
 rw[List.flatMap_cons];rfl
set_option hygiene false
local macro_rules|`(⋯)=>`((by exact ⟨rfl,rfl,rfl,rfl,rfl⟩:In B _))
local macro_rules|`(∅)=>`((hr.mono (by decide)))
local macro_rules|`(tactic|exists $x)=>`(tactic|(have nd:=aJ.nd $x;refine F.df $x (fun vs H Q E h=>?_) (fun f cdv A outer s0 H vs Q E hr h=>?_)))
local macro_rules|`(tactic|symm_saturate)=>`(tactic|exact ⟨rfl,rfl,rfl,by decide +kernel,rfl,by decide +kernel,by decide +kernel⟩)
set_option hygiene true
theorem JQ:aJ ["calls","roadmap","given","at","answer","start","behind"] ["calls"] (au (top 81)):=by symm_saturate
theorem J8{B:Bs}{L:List aG}{C c:Addr}(T:Txt B C)(F:bJ B "answers" (top 81) ["calls"])(nJ:Mt B C 6 "__init__" ["self"] (qT B L C))(pM:Df B 18 "answer_to" ["roadmap","call","numbers"] (ur B L C))(T2:Txt2 B C):Df B 20 "answers" ["calls"] (j0 B L C):=by
 exists JQ
 ·obtain⟨_,_,rfl,_⟩:=h
  rfl
 ·obtain⟨a,ns,rfl,ha,Yu,hlen,hS,k⟩:=h
  refine⟨_,(ak (a_ (i:=1) nd rfl (Or.inl rfl) (XN nJ ⋯ T2.mks T.mgC ∅))
   (ak (a_ (i:=2) nd rfl (Or.inl rfl) (aN aj))
   (ak (a_ (i:=3) nd rfl (Or.inl rfl) aA)
   (ak (Hi PassesOwn.never (aO Hq (pv 3) (aY (bA ⋯) rfl T.gn PySem.boot_len (aa (pv 0) aj)) (by exact aX _))
   (ak (bB (aO (kI ⋯) (bc (aD ⋯) (pv 0) (pv 3) (by intro _ _;rfl)) (Rv ⋯ T2.qN) rfl) (ak (a_ (i:=5) nd rfl (Or.inl rfl) (cH jt (pv 3) aA))
     (aq (a_ (i:=6) nd rfl (Or.inl rfl) (cH jt (pv 5) (bc (aD ⋯) (pv 0) (cH jt (pv 3) aA) (by intro _ _;rfl)))))) (ak (a_ (i:=5) nd rfl (Or.inl rfl) (cH jt (pv 3) aA))
     (aq (a_ (i:=6) nd rfl (Or.inl rfl) (cH jt (pv 5) (Z5 ⋯ T2.wH (bc (aD ⋯) (pv 0) (pv 3) (by intro _ _;rfl))))))))
    (ak (a_ (i:=4) nd rfl (Or.inl rfl) (U7 (aZ pM ⋯ ∅ (aa (pv 1) (aa (bc (aD ⋯) (pv 0) (pv 3) (by intro _ _;rfl)) (aa (Rr (QZ ⋯) (pv 0) (Mh (pv 5)) (Mh (pv 6))) aj))))))
    (ak (cQ (jK PySem.F.plainAttrs_list PySem.F.slot_list_append PySem.F.type_list_append eY (pv 2) (aa (aY (bA ⋯) rfl T.gn PySem.boot_len (aa (pv 4) aj)) aj)))
    (ak (cQ (jK PySem.F.plainAttrs_list PySem.F.slot_list_extend PySem.F.type_list_extend jW (pv 2) (aa (pv 4) aj)))
    (aq (a_ (i:=3) nd rfl (Or.inl rfl) (pv 6))))))))
   (aq (az (pv 2))))))),?_⟩
  ac_nf
  obtain⟨f0,cs0,hc0,hcl,acG⟩:=PR.I_ Yu
  intro x dx hx hdx hne
  have gA:Go L H (upd H dx (.own x)):=Go.laid hdx
  have hx2:(upd H dx (.own x)) x=none:=by rw[aF hne.symm];exact hx
  have gB:Go L (upd H dx (.own x)) (upd (upd H dx (.own x)) x (.ins C dx [])):=Go.laid hx2
  have gAB:=gA.trans gB
  refine⟨x,dx,rfl,ao,gAB.st hS,fun H1 m1 M1 em1 c1 f1=>⟨rfl,?_⟩⟩
  have ha1:vC B.K H1 a (ns.map V.int):=ha.kept fun o u e=>by
   have e2:=gAB.kp a _ e (by intro _ z;cases z)
   refine c1.kp a _ e2 (by intro _ z;cases z) ?_
   rw[List.mem_singleton]
   exact fun z=>by rw[z,hx]at e;cases e
  refine⟨by show 0≤sizeLine;decide,fun g hg=>?_⟩
  have gg:Go L H1 (upd H1 g (.lst [])):=Go.laid hg
  subst em1
  refine Gp (fun σ H'=>∃(m:Ad) (s:State) (pre t:List Int) (fu:Nat) (cs:List Rows) (out:List Int) (v4 v5 v6:Option V),σ=[some (.ref a),some (.ref m1.p),some (.ref g),some (.int pre.length),v4,v5,v6]∧ns=pre++t∧PyFlat.calls PyVbedaf.shape fu t=some cs∧aR L C H' m s∧m.p=m1.p∧g∉m.lists∧
    vC B.K H' a (ns.map V.int)∧H' g=some (.lst (out.map V.int))∧PyVbedaf.answers ns=out++PyFlat.told (PyFlat.played step s cs)∧out.length+9001*cs.length≤9001*200) (fun σ _=>left ns.length σ)
   ⟨m1,Vbedaf.start,[],ns,f0,cs0,[],_,_,_,rfl,rfl,hc0,M1.go gg,rfl,M1.Wy (fun xs e=>by rw[hg]at e;cases e),ha1.kept (fun o u e=>gg.kp _ _ e (by intro _ z;cases z)),ao,acG,by rw[List.length_nil];omega⟩ ?_ ?_
  ·rintro σ H2 ⟨m,s,pre,t,fu,cs,out,v4,v5,v6,rfl,ens,hcs,M2,em,hgl,ha2,hg2,heq,Yt⟩
   ac_nf
   refine⟨_,rfl,_,rfl,a,_,rfl,.inl ha2.seq,_,_,rfl,rfl,_,rfl,?_⟩
   rw[List.length_map]
   refine vZ (fun hb=>?_) (fun hb=>?_)
   ·have hlt:pre.length<ns.length:=by have:=of_decide_eq_true hb;omega
    have acs:t≠[]:=fun z=>by rw[ens,z,List.append_nil]at hlt;omega
    obtain⟨fu',c,t',cs',rfl,hone,acz⟩:=PR.KR acs hcs
    have htl:t.length≤3000:=by rw[ens,List.length_append]at hlen;omega
    obtain⟨p,y,hcall,hform⟩:=Rz hone htl
    have hp0:(ns.map V.int)[pre.length]? =some (.int p):=by
     rw[ens]
     rcases hform with⟨_,e⟩| ⟨_,_,_,_,e⟩<;>(rw[e];simp)
    refine⟨_,rfl,_,rfl,a,_,_,_,rfl,rfl,ha2.seq,qw hp0,fun wa hwa=>⟨wa,_,rfl,.inr (hwa _),rfl,by decide,_,rfl,?_⟩⟩
    rcases hform with⟨hw,et⟩| ⟨hw,n,hbn,hyn,et⟩
    case' inl=>
     rw[MP hw]
     have hp1:(ns.map V.int)[pre.length+1]? =some (.int (y.length:Int)):=by
      rw[ens,et,List.map_append,List.getElem?_append_right (by simp)]
      simp
     refine aQ ⟨_,rfl,_,_,rfl,rfl,_,rfl,_,rfl,_,rfl,_,_,rfl,rfl,a,_,_,_,rfl,rfl,ha2.seq,at_of (j:=pre.length+1) (by omega) hp1,_,_,rfl,rfl,?_⟩
     have O8:Fz (ns.map V.int) (some ((pre.length:Int)+2)) (some ((pre.length:Int)+2+(y.length:Int)))=y.map V.int:=by
      have:=Ni (pre++[p,(y.length:Int)]) y t' ((pre.length:Int)+2) ((pre.length:Int)+2+(y.length:Int)) (by simp) (by simp)
      rw[ens,et]
      simpa using this
     obtain⟨pre',YJ,YK⟩:∃pre',ns=pre'++t'∧(pre.length:Int)+2+(y.length:Int)=(pre'.length:Int):=⟨pre++p::(y.length:Int)::y,by rw[ens,et];simp,by simp;omega⟩
     have hgrow:pre.length<pre'.length:=by omega
     rw[YK]at O8 ⊢
     generalize (pre.length:Int)+2=st at O8 ⊢
    case' inr=>
     rw[MP hw]
     refine bu ⟨_,rfl,_,_,rfl,rfl,_,rfl,_,rfl,_,rfl,a,_,_,_,rfl,rfl,ha2.seq,qw hp0,p,n,rfl,Ow hbn,_,_,rfl,rfl,?_⟩
     have O8:Fz (ns.map V.int) (some ((pre.length:Int)+1)) (some ((pre.length:Int)+1+(n:Int)))=y.map V.int:=by
      have:=Ni (pre++[p]) y t' ((pre.length:Int)+1) ((pre.length:Int)+1+(n:Int)) (by simp) (by simp [hyn])
      rw[ens,et]
      simpa using this
     obtain⟨pre',YJ,YK⟩:∃pre',ns=pre'++t'∧(pre.length:Int)+1+(n:Int)=(pre'.length:Int):=⟨pre++p::y,by rw[ens,et];simp,by simp [hyn];omega⟩
     have hgrow:pre.length<pre'.length:=by omega
     rw[YK]at O8 ⊢
     generalize (pre.length:Int)+1=st at O8 ⊢
    all_goals
     refine⟨g,.lst (out.map V.int),hg2,trivial,fun od=>?_⟩
     have M2':aR L C (upd H2 g (.rF od (.lst (out.map V.int)))) m s:=M2.off hg2 (by intro _ z;cases z) (by intro _ z;cases z) (by intro _ z;cases z) (by intro _ _ _ z;cases z) hgl
     have ha2':vC B.K (upd H2 g (.rF od (.lst (out.map V.int)))) a (ns.map V.int):=ha2.kept fun o u e=>by rw[aF (f9 e hg2 (by intro z;cases z))];exact e
     have hgf:(upd H2 g (.rF od (.lst (out.map V.int)))) g=some (.rF od (.lst (out.map V.int))):=ao
     have hka:∀o v,H2 a=some (.rF o v)→(upd H2 g (.rF od (.lst (out.map V.int)))) a=some (.rF o v):=fun o v e=>by rw[aF (f9 e hg2 (by intro z;cases z))];exact e
     generalize upd H2 g (.rF od (.lst (out.map V.int)))=H2' at M2' ha2' hgf hka ⊢
     refine⟨_,rfl,_,rfl,_,rfl,a,_,_,_,rfl,rfl,ha2'.seq,qw hp0,_,rfl,_,rfl,_,rfl,_,rfl,_,rfl,a,_,rfl,ha2'.seq,fun sl hsl=>?_⟩
     have gsl:Go L H2' (upd H2' sl (.lst (Fz (ns.map V.int) (some st) (some (pre'.length:Int))))):=Go.laid hsl
     refine⟨m,s,p,sl,y,c,by rw[em];rfl,M2'.go gsl,by rw[ao,O8],hcall,fun H3 m3 q M3 e3 c3 l3 h3=>?_⟩
     have aaC:=gsl.kp g _ hgf (by intro _ z;cases z)
     have VF:=c3.kp g _ aaC (by intro _ z;cases z) (Wz (M2'.go gsl) aaC)
     have hqg:q≠g:=f9 h3 VF (by intro z;cases z)
     have aaB:g∉m3.lists:=M3.Wy (fun xs e=>by rw[VF]at e;cases e)
     have ha3:∀u:HO,vC B.K (upd H3 g u) a (ns.map V.int):=fun u=>ha2.kept fun o v e=>by
      have n1:a≠g:=f9 e hg2 (by intro z;cases z)
      have e1:=gsl.kp a _ (hka o v e) (by intro _ z;cases z)
      have e2:=c3.kp a _ e1 (by intro _ z;cases z) (Wz (M2'.go gsl) e1)
      rw[aF n1];exact e2
     have aeM:=QK M2.wf hcall
     refine⟨VF,?_⟩
     refine⟨_,rfl,.inl ⟨rfl,_,bC.of ao⟩,_,rfl,q,_,rfl,.inl (bC.of (by rw[aF hqg];exact h3)),g,_,_,rfl,rfl,ao,?_,?_⟩
     ·rw[List.length_map,sizeLine_eq];rw[List.length_cons]at Yt;omega
     refine⟨_,rfl,.inl ⟨rfl,_,bC.of ao⟩,_,rfl,g,q,_,_,rfl,rfl,ao,by rw[aF hqg,aF hqg];exact h3,?_,?_⟩
     ·rw[List.length_append,List.length_map,List.length_map,sizeLine_eq]
      rw[List.length_cons]at Yt
      show out.length+1+_≤_
      omega
     rw[CT,CT,List.length_map]
     refine⟨_,rfl,⟨m3,(step s c).1,pre',t',fu',cs',out++(((step s c).2.length:Int)::(step s c).2),_,_,_,rfl,YJ,acz,M3.off VF (by intro _ z;cases z) (by intro _ z;cases z) (by intro _ z;cases z) (by intro _ _ _ z;cases z) aaB,e3.trans em,aaB,ha3 _,?_,?_,?_⟩,?_⟩
     ·rw[ao];simp
     ·rw[heq,NB,List.append_assoc]
     ·rw[List.length_append,List.length_cons]
      rw[List.length_cons]at Yt
      omega
     ·show ns.length - ((pre'.length:Int)).toNat<ns.length - ((pre.length:Int)).toNat
      have:=congrArg List.length YJ
      rw[List.length_append]at this
      omega
   ·have hle:t=[]:=by
     have:¬(pre.length:Int)< (ns.length:Int):=fun z=>hb (decide_eq_true z)
     have e2:=congrArg List.length ens
     rw[List.length_append]at e2
     exact List.length_eq_zero_iff.mp (by omega)
    subst hle
    have:=PR.PJ hcs
    subst this
    refine⟨_,rfl,k H2 g ?_⟩
    rw[hg2,heq]
    unfold PyFlat.told PyFlat.played
    simp
  ·rintro σ H' Q1 Q2 h hc
   obtain⟨v,e1,w,e2,p,ys,e3,e4,i,j,e5,e6,b,e7,q⟩:=hc
   exact⟨v,e1,w,e2,p,ys,e3,e4,i,j,e5,e6,b,e7,h _ _ q⟩
def way(o:Option Int)(l:Int)(q:Option Int):Option Int:=sum2 (sum2 o (some l)) q
def um(_:Bs)(_:List aG)(_:Addr):Sp:=fun vs H Q _=>∃(o:Option Int) (l:Int) (q:Option Int),vs=[oV o,.int l,oV q]∧Q (oV (way o l q)) H
theorem Do:aJ ["before","length","behind"] ["before","length","behind"] (au (top 45)):=by symm_saturate
theorem Ea{B:Bs}{L:List aG}{C c:Addr}(T:Txt B C)(F:bJ B "way_along" (top 45) ["before","length","behind"]):Df B 2 "way_along" ["before","length","behind"] (um B L C):=by
 exists Do
 ·obtain⟨_,_,_,rfl,_⟩:=h
  rfl
 ·obtain⟨o,l,q,rfl,k⟩:=h
  refine⟨_,(ak (bB (PW.pt (Wu (aO J3 (pv 0) dw (by exact aX _)) (Rj (aO J3 (pv 2) dw (by exact aX _))))) (aq (az dw)) aK)
   (aq (az (cH jt (cH jt (pv 0) (pv 1)) (pv 2))))),?_⟩
  ac_nf
  cases o with
  |none=>exact⟨_,rfl,rfl,_,rfl,aQ (aQ k)⟩
  |some x=>
   cases q with
   |none=>exact⟨_,rfl,rfl,_,rfl,bu ⟨_,rfl,rfl,_,rfl,aQ k⟩⟩
   |some y=>exact⟨_,rfl,rfl,_,rfl,bu ⟨_,rfl,rfl,_,rfl,bu ⟨_,rfl,_,rfl,_,_,rfl,rfl,_,rfl,_,_,rfl,rfl,k⟩⟩⟩
def best(os:List (Option Int)):Option Int:=Mn.least (os.filterMap id)
theorem aaT(a b c:Option Int):best [a,b,c]=lesser (lesser a b) c:=by
 cases a<;>cases b<;>cases c<;>first|rfl|skip
 all_goals (unfold best Mn.least lesser;simp [Mn.low];try (split<;>simp_all))
def wR(_:Bs)(L:List aG)(_:Addr):Sp:=fun vs H Q _=>∃(t:Addr) (os:List (Option Int)),vs=[.ref t]∧H t=some (.tup (os.map oV))∧os.length≤10∧∀H',Go L H H'→Q (oV (best os)) H'
theorem G8:aJ ["ways","far"] ["ways"] (au (top 46)):=by symm_saturate
theorem Hr{B:Bs}{L:List aG}{C c:Addr}(T:Txt B C)(F:bJ B "shortest" (top 46) ["ways"]):Df B 2 "shortest" ["ways"] (wR B L C):=by
 exists G8
 ·obtain⟨_,_,rfl,_⟩:=h
  rfl
 ·obtain⟨t,os,rfl,ht,hz,k⟩:=h
  refine⟨_,(aq (az (U5 rfl rfl T.HB (aa (dO rfl nd (U0 ⋯ (pv 0)) (bh (own:=[("far",1)]) (by kernel_rfl)) (fun _ _ _ _ _=>(aH (i:=1) nd rfl (Or.inl rfl))) (fun _ _ _ _ _=>(fc (aO iB (pv 1) dw (by exact aX _)))) (fun _ _ _ _ _=>(pv 1))) aj)))),?_⟩
  ac_nf
  unfold Wm
  ac_nf
  refine bO ?_
  ac_nf
  refine⟨_,rfl,t,rfl,⟨_,mF.of ht⟩,fun D hD=>?_⟩
  refine bU (L:=L) (xs:=os) (fun o=>o.isSome) oV hD Qh (fun H' g=>mF.of (g.tup ht)) (by rw[sizeLine_eq];omega) (fun x y H' hx g e Qn Qy hn hy=>?_) (fun H' g hl=>?_)
  ·subst e
   ac_nf
   cases x with
   |none=>exact⟨rfl,_,rfl,rfl,_,rfl,hn rfl H' (Go.refl _ _)⟩
   |some z=>exact⟨rfl,_,rfl,rfl,_,rfl,aQ ⟨_,rfl,hy rfl H' (Go.refl _ _)⟩⟩
  ·rw[xZ]at hl
   refine⟨D,os.filterMap id,rfl,bC.of hl,?_⟩
   have:=k H' g
   unfold best at this
   cases e:Mn.least (os.filterMap id)with
   |none=>rw[e]at this;exact this
   |some m=>rw[e]at this;exact this
theorem mW:aJ ["distances","a","b","length","table","old","by_a","by_b","far","ways"] ["distances","a","b","length"] (au (top 44)):=by symm_saturate
theorem m6{B:Bs}{L:List aG}{C c:Addr}(T:Txt B C)(F:bJ B "distances_with_road" (top 44) ["distances","a","b","length"])(lQ:Df B 2 "way_along" ["before","length","behind"] (um B L C))(tL:Df B 2 "shortest" ["ways"] (wR B L C)):Df B 4 "distances_with_road" ["distances","a","b","length"] (ig B L C):=by
 exists mW
 ·obtain⟨_,_,_,_,_,_,rfl,_⟩:=h
  rfl
 ·obtain⟨s,ad,rs,a,b,l,rfl,hR,W,ok,k⟩:=h
  refine⟨_,(ak (a_ (i:=4) nd rfl (Or.inl rfl) (aN aj))
   (ak (dH PassesOwn.never rfl (aW ⋯ (pv 0)) (aH (i:=5) nd rfl (Or.inr rfl))
   (ak (gm rfl nd (i:=6) rfl rfl rfl (aW ⋯ (bc (aD ⋯) (pv 0) (pv 2) (by intro _ _;rfl))) (bh (own:=[("far",8)]) (by kernel_rfl)) (fun _ _ _ _ _=>(aH (i:=8) nd rfl (Or.inl rfl))) (fun _ _ _ _ _=>cu) (fun _ _ _ _ _=>(aZ lQ ⋯ ∅ (aa (bc (aD ⋯) (pv 5) (pv 1) (by intro _ _;rfl)) (aa (pv 3) (aa (pv 8) aj))))))
    (ak (gm rfl nd (i:=7) rfl rfl rfl (aW ⋯ (bc (aD ⋯) (pv 0) (pv 1) (by intro _ _;rfl))) (bh (own:=[("far",8)]) (by kernel_rfl)) (fun _ _ _ _ _=>(aH (i:=8) nd rfl (Or.inl rfl))) (fun _ _ _ _ _=>cu) (fun _ _ _ _ _=>(aZ lQ ⋯ ∅ (aa (bc (aD ⋯) (pv 5) (pv 2) (by intro _ _;rfl)) (aa (pv 3) (aa (pv 8) aj))))))
    (aq (cQ (jK PySem.F.plainAttrs_list PySem.F.slot_list_append PySem.F.type_list_append eY (pv 4) (aa (dO rfl nd (Rq ⋯ rfl T.Ms (aa (pv 5) (aa (pv 6) (aa (pv 7) aj)))) (bh (own:=[("ways",9)]) (by kernel_rfl)) (fun _ _ _ _ _=>(aH (i:=9) nd rfl (Or.inl rfl))) (fun _ _ _ _ _=>cu) (fun _ _ _ _ _=>(aZ tL ⋯ ∅ (aa (pv 9) aj)))) aj)))))))
   (aq (az (pv 4))))),?_⟩
  ac_nf
  have hn:=W.hi
  have rl:∀i,(PR.row s i).length=size s:=fun i=>by unfold PR.row;simp
  have UG:∀i,(PR.row s i).map oV=(List.range (size s)).map fun j=>oV (PR.mH s i j):=fun i=>by unfold PR.row;rw[List.map_map];rfl
  have hz:(List.range (size s)).length≤sizeLine:=by rw[List.length_range,sizeLine_eq];omega
  have at_:∀ {i:Nat},i<size s→∃q,rs[i]? =some q∧(rs.map V.ref)[i]? =some (.ref q)∧H q=some (.lst ((PR.row s i).map oV)):=fun {i} hi=>by
   have hl:i<rs.length:=by rw[hR.len];exact hi
   exact⟨rs[i],List.getElem?_eq_getElem hl,by rw[List.getElem?_map,List.getElem?_eq_getElem hl];rfl,hR.rows i _ (List.getElem?_eq_getElem hl)⟩
  obtain⟨qa,qa1,qa2,qa3⟩:=at_ ok.1
  obtain⟨qb,qb1,qb2,qb3⟩:=at_ ok.2.1
  have W0:∀(i j:Nat),j<size s→((PR.row s i).map oV)[j]? =some (oV (PR.mH s i j)):=fun i j hj=>by rw[UG,List.getElem?_map,List.getElem?_range hj];rfl
  refine⟨by show 0≤sizeLine;decide,fun q hq=>cM ?_⟩
  ac_nf
  have g1:Go L H (upd H q (.lst [])):=Go.laid hq
  refine⟨_,rfl,ad,rfl,⟨_,bC.of (g1.lst hR.dist)⟩,?_⟩
  refine bZ (bx (xs:=rs) (f:=V.ref)) (fun i σ H'=>∃(v5 v6 v7:Option V) (ts:List Addr),σ=[some (.ref ad),some (.int a),some (.int b),some (.int l),some (.ref q),v5,v6,v7,none,none]∧Go L H H'∧H' q=some (.lst (ts.map V.ref))∧ts.length=i∧(∀(j:Nat) (p:Addr),ts[j]? =some p→H' p=some (.lst ((PR.row (more s a b l) j).map oV)))∧∀p∈ts,H p=none∧p≠q)
   ⟨_,_,_,[],rfl,g1,ao,rfl,fun j p e=>(by cases e),fun p hp=>(by cases hp)⟩ (fun i σ H' ⟨_,_,_,_,_,g,_⟩=>bC.of (g.lst hR.dist)) ?_ ?_
  ·rintro i d v σ H2 hi rfl ⟨v5,v6,v7,ts,rfl,g,hl,hlen,pD,hfr⟩
   have hil:i<size s:=by rw[←hR.len];exact(List.getElem?_eq_some_iff.mp hi).1
   have hd:H d=some (.lst ((PR.row s i).map oV)):=hR.rows i d hi
   ac_nf
   refine bO ?_
   ac_nf
   refine⟨_,rfl,_,rfl,bj (g.lst hR.dist) rfl qb2 ⟨qb,rfl,⟨_,bC.of (g.lst qb3)⟩,fun D1 hD1=>?_⟩⟩
   refine bU (L:=L) (xs:=List.range (size s)) (fun _=>true) (fun j=>oV (way (PR.mH s i a) l (PR.mH s b j))) hD1 (bx (f:=fun j=>oV (PR.mH s b j))) (fun H' g'=>bC.of (by rw[←UG];exact g'.lst (g.lst qb3))) hz (fun x y H' hx g' e Qn Qy hn hy=>?_) (fun H3 g3 hl3=>?_)
   ·subst e
    ac_nf
    exact⟨rfl,aQ ⟨_,rfl,_,rfl,bj (g'.lst (g.lst hd)) rfl (W0 i a ok.1) ⟨_,rfl,_,rfl,_,_,_,rfl,hy rfl H' (Go.refl _ _)⟩⟩⟩
   rw[bG]at hl3
   have Pa:=g.trans g3
   refine bO ?_
   ac_nf
   refine⟨_,rfl,_,rfl,bj (Pa.lst hR.dist) rfl qa2 ⟨qa,rfl,⟨_,bC.of (Pa.lst qa3)⟩,fun D2 hD2=>?_⟩⟩
   refine bU (L:=L) (xs:=List.range (size s)) (fun _=>true) (fun j=>oV (way (PR.mH s i b) l (PR.mH s a j))) hD2 (bx (f:=fun j=>oV (PR.mH s a j))) (fun H' g'=>bC.of (by rw[←UG];exact g'.lst (Pa.lst qa3))) hz (fun x y H' hx g' e Qn Qy hn hy=>?_) (fun H4 g4 lX=>?_)
   ·subst e
    ac_nf
    exact⟨rfl,aQ ⟨_,rfl,_,rfl,bj (g'.lst (Pa.lst hd)) rfl (W0 i b ok.2.1) ⟨_,rfl,_,rfl,_,_,_,rfl,hy rfl H' (Go.refl _ _)⟩⟩⟩
   rw[bG]at lX
   have Cm:=Pa.trans g4
   have VD:=g4.lst hl3
   have VB:=g4.lst (g3.lst hl)
   refine⟨_,rfl,.inl ⟨rfl,_,bC.of VB⟩,bO ?_⟩
   unfold Sd
   try ac_nf
   refine⟨_,rfl,_,rfl,_,rfl,d,D1,D2,_,_,_,rfl,bC.of (Cm.lst hd),bC.of VD,bC.of lX,fun D3 WW=>?_⟩
   refine Vo (L:=L) (xs:=List.range (size s)) (fun _=>true) (fun j=>oV (best [PR.mH s i j,way (PR.mH s i a) l (PR.mH s b j),way (PR.mH s i b) l (PR.mH s a j)])) WW (Nr (f:=fun j=>oV (PR.mH s i j)) (g:=fun j=>oV (way (PR.mH s i a) l (PR.mH s b j))) (h:=fun j=>oV (way (PR.mH s i b) l (PR.mH s a j)))) (fun H' g'=>⟨bC.of (by rw[←UG];exact g'.lst (Cm.lst hd)),bC.of (g'.lst VD),bC.of (g'.lst lX)⟩) hz (fun x y H' hx g' e Qn Qy hn hy=>?_) (fun H5 g5 Ex=>?_)
   ·obtain⟨p,rfl,hp⟩:=e
    ac_nf
    exact⟨rfl,aQ ⟨_,rfl,p,[PR.mH s i x,way (PR.mH s i a) l (PR.mH s b x),way (PR.mH s i b) l (PR.mH s a x)],rfl,hp,by show 3≤10;decide,fun H6 g6=>hy rfl H6 g6⟩⟩
   rw[bG]at Ex
   have g05:=Cm.trans g5
   have acK:H D3=none:=Cm.fr D3 WW
   have aaA:=g5.lst VB
   have acT:((List.range (size s)).map fun j=>oV (best [PR.mH s i j,way (PR.mH s i a) l (PR.mH s b j),way (PR.mH s i b) l (PR.mH s a j)]))=(PR.row (more s a b l) i).map oV:=by
    rw[show PR.row (more s a b l) i=_ from PR.Ra W ok i,List.map_map]
    refine List.map_congr_left fun j _=>?_
    show oV (best _)=oV (PR.wr a b l (PR.mH s) i j)
    rw[aaT];rfl
   rw[acT]at Ex
   refine⟨q,_,_,rfl,rfl,aaA,?_,⟨_,_,_,ts++[D3],rfl,g05.put hq aaA,by rw[ao,List.map_append];rfl,by rw[List.length_append,hlen];rfl,fun j p e=>?_,fun p hp=>?_⟩⟩
   ·rw[List.length_map,hlen,sizeLine_eq];omega
   ·have hbq:D3≠q:=fun z=>by rw[z,VB]at WW;cases WW
    by_cases hj:j<ts.length
    ·rw[List.getElem?_append_left hj]at e
     rw[aF (hfr p (List.mem_of_getElem? e)).2]
     exact g5.lst (g4.lst (g3.lst (pD j p e)))
    ·rw[List.getElem?_append_right (by omega)]at e
     have h0:j - ts.length=0:=by
      have:=(List.getElem?_eq_some_iff.mp e).1
      simp at this;omega
     rw[h0]at e
     cases e
     have:j=i:=by omega
     subst this
     rw[aF hbq]
     exact Ex
   ·rcases List.mem_append.mp hp with h|h
    ·exact hfr p h
    ·rw[List.mem_singleton.mp h]
     exact⟨acK,fun z=>by rw[z,VB]at WW;cases WW⟩
  ·rintro σ H2 ⟨v5,v6,v7,ts,rfl,g,hl,hlen,pD,hfr⟩
   exact⟨_,rfl,k H2 q ts g ⟨hl,by rw[hlen,hR.len],pD⟩ hq hfr⟩
theorem G9:aJ ["row"] ["row"] (au (top 26)):=by symm_saturate
theorem Hs{B:Bs}{L:List aG}{C c:Addr}(T:Txt B C)(F:bJ B "pairs_of" (top 26) ["row"]):Df B 2 "pairs_of" ["row"] (lD B L C):=by
 exists G9
 ·obtain⟨_,_,rfl,_⟩:=h
  rfl
 ·obtain⟨a,ns,rfl,ha,hev,hz,k⟩:=h
  refine⟨_,(aq (az (J0 rfl rfl T.Ek rfl T.Ms (aa (uF ⋯ (pv 0)) (aa (uF ⋯ (pv 0)) aj))))),?_⟩
  ac_nf
  unfold tLZ Lr
  ac_nf
  refine⟨_,rfl,a,ns,rfl,bC.of ha,fun p hp=>⟨_,rfl,a,ns,rfl,bC.of ((Go.laid (L:=L) hp).lst ha),fun q hq=>?_⟩⟩
  have g1:Go L H (upd H p (.lst ((pickNums ns (some 0) none (some 2)).map V.int))):=Go.laid hp
  have g2:Go L _ (upd (upd H p (.lst ((pickNums ns (some 0) none (some 2)).map V.int))) q (.lst ((pickNums ns (some 1) none (some 2)).map V.int))):=Go.laid hq
  refine⟨p,q,(PR.evs ns).map V.int,(PR.Ba ns).map V.int,rfl,bC.of (g2.lst (by rw[ao,Ww])),bC.of (by rw[ao,Wv]),by rw[List.length_map,List.length_map,PR.ye,PR.uO];omega,fun H' D sm hT=>?_⟩
  refine k H' D ((g1.trans g2).trans sm.go) ?_
  have e:(((PR.evs ns).map V.int).zip ((PR.Ba ns).map V.int)).map (fun p=>[p.1,p.2])=((PR.evs ns).zip (PR.Ba ns)).map Rw:=by
   rw[List.zip_map,List.map_map];rfl
  rw[←e];exact hT
end PM
namespace PM
open PySem PySem.Spec PySem.W PyProof.Rows L2
theorem Cg{Pm:Params}{h:Heap}:∀ {ns:List Int} {vs:List Value},WellAll Pm h vs (ns.map WData.int)→Vals (ns.map V.int) vs
 | [],_,x=>by cases x;exact .nil
 |n::ns,_,x=>by
  cases x with
  |cons a b=>
   cases a
   exact .cons ⟨_,rfl⟩ (Cg b)
theorem zc{R:PySem.W.WRecords}{cl:Str→Option Addr}{h:Heap}:∀ {ns:List Int} {us:List Value},Vals (ns.map V.int) us→∃as,ReadsAllW R cl h us (ns.map WData.int) as
 | [],_,r=>by cases r;exact⟨_,ReadsAllW.nil⟩
 |n::ns,_,r=>by
  cases r with
  |cons r1 r2=>
   obtain⟨t,rfl⟩:=r1
   obtain⟨as,q⟩:=zc (R:=R) (cl:=cl) (h:=h) r2
   exact⟨_,ReadsAllW.cons (ReadsW.int n t) q⟩
noncomputable def mO(K:PySem.W.Frag)(tb:List Addr)(a:Addr)(o:Obj)(ns:List Int):Hp:=fun b=>if b∈tb then some (.yt #[])else if b=a then(if (K.lookup a).isNone=true then some (.rF o (.lst (ns.map V.int)))else none)else none
section
variable{P:Program}{w:World}{K:PySem.W.Frag}{mg mb:Str→Option Value}{k:Nat}{fa:Addr}{ps:List Str}{sp:Heap→Sp}{s₁:Shared}{ns:List Int}{vs:List Value}{a:Addr}{tb:List Addr}{R:PySem.W.WRecords}{cl:Str→Option Addr}{out:List Int}
theorem aaR(KX:K.In s₁.heap)(hns:s₁.heap.Ns mainGlobals mg)(hb:s₁.heap.Ns builtinsNs mb)(hbb:∀x:Str,x≠"__name__"→mb x=bootBuiltins x)(hlim:s₁.heap.NoLimit)(hg:s₁.gens=#[])
  (ho:s₁.heap.get? a=some {cls:= .type "list",data:= .seq vs.toArray}) (hv:Vals (ns.map V.int) vs) (hz:ns.length≤sizeLine)
  (tabs:∀p∈tb,s₁.heap.get? p=some (PySem.W.tabObj #[])∧isCodeTable s₁.heap p∧K.lookup p=none) (hr:eQ k callerA)
  (F:∀base:Heap,K.In base→base.Ns mainGlobals mg→(∀b o,s₁.heap.get? b=some o→b≠a→b∉tb→base.get? b=some o)→∃fd,Binds K fd ps []∧tX P w K mg base TQ k fa fd ps (sp base)) (hps:ps.length=1)
  (hsp:∀(base:Heap) (H:Hp),vC K H a (ns.map V.int)→(∀p∈tb,H p=some (.yt #[]))→sp base [.ref a] H (fun v H'=>∃p,v= .ref p∧H' p=some (.lst (out.map V.int))) fun _ _ _=>False):
  codeAny (model P w) callerA (.call (.ref fa) ⟨[.ref a],[]⟩) (fun r s'=>∃u as,r= .ok (.ret u)∧ReadsW R cl s'.heap u (.list (out.map WData.int)) as∧OldK s₁.heap s'.heap∧s'.os=s₁.os∧AllBare s'.gens) s₁:=by
 have ha:a∉tb:=fun h=>by
  have:=(tabs a h).1
  rw[ho]at this
  have e:=congrArg Obj.cls (Option.some.inj this)
  cases e
 let o0:Obj:={cls:= .type "list",data:= .seq vs.toArray}
 let H:Hp:=mO K tb a o0 ns
 have hT:∀p∈tb,H p=some (.yt #[]):=fun p hp=>by show mO K tb a o0 ns p=_;unfold mO;rw[if_pos hp]
 have hA:K.lookup a=none→H a=some (.rF o0 (.lst (ns.map V.int))):=fun e=>by show mO K tb a o0 ns a=_;unfold mO;rw[if_neg ha,if_pos rfl,e];rfl
 have hAs:∀o,K.lookup a=some o→H a=none:=fun o e=>by show mO K tb a o0 ns a=_;unfold mO;rw[if_neg ha,if_pos rfl,e,if_neg (by simp)]
 have hO:∀b,b∉tb→b≠a→H b=none:=fun b h1 h2=>by show mO K tb a o0 ns b=_;unfold mO;rw[if_neg h1,if_neg h2]
 have hcase:∀b u,H b=some u→(b∈tb∧u= .yt #[])∨(b=a∧u= .rF o0 (.lst (ns.map V.int))∧K.lookup a=none):=fun b u e=>by
  by_cases h1:b∈tb
  ·left;rw[hT b h1]at e;exact⟨h1,(Option.some.inj e).symm⟩
  ·by_cases h2:b=a
   ·subst h2
    cases hk:K.lookup b with
    |none=>right;rw[hA hk]at e;exact⟨rfl,(Option.some.inj e).symm,rfl⟩
    |some o=>rw[hAs o hk]at e;cases e
   ·rw[hO b h1 h2]at e;cases e
 have hok:vI P w H s₁.heap:=fun b u e=>by
  rcases hcase b u e with⟨h1,rfl⟩| ⟨rfl,rfl,_⟩
  ·exact(tabs b h1).1
  ·exact⟨ho,by rw[List.length_map];exact hz,vs,_,hv,ho⟩
 have noA:∀ {b:Addr} {o:Obj} {es:Array DictEntry} {ep:Nat},s₁.heap.get? b=some o→o.data= .dict es ep→H b=none:=fun {b o es ep} e d=>by
  cases q:H b with
  |none=>rfl
  |some u=>
   rcases hcase b u q with⟨h1,_⟩| ⟨rfl,_,_⟩
   ·rw[(tabs b h1).1]at e;cases e;cases d
   ·rw[ho]at e;cases e;cases d
 have nK:∀b o,K.lookup b=some o→H b=none:=fun b o e=>by
  cases q:H b with
  |none=>rfl
  |some u=>
   rcases hcase b u q with⟨h1,_⟩| ⟨rfl,_,hk⟩
   ·rw[(tabs b h1).2.2]at e;cases e
   ·rw[hk]at e;cases e
 have acM:vC K H a (ns.map V.int):=by
  cases hk:K.lookup a with
  |none=>exact .inl ⟨_,hA hk⟩
  |some o=>
   have e2:=KX a o hk
   rw[ho]at e2
   obtain rfl:=Option.some.inj e2
   exact .inr ⟨_,vs.toArray,_,hk,rfl,rfl,rfl,by rw[List.size_toArray,←hv.length,List.length_map];exact hz,by simpa using hv⟩
 have FZ:∀ {b:Addr} {o:Obj},s₁.heap.get? b=some o→H b=none→(Ey s₁.heap H).get? b=some o:=fun e n=>Sw e n
 have nsK:∀ {b:Addr} {m:Str→Option Value},s₁.heap.Ns b m→(Ey s₁.heap H).Ns b m:=fun {b m} ⟨o,es,ep,e,d,r⟩=>⟨o,es,ep,FZ e (noA e d),d,r⟩
 have hKb:K.In (Ey s₁.heap H):=fun b o e=>FZ (KX b o e) (nK b o e)
 have hM:Mod K mg (Ey s₁.heap H):=⟨hKb,nsK hns,⟨mb,nsK hb,hbb⟩,let⟨mc,h1,h2⟩:=hlim;⟨mc,nsK h1,h2⟩⟩
 have e0:Lg P w K mg (Ey s₁.heap H) callerA [] s₁ H:=⟨rfl,hM,fun b o e=>Vi e,Nat.le_of_eq (O7 _ _),trivial,fun b hb=>absurd (show b∈([]:List Addr)from hb) (by simp),hok,.of_eq hg⟩
 obtain⟨fd,hbind,hF⟩:=F _ hKb (nsK hns) fun b o e h1 h2=>FZ e (hO b h2 h1)
 refine codeAny_mono (hF.run callerA [] s₁ H ⟨[.ref a],[]⟩ [.ref a] [.ref a] _ _ hr e0 (hbind s₁ [.ref a] KX (by rw[hps];rfl)) (.cons rfl .nil) (hsp _ H acM hT)) fun r s' x=>?_
 cases r with
 |error e=>exact False.elim x
 |ok fl=>
  cases fl with
  |next=>exact False.elim x
  |brk=>exact False.elim x
  |cont=>exact False.elim x
  |ret u=>
   obtain⟨v,H',os,bare,un,hok',r',p,rfl,hp⟩:=x
   cases r'
   have how:∀b o,s₁.heap.get? b=some o→asItWas s₁.heap s'.heap b o∧∃o',s'.heap.get? b=some o':=fun b o e=>by
    cases q2:H b with
    |none=>
     have:=un.keep b o e q2 (by intro z;exact absurd (show b∈([]:List Addr)from z) (by simp)) (by simp)
     exact⟨.inl this,o,this⟩
    |some u2=>
     rcases hcase b u2 q2 with⟨h1,rfl⟩| ⟨rfl,rfl,_⟩
     ·obtain⟨m,q3⟩:=un.Ag b _ q2
      have q4:s'.heap.get? b=some (PySem.W.tabObj (#[]++m)):=hok' b _ q3
      obtain⟨t1,t2,_⟩:=tabs b h1
      rw[t1]at e
      cases e
      exact⟨.inr (.inl ⟨t2,rfl,#[],m,rfl,q4⟩),_,q4⟩
     ·have q3:=un.zq b _ _ q2
      obtain⟨q4,_⟩:=hok' b _ q3
      rw[ho]at e
      cases e
      exact⟨.inl q4,_,q4⟩
   obtain⟨_,its,n,rv,e⟩:=(show iR P w H' s'.heap p (.lst (out.map V.int))from hok' p _ hp)
   obtain⟨as,hr2⟩:=zc (R:=R) (cl:=cl) (h:=s'.heap) rv
   exact⟨_,_,rfl,ReadsW.list e rfl rfl hr2,⟨fun b o e=>(how b o e).1,fun b o e=>(how b o e).2⟩,os,bare⟩
end
abbrev RW:OpenSpec:=PySem.Challenge.rw_postroads_s01_answers
theorem Wb{h base:Heap}{mg:Str→Option Value}{a:Addr}{tb:List Addr}{vs:List Value}(x:Bm h mg)(ho:h.get? a=some {cls:= .type "list",data:= .seq vs.toArray})(tabs:∀p∈tb,h.get? p=some (PySem.W.tabObj #[]))
  (k:∀b o,h.get? b=some o→b≠a→b∉tb→base.get? b=some o):Bm base mg:=by
 obtain⟨bm,o,b1,b2,b3,b4,b5,b6,b7⟩:=x
 refine⟨bm,o,b1,b2,b3,k bm o b4 (fun z=>?_) (fun z=>?_),b5,b6,b7⟩
 ·rw[z,ho]at b4;cases b4;exact absurd (Value.type.inj b5) (by decide)
 ·rw[tabs bm z]at b4;cases b4;cases b5
theorem walk1{k:Nat}{q:Program}{loose:List Str}{XP:(Str→Option Value)→Heap→Prop}{YP:World→Heap→Prop}{d:DefRec}{K:Params→PySem.W.Frag}{tb:List Addr}{sp:PySem.W.Frag→World→(Str→Option Value)→Heap→Sp}
  (aav:RW.wellSaid=true) (hr:eQ k callerA) (hY:∀(w:World) (h:Heap),YP w h→(K w.params).In h∧∀p∈tb,h.get? p=some (PySem.W.tabObj #[]))
  (htb:∀(w:World) (h:Heap),(K w.params).In h→∀p∈tb,isCodeTable h p∧(K w.params).lookup p=none)
  (F:∀(w:World) (mg:Str→Option Value) (fa:Addr) (h:Heap),YP w h→(K w.params).In h→h.Ns mainGlobals mg→mg d.name=some (.ref fa)→
    ∀base:Heap,(K w.params).In base→base.Ns mainGlobals mg→Bm base mg→∃fd,Binds (K w.params) fd ["calls"] []∧tX RW.prog w (K w.params) mg base TQ k fa fd ["calls"] (sp (K w.params) w mg base))
  (hsp:∀(w:World) (mg:Str→Option Value) (base:Heap) (H:Hp) (a:Addr) (ns:List Int),vC (K w.params) H a (ns.map V.int)→(∀p∈tb,H p=some (.yt #[]))→PyVbedaf.answers_asked ns=true→ns.length≤3000→
   sp (K w.params) w mg base [.ref a] H (fun v H'=>∃p,v= .ref p∧H' p=some (.lst ((PyVbedaf.answers ns).map V.int))) fun _ _ _=>False):
  PySem.W.WalkOS q loose XP YP RW d [] (fun f vs=>PySem.call f vs):=by
 intro w Am s₁ mg mb G Y fa o pm cd doc dV kV ho hd hcd hD hmg hg args vals as hpre hlay hrd hwl hlo
 obtain⟨a,e1,e2⟩:=PySem.W.os_pre_some hpre
 obtain⟨e3,hwi⟩:=Codec.encAll_of_decAll RW.args args a e1
 subst e3
 obtain⟨KX,htab⟩:=hY w _ Y
 have hF:=F w mg fa _ Y KX G.T.g hmg
 obtain⟨ns,u⟩:=a
 have hwl:WellAll w.params s₁.heap vals [.list (ns.map WData.int)]:=hwl
 cases hwl with
 |cons x1 x2=>
  cases x2
  cases x1 with
  | @list al vs _ hol hall=>
   have hv:=Cg hall
   have q:((Codec.inLen 0 3000 ns&&ns.all (Codec.inInt (Int.negSucc 999999999999999999) (Int.ofNat 1000000000000000000)))&&true)=true:=hwi
   rw[Bool.and_eq_true,Bool.and_eq_true]at q
   have hlen:ns.length≤3000:=(Codec.inNat_iff.mp q.1.1).2
   have Yu:PyVbedaf.answers_asked ns=true:=e2
   have hbm:Bm s₁.heap mg:=by
    obtain⟨bm,ob,b1,b2,b3,b4,b5,b6⟩:=G.T.bmain
    refine⟨bm,ob,b1,b2,fun z=>?_,b3,b4,b5,b6⟩
    obtain⟨o',es,ep,e',d',_⟩:=G.T.g
    rw[z,e']at b3
    cases b3
    rw[d']at b6
    cases b6
   refine PySem.W.enter_call (codeAny_mono (aaR (P:=RW.prog) (w:=w) (R:=[]) (cl:=classAt Am.heap) (out:=PyVbedaf.answers ns) (tb:=tb) (sp:=sp (K w.params) w mg) KX G.T.g G.T.b G.T.builtins G.T.nolimit hg hol hv (by rw[sizeLine_eq];omega)
    (fun p hp=>⟨htab p hp,(htb w _ KX p hp).1,(htb w _ KX p hp).2⟩) hr (fun base h1 h2 h3=>hF base h1 h2 (Wb hbm hol htab h3)) rfl (fun base H h1 h2=>hsp w mg base H al ns h1 h2 Yu hlen)) fun r' s' hq=>?_)
   obtain⟨u',as',rfl,h1,h2,h3,h4⟩:=hq
   exact⟨.inl ⟨u',_,as',rfl,fun _=>rfl,h1,(OpenSpec.post_iff aav hwi _ _).mpr rfl,fun z=>Bool.noConfusion (show false=true from z)⟩,h2,h3,h4⟩
end PM
namespace PM
open PySem PySem.Spec PySem.W PyProof.V PyProof.Rows L2
def bw(K:PySem.W.Frag)(name:Str)(st:Stmt):Prop:=∃(f:Addr) (oc:Value) (od:Option Addr) (kV dc pm:Value) (an:Option Addr) (cd ct:Value) (sl:Array (Option Value)),PySem.W.nsIn K mainGlobals name=some (some (.ref f))∧
 K.lookup f=some ⟨oc,od,.func (PySem.W.fnOf name name (jd st) (eE st) (au st) .none kV dc pm an cd ct),sl⟩∧PySem.W.codeIn K cd name=true∧PySem.W.keepIn K (.ref f)=true
def yh(K:PySem.W.Frag)(name:Str)(st:Stmt)(c:Addr):Prop:=∃(f:Addr) (oc:Value) (od:Option Addr) (kV dc pm:Value) (an:Option Addr) (ct:Value) (sl:Array (Option Value)),PySem.W.nsIn K mainGlobals name=some (some (.ref f))∧
 K.lookup f=some ⟨oc,od,.func (PySem.W.fnOf name name (jd st) (eE st) (au st) .none kV dc pm an (.ref c) ct),sl⟩∧PySem.W.codeIn K (.ref c) name=true∧PySem.W.keepIn K (.ref f)=true
def i_(K:PySem.W.Frag)(C:Addr)(name qual:Str)(st:Stmt):Prop:=∃(f:Addr) (oc:Value) (od:Option Addr) (kV dc pm:Value) (an:Option Addr) (cd ct:Value) (sl:Array (Option Value)),PySem.W.findIn K (.ref C) name=some (some (.ref f))∧PySem.W.isFn K (.ref f)=true∧
 K.lookup f=some ⟨oc,od,.func (PySem.W.fnOf name qual (jd st) (eE st) (au st) .none kV dc pm an cd ct),sl⟩∧PySem.W.codeIn K cd qual=true∧PySem.W.keepIn K (.ref f)=true
def Gh(K:PySem.W.Frag)(C:Addr)(name qual:Str)(st:Stmt)(c:Addr):Prop:=∃(f:Addr) (oc:Value) (od:Option Addr) (kV dc pm:Value) (an:Option Addr) (ct:Value) (sl:Array (Option Value)),PySem.W.findIn K (.ref C) name=some (some (.ref f))∧PySem.W.isFn K (.ref f)=true∧
 K.lookup f=some ⟨oc,od,.func (PySem.W.fnOf name qual (jd st) (eE st) (au st) .none kV dc pm an (.ref c) ct),sl⟩∧PySem.W.codeIn K (.ref c) qual=true∧PySem.W.keepIn K (.ref f)=true
def dq(K:PySem.W.Frag)(name:Str)(v:Int):Prop:=∃t,PySem.W.nsIn K mainGlobals name=some (some (.int v t))
@[elab_as_elim] theorem Af{P:List Value→Prop}{us:List Value}(hl:us.length=1)(h:∀a,P [a]):P us:=
 match us,hl with
 | [a],_=>h a
@[elab_as_elim] theorem tk2{P:List Value→Prop}{us:List Value}(hl:us.length=2)(h:∀a b,P [a,b]):P us:=
 match us,hl with
 | [a,b],_=>h a b
@[elab_as_elim] theorem tk3{P:List Value→Prop}{us:List Value}(hl:us.length=3)(h:∀a b c,P [a,b,c]):P us:=
 match us,hl with
 | [a,b,c],_=>h a b c
@[elab_as_elim] theorem Zz{P:List Value→Prop}{us:List Value}(hl:us.length=4)(h:∀a b c d,P [a,b,c,d]):P us:=
 match us,hl with
 | [a,b,c,d],_=>h a b c d
abbrev bz(name qual:Str)(st:Stmt)(ps:List Str):Prop:=∀(kV doc pm:Value) (an:Option Addr) (cdv ct:Value) (us:List Value),us.length=ps.length→bindArgs (PySem.W.fnOf name qual (jd st) (eE st) (au st) .none kV doc pm an cdv ct) ⟨us,[]⟩=pure (ps.zip us)
section
variable{B:Bs}{h:Heap}{C c:Addr}{name qual:Str}{st:Stmt}{ps:List Str}
theorem bw.of(f:bw B.K name st)(X:B.K.In h)(G:h.Ns mainGlobals B.mg)(b:bz name name st ps):bJ B name st ps:=by
 obtain⟨f,oc,od,kV,dc,pm,an,cd,ct,sl,h1,h2,h3,h4⟩:=f
 exact⟨f,_,v_ h2 h3 h4,PySem.W.mg_of X G h1,(v_ h2 h3 h4).binds b⟩
theorem yh.of(f:yh B.K name st c)(X:B.K.In h)(G:h.Ns mainGlobals B.mg)(b:bz name name st ps):z7 B name st ps (.ref c):=by
 obtain⟨f,oc,od,kV,dc,pm,an,ct,sl,h1,h2,h3,h4⟩:=f
 exact⟨f,_,⟨⟨oc,od,kV,dc,pm,an,ct,sl,rfl,h2,h3⟩,h4⟩,PySem.W.mg_of X G h1,(v_ h2 h3 h4).binds b⟩
theorem i_.of(f:i_ B.K C name qual st)(b:bz name qual st ps):lV B C name qual st ps:=by
 obtain⟨f,oc,od,kV,dc,pm,an,cd,ct,sl,h1,h0,h2,h3,h4⟩:=f
 exact⟨f,_,v_ h2 h3 h4,⟨h1,h0,h4⟩,(v_ h2 h3 h4).binds b⟩
theorem Gh.of(f:Gh B.K C name qual st c)(b:bz name qual st ps):Gg B C name qual st ps (.ref c):=by
 obtain⟨f,oc,od,kV,dc,pm,an,ct,sl,h1,h0,h2,h3,h4⟩:=f
 exact⟨f,_,⟨⟨oc,od,kV,dc,pm,an,ct,sl,rfl,h2,h3⟩,h4⟩,⟨h1,h0,h4⟩,(v_ h2 h3 h4).binds b⟩
theorem dq.of{v:Int}(f:dq B.K name v)(X:B.K.In h)(G:h.Ns mainGlobals B.mg):∃t,B.mg name=some (.int v t):=let⟨t,e⟩:=f;⟨t,PySem.W.mg_of X G e⟩
end
def Vt(s:String):Value→Bool
 | .type t=>decide (t=s)
 |_=>false
theorem Es{s:String}{v:Value}(h:Vt s v=true):v= .type s:=by
 cases v<;>first|exact congrArg _ (of_decide_eq_true h)|cases h
def aaq(a:Addr):Value→Bool
 | .ref b=>decide (b=a)
 |_=>false
theorem Vv{a:Addr}{v:Value}(h:aaq a v=true):v= .ref a:=by
 cases v<;>first|exact congrArg _ (of_decide_eq_true h)|cases h
def aap:Value→Bool
 | .str _ _=>true
 |_=>false
theorem Vu{v:Value}(h:aap v=true):∃x t,v= .str x t:=by
 cases v<;>first|exact⟨_,_,rfl⟩|cases h
def isIt:Value→Bool
 | .int _ _=>true
 |_=>false
theorem MN{v:Value}(h:isIt v=true):∃x t,v= .int x t:=by
 cases v<;>first|exact⟨_,_,rfl⟩|cases h
def aas:Value→Bool
 | .bool _=>true
 |_=>false
theorem Vw{v:Value}(h:aas v=true):∃x,v= .bool x:=by
 cases v<;>first|exact⟨_,rfl⟩|cases h
def codeOk(o:Obj)(P:Addr):Bool:=Vt "code" o.cls&&match o.data with
 | .fields vs=>(aaq P (vs.getD 11 .none)&&decide (11<vs.size))&&aap (vs.getD 18 .none)&&isIt (vs.getD 7 .none)&&aas (vs.getD 9 .none)&&isIt (vs.getD 10 .none)
 |_=>false
def nW(K:PySem.W.Frag)(c P:Addr):Prop:=∃o,K.lookup c=some o∧codeOk o P=true∧c≠P
theorem nW.hd{K:PySem.W.Frag}{c P:Addr}{h:Heap}(f:nW K c P)(X:K.In h):PySem.W.CodeHd h c P:=by
 obtain⟨o,h1,h2,h3⟩:=f
 unfold codeOk at h2
 rw[Bool.and_eq_true]at h2
 obtain⟨h2,h4⟩:=h2
 split at h4
 ·rename_i vs hd
  simp only[Bool.and_eq_true]at h4
  obtain⟨⟨⟨⟨⟨q1,q0⟩,q2⟩,q3⟩,q4⟩,q5⟩:=h4
  have q1:=Vv q1
  obtain⟨x2,t2,q2⟩:=Vu q2
  obtain⟨x3,t3,q3⟩:=MN q3
  obtain⟨x4,q4⟩:=Vw q4
  obtain⟨x5,t5,q5⟩:=MN q5
  have q0:=of_decide_eq_true q0
  refine⟨o,vs,x2,t2,x3,t3,x4,x5,t5,X _ _ h1,Es h2,hd,?_,q1,q2,q3,q4,q5,h3⟩
  rw[Array.getD_eq_getD_getElem?,Array.getElem?_eq_getElem q0]at q1
  rw[Array.getElem?_eq_getElem q0]
  exact congrArg some q1
 ·cases h4
theorem zQ{h:Heap}{c P:Addr}(x:PySem.W.CodeHd h c P):isCodeTable h P:=by
 obtain⟨o,vs,_,_,_,_,_,_,_,e1,e2,e3,e4,_⟩:=x
 exact⟨c,o,vs,e1,e2,e3,e4⟩
def Eu:List Value→List Int→Bool
 | [],[]=>true
 |u::us,x::xs=>Value.isInt x u&&Eu us xs
 |_,_=>false
theorem Ci:∀ {us:List Value} {xs:List Int},Eu us xs=true→Vals (xs.map V.int) us
 | [],[],_=> .nil
 |u::us,x::xs,h=>by
  rw[Eu,Bool.and_eq_true]at h
  exact .cons (Value.isInt_shape h.1) (Ci h.2)
 | [],_::_,h=>by cases h
 |_::_,[],h=>by cases h
def Wh(o:Obj)(xs:List Int):Bool:=Vt "tuple" o.cls&&match o.data with
 | .seq its _=>Eu its.toList xs
 |_=>false
def Ge(K:PySem.W.Frag)(name:Str)(xs:List Int):Prop:=∃a o,PySem.W.nsIn K mainGlobals name=some (some (.ref a))∧K.lookup a=some o∧Wh o xs=true
theorem Ge.of{B:Bs}{h:Heap}{name:Str}{xs:List Int}(f:Ge B.K name xs)(X:B.K.In h)(G:h.Ns mainGlobals B.mg)(hl:xs.length≤100):∃a,B.mg name=some (.ref a)∧∀H,mF B.K H a (xs.map V.int):=by
 obtain⟨a,o,h1,h2,h3⟩:=f
 unfold Wh at h3
 rw[Bool.and_eq_true]at h3
 obtain⟨h3,h4⟩:=h3
 refine⟨a,PySem.W.mg_of X G h1,fun H=> .inr ?_⟩
 split at h4
 ·rename_i its n hd
  have v:=Ci h4
  refine⟨o,its,n,h2,Es h3,hd,?_,v⟩
  have e:=v.length
  have e:its.size=xs.length:=by rw[List.length_map]at e;exact e.symm
  rw[e,sizeLine_eq]
  omega
 ·cases h4
def Fl:List DictEntry→List (Int×Int)→Bool
 | [],[]=>true
 |e::es,(k,v)::D=>(Value.isInt k e.key&&decide (e.hash=hashInt k)&&Value.isInt v e.val)&&Fl es D
 |_,_=>false
def Td(a:Addr)(o:Obj)(D:List (Int×Int)):Bool:= !(a==sysModules)&&Vt "dict" o.cls&&o.dict.isNone&&decide (o.slots.size=0)&&match o.data with
 | .dict es _=>Fl es.toList D
 |_=>false
def asD(D:List (Int×Int)):List (PyData×PyData):=D.map fun p=>(.int p.1,.int p.2)
theorem Cr{P:Program}{w:World}:∀ {es:List DictEntry} {D:List (Int×Int)},Fl es D=true→(∀e∈es,∃k,(intKind P w).is k e.key=true∧e.hash=(intKind P w).hash k)∧∃kvs,Pairs (intKind P w) es kvs∧kvs.map Prod.fst=D.map Prod.fst∧FlatPairs PyData.int kvs (asD D)
 | [],[],_=>⟨(fun _ h=>nomatch h),[],.nil,rfl,.nil⟩
 |e::es,(k,v)::D,h=>by
  rw[Fl,Bool.and_eq_true,Bool.and_eq_true,Bool.and_eq_true]at h
  obtain⟨⟨⟨h1,h2⟩,h3⟩,h4⟩:=h
  obtain⟨i1,kvs,i2,i3,i4⟩:=Cr (P:=P) (w:=w) h4
  obtain⟨t,h3⟩:=Value.isInt_shape h3
  refine⟨fun e' he=>?_,(k,e.val)::kvs,.cons h1 rfl i2,by rw[List.map_cons,List.map_cons,i3],.cons (by rw[h3];exact Flat.int v t) i4⟩
  rcases List.mem_cons.mp he with rfl|he
  ·exact⟨k,h1,of_decide_eq_true h2⟩
  ·exact i1 e' he
 | [],_::_,h=>by cases h
 |_::_,[],h=>by cases h
def Lh(K:PySem.W.Frag)(name:Str)(D:List (Int×Int)):Prop:=∃a o,PySem.W.nsIn K mainGlobals name=some (some (.ref a))∧K.lookup a=some o∧Td a o D=true
theorem Lh.of{B:Bs}{h:Heap}{name:Str}{D:List (Int×Int)}(f:Lh B.K name D)(X:B.K.In h)(G:h.Ns mainGlobals B.mg)(Xb:B.K.In B.base)(nd:(D.map Prod.fst).Nodup):∃a,B.mg name=some (.ref a)∧IntTab B.P B.w B.base a (asD D):=by
 obtain⟨a,o,h1,h2,h3⟩:=f
 unfold Td at h3
 simp only[Bool.and_eq_true]at h3
 obtain⟨⟨⟨⟨q1,q2⟩,q3⟩,q4⟩,q5⟩:=h3
 refine⟨a,PySem.W.mg_of X G h1,by simpa using q1,?_⟩
 split at q5
 ·rename_i es n hd
  obtain⟨i1,kvs,i2,i3,i4⟩:=Cr (P:=B.P) (w:=B.w) q5
  exact⟨kvs,⟨o,es,n,Xb _ _ h2,⟨Es q2,Option.isNone_iff_eq_none.mp q3,Array.eq_empty_of_size_eq_zero (of_decide_eq_true q4)⟩,hd,fun e he=>i1 e (Array.mem_def.mp he),i2,by rw[i3];exact nd⟩,i4⟩
 ·cases q5
theorem Ul{K:PySem.W.Frag}{h:Heap}(X:K.In h)(h1:nW K 199 195)(h2:nW K 269 267)(h3:nW K 336 334)(n1:K.lookup 195=none)(n2:K.lookup 267=none)(n3:K.lookup 334=none):∀p∈([195,267,334]:List Addr),isCodeTable h p∧K.lookup p=none:=fun p hp=>by
 simp only[List.mem_cons,List.not_mem_nil,or_false]at hp
 rcases hp with rfl|rfl|rfl
 ·exact⟨zQ (h1.hd X),n1⟩
 ·exact⟨zQ (h2.hd X),n2⟩
 ·exact⟨zQ (h3.hd X),n3⟩
def aB:List aG:=[fG,il,jr]
theorem G3{H:Hp}(h:∀p∈([195,267,334]:List Addr),H p=some (.yt #[])):iQ aB H:=by
 refine⟨fun t ht=>?_⟩
 have:t.P∈([195,267,334]:List Addr):=by
  unfold aB at ht
  simp only[List.mem_cons,List.not_mem_nil,or_false]at ht
  rcases ht with rfl|rfl|rfl<;>simp [fG,il,jr,ir,jG,lJ]
 exact⟨⟨#[],h _ this,by simp [TriplesOk],.inl rfl⟩⟩
theorem QR{K:PySem.W.Frag}{w:World}{mg:Str→Option Value}{base:Heap}{C:Addr}{H:Hp}{a:Addr}{ns:List Int}(h1:vC K H a (ns.map V.int))(h2:∀p∈([195,267,334]:List Addr),H p=some (.yt #[]))(h3:PyVbedaf.answers_asked ns=true)(h4:ns.length≤3000):
  j0 ⟨RW.prog,w,K,mg,base⟩ aB C [.ref a] H (fun v H'=>∃p,v= .ref p∧H' p=some (.lst ((PyVbedaf.answers ns).map V.int))) fun _ _ _=>False:=
 ⟨a,ns,rfl,h1,h3,h4,G3 h2,fun H' p e=>⟨p,rfl,e⟩⟩
theorem Kg{B:Bs}{t:aG}{c:Addr}(hm:t∈aB)(h:nW B.K c t.P)(Xb:B.K.In B.base)(bm:Bm B.base B.mg):Jd B aB t c:=by
 refine⟨hm,fun t2 h2=>?_,h.hd Xb,bm⟩
 unfold aB at hm h2
 simp only[List.mem_cons,List.not_mem_nil,or_false]at hm h2
 rcases hm with rfl|rfl|rfl<;>rcases h2 with rfl|rfl|rfl<;>first|exact .inl rfl|exact .inr (by decide)
structure Facts(K:PySem.W.Frag)(C:Addr):Prop where
 aC:PySem.W.nsIn K mainGlobals "Roadmap"=some (some (.ref C))
 cl:Nq K C
 mks:PySem.W.makesIn K C=true
 kc:PySem.W.keepIn K (.ref C)=true
 Ej:dB K C "size"
 uU:dB K C "reach"
 x_:dB K C "needs"
 yc:dB K C "costs"
 uV:dB K C "barred"
 uT:dB K C "roads"
 uR:dB K C "leads_round"
 vW:dB K C "distances"
 gn:PySem.W.nsIn K mainGlobals "len"=some none
 wZ:PySem.W.nsIn K mainGlobals "any"=some none
 Mv:PySem.W.nsIn K mainGlobals "all"=some none
 rD:PySem.W.nsIn K mainGlobals "sum"=some none
 HB:PySem.W.nsIn K mainGlobals "min"=some none
 Mu:PySem.W.nsIn K mainGlobals "set"=some none
 Ek:PySem.W.nsIn K mainGlobals "list"=some none
 Ms:PySem.W.nsIn K mainGlobals "zip"=some none
 d_:PySem.W.nsIn K mainGlobals "range"=some none
 jh:PySem.W.nsIn K mainGlobals "sorted"=some none
 m7:PySem.W.nsIn K mainGlobals "reversed"=some none
 bM:dq K "OUT_OF_RANGE" (-1)
 bW:dq K "LIST_NOT_AS_TOLD" (-2)
 dM:dq K "NOT_ALLOWED_THERE" (-3)
 nQ:dq K "SAME_PLACE" (-4)
 jx:dq K "ROAD_IS_THERE" (-5)
 jy:dq K "NO_MORE_ROADS" (-6)
 gO:dq K "BEYOND_ALL_POSTS" (-7)
 eG:dq K "ROADS_LEAD_ROUND" (-8)
 nT:dq K "LEAST_SIZE" (2)
 jz:dq K "GREATEST_SIZE" (40)
 fX:dq K "GREATEST_REACH" (1000000000000)
 lu:dq K "LEAST_LENGTH" (1)
 iI:dq K "GREATEST_LENGTH" (1000000000)
 jA:dq K "GREATEST_NEED" (1000)
 jB:dq K "GREATEST_COST" (1000000000)
 nR:dq K "MOST_ROADS" (60)
 fY:dq K "GREATEST_COUNT" (1000000)
 iJ:dq K "GREATEST_AMOUNT" (1000000000000)
 lq:dq K "MOST_FOR_FEW" (3)
 iH:dq K "MOST_FOR_RADIUS" (40)
 lY:dq K "LAST_CHANGE" (5)
 abD:Ge K "WITH_A_LIST" [12,13,14,17,18]
 abC:Ge K "WITHOUT_NUMBERS" [7,8,9,10,11,19]
 abE:Lh K "NUMBERS_BEHIND" [(0,2),(1,3),(2,2),(3,2),(4,2),(5,1),(6,2),(7,0),(8,0),(9,0),(10,0),(11,0),(15,1),(16,1),(19,0)]
 uY:nW K 199 195
 y_:nW K 269 267
 Er:nW K 336 334
 lB:bw K "distances_without_roads" (top 43)
 zF:i_ K C "begin_anew" "Roadmap.begin_anew" (inClass (top 41) 1)
 Fg:i_ K C "__init__" "Roadmap.__init__" (inClass (top 41) 0)
 V1:bw K "begin" (top 17)
 Bl:i_ K C "has_place" "Roadmap.has_place" (inClass (top 41) 2)
 Fe:i_ K C "has_road" "Roadmap.has_road" (inClass (top 41) 3)
 Ie:bw K "way_along" (top 45)
 Ku:bw K "shortest" (top 46)
 oG:bw K "distances_with_road" (top 44)
 Ff:i_ K C "add_road" "Roadmap.add_road" (inClass (top 41) 4)
 YC:bw K "road" (top 18)
 YF:bw K "need" (top 19)
 YG:bw K "cost" (top 20)
 aaN:bw K "bar" (top 21)
 VN:bw K "reach" (top 22)
 tH:bw K "answer_to_change" (top 83)
 Fi:bw K "are_places" (top 24)
 Ik:bw K "are_pairs" (top 25)
 Kv:bw K "pairs_of" (top 26)
 Ij:bw K "is_within" (top 42)
 Fd:i_ K C "in_reach" "Roadmap.in_reach" (inClass (top 41) 5)
 zx:bw K "sum_in_reach" (top 39)
 wj:bw K "posts_in_reach" (top 38)
 S7:bw K "covers" (top 33)
 oF:i_ K C "places_not_barred" "Roadmap.places_not_barred" (inClass (top 41) 8)
 V2:bw K "apart" (top 34)
 YD:bw K "pays" (top 35)
 Fb:yh K "nearest_to" (top 63) 336
 Pj:bw K "nearest" (top 62)
 zG:bw K "listed_pairs" (top 28)
 wz:bw K "how_many_short" (top 37)
 VV:bw K "frail" (top 36)
 wC:bw K "answer_to_list" (top 84)
 Yz:bw K "tree" (top 59)
 S6:bw K "listed" (top 27)
 tE:i_ K C "places_in_need" "Roadmap.places_in_need" (inClass (top 41) 7)
 Pk:i_ K C "depth" "Roadmap.depth" (inClass (top 41) 6)
 vq:Gh K C "deepest_first" "Roadmap.deepest_first" (inClass (top 41) 9) 199
 VP:bw K "order" (top 60)
 qJ:i_ K C "can_have_a_post" "Roadmap.can_have_a_post" (inClass (top 41) 11)
 wy:i_ K C "blind_places" "Roadmap.blind_places" (inClass (top 41) 10)
 V0:bw K "blind" (top 61)
 vp:bw K "refusal_of_plan" (top 50)
 zE:yh K "posts_around" (top 51) 269
 Ih:bw K "put_posts" (top 52)
 Ii:bw K "posts_put" (top 53)
 E_:bw K "witness_of" (top 54)
 VR:bw K "least" (top 48)
 aaL:bw K "pay" (top 55)
 zB:bw K "posts_chosen" (top 56)
 Ky:bw K "cheapest" (top 49)
 YB:bw K "told" (top 64)
 wB:bw K "answer_to_word" (top 85)
 wu:bw K "maybe_a_number" (top 29)
 Kw:bw K "distance" (top 58)
 Pn:bw K "as_bits" (top 69)
 Ig:bw K "seen_from" (top 70)
 wA:bw K "first_that_see" (top 71)
 aaM:bw K "few" (top 68)
 xV:bw K "all_distances" (top 74)
 tG:bw K "do_posts_suffice" (top 75)
 zH:bw K "least_radius" (top 73)
 S5:bw K "radius" (top 72)
 qK:bw K "answer_to_numbers" (top 86)
 Il:bw K "answer_to" (top 82)
 Pq:bw K "answers" (top 81)
section
variable{B:Bs}{h:Heap}{C:Addr}
theorem Facts.txt(f:Facts B.K C)(X:B.K.In h)(G:h.Ns mainGlobals B.mg):Txt B C:=
 ⟨f.cl,f.Ej,f.uU,f.x_,f.yc,f.uV,f.uT,f.uR,f.vW,PySem.W.mg_none_of X G f.gn,PySem.W.mg_none_of X G f.wZ,PySem.W.mg_none_of X G f.Mv,PySem.W.mg_none_of X G f.rD,PySem.W.mg_none_of X G f.HB,PySem.W.mg_none_of X G f.Mu,PySem.W.mg_none_of X G f.Ek,PySem.W.mg_none_of X G f.Ms,PySem.W.mg_none_of X G f.d_,PySem.W.mg_none_of X G f.jh,PySem.W.mg_none_of X G f.m7,PySem.W.mg_of X G f.aC,f.bM.of X G,f.bW.of X G,f.dM.of X G,f.nQ.of X G,f.jx.of X G,f.jy.of X G,f.gO.of X G,f.eG.of X G,f.nT.of X G,f.jz.of X G,f.fX.of X G,f.lu.of X G,f.iI.of X G,f.jA.of X G,f.jB.of X G,f.nR.of X G,f.fY.of X G,f.iJ.of X G,f.lq.of X G,f.iH.of X G,f.lY.of X G⟩
theorem Facts.abB(f:Facts B.K C)(X:B.K.In h)(G:h.Ns mainGlobals B.mg)(Xb:B.K.In B.base):Txt2 B C:=
 ⟨f.abD.of X G (by decide),f.abC.of X G (by decide),f.abE.of X G Xb (by decide),f.mks,f.kc⟩
theorem jZ:bz "distances_without_roads" "distances_without_roads" (top 43) ["size"]:=fun _ _ _ _ _ _ _ hl=>Af hl fun _=>rfl
theorem xq:bz "begin_anew" "Roadmap.begin_anew" (inClass (top 41) 1) ["self","size","reach"]:=fun _ _ _ _ _ _ _ hl=>tk3 hl fun _ _ _=>rfl
theorem Ac:bz "__init__" "Roadmap.__init__" (inClass (top 41) 0) ["self"]:=fun _ _ _ _ _ _ _ hl=>Af hl fun _=>rfl
theorem Qu:bz "begin" "begin" (top 17) ["roadmap","n","r"]:=fun _ _ _ _ _ _ _ hl=>tk3 hl fun _ _ _=>rfl
theorem yp:bz "has_place" "Roadmap.has_place" (inClass (top 41) 2) ["self","v"]:=fun _ _ _ _ _ _ _ hl=>tk2 hl fun _ _=>rfl
theorem Aa:bz "has_road" "Roadmap.has_road" (inClass (top 41) 3) ["self","a","b"]:=fun _ _ _ _ _ _ _ hl=>tk3 hl fun _ _ _=>rfl
theorem CW:bz "way_along" "way_along" (top 45) ["before","length","behind"]:=fun _ _ _ _ _ _ _ hl=>tk3 hl fun _ _ _=>rfl
theorem Gv:bz "shortest" "shortest" (top 46) ["ways"]:=fun _ _ _ _ _ _ _ hl=>Af hl fun _=>rfl
theorem mK:bz "distances_with_road" "distances_with_road" (top 44) ["distances","a","b","length"]:=fun _ _ _ _ _ _ _ hl=>Zz hl fun _ _ _ _=>rfl
theorem Ab:bz "add_road" "Roadmap.add_road" (inClass (top 41) 4) ["self","a","b","length"]:=fun _ _ _ _ _ _ _ hl=>Zz hl fun _ _ _ _=>rfl
theorem Uc:bz "road" "road" (top 18) ["roadmap","a","b","length"]:=fun _ _ _ _ _ _ _ hl=>Zz hl fun _ _ _ _=>rfl
theorem Ue:bz "need" "need" (top 19) ["roadmap","v","d"]:=fun _ _ _ _ _ _ _ hl=>tk3 hl fun _ _ _=>rfl
theorem Ug:bz "cost" "cost" (top 20) ["roadmap","v","c"]:=fun _ _ _ _ _ _ _ hl=>tk3 hl fun _ _ _=>rfl
theorem Xh:bz "bar" "bar" (top 21) ["roadmap","v","k"]:=fun _ _ _ _ _ _ _ hl=>tk3 hl fun _ _ _=>rfl
theorem Qo:bz "reach" "reach" (top 22) ["roadmap","r"]:=fun _ _ _ _ _ _ _ hl=>tk2 hl fun _ _=>rfl
theorem qC:bz "answer_to_change" "answer_to_change" (top 83) ["roadmap","call","numbers"]:=fun _ _ _ _ _ _ _ hl=>tk3 hl fun _ _ _=>rfl
theorem Ae:bz "are_places" "are_places" (top 24) ["roadmap","row"]:=fun _ _ _ _ _ _ _ hl=>tk2 hl fun _ _=>rfl
theorem De:bz "are_pairs" "are_pairs" (top 25) ["roadmap","row","greatest"]:=fun _ _ _ _ _ _ _ hl=>tk3 hl fun _ _ _=>rfl
theorem Gw:bz "pairs_of" "pairs_of" (top 26) ["row"]:=fun _ _ _ _ _ _ _ hl=>Af hl fun _=>rfl
theorem Dd:bz "is_within" "is_within" (top 42) ["far","reach"]:=fun _ _ _ _ _ _ _ hl=>tk2 hl fun _ _=>rfl
theorem z_:bz "in_reach" "Roadmap.in_reach" (inClass (top 41) 5) ["self","post","v"]:=fun _ _ _ _ _ _ _ hl=>tk3 hl fun _ _ _=>rfl
theorem xj:bz "sum_in_reach" "sum_in_reach" (top 39) ["roadmap","v","pairs"]:=fun _ _ _ _ _ _ _ hl=>tk3 hl fun _ _ _=>rfl
theorem tZ:bz "posts_in_reach" "posts_in_reach" (top 38) ["roadmap","posts"]:=fun _ _ _ _ _ _ _ hl=>tk2 hl fun _ _=>rfl
theorem NQ:bz "covers" "covers" (top 33) ["roadmap","row"]:=fun _ _ _ _ _ _ _ hl=>tk2 hl fun _ _=>rfl
theorem mJ:bz "places_not_barred" "Roadmap.places_not_barred" (inClass (top 41) 8) ["self"]:=fun _ _ _ _ _ _ _ hl=>Af hl fun _=>rfl
theorem Qv:bz "apart" "apart" (top 34) ["roadmap","row"]:=fun _ _ _ _ _ _ _ hl=>tk2 hl fun _ _=>rfl
theorem Ud:bz "pays" "pays" (top 35) ["roadmap","row"]:=fun _ _ _ _ _ _ _ hl=>tk2 hl fun _ _=>rfl
theorem z9:bz "nearest_to" "nearest_to" (top 63) ["distances","row"]:=fun _ _ _ _ _ _ _ hl=>tk2 hl fun _ _=>rfl
theorem Jp:bz "nearest" "nearest" (top 62) ["roadmap","row"]:=fun _ _ _ _ _ _ _ hl=>tk2 hl fun _ _=>rfl
theorem xr:bz "listed_pairs" "listed_pairs" (top 28) ["pairs"]:=fun _ _ _ _ _ _ _ hl=>Af hl fun _=>rfl
theorem t_:bz "how_many_short" "how_many_short" (top 37) ["roadmap","have","post","count"]:=fun _ _ _ _ _ _ _ hl=>Zz hl fun _ _ _ _=>rfl
theorem Qs:bz "frail" "frail" (top 36) ["roadmap","row"]:=fun _ _ _ _ _ _ _ hl=>tk2 hl fun _ _=>rfl
theorem ue:bz "answer_to_list" "answer_to_list" (top 84) ["roadmap","call","row"]:=fun _ _ _ _ _ _ _ hl=>tk3 hl fun _ _ _=>rfl
theorem Ua:bz "tree" "tree" (top 59) ["roadmap"]:=fun _ _ _ _ _ _ _ hl=>Af hl fun _=>rfl
theorem NP:bz "listed" "listed" (top 27) ["numbers"]:=fun _ _ _ _ _ _ _ hl=>Af hl fun _=>rfl
theorem qy:bz "places_in_need" "Roadmap.places_in_need" (inClass (top 41) 7) ["self"]:=fun _ _ _ _ _ _ _ hl=>Af hl fun _=>rfl
theorem Jq:bz "depth" "Roadmap.depth" (inClass (top 41) 6) ["self","v"]:=fun _ _ _ _ _ _ _ hl=>tk2 hl fun _ _=>rfl
theorem rM:bz "deepest_first" "Roadmap.deepest_first" (inClass (top 41) 9) ["self"]:=fun _ _ _ _ _ _ _ hl=>Af hl fun _=>rfl
theorem Qp:bz "order" "order" (top 60) ["roadmap"]:=fun _ _ _ _ _ _ _ hl=>Af hl fun _=>rfl
theorem oN:bz "can_have_a_post" "Roadmap.can_have_a_post" (inClass (top 41) 11) ["self","v"]:=fun _ _ _ _ _ _ _ hl=>tk2 hl fun _ _=>rfl
theorem t8:bz "blind_places" "Roadmap.blind_places" (inClass (top 41) 10) ["self"]:=fun _ _ _ _ _ _ _ hl=>Af hl fun _=>rfl
theorem Qt:bz "blind" "blind" (top 61) ["roadmap"]:=fun _ _ _ _ _ _ _ hl=>Af hl fun _=>rfl
theorem rK:bz "refusal_of_plan" "refusal_of_plan" (top 50) ["roadmap"]:=fun _ _ _ _ _ _ _ hl=>Af hl fun _=>rfl
theorem xn:bz "posts_around" "posts_around" (top 51) ["roadmap","reach"]:=fun _ _ _ _ _ _ _ hl=>tk2 hl fun _ _=>rfl
theorem C_:bz "put_posts" "put_posts" (top 52) ["places","needs","around"]:=fun _ _ _ _ _ _ _ hl=>tk3 hl fun _ _ _=>rfl
theorem Dc:bz "posts_put" "posts_put" (top 53) ["short","size"]:=fun _ _ _ _ _ _ _ hl=>tk2 hl fun _ _=>rfl
theorem z8:bz "witness_of" "witness_of" (top 54) ["short","around"]:=fun _ _ _ _ _ _ _ hl=>tk2 hl fun _ _=>rfl
theorem Qq:bz "least" "least" (top 48) ["roadmap"]:=fun _ _ _ _ _ _ _ hl=>Af hl fun _=>rfl
theorem Xf:bz "pay" "pay" (top 55) ["places","costs","around"]:=fun _ _ _ _ _ _ _ hl=>tk3 hl fun _ _ _=>rfl
theorem xm:bz "posts_chosen" "posts_chosen" (top 56) ["bills","around"]:=fun _ _ _ _ _ _ _ hl=>tk2 hl fun _ _=>rfl
theorem Gy:bz "cheapest" "cheapest" (top 49) ["roadmap"]:=fun _ _ _ _ _ _ _ hl=>Af hl fun _=>rfl
theorem Ub:bz "told" "told" (top 64) ["roadmap"]:=fun _ _ _ _ _ _ _ hl=>Af hl fun _=>rfl
theorem ud:bz "answer_to_word" "answer_to_word" (top 85) ["roadmap","call"]:=fun _ _ _ _ _ _ _ hl=>tk2 hl fun _ _=>rfl
theorem t7:bz "maybe_a_number" "maybe_a_number" (top 29) ["number"]:=fun _ _ _ _ _ _ _ hl=>Af hl fun _=>rfl
theorem Gx:bz "distance" "distance" (top 58) ["roadmap","a","b"]:=fun _ _ _ _ _ _ _ hl=>tk3 hl fun _ _ _=>rfl
theorem Jr:bz "as_bits" "as_bits" (top 69) ["places"]:=fun _ _ _ _ _ _ _ hl=>Af hl fun _=>rfl
theorem CZ:bz "seen_from" "seen_from" (top 70) ["roadmap","post"]:=fun _ _ _ _ _ _ _ hl=>tk2 hl fun _ _=>rfl
theorem uc:bz "first_that_see" "first_that_see" (top 71) ["seen","start","wanted","count"]:=fun _ _ _ _ _ _ _ hl=>Zz hl fun _ _ _ _=>rfl
theorem Xg:bz "few" "few" (top 68) ["roadmap","k"]:=fun _ _ _ _ _ _ _ hl=>tk2 hl fun _ _=>rfl
theorem vL:bz "all_distances" "all_distances" (top 74) ["roadmap"]:=fun _ _ _ _ _ _ _ hl=>Af hl fun _=>rfl
theorem qz:bz "do_posts_suffice" "do_posts_suffice" (top 75) ["roadmap","reach","k"]:=fun _ _ _ _ _ _ _ hl=>tk3 hl fun _ _ _=>rfl
theorem xu:bz "least_radius" "least_radius" (top 73) ["roadmap","k"]:=fun _ _ _ _ _ _ _ hl=>tk2 hl fun _ _=>rfl
theorem NK:bz "radius" "radius" (top 72) ["roadmap","k"]:=fun _ _ _ _ _ _ _ hl=>tk2 hl fun _ _=>rfl
theorem oO:bz "answer_to_numbers" "answer_to_numbers" (top 86) ["roadmap","call","numbers"]:=fun _ _ _ _ _ _ _ hl=>tk3 hl fun _ _ _=>rfl
theorem Dg:bz "answer_to" "answer_to" (top 82) ["roadmap","call","numbers"]:=fun _ _ _ _ _ _ _ hl=>tk3 hl fun _ _ _=>rfl
theorem Js:bz "answers" "answers" (top 81) ["calls"]:=fun _ _ _ _ _ _ _ hl=>Af hl fun _=>rfl
theorem Facts.all(f:Facts B.K C)(X:B.K.In h)(G:h.Ns mainGlobals B.mg)(Xb:B.K.In B.base)(bm:Bm B.base B.mg):Df B 20 "answers" ["calls"] (j0 B aB C):=by
 have T:=f.txt X G
 have T2:=f.abB X G Xb
 have dz:=kJ (L:=aB) (c:=0) T (f.lB.of X G jZ)
 have dX:=xP (L:=aB) (c:=0) T (f.zF.of xq) dz
 have nJ:=Az (L:=aB) (c:=0) T (f.Fg.of Ac) dX
 have Fx:=RK (L:=aB) (c:=0) T (f.V1.of X G Qu) dX
 have bf:=yP (L:=aB) (c:=0) T (f.Bl.of yp)
 have nG:=Ax (L:=aB) (c:=0) T (f.Fe.of Aa)
 have lQ:=Ea (L:=aB) (c:=0) T (f.Ie.of X G CW)
 have tL:=Hr (L:=aB) (c:=0) T (f.Ku.of X G Gv)
 have eZ:=m6 (L:=aB) (c:=0) T (f.oG.of X G mK) lQ tL
 have nH:=Ay (L:=aB) (c:=0) T (f.Ff.of Ab) eZ
 have KD:=Ve (L:=aB) (c:=0) T (f.YC.of X G Uc) bf nG nH
 have KJ:=Vg (L:=aB) (c:=0) T (f.YF.of X G Ue) bf
 have KN:=Vh (L:=aB) (c:=0) T (f.YG.of X G Ug) bf
 have Tg:=X8 (L:=aB) (c:=0) T (f.aaN.of X G Xh) bf
 have Fp:=RB (L:=aB) (c:=0) T (f.VN.of X G Qo)
 have gM:=qI (L:=aB) (c:=0) T (f.tH.of X G qC) Fx KD KJ KN Tg Fp
 have cR:=A_ (L:=aB) (c:=0) T (f.Fi.of X G Ae) bf
 have dG:=Eg (L:=aB) (c:=0) T (f.Ik.of X G De) cR
 have eF:=Hs (L:=aB) (c:=0) T (f.Kv.of X G Gw)
 have gV:=Ef (L:=aB) (c:=0) T (f.Ij.of X G Dd)
 have bL:=Aw (L:=aB) (c:=0) T (f.Fd.of z_) gV
 have dW:=xM (L:=aB) (c:=0) T (f.zx.of X G xj) bL
 have cT:=uH (L:=aB) (c:=0) T (f.wj.of X G tZ) dW
 have zN:=Ot (L:=aB) (c:=0) T (f.S7.of X G NQ) dG eF cT
 have aM:=mZ (L:=aB) (c:=0) T (f.oF.of mJ)
 have Fy:=RL (L:=aB) (c:=0) T (f.V2.of X G Qv) cR aM bL
 have KH:=Vf (L:=aB) (c:=0) T (f.YD.of X G Ud) dG eF aM dW
 have nF:=Av (L:=aB) T (f.Fb.of X G z9) (Kg (by simp [aB]) f.Er Xb bm)
 have wG:=J4 (L:=aB) (c:=0) T (f.Pj.of X G Jp) cR nF
 have cC:=xQ (L:=aB) (c:=0) T (f.zG.of X G xr)
 have iW:=uK (L:=aB) (c:=0) T (f.wz.of X G t_) bL
 have Fv:=RG (L:=aB) (c:=0) T (f.VV.of X G Qs) dG eF cT cC iW
 have iZ:=uN (L:=aB) (c:=0) T (f.wC.of X G ue) zN Fy KH wG Fv
 have Kz:=Vc (L:=aB) (c:=0) T (f.Yz.of X G Ua)
 have di:=Oq (L:=aB) (c:=0) T (f.S6.of X G NP)
 have bK:=qG (L:=aB) (c:=0) T (f.tE.of qy)
 have jX:=J5 (L:=aB) (c:=0) T (f.Pk.of Jq)
 have bD:=sH (L:=aB) T (f.vq.of rM) (Kg (by simp [aB]) f.uY Xb bm) bK jX
 have Fq:=RC (L:=aB) (c:=0) T (f.VP.of X G Qp) di bD
 have gf:=o6 (L:=aB) (c:=0) T (f.qJ.of oN) aM bL
 have cV:=uJ (L:=aB) (c:=0) T (f.wy.of t8) gf bK
 have Fw:=RJ (L:=aB) (c:=0) T (f.V0.of X G Qt) di cV
 have cN:=sE (L:=aB) (c:=0) T (f.vp.of X G rK) cV
 have cB:=xO (L:=aB) T (f.zE.of X G xn) (Kg (by simp [aB]) f.y_ Xb bm) aM jX gV
 have gU:=Ec (L:=aB) (c:=0) T (f.Ih.of X G C_)
 have pL:=Ed (L:=aB) (c:=0) T (f.Ii.of X G Dc)
 have nD:=Ar (L:=aB) (c:=0) T (f.E_.of X G z8)
 have Ft:=RD (L:=aB) (c:=0) T (f.VR.of X G Qq) cN cB gU bD pL cC di nD
 have Te:=X6 (L:=aB) (c:=0) T (f.aaL.of X G Xf)
 have k_:=xN (L:=aB) (c:=0) T (f.zB.of X G xm)
 have tO:=Hu (L:=aB) (c:=0) T (f.Ky.of X G Gy) cN cB Te bD k_ di cC
 have KC:=Vd (L:=aB) (c:=0) T (f.YB.of X G Ub)
 have iY:=uM (L:=aB) (c:=0) T (f.wB.of X G ud) Kz Fq Fw Ft tO KC
 have cU:=uI (L:=aB) (c:=0) T (f.wu.of X G t7)
 have tM:=Ht (L:=aB) (c:=0) T (f.Kw.of X G Gx) bf cU
 have jY:=J7 (L:=aB) (c:=0) T (f.Pn.of X G Jr)
 have pK:=Eb (L:=aB) (c:=0) T (f.Ig.of X G CZ) jY bL
 have cG:=uL (L:=aB) T (f.wA.of X G uc)
 have Tf:=X7 (L:=aB) (c:=0) T (f.aaM.of X G Xg) jY bK aM pK cG di
 have jw:=vV (L:=aB) (c:=0) T (f.xV.of X G vL)
 have gK:=qH (L:=aB) (c:=0) T (f.tG.of X G qz) cB bD gU
 have lg:=xR (L:=aB) (c:=0) T (f.zH.of X G xu) jw gK
 have zM:=Oo (L:=aB) (c:=0) T (f.S5.of X G NK) cU lg
 have gh:=o7 (L:=aB) (c:=0) T (f.qK.of X G oO) tM Tf zM
 have pM:=Eh (L:=aB) (c:=0) T (f.Il.of X G Dg) gM iZ iY gh T2
 have Px:=J8 (L:=aB) (c:=0) T (f.Pq.of X G Js) nJ pM T2
 exact Px
theorem Facts.end_{P:Program}{w:World}{K:PySem.W.Frag}{mg:Str→Option Value}{h:Heap}{C fa:Addr}(f:Facts K C)(X:K.In h)(G:h.Ns mainGlobals mg)(hfa:mg "answers"=some (.ref fa)):
  ∀base:Heap,K.In base→base.Ns mainGlobals mg→Bm base mg→∃fd,Binds K fd ["calls"] []∧tX P w K mg base TQ 20 fa fd ["calls"] (j0 ⟨P,w,K,mg,base⟩ aB 0):=fun base Xb _ bm=>by
 obtain⟨f',fd,h1,h2,_,h4⟩:=Facts.all (B:=⟨P,w,K,mg,base⟩) f X G Xb bm
 have e:=hfa.symm.trans h2
 cases e
 exact⟨fd,h4,h1⟩
end
end PM
inductive PySem.W.Fast:Prop|tw6057919293559976602|tw16836104097366757446|tw6922707577835134446|tw10984140115146993876|tw1138508771720157005|tw12947005781417822222|tw4496707232259123071|tw6745729652137473202|tw8637344806928024397|tw5561403483216822704|tw14508013178961297113|tw10364448148694241883|tw10129932047791654950|tw15841428209734046399|tw16222498101814355967|tw12770929668871593390|tw16381078626221368976|tw3825869639932216584|tw8629052082284610211|tw9199988027993495625|tw1600142572991529600|tw10351108700395444703|tw16449835232404881175|tw2413828884166279249|tw13303508169309111630|tw8263856869618078285|tw18207758383663736447|tw8536027670082979993|tw11044626660598612986|tw7223141614166414792|tw2330731234278649922|tw16876682870231514930|tw7783387977322073275|tw7136028233208794880|tw1576732196311272125|tw16931225182150259226|tw4375341929421838130|tw15516280084498614822|tw6450938897054586108|tw3282456565373819412|tw2704108934889323918|tw7228597998142797459|tw18100748145488227517|tw13742352726892024189|tw13151443324935828794|tw5035987505340704435|tw16804806070056642298|tw9963397207075861548|tw818418829696999435|tw6825892094716419222|tw17407782298272348296|tw472884140364215314|tw134897323577742344|tw5102739058840325957|tw3712122808771540044|tw17691500558681372934|tw17579688182739473088|tw9833886689712522961|tw10106545756834049615|tw18046556934812037139|tw13995849004752939275|tw1727344507360077322|tw9370174138095814340|tw10884950357548524538|tw10181018157087565935|tw2091295473654342217|tw7860655386945925746|tw10832643899365822882|tw12830829550814045115|tw11604190891533121982|tw15595881269135106148|tw9923204235806682605|tw4856709176781124380|tw1779618727737554925|tw12798868501200397883|tw15437165540490319690|tw401606338067210296|tw13507524335276313398|tw5326529361881431098|tw7615792771823197692|tw9397343661460852039|tw10211103554699883844|tw1607075697171499060|tw14881629327472217159|tw8729415576276587960|tw7995132180926706671|tw13397880913405359978|tw807314031091166677|tw14133855858952498641|tw16785946123069561302|tw13179094835329196891|tw1394291693874511894|tw4760698828274808066|tw1115067682701228998|tw17232808540468601498|tw8915104177569275929|tw12762772275956641878|tw2533697634334876979|tw3619757073788978023|tw9230404683783496611|tw9792194727069675531|tw18315329766040541414|tw13345749069251427252|tw18094257463369618469|tw8943538444171820008|tw13935635354795068386|tw13445129031019650875|tw15137572765595933570|tw2015419499940766208|tw10064739369789101424|tw7755833828614731374|tw10154520699005221533|tw16353444836779369514|tw396313063320195178|tw4172728820302106866|tw2281124086869870862|tw5535565546794868032|tw9437179303710149019|tw5995256442080095033|tw3299480547158847442|tw2361134554368081150|tw14174533892593258412|tw13165607705745345675|tw4977059316268900632|tw8046114712345650301|tw18363176671009099688|tw12283818243417257440|tw16299342549106418190|tw3473468157706066097|tw7369096837867902201|tw17970108798290244456|tw8048579076039020446|tw11057411464544693244|tw8769349602289642036|tw1202763128251802483|tw12437017056989150259|tw9206274651101028625|tw7653812454456703613|tw7903242588531440842|tw4031599836129801594|tw12920057004124580845|tw6430692318063111915|tw16626101841999016475|tw10130713652827612660|tw10293609712718762286|tw167109281850791176|tw7489346836715226727|tw8990997092262249234|tw2092563293110435738|tw14602295381863171311|tw7450377804944898283|tw18386445041744536696|tw868096135071832514|tw306172744666302769|tw1779223250401058228|tw5605979041209186239|tw7338317620773976434|tw14580970609073583393|tw15363606311785768518|tw1483200339886954798|tw13963577994942352423|tw11506135233143154095|tw12555375266911627379|tw15571826524818075310|tw327810533656709241|tw13400244620397350898|tw4188813195427500175|tw7979242477542931343|tw8884012529456088697|tw17513445910660007170|tw653132997003662263|tw3136237798497753537|tw17261098668863050404|tw14257032436232117070|tw16018442729268166913|tw14213078000009023543|tw6317057077446128033|tw13092170273795161365|tw2865263028069137006|tw17890745242560781114|tw1710399914015040573|tw7828125085341179418|tw14179854159218283859|tw3159717253211851061|tw10003506453478642939|tw13658858609252871147|tw17999303457930782413|tw18169832515763908899|tw13704980431381523779|tw3846734442861571622|tw9371166164245449575|tw13426423045025035471|tw867813866162296800|tw4378122823126364532|tw233860673712266296|tw14290582434923259093|tw15303913484674216937|tw15132130829341058379|tw9009951653877113039|tw10739053879606990966|tw14430616809978110455|tw76828614994315240|tw2812919730189143115|tw1675358860769542822|tw5821816630634181396|tw17440727558302577850|tw5211939510500117011|tw3733884550898963866|tw1897754189297749428|tw3985320254675182997|tw356831960486126267|tw17070629286501109252|tw4394012029593043231|tw10877063367590544131|tw2948406325032566057|tw17844568382180116515|tw1798611330125101046|tw2614235580881518866|tw9140322512364960243|tw1301186283572611596|tw9547306957499923322|tw2987288831755735302|tw1324710499257812721|tw17595334250871673279|tw492276599115101364|tw16788845049635999059|tw1842079704250133264|tw11107598252943292142|tw9925338497626067289|tw855644120616939800|tw2048521223267427476|tw17977710339849966152|tw13527117776843000879|tw1147845351759614595|tw12934832708649007865|tw9471599853646630172|tw5403202736744790394|tw12926018319359467592|tw4060948307919410765|tw7991751902322718192|tw15385178352666597597|tw6416528568466546705|tw8039218088430305778|tw815572834904075196|tw7894694254994750104|tw2043369375004781882|tw15366360411072359768|tw6396090293717548924|tw8378431800847165405|tw3978679832444709854|tw2491845112704475911|tw3583674567731551447|tw13142417715223561758|tw9803624375848921853|tw14604773901648589765|tw17363864317138594458|tw9213203806817280866|tw18436456214889422444|tw18441649344338680245|tw1888146785937772745|tw15268930008079046307|tw2325767501861332630|tw8238841710841862431|tw14813896914534289839|tw2064298733333787294|tw11333057365210538173|tw17736327407416576099|tw11224121171411569308|tw13400201956521172506|tw7189396505085058219|tw1512129355700500087|tw9448861647928214300|tw4585854853670253632|tw10102982148104758513|tw15960670300700176413|tw16634995921108555119|tw13105175032674752831
namespace L2
open PySem PySem.W
def Gn (H : PySem.W.Hook) (l : List Addr) : PySem.W.Hook :=
  ⟨H.α × List (Option Obj), fun s => (H.obs s, l.map s.heap.get?), fun w => (H.val w, l.map fun _ => some (PySem.W.tabObj #[])), fun w h => H.says w h ∧ ∀ a ∈ l, h.get? a = some (PySem.W.tabObj #[]),
    fun w s e => ⟨H.of w s (Prod.mk.inj e).1, fun a ha => List.map_inj_left.mp (Prod.mk.inj e).2 a ha⟩, fun w h h' x k => ⟨H.keeps w h h' x.1 k, fun a ha => k _ _ (x.2 a ha)⟩⟩
end L2
open PySem PySem.W PyProof.Rows
local macro_rules
  | `(tactic| o_headS $h:term) => do
    match h with
    | `((L2.Gn $x $y)) => Lean.Macro.throwUnsupported
    | _ => `(tactic| o_headS (L2.Gn $h [195, 267, 334]))
set_option maxRecDepth 100000 in
set_option maxHeartbeats 0 in
theorem PySem.Challenge.cw_postroads_s01_answers_holds : PySem.Challenge.rw_postroads_s01_answers.Holds := by
 w_on;k_headS;(case hw=>exact⟨[.list [.int 7]],by decide+kernel,by decide+kernel⟩)
 k_fillS
 refine PM.walk1 (k:=20) (tb:=[195,267,334]) (sp:=fun K w mg base=>PM.j0 ⟨PM.RW.prog,w,K,mg,base⟩ PM.aB 0) (by decide+kernel) ⟨rfl,by decide,by decide⟩ (fun w h Y=>⟨PySem.W.kIn_of Y.1,Y.2⟩) ?T ?F ?S
 case T=>
  intro w h KX
  exact PM.Ul KX ⟨_,by k_is,(by first|rfl|decide+kernel),by decide⟩ ⟨_,by k_is,(by first|rfl|decide+kernel),by decide⟩ ⟨_,by k_is,(by first|rfl|decide+kernel),by decide⟩ rfl rfl rfl
 case S=>exact fun w mg base H a ns h1 h2 h3 h4=>PM.QR h1 h2 h3 h4
 case F=>
  intro w mg fa h Y KX G hmg
  refine' PM.Facts.end_ (PM.Facts.mk ?x0 ?x1 ?x2 ?x3 ?x4 ?x5 ?x6 ?x7 ?x8 ?x9 ?x10 ?x11 ?x12 ?x13 ?x14 ?x15 ?x16 ?x17 ?x18 ?x19 ?x20 ?x21 ?x22 ?x23 ?x24 ?x25 ?x26 ?x27 ?x28 ?x29 ?x30 ?x31 ?x32 ?x33 ?x34 ?x35 ?x36 ?x37 ?x38 ?x39 ?x40 ?x41 ?x42 ?x43 ?x44 ?x45 ?x46 ?x47 ?x48 ?x49 ?x50 ?x51 ?x52 ?x53 ?x54 ?x55 ?x56 ?x57 ?x58 ?x59 ?x60 ?x61 ?x62 ?x63 ?x64 ?x65 ?x66 ?x67 ?x68 ?x69 ?x70 ?x71 ?x72 ?x73 ?x74 ?x75 ?x76 ?x77 ?x78 ?x79 ?x80 ?x81 ?x82 ?x83 ?x84 ?x85 ?x86 ?x87 ?x88 ?x89 ?x90 ?x91 ?x92 ?x93 ?x94 ?x95 ?x96 ?x97 ?x98 ?x99 ?x100 ?x101 ?x102 ?x103 ?x104 ?x105 ?x106 ?x107 ?x108 ?x109 ?x110 ?x111 ?x112 ?x113 ?x114 ?x115) KX G hmg
  case x0=>k_is
  case x1=>exact⟨by k_is,by k_is,by k_is,by k_is⟩
  case x2=>k_is
  case x3=>k_is
  case x4=>exact(show PySem.W.findIn _ _ _=_ from by k_is)
  case x5=>exact(show PySem.W.findIn _ _ _=_ from by k_is)
  case x6=>exact(show PySem.W.findIn _ _ _=_ from by k_is)
  case x7=>exact(show PySem.W.findIn _ _ _=_ from by k_is)
  case x8=>exact(show PySem.W.findIn _ _ _=_ from by k_is)
  case x9=>exact(show PySem.W.findIn _ _ _=_ from by k_is)
  case x10=>exact(show PySem.W.findIn _ _ _=_ from by k_is)
  case x11=>exact(show PySem.W.findIn _ _ _=_ from by k_is)
  case x12=>k_is
  case x13=>k_is
  case x14=>k_is
  case x15=>k_is
  case x16=>k_is
  case x17=>k_is
  case x18=>k_is
  case x19=>k_is
  case x20=>k_is
  case x21=>k_is
  case x22=>k_is
  case x23=>exact⟨_,by k_is⟩
  case x24=>exact⟨_,by k_is⟩
  case x25=>exact⟨_,by k_is⟩
  case x26=>exact⟨_,by k_is⟩
  case x27=>exact⟨_,by k_is⟩
  case x28=>exact⟨_,by k_is⟩
  case x29=>exact⟨_,by k_is⟩
  case x30=>exact⟨_,by k_is⟩
  case x31=>exact⟨_,by k_is⟩
  case x32=>exact⟨_,by k_is⟩
  case x33=>exact⟨_,by k_is⟩
  case x34=>exact⟨_,by k_is⟩
  case x35=>exact⟨_,by k_is⟩
  case x36=>exact⟨_,by k_is⟩
  case x37=>exact⟨_,by k_is⟩
  case x38=>exact⟨_,by k_is⟩
  case x39=>exact⟨_,by k_is⟩
  case x40=>exact⟨_,by k_is⟩
  case x41=>exact⟨_,by k_is⟩
  case x42=>exact⟨_,by k_is⟩
  case x43=>exact⟨_,by k_is⟩
  case x44=>exact⟨_,_,by k_is,by k_is,by first|rfl|decide+kernel⟩
  case x45=>exact⟨_,_,by k_is,by k_is,by first|rfl|decide+kernel⟩
  case x46=>exact⟨_,_,by k_is,by k_is,by first|rfl|decide+kernel⟩
  case x47=>exact⟨_,by k_is,(by first|rfl|decide+kernel),by decide⟩
  case x48=>exact⟨_,by k_is,(by first|rfl|decide+kernel),by decide⟩
  case x49=>exact⟨_,by k_is,(by first|rfl|decide+kernel),by decide⟩
  case x50=>exact⟨_,_,_,_,_,_,_,_,_,_,by k_is,by k_is,by k_is,by k_is⟩
  case x51=>exact⟨_,_,_,_,_,_,_,_,_,_,by k_is,by k_is,by k_is,by k_is,by k_is⟩
  case x52=>exact⟨_,_,_,_,_,_,_,_,_,_,by k_is,by k_is,by k_is,by k_is,by k_is⟩
  case x53=>exact⟨_,_,_,_,_,_,_,_,_,_,by k_is,by k_is,by k_is,by k_is⟩
  case x54=>exact⟨_,_,_,_,_,_,_,_,_,_,by k_is,by k_is,by k_is,by k_is,by k_is⟩
  case x55=>exact⟨_,_,_,_,_,_,_,_,_,_,by k_is,by k_is,by k_is,by k_is,by k_is⟩
  case x56=>exact⟨_,_,_,_,_,_,_,_,_,_,by k_is,by k_is,by k_is,by k_is⟩
  case x57=>exact⟨_,_,_,_,_,_,_,_,_,_,by k_is,by k_is,by k_is,by k_is⟩
  case x58=>exact⟨_,_,_,_,_,_,_,_,_,_,by k_is,by k_is,by k_is,by k_is⟩
  case x59=>exact⟨_,_,_,_,_,_,_,_,_,_,by k_is,by k_is,by k_is,by k_is,by k_is⟩
  case x60=>exact⟨_,_,_,_,_,_,_,_,_,_,by k_is,by k_is,by k_is,by k_is⟩
  case x61=>exact⟨_,_,_,_,_,_,_,_,_,_,by k_is,by k_is,by k_is,by k_is⟩
  case x62=>exact⟨_,_,_,_,_,_,_,_,_,_,by k_is,by k_is,by k_is,by k_is⟩
  case x63=>exact⟨_,_,_,_,_,_,_,_,_,_,by k_is,by k_is,by k_is,by k_is⟩
  case x64=>exact⟨_,_,_,_,_,_,_,_,_,_,by k_is,by k_is,by k_is,by k_is⟩
  case x65=>exact⟨_,_,_,_,_,_,_,_,_,_,by k_is,by k_is,by k_is,by k_is⟩
  case x66=>exact⟨_,_,_,_,_,_,_,_,_,_,by k_is,by k_is,by k_is,by k_is⟩
  case x67=>exact⟨_,_,_,_,_,_,_,_,_,_,by k_is,by k_is,by k_is,by k_is⟩
  case x68=>exact⟨_,_,_,_,_,_,_,_,_,_,by k_is,by k_is,by k_is,by k_is⟩
  case x69=>exact⟨_,_,_,_,_,_,_,_,_,_,by k_is,by k_is,by k_is,by k_is⟩
  case x70=>exact⟨_,_,_,_,_,_,_,_,_,_,by k_is,by k_is,by k_is,by k_is,by k_is⟩
  case x71=>exact⟨_,_,_,_,_,_,_,_,_,_,by k_is,by k_is,by k_is,by k_is⟩
  case x72=>exact⟨_,_,_,_,_,_,_,_,_,_,by k_is,by k_is,by k_is,by k_is⟩
  case x73=>exact⟨_,_,_,_,_,_,_,_,_,_,by k_is,by k_is,by k_is,by k_is⟩
  case x74=>exact⟨_,_,_,_,_,_,_,_,_,_,by k_is,by k_is,by k_is,by k_is,by k_is⟩
  case x75=>exact⟨_,_,_,_,_,_,_,_,_,_,by k_is,by k_is,by k_is,by k_is⟩
  case x76=>exact⟨_,_,_,_,_,_,_,_,_,_,by k_is,by k_is,by k_is,by k_is⟩
  case x77=>exact⟨_,_,_,_,_,_,_,_,_,by k_is,by k_is,by k_is,by k_is⟩
  case x78=>exact⟨_,_,_,_,_,_,_,_,_,_,by k_is,by k_is,by k_is,by k_is⟩
  case x79=>exact⟨_,_,_,_,_,_,_,_,_,_,by k_is,by k_is,by k_is,by k_is⟩
  case x80=>exact⟨_,_,_,_,_,_,_,_,_,_,by k_is,by k_is,by k_is,by k_is⟩
  case x81=>exact⟨_,_,_,_,_,_,_,_,_,_,by k_is,by k_is,by k_is,by k_is⟩
  case x82=>exact⟨_,_,_,_,_,_,_,_,_,_,by k_is,by k_is,by k_is,by k_is⟩
  case x83=>exact⟨_,_,_,_,_,_,_,_,_,_,by k_is,by k_is,by k_is,by k_is⟩
  case x84=>exact⟨_,_,_,_,_,_,_,_,_,_,by k_is,by k_is,by k_is,by k_is⟩
  case x85=>exact⟨_,_,_,_,_,_,_,_,_,_,by k_is,by k_is,by k_is,by k_is,by k_is⟩
  case x86=>exact⟨_,_,_,_,_,_,_,_,_,_,by k_is,by k_is,by k_is,by k_is,by k_is⟩
  case x87=>exact⟨_,_,_,_,_,_,_,_,_,by k_is,by k_is,by k_is,by k_is,by k_is⟩
  case x88=>exact⟨_,_,_,_,_,_,_,_,_,_,by k_is,by k_is,by k_is,by k_is⟩
  case x89=>exact⟨_,_,_,_,_,_,_,_,_,_,by k_is,by k_is,by k_is,by k_is,by k_is⟩
  case x90=>exact⟨_,_,_,_,_,_,_,_,_,_,by k_is,by k_is,by k_is,by k_is,by k_is⟩
  case x91=>exact⟨_,_,_,_,_,_,_,_,_,_,by k_is,by k_is,by k_is,by k_is⟩
  case x92=>exact⟨_,_,_,_,_,_,_,_,_,_,by k_is,by k_is,by k_is,by k_is⟩
  case x93=>exact⟨_,_,_,_,_,_,_,_,_,by k_is,by k_is,by k_is,by k_is⟩
  case x94=>exact⟨_,_,_,_,_,_,_,_,_,_,by k_is,by k_is,by k_is,by k_is⟩
  case x95=>exact⟨_,_,_,_,_,_,_,_,_,_,by k_is,by k_is,by k_is,by k_is⟩
  case x96=>exact⟨_,_,_,_,_,_,_,_,_,_,by k_is,by k_is,by k_is,by k_is⟩
  case x97=>exact⟨_,_,_,_,_,_,_,_,_,_,by k_is,by k_is,by k_is,by k_is⟩
  case x98=>exact⟨_,_,_,_,_,_,_,_,_,_,by k_is,by k_is,by k_is,by k_is⟩
  case x99=>exact⟨_,_,_,_,_,_,_,_,_,_,by k_is,by k_is,by k_is,by k_is⟩
  case x100=>exact⟨_,_,_,_,_,_,_,_,_,_,by k_is,by k_is,by k_is,by k_is⟩
  case x101=>exact⟨_,_,_,_,_,_,_,_,_,_,by k_is,by k_is,by k_is,by k_is⟩
  case x102=>exact⟨_,_,_,_,_,_,_,_,_,_,by k_is,by k_is,by k_is,by k_is⟩
  case x103=>exact⟨_,_,_,_,_,_,_,_,_,_,by k_is,by k_is,by k_is,by k_is⟩
  case x104=>exact⟨_,_,_,_,_,_,_,_,_,_,by k_is,by k_is,by k_is,by k_is⟩
  case x105=>exact⟨_,_,_,_,_,_,_,_,_,_,by k_is,by k_is,by k_is,by k_is⟩
  case x106=>exact⟨_,_,_,_,_,_,_,_,_,_,by k_is,by k_is,by k_is,by k_is⟩
  case x107=>exact⟨_,_,_,_,_,_,_,_,_,_,by k_is,by k_is,by k_is,by k_is⟩
  case x108=>exact⟨_,_,_,_,_,_,_,_,_,_,by k_is,by k_is,by k_is,by k_is⟩
  case x109=>exact⟨_,_,_,_,_,_,_,_,_,_,by k_is,by k_is,by k_is,by k_is⟩
  case x110=>exact⟨_,_,_,_,_,_,_,_,_,_,by k_is,by k_is,by k_is,by k_is⟩
  case x111=>exact⟨_,_,_,_,_,_,_,_,_,_,by k_is,by k_is,by k_is,by k_is⟩
  case x112=>exact⟨_,_,_,_,_,_,_,_,_,_,by k_is,by k_is,by k_is,by k_is⟩
  case x113=>exact⟨_,_,_,_,_,_,_,_,_,_,by k_is,by k_is,by k_is,by k_is⟩
  case x114=>exact⟨_,_,_,_,_,_,_,_,_,_,by k_is,by k_is,by k_is,by k_is⟩
  case x115=>exact⟨_,_,_,_,_,_,_,_,_,_,by k_is,by k_is,by k_is,by k_is⟩
