import PyProof.Rows.All
import Wide.All
import OpenK.AllK
import Wide.FinOn
import PySem.Challenge.RW_fieldrows_k41_reckons
import Lean
set_option Elab.async false
set_option linter.all false
set_option maxRecDepth 100000
set_option maxHeartbeats 4100000
noncomputable abbrev Fg:=PySem.W.Frag
namespace L2
open PySem PySem.Spec PyProof.Rows
noncomputable abbrev Key:=Sum Int Str
noncomputable def b5:Key->Value->Bool
 |.inl k,v=>Value.isInt k v
 |.inr x,v=>Value.isStrOf x v
noncomputable def zJC(w:World):Key->Int
 |.inl k=>hashInt k
 |.inr x=>hashStr w x
theorem yD:∀{k:Key} {v:Value},b5 k v=true->(∃i t,k=Sum.inl i/\v=Value.int i t)\/(∃x t,k=Sum.inr x/\v=Value.str x t)
 |.inl i,v,h=>by
  obtain⟨t,e⟩:=Value.isInt_shape (k:=i) (v:=v) h
  exact .inl ⟨i,t,rfl,e⟩
 |.inr x,v,h=>by
  obtain⟨t,e⟩:=Value.isStrOf_shape (x:=x) (v:=v) h
  exact .inr ⟨x,t,rfl,e⟩
theorem rP(i:Int)(t:Tok):b5 (.inl i) (.int i t)=true:=by simp[b5,Value.isInt]
theorem rO(x:Str)(t:Tok):b5 (.inr x) (.str x t)=true:=by simp[b5,Value.isStrOf]
theorem zE9(a b:Int):decide ((Sum.inl a:Key)=Sum.inl b)=(a == b):=by
 by_cases e:a=b
 ·subst e;simp
 ·have h:¬(Sum.inl a:Key)=Sum.inl b:=fun q=>e (Sum.inl.inj q)
  rw[decide_eq_false h]
  exact(beq_eq_false_iff_ne.mpr e).symm
theorem zE6(a b:Str):decide ((Sum.inr a:Key)=Sum.inr b)=decide (a=b):=by
 by_cases e:a=b
 ·subst e;simp
 ·have h:¬(Sum.inr a:Key)=Sum.inr b:=fun q=>e (Sum.inr.inj q)
  rw[decide_eq_false h,decide_eq_false e]
theorem zE8(a:Int)(b:Str):decide ((Sum.inl a:Key)=Sum.inr b)=false:=decide_eq_false (fun q=>nomatch q)
theorem zE7(a:Str)(b:Int):decide ((Sum.inr a:Key)=Sum.inl b)=false:=decide_eq_false (fun q=>nomatch q)
noncomputable def yH(prog:Program)(w:World):PySem.KeyKind prog w Key where
 is:=b5
 hash:=zJC w
 inj:=fun v a b ha hb=>by
  rcases yD ha with⟨i,t,rfl,rfl⟩|⟨x,t,rfl,rfl⟩
  ·rcases yD hb with⟨j,u,rfl,e⟩|⟨y,u,rfl,e⟩
   ·injection e with e1 _;rw[e1]
   ·exact nomatch e
  ·rcases yD hb with⟨j,u,rfl,e⟩|⟨y,u,rfl,e⟩
   ·exact nomatch e
   ·injection e with e1 _;rw[e1]
 byValue:=fun k v h=>by
  rcases yD h with⟨i,t,rfl,rfl⟩|⟨x,t,rfl,rfl⟩<;>rfl
 pyHash:=fun hv h=>by
  rcases yD hv with⟨i,t,rfl,rfl⟩|⟨x,t,rfl,rfl⟩
  ·exact wpAny_pyHash_int h
  ·exact wpAny_pyHash_str h
 eqBool:=fun hu hv h=>by
  rcases yD hu with⟨i,t,rfl,rfl⟩|⟨x,t,rfl,rfl⟩
  ·rcases yD hv with⟨j,u,rfl,rfl⟩|⟨y,u,rfl,rfl⟩
   ·rw[zE9] at h;exact wpAny_eqBool_int h
   ·rw[zE8] at h;exact SeqAt.EqAt.int_str i t y u _ _ _ _ h
  ·rcases yD hv with⟨j,u,rfl,rfl⟩|⟨y,u,rfl,rfl⟩
   ·rw[zE7] at h;exact SeqAt.EqAt.str_int x t j u _ _ _ _ h
   ·rw[zE6] at h;exact wpAny_eqBool_str h
 «strs»:=fun k x t v h=>by
  rcases yD h with⟨i,u,rfl,e⟩|⟨y,u,rfl,e⟩
  ·exact nomatch e
  ·injection e with e1 _
   subst e1
   cases v<;>rfl
theorem dQ(prog:Program)(w:World)(i:Int)(t:Tok):(yH prog w).is (.inl i) (.int i t)=true:=rP i t
theorem dP(prog:Program)(w:World)(x:Str)(t:Tok):(yH prog w).is (.inr x) (.str x t)=true:=rO x t
end L2
namespace L2
open PySem PySem.Spec PyProof.Rows
inductive V where
 |non|bl (b:Bool)|int (i:Int)|str (x:Str)|byt (b:Array UInt8)|flt (b:UInt64)|ref (a:Addr)|ty (n:String)
 deriving DecidableEq
noncomputable def RelV:V->Value->Prop
 |.non,u=>u=Value.none
 |.bl b,u=>u=Value.bool b
 |.int i,u=>∃t,u=Value.int i t
 |.str x,u=>∃t,u=Value.str x t
 |.byt b,u=>∃t,u=Value.bytes b t
 |.flt b,u=>∃t,u=Value.float b t
 |.ref a,u=>u=Value.ref a
 |.ty n,u=>u=Value.type n
noncomputable abbrev Vals:List V->List Value->Prop:=Paired RelV
theorem Vals.length{xs:List V}{us:List Value}(r:Vals xs us):xs.length=us.length:=Paired.length r
theorem Vals.get:∀{xs:List V} {us:List Value} {i:Nat} {x:V},Vals xs us->xs[i]?=some x->∃u,us[i]?=some u/\RelV x u
 |_,_,_,_,.nil,e=>by simp at e
 |_,_,0,_,.cons r _,e=>by simp at e;subst e;exact⟨_,rfl,r⟩
 |_,_,i+1,x,.cons _ t,e=>by
  obtain⟨u,h1,h2⟩:=Vals.get (i:=i) (x:=x) t (by simpa using e)
  exact⟨u,by simpa using h1,h2⟩
theorem Vals.append:∀{xs ys:List V} {us ws:List Value},Vals xs us->Vals ys ws->Vals (xs++ys) (us++ws)
 |_,_,_,_,.nil,s=>s
 |_,_,_,_,.cons r t,s=>.cons r (Vals.append t s)
theorem Vals.take:∀{xs:List V} {us:List Value} (n:Nat),Vals xs us->Vals (xs.take n) (us.take n)
 |_,_,0,_=>.nil
 |_,_,_+1,.nil=>.nil
 |_,_,n+1,.cons r t=>.cons r (Vals.take n t)
theorem Vals.drop:∀{xs:List V} {us:List Value} (n:Nat),Vals xs us->Vals (xs.drop n) (us.drop n)
 |_,_,0,r=>r
 |_,_,_+1,.nil=>.nil
 |_,_,n+1,.cons _ t=>Vals.drop n t
noncomputable def RelO:Option V->Option Value->Prop
 |some v,some u=>RelV v u
 |none,none=>True
 |_,_=>False
noncomputable def KV{κ:Type}:List (κ×V)->List (κ×Value)->Prop:=Paired fun(p:κ×V) (q:κ×Value)=>p.1=q.1/\RelV p.2 q.2
noncomputable def kV:Key->V
 |.inl i=>.int i
 |.inr x=>.str x
inductive HO where
 |lst (xs:List V)
 |tup (xs:List V)
 |dK (kvs:List (Key×V))|dT (kvs:List (List Key×V))
 |set (S:Int->Bool) (n:Nat)
 |ins (C dx:Addr) (fs:List (Str×V))
 |own (x:Addr)
 |xd (fs:List (Str×V))
 |met (f x:Addr)
 |rng (lo hi:Int)
 |frz (o:Obj) (u:HO)
 |tbl (ps:Array Value)
 |ext (φ:Heap->Prop)
noncomputable abbrev Hp:=Addr->Option HO
noncomputable def upd(H:Hp)(a:Addr)(o:HO):Hp:=fun b=>if b=a then some o else H b
theorem zK{H:Hp}{a:Addr}{o:HO}:upd H a o a=some o:=by unfold upd;rw[if_pos rfl]
theorem zI{H:Hp}{a b:Addr}{o:HO}(h:b≠a):upd H a o b=H b:=by unfold upd;rw[if_neg h]
theorem zF6{H:Hp}{a b:Addr}{o u:HO}(h:H a=some o)(h':H b=some u)(d:o≠u):a≠b:=by
 intro e;subst e;rw[h] at h';exact d (Option.some.inj h')
theorem xZ{H:Hp}{a b:Addr}{o:HO}(h:H a=some o)(h':H b=none):a≠b:=by
 intro e;subst e;rw[h] at h';cases h'
noncomputable def qOf(ps:Array Value):Str:=match (ps[0]?:Option Value) with
 |some (.str q _)=>q
 |_=>""
noncomputable def zJ8(q:Str)(o:Obj):Prop:=∃vs t,o.data=.fields vs/\vs[1]?=some (.str q t)
noncomputable def zH9(H:Hp)(h:Heap)(a:Addr)(q:Str):Prop:=∃ts:Array Value,h.get? a=some (PySem.W.tabObj ts)/\TriplesOk ts.toList/\∀pos cv,codeAmong pos ts.toList=some cv->∃c oc u,cv=.ref c/\H c=some (.frz oc u)/\zJ8 q oc
section
variable(P:Program)(w:World)
noncomputable def ObjOk(H:Hp)(h:Heap)(a:Addr):HO->Prop
 |.lst xs=>xs.length<=sizeLine/\∃(its:List Value) (n:Nat),Vals xs its/\h.get? a=some { cls:=.type "list",data:=.seq its.toArray n }
 |.tup xs=>xs.length<=sizeLine/\∃its:List Value,Vals xs its/\IsTup h a its.toArray
 |.dK kvs=>kvs.length<=sizeLine/\(a == sysModules)=false/\∃vs,KV kvs vs/\h.DictOf (yH P w) a vs
 |.dT kvs=>kvs.length<=sizeLine/\(a == sysModules)=false/\∃xs:List (List Key×Addr×Value),
   Paired (fun(p:List Key×V) (q:List Key×Addr×Value)=>p.1=q.1/\H q.2.1=some (.tup (p.1.map kV))/\RelV p.2 q.2.2) kvs xs /\
   ∃o es ep,h.get? a=some o/\o.ExactDict/\o.data=.dict es ep/\es.toList=xs.map (entryOfKey (tupleKind (yH P w)))/\(xs.map (·.1)).Nodup
 |.set S n=>h.SetOf (intKind P w) a S n
 |.ins C dx fs=>H dx=some (.own a)/\fs.length<=1000/\dx≠a/\h.get? a=some (PySem.W.instObj C dx) /\
   ∃mA,h.Ns1 dx mA/\(∀f,RelO (fs.lookup f) (mA f))/\PySem.Within mA (fs.map (·.1))
 |.own _=>∃o,h.get? a=some o
 |.xd fs=>∃mA,h.Ns1 a mA/\∀f,RelO (fs.lookup f) (mA f)
 |.rng lo hi=>∃t u v,h.get? a=some { cls:=.type "range",data:=.fields #[.int lo t,.int hi u,.int 1 v] }
 |.frz o u=>h.get? a=some o/\ObjOk H h a u
 |.tbl ps=>zH9 H h a (qOf ps)
 |.met f x=>h.get? a=some (PySem.W.methodObj (.ref f) (.ref x))
 |.ext φ=>φ h/\(∃o,h.get? a=some o)/\∀h1 h2:Heap,φ h1->(∀o,h1.get? a=some o->h2.get? a=some o)->φ h2
noncomputable def HOk(H:Hp)(h:Heap):Prop:=∀a o,H a=some o->ObjOk P w H h a o
end
section
variable{P:Program}{w:World}{H H':Hp}{h h':Heap}{a:Addr}{o:HO}
theorem ObjOk.lt(x:ObjOk P w H h a o):a<h.objs.size:=by
 cases o with
 |lst xs=>obtain⟨_,_,_,_,e⟩:=x;exact Heap.lt_size e
 |tup xs=>obtain⟨_,_,_,p⟩:=x;exact p.lt
 |dK kvs=>obtain⟨_,_,_,_,o,_,_,e,_⟩:=x;exact Heap.lt_size e
 |dT kvs=>obtain⟨_,_,_,_,o,_,_,e,_⟩:=x;exact Heap.lt_size e
 |set S n=>obtain⟨o,_,_,_,e,_⟩:=x;exact Heap.lt_size e
 |ins C dx fs=>obtain⟨_,_,_,e,_⟩:=x;exact Heap.lt_size e
 |own y=>obtain⟨_,e⟩:=x;exact Heap.lt_size e
 |xd fs=>obtain⟨_,⟨_,_,_,e,_⟩,_⟩:=x;exact Heap.lt_size e
 |rng lo hi=>obtain⟨_,_,_,e⟩:=x;exact Heap.lt_size e
 |frz ob u=>obtain⟨e,_⟩:=x;exact Heap.lt_size e
 |tbl ps=>obtain⟨_,e,_⟩:=x;exact Heap.lt_size e
 |met f y=>exact Heap.lt_size (show h.get? a=some _ from x)
 |ext φ=>obtain⟨_,⟨_,e⟩,_⟩:=x;exact Heap.lt_size e
theorem Paired.mapP{α β:Type}{F G:α->β->Prop}:∀{l₁:List α} {l₂:List β},Paired F l₁ l₂->(∀a b,F a b->G a b)->Paired G l₁ l₂
 |_,_,.nil,_=>.nil
 |_,_,.cons r t,f=>.cons (f _ _ r) (Paired.mapP t f)
theorem ObjOk.stay(x:ObjOk P w H h a o)(k:∀b u,(b=a\/H b=some (.own a))->h.get? b=some u->h'.get? b=some u)(ho:∀b,H b=some (.own a)->H' b=some (.own a))(ht:∀b xs,H b=some (.tup xs)->H' b=some (.tup xs))(hf:∀b o u,H b=some (.frz o u)->H' b=some (.frz o u)):ObjOk P w H' h' a o:=by
 induction o with
 |lst xs=>obtain⟨z,its,n,r,e⟩:=x;exact⟨z,its,n,r,k _ _ (.inl rfl) e⟩
 |tup xs=>obtain⟨z,its,r,ob,e,c⟩:=x;exact⟨z,its,r,ob,k _ _ (.inl rfl) e,c⟩
 |dK kvs=>obtain⟨z,y,vs,r,ob,es,ep,e,c⟩:=x;exact⟨z,y,vs,r,ob,es,ep,k _ _ (.inl rfl) e,c⟩
 |dT kvs=>
  obtain⟨z,y,xs,r,ob,es,ep,e,c⟩:=x
  exact⟨z,y,xs,Paired.mapP r fun p q z=>⟨z.1,ht _ _ z.2.1,z.2.2⟩,ob,es,ep,k _ _ (.inl rfl) e,c⟩
 |set S n=>obtain⟨ob,es,ep,t,e,c⟩:=x;exact⟨ob,es,ep,t,k _ _ (.inl rfl) e,c⟩
 |ins C dx fs=>
  obtain⟨d,z,ne,e,mA,⟨od,es,ep,e2,c⟩,r⟩:=x
  exact⟨ho _ d,z,ne,k _ _ (.inl rfl) e,mA,⟨od,es,ep,k _ _ (.inr d) e2,c⟩,r⟩
 |own y=>obtain⟨ob,e⟩:=x;exact⟨ob,k _ _ (.inl rfl) e⟩
 |xd fs=>obtain⟨mA,⟨od,es,ep,e,c⟩,r⟩:=x;exact⟨mA,⟨od,es,ep,k _ _ (.inl rfl) e,c⟩,r⟩
 |rng lo hi=>obtain⟨t,u,v,e⟩:=x;exact⟨t,u,v,k _ _ (.inl rfl) e⟩
 |frz ob u ih=>obtain⟨e,q⟩:=x;exact⟨k _ _ (.inl rfl) e,ih q⟩
 |tbl ps=>obtain⟨ts,e,z,r⟩:=x;exact⟨ts,k _ _ (.inl rfl) e,z,fun p v q=>let ⟨c,oc,u,e1,e2,e3⟩:=r p v q;⟨c,oc,u,e1,hf _ _ _ e2,e3⟩⟩
 |met f y=>
  have e:h.get? a=some (PySem.W.methodObj (.ref f) (.ref y)):=x
  show h'.get? a=some (PySem.W.methodObj (.ref f) (.ref y))
  exact k a _ (.inl rfl) e
 |ext φ=>obtain⟨p,⟨o,e⟩,st⟩:=x;exact⟨st _ _ p fun o q=>k _ _ (.inl rfl) q,⟨o,k _ _ (.inl rfl) e⟩,st⟩
theorem HOk.lt(x:HOk P w H h)(e:H a=some o):a<h.objs.size:=(x a o e).lt
theorem HOk.fresh(x:HOk P w H h)(e:h.objs.size<=a):H a=none:=by
 cases q:H a with
 |none=>rfl
 |some u=>exact absurd (Nat.lt_of_lt_of_le (x.lt q) e) (Nat.lt_irrefl _)
theorem HOk.kept(x:HOk P w H h)(k:∀b u,h.get? b=some u->h'.get? b=some u):HOk P w H h':=fun a o e=>
 (x a o e).stay (fun b u _ q=>k b u q) (fun _ q=>q) (fun _ _ q=>q) fun _ _ _ q=>q
theorem HOk.laid(x:HOk P w H h)(k:∀b u,h.get? b=some u->h'.get? b=some u)(hp:h.objs.size<=a)(new:ObjOk P w (upd H a o) h' a o):HOk P w (upd H a o) h':=fun b u e=>by
 have hn:=x.fresh hp
 by_cases hb:b=a
 ·subst hb;rw[zK] at e;cases e;exact new
 ·rw[zI hb] at e
  exact(x b u e).stay (fun c v _ q=>k c v q) (fun c q=>by rw[zI (xZ q hn)];exact q) (fun c xs q=>by rw[zI (xZ q hn)];exact q) fun c o u q=>by rw[zI (xZ q hn)];exact q
end
noncomputable def Rd(H:Hp)(a:Addr)(u:HO):Prop:=H a=some u\/∃o,H a=some (.frz o u)
theorem Rd.ok{P:Program}{w:World}{H:Hp}{h:Heap}{a:Addr}{u:HO}(r:Rd H a u)(x:HOk P w H h):ObjOk P w H h a u:=by
 rcases r with r|⟨o,r⟩
 ·exact x a u r
 ·obtain⟨_,q⟩:=x a _ r
  exact q
noncomputable def Mut:Option HO->Prop
 |some (.lst _)=>True
 |some (.dK _)=>True
 |some (.dT _)=>True
 |some (.set _ _)=>True
 |some (.ins _ _ _)=>True
 |some (.ext _)=>True
 |_=>False
section
variable{P:Program}{w:World}{H:Hp}{h h':Heap}{x e:Addr}{o':HO}
theorem HOk.write(ok:HOk P w H h)(mu:Mut (H x))(he:e=x\/H e=some (.own x))(k:∀b u,b≠e->h.get? b=some u->h'.get? b=some u)(heo:∃u,h'.get? e=some u)(new:ObjOk P w (upd H x o') h' x o'):HOk P w (upd H x o') h':=fun b u q=>by
 have nown:∀c y,H c=some (.own y)->c≠x:=fun c y r z=>by subst z;rw[r] at mu;exact mu
 have ntup:∀c xs,H c=some (.tup xs)->c≠x:=fun c xs r z=>by subst z;rw[r] at mu;exact mu
 by_cases hb:b=x
 ·subst hb;rw[zK] at q;cases q;exact new
 ·rw[zI hb] at q
  by_cases hbe:b=e
  ·have q':H b=some (.own x):=by
    rcases he with z|z
    ·exact absurd (hbe.trans z) hb
    ·rw[hbe];exact z
   rw[q] at q';cases q'
   obtain⟨v,hv⟩:=heo
   exact⟨v,by rw[hbe];exact hv⟩
  ·refine(ok b u q).stay (fun c v hc r=>k c v ?_ r) (fun c r=>by rw[zI (nown c b r)];exact r) (fun c xs r=>by rw[zI (ntup c xs r)];exact r) fun c o u r=>by rw[zI (fun z=>by subst z;rw[r] at mu;exact mu)];exact r
   rcases hc with rfl|hc
   ·exact hbe
   ·rintro rfl
    rcases he with z|z
    ·exact nown c b hc z
    ·rw[hc] at z;cases z;exact hb rfl
end
structure Un(fs ex:List Addr)(H H':Hp)(h h':Heap):Prop where
 keep:∀b o,h.get? b=some o->H b=none->b∉fs->b∉ex->h'.get? b=some o
 slot:∀b o,h.get? b=some o->H b=none->b∈fs->b∉ex->∃sl,h'.get? b=some { o with slots:=sl }
 free:∀b o,h.get? b=some o->H b=none->b∉ex->H' b=none
 there:∀b o,h.get? b=some o->b∉ex->∃o',h'.get? b=some o'
 tups:∀b xs,H b=some (.tup xs)->H' b=some (.tup xs)
 frzs:∀b o u,H b=some (.frz o u)->H' b=some (.frz o u)
 tbls:∀b ps,H b=some (.tbl ps)->∃more,H' b=some (.tbl (ps++more))
section
variable{fs fs' ex ex':List Addr}{H H1 H2:Hp}{h h1 h2 h':Heap}{a x e:Addr}{o:HO}
theorem Un.any(u:Un fs ex H H1 h h1){b:Addr}{ob:Obj}(q:h.get? b=some ob)(n:H b=none)(hx:b∉ex):∃sl,h1.get? b=some { ob with slots:=sl }:=by
 by_cases hb:b∈fs
 ·exact u.slot b ob q n hb hx
 ·exact⟨ob.slots,u.keep b ob q n hb hx⟩
theorem Un.kept(k:∀b u,h.get? b=some u->h'.get? b=some u):Un fs ex H H h h':=
 ⟨fun b ob q _ _ _=>k b ob q,fun b ob q _ _ _=>⟨ob.slots,k b ob q⟩,fun _ _ _ n _=>n,fun b ob q _=>⟨ob,k b ob q⟩,fun _ _ q=>q,fun _ _ _ q=>q,fun _ ps q=>⟨#[],by rw[q];simp⟩⟩
theorem Un.refl:Un fs ex H H h h:=Un.kept fun _ _ q=>q
theorem Un.laid(k:∀b u,h.get? b=some u->h'.get? b=some u)(hp:h.objs.size<=a)(hn:H a=none):Un fs ex H (upd H a o) h h' where
 keep:=fun b u q _ _ _=>k b u q
 slot:=fun b u q _ _ _=>⟨u.slots,k b u q⟩
 free:=fun b u q n _=>by rw[zI (Nat.ne_of_lt (Nat.lt_of_lt_of_le (Heap.lt_size q) hp))];exact n
 there:=fun b u q _=>⟨u,k b u q⟩
 tups:=fun b xs q=>by rw[zI (xZ q hn)];exact q
 frzs:=fun b u xs q=>by rw[zI (xZ q hn)];exact q
 tbls:=fun b ps q=>⟨#[],by rw[zI (xZ q hn),q];simp⟩
theorem Un.write(mu:Mut (H x))(he:e=x\/H e=some (.own x))(k:∀b u,b≠e->h.get? b=some u->h'.get? b=some u)(heo:∃u,h'.get? e=some u):Un fs ex H (upd H x o) h h':=by
 have hx:∀b,H b=none->b≠x:=fun b n z=>by subst z;rw[n] at mu;exact mu
 have hb:∀b,H b=none->b≠e:=fun b n z=>by
  subst z
  rcases he with r|r
  ·exact hx b n r
  ·rw[n] at r;cases r
 have hm:∀b u,H b=some u->¬Mut (some u)->b≠x:=fun b u q nm z=>by subst z;rw[q] at mu;exact nm mu
 refine⟨fun b u q n _ _=>k b u (hb b n) q,fun b u q n _ _=>⟨u.slots,k b u (hb b n) q⟩,fun b u q n _=>by rw[zI (hx b n)];exact n,fun b u q _=>?_,
  fun b xs q=>by rw[zI (hm b _ q fun z=>z)];exact q,fun b u xs q=>by rw[zI (hm b _ q fun z=>z)];exact q,fun b ps q=>⟨#[],by rw[zI (hm b _ q fun z=>z),q];simp⟩⟩
 by_cases hbe:b=e
 ·subst hbe;exact heo
 ·exact⟨u,k b u hbe q⟩
end
noncomputable def trk(h:Heap)(H:Hp):List Addr:=(List.range h.objs.size).filter fun a=>(H a).isSome
noncomputable def zCY(h:Heap)(H:Hp):Heap:=PySem.W.hideAll h (trk h H)
theorem rV(h:Heap)(H:Hp):(zCY h H).objs.size=h.objs.size:=PySem.W.hideAll_size _ _
theorem WM{h:Heap}{H:Hp}{b:Addr}{o:Obj}(e:h.get? b=some o)(n:H b=none):(zCY h H).get? b=some o:=
 PySem.W.hideAll_get _ e fun hm=>by
  have q:(H b).isSome=true:=(List.mem_filter.mp hm).2
  rw[n] at q;simp at q
theorem zAK{h:Heap}{H:Hp}{b:Addr}{o:Obj}(e:(zCY h H).get? b=some o):h.get? b=some o/\H b=none:=by
 have e':h.get? b=some o:=PySem.W.of_hideAll (trk h H) e
 refine⟨e',?_⟩
 cases q:H b with
 |none=>rfl
 |some x=>
  have hm:b∈trk h H:=List.mem_filter.mpr ⟨List.mem_range.mpr (Heap.lt_size e'),by simp[q]⟩
  have z:(zCY h H).get? b=none:=PySem.W.hideAll_none (trk h H) hm
  rw[z] at e;cases e
end L2
namespace L2
open PySem PySem.Spec PyProof.Rows
structure Mod(K:Fg)(mg:Str->Option Value)(base:Heap):Prop where
 kin:K.In base
 glob:base.Ns mainGlobals mg
 blt:∃mb,base.Ns builtinsNs mb/\∀x:Str,x ≠ "__name__" -> mb x=bootBuiltins x
 nolimit:base.NoLimit
structure Cx where
 prog:Program
 w:World
 K:Fg
 mg:Str->Option Value
 base:Heap
 A:Around
 N:List Str
 s₀:Shared
 H₀:Hp
 env:Env
 outer:List Env
 stack:List Env
 ex:List Addr
 fn:Str->Bool
 calm:Bool
 pn:List (Addr×Obj)
 xe:Value->Shared->Prop
noncomputable def frs(l:List Env):List Addr:=l.filterMap (·.frame)
noncomputable abbrev Cx.fs(X:Cx):List Addr:=frs X.outer
noncomputable def Vis(sc:Scope)(x:Str):Prop:=sc.names.lookup x=some .local\/sc.names.lookup x=some .cell\/sc.names.lookup x=some .free
noncomputable def Loc(sc:Scope)(x:Str):Prop:=sc.names.lookup x=some .local\/sc.names.lookup x=some .cell
noncomputable def zJ7(env:Env)(h:Heap)(m:Str->Option Value)(x:Str)(u:Value):Prop:=
 (env.kindOf x=some .local/\m x=some u)\/((env.kindOf x=some .cell\/env.kindOf x=some .free)/\∃c,env.cells.lookup x=some c/\h.IsCell c (some u))
noncomputable def zGK(K:Fg)(H:Hp):Prop:=True
structure FrF(K:Fg)(l:List Env)(H:Hp):Prop where
 fr:∀b∈frs l,H b=none
 tb:zGK K H
structure Cx.Ok(X:Cx):Prop where
 mod:Mod X.K X.mg X.base
 kind:X.env.scope.kind=.function
 glob:X.env.globals=mainGlobals
 blt:X.env.builtins=builtinsNs
 above:X.s₀.heap.objs.size<=X.env.locals
 inj:∀x y c,X.env.cells.lookup x=some c->X.env.cells.lookup y=some c->x=y
 has:∀x,(X.env.kindOf x=some .cell\/X.env.kindOf x=some .free)->∃c,X.env.cells.lookup x=some c
 cab:∀x c,X.fn x=true->X.env.cells.lookup x=some c->X.s₀.heap.objs.size<=c
 hd:X.calm=true->X.A.handled=none
 frames:X.A.frames=some X.stack
 stk:X.stack=X.outer\/(X.stack=X.env::X.outer/\X.env.frame=some X.env.locals)
 exf:∀b∈X.ex,b≠X.env.locals/\∀x c,X.env.cells.lookup x=some c->c≠b
 bs:∀b o,X.base.get? b=some o->X.s₀.heap.get? b=some o/\X.H₀ b=none
 bsz:X.base.objs.size<=X.s₀.heap.objs.size
 noex:∀b o,X.base.get? b=some o->b∉X.ex
 exfs:∀b∈X.ex,b∉X.fs
 funs:X.s₀.heap.FunFrames X.base X.outer
 frf:FrF X.K X.outer X.H₀
structure Inv(X:Cx)(pins:List (Addr×Obj))(σ:List (Option V))(H:Hp)(s:Shared):Prop where
 ok:X.Ok
 os:s.os=X.s₀.os
 bare:AllBare s.gens
 base:Un X.fs X.ex X.H₀ H X.s₀.heap s.heap
 loc:∃m,s.heap.Ns X.env.locals m/\∀(i:Nat) (x:Str) (v:V),X.N[i]?=some x->σ[i]?=some (some v)->Vis X.env.scope x->∃u,RelV v u/\zJ7 X.env s.heap m x u
 cell:∀x c,X.env.cells.lookup x=some c->∃v,s.heap.IsCell c v
 free:H X.env.locals=none
 freeC:∀x c,X.env.cells.lookup x=some c->H c=none
 pin:∀p∈X.pn++pins,s.heap.get? p.1=some p.2/\H p.1=none/\p.1≠X.env.locals/\p.1∉X.fs/\∀v,p.2.data≠.cell v
 hok:HOk X.prog X.w H s.heap
 len:σ.length=X.N.length
section
variable{X:Cx}{pins:List (Addr×Obj)}{σ:List (Option V)}{H H':Hp}{s:Shared}{h':Heap}
theorem Cx.Ok.nofr(ok:X.Ok){b:Addr}{o:Obj}(e:X.base.get? b=some o):b∉X.fs:=fun hb=>by
 have:=(ok.funs.mem hb).1
 rw[e] at this;cases this
theorem Inv.bs(I:Inv X pins σ H s):∀b o,X.base.get? b=some o->s.heap.get? b=some o/\H b=none:=fun b o e=>
 ⟨I.base.keep b o (I.ok.bs b o e).1 (I.ok.bs b o e).2 (I.ok.nofr e) (I.ok.noex b o e),I.base.free b o (I.ok.bs b o e).1 (I.ok.bs b o e).2 (I.ok.noex b o e)⟩
theorem Inv.bk(I:Inv X pins σ H s):∀b o,X.base.get? b=some o->s.heap.get? b=some o:=fun b o e=>(I.bs b o e).1
theorem Inv.mod(I:Inv X pins σ H s):Mod X.K X.mg X.base:=I.ok.mod
theorem Inv.kIn(I:Inv X pins σ H s):X.K.In s.heap:=I.ok.mod.kin.keeps I.bk
theorem Inv.lt(I:Inv X pins σ H s):X.env.locals<s.heap.objs.size:=let ⟨_,hn,_⟩:=I.loc;hn.lt
theorem Inv.sz(I:Inv X pins σ H s):X.s₀.heap.objs.size<=s.heap.objs.size:=Nat.le_trans I.ok.above (Nat.le_of_lt I.lt)
theorem Inv.nofs(I:Inv X pins σ H s){a:Addr}(h:s.heap.objs.size<=a):a∉X.fs:=fun hb=>by
 obtain⟨_,o,ho,_⟩:=I.ok.funs.mem hb
 exact absurd (Nat.lt_of_lt_of_le (Heap.lt_size ho) (Nat.le_trans I.sz h)) (Nat.lt_irrefl _)
theorem Inv.cne(I:Inv X pins σ H s):∀x c,X.env.cells.lookup x=some c->c≠X.env.locals:=fun x c e z=>by
 obtain⟨v,o,ho,hd⟩:=I.cell x c e
 obtain⟨m,⟨o',es,ep,ho',hd',_⟩,_⟩:=I.loc
 rw[z,ho'] at ho;cases ho;rw[hd'] at hd;cases hd
theorem Inv.funs(I:Inv X pins σ H s):s.heap.FunFrames X.base X.outer:=by
 have all:∀(l:List Env),(∀b∈frs l,b∈X.fs)->X.s₀.heap.FunFrames X.base l->s.heap.FunFrames X.base l:=by
  intro l
  induction l with
  |nil=>intro _ _;trivial
  |cons env r ih=>
   intro hs hl
   obtain⟨hk,⟨L,o,hf,hn,ho,hd⟩,hr⟩:=hl
   have hL:L∈X.fs:=hs L (by unfold frs;rw[List.filterMap_cons,hf];exact List.mem_cons_self)
   obtain⟨sl,e⟩:=I.base.slot L o ho (I.ok.frf.fr L hL) hL fun z=>I.ok.exfs L z hL
   exact⟨hk,⟨L,_,hf,hn,e,hd⟩,ih (fun b hb=>hs b (by unfold frs;rw[List.filterMap_cons,hf];exact List.mem_cons_of_mem _ hb)) hr⟩
 exact all X.outer (fun _ hb=>hb) I.ok.funs
theorem Inv.stack(I:Inv X pins σ H s):s.heap.FunFrames X.base X.stack:=by
 rcases I.ok.stk with e|⟨e,hf⟩
 ·rw[e];exact I.funs
 ·rw[e]
  obtain⟨m,hn,_⟩:=I.loc
  refine .cons (by rw[I.ok.kind];decide) hf hn ?_ I.funs
  exact Heap.get?_none_of_le (Nat.le_trans I.ok.bsz I.ok.above)
theorem Inv.stkSub(I:Inv X pins σ H s):∀b∈frs X.stack,b∈X.env.locals::X.fs:=fun b hb=>by
 rcases I.ok.stk with e|⟨e,hf⟩
 ·rw[e] at hb;exact List.mem_cons_of_mem _ hb
 ·rw[e] at hb
  unfold frs at hb
  rw[List.filterMap_cons,hf] at hb
  exact hb
theorem Inv.stkFree(I:Inv X pins σ H s):∀b∈frs X.stack,H b=none:=fun b hb=>by
 rcases List.mem_cons.mp (I.stkSub b hb) with e|hb
 ·rw[e];exact I.free
 ·obtain⟨_,o,ho,_⟩:=I.ok.funs.mem hb
  exact I.base.free b o ho (I.ok.frf.fr b hb) fun z=>I.ok.exfs b z hb
theorem Inv.tabIn(I:Inv X pins σ H s):zGK X.K H:=
 trivial
theorem Inv.step{g':Array GenState}{t':Nat}{d':Drawn}{ch:List Addr}(I:Inv X pins σ H s)(hch:∀b∈ch,(b∈X.ex\/X.s₀.heap.objs.size<=b)/\b≠X.env.locals/\(∀x c,X.env.cells.lookup x=some c->c≠b)/\∀p∈X.pn++pins,p.1≠b)(keep:∀b o,b≠X.env.locals->b∉X.fs->b∉ch->s.heap.get? b=some o->H b=none->h'.get? b=some o)(slot:∀b o,b≠X.env.locals->b∈X.fs->b∉ch->s.heap.get? b=some o->H b=none->∃sl,h'.get? b=some { o with slots:=sl })(free:∀b o,b∉ch->s.heap.get? b=some o->H b=none->H' b=none)(there:∀b o,b∉ch->s.heap.get? b=some o->∃o',h'.get? b=some o')(tups:∀b xs,H b=some (.tup xs)->H' b=some (.tup xs))(frzs:∀b o u,H b=some (.frz o u)->H' b=some (.frz o u))(tbls:∀b ps,H b=some (.tbl ps)->∃more,H' b=some (.tbl (ps++more)))(ns:∀m,s.heap.Ns X.env.locals m->h'.Ns X.env.locals m)(hok:HOk X.prog X.w H' h')(hg:AllBare g'):Inv X pins σ H' { s with heap:=h',gens:=g',drawn:=d',toks:=t' }:=by
 have neL:∀b o,X.s₀.heap.get? b=some o->b≠X.env.locals:=fun b o e=>Nat.ne_of_lt (Nat.lt_of_lt_of_le (Heap.lt_size e) I.ok.above)
 have neC:∀b o,X.s₀.heap.get? b=some o->b∉X.ex->b∉ch:=fun b o e hx hb=>by
  rcases(hch b hb).1 with z|z
  ·exact hx z
  ·exact absurd (Nat.lt_of_lt_of_le (Heap.lt_size e) z) (Nat.lt_irrefl _)
 have cellK:∀x c,X.env.cells.lookup x=some c->∀v,s.heap.IsCell c v->h'.IsCell c v:=fun x c e v ⟨o,ho,hd⟩=>by
  have nch:c∉ch:=fun z=>(hch c z).2.2.1 x c e rfl
  by_cases hc:c∈X.fs
  ·obtain⟨sl,q⟩:=slot c o (I.cne x c e) hc nch ho (I.freeC x c e)
   exact⟨_,q,hd⟩
  ·exact⟨o,keep c o (I.cne x c e) hc nch ho (I.freeC x c e),hd⟩
 refine⟨I.ok,I.os,hg,⟨fun b o e n hb hx=>?_,fun b o e n hb hx=>?_,fun b o e n hx=>?_,fun b o e hx=>?_,fun b xs e=>tups b xs (I.base.tups b xs e),fun b o xs e=>frzs b o xs (I.base.frzs b o xs e),fun b ps e=>?_⟩,?_,fun x c e=>?_,?_,fun x c e=>?_,fun p hp=>?_,hok,I.len⟩
 ·exact keep b o (neL b o e) hb (neC b o e hx) (I.base.keep b o e n hb hx) (I.base.free b o e n hx)
 ·obtain⟨sl,e1⟩:=I.base.slot b o e n hb hx
  obtain⟨sl',e2⟩:=slot b _ (neL b o e) hb (neC b o e hx) e1 (I.base.free b o e n hx)
  exact⟨sl',e2⟩
 ·obtain⟨o',e1⟩:=I.base.there b o e hx
  exact free b o' (neC b o e hx) e1 (I.base.free b o e n hx)
 ·obtain⟨o',e1⟩:=I.base.there b o e hx
  exact there b o' (neC b o e hx) e1
 ·obtain⟨m1,e1⟩:=I.base.tbls b ps e
  obtain⟨m2,e2⟩:=tbls b _ e1
  exact⟨m1++m2,by rw[e2,Array.append_assoc]⟩
 ·obtain⟨m,hn,hl⟩:=I.loc
  refine⟨m,ns m hn,fun i x v e1 e2 e3=>?_⟩
  obtain⟨u,r,l⟩:=hl i x v e1 e2 e3
  refine⟨u,r,?_⟩
  rcases l with l|⟨k,c,e,z⟩
  ·exact .inl l
  ·exact .inr ⟨k,c,e,cellK x c e _ z⟩
 ·obtain⟨v,z⟩:=I.cell x c e
  exact⟨v,cellK x c e v z⟩
 ·obtain⟨m,⟨o,_,_,ho,_⟩,_⟩:=I.loc
  exact free _ o (fun z=>(hch _ z).2.1 rfl) ho I.free
 ·obtain⟨v,o,ho,hd⟩:=I.cell x c e
  exact free c o (fun z=>(hch c z).2.2.1 x c e rfl) ho (I.freeC x c e)
 ·obtain⟨e,n,ne,nf,d⟩:=I.pin p hp
  have nch:p.1∉ch:=fun z=>(hch p.1 z).2.2.2 p hp rfl
  exact⟨keep p.1 p.2 ne nf nch e n,free p.1 p.2 nch e n,ne,nf,d⟩
theorem Inv.un{t':Nat}(I:Inv X pins σ H s)(u:Un X.fs [] H H' s.heap h')(hok:HOk X.prog X.w H' h'):Inv X pins σ H' { s with heap:=h',toks:=t' }:=by
 obtain⟨m,⟨o,es,ep,ho,r⟩,_⟩:=id I.loc
 obtain⟨sl,hL⟩:=u.any ho I.free (by simp)
 exact I.step (g':=s.gens) (d':=s.drawn) (ch:=[]) (fun _ z=>nomatch z) (fun b o _ hb _ e n=>u.keep b o e n hb (by simp)) (fun b o _ hb _ e n=>u.slot b o e n hb (by simp)) (fun b o _ e n=>u.free b o e n (by simp)) (fun b o _ e=>u.there b o e (by simp)) u.tups u.frzs u.tbls (fun m' hm=>by
  obtain⟨o',es',ep',ho',r'⟩:=hm
  rw[ho] at ho';cases ho'
  exact⟨_,es',ep',hL,r'⟩) hok I.bare
theorem Inv.call{g':Array GenState}{t':Nat}{d':Drawn}{ch:List Addr}(I:Inv X pins σ H s)(u:Un (frs X.stack) ch H H' s.heap h')(hok:HOk X.prog X.w H' h')(hg:AllBare g')(hch:∀b∈ch,(b∈X.ex\/X.s₀.heap.objs.size<=b)/\b≠X.env.locals/\(∀x c,X.env.cells.lookup x=some c->c≠b)/\∀p∈X.pn++pins,p.1≠b):Inv X pins σ H' { s with heap:=h',gens:=g',drawn:=d',toks:=t' }:=by
 obtain⟨m,⟨o,es,ep,ho,r⟩,_⟩:=id I.loc
 obtain⟨sl,hL⟩:=u.any ho I.free fun z=>(hch _ z).2.1 rfl
 exact I.step (ch:=ch) hch (fun b o hL hb hc e n=>u.keep b o e n (fun z=>(List.mem_cons.mp (I.stkSub b z)).elim hL hb) hc) (fun b o _ _ hc e n=>u.any e n hc) (fun b o hc e n=>u.free b o e n hc) (fun b o hc e=>u.there b o e hc) u.tups u.frzs u.tbls (fun m' hm=>by
  obtain⟨o',es',ep',ho',r'⟩:=hm
  rw[ho] at ho';cases ho'
  exact⟨_,es',ep',hL,r'⟩) hok hg
theorem Inv.turned{t':Nat}{it:Addr}(I:Inv X pins σ H s)(k:∀b o,b≠it->s.heap.get? b=some o->h'.get? b=some o)(hn:H it=none)(hL:it≠X.env.locals)(h1:it∈X.ex\/X.s₀.heap.objs.size<=it)(h2:∀x c,X.env.cells.lookup x=some c->c≠it)(h3:∀p∈X.pn++pins,p.1≠it):Inv X pins σ H { s with heap:=h',toks:=t' }:=by
 have nit:∀b u,H b=some u->b≠it:=fun b u e z=>by rw[z,hn] at e;cases e
 refine I.step (g':=s.gens) (d':=s.drawn) (ch:=[it]) (fun b hb=>?_) (fun b o _ _ hc e _=>k b o (fun z=>hc (by simp[z])) e) (fun b o _ _ hc e _=>⟨o.slots,k b o (fun z=>hc (by simp[z])) e⟩) (fun _ _ _ _ n=>n)
  (fun b o hc e=>⟨o,k b o (fun z=>hc (by simp[z])) e⟩) (fun _ _ e=>e) (fun _ _ _ e=>e) (fun b ps e=>⟨#[],by rw[e];simp⟩) (fun m hm=>?_) (fun b u e=>?_) I.bare
 ·have e:b=it:=by simpa using hb
  subst e
  exact⟨h1,hL,h2,h3⟩
 ·obtain⟨o,es,ep,ho,r⟩:=hm
  exact⟨o,es,ep,k _ o (Ne.symm hL) ho,r⟩
 ·refine(I.hok b u e).stay (fun c v hc q=>k c v ?_ q) (fun _ q=>q) (fun _ _ q=>q) fun _ _ _ q=>q
  rcases hc with z|z
  ·rw[z];exact nit b u e
  ·exact nit c _ z
theorem Inv.tok(I:Inv X pins σ H s)(t:Nat):Inv X pins σ H { s with toks:=t }:=I.un (h':=s.heap) (t':=t) Un.refl I.hok
theorem Inv.kept{t':Nat}(I:Inv X pins σ H s)(k:∀b u,s.heap.get? b=some u->h'.get? b=some u):Inv X pins σ H { s with heap:=h',toks:=t' }:=I.un (Un.kept k) (I.hok.kept k)
theorem Inv.laid{a:Addr}{o:HO}{t':Nat}(I:Inv X pins σ H s)(k:∀b u,s.heap.get? b=some u->h'.get? b=some u)(hp:s.heap.objs.size<=a)(new:ObjOk X.prog X.w (upd H a o) h' a o):Inv X pins σ (upd H a o) { s with heap:=h',toks:=t' }:=I.un (Un.laid k hp (I.hok.fresh hp)) (I.hok.laid k hp new)
theorem Inv.write{x e:Addr}{o:HO}{t':Nat}(I:Inv X pins σ H s)(mu:Mut (H x))(he:e=x\/H e=some (.own x))(k:∀b u,b≠e->s.heap.get? b=some u->h'.get? b=some u)(heo:∃u,h'.get? e=some u)(new:ObjOk X.prog X.w (upd H x o) h' x o):Inv X pins σ (upd H x o) { s with heap:=h',toks:=t' }:=I.un (Un.write mu he k heo) (I.hok.write mu he k heo new)
theorem Inv.pins_of{pins':List (Addr×Obj)}(I:Inv X pins σ H s)(h:∀p∈pins',s.heap.get? p.1=some p.2/\H p.1=none/\p.1≠X.env.locals/\p.1∉X.fs/\∀v,p.2.data≠.cell v):Inv X pins' σ H s:=
 ⟨I.ok,I.os,I.bare,I.base,I.loc,I.cell,I.free,I.freeC,fun p hp=>(List.mem_append.mp hp).elim (fun z=>I.pin p (List.mem_append_left _ z)) (h p),I.hok,I.len⟩
theorem nZ{N:List Str}(hN:N.Nodup){i j:Nat}{x:Str}(a:N[i]?=some x)(b:N[j]?=some x):i=j:=by
 obtain⟨h1,e1⟩:=List.getElem?_eq_some_iff.mp a
 obtain⟨h2,e2⟩:=List.getElem?_eq_some_iff.mp b
 exact(List.getElem_inj hN).mp (e1.trans e2.symm)
theorem pM{M:Model}{A:Around}{E:Value->Shared->Prop}{i:Nat}{x:Str}{v:V}{u:Value}{Q:Unit->Shared->Prop}(I:Inv X pins σ H s)(hN:X.N.Nodup)(hi:X.N[i]?=some x)(hx:Loc X.env.scope x)(r:RelV v u)(h:∀s',Inv X pins (σ.set i (some v)) H s'->(∃a,Heap.SameBut a s.heap s'.heap/\(a=X.env.locals\/X.env.cells.lookup x=some a))->Q () s')(hf:X.fn x=true\/X.env.scope.names.lookup x=some .local:=by first|exact .inl rfl|exact .inr rfl|assumption):wpAny M A (storeName X.env x u) Q E s:=by
 obtain⟨m,hn,hl⟩:=id I.loc
 have hcls:(X.env.scope.kind == .class || (X.env.scope.kind == .module && X.env.locals != X.env.globals))=false:=by rw[I.ok.kind];rfl
 have hiσ:i<σ.length:=by rw[I.len];exact(List.getElem?_eq_some_iff.mp hi).1
 have cne:=I.cne
 have tracked:∀{a:Addr} {h':Heap},(∃o,s.heap.get? a=some o/\H a=none)->Heap.SameBut a s.heap h'->HOk X.prog X.w H h':=fun {a h'} ha hs b ob e=>by
  obtain⟨_,_,hfree⟩:=ha
  refine(I.hok b ob e).stay (fun c w' hc q=>(hs.2 c ?_).trans q) (fun _ q=>q) (fun _ _ q=>q) fun _ _ _ q=>q
  rintro rfl
  rcases hc with rfl|hc
  ·rw[hfree] at e;cases e
  ·rw[hfree] at hc;cases hc
 rcases hx with hk|hk
 ·refine wpAny_storeName_local hk hn (fun h' hn' hs=>?_) hcls
  obtain⟨oL,_,_,hoL,_⟩:=id hn
  refine h _ ⟨I.ok,I.os,I.bare,⟨fun b o e n hb hx=>?_,fun b o e n hb hx=>?_,I.base.free,fun b o e hx=>?_,I.base.tups,I.base.frzs,I.base.tbls⟩,⟨_,hn',fun j y v' e1 e2 e3=>?_⟩,fun y c e=>?_,I.free,I.freeC,fun p hp=>?_,tracked ⟨oL,hoL,I.free⟩ hs,by simpa using I.len⟩ ⟨_,hs,.inl rfl⟩
  ·exact(hs.2 b (Nat.ne_of_lt (Nat.lt_of_lt_of_le (Heap.lt_size e) I.ok.above))).trans (I.base.keep b o e n hb hx)
  ·obtain⟨sl,e1⟩:=I.base.slot b o e n hb hx
   exact⟨sl,(hs.2 b (Nat.ne_of_lt (Nat.lt_of_lt_of_le (Heap.lt_size e) I.ok.above))).trans e1⟩
  ·obtain⟨o',e1⟩:=I.base.there b o e hx
   exact⟨o',(hs.2 b (Nat.ne_of_lt (Nat.lt_of_lt_of_le (Heap.lt_size e) I.ok.above))).trans e1⟩
  ·by_cases hj:j=i
   ·subst hj
    rw[hi] at e1;cases e1
    rw[List.getElem?_set_self hiσ] at e2
    cases e2
    exact⟨u,r,.inl ⟨hk,by simp⟩⟩
   ·rw[List.getElem?_set_ne (Ne.symm hj)] at e2
    obtain⟨u',r',q⟩:=hl j y v' e1 e2 e3
    refine⟨u',r',?_⟩
    rcases q with⟨k,e⟩|⟨k,c,e,z⟩
    ·refine .inl ⟨k,?_⟩
     have:y≠x:=fun e=>hj (nZ hN e1 (e ▸ hi))
     simp[this,e]
    ·exact .inr ⟨k,c,e,z.sameBut hs (cne y c e)⟩
  ·obtain⟨w',z⟩:=I.cell y c e
   exact⟨w',z.sameBut hs (cne y c e)⟩
  ·obtain⟨e,n,ne,nf,d⟩:=I.pin p hp
   exact⟨(hs.2 p.1 ne).trans e,n,ne,nf,d⟩
 ·have hfn:X.fn x=true:=by
   rcases hf with z|z
   ·exact z
   ·rw[z] at hk;cases hk
  obtain⟨c,hc⟩:=I.ok.has x (.inl hk)
  obtain⟨w',z⟩:=I.cell x c hc
  refine wpAny_storeName_cell I.ok.kind hk hc z (fun h' hc' hs=>?_)
  obtain⟨oc,hoc,hocd⟩:=id z
  refine h { s with heap:=h' } ⟨I.ok,I.os,I.bare,⟨fun b o e n hb hx=>?_,fun b o e n hb hx=>?_,I.base.free,fun b o e hx=>?_,I.base.tups,I.base.frzs,I.base.tbls⟩,⟨m,hn.sameBut hs (Ne.symm (cne x c hc)),fun j y v' e1 e2 e3=>?_⟩,fun y c' e=>?_,I.free,I.freeC,fun p hp=>?_,tracked ⟨oc,hoc,I.freeC x c hc⟩ hs,by simpa using I.len⟩ ⟨c,hs,.inr hc⟩
  ·exact(hs.2 b (Nat.ne_of_lt (Nat.lt_of_lt_of_le (Heap.lt_size e) (I.ok.cab x c hfn hc)))).trans (I.base.keep b o e n hb hx)
  ·obtain⟨sl,e1⟩:=I.base.slot b o e n hb hx
   exact⟨sl,(hs.2 b (Nat.ne_of_lt (Nat.lt_of_lt_of_le (Heap.lt_size e) (I.ok.cab x c hfn hc)))).trans e1⟩
  ·obtain⟨o',e1⟩:=I.base.there b o e hx
   exact⟨o',(hs.2 b (Nat.ne_of_lt (Nat.lt_of_lt_of_le (Heap.lt_size e) (I.ok.cab x c hfn hc)))).trans e1⟩
  ·by_cases hj:j=i
   ·subst hj
    rw[hi] at e1;cases e1
    rw[List.getElem?_set_self hiσ] at e2
    cases e2
    exact⟨u,r,.inr ⟨.inl hk,c,hc,hc'⟩⟩
   ·rw[List.getElem?_set_ne (Ne.symm hj)] at e2
    obtain⟨u',r',q⟩:=hl j y v' e1 e2 e3
    refine⟨u',r',?_⟩
    rcases q with q|⟨k,c',e,z'⟩
    ·exact .inl q
    ·refine .inr ⟨k,c',e,z'.sameBut hs ?_⟩
     rintro rfl
     exact hj (nZ hN e1 (I.ok.inj _ _ _ e hc ▸ hi))
  ·by_cases hcc:c'=c
   ·subst hcc;exact⟨_,hc'⟩
   ·obtain⟨w2,z2⟩:=I.cell y c' e
    exact⟨w2,z2.sameBut hs hcc⟩
  ·obtain⟨e,n,ne,nf,d⟩:=I.pin p hp
   refine⟨(hs.2 p.1 ?_).trans e,n,ne,nf,d⟩
   intro q
   rw[q,hoc] at e
   have q':oc=p.2:=Option.some.inj e
   exact d w' (by rw[<-q'];exact hocd)
theorem cA{M:Model}{A:Around}{E:Value->Shared->Prop}{i:Nat}{x:Str}{v:V}{u:Value}{Q:Unit->Shared->Prop}(I:Inv X pins σ H s)(hN:X.N.Nodup)(hi:X.N[i]?=some x)(hx:Loc X.env.scope x)(r:RelV v u)(h:∀s',Inv X pins (σ.set i (some v)) H s'->Q () s')(hf:X.fn x=true\/X.env.scope.names.lookup x=some .local:=by first|exact .inl rfl|exact .inr rfl|assumption):wpAny M A (storeName X.env x u) Q E s:=
 pM I hN hi hx r (fun s' I' _=>h s' I') hf
theorem Inv.call'{s':Shared}{ch:List Addr}(I:Inv X pins σ H s)(ho:s'.os=s.os)(u:Un (frs X.stack) ch H H' s.heap s'.heap)(hok:HOk X.prog X.w H' s'.heap)(hg:AllBare s'.gens)(hch:∀b∈ch,(b∈X.ex\/X.s₀.heap.objs.size<=b)/\b≠X.env.locals/\(∀x c,X.env.cells.lookup x=some c->c≠b)/\∀p∈X.pn++pins,p.1≠b):Inv X pins σ H' s':=by
 obtain⟨h',g',d',t',o'⟩:=s'
 have e:o'=s.os:=ho
 subst e
 exact I.call (g':=g') (t':=t') (d':=d') u hok hg hch
end
noncomputable abbrev XK:=Value->Option Addr->Hp->Prop
noncomputable abbrev St:=List (Option V)
noncomputable abbrev VK:=V->Hp->Prop
noncomputable abbrev TE:=St->Hp->VK->Prop
noncomputable abbrev TT:=St->Hp->(Bool->Hp->Prop)->Prop
noncomputable abbrev TA:=St->Hp->(List V->Hp->Prop)->Prop
structure Ends where
 nx:St->Hp->Prop
 rt:VK
 bk:St->Hp->Prop:=fun _ _=>False
 ct:St->Hp->Prop:=fun _ _=>False
noncomputable abbrev TS:=Ends->St->Hp->Prop
noncomputable def EP(X:Cx)(pins:List (Addr×Obj))(σ:St)(Q:VK)(u:Value)(s':Shared):Prop:=∃v H',Inv X pins σ H' s'/\RelV v u/\Q v H'
noncomputable def TP(X:Cx)(pins:List (Addr×Obj))(σ:St)(Q:Bool->Hp->Prop)(b:Bool)(s':Shared):Prop:=∃H',Inv X pins σ H' s'/\Q b H'
noncomputable def AP(X:Cx)(pins:List (Addr×Obj))(σ:St)(Q:List V->Hp->Prop)(us:List Value)(s':Shared):Prop:=∃vs H',Inv X pins σ H' s'/\Vals vs us/\Q vs H'
noncomputable def SP(X:Cx)(pins:List (Addr×Obj))(D:Ends)(f:Flow)(s':Shared):Prop:=
 match f with
 |.next=>∃σ' H',Inv X pins σ' H' s'/\D.nx σ' H'
 |.brk=>∃σ' H',Inv X pins σ' H' s'/\D.bk σ' H'
 |.cont=>∃σ' H',Inv X pins σ' H' s'/\D.ct σ' H'
 |.ret u=>∃v σ' H',Inv X pins σ' H' s'/\RelV v u/\D.rt v H'
noncomputable def PE(X:Cx)(e:Expr)(t:TE):Prop:=
 ∀(pins:List (Addr×Obj)) (s:Shared) (σ:St) (H:Hp) (Q:VK),Inv X pins σ H s->t σ H Q->wpAny (model X.prog X.w) X.A (eval e X.env) (EP X pins σ Q) X.xe s
noncomputable def PT(X:Cx)(e:Expr)(t:TT):Prop:=
 ∀(pins:List (Addr×Obj)) (s:Shared) (σ:St) (H:Hp) (Q:Bool->Hp->Prop),Inv X pins σ H s->t σ H Q->wpAny (model X.prog X.w) X.A (isTrue e X.env (eval e X.env)) (TP X pins σ Q) X.xe s
noncomputable def PW(X:Cx)(e:Expr)(t:TT):Prop:=
 ∀(whole:Sem Value) (pins:List (Addr×Obj)) (s:Shared) (σ:St) (H:Hp) (Q:Bool->Hp->Prop),Inv X pins σ H s->t σ H Q->wpAny (model X.prog X.w) X.A (isTrue e X.env whole) (TP X pins σ Q) X.xe s
theorem PW.pt{X:Cx}{e:Expr}{t:TT}(h:PW X e t):PT X e t:=h _
noncomputable def PA(X:Cx)(es:List Expr)(t:TA):Prop:=
 ∀(pos:Pos) (pins:List (Addr×Obj)) (s:Shared) (σ:St) (H:Hp) (Q:List V->Hp->Prop),Inv X pins σ H s->t σ H Q->wpAny (model X.prog X.w) X.A (spliced (backTo pos (starEach es X.env))) (AP X pins σ Q) X.xe s
noncomputable def PS(X:Cx)(st:Stmt)(t:TS):Prop:=
 ∀(pins:List (Addr×Obj)) (s:Shared) (σ:St) (H:Hp) (D:Ends),Inv X pins σ H s->t D σ H->wpAny (model X.prog X.w) X.A (exec st X.env) (SP X pins D) X.xe s
noncomputable def PSs(X:Cx)(st:List Stmt)(t:TS):Prop:=
 ∀(pins:List (Addr×Obj)) (s:Shared) (σ:St) (H:Hp) (D:Ends),Inv X pins σ H s->t D σ H->wpAny (model X.prog X.w) X.A (execs st X.env) (SP X pins D) X.xe s
theorem thn{α:Type}{t:Sem α}{Q Q':α->Shared->Prop}{M:Model}{A:Around}{E:Value->Shared->Prop}{s:Shared}(h:wpAny M A t Q E s)(hQ:∀a s,Q a s->Q' a s):wpAny M A t Q' E s:=wpAny_mono h hQ fun _ _ x=>x
end L2
namespace L2
open PySem PySem.Spec PyProof.Rows
section
variable{X:Cx}
noncomputable def jX(i:Nat):TE:=fun σ H Q=>∃v,σ[i]?=some (some v)/\Q v H
noncomputable def tC(v:V):TE:=fun _ H Q=>Q v H
theorem zEJ{i:Nat}{x:Str}{pos:Pos}(hN:X.N[i]?=some x)(hv:Vis X.env.scope x)(hd:(x == ("__debug__" : Str))=false:=by decide)(hcd:(x == ("__classdict__" : Str))=false:=by decide):PE X (.Name x pos) (jX i):=by
 intro pins s σ H Q I h
 obtain⟨v,e,h⟩:=h
 obtain⟨m,hn,hl⟩:=I.loc
 obtain⟨u,r,l⟩:=hl i x v hN e hv
 have fin:EP X pins σ Q u s:=⟨v,H,I,r,h⟩
 rcases l with⟨hk,hm⟩|⟨hk,c,hc,hcell⟩
 ·exact wpAny_Name (wpAny_loadName_local I.ok.kind hk hn hm fin) hd
 ·rcases hk with hk|hk
  ·exact wpAny_Name (wpAny_loadName_cell I.ok.kind hk hc hcell fin) hd
  ·exact wpAny_Name (wpAny_loadName_free I.ok.kind hk hc hcell fin hcd) hd
theorem mI{i j pos}:PE X (.Constant (.int i) j pos) (tC (.int i)):=fun _ _ _ H _ I h=>wpAny_Constant_int ⟨.int i,H,I.tok _,⟨_,rfl⟩,h⟩
theorem zHK{b j pos}:PE X (.Constant (.bool b) j pos) (tC (.bl b)):=fun _ _ _ H _ I h=>Constant_bool ⟨.bl b,H,I,rfl,h⟩
theorem J6{j pos}:PE X (.Constant .none j pos) (tC .non):=fun _ _ _ H _ I h=>Constant_none ⟨.non,H,I,rfl,h⟩
theorem zEK{x j pos}:PE X (.Constant (.str x) j pos) (tC (.str x)):=fun _ _ _ H _ I h=>Calls.Constant_str ⟨.str x,H,I.tok _,⟨_,rfl⟩,h⟩
noncomputable def Gl(X:Cx)(x:Str):Prop:=X.env.kindOf x=some .globalImplicit
theorem d9{E:Value->Shared->Prop}{pins:List (Addr×Obj)}{s:Shared}{σ:St}{H:Hp}{x:Str}{u:Value}{pos:Pos}{Q:Value->Shared->Prop}(I:Inv X pins σ H s)(hg:Gl X x)(hm:X.mg x=some u)(h:Q u s)(hd:(x == ("__debug__" : Str))=false:=by decide):wpAny (model X.prog X.w) X.A (eval (.Name x pos) X.env) Q E s:=
 Calls.Name_function_global I.ok.kind hg (Calls.loadGlobal_global (by rw[I.ok.glob];exact I.mod.glob.keeps I.bk) hm h) hd
theorem bW{E:Value->Shared->Prop}{pins:List (Addr×Obj)}{s:Shared}{σ:St}{H:Hp}{x:Str}{u:Value}{pos:Pos}{Q:Value->Shared->Prop}(I:Inv X pins σ H s)(hg:Gl X x)(hm:X.mg x=none)(hv:bootBuiltins x=some u)(h:Q u s)(hn:x ≠ "__name__" := by decide)(hd:(x == ("__debug__" : Str))=false:=by decide):wpAny (model X.prog X.w) X.A (eval (.Name x pos) X.env) Q E s:=by
 obtain⟨mb,h1,h2⟩:=I.mod.blt
 exact Calls.Name_function_global I.ok.kind hg (Calls.loadGlobal_builtin (by rw[I.ok.glob];exact I.mod.glob.keeps I.bk) hm (by rw[I.ok.blt];exact h1.keeps I.bk) ((h2 x hn).trans hv) h) hd
theorem ZA{x:Str}{v:V}{u:Value}{pos:Pos}(hg:Gl X x)(hm:X.mg x=some u)(r:RelV v u)(hd:(x == ("__debug__" : Str))=false:=by decide):PE X (.Name x pos) (tC v):=
 fun _ _ _ H _ I h=>d9 I hg hm ⟨v,H,I,r,h⟩ hd
theorem bA{x:Str}{v:V}{u:Value}{pos:Pos}(hg:Gl X x)(hm:X.mg x=none)(hv:bootBuiltins x=some u)(r:RelV v u)(hn:x ≠ "__name__" := by decide)(hd:(x == ("__debug__" : Str))=false:=by decide):PE X (.Name x pos) (tC v):=
 fun _ _ _ H _ I h=>bW I hg hm hv ⟨v,H,I,r,h⟩ hn hd
variable{a b:Expr}{ta tb:TE}{pos:Pos}
noncomputable def PC(X:Cx)(op:CmpOp)(a b:Expr)(t:TE):Prop:=
 ∀(pins:List (Addr×Obj)) (s:Shared) (σ:St) (H:Hp) (Q:VK),Inv X pins σ H s->t σ H Q ->
  wpAny (model X.prog X.w) X.A (eval a X.env) (fun v s₁=>wpAny (model X.prog X.w) X.A (eval b X.env) (fun u s₂=>wpAny (model X.prog X.w) X.A (compareOp op v u) (EP X pins σ Q) X.xe s₂) X.xe s₁) X.xe s
theorem X5(b:Expr){op:CmpOp}(h:op≠.In)(h2:op≠.NotIn):behindInMarks op b=false:=by
 have e1:(op == CmpOp.In)=false:=by cases op<;>first|rfl|exact absurd rfl h
 have e2:(op == CmpOp.NotIn)=false:=by cases op<;>first|rfl|exact absurd rfl h2
 cases b<;>simp[behindInMarks,e1,e2]
noncomputable def zJM(ta:TE):TE:=fun σ H Q=>ta σ H fun x H1=>Q (.bl (decide (x=.non))) H1
theorem RelV.none_iff{x:V}{v:Value}(r:RelV x v):(v == Value.none)=decide (x=.non):=by
 cases x with
 |non=>cases r;rfl
 |bl _=>cases r;rfl
 |int _=>obtain⟨t,rfl⟩:=r;rfl
 |str _=>obtain⟨t,rfl⟩:=r;rfl
 |byt _=>obtain⟨t,rfl⟩:=r;rfl
 |flt _=>obtain⟨t,rfl⟩:=r;rfl
 |ref _=>cases r;rfl
 |ty _=>cases r;rfl
theorem zEO{j pos'}(ha:PE X a ta):PC X .Is a (.Constant .none j pos') (zJM ta):=by
 intro pins s σ H Q I h
 refine thn (ha pins s σ H _ I h) fun v s1 ⟨x,H1,I1,r1,q1⟩=>?_
 exact Constant_none (is_none_gen ⟨.bl _,H1,I1,by rw[r1.none_iff];rfl,q1⟩)
noncomputable def tB(t:TE):TT:=fun σ H Q=>t σ H fun x H1=>∃c,x=.bl c/\Q c H1
theorem JV{op:CmpOp}{t:TE}(h:PC X op a b t)(h1:behindInMarks op b=false:=by first|exact X5 _ (by decide) (by decide)|rfl):PT X (.Compare a [op] [b] pos) (tB t):=by
 intro pins s σ H Q I hw
 refine wpAny_isTrue_Compare1 (thn (h pins s σ H _ I hw) fun v s1 h1=>thn h1 fun u s2 h2=>thn h2 fun c s3 ⟨x,H1,I1,r1,q1⟩=>?_) h1
 obtain⟨d,rfl,q⟩:=q1
 cases r1
 exact wpAny_truthy_bool ⟨H1,I1,q⟩
theorem zEB{e:Expr}{t:TE}(h:PE X e t)(he:∀whole,isTrue e X.env whole=(do let v <- whole;standAt e.pos;holding [v] (truthy v)):=by intro _;rfl):PT X e (tB t):=by
 intro pins s σ H Q I hw
 refine isTrue_plain (thn (h pins s σ H _ I hw) fun v s1 ⟨x,H1,I1,r1,q1⟩=>?_) (he _)
 obtain⟨d,rfl,q⟩:=q1
 cases r1
 exact wpAny_truthy_bool ⟨H1,I1,q⟩
variable{tA tB':TT}{rest:List Expr}
noncomputable def zJQ(t u:TT):TT:=fun σ H Q=>t σ H fun c H1=>if c=true then u σ H1 Q else Q false H1
noncomputable def tOr(t u:TT):TT:=fun σ H Q=>t σ H fun c H1=>if c=true then Q true H1 else u σ H1 Q
noncomputable def zJL(t:TT):TT:=fun σ H Q=>t σ H fun c H1=>Q (!c) H1
theorem t7(ha:PT X a tA):PW X (.BoolOp .And [a] pos) tA:=by
 intro wh pins s σ H Q I h
 refine isTrue_and (thn (ha pins s σ H Q I h) fun c s1 e=>?_)
 cases c with
 |true=>exact isTrue_and_nil e
 |false=>exact e
theorem zD9(ha:PT X a tA):PW X (.BoolOp .Or [a] pos) tA:=by
 intro wh pins s σ H Q I h
 refine isTrue_or (thn (ha pins s σ H Q I h) fun c s1 e=>?_)
 cases c with
 |false=>exact isTrue_or_nil e
 |true=>exact e
theorem JR(ha:PT X a tA)(hb:PW X (.BoolOp .And (b::rest) pos) tB'):PW X (.BoolOp .And (a::b::rest) pos) (zJQ tA tB'):=by
 intro wh pins s σ H Q I h
 refine isTrue_and (thn (ha pins s σ H _ I h) fun c s1 ⟨H1,I1,q1⟩=>?_)
 cases c with
 |true=>exact hb wh pins s1 σ H1 Q I1 q1
 |false=>exact⟨H1,I1,q1⟩
theorem zHH(ha:PT X a tA)(hb:PW X (.BoolOp .Or (b::rest) pos) tB'):PW X (.BoolOp .Or (a::b::rest) pos) (tOr tA tB'):=by
 intro wh pins s σ H Q I h
 refine isTrue_or (thn (ha pins s σ H _ I h) fun c s1 ⟨H1,I1,q1⟩=>?_)
 cases c with
 |true=>exact⟨H1,I1,q1⟩
 |false=>exact hb wh pins s1 σ H1 Q I1 q1
theorem zEC(ha:PT X a tA):PT X (.UnaryOp .Not a pos) (zJL tA):=by
 intro pins s σ H Q I h
 exact isTrue_not (ha pins s σ H (fun c H1=>Q (!c) H1) I h)
noncomputable def zG9(ta tb:TE):TE:=fun σ H Q=>ta σ H fun x H1=>∃c,x=.bl c/\if c=true then tb σ H1 Q else Q (.bl false) H1
noncomputable def zG5(ta:TE):TE:=fun σ H Q=>ta σ H fun x H1=>∃c,x=.bl c/\Q (.bl (!c)) H1
theorem zEL{op}{t:TE}(h:PE X a t):PE X (.BoolOp op [a] pos) t:=fun pins s σ H Q I hw=>BoolOp_one (h pins s σ H Q I hw)
theorem zEN(ha:PE X a ta)(hb:PE X (.BoolOp .And (b::rest) pos) tb):PE X (.BoolOp .And (a::b::rest) pos) (zG9 ta tb):=by
 intro pins s σ H Q I h
 refine BoolOp_and (thn (ha pins s σ H _ I h) fun v s1 ⟨x,H1,I1,r1,q1⟩=>?_)
 obtain⟨c,rfl,q1⟩:=q1
 cases r1
 refine wpAny_truthy_bool ?_
 cases c with
 |true=>exact hb pins s1 σ H1 Q I1 q1
 |false=>exact⟨.bl false,H1,I1,rfl,q1⟩
theorem zEM(ha:PE X a ta):PE X (.UnaryOp .Not a pos) (zG5 ta):=by
 intro pins s σ H Q I h
 refine UnaryOp_ (thn (ha pins s σ H _ I h) fun v s1 ⟨x,H1,I1,r1,q1⟩=>?_)
 obtain⟨c,rfl,q1⟩:=q1
 cases r1
 exact not_of (wpAny_truthy_bool ⟨.bl (!c),H1,I1,rfl,q1⟩)
noncomputable def tIf(t:TT)(ta tb:TE):TE:=fun σ H Q=>t σ H fun c H1=>if c=true then ta σ H1 Q else tb σ H1 Q
theorem XT{c:Expr}(hc:PT X c tA)(ha:PE X a ta)(hb:PE X b tb):PE X (.IfExp c a b pos) (tIf tA ta tb):=by
 intro pins s σ H Q I h
 refine wpAny_IfExp (thn (hc pins s σ H _ I h) fun d s1 ⟨H1,I1,q1⟩=>?_)
 cases d with
 |true=>exact ha pins s1 σ H1 Q I1 q1
 |false=>exact hb pins s1 σ H1 Q I1 q1
end
end L2
namespace L2
open PySem PySem.Spec PyProof.Rows
noncomputable def SqL(K:Fg)(H:Hp)(a:Addr)(xs:List V):Prop:=
 Rd H a (.lst xs) \/
  ∃(o:Obj) (its:Array Value) (n:Nat),K.lookup a=some o/\o.cls=.type "list" /\ o.dict=none/\o.data=.seq its n/\its.size<=sizeLine/\Vals xs its.toList
noncomputable def SqT(K:Fg)(H:Hp)(a:Addr)(xs:List V):Prop:=
 Rd H a (.tup xs) \/
  ∃(o:Obj) (its:Array Value) (n:Nat),K.lookup a=some o/\o.cls=.type "tuple" /\ o.data=.seq its n/\its.size<=sizeLine/\Vals xs its.toList
noncomputable def zJ5:Value->Option V
 |.none=>some .non
 |.bool b=>some (.bl b)
 |.int i _=>some (.int i)
 |.str x _=>some (.str x)
 |.bytes b _=>some (.byt b)
 |.float b _=>some (.flt b)
 |.ref a=>some (.ref a)
 |.type n=>some (.ty n)
 |_=>none
theorem RelV.abs{x:V}{u:Value}(r:RelV x u):zJ5 u=some x:=by
 cases x with
 |non=>cases r;rfl
 |bl _=>cases r;rfl
 |int _=>obtain⟨t,rfl⟩:=r;rfl
 |str _=>obtain⟨t,rfl⟩:=r;rfl
 |byt _=>obtain⟨t,rfl⟩:=r;rfl
 |flt _=>obtain⟨t,rfl⟩:=r;rfl
 |ref _=>cases r;rfl
 |ty _=>cases r;rfl
theorem RelV.inj{x y:V}{u:Value}(r:RelV x u)(q:RelV y u):x=y:=Option.some.inj (r.abs.symm.trans q.abs)
theorem Vals.inj:∀{xs ys:List V} {us:List Value},Vals xs us->Vals ys us->xs=ys
 |_,_,_,.nil,.nil=>rfl
 |_,_,_,.cons r t,.cons r' t'=>by rw[r.inj r',Vals.inj t t']
section
variable{X:Cx}{pins:List (Addr×Obj)}{σ:St}{H:Hp}{s:Shared}{a:Addr}{xs ys:List V}
theorem SqL.of{K:Fg}(h:H a=some (.lst xs)):SqL K H a xs:=.inl (.inl h)
theorem SqT.of{K:Fg}(h:H a=some (.tup xs)):SqT K H a xs:=.inl (.inl h)
theorem Inv.list(I:Inv X pins σ H s)(h:SqL X.K H a xs):∃its:List Value,Vals xs its/\PlainL s.heap a its.toArray/\xs.length<=sizeLine:=by
 rcases h with h|⟨o,its,n,hk,hc,hd,hs,hz,r⟩
 ·obtain⟨z,its,n,r,e⟩:=h.ok I.hok
  exact⟨its,r,⟨_,n,e,rfl,rfl,rfl⟩,z⟩
 ·refine⟨its.toList,r,⟨o,n,I.kIn a o hk,hc,hd,by simpa using hs⟩,?_⟩
  have e:=r.length
  simp only[Array.length_toList] at e
  omega
theorem Inv.tuple(I:Inv X pins σ H s)(h:SqT X.K H a xs):∃its:List Value,Vals xs its/\IsTup s.heap a its.toArray/\xs.length<=sizeLine:=by
 rcases h with h|⟨o,its,n,hk,hc,hs,hz,r⟩
 ·obtain⟨z,its,r,p⟩:=h.ok I.hok
  exact⟨its,r,p,z⟩
 ·refine⟨its.toList,r,⟨o,I.kIn a o hk,hc,n,by simpa using hs⟩,?_⟩
  have e:=r.length
  simp only[Array.length_toList] at e
  omega
theorem Inv.list_inj(I:Inv X pins σ H s)(h:SqL X.K H a xs)(h':SqL X.K H a ys):xs=ys:=by
 obtain⟨its,r,⟨o,n,e,_,_,d⟩,_⟩:=I.list h
 obtain⟨its',r',⟨o',n',e',_,_,d'⟩,_⟩:=I.list h'
 rw[e] at e';cases e'
 rw[d] at d'
 injection d' with d1 _
 have:its=its':=by simpa using congrArg Array.toList d1
 subst this
 exact r.inj r'
theorem Inv.tuple_inj(I:Inv X pins σ H s)(h:SqT X.K H a xs)(h':SqT X.K H a ys):xs=ys:=by
 obtain⟨its,r,⟨o,e,_,n,d⟩,_⟩:=I.tuple h
 obtain⟨its',r',⟨o',e',_,n',d'⟩,_⟩:=I.tuple h'
 rw[e] at e';cases e'
 rw[d] at d'
 injection d' with d1 _
 have:its=its':=by simpa using congrArg Array.toList d1
 subst this
 exact r.inj r'
end
noncomputable abbrev Cx.wish(X:Cx)(E:Value->Shared->Prop):Cx:={ X with xe:=E }
noncomputable abbrev Cx.nox(X:Cx):Cx:=X.wish fun _ _=>False
theorem Cx.Ok.wish{X:Cx}(ok:X.Ok)(E:Value->Shared->Prop):(X.wish E).Ok:=
 ⟨ok.mod,ok.kind,ok.glob,ok.blt,ok.above,ok.inj,ok.has,ok.cab,ok.hd,ok.frames,ok.stk,ok.exf,ok.bs,ok.bsz,ok.noex,ok.exfs,ok.funs,ok.frf⟩
theorem Cx.Ok.unwish{X:Cx}{E:Value->Shared->Prop}(ok:(X.wish E).Ok):X.Ok:=
 ⟨ok.mod,ok.kind,ok.glob,ok.blt,ok.above,ok.inj,ok.has,ok.cab,ok.hd,ok.frames,ok.stk,ok.exf,ok.bs,ok.bsz,ok.noex,ok.exfs,ok.funs,ok.frf⟩
section
variable{X:Cx}{pins:List (Addr×Obj)}{σ:St}{H:Hp}{s:Shared}{E:Value->Shared->Prop}
theorem Inv.wish(I:Inv X pins σ H s)(E:Value->Shared->Prop):Inv (X.wish E) pins σ H s:=⟨I.ok.wish E,I.os,I.bare,I.base,I.loc,I.cell,I.free,I.freeC,I.pin,I.hok,I.len⟩
theorem Inv.unwish(I:Inv (X.wish E) pins σ H s):Inv X pins σ H s:=⟨I.ok.unwish,I.os,I.bare,I.base,I.loc,I.cell,I.free,I.freeC,I.pin,I.hok,I.len⟩
theorem SP.unwish{D:Ends}{f:Flow}{s':Shared}(h:SP (X.wish E) pins D f s'):SP X pins D f s':=by
 cases f with
 |next=>obtain⟨σ',H',I,q⟩:=h;exact⟨σ',H',I.unwish,q⟩
 |brk=>obtain⟨σ',H',I,q⟩:=h;exact⟨σ',H',I.unwish,q⟩
 |cont=>obtain⟨σ',H',I,q⟩:=h;exact⟨σ',H',I.unwish,q⟩
 |ret u=>obtain⟨v,σ',H',I,r,q⟩:=h;exact⟨v,σ',H',I.unwish,r,q⟩
theorem PSs.nox{st:List Stmt}{t:TS}(h:PSs X.nox st t):PSs X st t:=fun pins s σ H D I hw=>
 wpAny_mono (h pins s σ H D (I.wish _) hw) (fun _ _ q=>q.unwish) fun _ _ z=>False.elim z
end
section
variable{X:Cx}{st:Stmt}{rest:List Stmt}{t u:TS}{e:Expr}{te:TE}{pos:Pos}
noncomputable def zG6:TS:=fun D σ H=>D.nx σ H
noncomputable def zFS(t u:TS):TS:=fun D σ H=>t { D with nx:=u D } σ H
theorem t9:PSs X [] zG6:=fun _ _ σ H _ I h=>wpAny_execs_nil ⟨σ,H,I,h⟩
theorem wW(h1:PS X st t)(h2:PSs X rest u):PSs X (st::rest) (zFS t u):=by
 intro pins s σ H D I h
 refine wpAny_execs_cons (thn (h1 pins s σ H { D with nx:=u D } I h) fun f s1 q=>?_)
 cases f with
 |next=>
  obtain⟨σ',H',I',q⟩:=q
  exact h2 pins s1 σ' H' D I' q
 |ret v=>exact q
 |brk=>exact q
 |cont=>exact q
theorem dF(h1:PS X st t):PSs X [st] t:=by
 intro pins s σ H D I h
 refine wpAny_execs_cons (thn (h1 pins s σ H D I h) fun f s1 q=>?_)
 cases f with
 |next=>exact wpAny_execs_nil q
 |ret v=>exact q
 |brk=>exact q
 |cont=>exact q
theorem Inv.quiet{pins:List (Addr×Obj)}{σ:St}{H:Hp}{s:Shared}(I:Inv X pins σ H s):interactive X.env=false:=by simp[interactive,I.ok.kind]
noncomputable def zFU(te:TE):TS:=fun D σ H=>te σ H fun _ H1=>D.nx σ H1
theorem nU(he:PE X e te)(hs:swapsWith e none pos.line X.env=pure false:=by rfl):PS X (.Expr e pos) (zFU te):=by
 intro pins s σ H D I h
 exact wpAny_Expr_any (thn (he pins s σ H _ I h) fun v s1 ⟨x,H1,I1,r1,q1⟩=>⟨σ,H1,I1,q1⟩) I.quiet hs
noncomputable def zJK(te:TE):TS:=fun D σ H=>te σ H D.rt
theorem XI(he:PE X e te):PS X (.Return (some e) pos) (zJK te):=by
 intro pins s σ H D I h
 exact wpAny_Return_some (thn (he pins s σ H _ I h) fun v s1 ⟨x,H1,I1,r1,q1⟩=>⟨x,σ,H1,I1,r1,q1⟩)
noncomputable def zJN(c:TT)(t u:TS):TS:=fun D σ H=>c σ H fun b H1=>if b=true then t D σ H1 else u D σ H1
theorem zF0{c:Expr}{a b:List Stmt}{tc:TT}(hc:PT X c tc)(ha:PSs X a t)(hb:PSs X b u):PS X (.If c a b pos) (zJN tc t u):=by
 intro pins s σ H D I h
 refine wpAny_If (thn (hc pins s σ H _ I h) fun d s1 ⟨H1,I1,q1⟩=>?_)
 cases d with
 |true=>exact ha pins s1 σ H1 D I1 q1
 |false=>exact hb pins s1 σ H1 D I1 q1
end
noncomputable abbrev TG:=V->St->Hp->(St->Hp->Prop)->Prop
noncomputable abbrev TGs:=List V->St->Hp->(St->Hp->Prop)->Prop
noncomputable def PG(X:Cx)(target:Expr)(t:TG):Prop:=
 ∀(pins:List (Addr×Obj)) (s:Shared) (σ:St) (H:Hp) (v:V) (u:Value) (Q:St->Hp->Prop),Inv X pins σ H s->RelV v u->t v σ H Q ->
  wpAny (model X.prog X.w) X.A (assign target X.env u) (fun _ s'=>∃σ' H',Inv X pins σ' H' s'/\Q σ' H') X.xe s
noncomputable def PGs(X:Cx)(ts:List Expr)(t:TGs):Prop:=
 ∀(pins:List (Addr×Obj)) (s:Shared) (σ:St) (H:Hp) (vs:List V) (us:List Value) (Q:St->Hp->Prop),Inv X pins σ H s->Vals vs us->t vs σ H Q ->
  wpAny (model X.prog X.w) X.A (assignInOrder ((assignEach ts X.env).map (·.2)) us) (fun _ s'=>∃σ' H',Inv X pins σ' H' s'/\Q σ' H') X.xe s
noncomputable abbrev TIp:=V->V->Hp->VK->Prop
noncomputable def PIp(X:Cx)(op:Operator)(t:TIp):Prop:=
 ∀(pins:List (Addr×Obj)) (s:Shared) (σ:St) (H:Hp) (x y:V) (v u:Value) (Q:VK),Inv X pins σ H s->RelV x v->RelV y u->t x y H Q ->
  wpAny (model X.prog X.w) X.A (inplaceOp op v u) (EP X pins σ Q) X.xe s
section
variable{X:Cx}{pos:Pos}
noncomputable def zBQ(i:Nat):TG:=fun v σ H Q=>Q (σ.set i (some v)) H
theorem nW{i:Nat}{x:Str}(hN:X.N.Nodup)(hi:X.N[i]?=some x)(hx:Loc X.env.scope x)(hf:X.fn x=true\/X.env.scope.names.lookup x=some .local:=by first|exact .inl rfl|exact .inr rfl|assumption):PG X (.Name x pos) (zBQ i):=by
 intro pins s σ H v u Q I r h
 exact wpAny_assign_Name (cA I hN hi hx r (fun s' I'=>⟨_,H,I',h⟩) hf)
noncomputable def zJY:TGs:=fun vs σ H Q=>vs=[]/\Q σ H
noncomputable def zH1(t:TG)(u:TGs):TGs:=fun vs σ H Q=>∃v r,vs=v::r/\t v σ H fun σ' H'=>u r σ' H' Q
theorem J2:PGs X [] zJY:=by
 intro pins s σ H vs us Q I r h
 obtain⟨e,h⟩:=h
 subst e
 cases r
 exact assignInOrder_nil ⟨σ,H,I,h⟩
theorem XO{e:Expr}{es:List Expr}{t:TG}{u:TGs}(h1:PG X e t)(h2:PGs X es u)(hs:(assignEach (e::es) X.env).map (·.2)=assign e X.env::(assignEach es X.env).map (·.2):=by rfl):PGs X (e::es) (zH1 t u):=by
 intro pins s σ H vs us Q I r h
 obtain⟨v,vr,e1,h⟩:=h
 subst e1
 cases r with
 |cons r rr=>
  rw[hs]
  refine assignInOrder_cons (thn (h1 pins s σ H _ _ _ I r h) fun _ s1 ⟨σ1,H1,I1,q1⟩=>?_)
  exact h2 pins s1 σ1 H1 _ _ Q I1 rr q1
noncomputable def zJX(K:Fg)(n:Nat)(t:TGs):TG:=fun v σ H Q=>∃a xs,v=.ref a/\SqT K H a xs/\xs.length=n/\t xs σ H Q
theorem zEH{es:List Expr}{k:Nat}{t:TGs}{n:Nat}(hc:X.calm=true)(h:PGs X es t)(hn:(assignEach es X.env).length=n:=by rfl)(hst:(assignEach es X.env).findIdx? (·.1)=none:=by rfl):PG X (.Tuple es k pos) (zJX X.K n t):=by
 intro pins s σ H v u Q I r hw
 obtain⟨a,xs,e1,hq,hl,hw⟩:=hw
 subst e1
 cases r
 obtain⟨its,rv,ht,hz⟩:=I.tuple hq
 refine assign_Tuple_tuple (I.ok.hd hc) ht (by simp[hn,<-hl,rv.length]) hst fun h' hx=>?_
 have I1:Inv X pins σ H { s with heap:=h' }:=I.kept (t':=s.toks) fun b o e=>hx b o (Nat.ne_of_lt (Heap.lt_size e)) e
 exact h pins _ σ H xs _ Q I1 (by simpa using rv) hw
noncomputable def zIW(te:TE)(g:TG):TS:=fun D σ H=>te σ H fun x H1=>g x σ H1 D.nx
theorem zEE{tg e:Expr}{te:TE}{g:TG}(he:PE X e te)(hg:PG X tg g)(hs:swapsWithSole [tg] e pos.line X.env=pure false:=by rfl)(hw:swappedStores [tg] e X.env=pure none:=by rfl)(h1:(assignEach [tg] X.env).map (·.2)=[assign tg X.env]:=by rfl):PS X (.Assign [tg] e pos) (zIW te g):=by
 intro pins s σ H D I h
 refine wpAny_Assign_stores (thn (he pins s σ H _ I h) fun v s1 ⟨x,H1,I1,r1,q1⟩=>?_) hs hw
 rw[h1]
 exact thn (hg pins s1 σ H1 x v _ I1 r1 q1) fun _ s2 q=>q
theorem mG{i:Nat}{x:Str}{e:Expr}{te:TE}{pos':Pos}(hN:X.N.Nodup)(hi:X.N[i]?=some x)(hx:Loc X.env.scope x)(he:PE X e te)(hs:swapsWith e (some (.Name x pos')) pos.line X.env=pure false:=by rfl)(hf:X.fn x=true\/X.env.scope.names.lookup x=some .local:=by first|exact .inl rfl|exact .inr rfl|assumption):PS X (.Assign [.Name x pos'] e pos) (zIW te (zBQ i)):=by
 intro pins s σ H D I h
 refine wpAny_Assign_Name (thn (he pins s σ H _ I h) fun v s1 ⟨y,H1,I1,r1,q1⟩=>?_) hs
 exact cA I1 hN hi hx r1 (fun s2 I2=>⟨_,H1,I2,q1⟩) hf
noncomputable def zJP(i:Nat)(te:TE)(ti:TIp):TS:=fun D σ H=>∃x,σ[i]?=some (some x)/\te σ H fun y H1=>ti x y H1 fun z H2=>D.nx (σ.set i (some z)) H2
theorem zED{i:Nat}{x:Str}{e:Expr}{te:TE}{op:Operator}{ti:TIp}{pos':Pos}(hN:X.N.Nodup)(hi:X.N[i]?=some x)(hx:Loc X.env.scope x)(he:PE X e te)(ho:PIp X op ti)(hf:X.fn x=true\/X.env.scope.names.lookup x=some .local:=by first|exact .inl rfl|exact .inr rfl|assumption):PS X (.AugAssign (.Name x pos') op e pos) (zJP i te ti):=by
 intro pins s σ H D I h
 obtain⟨v,e1,h⟩:=h
 obtain⟨m,hn,hl⟩:=I.loc
 have vis:Vis X.env.scope x:=by rcases hx with k|k;exact .inl k;exact .inr (.inl k)
 obtain⟨u,r,l⟩:=hl i x v hi e1 vis
 refine wpAny_AugAssign_Name ?_
 have go:wpAny (model X.prog X.w) X.A (eval e X.env) (fun w s₂=>wpAny (model X.prog X.w) X.A (inplaceOp op u w) (fun r s₃=>wpAny (model X.prog X.w) X.A (storeName X.env x r) (fun _=>SP X pins D .next) X.xe s₃) X.xe s₂) X.xe s:=by
  refine thn (he pins s σ H _ I h) fun w s1 ⟨y,H1,I1,r1,q1⟩=>?_
  refine thn (ho pins s1 σ H1 v y u w _ I1 r r1 q1) fun z s2 ⟨zv,H2,I2,r2,q2⟩=>?_
  exact cA I2 hN hi hx r2 (fun s3 I3=>⟨_,H2,I3,q2⟩) hf
 rcases l with⟨hk,hm⟩|⟨hk,c,hc,hcell⟩
 ·exact wpAny_loadName_local I.ok.kind hk hn hm go
 ·rcases hk with hk|hk
  ·exact wpAny_loadName_cell I.ok.kind hk hc hcell go
  ·rcases hx with k|k
   ·have:X.env.scope.names.lookup x=some .free:=hk
    rw[k] at this;cases this
   ·have:X.env.scope.names.lookup x=some .free:=hk
    rw[k] at this;cases this
noncomputable def ipI(f:Int->Int->Int):TIp:=fun x y H Q=>∃i j,x=.int i/\y=.int j/\Q (.int (f i j)) H
theorem zFC:PIp X .Add (ipI fun i j=>i+j):=by
 intro pins s σ H x y v u Q I r1 r2 h
 obtain⟨i,j,e1,e2,q⟩:=h
 subst e1;subst e2
 obtain⟨t,rfl⟩:=r1
 obtain⟨t',rfl⟩:=r2
 exact iadd_int ⟨.int _,H,I.tok _,⟨_,rfl⟩,q⟩
end
section
variable{X:Cx}{pos:Pos}
noncomputable def zDU(c:TT)(tb:TS):TS:=fun D σ H=>∃W:Nat->St->Hp->Prop,(∃m,W m σ H)/\∀m σ H,W m σ H ->
 c σ H fun b H1=>if b=true then ∃N:St->Hp->Prop,(∀σ' H',N σ' H'->∃m',m'<m/\W m' σ' H')/\tb { D with nx:=N,ct:=N,bk:=D.nx } σ H1 else D.nx σ H1
theorem nT{c:Expr}{body:List Stmt}{tc:TT}{tb:TS}(hp:PassesOwn (model X.prog X.w) X.A X.env X.xe)(hc:PT X c tc)(hb:PSs X body tb):PS X (.While c body [] pos) (zDU tc tb):=by
 intro pins s σ H D I h
 obtain⟨W,⟨m0,w0⟩,turn⟩:=h
 refine wpAny_While (codeAny_whileLoop (fun n s'=>∃σ' H',Inv X pins σ' H' s'/\W n σ' H') ?_ m0 ⟨σ,H,I,w0⟩)
 rintro n s1 ⟨σ1,H1,I1,w1⟩
 refine wpAny_passesOwn hp (thn (hc pins s1 σ1 H1 _ I1 (turn n σ1 H1 w1)) fun b s2 ⟨H2,I2,q2⟩=>?_)
 cases b with
 |true=>
  obtain⟨N,hN,q2⟩:=q2
  rw[if_pos rfl]
  refine wpAny_passesOwn hp (thn (hb pins s2 σ1 H2 _ I2 q2) fun f s3 q3=>?_)
  cases f with
  |next=>
   obtain⟨σ3,H3,I3,n3⟩:=q3
   obtain⟨m',hm,w3⟩:=hN σ3 H3 n3
   exact⟨m',hm,σ3,H3,I3,w3⟩
  |cont=>
   obtain⟨σ3,H3,I3,n3⟩:=q3
   obtain⟨m',hm,w3⟩:=hN σ3 H3 n3
   exact⟨m',hm,σ3,H3,I3,w3⟩
  |brk=>exact q3
  |ret v=>exact q3
 |false=>
  rw[if_neg Bool.false_ne_true]
  exact wpAny_execs_nil ⟨σ1,H2,I2,q2⟩
end
structure It where
 go:Nat->Hp->Prop
 yld:Nat->Hp->V->Hp->Prop
 stop:Nat->Hp->Prop
noncomputable def QL(X:Cx)(pins:List (Addr×Obj))(H:Hp)(b:Addr):Prop:=
 H b=none/\b≠X.env.locals/\b∉X.fs/\(b∈X.ex\/X.s₀.heap.objs.size<=b)/\(∀x c,X.env.cells.lookup x=some c->c≠b)/\∀p∈X.pn++pins,p.1≠b
theorem Inv.fpOk{X:Cx}{pins:List (Addr×Obj)}{σ:St}{H H':Hp}{s:Shared}{b:Addr}(I:Inv X pins σ H s)(hb:s.heap.objs.size<=b)(hn:H' b=none):QL X pins H' b:=by
 refine⟨hn,Nat.ne_of_gt (Nat.lt_of_lt_of_le I.lt hb),I.nofs hb,.inr (Nat.le_trans I.sz hb),fun x c e z=>?_,fun p hp z=>?_⟩
 ·obtain⟨v,q⟩:=I.cell x c e
  exact absurd (Nat.lt_of_lt_of_le q.lt (by rw[z];exact hb)) (Nat.lt_irrefl _)
 ·exact absurd (Nat.lt_of_lt_of_le (Heap.lt_size (I.pin p hp).1) (by rw[z];exact hb)) (Nat.lt_irrefl _)
structure Turn(P:Program)(w:World)(K:Fg)(tg:Expr)(J:It)(fp:List Addr)(it:Addr)(tn:Nat->Heap->Prop):Prop where
 mem:it∈fp
 obj:∀i h,tn i h->∀b∈fp,∃o,h.get? b=some o/\∀v,o.data≠.cell v
 keep:∀i h h',tn i h->(∀b∈fp,∀o,h.get? b=some o->h'.get? b=some o)->tn i h'
 item:∀(X:Cx),X.prog=P->X.w=w->X.K=K->X.calm=true->∀(i:Nat) (pins:List (Addr×Obj)) (s:Shared) (σ:St) (H:Hp) (E:Value->Shared->Prop),Inv X pins σ H s->(∀b∈fp,QL X pins H b)->tn i s.heap->J.go i H ->
  wpAny (model P w) X.A (pyNext (.ref it)) (fun r s1=>∃u,r=some u /\
   wpAny (model P w) X.A (letOwnedTupleGo tg (.ref it) u) (fun _ s2=>∃x H',Inv X pins σ H' s2/\RelV x u/\J.yld i H x H'/\tn (i+1) s2.heap/\∀b∈fp,H' b=none) E s1) E s
 done:∀(X:Cx),X.prog=P->X.w=w->X.K=K->X.calm=true->∀(i:Nat) (pins:List (Addr×Obj)) (s:Shared) (σ:St) (H:Hp) (E:Value->Shared->Prop),Inv X pins σ H s->(∀b∈fp,QL X pins H b)->tn i s.heap->J.stop i H ->
  wpAny (model P w) X.A (pyNext (.ref it)) (fun r s1=>r=none/\Inv X pins σ H s1) E s
 self:∀(A:Around) (i:Nat) (s:Shared) (Q:Value->Shared->Prop) (E:Value->Shared->Prop),tn i s.heap->Q (.ref it) s->wpAny (model P w) A (pyIter (.ref it)) Q E s
noncomputable abbrev TI:=St->Hp->(It->Hp->Prop)->Prop
noncomputable def PIE(X:Cx)(pins:List (Addr×Obj))(σ:St)(tg:Expr)(R:It->Hp->Prop)(itv:Value)(s2:Shared):Prop:=
 ∃(it:Addr) (fp:List Addr) (tn:Nat->Heap->Prop) (J:It) (H':Hp),itv=.ref it/\Inv X pins σ H' s2/\Turn X.prog X.w X.K tg J fp it tn/\tn 0 s2.heap/\(∀b∈fp,QL X pins H' b)/\R J H'
noncomputable def PI(X:Cx)(tg iter:Expr)(wi:TI):Prop:=
 ∀(pins:List (Addr×Obj)) (s:Shared) (σ:St) (H:Hp) (R:It->Hp->Prop),Inv X pins σ H s->wi σ H R ->
  wpAny (model X.prog X.w) X.A (eval iter X.env) (fun v s1=>wpAny (model X.prog X.w) X.A (pyIter v) (PIE X pins σ tg R) X.xe s1) X.xe s
theorem ZX{M:Model}{A:Around}{E:Value->Shared->Prop}{s:Shared}{tg:Expr}{it:Addr}{u:Value}{o:Obj}{n:String}{vs:Array Value}{Q:Unit->Shared->Prop}(ho:s.heap.get? it=some o)(hc:o.cls=.type n)(hd:o.data=.fields vs)(hn:["enumerate", "zip", "dict_itemiterator", "dict_reverseitemiterator", "odict_iterator", "itertools.zip_longest", "itertools.pairwise"].contains n=false)(hQ:Q () s):wpAny M A (letOwnedTupleGo tg (.ref it) u) Q E s:=by
 unfold letOwnedTupleGo
 cases tg<;>first
  |exact wpAny_pure hQ
  |(cases u<;>first
    |exact wpAny_pure hQ
    |(refine wpAny_bind (wpAny_load ho ?_)
      rw[hc,hd]
      show wpAny M A (if (["enumerate", "zip", "dict_itemiterator", "dict_reverseitemiterator", "odict_iterator", "itertools.zip_longest", "itertools.pairwise"].contains n && vs[0]? == some (rawInt _))=true then _ else _) Q E s
      rw[if_neg (by intro h;rw[hn,Bool.false_and] at h;cases h)]
      exact wpAny_pure hQ))
noncomputable def Itl(K:Fg)(a:Addr):It:=
 ⟨fun i H=>∃xs x,SqL K H a xs/\xs[i]?=some x,fun i H x H'=>H'=H/\∀xs,SqL K H a xs->xs[i]?=some x,fun i H=>∃xs,SqL K H a xs/\xs.length<=i⟩
noncomputable def Itt(K:Fg)(a:Addr):It:=
 ⟨fun i H=>∃xs x,SqT K H a xs/\xs[i]?=some x,fun i H x H'=>H'=H/\∀xs,SqT K H a xs->xs[i]?=some x,fun i H=>∃xs,SqT K H a xs/\xs.length<=i⟩
noncomputable def Itr(lo:Int)(n:Nat):It:=⟨fun i _=>i<n,fun i H x H'=>H'=H/\x=.int (lo+i),fun i _=>n<=i⟩
theorem pF{P:Program}{w:World}{K:Fg}{tg:Expr}(a it:Addr):Turn P w K tg (Itl K a) [it] it (fun i h=>h.IsListIter it a i) where
 mem:=by simp
 obj:=fun i h st b hb=>by
  have e:b=it:=by simpa using hb
  subst e
  obtain⟨o,e,c,d⟩:=st
  exact⟨o,e,fun v z=>by rw[d] at z;cases z⟩
 keep:=fun i h h' st k=>st.at fun o e=>k it (by simp) o e
 item:=by
  intro X hP hw hK hc i pins s σ H E I hf st hg
  subst hP hw hK
  obtain⟨xs,x,hq,hx⟩:=hg
  obtain⟨its,rv,p,hz⟩:=I.list hq
  obtain⟨u,hu,ru⟩:=rv.get hx
  obtain⟨f0,f1,f2,f3,f4,f5⟩:=hf it (by simp)
  refine wpAny_pyNext_list_item st p.isList (x:=u) (by simpa using hu) fun h' st' sb=>?_
  have I1:Inv X pins σ H { s with heap:=h' }:=I.turned (t':=s.toks) (fun b o hb e=>(sb.2 b hb).trans e) f0 f1 f3 f4 f5
  obtain⟨o,e,c,d⟩:=id st'
  exact⟨u,rfl,ZX (s:={ s with heap:=h' }) e c d (by decide) ⟨x,H,I1,ru,⟨rfl,fun ys hy=>by rw[I.list_inj hy hq];exact hx⟩,st',fun b hb=>(hf b hb).1⟩⟩
 done:=by
  intro X hP hw hK hc i pins s σ H E I hf st hg
  subst hP hw hK
  obtain⟨xs,hq,hx⟩:=hg
  obtain⟨its,rv,p,hz⟩:=I.list hq
  obtain⟨f0,f1,f2,f3,f4,f5⟩:=hf it (by simp)
  have hl:=rv.length
  exact wpAny_pyNext_list_end (I.ok.hd hc) st p.isList (by simp;omega) fun h' eb=>⟨rfl,I.turned (t':=s.toks) (fun b o hb e=>eb b o hb e) f0 f1 f3 f4 f5⟩
 self:=fun _ _ _ _ _ st h=>wpAny_pyIter_listiter st h
theorem hU{P:Program}{w:World}{K:Fg}{tg:Expr}(a it:Addr):Turn P w K tg (Itt K a) [it] it (fun i h=>h.IsTupleIter it a i) where
 mem:=by simp
 obj:=fun i h st b hb=>by
  have e:b=it:=by simpa using hb
  subst e
  obtain⟨o,e,c,d⟩:=st
  exact⟨o,e,fun v z=>by rw[d] at z;cases z⟩
 keep:=fun i h h' st k=>st.at fun o e=>k it (by simp) o e
 item:=by
  intro X hP hw hK hc i pins s σ H E I hf st hg
  subst hP hw hK
  obtain⟨xs,x,hq,hx⟩:=hg
  obtain⟨its,rv,p,hz⟩:=I.tuple hq
  obtain⟨u,hu,ru⟩:=rv.get hx
  obtain⟨f0,f1,f2,f3,f4,f5⟩:=hf it (by simp)
  refine wpAny_pyNext_tuple_item st (show s.heap.IsTuple a its.toArray from p) (x:=u) (by simpa using hu) fun h' st' sb=>?_
  have I1:Inv X pins σ H { s with heap:=h' }:=I.turned (t':=s.toks) (fun b o hb e=>(sb.2 b hb).trans e) f0 f1 f3 f4 f5
  obtain⟨o,e,c,d⟩:=id st'
  exact⟨u,rfl,ZX (s:={ s with heap:=h' }) e c d (by decide) ⟨x,H,I1,ru,⟨rfl,fun ys hy=>by rw[I.tuple_inj hy hq];exact hx⟩,st',fun b hb=>(hf b hb).1⟩⟩
 done:=by
  intro X hP hw hK hc i pins s σ H E I hf st hg
  subst hP hw hK
  obtain⟨xs,hq,hx⟩:=hg
  obtain⟨its,rv,p,hz⟩:=I.tuple hq
  obtain⟨f0,f1,f2,f3,f4,f5⟩:=hf it (by simp)
  have hl:=rv.length
  exact wpAny_pyNext_tuple_end (I.ok.hd hc) st (show s.heap.IsTuple a its.toArray from p) (by simp;omega) fun h' eb=>⟨rfl,I.turned (t':=s.toks) (fun b o hb e=>eb b o hb e) f0 f1 f3 f4 f5⟩
 self:=fun _ _ _ _ _ st h=>wpAny_pyIter_tupleiter st h
theorem hV{P:Program}{w:World}{K:Fg}{tg:Expr}(it:Addr)(lo:Int)(n:Nat):Turn P w K tg (Itr lo n) [it] it (fun i h=>IsRangeIter h it (lo+(i:Nat)*1) ((n:Int)-(i:Nat)) 1) where
 mem:=by simp
 obj:=fun i h st b hb=>by
  have e:b=it:=by simpa using hb
  subst e
  exact⟨_,st,fun v z=>by
   have z':Data.fields _=Data.cell v:=z
   cases z'⟩
 keep:=fun i h h' st k=>k it (by simp) _ st
 item:=by
  intro X hP hw hK hc i pins s σ H E I hf st hg
  subst hP hw hK
  obtain⟨f0,f1,f2,f3,f4,f5⟩:=hf it (by simp)
  have W:=Walks.range (prog:=X.prog) (w:=X.w) (I.ok.hd hc) it lo 1 n
  refine W.item i s _ _ hg st fun v h' tk hv st' kk=>?_
  obtain⟨t,rfl⟩:=hv
  have I1:Inv X pins σ H { s with heap:=h',toks:=tk }:=I.turned (fun b o hb e=>kk b o (by simpa using hb) e) f0 f1 f3 f4 f5
  refine⟨_,rfl,ZX (s:={ s with heap:=h',toks:=tk }) (n:="range_iterator") st' rfl rfl (by decide) ⟨.int (lo+i),H,I1,⟨t,?_⟩,⟨rfl,rfl⟩,st',fun b hb=>(hf b hb).1⟩⟩
  rw[Int.mul_one]
 done:=by
  intro X hP hw hK hc i pins s σ H E I hf st hg
  subst hP hw hK
  obtain⟨f0,f1,f2,f3,f4,f5⟩:=hf it (by simp)
  exact wpAny_pyNext_range_end (I.ok.hd hc) st (by have:n<=i:=hg;omega) fun h' eb=>⟨rfl,I.turned (t':=s.toks) (fun b o hb e=>eb b o hb e) f0 f1 f3 f4 f5⟩
 self:=fun _ _ _ _ _ st h=>wpAny_pyIter_rangeiter st h
end L2
namespace L2
open PySem PySem.Spec PyProof.Rows
section
variable{X:Cx}{tg:Expr}
theorem XG{pins:List (Addr×Obj)}{σ:St}{H:Hp}{s:Shared}{R:It->Hp->Prop}{E:Value->Shared->Prop}{lo hi:Int}{t u v:Tok}{tk:Nat}(I:Inv X pins σ H s)(h1 : -(2 ^ 62)<=lo)(h2:lo<2 ^ 62)(h3 : -(2 ^ 62)<=hi)(h4:hi<2 ^ 62)(q:R (Itr lo (hi-lo).toNat) H):wpAny (model X.prog X.w) X.A (pyIter (.ref s.heap.objs.size)) (PIE X pins σ tg R) E { s with heap:=s.heap.push { cls:=.type "range",data:=.fields #[.int lo t,.int hi u,.int 1 v] },toks:=tk }:=by
 refine wpAny_pyIter_range (IsRange.new ..) (small_one h1 h2 h3 h4) ?_
 have I1:Inv X pins σ H { s with heap:=s.heap.push { cls:=.type "range",data:=.fields #[.int lo t,.int hi u,.int 1 v] },toks:=tk }:=I.kept fun b o e=>Heap.get?_push_of_some _ e
 refine⟨(s.heap.push { cls:=.type "range",data:=.fields #[.int lo t,.int hi u,.int 1 v] }).objs.size,[(s.heap.push { cls:=.type "range",data:=.fields #[.int lo t,.int hi u,.int 1 v] }).objs.size],_,_,H,rfl,
  I1.kept (t':=tk) fun b o e=>Heap.get?_push_of_some _ e,hV _ lo (hi-lo).toNat,?_,fun b hb=>?_,q⟩
 ·have e1:lo+((0:Nat):Int)*1=lo:=by simp
  have e2:(((hi-lo).toNat:Nat):Int)-((0:Nat):Int)=Builtin.Range.rangeSize lo hi 1:=by rw[rangeSize_one];split<;>omega
  show IsRangeIter _ _ (lo+((0:Nat):Int)*1) ((((hi-lo).toNat:Nat):Int)-((0:Nat):Int)) 1
  rw[e1,e2]
  exact Heap.get?_push_size _ rfl
 ·have e:b=(s.heap.push { cls:=.type "range",data:=.fields #[.int lo t,.int hi u,.int 1 v] }).objs.size:=by simpa using hb
  subst e
  exact I1.fpOk (Nat.le_refl _) (I1.hok.fresh (Nat.le_refl _))
noncomputable def zH0(ta:TA):TI:=fun σ H R=>ta σ H fun vs H1=>∃j:Int,vs=[.int j]/\-(2 ^ 62)<=j/\j<2 ^ 62/\R (Itr 0 j.toNat) H1
theorem p6{a:Expr}{ta:TA}{p pos:Pos}(hg:Gl X "range")(hm:X.mg "range" = none)(ha:PA X [a] ta)(hs:starEach [a] X.env=[(false,eval a X.env)]:=by rfl):PI X tg (.Call (.Name "range" p) [a] [] pos) (zH0 ta):=by
 intro pins s σ H R I h
 refine Call_ (bW I hg hm boot_range (PyProof.Rows.callWith_type1 (thn (ha pos pins s σ H _ I h) fun us s1 ⟨vs,H1,I1,r1,q1⟩=>?_) hs rfl))
 obtain⟨j,e,q1,q2,q⟩:=q1
 subst e
 cases r1 with
 |cons r rr=>
  cases rr
  obtain⟨t,rfl⟩:=r
  exact call_range_1 (XG I1 (by omega) (by omega) q1 q2 (by simpa using q))
noncomputable def zJO(wi:TI)(g:TG)(tb:TS):TS:=fun D σ H=>wi σ H fun J H1=>∃W:Nat->Nat->St->Hp->Prop,(∃m,W 0 m σ H1)/\∀i m σ H,W i m σ H ->
 (J.stop i H/\D.nx σ H)\/(J.go i H/\∃N:St->Hp->Prop,(∀σ' H',N σ' H'->∃m',m'<m/\W (i+1) m' σ' H')/\∀x H',J.yld i H x H'->g x σ H' fun σ2 H2=>tb { D with nx:=N,ct:=N,bk:=D.nx } σ2 H2)
noncomputable def dG(fp:List Addr)(h:Heap):List (Addr×Obj):=fp.filterMap fun b=>(h.get? b).map fun o=>(b,o)
theorem jE{fp:List Addr}{h:Heap}{b:Addr}{o:Obj}(hb:b∈fp)(e:h.get? b=some o):(b,o)∈dG fp h:=List.mem_filterMap.mpr ⟨b,hb,by rw[e];rfl⟩
theorem rD{fp:List Addr}{h:Heap}{p:Addr×Obj}(hp:p∈dG fp h):p.1∈fp/\h.get? p.1=some p.2:=by
 obtain⟨b,hb,e⟩:=List.mem_filterMap.mp hp
 cases q:h.get? b with
 |none=>rw[q] at e;cases e
 |some o=>
  rw[q] at e
  have e':(b,o)=p:=Option.some.inj e
  subst e'
  exact⟨hb,q⟩
theorem Inv.pinned{pins:List (Addr×Obj)}{σ:St}{H:Hp}{s:Shared}{fp:List Addr}(I:Inv X pins σ H s)(hf:∀b∈fp,QL X pins H b)(ho:∀b∈fp,∃o,s.heap.get? b=some o/\∀v,o.data≠.cell v):Inv X (pins++dG fp s.heap) σ H s:=
 I.pins_of fun p hp=>(List.mem_append.mp hp).elim (fun z=>I.pin p (List.mem_append_right _ z)) fun z=>by
  obtain⟨hb,e⟩:=rD z
  obtain⟨f0,f1,f2,_⟩:=hf p.1 hb
  obtain⟨o,e',d⟩:=ho p.1 hb
  rw[e] at e';cases e'
  exact⟨e,f0,f1,f2,d⟩
theorem Inv.unpinned{pins pl:List (Addr×Obj)}{σ:St}{H:Hp}{s:Shared}(I:Inv X (pins++pl) σ H s):Inv X pins σ H s:=I.pins_of fun p hp=>I.pin p (List.mem_append_right _ (List.mem_append_left _ hp))
theorem JW{iter:Expr}{body:List Stmt}{wi:TI}{g:TG}{tb:TS}{pos:Pos}(hp:PassesOwn (model X.prog X.w) X.A X.env X.xe)(hc:X.calm=true)(hi:PI X tg iter wi)(hg:PG X tg g)(hb:PSs X body tb)(hs:∀x,foldedSetIterable iter X.env x=pure x:=by intro _;rfl):PS X (.For tg iter body [] pos) (zJO wi g tb):=by
 intro pins s σ H D I h
 refine wpAny_For (thn (hi pins s σ H _ I h) fun v s1 h1=>thn h1 fun itv s2 h2=>?_) hs
 obtain⟨it,fp,tn,J,H2,e,I2,T,st2,f2,W,⟨m0,w0⟩,turn⟩:=h2
 subst e
 have stat:∀{H':Hp},(∀b∈fp,H' b=none)->∀b∈fp,QL X pins H' b:=fun hn b hb=>⟨hn b hb,(f2 b hb).2⟩
 refine codeAny_forLoop_any (fun n s'=>∃i σ' H',Inv X pins σ' H' s'/\tn i s'.heap/\(∀b∈fp,H' b=none)/\W i n σ' H') ?_ m0 ⟨0,σ,H2,I2,st2,fun b hb=>(f2 b hb).1,w0⟩
 rintro n s3 ⟨i,σ3,H3,I3,st3,fr3,w3⟩
 rcases turn i n σ3 H3 w3 with⟨stop,qn⟩|⟨go,N,hN,step⟩
 ·refine wpAny_passesOwn hp (thn (T.done X rfl rfl rfl hc i pins s3 σ3 H3 X.xe I3 (stat fr3) st3 stop) fun r s4 ⟨hr,I4⟩=>?_)
  subst hr
  exact wpAny_execs_nil ⟨σ3,H3,I4,qn⟩
 ·refine wpAny_passesOwn hp (thn (T.item X rfl rfl rfl hc i pins s3 σ3 H3 X.xe I3 (stat fr3) st3 go) fun r s4 ⟨u,hr,h4⟩=>?_)
  subst hr
  refine wpAny_passesOwn hp (thn h4 fun _ s5 ⟨x,H5,I5,r5,y5,st5,fr5⟩=>?_)
  have I5':=I5.pinned (stat fr5) (T.obj _ _ st5)
  refine wpAny_passesOwn hp (thn (hg _ s5 σ3 H5 x u _ I5' r5 (step x H5 y5)) fun _ s6 ⟨σ6,H6,I6,q6⟩=>?_)
  refine wpAny_passesOwn hp (thn (hb _ s6 σ6 H6 _ I6 q6) fun f s7 q7=>?_)
  have again:∀{σ7:St} {H7:Hp},Inv X (pins++dG fp s5.heap) σ7 H7 s7->N σ7 H7->∃m,m<n/\∃i σ' H',Inv X pins σ' H' s7/\tn i s7.heap/\(∀b∈fp,H' b=none)/\W i m σ' H':=fun {σ7 H7} I7 n7=>by
   obtain⟨m',hm,w7⟩:=hN σ7 H7 n7
   refine⟨m',hm,i+1,σ7,H7,I7.unpinned,T.keep _ _ _ st5 fun b hb o e=>(I7.pin (b,o) (List.mem_append_right _ (List.mem_append_right _ (jE hb e)))).1,fun b hb=>?_,w7⟩
   obtain⟨o,e,d⟩:=T.obj _ _ st5 b hb
   exact(I7.pin (b,o) (List.mem_append_right _ (List.mem_append_right _ (jE hb e)))).2.1
  cases f with
  |next=>obtain⟨σ7,H7,I7,n7⟩:=q7;exact again I7 n7
  |cont=>obtain⟨σ7,H7,I7,n7⟩:=q7;exact again I7 n7
  |brk=>obtain⟨σ7,H7,I7,q7⟩:=q7;exact⟨σ7,H7,I7.unpinned,q7⟩
  |ret v=>obtain⟨x7,σ7,H7,I7,r7,q7⟩:=q7;exact⟨x7,σ7,H7,I7.unpinned,r7,q7⟩
end
end L2
namespace L2
open PySem PySem.Spec PyProof.Rows
noncomputable abbrev R2:=V->V->Hp->VK->Prop
noncomputable def OpR(X:Cx)(f:Value->Value->Sem Value)(r:R2):Prop:=
 ∀(pins:List (Addr×Obj)) (s:Shared) (σ:St) (H:Hp) (x y:V) (v u:Value) (Q:VK),Inv X pins σ H s->RelV x v->RelV y u->r x y H Q ->
  wpAny (model X.prog X.w) X.A (f v u) (EP X pins σ Q) X.xe s
noncomputable def UnR(X:Cx)(f:Value->Sem Value)(r:V->Hp->VK->Prop):Prop:=
 ∀(pins:List (Addr×Obj)) (s:Shared) (σ:St) (H:Hp) (x:V) (v:Value) (Q:VK),Inv X pins σ H s->RelV x v->r x H Q ->
  wpAny (model X.prog X.w) X.A (f v) (EP X pins σ Q) X.xe s
noncomputable def CallR(X:Cx)(f:Value)(r:List V->Hp->VK->Prop):Prop:=
 ∀(pins:List (Addr×Obj)) (s:Shared) (σ:St) (H:Hp) (xs:List V) (us:List Value) (Q:VK),Inv X pins σ H s->Vals xs us->r xs H Q ->
  wpAny (model X.prog X.w) X.A (call f us) (EP X pins σ Q) X.xe s
noncomputable def zJ6(X:Cx)(r:V->Hp->(Bool->Hp->Prop)->Prop):Prop:=
 ∀(pins:List (Addr×Obj)) (s:Shared) (σ:St) (H:Hp) (x:V) (v:Value) (Q:Bool->Hp->Prop),Inv X pins σ H s->RelV x v->r x H Q ->
  wpAny (model X.prog X.w) X.A (truthy v) (TP X pins σ Q) X.xe s
noncomputable def tOp(r:R2)(ta tb:TE):TE:=fun σ H Q=>ta σ H fun x H1=>tb σ H1 fun y H2=>r x y H2 Q
noncomputable def tUn(r:V->Hp->VK->Prop)(ta:TE):TE:=fun σ H Q=>ta σ H fun x H1=>r x H1 Q
noncomputable def rI(C:Int->Int->Prop)(g:Int->Int->V):R2:=fun x y H Q=>∃i j,x=.int i/\y=.int j/\C i j/\Q (g i j) H
noncomputable def rI0(g:Int->Int->V):R2:=fun x y H Q=>∃i j,x=.int i/\y=.int j/\Q (g i j) H
noncomputable def rU(g:Int->V):V->Hp->VK->Prop:=fun x H Q=>∃i,x=.int i/\Q (g i) H
section
variable{X:Cx}{a b c:Expr}{ta tb tc:TE}{pos:Pos}
theorem zIQ(ha:PE X a ta)(hb:PE X b tb){pins:List (Addr×Obj)}{s:Shared}{σ:St}{H:Hp}{R:V->V->Hp->Prop}(I:Inv X pins σ H s)(h:ta σ H fun x H1=>tb σ H1 fun y H2=>R x y H2){Q:Value->Shared->Prop}{f:Value->Value->Sem Value}(hf:∀v u s2 x y H2,Inv X pins σ H2 s2->RelV x v->RelV y u->R x y H2->wpAny (model X.prog X.w) X.A (f v u) Q X.xe s2):wpAny (model X.prog X.w) X.A (eval a X.env) (fun v s₁=>wpAny (model X.prog X.w) X.A (eval b X.env) (fun u s₂=>wpAny (model X.prog X.w) X.A (f v u) Q X.xe s₂) X.xe s₁) X.xe s:=by
 refine thn (ha pins s σ H _ I h) fun v s1 ⟨x,H1,I1,r1,q1⟩=>?_
 refine thn (hb pins s1 σ H1 _ I1 q1) fun u s2 ⟨y,H2,I2,r2,q2⟩=>?_
 exact hf v u s2 x y H2 I2 r1 r2 q2
theorem zF2{op:Operator}{r:R2}(ho:OpR X (binaryOp op) r)(ha:PE X a ta)(hb:PE X b tb):PE X (.BinOp a op b pos) (tOp r ta tb):=by
 intro pins s σ H Q I h
 exact wpAny_BinOp (zIQ ha hb I h fun v u s2 x y H2 I2 rx ry q=>ho pins s2 σ H2 x y v u Q I2 rx ry q)
theorem zF1{op:UnaryOp}{r:V->Hp->VK->Prop}(ho:UnR X (unaryOp op) r)(ha:PE X a ta):PE X (.UnaryOp op a pos) (tUn r ta):=by
 intro pins s σ H Q I h
 exact UnaryOp_ (thn (ha pins s σ H _ I h) fun v s1 ⟨x,H1,I1,r1,q1⟩=>ho pins s1 σ H1 x v Q I1 r1 q1)
theorem opI{f:Value->Value->Sem Value}{C:Int->Int->Prop}{g:Int->Int->Int}(rule:∀(i j:Int) (t u:Tok) (s:Shared) (Q:Value->Shared->Prop) (E:Value->Shared->Prop),C i j->Q (.int (g i j) s.toks) { s with toks:=s.toks+1 }->wpAny (model X.prog X.w) X.A (f (.int i t) (.int j u)) Q E s):OpR X f (rI C fun i j=>.int (g i j)):=by
 intro pins s σ H x y v u Q I rx ry h
 obtain⟨i,j,rfl,rfl,hc,q⟩:=h
 obtain⟨t,rfl⟩:=rx
 obtain⟨t',rfl⟩:=ry
 exact rule i j t t' s _ _ hc ⟨.int (g i j),H,I.tok _,⟨_,rfl⟩,q⟩
theorem zI7{f:Value->Value->Sem Value}{g:Int->Int->Int}(rule:∀(i j:Int) (t u:Tok) (s:Shared) (Q:Value->Shared->Prop) (E:Value->Shared->Prop),Q (.int (g i j) s.toks) { s with toks:=s.toks+1 }->wpAny (model X.prog X.w) X.A (f (.int i t) (.int j u)) Q E s):OpR X f (rI0 fun i j=>.int (g i j)):=by
 intro pins s σ H x y v u Q I rx ry h
 obtain⟨i,j,rfl,rfl,q⟩:=h
 obtain⟨t,rfl⟩:=rx
 obtain⟨t',rfl⟩:=ry
 exact rule i j t t' s _ _ ⟨.int (g i j),H,I.tok _,⟨_,rfl⟩,q⟩
theorem zIK{f:Value->Value->Sem Value}{g:Int->Int->Bool}(rule:∀(i j:Int) (t u:Tok) (s:Shared) (Q:Value->Shared->Prop) (E:Value->Shared->Prop),Q (.bool (g i j)) s->wpAny (model X.prog X.w) X.A (f (.int i t) (.int j u)) Q E s):OpR X f (rI0 fun i j=>.bl (g i j)):=by
 intro pins s σ H x y v u Q I rx ry h
 obtain⟨i,j,rfl,rfl,q⟩:=h
 obtain⟨t,rfl⟩:=rx
 obtain⟨t',rfl⟩:=ry
 exact rule i j t t' s _ _ ⟨.bl (g i j),H,I,rfl,q⟩
noncomputable def zJH(i j:Int):Prop:=0<j/\j<1073741824
noncomputable def zJG(i j:Int):Prop:=0<=j/\j<=1000000/\i.natAbs<2 ^ 64
noncomputable def CMul(i j:Int):Prop:=(-(2 ^ 64)<i/\i<2 ^ 64)\/(-(2 ^ 64)<j/\j<2 ^ 64)
theorem CMul.ok{i j:Int}(h:CMul i j):IntMulOk i j:=by
 rcases h with⟨h1,h2⟩|⟨h1,h2⟩
 ·exact .of_left (intBits_le_64 h1 h2)
 ·exact .of_right (intBits_le_64 h1 h2)
theorem op_add:OpR X (binaryOp .Add) (rI0 fun i j=>.int (i+j)):=zI7 fun _ _ _ _ _ _ _ q=>add_int q
theorem v8:OpR X (binaryOp .Sub) (rI0 fun i j=>.int (i-j)):=zI7 fun _ _ _ _ _ _ _ q=>sub_int q
theorem mK:OpR X (binaryOp .Mult) (rI CMul fun i j=>.int (i*j)):=opI fun _ _ _ _ _ _ _ hc q=>mul_int q hc.ok
theorem dM:OpR X (binaryOp .FloorDiv) (rI zJH fun i j=>.int (i / j)):=opI fun i j _ _ _ _ _ hc q=>by
 have h1:(0:Int)<j:=hc.1
 have h2:j<1073741824:=hc.2
 exact floordiv_int (by omega) (by rw[Int.fdiv_eq_ediv_of_nonneg i (by omega)];exact q) (.inl (PyProof.noPylong_small (by omega)))
theorem xP:OpR X (binaryOp .Mod) (rI (fun _ j=>0<j) fun i j=>.int (i % j)):=opI fun i j _ _ _ _ _ hc q=>by
 have h1:(0:Int)<j:=hc
 exact mod_int' (by omega) (by rw[Int.fmod_eq_emod_of_nonneg i (by omega)];exact q)
theorem zEP:OpR X (binaryOp .Pow) (rI zJG fun i j=>.int (i ^ j.toNat)):=opI fun _ _ _ _ _ _ _ hc q=>pow_int_small hc.1 hc.2.1 hc.2.2 q
theorem unI{f:Value->Sem Value}{g:Int->Int}(rule:∀(i:Int) (t:Tok) (s:Shared) (Q:Value->Shared->Prop) (E:Value->Shared->Prop),Q (.int (g i) s.toks) { s with toks:=s.toks+1 }->wpAny (model X.prog X.w) X.A (f (.int i t)) Q E s):UnR X f (rU fun i=>.int (g i)):=by
 intro pins s σ H x v Q I rx h
 obtain⟨i,rfl,q⟩:=h
 obtain⟨t,rfl⟩:=rx
 exact rule i t s _ _ ⟨.int (g i),H,I.tok _,⟨_,rfl⟩,q⟩
theorem Q2:UnR X (unaryOp .USub) (rU fun i=>.int (-i)):=unI fun _ _ _ _ _ q=>neg_int q
end
noncomputable def zIJ:V->V->Bool
 |.non,.non=>true | .non,.int _=>true | .int _,.non=>true | .non,.bl _=>true | .bl _,.non=>true | .non,.str _=>true | .str _,.non=>true
 |.int _,.int _=>true | .bl _,.bl _=>true | .str _,.str _=>true | .byt _,.byt _=>true
 |.int _,.str _=>true | .str _,.int _=>true | .bl _,.str _=>true | .str _,.bl _=>true
 |_,_=>false
noncomputable def rEq:R2:=fun x y H Q=>zIJ x y=true/\Q (.bl (decide (x=y))) H
noncomputable def rNe:R2:=fun x y H Q=>zIJ x y=true/\Q (.bl (!decide (x=y))) H
theorem Z7{i j:Int}:decide (V.int i=V.int j)=(i == j):=by
 rw[Bool.eq_iff_iff]
 simp
theorem zCE{i j:Bool}:decide (V.bl i=V.bl j)=(i == j):=by
 rw[Bool.eq_iff_iff]
 simp
theorem Z6{i j:Str}:decide (V.str i=V.str j)=(i == j):=by
 rw[Bool.eq_iff_iff]
 simp
theorem Z8{i j:Array UInt8}:decide (V.byt i=V.byt j)=(i.toList == j.toList):=by
 rw[Bool.eq_iff_iff]
 cases i
 cases j
 simp
section
variable{X:Cx}{a b c:Expr}{ta tb tc:TE}{pos:Pos}
theorem yJ{pins:List (Addr×Obj)}{σ:St}{H:Hp}{s:Shared}{Q:VK}{k k':Bool}(I:Inv X pins σ H s)(q:Q (.bl k) H)(e:k=k'):EP X pins σ Q (.bool k') s:=by
 subst e
 exact⟨.bl k,H,I,rfl,q⟩
theorem zHN:OpR X (compareOp .Eq) rEq:=by
 intro pins s σ H x y v u Q I rx ry h
 obtain⟨hs,q⟩:=h
 cases x with
 |non=>
  cases rx
  cases y with
  |non=>cases ry;exact PySem.EqNone.eq_none_none (yJ I q (by simp))
  |bl j=>cases ry;exact PySem.EqNone.eq_none_bool (yJ I q (by simp))
  |int j=>obtain⟨t',rfl⟩:=ry;exact PySem.EqNone.eq_none_int (yJ I q (by simp))
  |str j=>obtain⟨t',rfl⟩:=ry;exact PySem.EqNone.eq_none_str (yJ I q (by simp))
  |_=>exact absurd (show false=true from hs) Bool.false_ne_true
 |bl i=>
  cases rx
  cases y with
  |non=>cases ry;exact PySem.EqNone.eq_bool_none (yJ I q (by simp))
  |bl j=>cases ry;exact eq_bool (yJ I q zCE)
  |str j=>obtain⟨t',rfl⟩:=ry;exact PySem.EqMixed.eq_bool_str (yJ I q (by simp))
  |_=>exact absurd (show false=true from hs) Bool.false_ne_true
 |int i=>
  obtain⟨t,rfl⟩:=rx
  cases y with
  |non=>cases ry;exact PySem.EqNone.eq_int_none (yJ I q (by simp))
  |int j=>obtain⟨t',rfl⟩:=ry;exact eq_int (yJ I q Z7)
  |str j=>obtain⟨t',rfl⟩:=ry;exact PySem.EqMixed.eq_int_str (yJ I q (by simp))
  |_=>exact absurd (show false=true from hs) Bool.false_ne_true
 |str i=>
  obtain⟨t,rfl⟩:=rx
  cases y with
  |non=>cases ry;exact PySem.EqNone.eq_str_none (yJ I q (by simp))
  |bl j=>cases ry;exact PySem.EqMixed.eq_str_bool (yJ I q (by simp))
  |int j=>obtain⟨t',rfl⟩:=ry;exact PySem.EqMixed.eq_str_int (yJ I q (by simp))
  |str j=>obtain⟨t',rfl⟩:=ry;exact eq_str (yJ I q Z6)
  |_=>exact absurd (show false=true from hs) Bool.false_ne_true
 |byt i=>
  obtain⟨t,rfl⟩:=rx
  cases y with
  |byt j=>obtain⟨t',rfl⟩:=ry;exact PySem.W.eq_bytes (yJ I q Z8)
  |_=>exact absurd (show false=true from hs) Bool.false_ne_true
 |_=>cases y<;>exact absurd (show false=true from hs) Bool.false_ne_true
theorem zHL:OpR X (compareOp .NotEq) rNe:=by
 intro pins s σ H x y v u Q I rx ry h
 obtain⟨hs,q⟩:=h
 cases x with
 |non=>
  cases rx
  cases y with
  |non=>cases ry;exact PySem.EqNone.ne_none_none (yJ I q (by simp))
  |bl j=>cases ry;exact PySem.EqNone.ne_none_bool (yJ I q (by simp))
  |int j=>obtain⟨t',rfl⟩:=ry;exact PySem.EqNone.ne_none_int (yJ I q (by simp))
  |str j=>obtain⟨t',rfl⟩:=ry;exact PySem.EqNone.ne_none_str (yJ I q (by simp))
  |_=>exact absurd (show false=true from hs) Bool.false_ne_true
 |bl i=>
  cases rx
  cases y with
  |non=>cases ry;exact PySem.EqNone.ne_bool_none (yJ I q (by simp))
  |bl j=>cases ry;exact ne_bool (yJ I q (congrArg not zCE))
  |str j=>obtain⟨t',rfl⟩:=ry;exact PySem.EqMixed.ne_bool_str (yJ I q (by simp))
  |_=>exact absurd (show false=true from hs) Bool.false_ne_true
 |int i=>
  obtain⟨t,rfl⟩:=rx
  cases y with
  |non=>cases ry;exact PySem.EqNone.ne_int_none (yJ I q (by simp))
  |int j=>obtain⟨t',rfl⟩:=ry;exact ne_int (yJ I q (congrArg not Z7))
  |str j=>obtain⟨t',rfl⟩:=ry;exact PySem.EqMixed.ne_int_str (yJ I q (by simp))
  |_=>exact absurd (show false=true from hs) Bool.false_ne_true
 |str i=>
  obtain⟨t,rfl⟩:=rx
  cases y with
  |non=>cases ry;exact PySem.EqNone.ne_str_none (yJ I q (by simp))
  |bl j=>cases ry;exact PySem.EqMixed.ne_str_bool (yJ I q (by simp))
  |int j=>obtain⟨t',rfl⟩:=ry;exact PySem.EqMixed.ne_str_int (yJ I q (by simp))
  |str j=>obtain⟨t',rfl⟩:=ry;exact ne_str (yJ I q (congrArg not Z6))
  |_=>exact absurd (show false=true from hs) Bool.false_ne_true
 |byt i=>
  obtain⟨t,rfl⟩:=rx
  cases y with
  |byt j=>obtain⟨t',rfl⟩:=ry;exact PySem.W.ne_bytes (yJ I q (congrArg not Z8))
  |_=>exact absurd (show false=true from hs) Bool.false_ne_true
 |_=>cases y<;>exact absurd (show false=true from hs) Bool.false_ne_true
theorem op_lt:OpR X (compareOp .Lt) (rI0 fun i j=>.bl (decide (i<j))):=zIK fun _ _ _ _ _ _ _ q=>lt_int q
theorem ZD:OpR X (compareOp .Gt) (rI0 fun i j=>.bl (decide (j<i))):=zIK fun _ _ _ _ _ _ _ q=>gt_int q
theorem zHM:OpR X (compareOp .GtE) (rI0 fun i j=>.bl (decide (j<=i))):=zIK fun _ _ _ _ _ _ _ q=>ge_int q
theorem OpR.or{f:Value->Value->Sem Value}{r r':R2}(h:OpR X f r)(h':OpR X f r'):OpR X f (fun x y H Q=>r x y H Q\/r' x y H Q):=by
 intro pins s σ H x y v u Q I rx ry q
 rcases q with q|q
 ·exact h pins s σ H x y v u Q I rx ry q
 ·exact h' pins s σ H x y v u Q I rx ry q
theorem yG(b:Expr){op:CmpOp}(h:op≠.In:=by decide)(h2:op≠.NotIn:=by decide):behindInMarks op b=false:=by
 have e1:(op == CmpOp.In)=false:=by cases op<;>first|rfl|exact absurd rfl h
 have e2:(op == CmpOp.NotIn)=false:=by cases op<;>first|rfl|exact absurd rfl h2
 cases b<;>simp[behindInMarks,e1,e2]
theorem zAB{op:CmpOp}{r:R2}(ho:OpR X (compareOp op) r)(ha:PE X a ta)(hb:PE X b tb)(hm:behindInMarks op b=false):PE X (.Compare a [op] [b] pos) (tOp r ta tb):=by
 intro pins s σ H Q I h
 exact wpAny_Compare1 (zIQ ha hb I h fun v u s2 x y H2 I2 rx ry q=>ho pins s2 σ H2 x y v u Q I2 rx ry q) hm
noncomputable def zG3(t:TE):TT:=fun σ H Q=>t σ H fun x H'=>∃k,x=.bl k/\Q k H'
theorem t8{op:CmpOp}{r:R2}(ho:OpR X (compareOp op) r)(ha:PE X a ta)(hb:PE X b tb)(hm:behindInMarks op b=false):PT X (.Compare a [op] [b] pos) (zG3 (tOp r ta tb)):=by
 intro pins s σ H Q I h
 refine wpAny_isTrue_Compare1 (thn (ha pins s σ H _ I h) fun v s1 ⟨x,H1,I1,r1,q1⟩=>thn (hb pins s1 σ H1 _ I1 q1) fun u s2 ⟨y,H2,I2,r2,q2⟩=>
  thn (ho pins s2 σ H2 x y v u _ I2 r1 r2 q2) fun c s3 ⟨z,H3,I3,r3,k,e,q3⟩=>?_) hm
 subst e
 cases r3
 exact wpAny_truthy_bool ⟨H3,I3,q3⟩
noncomputable def zIR(K:Fg)(x:V)(H:Hp)(k:Bool):Prop:=
 match x with
 |.non=>k=false
 |.bl b=>k=b
 |.int i=>k=(i != 0)
 |.str y=>y.length<=sizeLine/\k=((y.length:Int) != 0)
 |.byt y=>y.size<=sizeLine/\k=((y.size:Int) != 0)
 |.ref p=>(∃xs,SqL K H p xs/\k = !xs.isEmpty)\/(∃xs,SqT K H p xs/\k = !xs.isEmpty)\/∃kvs,H p=some (.dK kvs)/\k = !kvs.isEmpty
 |_=>False
theorem mT{κ:Type}{kvs:List (κ×V)}{vs:List (κ×Value)}(r:KV kvs vs):(!vs.isEmpty) = !kvs.isEmpty:=by
 cases r<;>rfl
theorem bG{xs:List V}{its:List Value}(r:Vals xs its):(!its.toArray.isEmpty) = !xs.isEmpty:=by
 cases r<;>simp
theorem d7:(sizeLine:Nat)<2 ^ 63:=by rw[sizeLine_eq];decide
theorem zDR:zJ6 X (fun x H Q=>∃k,zIR X.K x H k/\Q k H):=by
 intro pins s σ H x v Q I rx h
 obtain⟨k,e,q⟩:=h
 have hl:=d7
 have hs:sizeLine=16777216:=sizeLine_eq
 cases x with
 |non=>
  cases rx
  have e':k=false:=e
  subst e'
  exact truthy_none ⟨H,I,q⟩
 |bl b=>
  cases rx
  have e':k=b:=e
  subst e'
  exact wpAny_truthy_bool ⟨H,I,q⟩
 |int i=>
  obtain⟨t,rfl⟩:=rx
  have e':k=(i != 0):=e
  subst e'
  exact PySem.P.truthy_int ⟨H,I,q⟩
 |str y=>
  obtain⟨t,rfl⟩:=rx
  obtain⟨hy,e'⟩:y.length<=sizeLine/\k=((y.length:Int) != 0):=e
  subst e'
  exact PySem.P.truthy_str (by omega) ⟨H,I.tok _,q⟩
 |byt y=>
  obtain⟨t,rfl⟩:=rx
  obtain⟨hy,e'⟩:y.size<=sizeLine/\k=((y.size:Int) != 0):=e
  subst e'
  exact PySem.W.truthy_bytes (by omega) ⟨H,I.tok _,q⟩
 |ref p=>
  cases rx
  have e':(∃xs,SqL X.K H p xs/\k = !xs.isEmpty)\/(∃xs,SqT X.K H p xs/\k = !xs.isEmpty)\/∃kvs,H p=some (.dK kvs)/\k = !kvs.isEmpty:=e
  rcases e' with⟨xs,hx,e'⟩|⟨xs,hx,e'⟩|⟨kvs,hx,e'⟩
  ·subst e'
   obtain⟨its,r,pl,hz⟩:=I.list hx
   have hlen:=r.length
   exact wpAny_truthy_list pl.isList (by simp only[List.size_toArray];omega) ⟨H,I.tok _,by rw[bG r];exact q⟩
  ·subst e'
   obtain⟨its,r,pl,hz⟩:=I.tuple hx
   have hlen:=r.length
   exact truthy_tuple pl (by simp only[List.size_toArray];omega) ⟨H,I.tok _,by rw[bG r];exact q⟩
  ·subst e'
   obtain⟨hz,hS,vs,r,m⟩:kvs.length<=sizeLine/\(p == sysModules)=false/\∃vs,KV kvs vs/\s.heap.DictOf (yH X.prog X.w) p vs:=I.hok p _ hx
   have hlen:kvs.length=vs.length:=Paired.length r
   exact wpAny_truthy_dict hS m (by omega) ⟨H,I.tok _,by rw[mT r];exact q⟩
 |_=>exact(show False from e).elim
theorem cB(ha:PE X a ta)(he:∀whole,isTrue a X.env whole=(do let v <- whole;standAt a.pos;holding [v] (truthy v))):PT X a (fun σ H Q=>ta σ H fun x H'=>∃k,zIR X.K x H' k/\Q k H'):=by
 intro pins s σ H Q I h
 exact isTrue_plain (thn (ha pins s σ H _ I h) fun v s1 ⟨x,H1,I1,r1,q1⟩=>zDR pins s1 σ H1 x v Q I1 r1 q1) (he _)
theorem op_add_str:OpR X (binaryOp .Add) (fun x y H Q=>∃i j,x=.str i/\y=.str j/\i.length+j.length<=sizeLine/\Q (.str (i++j)) H):=by
 intro pins s σ H x y v u Q I rx ry h
 obtain⟨i,j,rfl,rfl,hz,q⟩:=h
 obtain⟨t,rfl⟩:=rx
 obtain⟨t',rfl⟩:=ry
 exact add_str (fun t' tk=>⟨.str (i++j),H,I.tok _,⟨_,rfl⟩,q⟩) hz
theorem W1{x:V}{us:List Value}(r:Vals [x] us):∃u,us=[u]/\RelV x u:=by
 cases r with
 |cons r1 r2=>cases r2;exact⟨_,rfl,r1⟩
theorem zGY{x y:V}{us:List Value}(r:Vals [x,y] us):∃u w',us=[u,w']/\RelV x u/\RelV y w':=by
 cases r with
 |cons r1 r2=>
  cases r2 with
  |cons r3 r4=>cases r4;exact⟨_,_,rfl,r1,r3⟩
theorem tL(hc:X.calm=true):CallR X (.builtin "max") (fun xs H Q=>∃i j,xs=[.int i,.int j]/\Q (.int (if j > i then j else i)) H):=by
 intro pins s σ H xs us Q I r h
 obtain⟨i,j,rfl,q⟩:=h
 obtain⟨u,w',rfl,⟨t,rfl⟩,⟨t',rfl⟩⟩:=zGY r
 refine max_two_ints (I.ok.hd hc) fun h' tk k=>⟨_,H,I.kept k,?_,q⟩
 by_cases hj:j > i
 ·rw[if_pos hj,if_pos hj];exact⟨_,rfl⟩
 ·rw[if_neg hj,if_neg hj];exact⟨_,rfl⟩
end
end L2
namespace L2
open PySem PySem.Spec PyProof.Rows
structure ObjM(h:Heap)(x dx C:Addr)(mA:Str->Option Value):Prop where
 obj:h.get? x=some (PySem.W.instObj C dx)
 ns:h.Ns1 dx mA
 ne:dx≠x
theorem rM{h:Heap}{dx:Addr}{mA:Str->Option Value}(n:h.Ns1 dx mA):∃od,h.get? dx=some od/\∀name,PySem.W.lookIn name od=some (mA name):=by
 obtain⟨o,es,ep,ho,hd,hk,_,hm⟩:=n
 refine⟨o,ho,fun name=>?_⟩
 have e:=hm name
 unfold nsFind findBy at e
 rw[<-Array.find?_toList] at e
 unfold PySem.W.lookIn
 rw[hd]
 dsimp only
 split
 ·rename_i y q
  rw[q] at e
  exact congrArg some e
 ·rename_i q
  rw[q] at e
  have a:es.toList.any (·.refKey)=false:=by
   rw[List.any_eq_false]
   intro y hy
   obtain⟨z,t,hkey⟩:=hk y (Array.mem_toList_iff.mp hy)
   simp[DictEntry.refKey,hkey]
  have a':¬es.toList.any (·.refKey)=true:=by rw[a];exact Bool.false_ne_true
  rw[if_neg a']
  exact congrArg some e
theorem ObjM.look{h:Heap}{x dx C:Addr}{mA:Str->Option Value}(I:ObjM h x dx C mA):∃od,PySem.W.InstAt h x (PySem.W.instObj C dx) C (some od)/\∀name,PySem.W.lookIn name od=some (mA name):=
 let ⟨od,ho,hl⟩:=rM I.ns
 ⟨od,⟨I.obj,rfl,rfl,ho⟩,hl⟩
section
variable{prog:Program}{w:World}{A:Around}{E:Value->Shared->Prop}{s:Shared}{K:Fg}{x dx C f:Addr}{mA:Str->Option Value}{name:Str}{v:Value}
theorem zBP{expr:Bool}{Q:Value->Shared->Prop}(X:K.In s.heap)(I:ObjM s.heap x dx C mA)(hg:PySem.W.plainGet K C name=true)(hh:PySem.W.hasDictIn K C=true)(ha:PySem.W.findIn K (.ref C) name=some none)(hv:mA name=some v)(hv':PySem.W.handedIn v=true)(h:Q v { s with toks:=s.toks+1 }):wpAny (model prog w) A (getAttr (.ref x) name expr) Q E s:=by
 obtain⟨od,J,hl⟩:=I.look
 exact PySem.W.get_value X J (PySem.W.plainGet_of hg).1 (PySem.W.findObj_own hh ha rfl (by rw[hl,hv])) hv' h
theorem WO{pl:Sem Bool}{Q:Value×List Value->Shared->Prop}(X:K.In s.heap)(I:ObjM s.heap x dx C mA)(hg:PySem.W.plainGet K C name=true)(hf:PySem.W.findIn K (.ref C) name=some (some (.ref f)))(ht:PySem.W.isFn K (.ref f)=true)(hv:mA name=none)(h:Q (.ref f,[.ref x]) s):wpAny (model prog w) A (getMethod (.ref x) name pl) Q E s:=by
 obtain⟨od,J,hl⟩:=I.look
 exact PySem.W.method_fn X J (PySem.W.plainGet_of hg).1 (PySem.W.plainGet_of hg).2 hf (beq_iff_eq.mp ht) (by show(PySem.W.lookIn name od).map (·.isSome)=some false;rw[hl,hv];rfl) h
theorem JH{ns:List Str}{Q:Unit->Shared->Prop}(X:K.In s.heap)(I:ObjM s.heap x dx C mA)(hs:PySem.W.findIn K (.ref C) "__setattr__" = some (some (.builtin "object.__setattr__")))(hp:PySem.W.plainOver K C=true)(ht:PySem.W.takerIn K C name=some none)(hh:PySem.W.hasDictIn K C=true)(hw:PySem.Within mA ns)(hsz:ns.length<=sizeLine)(h:∀h',ObjM h' x dx C (fun y=>if y=name then some v else mA y)->Heap.SameBut dx s.heap h'->Q () { s with heap:=h',toks:=s.toks+2 }):wpAny (model prog w) A (setAttr (.ref x) name v) Q E s:=by
 obtain⟨od,J,hl⟩:=I.look
 refine PySem.W.set_plain X J hs (PySem.W.osa_open (s:={ s with toks:=s.toks+1 }) (r:=none) X J hp ht fun b=>?_)
 obtain⟨cd,hc,hd'⟩:=PySem.W.any_some hh
 have hx:s.heap.get? x=some ⟨.ref C,some dx,.plain,#[]⟩:=I.obj
 refine wpAny_bind (wpAny_pure (wpAny_bind (wpAny_bind (wpAny_loadPart hx (wpAny_bind (PySem.W.Looks.here (s:={ s with toks:=s.toks+1 }) (PySem.W.looks_clsIn X hc) ?_))))))
 rw[hd']
 refine wpAny_pure (a:=some dx) (wpAny_bind (wpAny_pure (wpAny_bind ?_)))
 refine wpAny_nsSet1 (s:={ s with toks:=s.toks+1 }) I.ns fun h' hn2 hs2=>?_
 obtain⟨oD,esD,epD,hoD,hdD,hcD⟩:=hn2.count (PySem.Within.cons name v hw)
 refine wpAny_bind (wpAny_lookBehind hoD (by rw[hdD];exact pastItsLine_dict (Nat.le_trans hcD (by rw[List.length_cons];omega))) ?_)
 exact wpAny_pure (h _ ⟨(hs2.2 _ (Ne.symm I.ne)).trans I.obj,hn2,I.ne⟩ hs2)
theorem WC{R:Result->Shared->Prop}{vs:List Value}{kw:List (Str×Value)}(X:K.In s.heap)(hm:PySem.W.makesIn K C=true)(hi:PySem.W.findIn K (.ref C) "__init__" = some (some (.ref f)))(hf:PySem.W.typeIn K (.ref f)=some (.type "function"))(h:codeAny (model prog w) (A.under (.builtin "type.__call__" ⟨.ref C::vs,kw⟩)) (.call (.ref f) ⟨.ref (s.heap.objs.size+1)::vs,kw⟩) (PySem.W.InitBack (s.heap.objs.size+1) R)
   { s with heap:=(s.heap.push PySem.W.emptyDict).push (PySem.W.instObj C s.heap.objs.size) }):codeAny (model prog w) A (.call (.ref C) ⟨vs,kw⟩) R s:=by
 obtain⟨hh,g,d,t,os⟩:=s
 exact PySem.W.make_core (PySem.W.makes_of X hm) (PySem.W.looks_findIn X hi) (fun self=>PySem.W.bind_fn X self hf) (.inl rfl) h
end
noncomputable def o6(f:Str)(v:V):List (Str×V)->List (Str×V)
 |[]=>[(f,v)]
 |(g,x)::r=>if g=f then (g,v)::r else (g,x)::o6 f v r
theorem vE(f g:Str)(v:V):∀fs:List (Str×V),(o6 f v fs).lookup g=if g=f then some v else fs.lookup g
 |[]=>by
  show List.lookup g [(f,v)]=_
  by_cases h:g=f
  ·have hb:(g == f)=true:=beq_iff_eq.mpr h
   simp only[List.lookup,hb,if_pos h]
  ·have hb:(g == f)=false:=beq_eq_false_iff_ne.mpr h
   simp only[List.lookup,hb,if_neg h]
 |(k,x)::r=>by
  have ih:=vE f g v r
  rw[show o6 f v ((k,x)::r)=(if k=f then (k,v)::r else (k,x)::o6 f v r) from rfl]
  by_cases hk:k=f
  ·rw[if_pos hk]
   by_cases h:g=k
   ·have hb:(g == k)=true:=beq_iff_eq.mpr h
    simp only[List.lookup,hb,if_pos (h.trans hk)]
   ·have hb:(g == k)=false:=beq_eq_false_iff_ne.mpr h
    simp only[List.lookup,hb,if_neg (fun e:g=f=>h (e.trans hk.symm))]
  ·rw[if_neg hk]
   by_cases h:g=k
   ·have hb:(g == k)=true:=beq_iff_eq.mpr h
    simp only[List.lookup,hb,if_neg (fun e:g=f=>hk (h.symm.trans e))]
   ·have hb:(g == k)=false:=beq_eq_false_iff_ne.mpr h
    simp only[List.lookup,hb]
    exact ih
theorem uG(f:Str)(v:V):∀fs:List (Str×V),f∈(o6 f v fs).map (·.1)/\∀g,g∈fs.map (·.1)->g∈(o6 f v fs).map (·.1)
 |[]=>⟨by simp[o6],fun g h=>by simp at h⟩
 |(k,x)::r=>by
  obtain⟨i1,i2⟩:=uG f v r
  rw[show o6 f v ((k,x)::r)=(if k=f then (k,v)::r else (k,x)::o6 f v r) from rfl]
  by_cases hk:k=f
  ·rw[if_pos hk]
   subst hk
   exact⟨by simp,fun g h=>by simpa using h⟩
  ·rw[if_neg hk]
   refine⟨?_,fun g h=>?_⟩
   ·rw[List.map_cons]
    exact List.mem_cons_of_mem _ i1
   ·rw[List.map_cons] at h ⊢
    rcases List.mem_cons.mp h with e|e
    ·exact List.mem_cons.mpr (.inl e)
    ·exact List.mem_cons_of_mem _ (i2 g e)
theorem vF(f:Str)(v:V):∀fs:List (Str×V),(o6 f v fs).length<=fs.length+1
 |[]=>by simp[o6]
 |(k,x)::r=>by
  have ih:=vF f v r
  rw[show o6 f v ((k,x)::r)=(if k=f then (k,v)::r else (k,x)::o6 f v r) from rfl]
  by_cases hk:k=f
  ·rw[if_pos hk,List.length_cons,List.length_cons];omega
  ·rw[if_neg hk,List.length_cons,List.length_cons];omega
theorem RelO.some_of{v:V}{o:Option Value}(r:RelO (some v) o):∃u,o=some u/\RelV v u:=by
 cases o with
 |none=>exact(show False from r).elim
 |some u=>exact⟨u,rfl,r⟩
theorem RelO.none_of{o:Option Value}(r:RelO none o):o=none:=by
 cases o with
 |none=>rfl
 |some u=>exact(show False from r).elim
theorem rW{v:V}{u:Value}(r:RelV v u):PySem.W.handedIn u=true:=by
 cases v with
 |non=>cases (show u=Value.none from r);rfl
 |bl b=>cases (show u=Value.bool b from r);rfl
 |int i=>obtain⟨t,e⟩:=(show ∃t,u=Value.int i t from r);cases e;rfl
 |str x=>obtain⟨t,e⟩:=(show ∃t,u=Value.str x t from r);cases e;rfl
 |byt b=>obtain⟨t,e⟩:=(show ∃t,u=Value.bytes b t from r);cases e;rfl
 |flt b=>obtain⟨t,e⟩:=(show ∃t,u=Value.float b t from r);cases e;rfl
 |ref a=>cases (show u=Value.ref a from r);rfl
 |ty n=>cases (show u=Value.type n from r);rfl
section
variable{P:Program}{w:World}{H H':Hp}{h h':Heap}{a C dx:Addr}{fs fs':List (Str×V)}
theorem gB(hok:HOk P w H h)(e:H a=some (.ins C dx fs)):∃mA,ObjM h a dx C mA/\(∀f,RelO (fs.lookup f) (mA f))/\PySem.Within mA (fs.map (·.1))/\fs.length<=1000/\H dx=some (.own a):=by
 obtain⟨d,z,ne,ob,mA,n,r,q⟩:=(show ObjOk P w H h a (.ins C dx fs) from hok a _ e)
 exact⟨mA,⟨ob,n,ne⟩,r,q,z,d⟩
end
structure Cls(K:Fg)(C:Addr):Prop where
 pg:PySem.W.plainGet K C Str.empty=true
 hd:PySem.W.hasDictIn K C=true
 po:PySem.W.plainOver K C=true
 sa:PySem.W.findIn K (.ref C) "__setattr__" = some (some (.builtin "object.__setattr__"))
theorem Cls.get{K:Fg}{C:Addr}(c:Cls K C)(f:Str):PySem.W.plainGet K C f=true:=c.pg
noncomputable def NoAttr(K:Fg)(C:Addr)(f:Str):Prop:=PySem.W.findIn K (.ref C) f=some none
theorem NoAttr.taker{K:Fg}{C:Addr}{f:Str}(n:NoAttr K C f):PySem.W.takerIn K C f=some none:=by
 unfold PySem.W.takerIn
 rw[show PySem.W.findIn K (.ref C) f=some none from n]
 rfl
structure Meth(K:Fg)(C:Addr)(m:Str)(f:Addr):Prop where
 at_:PySem.W.findIn K (.ref C) m=some (some (.ref f))
 fn:PySem.W.isFn K (.ref f)=true
 kp:PySem.W.keepIn K (.ref f)=true
section
variable{X:Cx}{pins:List (Addr×Obj)}{σ:St}{H:Hp}{s:Shared}{a C dx:Addr}{fs:List (Str×V)}{f:Str}{v:V}{A:Around}{E:Value->Shared->Prop}
theorem bI{b:Bool}{Q:Value->Shared->Prop}(I:Inv X pins σ H s)(e:H a=some (.ins C dx fs))(c:Cls X.K C)(n:NoAttr X.K C f)(l:fs.lookup f=some v)(h:∀u s',Inv X pins σ H s'->RelV v u->Q u s'):wpAny (model X.prog X.w) A (getAttr (.ref a) f b) Q E s:=by
 obtain⟨mA,O,r,_,_,_⟩:=gB I.hok e
 obtain⟨u,hu,ru⟩:=RelO.some_of (v:=v) (o:=mA f) (by rw[<-l];exact r f)
 exact zBP I.kIn O (c.get f) c.hd n hu (rW ru) (h u _ (I.tok _) ru)
theorem bH{m:Str}{g:Addr}{pl:Sem Bool}{Q:Value×List Value->Shared->Prop}(I:Inv X pins σ H s)(e:H a=some (.ins C dx fs))(c:Cls X.K C)(k:Meth X.K C m g)(l:fs.lookup m=none)(h:Q (.ref g,[.ref a]) s):wpAny (model X.prog X.w) A (getMethod (.ref a) m pl) Q E s:=by
 obtain⟨mA,O,r,_,_,_⟩:=gB I.hok e
 have hn:mA m=none:=RelO.none_of (by rw[<-l];exact r m)
 exact WO I.kIn O (c.get m) k.at_ k.fn hn h
theorem u6{y:V}{u:Value}{Q:Unit->Shared->Prop}(I:Inv X pins σ H s)(e:H a=some (.ins C dx fs))(c:Cls X.K C)(n:NoAttr X.K C f)(hl:fs.length<1000)(ry:RelV y u)(h:∀s',Inv X pins σ (upd H a (.ins C dx (o6 f y fs))) s'->Q () s'):wpAny (model X.prog X.w) A (setAttr (.ref a) f u) Q E s:=by
 obtain⟨mA,O,r,wi,_,ho⟩:=gB I.hok e
 have hz:(fs.map (·.1)).length<=sizeLine:=by rw[List.length_map,sizeLine_eq];omega
 refine JH I.kIn O c.sa c.po n.taker c.hd wi hz fun h' O' sb=>h _ ?_
 have hd:∃o,h'.get? dx=some o:=let ⟨o,_,_,e',_⟩:=O'.ns;⟨o,e'⟩
 refine I.write (x:=a) (e:=dx) (by rw[e];exact True.intro) (.inr ho) (fun b q hb z=>(sb.2 b hb).trans z) hd ?_
 refine⟨by rw[zI O.ne];exact ho,?_,O.ne,O'.obj,_,O'.ns,fun g=>?_,fun g hg=>?_⟩
 ·have:=vF f y fs;omega
 ·show RelO ((o6 f y fs).lookup g) (if g=f then some u else mA g)
  rw[vE]
  by_cases q:g=f
  ·rw[if_pos q,if_pos q];exact ry
  ·rw[if_neg q,if_neg q];exact r g
 ·by_cases q:g=f
  ·rw[q];exact(uG f y fs).1
  ·refine(uG f y fs).2 g (wi g fun z=>hg ?_)
   show(if g=f then some u else mA g)=none
   rw[if_neg q];exact z
theorem Inv.made(I:Inv X pins σ H s):Inv X pins σ (upd (upd H s.heap.objs.size (.own (s.heap.objs.size+1))) (s.heap.objs.size+1) (.ins C s.heap.objs.size []))
  { s with heap:=(s.heap.push PySem.W.emptyDict).push (PySem.W.instObj C s.heap.objs.size) }:=by
 have e1:(s.heap.push PySem.W.emptyDict).get? s.heap.objs.size=some PySem.W.emptyDict:=Heap.get?_push_size s.heap rfl
 have e2:((s.heap.push PySem.W.emptyDict).push (PySem.W.instObj C s.heap.objs.size)).get? (s.heap.objs.size+1)=some (PySem.W.instObj C s.heap.objs.size):=by
  have:=Heap.get?_push_size (s.heap.push PySem.W.emptyDict) (o:=PySem.W.instObj C s.heap.objs.size) rfl
  rwa [Heap.size_push] at this
 have e3:(s.heap.push PySem.W.emptyDict).Ns s.heap.objs.size (fun _=>none):=⟨PySem.W.emptyDict,#[],_,e1,rfl,(fun e he=>absurd he (by simp)),fun _=>rfl⟩
 have I1:=I.laid (a:=s.heap.objs.size) (o:=.own (s.heap.objs.size+1)) (h':=s.heap.push PySem.W.emptyDict) (t':=s.toks) (fun b u q=>Heap.get?_push_of_some _ q) (Nat.le_refl _) ⟨_,e1⟩
 refine I1.laid (a:=s.heap.objs.size+1) (o:=.ins C s.heap.objs.size []) (t':=s.toks) (fun b u q=>Heap.get?_push_of_some _ q) (Nat.le_of_eq (Heap.size_push _ _)) ?_
 have ne:s.heap.objs.size≠s.heap.objs.size+1:=Nat.ne_of_lt (Nat.lt_succ_self _)
 refine⟨by rw[zI ne,zK],Nat.zero_le _,ne,e2,fun _=>none,(Heap.Ns1.of_empty e3).at fun o q=>Heap.get?_push_of_some _ q,fun _=>True.intro,fun y hy=>absurd rfl hy⟩
theorem zCR{prog:Program}{w:World}{env:Env}{e:Expr}{f:Str}{pos:Pos}{s:Shared}{Q:Value->Shared->Prop}(hb:attributeBase e f env (eval e env)=eval e env)(h:wpAny (model prog w) A (eval e env) (fun o s₁=>wpAny (model prog w) A (getAttr o f true) Q E s₁) E s):wpAny (model prog w) A (eval (.Attribute e f pos) env) Q E s:=
 Attribute_any_ h (by rw[arm_eval_Attribute,hb])
end
noncomputable def zIU(K:Fg)(ta:TE)(f:Str):TE:=fun σ H Q=>ta σ H fun x H1=>∃a C dx fs v,x=.ref a/\H1 a=some (.ins C dx fs)/\Cls K C/\NoAttr K C f/\fs.lookup f=some v/\Q v H1
noncomputable def zD1(K:Fg)(ta tv:TE)(f:Str):TS:=fun D σ H=>tv σ H fun y H1=>ta σ H1 fun x H2=>∃a C dx fs,x=.ref a/\H2 a=some (.ins C dx fs)/\Cls K C/\NoAttr K C f/\fs.length<1000 /\
 D.nx σ (upd H2 a (.ins C dx (o6 f y fs)))
noncomputable def zJF(X:Cx)(op:Operator)(rd:V->V->Hp->VK->Prop):Prop:=
 ∀(pins:List (Addr×Obj)) (s:Shared) (σ:St) (H:Hp) (x y:V) (u v:Value) (Q:VK),Inv X pins σ H s->RelV x u->RelV y v->rd x y H Q->wpAny (model X.prog X.w) X.A (inplaceOp op u v) (EP X pins σ Q) X.xe s
noncomputable def JL(K:Fg)(ta tv:TE)(rd:V->V->Hp->VK->Prop)(f:Str):TS:=fun D σ H=>ta σ H fun x H1=>∃a C dx fs v,x=.ref a/\H1 a=some (.ins C dx fs)/\Cls K C/\NoAttr K C f/\fs.lookup f=some v /\
 tv σ H1 fun y H2=>rd v y H2 fun z H3=>∃dx' fs',H3 a=some (.ins C dx' fs')/\fs'.length<1000/\D.nx σ (upd H3 a (.ins C dx' (o6 f z fs')))
section
variable{X:Cx}{o e value:Expr}{f:Str}{pos pos' tpos:Pos}{ta tv:TE}
theorem v6(he:PE X e ta)(hb:attributeBase e f X.env (eval e X.env)=eval e X.env):PE X (.Attribute e f pos) (zIU X.K ta f):=by
 intro pins s σ H Q I h
 refine zCR hb (thn (he pins s σ H _ I h) fun u s1 ⟨x,H1,I1,rx,a,C,dx,fs,v,ex,ea,c,n,l,q⟩=>?_)
 subst ex
 obtain rfl:u=Value.ref a:=rx
 exact bI I1 ea c n l fun u' s2 I2 ru=>⟨v,H1,I2,ru,q⟩
theorem bT(ha:PE X o ta)(hv:PE X value tv)(hs:swapsWith value (some (.Attribute o f pos')) pos.line X.env=pure false):PS X (.Assign [.Attribute o f pos'] value pos) (zD1 X.K ta tv f):=by
 intro pins s σ H D I h
 refine plainObj_wpAny_Assign_Attribute (thn (hv pins s σ H _ I h) fun u s1 ⟨y,H1,I1,ry,q⟩=>thn (ha pins s1 σ H1 _ I1 q) fun ov s2 ⟨x,H2,I2,rx,a,C,dx,fs,ex,ea,c,n,l,q2⟩=>?_) hs
 subst ex
 obtain rfl:ov=Value.ref a:=rx
 exact u6 I2 ea c n l ry fun s3 I3=>⟨σ,_,I3,q2⟩
theorem pY{op:Operator}{rd:V->V->Hp->VK->Prop}(ha:PE X o ta)(hv:PE X value tv)(hop:zJF X op rd):PS X (.AugAssign (.Attribute o f tpos) op value pos) (JL X.K ta tv rd f):=by
 intro pins s σ H D I h
 refine wpAny_AugAssign_AttributeAny (thn (ha pins s σ H _ I h) fun ov s1 ⟨x,H1,I1,rx,a,C,dx,fs,v,ex,ea,c,n,l,q⟩=>?_)
 subst ex
 obtain rfl:ov=Value.ref a:=rx
 refine bI I1 ea c n l fun u s2 I2 ru=>thn (hv pins s2 σ H1 _ I2 q) fun w3 s3 ⟨y,H2,I3,ry,q3⟩=>thn (hop pins s3 σ H2 v y u w3 _ I3 ru ry q3) fun w4 s4 ⟨z,H3,I4,rz,dx',fs',ea',l',q4⟩=>?_
 exact u6 I4 ea' c n l' rz fun s5 I5=>⟨σ,_,I5,q4⟩
noncomputable def zJT:V->V->Hp->VK->Prop:=fun x y H Q=>∃i j,x=.int i/\y=.int j/\Q (.int (i+j)) H
theorem zFD:zJF X .Add zJT:=by
 rintro pins s σ H x y u v Q I rx ry ⟨i,j,rfl,rfl,q⟩
 obtain⟨t,rfl⟩:=(show ∃t,u=Value.int i t from rx)
 obtain⟨t',rfl⟩:=(show ∃t',v=Value.int j t' from ry)
 exact PyProof.Rows.iadd_int ⟨.int (i+j),H,I.tok _,⟨_,rfl⟩,q⟩
end
section
variable{X:Cx}{pins:List (Addr×Obj)}{σ:St}{H:Hp}{s:Shared}{A:Around}{E:Value->Shared->Prop}{Q:Value->Shared->Prop}{c:Value}{b:Bool}
inductive TyOf (K:Fg) (H:Hp):V->Value->Prop where
 |non:TyOf K H .non (.type "NoneType")
 |bl (x:Bool):TyOf K H (.bl x) (.type "bool")
 |int (i:Int):TyOf K H (.int i) (.type "int")
 |str (x:Str):TyOf K H (.str x) (.type "str")
 |flt (x:UInt64):TyOf K H (.flt x) (.type "float")
 |lst {a:Addr} {xs:List V} (e:H a=some (.lst xs)):TyOf K H (.ref a) (.type "list")
 |frz {a:Addr} {o:Obj} {xs:List V} (e:H a=some (.frz o (.lst xs))):TyOf K H (.ref a) (.type "list")
 |tup {a:Addr} {xs:List V} (e:H a=some (.tup xs)):TyOf K H (.ref a) (.type "tuple")
 |dK {a:Addr} {kvs:List (Key×V)} (e:H a=some (.dK kvs)):TyOf K H (.ref a) (.type "dict")
 |dT {a:Addr} {kvs:List (List Key×V)} (e:H a=some (.dT kvs)):TyOf K H (.ref a) (.type "dict")
 |ins {a C dx:Addr} {fs:List (Str×V)} (e:H a=some (.ins C dx fs)) (cl:Cls K C) (ha:PySem.W.findIn K (.ref C) "__class__" = some (some (.builtin "object.__class__")))
   (hn:PySem.W.specialIn K (.builtin "object.__class__") "__get__" = some (some (.builtin "getset_descriptor.__get__"))) (htk:PySem.W.takesIn K (.builtin "object.__class__")=some true)
   (hm:PySem.W.mroIn K C (.type "object")=some true):TyOf K H (.ref a) (.ref C)
theorem j9{x:V}{u t:Value}(I:Inv X pins σ H s)(rx:RelV x u)(ty:TyOf X.K H x t)(e:PySem.W.kitOne X.K t c=some b)(h:∀tk,Q (.bool b) { s with toks:=tk }):wpAny (model X.prog X.w) A (call (.builtin "isinstance") [u,c]) Q E s:=by
 cases ty with
 |non=>cases (show u=Value.none from rx);exact PySem.W.kia_one PySem.W.kitx_none I.kIn True.intro e (fun z=>nomatch z) h
 |bl y=>cases (show u=Value.bool y from rx);exact PySem.W.kia_one PySem.W.kitx_bool I.kIn True.intro e (fun z=>nomatch z) h
 |int i=>obtain⟨t,q⟩:=(show ∃t,u=Value.int i t from rx);cases q;exact PySem.W.kia_one PySem.W.kitx_int I.kIn True.intro e (fun z=>nomatch z) h
 |str y=>obtain⟨t,q⟩:=(show ∃t,u=Value.str y t from rx);cases q;exact PySem.W.kia_one PySem.W.kitx_str I.kIn True.intro e (fun z=>nomatch z) h
 |flt y=>obtain⟨t,q⟩:=(show ∃t,u=Value.float y t from rx);cases q;exact PySem.W.kia_one PySem.W.kitx_float I.kIn True.intro e (fun z=>nomatch z) h
 |@lst a xs ea=>
  cases (show u=Value.ref a from rx)
  obtain⟨_,_,n,_,h1⟩:=(show ObjOk X.prog X.w H s.heap a (.lst xs) from I.hok a _ ea)
  exact PySem.W.kia_one PySem.W.kitx_list I.kIn ⟨_,h1,rfl⟩ e (fun z=>nomatch z) h
 |@frz a ob xs ea=>
  cases (show u=Value.ref a from rx)
  obtain⟨_,_,_,n,_,h1⟩:=(show ObjOk X.prog X.w H s.heap a (.frz ob (.lst xs)) from I.hok a _ ea)
  exact PySem.W.kia_one PySem.W.kitx_list I.kIn ⟨_,h1,rfl⟩ e (fun z=>nomatch z) h
 |@tup a xs ea=>
  cases (show u=Value.ref a from rx)
  obtain⟨_,_,_,p⟩:=(show ObjOk X.prog X.w H s.heap a (.tup xs) from I.hok a _ ea)
  obtain⟨o,h1,h2,_⟩:=p
  exact PySem.W.kia_one PySem.W.kitx_tuple I.kIn ⟨o,h1,h2⟩ e (fun z=>nomatch z) h
 |@dK a kvs ea=>
  cases (show u=Value.ref a from rx)
  obtain⟨_,_,vs,_,p⟩:=(show ObjOk X.prog X.w H s.heap a (.dK kvs) from I.hok a _ ea)
  obtain⟨o,es,ep,h1,h2,_⟩:=p
  exact PySem.W.kia_one PySem.W.kitx_dict I.kIn ⟨o,h1,h2.1⟩ e (fun z=>nomatch z) h
 |@dT a kvs ea=>
  cases (show u=Value.ref a from rx)
  obtain⟨_,_,xs,_,o,es,ep,h1,h2,_⟩:=(show ObjOk X.prog X.w H s.heap a (.dT kvs) from I.hok a _ ea)
  exact PySem.W.kia_one PySem.W.kitx_dict I.kIn ⟨o,h1,h2.1⟩ e (fun z=>nomatch z) h
 |@ins a C dx fs ea cl ha hn htk hm=>
  cases (show u=Value.ref a from rx)
  obtain⟨mA,O,_⟩:=gB I.hok ea
  obtain⟨od,J,_⟩:=O.look
  exact PySem.W.kia_one (PySem.W.kitx_own (cl.get _) cl.hd ha hn htk hm) I.kIn J e (fun z=>nomatch z) h
end
end L2
namespace L2
open PySem PySem.Spec PyProof.Rows
structure Room(k:Nat)(A:Around):Prop where
 hd:A.handled=none
 dp:A.depth+3*k+5<recursionLimit
 un:A.units+16*k+200<cLine
 gd:A.guards=some []
theorem Room.mono{j k:Nat}{A:Around}(r:Room k A)(h:j<=k):Room j A:=⟨r.hd,by have:=r.dp;omega,by have:=r.un;omega,r.gd⟩
theorem Room.deeper{k:Nat}{A:Around}(r:Room (k+1) A)(env:Env):Room k (A.deeper env):=
 ⟨r.hd,by have:=r.dp;show A.depth+1+3*k+5<_;omega,by have:=r.un;show A.units+3+16*k+200<_;omega,r.gd⟩
theorem mS{A:Around}{C:Addr}{us:List Value}{kw:List (Str×Value)}:(A.under (.builtin "type.__call__" ⟨.ref C::us,kw⟩)).depth=A.depth+1:=by
 first|rfl|simp[Around.under,Code.weight,Code.isCreation,Code.isGuard,Code.isCaller,Code.frames,Code.isFrame,guardIds]
theorem mR{A:Around}{C:Addr}{us:List Value}{kw:List (Str×Value)}:(A.under (.builtin "type.__call__" ⟨.ref C::us,kw⟩)).units=A.units+1:=by
 first|rfl|simp[Around.under,Code.cUnits,Code.frames,Code.isFrame]
theorem Room.make{k:Nat}{A:Around}(r:Room (k+1) A)(C:Addr)(us:List Value)(kw:List (Str×Value)):Room k (A.under (.builtin "type.__call__" ⟨.ref C::us,kw⟩)):=
 ⟨r.hd,by have:=r.dp;rw[mS];omega,by have:=r.un;rw[mR];omega,by first|exact r.gd|(show PySem.pushGuards _ A.guards=_;rw[r.gd];rfl)⟩
theorem Room.depth{k:Nat}{A:Around}(r:Room k A):A.depth<recursionLimit:=by have:=r.dp;omega
theorem Room.units0{k:Nat}{A:Around}(r:Room k A):A.units<cLine:=by have:=r.un;omega
noncomputable def zDV:TA:=fun _ H Q=>Q [] H
noncomputable def W5(ta:TE)(tr:TA):TA:=fun σ H Q=>ta σ H fun x H1=>tr σ H1 fun xs H2=>Q (x::xs) H2
section
variable{X:Cx}{e:Expr}{es:List Expr}{te:TE}{t:TA}{pos:Pos}
theorem xA:PA X [] zDV:=fun _ _ _ _ H Q I h=>Calls.spliced_nil ⟨[],H,I,.nil,h⟩
theorem zZ(ha:PE X e te)(hr:PA X es t)(hs:starEach (e::es) X.env=(false,eval e X.env)::starEach es X.env:=by rfl):PA X (e::es) (W5 te t):=by
 intro pos pins s σ H Q I h
 rw[hs]
 show wpAny _ _ (spliced ((false,eval e X.env)::backTo pos (starEach es X.env))) _ _ s
 refine Calls.spliced_cons (thn (ha pins s σ H _ I h) fun u s1 ⟨x,H1,I1,r1,q1⟩=>?_)
 exact thn (hr pos pins s1 σ H1 _ I1 q1) fun us s2 ⟨xs,H2,I2,r2,q2⟩=>⟨x::xs,H2,I2,.cons r1 r2,q2⟩
noncomputable def zJI(t:TA):TE:=fun σ H Q=>t σ H fun xs H1=>xs.length<=sizeLine/\∀p,H1 p=none->Q (.ref p) (upd H1 p (.tup xs))
noncomputable def zIF(t:TA):TE:=fun σ H Q=>t σ H fun xs H1=>xs.length<=sizeLine/\∀p,H1 p=none->Q (.ref p) (upd H1 p (.lst xs))
theorem J3{x1}(h:PA X es t):PE X (.Tuple es x1 pos) (zJI t):=by
 intro pins s σ H Q I hq
 refine wpAny_Tuple_spliced (thn (h pos pins s σ H _ I hq) fun us s1 ⟨xs,H1,I1,r,z,q⟩=>⟨by rw[<-r.length];exact z,?_⟩)
 have hf:H1 s1.heap.objs.size=none:=I1.hok.fresh (Nat.le_refl _)
 refine⟨.ref s1.heap.objs.size,upd H1 s1.heap.objs.size (.tup xs),I1.laid (t':=s1.toks) (fun b u e=>Heap.get?_push_of_some _ e) (Nat.le_refl _) ?_,rfl,q _ hf⟩
 exact⟨z,us,r,⟨_,Heap.get?_push_size _ rfl,rfl,_,rfl⟩⟩
theorem XS(h:PA X es t):PE X (.List es pos) (zIF t):=by
 intro pins s σ H Q I hq
 refine wpAny_List_spliced (thn (h pos pins s σ H _ I hq) fun us s1 ⟨xs,H1,I1,r,z,q⟩=>⟨by rw[<-r.length];exact z,?_⟩)
 have hf:H1 s1.heap.objs.size=none:=I1.hok.fresh (Nat.le_refl _)
 refine⟨.ref s1.heap.objs.size,upd H1 s1.heap.objs.size (.lst xs),I1.laid (t':=s1.toks) (fun b u e=>Heap.get?_push_of_some _ e) (Nat.le_refl _) ?_,rfl,q _ hf⟩
 exact⟨z,us,0,r,Heap.get?_push_size _ rfl⟩
end
noncomputable abbrev Sp:=List V->Hp->VK->XK->Prop
noncomputable abbrev CXT:=List Env->Hp->Shared->XK->Value->Shared->Prop
structure Env0(P:Program)(w:World)(K:Fg)(mg:Str->Option Value)(base:Heap)(A:Around)(outer:List Env)(s:Shared)(H:Hp):Prop where
 frames:A.frames=some outer
 mod:Mod K mg base
 bs:∀b o,base.get? b=some o->s.heap.get? b=some o/\H b=none
 bsz:base.objs.size<=s.heap.objs.size
 funs:s.heap.FunFrames base outer
 frf:FrF K outer H
 hok:HOk P w H s.heap
 bare:AllBare s.gens
noncomputable def CE(outer:List Env)(P:Program)(w:World)(H:Hp)(s:Shared)(Q:VK)(u:Value)(s':Shared):Prop:=
 ∃v H',s'.os=s.os/\AllBare s'.gens/\Un (frs outer) [] H H' s.heap s'.heap/\HOk P w H' s'.heap/\RelV v u/\Q v H'
noncomputable def CR(CX:CXT)(outer:List Env)(P:Program)(w:World)(H:Hp)(s:Shared)(Q:VK)(E:XK)(r:Result)(s':Shared):Prop:=
 match r with
 |.ok (.ret u)=>CE outer P w H s Q u s'
 |.ok _=>False
 |.error e=>CX outer H s E e s'
structure FnOk(P:Program)(w:World)(K:Fg)(mg:Str->Option Value)(base:Heap)(CX:CXT)(k:Nat)(f:Addr)(fd:FuncData)(ps:List Str)(sp:Sp):Prop where
 len:∀vs H Q E,sp vs H Q E->vs.length=ps.length
 run:∀(A:Around) (outer:List Env) (s:Shared) (H:Hp) (args:Args) (us:List Value) (vs:List V) (Q:VK) (E:XK),Room k A->Env0 P w K mg base A outer s H->BindsTo s fd args (ps.zip us)->Vals vs us->sp vs H Q E ->
  codeAny (model P w) A (.call (.ref f) args) (CR CX outer P w H s Q E) s
theorem FnOk.imp{P:Program}{w:World}{K:Fg}{mg:Str->Option Value}{base:Heap}{CX:CXT}{k:Nat}{f:Addr}{fd:FuncData}{ps:List Str}{sp sp':Sp}(F:FnOk P w K mg base CX k f fd ps sp)(h:∀vs H Q E,sp' vs H Q E->sp vs H Q E):FnOk P w K mg base CX k f fd ps sp':=
 ⟨fun vs H Q E q=>F.len vs H Q E (h _ _ _ _ q),fun A outer s H args us vs Q E hr he hb hv hs=>F.run A outer s H args us vs Q E hr he hb hv (h _ _ _ _ hs)⟩
theorem Env0.make{P:Program}{w:World}{K:Fg}{mg:Str->Option Value}{base:Heap}{A:Around}{outer:List Env}{s:Shared}{H:Hp}(e:Env0 P w K mg base A outer s H)(C:Addr)(us:List Value)(kw:List (Str×Value)):Env0 P w K mg base (A.under (.builtin "type.__call__" ⟨.ref C::us,kw⟩)) outer s H:=⟨by first|exact e.frames|(simpa [Around.under,Code.envs,Code.isFrame,pushEnvs] using e.frames),e.mod,e.bs,e.bsz,e.funs,e.frf,e.hok,e.bare⟩
section
variable{X:Cx}{pins:List (Addr×Obj)}{σ:St}{H:Hp}{s s':Shared}
theorem Inv.env0(I:Inv X pins σ H s):Env0 X.prog X.w X.K X.mg X.base X.A X.stack s H:=
 ⟨I.ok.frames,I.ok.mod,I.bs,Nat.le_trans I.ok.bsz I.sz,I.stack,⟨I.stkFree,I.tabIn⟩,I.hok,I.bare⟩
theorem Inv.after{Q:VK}{u:Value}(I:Inv X pins σ H s)(h:CE X.stack X.prog X.w H s Q u s'):EP X pins σ Q u s':=by
 obtain⟨v,H',os,bare,un,hok,r,q⟩:=h
 obtain⟨hh,g,d,t,os'⟩:=s'
 obtain rfl:os'=s.os:=os
 exact⟨v,H',I.call (h':=hh) (g':=g) (d':=d) (t':=t) (ch:=[]) un hok bare (fun b z=>absurd z (by simp)),r,q⟩
end
noncomputable def zC3(sp:Sp)(dvs:List V)(E:XK)(t:TA):TE:=fun σ H Q=>t σ H fun vs H1=>sp (vs++dvs) H1 Q E
noncomputable def zFT(C:Addr)(m:Str)(sp:Sp)(dvs:List V)(E:XK)(ta:TE)(t:TA):TE:=fun σ H Q=>ta σ H fun x H1=>∃a dx fs,x=.ref a/\H1 a=some (.ins C dx fs)/\fs.lookup m=none /\
 t σ H1 fun vs H2=>sp (x::(vs++dvs)) H2 Q E
noncomputable def zG7(C:Addr)(sp:Sp)(dvs:List V)(E:XK)(t:TA):TE:=fun σ H Q=>t σ H fun vs H1=>∀x dx,H1 x=none->H1 dx=none->dx≠x ->
 sp (.ref x::(vs++dvs)) (upd (upd H1 dx (.own x)) x (.ins C dx [])) (fun v H2=>v=.non/\Q (.ref x) H2) E
noncomputable def Binds(K:Fg)(fd:FuncData)(ps:List Str)(ds:List Value):Prop:=
 ∀(s:Shared) (us:List Value),K.In s.heap->(us++ds).length=ps.length->BindsTo s fd ⟨us,[]⟩ (ps.zip (us++ds))
theorem Binds.all{K:Fg}{fd:FuncData}{ps:List Str}(h:∀us:List Value,us.length=ps.length->bindArgs fd ⟨us,[]⟩=pure (ps.zip us)):Binds K fd ps []:=fun s us _ hl=>by
 rw[List.append_nil] at hl ⊢
 exact .of_eq (h us hl)
noncomputable def uT(CX:CXT)(X:Cx)(E:XK):Prop:=∀(pins:List (Addr×Obj)) (σ:St) (H:Hp) (s:Shared) (e:Value) (s':Shared),Inv X pins σ H s->CX X.stack H s E e s'->X.xe e s'
section
variable{X:Cx}{CX:CXT}{k:Nat}{f C:Addr}{fd:FuncData}{ps:List Str}{sp:Sp}{dvs:List V}{ds:List Value}{E:XK}{x m:Str}{p pos apos:Pos}{e o:Expr}{es:List Expr}{ta:TE}{t:TA}
theorem mF{pins:List (Addr×Obj)}{σ:St}{H:Hp}{s:Shared}{Q:VK}{us:List Value}{vs:List V}(F:FnOk X.prog X.w X.K X.mg X.base CX k f fd ps sp)(hr:Room k X.A)(hb:Binds X.K fd ps ds)(hd:Vals dvs ds)(hx:uT CX X E)(I:Inv X pins σ H s)(r:Vals vs us)(h:sp (vs++dvs) H Q E):wpAny (model X.prog X.w) X.A (call (.ref f) us) (EP X pins σ Q) X.xe s:=by
 have r2:Vals (vs++dvs) (us++ds):=r.append hd
 have hl:(us++ds).length=ps.length:=by rw[<-r2.length];exact F.len _ _ _ _ h
 refine wpAny_call (codeAny_mono (F.run X.A X.stack s H ⟨us,[]⟩ (us++ds) (vs++dvs) Q E hr I.env0 (hb s us I.kIn hl) r2 h) fun r s' hq=>?_)
 cases r with
 |error e=>exact hx pins σ H s e s' I hq
 |ok fl=>
  cases fl with
  |ret u=>exact I.after hq
  |next=>exact False.elim hq
  |brk=>exact False.elim hq
  |cont=>exact False.elim hq
theorem u8(F:FnOk X.prog X.w X.K X.mg X.base CX k f fd ps sp)(hr:Room k X.A)(hg:Gl X x)(hm:X.mg x=some (.ref f))(hk:PySem.W.keepIn X.K (.ref f)=true)(hb:Binds X.K fd ps ds)(hd:Vals dvs ds)(hx:uT CX X E)(ha:PA X (e::es) t)(hdb:(x == ("__debug__" : Str))=false:=by decide)(he:starEach (e::es) X.env=(false,eval e X.env)::starEach es X.env:=by rfl)(hpl:(backTo pos (starEach es X.env)).any (·.1)=false:=by rfl):PE X (.Call (.Name x p) (e::es) [] pos) (zC3 sp dvs E t):=by
 intro pins s σ H Q I h
 refine wpAny_Call_Name_kw (d9 I hg hm ?_ hdb)
 refine PySem.W.callWith_K (h₀:=X.base) I.ok.mod.kin hk (thn (ha pos pins s σ H _ I h) fun us s1 ⟨vs,H1,I1,r,q⟩=>⟨I1.kIn,?_⟩) he hpl
 exact mF F hr hb hd hx I1 r q
theorem J7{pl:Sem Bool}(he:PE X o ta)(c:Cls X.K C)(hm:Meth X.K C m f)(F:FnOk X.prog X.w X.K X.mg X.base CX k f fd ps sp)(hr:Room k X.A)(hb:Binds X.K fd ps ds)(hd:Vals dvs ds)(hx:uT CX X E)(ha:PA X (e::es) t)(hst:starEach (e::es) X.env=(false,eval e X.env)::starEach es X.env:=by rfl)(hpl:(backTo pos (starEach es X.env)).any (·.1)=false:=by rfl)(ht:eval (.Call (.Attribute o m apos) (e::es) [] pos) X.env=(do
   let ov <- eval o X.env
   standAt apos.atName
   let (f,first) <- holding [ov] (getMethod ov m pl)
   callWith pos f first (backTo pos (starEach (e::es) X.env)) (backToKw pos (keywordEach [] X.env))):=by rfl):PE X (.Call (.Attribute o m apos) (e::es) [] pos) (zFT C m sp dvs E ta t):=by
 intro pins s σ H Q I h
 refine PySem.W.methodCall_KW (pl:=pl) (thn (he pins s σ H _ I h) fun u s1 ⟨x,H1,I1,rx,a,dx,fs,ex,ea,l,q⟩=>?_) ht
 subst ex
 obtain rfl:u=Value.ref a:=rx
 refine bH I1 ea c hm l ?_
 refine PySem.W.callWith_K (first:=[.ref a]) (h₀:=X.base) I.ok.mod.kin hm.kp (thn (ha pos pins s1 σ H1 _ I1 q) fun us s2 ⟨vs,H2,I2,r,q2⟩=>⟨I2.kIn,?_⟩) hst hpl
 exact mF (us:=.ref a::us) (vs:=.ref a::vs) F hr hb hd hx I2 (.cons rfl r) q2
theorem XR{pl:Sem Bool}(he:PE X o ta)(c:Cls X.K C)(hm:Meth X.K C m f)(F:FnOk X.prog X.w X.K X.mg X.base CX k f fd ps sp)(hr:Room k X.A)(hb:Binds X.K fd ps ds)(hd:Vals dvs ds)(hx:uT CX X E)(ht:eval (.Call (.Attribute o m apos) [] [] pos) X.env=(do
   let ov <- eval o X.env
   standAt apos.atName
   let (f,first) <- holding [ov] (getMethod ov m pl)
   callWith pos f first (backTo pos (starEach [] X.env)) (backToKw pos (keywordEach [] X.env))):=by rfl):PE X (.Call (.Attribute o m apos) [] [] pos) (zFT C m sp dvs E ta zDV):=by
 intro pins s σ H Q I h
 refine PySem.W.methodCall_KW (pl:=pl) (thn (he pins s σ H _ I h) fun u s1 ⟨x,H1,I1,rx,a,dx,fs,ex,ea,l,q⟩=>?_) ht
 subst ex
 obtain rfl:u=Value.ref a:=rx
 refine bH I1 ea c hm l ?_
 exact PySem.W.callWith_K0 (first:=[.ref a]) I1.kIn hm.kp (mF (us:=[.ref a]) (vs:=[.ref a]) F hr hb hd hx I1 (.cons rfl .nil) q)
structure Mk(K:Fg)(C f:Addr):Prop where
 makes:PySem.W.makesIn K C=true
 init:PySem.W.findIn K (.ref C) "__init__" = some (some (.ref f))
 fn:PySem.W.isFn K (.ref f)=true
 kp:PySem.W.keepIn K (.ref C)=true
theorem XB{pins:List (Addr×Obj)}{σ:St}{H:Hp}{s:Shared}{Q:VK}{us:List Value}{vs:List V}(M:Mk X.K C f)(F:FnOk X.prog X.w X.K X.mg X.base CX k f fd ps sp)(hr:Room (k+1) X.A)(hb:Binds X.K fd ps ds)(hd:Vals dvs ds)(hx:uT CX X E)(I:Inv X pins σ H s)(r:Vals vs us)(h:∀x dx,H x=none->H dx=none->dx≠x->sp (.ref x::(vs++dvs)) (upd (upd H dx (.own x)) x (.ins C dx [])) (fun v H2=>v=.non/\Q (.ref x) H2) E):wpAny (model X.prog X.w) X.A (call (.ref C) us) (EP X pins σ Q) X.xe s:=by
 have hq:=h (s.heap.objs.size+1) s.heap.objs.size (I.hok.fresh (Nat.le_succ _)) (I.hok.fresh (Nat.le_refl _)) (Nat.ne_of_lt (Nat.lt_succ_self _))
 have I2:=Inv.made (C:=C) I
 have r2:Vals (V.ref (s.heap.objs.size+1)::(vs++dvs)) (Value.ref (s.heap.objs.size+1)::(us++ds)):=.cons rfl (r.append hd)
 have hl:(Value.ref (s.heap.objs.size+1)::us++ds).length=ps.length:=by
  have e:=r2.length
  rw[F.len _ _ _ _ hq] at e
  exact e.symm
 refine wpAny_call (WC (f:=f) I.kIn M.makes M.init (beq_iff_eq.mp M.fn) (codeAny_mono (F.run _ X.stack _ _ ⟨Value.ref (s.heap.objs.size+1)::us,[]⟩ (Value.ref (s.heap.objs.size+1)::(us++ds)) _ _ E (hr.make C us [])
  (I2.env0.make C us []) (hb _ (Value.ref (s.heap.objs.size+1)::us) I2.kIn hl) r2 hq) fun r s' hq'=>?_))
 cases r with
 |error e=>exact hx pins σ _ _ e s' I2 hq'
 |ok fl=>
  cases fl with
  |ret u=>
   obtain⟨v,H',I3,rv,ev,q3⟩:=I2.after hq'
   subst ev
   exact⟨rv,⟨V.ref (s.heap.objs.size+1),H',I3,rfl,q3⟩⟩
  |next=>exact False.elim hq'
  |brk=>exact False.elim hq'
  |cont=>exact False.elim hq'
theorem J8(M:Mk X.K C f)(F:FnOk X.prog X.w X.K X.mg X.base CX k f fd ps sp)(hr:Room (k+1) X.A)(hg:Gl X x)(hm:X.mg x=some (.ref C))(hb:Binds X.K fd ps ds)(hd:Vals dvs ds)(hx:uT CX X E)(ha:PA X (e::es) t)(hdb:(x == ("__debug__" : Str))=false:=by decide)(he:starEach (e::es) X.env=(false,eval e X.env)::starEach es X.env:=by rfl)(hpl:(backTo pos (starEach es X.env)).any (·.1)=false:=by rfl):PE X (.Call (.Name x p) (e::es) [] pos) (zG7 C sp dvs E t):=by
 intro pins s σ H Q I h
 refine wpAny_Call_Name_kw (d9 I hg hm ?_ hdb)
 refine PySem.W.callWith_K (h₀:=X.base) I.ok.mod.kin M.kp (thn (ha pos pins s σ H _ I h) fun us s1 ⟨vs,H1,I1,r,q⟩=>⟨I1.kIn,?_⟩) he hpl
 exact XB M F hr hb hd hx I1 r q
end
section
variable{X:Cx}{CX:CXT}{k:Nat}{f C:Addr}{fd:FuncData}{ps ks:List Str}{sp:Sp}{E:XK}{x m:Str}{p pos apos kpos:Pos}{e o:Expr}{es:List Expr}{kws:List Keyword}{te ta:TE}{t tk:TA}{nm:Option Str}
variable{g:List Value->List Value->List Value}{gV:List V->List V->List V}
end
structure FnScope(N P:List Str)(sc:Scope):Prop where
 kind:sc.kind=.function
 co:sc.isCoroutine=false
 gen:sc.isGenerator=false
 nd:N.Nodup
 pre:N.take P.length=P
 par:∀x∈P,sc.names.lookup x=some .local\/sc.names.lookup x=some .cell
 nofree:∀y∈sc.names,y.2≠.free
theorem gW{kindOf:Str->Option NameKind}{x:Str}:∀{binds:List (Str×Value)} {m:Str->Option Value},(∀v,(x,v)∉binds)->bindL kindOf binds m x=m x
 |[],_,_=>rfl
 |(n,v)::r,m,h=>by
  unfold bindL
  rw[gW fun w hw=>h w (List.mem_cons_of_mem _ hw)]
  split
  ·have:x≠n:=by rintro rfl;exact h v List.mem_cons_self
   simp[this]
  ·rfl
theorem gY{kindOf:Str->Option NameKind}{x:Str}:∀{binds:List (Str×Value)} {m:Str->Option Value},(∀v,(x,v)∉binds)->bindC kindOf binds m x=m x
 |[],_,_=>rfl
 |(n,v)::r,m,h=>by
  unfold bindC
  rw[gY fun w hw=>h w (List.mem_cons_of_mem _ hw)]
  split
  ·rfl
  ·have:x≠n:=by rintro rfl;exact h v List.mem_cons_self
   simp[this]
theorem gX{kindOf:Str->Option NameKind}{x:Str}{v:Value}:∀{P:List Str} {vs:List Value} {i:Nat} {m:Str->Option Value},P.Nodup->P[i]?=some x->vs[i]?=some v->kindOf x=some .local ->
  bindL kindOf (P.zip vs) m x=some v
 |[],_,_,_,_,h,_,_=>by simp at h
 |_::_,[],_,_,_,_,h,_=>by simp at h
 |p::P,w::vs,0,m,nd,h1,h2,hk=>by
  simp at h1 h2;subst h1;subst h2
  show bindL kindOf ((p,w)::P.zip vs) m p=_
  unfold bindL
  rw[gW fun v hv=>(List.nodup_cons.mp nd).1 (List.of_mem_zip hv).1,if_pos hk]
  simp
 |p::P,w::vs,i+1,m,nd,h1,h2,hk=>by
  show bindL kindOf ((p,w)::P.zip vs) m x=_
  unfold bindL
  exact gX (i:=i) (List.nodup_cons.mp nd).2 (by simpa using h1) (by simpa using h2) hk
theorem gZ{kindOf:Str->Option NameKind}{x:Str}{v:Value}:∀{P:List Str} {vs:List Value} {i:Nat} {m:Str->Option Value},P.Nodup->P[i]?=some x->vs[i]?=some v->kindOf x≠some .local ->
  bindC kindOf (P.zip vs) m x=some v
 |[],_,_,_,_,h,_,_=>by simp at h
 |_::_,[],_,_,_,_,h,_=>by simp at h
 |p::P,w::vs,0,m,nd,h1,h2,hk=>by
  simp at h1 h2;subst h1;subst h2
  show bindC kindOf ((p,w)::P.zip vs) m p=_
  unfold bindC
  rw[gY fun v hv=>(List.nodup_cons.mp nd).1 (List.of_mem_zip hv).1,if_neg hk]
  simp
 |p::P,w::vs,i+1,m,nd,h1,h2,hk=>by
  show bindC kindOf ((p,w)::P.zip vs) m x=_
  unfold bindC
  exact gZ (i:=i) (List.nodup_cons.mp nd).2 (by simpa using h1) (by simpa using h2) hk
noncomputable def start(N:List Str)(vs:List V):St:=vs.map some++List.replicate (N.length-vs.length) none
noncomputable def zCZ(CX:CXT)(P:Program)(w:World)(K:Fg)(mg:Str->Option Value)(base:Heap)(N:List Str)(qual:Str)(scope:Scope)(f:Addr)(cd:Value)(A:Around)(outer:List Env)(s:Shared)(H:Hp)(E:XK):Cx where
 prog:=P
 w:=w
 K:=K
 mg:=mg
 base:=base
 A:=A.deeper (envOfC qual scope s.heap.objs.size f cd)
 N:=N
 s₀:=s
 H₀:=H
 env:=envOfC qual scope s.heap.objs.size f cd
 outer:=outer
 stack:=envOfC qual scope s.heap.objs.size f cd::outer
 ex:=[]
 calm:=true
 fn:=fun _=>true
 pn:=[]
 xe:=fun e s'=>wpAny (model P w) (A.deeper (envOfC qual scope s.heap.objs.size f cd)) (leaving (envOfC qual scope s.heap.objs.size f cd) e) (fun _ s''=>CX outer H s E e s'') (fun e' s''=>CX outer H s E e' s'') s'
theorem oT{sc:Scope}{n:Nat}{x:Str}(h:sc.names.lookup x=some .cell):∃c,(cellsFrom n sc.names []).lookup x=some c:=by
 have q:=PySem.W.cellsFrom_some sc.names n [] (.inl h)
 exact Option.isSome_iff_exists.mp q
theorem rR{CX:CXT}{P:Program}{w:World}{K:Fg}{mg:Str->Option Value}{base:Heap}{N ps:List Str}{qual:Str}{scope:Scope}{f:Addr}{cd:Value}{A:Around}{outer:List Env}{s s1:Shared}{H:Hp}{E:XK}{us:List Value}{vs:List V}(S:FnScope N ps scope)(hd:A.handled=none)(e0:Env0 P w K mg base A outer s H)(hl:vs.length=ps.length)(r:Vals vs us)(x:InCallC s s.heap.objs.size (bindL (envOfC qual scope s.heap.objs.size f cd).kindOf (ps.zip us) fun _=>none) (cellsFrom (s.heap.objs.size+1) scope.names []) (bindC (envOfC qual scope s.heap.objs.size f cd).kindOf (ps.zip us) fun _=>none) s1):Inv (zCZ CX P w K mg base N qual scope f cd A outer s H E) [] (start N vs) H s1:=by
 have hpl:ps.length<=N.length:=by have:=congrArg List.length S.pre;rw[List.length_take] at this;omega
 obtain⟨h1,tk,rfl,hk⟩:=x.done
 have noA:∀b:Addr,b∉(zCZ CX P w K mg base N qual scope f cd A outer s H E).ex:=fun b z=>absurd (show b∈([]:List Addr) from z) (by simp)
 refine⟨⟨e0.mod,S.kind,rfl,rfl,Nat.le_refl _,fun y z c h1 h2=>?_,fun y hy=>?_,fun y c _ h=>?_,fun _=>hd,Around.frames_deeper e0.frames,.inr ⟨rfl,rfl⟩,fun b z=>absurd z (noA b),e0.bs,e0.bsz,fun b _ _=>noA b,fun b z=>absurd z (noA b),e0.funs,e0.frf⟩,
  rfl,e0.bare,Un.kept hk,⟨_,x.toInCall.ns,fun i y v h1 h2 h3=>?_⟩,fun y c h=>⟨_,x.cell y c h⟩,e0.hok.fresh (Nat.le_refl _),fun y c h=>?_,fun p hp=>absurd (show p∈([]:List (Addr×Obj)) from hp) (by simp),e0.hok.kept hk,?_⟩
 ·exact name_of_addr x.apart (PySem.mem_of_lookup h1) (PySem.mem_of_lookup h2)
 ·have hy:scope.names.lookup y=some .cell\/scope.names.lookup y=some .free:=hy
  rcases hy with hy|hy
  ·exact oT hy
  ·exact absurd rfl (S.nofree _ (PySem.mem_of_lookup hy))
 ·exact Nat.le_of_lt (x.above y c (PySem.mem_of_lookup h))
 ·have hi:i<vs.length:=by
   unfold start at h2
   by_cases hi:i<vs.length
   ·exact hi
   ·rw[List.getElem?_append_right (by simpa using hi)] at h2
    rw[List.getElem?_replicate] at h2
    split at h2<;>cases h2
  have ha:vs[i]?=some v:=by
   unfold start at h2
   rw[List.getElem?_append_left (by simpa using hi),List.getElem?_map] at h2
   cases e:vs[i]? with
   |none=>rw[e] at h2;cases h2
   |some a=>rw[e] at h2;cases h2;rfl
  obtain⟨u,hu,rv⟩:=r.get ha
  have hp:ps[i]?=some y:=by
   rw[<-S.pre,List.getElem?_take_of_lt (by omega)];exact h1
  have ndP:ps.Nodup:=by rw[<-S.pre];exact S.nd.sublist (List.take_sublist _ _)
  refine⟨u,rv,?_⟩
  rcases S.par y (List.mem_of_getElem? hp) with k|k
  ·exact .inl ⟨k,gX ndP hp hu k⟩
  ·obtain⟨c,e⟩:=oT (n:=s.heap.objs.size+1) k
   refine .inr ⟨.inl k,c,e,?_⟩
   have q:=x.cell y c e
   rw[gZ ndP hp hu (by show scope.names.lookup y≠_;rw[k];decide)] at q
   exact q
 ·exact e0.hok.fresh (Nat.le_of_lt (x.above y c (PySem.mem_of_lookup h)))
 ·unfold start
  show _=N.length
  rw[List.length_append,List.length_map,List.length_replicate]
  omega
theorem zF9{CX:CXT}{P:Program}{w:World}{K:Fg}{mg:Str->Option Value}{base:Heap}{k:Nat}{f:Addr}{name qual:Str}{params:Arguments}{body:List Stmt}{scope:Scope}{dV kV doc pm cdv ct oc:Value}{an od:Option Addr}{osl:Array (Option Value)}{N ps:List Str}{sp:Sp}(lk:K.lookup f=some ⟨oc,od,.func (PySem.W.fnOf name qual params body scope dV kV doc pm an cdv ct),osl⟩)(hcd:PySem.W.codeIn K cdv qual=true)(S:FnScope N ps scope)(len:∀vs H Q E,sp vs H Q E->vs.length=ps.length)(hbody:∀(A:Around) (outer:List Env) (s:Shared) (H:Hp) (vs:List V) (Q:VK) (E:XK),Room k (A.deeper (envOfC qual scope s.heap.objs.size f cdv))->sp vs H Q E ->
   ∃t,PSs (zCZ CX P w K mg base N qual scope f cdv A outer s H E) body t/\t { nx:=fun _ H'=>Q .non H',rt:=Q } (start N vs) H):FnOk P w K mg base CX (k+1) f (PySem.W.fnOf name qual params body scope dV kV doc pm an cdv ct) ps sp:=by
 refine⟨len,fun A outer s H args us vs Q E hr e0 hb r hsp=>?_⟩
 have hl:=len _ _ _ _ hsp
 have KX:K.In s.heap:=e0.mod.kin.keeps fun b o e=>(e0.bs b o e).1
 have lim:s.heap.NoLimit:=e0.mod.nolimit.keeps fun b o e=>(e0.bs b o e).1
 have hkind:∀y∈ps.zip us,scope.names.lookup y.1=some .local\/(scope.names.lookup y.1=some .cell/\((cellsFrom (s.heap.objs.size+1) scope.names []).lookup y.1).isSome=true):=fun⟨n,v⟩ hy=>by
  rcases S.par n (List.of_mem_zip hy).1 with q|q
  ·exact .inl q
  ·exact .inr ⟨q,PySem.W.cellsFrom_some _ _ _ (.inl q)⟩
 refine codeAny_call_function hr.depth (KX _ _ lk) rfl S.co S.gen rfl (PySem.W.codeRec_of KX hcd) (hb _ _ _ _ ?_)
 refine wpAny_newFunctionEnv_cells S.kind hkind fun env he s1 x=>?_
 subst he
 refine⟨lim.keeps x.toInCall.keep,codeAny_func ?_⟩
 obtain⟨t,ht,hq⟩:=hbody A outer s H vs Q E (hr.deeper _) hsp
 have I:Inv (zCZ CX P w K mg base N qual scope f cdv A outer s H E) [] (start N vs) H s1:=rR S hr.hd e0 hl r x
 refine wpAny_mono (ht [] s1 (start N vs) H _ I hq) (fun fl s' hs=>?_) fun e s' hs=>hs
 have fin:∀{σ':St} {H':Hp} {v:V} {u:Value},Inv (zCZ CX P w K mg base N qual scope f cdv A outer s H E) [] σ' H' s'->RelV v u->Q v H'->CE outer P w H s Q u s':=
  fun {σ' H' v u} J rv q=>⟨v,H',J.os,J.bare,J.base,J.hok,rv,q⟩
 cases fl with
 |ret u=>
  obtain⟨v,σ',H',J,rv,q⟩:=hs
  exact fin J rv q
 |next=>
  obtain⟨σ',H',J,q⟩:=hs
  exact fin (v:=V.non) (u:=Value.none) J rfl q
 |brk=>
  obtain⟨_,_,_,q⟩:=hs
  exact False.elim q
 |cont=>
  obtain⟨_,_,_,q⟩:=hs
  exact False.elim q
end L2
namespace L2
open PySem PySem.Spec PyProof.Rows
section
variable{X:Cx}{x:Str}{p pos:Pos}{e:Expr}{es:List Expr}{t:TA}{id T:String}{r:List V->Hp->VK->Prop}
noncomputable def tCB(r:List V->Hp->VK->Prop)(t:TA):TE:=fun σ H Q=>t σ H fun vs H1=>r vs H1 Q
theorem jJ(hc:CallR X (.builtin id) r)(hg:Gl X x)(hm:X.mg x=none)(hv:bootBuiltins x=some (.builtin id))(ha:PA X (e::es) t)(hn:x ≠ "__name__" := by decide)(hdb:(x == ("__debug__" : Str))=false:=by decide)(he:starEach (e::es) X.env=(false,eval e X.env)::starEach es X.env:=by rfl)(hpl:(backTo pos (starEach es X.env)).any (·.1)=false:=by rfl):PE X (.Call (.Name x p) (e::es) [] pos) (tCB r t):=by
 intro pins s σ H Q I h
 refine wpAny_Call_Name_kw (bW I hg hm hv ?_ hn hdb)
 exact PyProof.Rows.callWith_builtin1 (thn (ha pos pins s σ H _ I h) fun us s1 ⟨vs,H1,I1,r1,q1⟩=>hc pins s1 σ H1 vs us Q I1 r1 q1) he hpl
theorem v7(hc:CallR X (.type T) r)(hg:Gl X x)(hm:X.mg x=none)(hv:bootBuiltins x=some (.type T))(ha:PA X (e::es) t)(hn:x ≠ "__name__" := by decide)(hdb:(x == ("__debug__" : Str))=false:=by decide)(he:starEach (e::es) X.env=(false,eval e X.env)::starEach es X.env:=by rfl)(hpl:(backTo pos (starEach es X.env)).any (·.1)=false:=by rfl):PE X (.Call (.Name x p) (e::es) [] pos) (tCB r t):=by
 intro pins s σ H Q I h
 refine wpAny_Call_Name_kw (bW I hg hm hv ?_ hn hdb)
 exact PyProof.Rows.callWith_type1 (thn (ha pos pins s σ H _ I h) fun us s1 ⟨vs,H1,I1,r1,q1⟩=>hc pins s1 σ H1 vs us Q I1 r1 q1) he hpl
end
end L2
namespace HT
open PySem PyProof.Rows
section
open PySem.SeqAt
open PySem.AutoSeq1 (wpAny_loadPart')
open PySem.MeetsSeq PySem.MeetsSeq2 PySem.MeetsSeq3
end
section
variable{prog:Program}{w:World}{A:Around}{E:Value->Shared->Prop}{s:Shared}
theorem cat_tup{t b:Addr}{vs ws:List Value}{Q:Value->Shared->Prop}(ht:IsTup s.heap t vs.toArray)(hb:IsTup s.heap b ws.toArray)(hv:vs≠[])(h1:ws=[]->Q (.ref t) s)(h2:ws≠[]->Q (.ref s.heap.objs.size) { s with heap:=s.heap.push { cls:=.type "tuple",data:=.seq (vs++ws).toArray } })(hsz:vs.length+ws.length<=sizeLine):wpAny (model prog w) A (binaryOp .Add (.ref t) (.ref b)) Q E s:=by
 obtain⟨⟨cls,dd,data,sl⟩,ho,hc,n,hd⟩:=id ht
 obtain⟨⟨cls2,dd2,data2,sl2⟩,ho2,hc2,n2,hd2⟩:=id hb
 simp only at hc hd hc2 hd2
 subst hc hd hc2 hd2
 have e:vs.toArray++ws.toArray=(vs++ws).toArray:=by simp
 by_cases hw:ws=[]
 ·exact concat_meets ⟨_,ho,rfl⟩ ⟨_,ho2,rfl⟩ noFill_tuple_add seq_tuple_add PySem.F.slot_tuple_add PySem.F.entry_tuple_add (PySem.F.args_tuple_add_2 _ _)
   (tuple_addW1 t b vs.toArray ws.toArray n n2 dd dd2 sl sl2 (by simpa using hv) (by simp[hw])) ⟨ho,ho2,h1 hw⟩
 ·refine concat_meets ⟨_,ho,rfl⟩ ⟨_,ho2,rfl⟩ noFill_tuple_add seq_tuple_add PySem.F.slot_tuple_add PySem.F.entry_tuple_add (PySem.F.args_tuple_add_2 _ _)
   (tuple_addW2 t b vs.toArray ws.toArray n n2 dd dd2 sl sl2 (by simpa using hv) (by simpa using hw) (by rw[List.size_toArray,List.size_toArray];exact hsz)) ⟨ho,ho2,?_⟩
  rw[e]
  exact h2 hw
noncomputable def sIx(n d:Nat):Option Int->Nat
 |none=>d
 |some v=>if v<0 then (v+(n:Int)).toNat else min v.toNat n
theorem sIx_none(n d:Nat):sIx n d none=d:=rfl
theorem sIx_nat(n d k:Nat):sIx n d (some (k:Int))=min k n:=by
 show(if (k:Int)<0 then ((k:Int)+(n:Int)).toNat else min (k:Int).toNat n)=min k n
 rw[if_neg (by omega),Int.toNat_natCast]
theorem sIx_le(n d:Nat)(hd:d<=n)(o:Option Int):sIx n d o<=n:=by
 cases o with
 |none=>exact hd
 |some v=>
  show(if v<0 then (v+(n:Int)).toNat else min v.toNat n)<=n
  by_cases hv:v<0
  ·rw[if_pos hv];omega
  ·rw[if_neg hv];exact Nat.min_le_right _ _
theorem YK(v:Int)(n d:Nat):(if v<0 then max (v+(n:Int)) 0 else min v (n:Int))=((sIx n d (some v):Nat):Int):=by
 show(if v<0 then max (v+(n:Int)) 0 else min v (n:Int))=(((if v<0 then (v+(n:Int)).toNat else min v.toNat n):Nat):Int)
 by_cases hv:v<0
 ·simp only[if_pos hv];omega
 ·simp only[if_neg hv];omega
theorem m8(lo hi:Option Int)(n:Nat):Builtin.Slice.sliceAdjust lo hi 1 (n:Int)=(((sIx n 0 lo:Nat):Int),((sIx n n hi:Nat):Int)):=by
 have h1:¬((1:Int)<0):=by omega
 unfold Builtin.Slice.sliceAdjust
 simp only[h1,if_false]
 refine Prod.ext ?_ ?_
 ·cases lo with
  |none=>rfl
  |some v=>exact YK v n 0
 ·cases hi with
  |none=>rfl
  |some v=>exact YK v n n
theorem mH(i j:Nat):Builtin.Slice.slicePlaces (i:Int) (j:Int) 1=j-i:=by
 unfold Builtin.Slice.slicePlaces
 have h1:(1:Int) > 0:=by omega
 simp only[h1,if_true,Int.ediv_one]
 split<;>omega
theorem u5{v:Value}{o:Option Int}{Q:Option Int->Shared->Prop}(p:IsPart v o)(h:Q o s):wpAny (model prog w) A (Builtin.Slice.slicePartIndex v) Q E s:=by
 cases p with
 |none=>exact slicePart_none h
 |int i t=>exact slicePart_int h
theorem jU{sl:Addr}{vl vu:Value}{lo hi:Option Int}{n:Nat}{Q:Int×Int×Nat->Shared->Prop}(hs:s.heap.IsSliceOf sl vl vu .none)(pl:IsPart vl lo)(pu:IsPart vu hi)(h:Q (((sIx n 0 lo:Nat):Int),1,sIx n n hi-sIx n 0 lo) s):wpAny (model prog w) A (Builtin.Slice.sliceApplied (.ref sl) (pure (n:Int))) Q E s:=by
 obtain⟨os,hos,hcs,hds⟩:=id hs
 unfold Builtin.Slice.sliceApplied Builtin.Slice.sliceFields
 refine wpAny_bind (wpAny_bind (wpAny_field hos hds (x:=vl) rfl (wpAny_bind (wpAny_field hos hds (x:=vu) rfl (wpAny_bind (wpAny_field hos hds (x:=.none) rfl (wpAny_pure ?_)))))))
 refine wpAny_bind (slicePart_none ?_)
 show wpAny _ _ (if ((1:Int) == 0)=true then _ else _) _ _ s
 rw[if_neg (by decide)]
 refine wpAny_bind (u5 pl (wpAny_bind (u5 pu (wpAny_bind (wpAny_pure ?_)))))
 show wpAny _ _ (match Builtin.Slice.sliceAdjust lo hi 1 (n:Int) with|(lo,hi)=>pure (lo,(1:Int),Builtin.Slice.slicePlaces lo hi 1)) _ _ s
 rw[m8 lo hi n]
 show wpAny _ _ (pure (((sIx n 0 lo:Nat):Int),(1:Int),Builtin.Slice.slicePlaces ((sIx n 0 lo:Nat):Int) ((sIx n n hi:Nat):Int) 1)) _ _ s
 rw[mH]
 exact wpAny_pure h
theorem XN(xs:Array Value)(i k:Nat):((List.range k).filterMap fun(m:Nat)=>xs[((i:Int)+(m:Int)*1).toNat]?).toArray=((xs.toList.drop i).take k).toArray:=by
 have e:(fun(m:Nat)=>xs[((i:Int)+(m:Int)*1).toNat]?)=fun m=>xs[i+m]?:=by
  funext m
  have:((i:Int)+(m:Int)*1).toNat=i+m:=by omega
  rw[this]
 rw[e]
 have:=pick_run xs i k
 rw[List.filterMap_map] at this
 have e2:((fun x=>xs[x]?) ∘ fun x=>i+x)=fun m=>xs[i+m]?:=rfl
 rw[e2] at this
 rw[this]
theorem getItem_tuple_cut{t sl:Addr}{items:Array Value}{vl vu:Value}{lo hi:Option Int}{Q:Value->Shared->Prop}(ht:IsTup s.heap t items)(hs:s.heap.IsSliceOf sl vl vu .none)(pl:IsPart vl lo)(pu:IsPart vu hi)(hw:¬(sIx items.size 0 lo=0/\sIx items.size items.size hi=items.size))(h:Q (.ref s.heap.objs.size) { s with heap:=s.heap.push { cls:=.type "tuple",data:=.seq ((items.toList.drop (sIx items.size 0 lo)).take (sIx items.size items.size hi-sIx items.size 0 lo)).toArray } })(hsz:items.size<=sizeLine):wpAny (model prog w) A (getItem (.ref t) (.ref sl)) Q E s:=by
 have htake:sizeOk (.seq ((items.toList.drop (sIx items.size 0 lo)).take (sIx items.size items.size hi-sIx items.size 0 lo)).toArray):=by
  show((items.toList.drop (sIx items.size 0 lo)).take (sIx items.size items.size hi-sIx items.size 0 lo)).toArray.size<=sizeLine
  rw[List.size_toArray,List.length_take,List.length_drop,Array.length_toList]
  omega
 have hj:sIx items.size items.size hi<=items.size:=sIx_le _ _ (Nat.le_refl _) hi
 obtain⟨os,hos,hcs,hds⟩:=id hs
 have hTs:s.TypeIs (.ref sl) "slice" := ⟨os,hos,hcs⟩
 unfold getItem
 try with_reducible refine wpAny_holding ?_
 first|refine wpAny_bind (wpAny_pure ?_)|skip
 refine wpAny_bind (wpAny_sequenceKey ht.typeIs (by decide) ?_)
 refine wpAny_bind (wpAny_callSpecial?_slot (name:=Str.ofString "__getitem__") ht.typeIs PyProof.Rows.slot_tuple_getitem
  (wpAny_call_entry PyProof.Rows.slot_tuple_getitem ht.typeIs entry_tuple_getitem ?_ (args_tuple_getitem _ _)))
 show wpAny _ _ (Builtin.Tuple.tupleItemsOf (.ref t) >>= _) _ _ s
 refine wpAny_bind (tupleItemsOf_ ht ?_)
 refine wpAny_bind (wpAny_typeOf hTs ?_)
 rw[if_pos (by decide)]
 refine wpAny_bind (jU hs pl pu ?_)
 have hno:¬((((sIx items.size 0 lo:Nat):Int) == 0 && (1:Int) == 1 && (sIx items.size items.size hi-sIx items.size 0 lo) == items.size)=true):=by
  intro q
  rw[Bool.and_eq_true,Bool.and_eq_true] at q
  have q1:((sIx items.size 0 lo:Nat):Int)=0:=eq_of_beq q.1.1
  have q2:sIx items.size items.size hi-sIx items.size 0 lo=items.size:=eq_of_beq q.2
  exact hw ⟨by omega,by omega⟩
 show wpAny _ _ (if (((sIx items.size 0 lo:Nat):Int) == 0 && (1:Int) == 1 && (sIx items.size items.size hi-sIx items.size 0 lo) == items.size)=true then _ else _) _ _ s
 rw[if_neg hno,XN]
 first
  |exact wpAny_bind (m:=Builtin.Tuple.tupleExact _) (wpAny_newObj_type (wpAny_pure ⟨_,rfl,wpAny_pure h⟩) htake)
  |exact wpAny_bind (m:=Builtin.Tuple.tupleExact _) (wpAny_newObj_type (wpAny_bind (wpAny_pure (wpAny_pure ⟨_,rfl,wpAny_pure h⟩))) htake)
  |exact wpAny_bind (wpAny_bind (m:=Builtin.Tuple.tupleExact _) (wpAny_newObj_type (wpAny_pure (wpAny_pure ⟨_,rfl,wpAny_pure h⟩)) htake))
  |exact wpAny_bind (wpAny_bind (m:=Builtin.Tuple.tupleExact _) (wpAny_newObj_type (wpAny_pure ⟨_,rfl,wpAny_pure h⟩) htake))
end
end HT
namespace L2
open PySem PySem.Spec PyProof.Rows
noncomputable abbrev TO:=St->Hp->(Option Int->Hp->Prop)->Prop
noncomputable def PO(X:Cx)(e:Option Expr)(t:TO):Prop:=
 ∀(pins:List (Addr×Obj)) (s:Shared) (σ:St) (H:Hp) (Q:Option Int->Hp->Prop),Inv X pins σ H s->t σ H Q ->
  wpAny (model X.prog X.w) X.A (evalPart e X.env) (fun u s'=>∃o H',Inv X pins σ H' s'/\IsPart u o/\Q o H') X.xe s
noncomputable def JD:TO:=fun _ H Q=>Q none H
noncomputable def zG4(t:TE):TO:=fun σ H Q=>t σ H fun x H1=>∃i,x=.int i/\Q (some i) H1
theorem mU{ns:List Int}:∀{us:List Value},Vals (ns.map V.int) us->IntsAre us ns:=by
 induction ns with
 |nil=>intro us r;rw[List.map_nil] at r;cases r;exact .nil
 |cons n ns ih=>
  intro us r
  rw[List.map_cons] at r
  cases r with
  |cons r1 r2=>
   obtain⟨t,e⟩:=r1
   subst e
   exact .cons n t (ih r2)
section
variable{X:Cx}{e:Expr}{te:TE}{lo hi:Option Expr}{tl th:TO}{pos p2:Pos}
theorem JZ:PO X none JD:=by
 intro pins s σ H Q I h
 rw[evalPart_none]
 exact wpAny_pure ⟨none,H,I,.none,h⟩
theorem JY(h:PE X e te):PO X (some e) (zG4 te):=by
 intro pins s σ H Q I hw
 rw[evalPart_some]
 refine thn (h pins s σ H _ I hw) fun u s1 ⟨x,H1,I1,r1,q1⟩=>?_
 obtain⟨i,rfl,q⟩:=q1
 obtain⟨t,rfl⟩:=r1
 exact⟨some i,H1,I1,.int i t,q⟩
noncomputable def SlR(X:Cx)(r:V->Option Int->Option Int->Hp->VK->Prop):Prop:=
 ∀(pins:List (Addr×Obj)) (s:Shared) (σ:St) (H:Hp) (x:V) (v vl vu:Value) (lo hi:Option Int) (sl:Addr) (Q:VK),Inv X pins σ H s->RelV x v->s.heap.IsSliceOf sl vl vu .none->IsPart vl lo->IsPart vu hi->r x lo hi H Q ->
  ∃T id,typeLookup (.type T) "__getitem__" = pure (some (.builtin id))/\s.TypeIs v T/\wpAny (model X.prog X.w) X.A (getItem v (.ref sl)) (EP X pins σ Q) X.xe s
theorem SlR.or{r r':V->Option Int->Option Int->Hp->VK->Prop}(h:SlR X r)(h':SlR X r'):SlR X (fun x lo hi H Q=>r x lo hi H Q\/r' x lo hi H Q):=by
 intro pins s σ H x v vl vu lo hi sl Q I rx hs pl pu q
 rcases q with q|q
 ·exact h pins s σ H x v vl vu lo hi sl Q I rx hs pl pu q
 ·exact h' pins s σ H x v vl vu lo hi sl Q I rx hs pl pu q
noncomputable def tSl(r:V->Option Int->Option Int->Hp->VK->Prop)(te:TE)(tl th:TO):TE:=fun σ H Q=>te σ H fun x H1=>tl σ H1 fun l H2=>th σ H2 fun u H3=>r x l u H3 Q
theorem XQ{r:V->Option Int->Option Int->Hp->VK->Prop}(hr:SlR X r)(he:PE X e te)(hl:PO X lo tl)(hu:PO X hi th):PE X (.Subscript e (.Slice lo hi none p2) pos) (tSl r te tl th):=by
 intro pins s σ H Q I h
 refine Subscript_ (thn (he pins s σ H _ I h) fun v s1 ⟨x,H1,I1,r1,q1⟩=>?_)
 refine wpAny_Slice (thn (hl pins s1 σ H1 _ I1 q1) fun vl s2 ⟨l,H2,I2,pl,q2⟩=>thn (hu pins s2 σ H2 _ I2 q2) fun vu s3 ⟨u,H3,I3,pu,q3⟩=>?_)
 rw[evalPart_none]
 refine wpAny_pure ?_
 have I4:Inv X pins σ H3 { s3 with heap:=s3.heap.push { cls:=.type "slice",data:=.fields #[vl,vu,.none] } }:=I3.kept (t':=s3.toks) fun b ob q=>Heap.get?_push_of_some _ q
 obtain⟨T,id,hT,ht,hg⟩:=hr pins { s3 with heap:=s3.heap.push { cls:=.type "slice",data:=.fields #[vl,vu,.none] } } σ H3 x v vl vu l u s3.heap.objs.size Q I4 r1 (Heap.IsSliceOf.new ..) pl pu q3
 show wpAny (model X.prog X.w) X.A (subscriptTail e (.Slice lo hi none p2) v (.ref s3.heap.objs.size)) (EP X pins σ Q) X.xe { s3 with heap:=s3.heap.push { cls:=.type "slice",data:=.fields #[vl,vu,.none] } }
 exact tail_any (ops:=[.ref s3.heap.objs.size,v]) ht hT hg (by with_unfolding_all rfl)
noncomputable def zDG(xs:List V)(lo hi:Option Int):List V:=(xs.drop (HT.sIx xs.length 0 lo)).take (HT.sIx xs.length xs.length hi-HT.sIx xs.length 0 lo)
theorem vI(xs:List V)(lo hi:Option Int):(zDG xs lo hi).length<=xs.length:=by
 unfold zDG
 rw[List.length_take,List.length_drop]
 omega
noncomputable def zIX(K:Fg):V->Option Int->Option Int->Hp->VK->Prop:=fun x lo hi H Q=>∃a xs,x=.ref a/\SqT K H a xs /\
 ¬(HT.sIx xs.length 0 lo=0/\HT.sIx xs.length xs.length hi=xs.length)/\∀p,H p=none->Q (.ref p) (upd H p (.tup (zDG xs lo hi)))
theorem sl_tup:SlR X (zIX X.K):=by
 intro pins s σ H x v vl vu lo hi sl Q I rx hs pl pu h
 obtain⟨a,xs,rfl,hx,hw,q⟩:=h
 cases rx
 obtain⟨its,r,ht,hz⟩:=I.tuple hx
 have hlen:its.toArray.size=xs.length:=by rw[List.size_toArray];exact r.length.symm
 refine⟨"tuple",_,PyProof.Rows.slot_tuple_getitem.lookup,ht.typeIs,?_⟩
 refine HT.getItem_tuple_cut ht hs pl pu (by rw[hlen];exact hw) ?_ (by rw[hlen];exact hz)
 rw[hlen]
 refine⟨.ref s.heap.objs.size,_,I.laid (t':=s.toks) (o:=.tup (zDG xs lo hi)) (fun b ob q=>Heap.get?_push_of_some _ q) (Nat.le_refl _) ?_,rfl,q _ (I.hok.fresh (Nat.le_refl _))⟩
 exact⟨Nat.le_trans (vI xs lo hi) hz,_,(r.drop (HT.sIx xs.length 0 lo)).take (HT.sIx xs.length xs.length hi-HT.sIx xs.length 0 lo),IsTup.new _ _⟩
noncomputable def zFY(K:Fg):R2:=fun x y H Q=>∃a b xs ys,x=.ref a/\y=.ref b/\SqT K H a xs/\SqT K H b ys/\xs≠[]/\xs.length+ys.length<=sizeLine /\
 (ys=[]->Q (.ref a) H)/\(ys≠[]->∀p,H p=none->Q (.ref p) (upd H p (.tup (xs++ys))))
theorem Vals.nil_iff{xs:List V}{us:List Value}(r:Vals xs us):us=[]↔xs=[]:=by
 cases r with
 |nil=>simp
 |cons _ _=>simp
theorem zAG:OpR X (binaryOp .Add) (zFY X.K):=by
 intro pins s σ H x y v u Q I rx ry h
 obtain⟨a,b,xs,ys,rfl,rfl,ha,hb,hx,hz,q1,q2⟩:=h
 cases rx
 cases ry
 obtain⟨its,r1,p1,_⟩:=I.tuple ha
 obtain⟨its2,r2,p2,_⟩:=I.tuple hb
 refine HT.cat_tup p1 p2 (fun z=>hx (r1.nil_iff.mp z)) (fun z=>⟨.ref a,H,I,rfl,q1 (r2.nil_iff.mp z)⟩) (fun z=>?_) (by rw[<-r1.length,<-r2.length];exact hz)
 refine⟨.ref s.heap.objs.size,_,I.laid (t':=s.toks) (o:=.tup (xs++ys)) (fun b ob q=>Heap.get?_push_of_some _ q) (Nat.le_refl _) ?_,rfl,q2 (fun w=>z (r2.nil_iff.mpr w)) _ (I.hok.fresh (Nat.le_refl _))⟩
 exact⟨by rw[List.length_append];exact hz,_,r1.append r2,IsTup.new _ _⟩
end
end L2
namespace L2
open PySem PySem.Spec PyProof.Rows
noncomputable def ixN(n:Nat)(i:Int):Option Nat:=if 0<=i then (if i<n then some i.toNat else none) else if -(n:Int)<=i then some (i+n).toNat else none
noncomputable def atI{α:Type}(xs:List α)(i:Int):Option α:=(ixN xs.length i).bind fun j=>xs[j]?
theorem zBL{n:Nat}{i:Int}{j:Nat}(h:ixN n i=some j):seqIndex? i n=some j/\j<n/\-(n:Int)<=i/\i<n:=by
 unfold ixN at h
 by_cases h0:0<=i
 ·rw[if_pos h0] at h
  by_cases h1:i<n
  ·rw[if_pos h1] at h
   have e:i.toNat=j:=Option.some.inj h
   exact⟨by rw[seqIndex_of h0 h1,e],by omega,by omega,h1⟩
  ·rw[if_neg h1] at h;cases h
 ·rw[if_neg h0] at h
  by_cases h1 : -(n:Int)<=i
  ·rw[if_pos h1] at h
   have e:(i+n).toNat=j:=Option.some.inj h
   exact⟨by rw[seqIndex_neg (by omega) h1,e],by omega,h1,by omega⟩
  ·rw[if_neg h1] at h;cases h
theorem oV{α:Type}{xs:List α}{i:Int}{v:α}(h:atI xs i=some v):∃j,seqIndex? i xs.length=some j/\xs[j]?=some v/\j<xs.length/\-(xs.length:Int)<=i/\i<xs.length:=by
 unfold atI at h
 cases e:ixN xs.length i with
 |none=>rw[e] at h;cases h
 |some j=>
  rw[e] at h
  obtain⟨h1,h2,h3,h4⟩:=zBL e
  exact⟨j,h1,h,h2,h3,h4⟩
theorem xS{α:Type}{xs:List α}{j:Nat}{v:α}(h:xs[j]?=some v):atI xs (j:Int)=some v:=by
 have hj:j<xs.length:=(List.getElem?_eq_some_iff.mp h).1
 have e:ixN xs.length (j:Int)=some j:=by
  unfold ixN
  rw[if_pos (by omega),if_pos (by omega)];simp
 unfold atI;rw[e];exact h
noncomputable def vK(b:Expr):Prop:=∀o i,subscripted b false o i=operate [o,i] (getItem o i)
noncomputable def IxR(X:Cx)(r:R2):Prop:=
 ∀(value slice:Expr) (pins:List (Addr×Obj)) (s:Shared) (σ:St) (H:Hp) (x y:V) (v u:Value) (Q:VK),Inv X pins σ H s->RelV x v->RelV y u->r x y H Q ->
  subscripted slice false v u=operate [v,u] (getItem v u)->wpAny (model X.prog X.w) X.A (subscriptTail value slice v u) (EP X pins σ Q) X.xe s
noncomputable def MtR(X:Cx)(id:String)(r:V->List V->Hp->VK->Prop):Prop:=
 ∀(pins:List (Addr×Obj)) (s:Shared) (σ:St) (H:Hp) (x:V) (xs:List V) (v:Value) (us:List Value) (Q:VK),Inv X pins σ H s->RelV x v->Vals xs us->r x xs H Q ->
  wpAny (model X.prog X.w) X.A (call (.builtin id) (v::us)) (EP X pins σ Q) X.xe s
section
variable{X:Cx}{a b:Expr}{ta tb:TE}{pos:Pos}
theorem IxR.or{r r':R2}(h:IxR X r)(h':IxR X r'):IxR X (fun x y H Q=>r x y H Q\/r' x y H Q):=by
 intro value slice pins s σ H x y v u Q I rx ry q hs
 rcases q with q|q
 ·exact h value slice pins s σ H x y v u Q I rx ry q hs
 ·exact h' value slice pins s σ H x y v u Q I rx ry q hs
theorem J9{r:R2}(hr:IxR X r)(ha:PE X a ta)(hb:PE X b tb)(hs:vK b):PE X (.Subscript a b pos) (tOp r ta tb):=by
 intro pins s σ H Q I h
 exact Subscript_ (zIQ ha hb I h fun v u s2 x y H2 I2 rx ry q=>hr a b pins s2 σ H2 x y v u Q I2 rx ry q (hs _ _))
noncomputable def zI5(K:Fg):R2:=fun x y H Q=>∃p xs i v,x=.ref p/\y=.int i/\SqL K H p xs/\atI xs i=some v/\Q v H
noncomputable def zI3(K:Fg):R2:=fun x y H Q=>∃p xs i v,x=.ref p/\y=.int i/\SqT K H p xs/\atI xs i=some v/\Q v H
noncomputable def zI4:R2:=fun x y H Q=>∃z i c,x=.str z/\y=.int i/\z.length<=sizeLine/\atI z.cps.toList i=some c/\Q (.str ⟨#[c]⟩) H
theorem ix_list:IxR X (zI5 X.K):=by
 intro value slice pins s σ H x y v u Q I rx ry h hs
 obtain⟨p,xs,i,z,rfl,rfl,hq,he,q⟩:=h
 cases rx
 obtain⟨t,rfl⟩:=ry
 obtain⟨its,r,pl,hz⟩:=I.list hq
 obtain⟨j,h1,h2,h3,h4,h5⟩:=oV he
 obtain⟨w,ew,rw'⟩:=r.get h2
 have hl:=r.length
 have hn:=d7
 have fin:EP X pins σ Q w s:=⟨z,H,I,rw',q⟩
 by_cases h0:0<=i
 ·have hj:i.toNat=j:=by
   rw[seqIndex_of h0 h5] at h1
   exact Option.some.inj h1
  exact item_listR pl.isList h0 (by omega) (by rw[hj];simpa using ew) fin hs
 ·have hj:(i+(its.toArray.size:Int)).toNat=j:=by
   rw[seqIndex_neg (by omega) h4] at h1
   rw[List.size_toArray,<-hl]
   exact Option.some.inj h1
  exact subscriptTail_builtinR (x:=w) pl.isList.typeIs slot_list_getitem.lookup
   (wpAny_getItem_list_neg (Q:=fun r s'=>r=w/\EP X pins σ Q r s') pl.isList (by omega) (by rw[List.size_toArray]<;>omega) (by omega) (by rw[hj];simpa using ew) ⟨rfl,fin⟩) hs
theorem ix_tup:IxR X (zI3 X.K):=by
 intro value slice pins s σ H x y v u Q I rx ry h hs
 obtain⟨p,xs,i,z,rfl,rfl,hq,he,q⟩:=h
 cases rx
 obtain⟨t,rfl⟩:=ry
 obtain⟨its,r,pl,hz⟩:=I.tuple hq
 obtain⟨j,h1,h2,h3,h4,h5⟩:=oV he
 obtain⟨w,ew,rw'⟩:=r.get h2
 have hl:=r.length
 have hn:=d7
 have fin:EP X pins σ Q w s:=⟨z,H,I,rw',q⟩
 exact subscriptTail_builtinR (x:=w) pl.typeIs slot_tuple_getitem.lookup
  (getItem_tuple (j:=j) (Q:=fun r s'=>r=w/\EP X pins σ Q r s') pl (by omega) (by omega) (by rw[List.size_toArray,<-hl];exact h1) (by simpa using ew) ⟨rfl,fin⟩) hs
theorem zFA:IxR X zI4:=by
 intro value slice pins s σ H x y v u Q I rx ry h hs
 obtain⟨z,i,c,rfl,rfl,hz,he,q⟩:=h
 obtain⟨t,rfl⟩:=rx
 obtain⟨t',rfl⟩:=ry
 obtain⟨j,h1,h2,h3,h4,h5⟩:=oV he
 have hl:z.cps.toList.length=z.length:=by simp[Str.length]
 rw[hl] at h1 h4 h5
 have hn:=d7
 exact tail_any (typeIs_str s z t) slot_str_getitem.lookup (getItem_str (c:=c) (by
  have e1:decide (i < -(2 ^ 63:Int))=false:=decide_eq_false (by omega)
  have e2:decide (i ≥ 2 ^ 63)=false:=decide_eq_false (by omega)
  rw[e1,e2,Bool.or_false]) (by rw[h1];simpa using h2) ⟨.str ⟨#[c]⟩,H,I.tok _,⟨_,rfl⟩,q⟩) hs
noncomputable def rIx(K:Fg):R2:=fun x y H Q=>zI5 K x y H Q\/zI3 K x y H Q\/zI4 x y H Q
theorem zBK:IxR X (rIx X.K):=ix_list.or (ix_tup.or zFA)
theorem bQ(lo hi:Option Int)(n:Nat):(sliceBounds lo hi none n).1=((HT.sIx n 0 lo:Nat):Int)/\(sliceBounds lo hi none n).2.1=((HT.sIx n n hi:Nat):Int)/\(sliceBounds lo hi none n).2.2=1:=by
 refine⟨?_,?_,rfl⟩
 ·cases lo with
  |none=>simp[sliceBounds,HT.sIx]
  |some i=>
   simp only[sliceBounds,HT.sIx,Option.getD_none,show(1:Int) > 0 by decide,if_true]
   by_cases h:i<0
   ·simp only[h,if_true]<;>omega
   ·simp only[h,if_false]<;>omega
 ·cases hi with
  |none=>simp[sliceBounds,HT.sIx]
  |some i=>
   simp only[sliceBounds,HT.sIx,Option.getD_none,show(1:Int) > 0 by decide,if_true]
   by_cases h:i<0
   ·simp only[h,if_true]<;>omega
   ·simp only[h,if_false]<;>omega
theorem vV(its:List Value)(lo hi:Option Int):slicePick its.toArray lo hi none=((its.drop (HT.sIx its.length 0 lo)).take (HT.sIx its.length its.length hi-HT.sIx its.length 0 lo)).toArray:=by
 obtain⟨h1,h2,h3⟩:=bQ lo hi its.toArray.size
 unfold slicePick
 rw[h1,h2,h3]
 simp only[sliceRange_one,pick_run,List.size_toArray]<;>rfl
noncomputable def zIZ(K:Fg):V->Option Int->Option Int->Hp->VK->Prop:=fun x lo hi H Q=>∃a xs,x=.ref a/\SqL K H a xs/\∀p,H p=none->Q (.ref p) (upd H p (.lst (zDG xs lo hi)))
theorem sl_list:SlR X (zIZ X.K):=by
 intro pins s σ H x v vl vu lo hi sl Q I rx hs pl pu h
 obtain⟨a,xs,rfl,hx,q⟩:=h
 cases rx
 obtain⟨its,r,ht,hz⟩:=I.list hx
 have hlen:=r.length
 refine⟨"list",_,slot_list_getitem.lookup,ht.isList.typeIs,?_⟩
 refine wpAny_getItem_list_slice ht.isList hs pl pu .none (by simp) ?_ (by rw[List.size_toArray]<;>omega)
 rw[vV,<-hlen]
 refine⟨.ref s.heap.objs.size,_,I.laid (t':=s.toks) (o:=.lst (zDG xs lo hi)) (fun b ob q=>Heap.get?_push_of_some _ q) (Nat.le_refl _) ?_,rfl,q _ (I.hok.fresh (Nat.le_refl _))⟩
 exact⟨Nat.le_trans (vI xs lo hi) hz,_,0,(r.drop (HT.sIx xs.length 0 lo)).take (HT.sIx xs.length xs.length hi-HT.sIx xs.length 0 lo),Heap.get?_push_size _ rfl⟩
noncomputable def bK:V->Bool
 |.non=>true
 |.bl _=>true
 |.int _=>true
 |.str _=>true
 |_=>false
noncomputable def eqV:V->V->Bool
 |.non,.non=>true
 |.bl a,.bl b=>a == b
 |.bl a,.int b=>(if a then 1 else 0) == b
 |.int a,.bl b=>a == (if b then 1 else 0)
 |.int a,.int b=>a == b
 |.str a,.str b=>a == b
 |_,_=>false
theorem zFI{A:Around}{s:Shared}{y x:V}{u v:Value}(ry:RelV y u)(rx:RelV x v)(fy:bK y=true)(fx:bK x=true):SeqAt.EqAt A s u v (eqV y x):=by
 cases y with
 |non=>
  cases ry
  cases x with
  |non=>cases rx;exact SeqAt.EqAt.same _
  |bl b=>cases rx;exact SeqAt.EqAt.none_bool b
  |int b=>obtain⟨t,rfl⟩:=rx;exact SeqAt.EqAt.none_int b t
  |str b=>obtain⟨t,rfl⟩:=rx;exact SeqAt.EqAt.none_str b t
  |_=>exact absurd (show false=true from fx) Bool.false_ne_true
 |bl a=>
  cases ry
  cases x with
  |non=>cases rx;exact SeqAt.EqAt.bool_none a
  |bl b=>cases rx;exact SeqAt.EqAt.bool_bool a b
  |int b=>obtain⟨t,rfl⟩:=rx;exact SeqAt.EqAt.bool_int a b t
  |str b=>obtain⟨t,rfl⟩:=rx;exact SeqAt.EqAt.bool_str a b t
  |_=>exact absurd (show false=true from fx) Bool.false_ne_true
 |int a=>
  obtain⟨t',rfl⟩:=ry
  cases x with
  |non=>cases rx;exact SeqAt.EqAt.int_none a t'
  |bl b=>cases rx;exact SeqAt.EqAt.int_bool a t' b
  |int b=>obtain⟨t,rfl⟩:=rx;exact SeqAt.EqAt.int_int a t' b t
  |str b=>obtain⟨t,rfl⟩:=rx;exact SeqAt.EqAt.int_str a t' b t
  |_=>exact absurd (show false=true from fx) Bool.false_ne_true
 |str a=>
  obtain⟨t',rfl⟩:=ry
  cases x with
  |non=>cases rx;exact SeqAt.EqAt.str_none a t'
  |bl b=>cases rx;exact SeqAt.EqAt.str_bool a t' b
  |int b=>obtain⟨t,rfl⟩:=rx;exact SeqAt.EqAt.str_int a t' b t
  |str b=>obtain⟨t,rfl⟩:=rx;exact SeqAt.EqAt.str_str a t' b t
  |_=>exact absurd (show false=true from fx) Bool.false_ne_true
 |_=>exact absurd (show false=true from fy) Bool.false_ne_true
theorem call_len_seq:CallR X (.builtin "len") (fun xs H Q=>∃p ys,xs=[.ref p]/\(SqL X.K H p ys\/SqT X.K H p ys)/\Q (.int ys.length) H):=by
 intro pins s σ H xs us Q I r h
 obtain⟨p,ys,rfl,hq,q⟩:=h
 obtain⟨u,rfl,rx⟩:=W1 r
 cases rx
 have hn:=d7
 rcases hq with hq|hq
 ·obtain⟨its,r',pl,hz⟩:=I.list hq
  have hlen:=r'.length
  exact Calls.call_len_list pl.isList (by simp only[List.size_toArray]<;>omega) ⟨.int ys.length,H,I.tok _,⟨s.toks+1,by rw[List.size_toArray,hlen]⟩,q⟩
 ·obtain⟨its,r',pl,hz⟩:=I.tuple hq
  have hlen:=r'.length
  exact len_tuple pl (by simp only[List.size_toArray]<;>omega) ⟨.int ys.length,H,I.tok _,⟨s.toks+1,by rw[List.size_toArray,hlen]⟩,q⟩
theorem b0:CallR X (.builtin "len") (fun xs H Q=>∃z,xs=[.str z]/\z.length<=sizeLine/\Q (.int z.length) H):=by
 intro pins s σ H xs us Q I r h
 obtain⟨z,rfl,hz,q⟩:=h
 obtain⟨u,rfl,t,rfl⟩:=W1 r
 have hn:=d7
 exact len_str (by omega) ⟨.int z.length,H,I.tok _,⟨_,rfl⟩,q⟩
theorem CallR.or{f:Value}{r r':List V->Hp->VK->Prop}(h:CallR X f r)(h':CallR X f r'):CallR X f (fun xs H Q=>r xs H Q\/r' xs H Q):=by
 intro pins s σ H xs us Q I rs q
 rcases q with q|q
 ·exact h pins s σ H xs us Q I rs q
 ·exact h' pins s σ H xs us Q I rs q
theorem uR:CallR X (.type "tuple") (fun xs H Q=>∃p ys,xs=[.ref p]/\((SqL X.K H p ys/\∀l,H l=none->Q (.ref l) (upd H l (.tup ys)))\/(SqT X.K H p ys/\Q (.ref p) H))):=by
 intro pins s σ H xs us Q I r h
 obtain⟨p,ys,rfl,h⟩:=h
 obtain⟨u,rfl,rx⟩:=W1 r
 cases rx
 rcases h with⟨hq,q⟩|⟨hq,q⟩
 ·obtain⟨its,r',pl,hz⟩:=I.list hq
  have hlen:=r'.length
  refine call_tuple_list pl.isList (fun h' kp=>?_) (by simp only[List.size_toArray]<;>omega)
  have I1:Inv X pins σ H { s with heap:=h' }:=I.kept (t':=s.toks) kp
  have I2:Inv X pins σ (upd H h'.objs.size (.tup ys)) { s with heap:=h'.push { cls:=.type "tuple",data:=.seq its.toArray } }:=
   I1.laid (t':=s.toks) (fun b o e=>Heap.get?_push_of_some _ e) (Nat.le_refl _) (show ObjOk X.prog X.w _ _ _ (.tup ys) from⟨hz,its,r',IsTup.new _ _⟩)
  exact⟨.ref h'.objs.size,_,I2,rfl,q _ (I1.hok.fresh (Nat.le_refl _))⟩
 ·obtain⟨its,r',pl,hz⟩:=I.tuple hq
  exact call_tuple_same pl ⟨.ref p,H,I,rfl,q⟩
noncomputable def tyV(K:Fg)(T:String)(x:V)(H:Hp):Prop:=match x with
 |.str _=>T = "str"
 |.int _=>T = "int"
 |.ref p=>(T = "list" /\ ∃xs,SqL K H p xs)\/(T = "tuple" /\ ∃o,K.lookup p=some o/\o.cls=.type "tuple" /\ o.dict=none) \/
   (T = "dict" /\ ((∃kvs,H p=some (.dK kvs))\/∃kvs,H p=some (.dT kvs)))\/(T = "set" /\ ∃S n,H p=some (.set S n))
 |_=>False
theorem Q7{pins:List (Addr×Obj)}{σ:St}{H:Hp}{s:Shared}{T:String}{x:V}{v:Value}(I:Inv X pins σ H s)(r:RelV x v)(ty:tyV X.K T x H):s.TypeIs v T/\∀a,v=.ref a->∃ob,s.heap.get? a=some ob/\ob.dict=none:=by
 cases x with
 |str z=>
  obtain⟨t,rfl⟩:=r
  cases (show T = "str" from ty)
  exact⟨typeIs_str s z t,fun _ e=>nomatch e⟩
 |int i=>
  obtain⟨t,rfl⟩:=r
  cases (show T = "int" from ty)
  exact⟨typeIs_int s i t,fun _ e=>nomatch e⟩
 |ref p=>
  cases r
  rcases ty with⟨rfl,xs,hq⟩|⟨rfl,o,hk,hc,hd⟩|⟨rfl,hk⟩|⟨rfl,S,n,hk⟩
  ·obtain⟨its,_,pl,_⟩:=I.list hq
   refine⟨pl.isList.typeIs,fun a e=>?_⟩
   cases e
   obtain⟨o,n,e,c,hd,_⟩:=pl
   exact⟨o,e,hd⟩
  ·refine⟨⟨o,I.kIn p o hk,hc⟩,fun a e=>?_⟩
   cases e
   exact⟨o,I.kIn _ o hk,hd⟩
  ·have z:∃o,s.heap.get? p=some o/\o.ExactDict:=by
    rcases hk with⟨kvs,hk⟩|⟨kvs,hk⟩
    ·obtain⟨_,_,_,_,o,_,_,e,ex,_⟩:=I.hok p _ hk
     exact⟨o,e,ex⟩
    ·obtain⟨_,_,_,_,o,_,_,e,ex,_⟩:=I.hok p _ hk
     exact⟨o,e,ex⟩
   obtain⟨o,e,ex⟩:=z
   refine⟨⟨o,e,ex.1⟩,fun a e2=>?_⟩
   cases e2
   exact⟨o,e,ex.2.1⟩
  ·obtain⟨o,_,_,_,e,ex,_⟩:=I.hok p _ hk
   refine⟨⟨o,e,ex.1⟩,fun a e2=>?_⟩
   cases e2
   exact⟨o,e,ex.2.1⟩
 |_=>exact False.elim ty
noncomputable def zIV(K:Fg)(T:String)(r:V->List V->Hp->VK->Prop)(to:TE):TE:=fun σ H Q=>to σ H fun x H1=>tyV K T x H1/\r x [] H1 Q
noncomputable def tBM(K:Fg)(T:String)(r:V->List V->Hp->VK->Prop)(to:TE)(t:TA):TE:=fun σ H Q=>to σ H fun x H1=>tyV K T x H1/\t σ H1 fun xs H2=>r x xs H2 Q
variable{o e:Expr}{es:List Expr}{to:TE}{t:TA}{name:Str}{apos cpos:Pos}{T id:String}{r:V->List V->Hp->VK->Prop}
theorem p7(pa:PlainAttrs T)(slot:Slot T name id)(hty:typeOf (.builtin id)=pure (.type "method_descriptor"))(hm:MtR X id r)(ho:PE X o to)(hbase:attributeBase o name X.env (eval o X.env)=eval o X.env:=by rfl)(hline:(apos.endLine == cpos.line)=true:=by rfl):PE X (.Call (.Attribute o name apos) [] [] cpos) (zIV X.K T r to):=by
 intro pins s σ H Q I h
 refine wpAny_Call_method0_late hbase hline (thn (ho pins s σ H _ I h) fun v s1 ⟨x,H1,I1,r1,ty,q1⟩=>?_)
 obtain⟨h1,h2⟩:=Q7 I1 r1 ty
 exact⟨T,id,pa,slot,hty,h1,h2,Calls.callWith_builtin rfl (PySem.evalArgs_none (hm pins s1 σ H1 x [] v [] Q I1 r1 .nil q1))⟩
theorem p8(pa:PlainAttrs T)(slot:Slot T name id)(hty:typeOf (.builtin id)=pure (.type "method_descriptor"))(hm:MtR X id r)(ho:PE X o to)(ha:PA X (e::es) t)(hbase:attributeBase o name X.env (eval o X.env)=eval o X.env:=by rfl)(hfew:((backTo cpos (starEach (e::es) X.env)).all (fun x=>!x.1) && (backToKw cpos (keywordEach [] X.env)).all (fun x=>x.1.isSome)
   && decide ((e::es).length+([]:List Keyword).length+(if ([]:List Keyword).isEmpty then 0 else 1)<30))=true:=by rfl)(hline:(apos.endLine == cpos.line)=true:=by rfl)(hs:starEach (e::es) X.env=(false,eval e X.env)::starEach es X.env:=by rfl)(hplain:(backTo cpos (starEach es X.env)).any (·.1)=false:=by rfl):PE X (.Call (.Attribute o name apos) (e::es) [] cpos) (tBM X.K T r to t):=by
 intro pins s σ H Q I h
 refine wpAny_Call_method_late hbase hfew hline rfl (thn (ho pins s σ H _ I h) fun v s1 ⟨x,H1,I1,r1,ty,q1⟩=>?_)
 obtain⟨h1,h2⟩:=Q7 I1 r1 ty
 refine⟨T,id,pa,slot,hty,h1,h2,?_⟩
 have hA:=ha cpos pins s1 σ H1 _ I1 q1
 rw[hs] at hA ⊢
 refine Calls.callWith_builtin (by show(false || (backTo cpos (starEach es X.env)).any (·.1))=false;rw[hplain]<;>rfl) (Calls.evalArgs_plain ?_)
 exact thn hA fun us s2 ⟨vs,H2,I2,r2,q2⟩=>hm pins s2 σ H2 x vs v us Q I2 r1 r2 q2
end
end L2
namespace L2
open PySem PySem.Spec PyProof.Rows
noncomputable def MtM(X:Cx)(id:String)(r:V->List V->Hp->VK->Prop):Prop:=
 ∀(pins:List (Addr×Obj)) (s:Shared) (σ:St) (H:Hp) (x:V) (xs:List V) (v:Value) (us:List Value) (Q:VK),Inv X pins σ H s->RelV x v->Vals xs us->r x xs H Q ->
  wpAny (model X.prog X.w) X.A (call (.builtin id) (v::us)) (EP X pins σ Q) X.xe s
theorem Vals.one:∀{x:V} {us:List Value},Vals [x] us->∃u,us=[u]/\RelV x u
 |_,_,.cons r .nil=>⟨_,rfl,r⟩
theorem Vals.two:∀{x y:V} {us:List Value},Vals [x,y] us->∃u v,us=[u,v]/\RelV x u/\RelV y v
 |_,_,_,.cons r (.cons q .nil)=>⟨_,_,rfl,r,q⟩
theorem Vals.zero:∀{us:List Value},Vals [] us->us=[]
 |_,.nil=>rfl
theorem Vals.dropLast{xs:List V}{us:List Value}(h:Vals xs us):Vals xs.dropLast us.dropLast:=by
 induction h with
 |nil=>exact .nil
 |cons r t ih=>
  cases t with
  |nil=>exact .nil
  |cons q t'=>exact .cons r ih
theorem Vals.eraseIdx:∀{xs:List V} {us:List Value} (i:Nat),Vals xs us->Vals (xs.eraseIdx i) (us.eraseIdx i)
 |_,_,_,.nil=>.nil
 |_,_,0,.cons _ t=>t
 |_,_,i+1,.cons r t=>.cons r (Vals.eraseIdx i t)
theorem Vals.reverse{xs:List V}{us:List Value}(h:Vals xs us):Vals xs.reverse us.reverse:=by
 induction h with
 |nil=>exact .nil
 |cons r t ih=>rw[List.reverse_cons,List.reverse_cons];exact Vals.append ih (.cons r .nil)
theorem mZ{α:Type}(l:List α):l.eraseIdx (l.length-1)=l.dropLast:=by
 induction l with
 |nil=>rfl
 |cons a r ih=>
  cases r with
  |nil=>rfl
  |cons b r=>
   have e:(a::b::r).length-1=((b::r).length-1)+1:=by
    have h1:(a::b::r).length=r.length+2:=rfl
    have h2:(b::r).length=r.length+1:=rfl
    omega
   rw[e,List.eraseIdx_cons_succ,ih]
   all_goals rfl
theorem d8{α:Type}:∀(l:List α) (i:Nat),(l.eraseIdx i).length<=l.length
 |[],_=>Nat.le_refl _
 |_::_,0=>Nat.le_succ _
 |_::r,i+1=>Nat.succ_le_succ (d8 r i)
section
variable{X:Cx}{pins:List (Addr×Obj)}{σ:St}{H:Hp}{s:Shared}{l b:Addr}{xs ys zs:List V}
theorem Inv.lset{its its':List Value}{n:Nat}{f:Array Value->Array Value}{t':Nat}(I:Inv X pins σ H s)(hH:H l=some (.lst xs))(e:s.heap.get? l=some { cls:=.type "list",data:=.seq its.toArray n })(hf:f its.toArray=its'.toArray)(hv:Vals ys its')(hz:ys.length<=sizeLine):Inv X pins σ (upd H l (.lst ys)) { s with heap:=s.heap.update l (Obj.mapSeq f),toks:=t' }:=by
 have q:=PySem.IsL.update e f
 rw[hf] at q
 refine I.write (x:=l) (e:=l) (by rw[hH];exact trivial) (.inl rfl) (fun b' u hb hu=>(Heap.get?_update_other s.heap (Obj.mapSeq f) (Ne.symm hb)).trans hu) ⟨_,q⟩ ?_
 exact⟨hz,its',_,hv,q⟩
theorem Inv.lnew{its:List Value}{t':Nat}(I:Inv X pins σ H s)(hv:Vals ys its)(hz:ys.length<=sizeLine):Inv X pins σ (upd H s.heap.objs.size (.lst ys)) { s with heap:=s.heap.push { cls:=.type "list",data:=.seq its.toArray },toks:=t' }:=
 I.laid (fun _ _ q=>Heap.get?_push_of_some _ q) (Nat.le_refl _) ⟨hz,its,0,hv,Heap.get?_push_size _ rfl⟩
theorem Inv.fresh(I:Inv X pins σ H s):H s.heap.objs.size=none:=I.hok.fresh (Nat.le_refl _)
theorem Inv.lstM(I:Inv X pins σ H s)(hH:H l=some (.lst xs)):xs.length<=sizeLine/\∃(its:List Value) (n:Nat),Vals xs its/\xs.length=its.length/\s.heap.get? l=some { cls:=.type "list",data:=.seq its.toArray n }:=by
 obtain⟨z,its,n,r,e⟩:=I.hok l _ hH
 exact⟨z,its,n,r,r.length,e⟩
theorem X2{n:Nat}(h:n<=sizeLine):Builtin.List.listTooLong n=false:=by
 unfold Builtin.List.listTooLong
 exact decide_eq_false (by omega)
end
section
variable{X:Cx}
noncomputable def JQ:V->List V->Hp->VK->Prop:=fun x vs H Q=>∃l xs y,x=.ref l/\vs=[y]/\H l=some (.lst xs)/\xs.length<sizeLine/\Q .non (upd H l (.lst (xs++[y])))
theorem jD:MtM X "list.append" JQ:=by
 intro pins s σ H x vs v us Q I rx rv h
 obtain⟨l,xs,y,rfl,rfl,hH,hz,q⟩:=h
 cases rx
 obtain⟨u,rfl,ru⟩:=rv.one
 obtain⟨z,its,n,r,hl,e⟩:=I.lstM hH
 refine call_meets F.slot_list_append ⟨_,e,rfl⟩ F.entry_list_append (F.args_list_append_2 _ _) (PySem.list_append l its.toArray n u (by rw[List.size_toArray];omega)) ⟨e,?_⟩
 refine⟨.non,_,I.lset (its':=its++[u]) hH e (by simp) (r.append (.cons ru .nil)) ?_,rfl,q⟩
 rw[List.length_append,List.length_singleton]
 omega
noncomputable def zI0:V->List V->Hp->VK->Prop:=fun x vs H Q=>∃l xs y,x=.ref l/\vs=[]/\H l=some (.lst xs)/\xs[xs.length-1]?=some y/\Q y (upd H l (.lst xs.dropLast))
theorem rJ:MtM X "list.pop" zI0:=by
 intro pins s σ H x vs v us Q I rx rv h
 obtain⟨l,xs,y,rfl,rfl,hH,hy,q⟩:=h
 cases rx
 have hus:=rv.zero
 subst hus
 obtain⟨z,its,n,r,hl,e⟩:=I.lstM hH
 obtain⟨u,hu,ru⟩:=r.get hy
 have hy':its.toArray[its.toArray.size-1]?=some u:=by
  show its.toArray[its.length-1]?=some u
  rw[<-Array.getElem?_toList,<-hl]
  exact hu
 refine call_meets F.slot_list_pop ⟨_,e,rfl⟩ F.entry_list_pop (F.args_list_pop_1 _) (MeetsSeq.list_pop_last l its.toArray n u hy' (by rw[List.size_toArray];omega)) ⟨e,?_⟩
 refine⟨y,_,I.lset (its':=its.dropLast) hH e ?_ r.dropLast ?_,ru,q⟩
 ·show its.toArray.eraseIdxIfInBounds (its.toArray.size-1)=its.dropLast.toArray
  rw[List.size_toArray,List.eraseIdxIfInBounds_toArray,mZ]
 ·rw[List.length_dropLast]
  omega
noncomputable def zD8:V->List V->Hp->VK->Prop:=fun x vs H Q=>∃l xs i k y,x=.ref l/\vs=[.int i]/\H l=some (.lst xs)/\-(2 ^ 63)<=i/\i<2 ^ 63/\seqIndex? i xs.length=some k/\xs[k]?=some y/\Q y (upd H l (.lst (xs.eraseIdx k)))
theorem X8:MtM X "list.pop" zD8:=by
 intro pins s σ H x vs v us Q I rx rv h
 obtain⟨l,xs,i,k,y,rfl,rfl,hH,h1,h2,hk,hy,q⟩:=h
 cases rx
 obtain⟨u,rfl,ru⟩:=rv.one
 obtain⟨t,rfl⟩:=ru
 obtain⟨z,its,n,r,hl,e⟩:=I.lstM hH
 obtain⟨w,hw,rw'⟩:=r.get hy
 refine call_meets F.slot_list_pop ⟨_,e,rfl⟩ F.entry_list_pop (F.args_list_pop_2 _ _)
  (MeetsSeq.list_pop_at l its.toArray n i t k w (fitsIndex_both h1 h2) (by rw[List.size_toArray,<-hl];exact hk) (by rw[<-Array.getElem?_toList];exact hw) (by rw[List.size_toArray];omega)) ⟨e,?_⟩
 refine⟨y,_,I.lset (its':=its.eraseIdx k) hH e ?_ (r.eraseIdx k) ?_,rw',q⟩
 ·show its.toArray.eraseIdxIfInBounds k=(its.eraseIdx k).toArray
  rw[List.eraseIdxIfInBounds_toArray]
 ·have:=d8 xs k
  omega
end
end L2
namespace Att
open PySem PySem.W PySem.Calls PyProof.Rows
theorem kA{P:Params}{h:Heap}:∀(ns:List Int) (vs:List Value),WellAll P h vs (ns.map WData.int)->IntsAre vs ns:=by
 intro ns
 induction ns with
 |nil=>
  intro vs w
  rw[List.map_nil] at w
  cases w
  exact .nil
 |cons n ns ih=>
  intro vs w
  rw[List.map_cons] at w
  cases w with
  |cons a b=>
   cases a
   exact .cons _ _ (ih _ b)
theorem pQ{l:OpenLaw}{n:Nat}(hn:l.most=some n){P:Params}{h:Heap}{args:List WData}{vals:List Value}(hpre:l.row.toRowW.claim.pre args=true)(hwl:WellAll P h vals args):∃a vs ns,vals=[Value.ref a]/\args=[WData.list (ns.map WData.int)]/\h.get? a=some { cls:=.type "list",data:=.seq vs.toArray }/\IntsAre vs ns/\ns.length<=n:=by
 have hsh:WShape.hasAll [] args [.list .int]=true:=(pre_splitW hpre).1
 have hc:l.pre.holds [] { args:=args } = true:=(pre_splitW hpre).2
 obtain⟨d,r,rfl,h1,h2⟩:=hasAllW_cons hsh
 obtain rfl:=hasAllW_nil h2
 obtain⟨xs,rfl,h3⟩:=hasW_list h1
 obtain⟨ns,rfl⟩:=items_int h3
 have hlen:ns.length<=n:=by
  unfold OpenLaw.pre at hc
  have h4:(WTm.not (.lt (.lit (.int (n:Int))) (.len (.arg 0)))).holds [] { args:=[.list (ns.map .int)] } = true:=by
   have h4:=(holds_andW hc).1
   rw[hn] at h4
   exact h4
  have h5:=condW_of h4 (w_not (w_lt w_lit (w_len_list (w_arg rfl))))
  rw[List.length_map] at h5
  refine Nat.le_of_not_lt fun q=>?_
  have q':(n:Int)<((ns.length:Nat):Int):=by omega
  first
   |(rw[decide_eq_true q'] at h5;exact absurd h5 (by decide))
   |(simp at h5;omega)
 cases hwl with
 |cons w1 w2=>
  cases w2
  cases w1 with
  |list ho hall=>exact⟨_,_,ns,rfl,rfl,ho,kA ns _ hall,hlen⟩
theorem pZ(l:OpenLaw)(args:List WData):l.row.toRowW.claim.post args (.bool true) args=true:=
 postW_of (r:=l.row.toRowW) (X:=(true == true))
  (show WShape.has [] (.bool true) .bool=true by first|rfl|decide|simp[WShape.has,WShape.arms,WShape.armsAll])
  (show(WTm.eq .res (.lit (.bool true))).value [] { args:=args,res:=some (.bool true),after:=args } = some (.bool (true == true)) from w_eq_bool (w_res rfl) w_lit) rfl
theorem attach_call{l:OpenLaw}{n:Nat}{q:Program}{loose:List Str}{XP:(Str->Option Value)->Heap->Prop}{YP:World->Heap->Prop}{d:DefRec}(hn:l.most=some n)(hdf:d.params.defaults=[])(call:∀(w:World) (s₀ s₁:Shared) (mg mb:Str->Option Value) (fa:Addr) (o:Obj) (pm cd doc:Value) (a:Addr) (vs:List Value) (ns:List Int),
   Ground q loose [] XP w s₀ mg mb s₁.heap->YP w s₁.heap ->
   s₁.heap.get? fa=some o->o.data=.func (docDef d.name d.params d.body d.scope pm cd doc)->s₁.heap.CodeRec cd d.name->mg d.name=some (.ref fa) ->
   s₁.heap.get? a=some { cls:=.type "list",data:=.seq vs.toArray }->IntsAre vs ns->ns.length<=n->s₁.gens = #[] ->
   codeAny (model l.prog w) callerA (.call (.ref fa) ⟨[.ref a],[]⟩) (fun r s'=>r=.ok (.ret (.bool true))/\OldK s₁.heap s'.heap/\s'.os=s₁.os/\AllBare s'.gens) s₁):WalkO q loose XP YP l.row.toRowW d [] (fun f vs=>PySem.call f vs):=by
 intro w s₀ s₁ mg mb G Y fa o pm cd doc dV kV ho hd hcd hD hmg hg args vals as hpre hlay hrd hwl hlo
 obtain rfl:dV=.none:=Dflts.none hD hdf
 obtain rfl:kV=.none:=Dflts.noKw hD
 obtain⟨a,vs,ns,rfl,rfl,hobj,hints,hlen⟩:=pQ hn hpre hwl
 refine enter_call (codeAny_mono (call w s₀ s₁ mg mb fa o pm cd doc a vs ns G Y ho (fd_plain hd) hcd hmg hobj hints hlen hg) fun r s' hq=>?_)
 obtain⟨rfl,h2,h3,h4⟩:=hq
 exact⟨.inl ⟨.bool true,.bool true,[],rfl,fun _=>rfl,.bool true,pZ l _,fun _=>⟨List.Pairwise.nil,fun _ hm=>(nomatch hm)⟩⟩,h2,h3,h4⟩
end Att
namespace L2
open PySem PySem.Spec PyProof.Rows
theorem cP:∀{vs:List Value} {ns:List Int},IntsAre vs ns->Vals (ns.map V.int) vs
 |_,_,.nil=>.nil
 |_,_,.cons n t h=>.cons ⟨t,rfl⟩ (cP h)
noncomputable def zIB(H:Hp):Prop:=∀b,H b=none\/∃o xs,H b=some (.frz o (.lst xs))
theorem WK{P:Program}{w:World}{K:Fg}{mg mb:Str->Option Value}{CX:CXT}{k:Nat}{fa a:Addr}{fd:FuncData}{x:Str}{sp:Sp}{s₁:Shared}{vs:List Value}{ns:List Int}(KX:K.In s₁.heap)(hns:s₁.heap.Ns mainGlobals mg)(hb:s₁.heap.Ns builtinsNs mb)(hbb:∀x:Str,x ≠ "__name__" -> mb x=bootBuiltins x)(hlim:s₁.heap.NoLimit)(hg:s₁.gens = #[])(ha:s₁.heap.get? a=some { cls:=.type "list",data:=.seq vs.toArray })(hi:IntsAre vs ns)(hl:ns.length<=sizeLine)(hr:Room k callerA)(F:∀base:Heap,K.In base->base.Ns mainGlobals mg->FnOk P w K mg base CX k fa fd [x] sp)(hbind:∀(s:Shared) (u:Value),BindsTo s fd ⟨[u],[]⟩ [(x,u)])(hsp:∀H:Hp,zIB H->SqL K H a (ns.map V.int)->sp [.ref a] H (fun v _=>v=.bl true) fun _ _ _=>False)(hCX:∀H e s',CX [] H s₁ (fun _ _ _=>False) e s'->False):codeAny (model P w) callerA (.call (.ref fa) ⟨[.ref a],[]⟩) (fun r s'=>r=.ok (.ret (.bool true))/\OldK s₁.heap s'.heap/\s'.os=s₁.os/\AllBare s'.gens) s₁:=by
 have rv:=cP hi
 have lenV:=hi.length
 have core:∀H:Hp,zIB H->SqL K H a (ns.map V.int)->HOk P w H s₁.heap->(∀b,H b≠none->b=a)->(H a≠none->K.lookup a=none) ->
   codeAny (model P w) callerA (.call (.ref fa) ⟨[.ref a],[]⟩) (fun r s'=>r=.ok (.ret (.bool true))/\OldK s₁.heap s'.heap/\s'.os=s₁.os/\AllBare s'.gens) s₁:=by
  intro H hO hS hok hA hK
  have base_of:∀{b:Addr} {o:Obj},s₁.heap.get? b=some o->H b=none->(zCY s₁.heap H).get? b=some o:=fun e n=>WM e n
  have noA:∀{b:Addr} {o:Obj} {es:Array DictEntry} {ep:Nat},s₁.heap.get? b=some o->o.data=.dict es ep->H b=none:=fun {b o es ep} e d=>by
   cases q:H b with
   |none=>rfl
   |some u=>
    have e':b=a:=hA b (by rw[q];simp)
    subst e'
    rw[ha] at e;cases e
    have d':Data.seq vs.toArray _=Data.dict es ep:=d
    cases d'
  have nsK:∀{b:Addr} {m:Str->Option Value},s₁.heap.Ns b m->(zCY s₁.heap H).Ns b m:=fun {b m} ⟨o,es,ep,e,d,r⟩=>⟨o,es,ep,base_of e (noA e d),d,r⟩
  have hKb:K.In (zCY s₁.heap H):=fun b o e=>base_of (KX b o e) (by
   cases q:H b with
   |none=>rfl
   |some u=>
    have e':b=a:=hA b (by rw[q];simp)
    subst e'
    rw[hK (by rw[q];simp)] at e;cases e)
  have hM:Mod K mg (zCY s₁.heap H):=⟨hKb,nsK hns,⟨mb,nsK hb,hbb⟩,let ⟨mc,h1,h2⟩:=hlim;⟨mc,nsK h1,h2⟩⟩
  have e0:Env0 P w K mg (zCY s₁.heap H) callerA [] s₁ H:=⟨rfl,hM,fun b o e=>zAK e,Nat.le_of_eq (rV _ _),trivial,⟨fun b hb=>absurd (show b∈([]:List Addr) from hb) (by simp),trivial⟩,hok,.of_eq hg⟩
  refine codeAny_mono ((F _ hKb (nsK hns)).run callerA [] s₁ H ⟨[.ref a],[]⟩ [.ref a] [.ref a] _ _ hr e0 (hbind s₁ (.ref a)) (.cons rfl .nil) (hsp H hO hS)) fun r s' h=>?_
  cases r with
  |error e=>exact(hCX H e s' h).elim
  |ok fl=>
   cases fl with
   |next=>exact False.elim h
   |brk=>exact False.elim h
   |cont=>exact False.elim h
   |ret u=>
    obtain⟨v,H',os,bare,un,hok',r',q⟩:=h
    have q':v=.bl true:=q
    subst q'
    obtain rfl:u=Value.bool true:=r'
    refine⟨rfl,OldK.of_keep fun b o e=>?_,os,bare⟩
    cases q:H b with
    |none=>exact un.keep b o e q (by intro z;exact absurd (show b∈([]:List Addr) from z) (by simp)) (by simp)
    |some u=>
     rcases hO b with z|⟨ob,xs,z⟩
     ·rw[q] at z;cases z
     ·have z2:=un.frzs b ob _ z
      obtain⟨e1,_⟩:=hok b _ z
      obtain⟨e2,_⟩:=hok' b _ z2
      rw[e] at e1;cases e1
      exact e2
 cases hk:K.lookup a with
 |some o=>
  have e:=KX a o hk
  rw[ha] at e
  cases e
  refine core (fun _=>none) (fun _=>.inl rfl) (.inr ⟨_,vs.toArray,_,hk,rfl,rfl,rfl,by rw[List.size_toArray,lenV];exact hl,by simpa using rv⟩) (fun b u z=>by have z':(none:Option HO)=some u:=z;cases z') (fun b z=>absurd rfl z) fun z=>absurd rfl z
 |none=>
  refine core (fun b=>if b=a then some (.frz { cls:=.type "list",data:=.seq vs.toArray } (.lst (ns.map V.int))) else none) (fun b=>?_) (.inl (.inr ⟨{ cls:=.type "list",data:=.seq vs.toArray },if_pos rfl⟩)) (fun b u z=>?_) (fun b z=>?_) fun _=>hk
  ·by_cases hb:b=a
   ·exact .inr ⟨_,_,if_pos hb⟩
   ·exact .inl (if_neg hb)
  ·by_cases hb:b=a
   ·have z':=(if_pos hb).symm.trans z
    cases z'
    subst hb
    exact⟨ha,by rw[List.length_map];exact hl,vs,_,rv,ha⟩
   ·have z':=(if_neg hb).symm.trans z
    cases z'
  ·by_cases hb:b=a
   ·exact hb
   ·exact absurd (if_neg hb) z
end L2
namespace L2
open PySem PySem.Spec PyProof.Rows
theorem QW{l:PySem.W.OpenLaw}{n k:Nat}{q:Program}{loose:List Str}{XP:(Str->Option Value)->Heap->Prop}{YP:World->Heap->Prop}{d:DefRec}{K:Params->Fg}{CX:World->CXT}{sp:World->Sp}{x:Str}(hn:l.most=some n)(hn2:n<=sizeLine)(hdf:d.params.defaults=[])(hr:Room k callerA)(hY:∀(w:World) (h:Heap),YP w h->(K w.params).In h)(F:∀(w:World) (mg:Str->Option Value) (fa:Addr) (h:Heap),(K w.params).In h->h.Ns mainGlobals mg->mg d.name=some (.ref fa) ->
   ∃fd:FuncData,(∀(s:Shared) (u:Value),BindsTo s fd ⟨[u],[]⟩ [(x,u)]) /\
    ∀base:Heap,(K w.params).In base->base.Ns mainGlobals mg->FnOk l.prog w (K w.params) mg base (CX w) k fa fd [x] (sp w))(hsp:∀(w:World) (H:Hp) (a:Addr) (ns:List Int),ns.length<=n->zIB H->SqL (K w.params) H a (ns.map V.int)->sp w [.ref a] H (fun v _=>v=.bl true) fun _ _ _=>False)(hCX:∀(w:World) (H:Hp) (s:Shared) (e:Value) (s':Shared),CX w [] H s (fun _ _ _=>False) e s'->False):PySem.W.WalkO q loose XP YP l.row.toRowW d [] (fun f vs=>PySem.call f vs):=by
 refine Att.attach_call hn hdf fun w s₀ s₁ mg mb fa o pm cd doc a vs ns G Y ho hd hcd hmg hobj hints hlen hg=>?_
 have KX:=hY w _ Y
 obtain⟨fd,hb,hF⟩:=F w mg fa _ KX G.T.g hmg
 exact WK KX G.T.g G.T.b G.T.builtins G.T.nolimit hg hobj hints (Nat.le_trans hlen hn2) hr hF hb (fun H hO hS=>hsp w H a ns hlen hO hS) fun H e s'=>hCX w H s₁ e s'
theorem walk_ofK{l:PySem.W.OpenLaw}{n k:Nat}{q:Program}{loose:List Str}{XP:(Str->Option Value)->Heap->Prop}{YP:World->Heap->Prop}{d:DefRec}{K:Params->Fg}{CX:CXT}{sp:Fg->Sp}{x:Str}(hn:l.most=some n)(hn2:n<=sizeLine)(hdf:d.params.defaults=[])(hr:Room k callerA)(hY:∀(w:World) (h:Heap),YP w h->(K w.params).In h)(F:∀(w:World) (mg:Str->Option Value) (fa:Addr) (h:Heap),(K w.params).In h->h.Ns mainGlobals mg->mg d.name=some (.ref fa) ->
   ∃fd:FuncData,(∀(s:Shared) (u:Value),BindsTo s fd ⟨[u],[]⟩ [(x,u)]) /\
    ∀base:Heap,(K w.params).In base->base.Ns mainGlobals mg->FnOk l.prog w (K w.params) mg base CX k fa fd [x] (sp (K w.params)))(hsp:∀(K:Fg) (H:Hp) (a:Addr) (ns:List Int),ns.length<=n->zIB H->SqL K H a (ns.map V.int)->sp K [.ref a] H (fun v _=>v=.bl true) fun _ _ _=>False)(hCX:∀(H:Hp) (s:Shared) (e:Value) (s':Shared),CX [] H s (fun _ _ _=>False) e s'->False):PySem.W.WalkO q loose XP YP l.row.toRowW d [] (fun f vs=>PySem.call f vs):=
 QW (K:=K) (CX:=fun _=>CX) (sp:=fun w=>sp (K w.params)) hn hn2 hdf hr hY F (fun w H a ns h1 h2 h3=>hsp (K w.params) H a ns h1 h2 h3) fun _ H s e s'=>hCX H s e s'
end L2
namespace L2
open PySem PySem.Spec PyProof.Rows
noncomputable def jR(s:Stmt):Arguments:=match s with
 |.FunctionDef _ a _ _ _ _ _ _ _ _=>a
 |_=>{ posonlyargs:=[],args:=[],vararg:=none,kwonlyargs:=[],kw_defaults:=[],kwarg:=none,defaults:=[] }
noncomputable def wQ(s:Stmt):List Stmt:=match s with
 |.FunctionDef _ _ b _ _ _ _ _ _ _=>b
 |_=>[]
noncomputable def zL(s:Stmt):Scope:=match s with
 |.FunctionDef _ _ _ _ _ _ sc _ _ _=>sc
 |_=>{ kind:=.function,names:=[],isGenerator:=false,isCoroutine:=false }
noncomputable abbrev CX0:CXT:=fun _ _ _ _ _ _=>False
noncomputable abbrev E0:XK:=fun _ _ _=>False
theorem dH{X:Cx}:uT CX0 X E0:=fun _ _ _ _ _ _ _ h=>h.elim
structure Fun(K:Fg)(x qual:Str)(st:Stmt)(f:Addr)(fd:FuncData):Prop where
 ex:∃(oc:Value) (od:Option Addr) (kV doc pm:Value) (an:Option Addr) (cdv ct:Value) (osl:Array (Option Value)),
  fd=PySem.W.fnOf x qual (jR st) (wQ st) (zL st) .none kV doc pm an cdv ct/\K.lookup f=some ⟨oc,od,.func fd,osl⟩/\PySem.W.codeIn K cdv qual=true
 kp:PySem.W.keepIn K (.ref f)=true
section
variable{P:Program}{w:World}{K:Fg}{mg:Str->Option Value}{base:Heap}
theorem Fun.ok{x qual:Str}{st:Stmt}{f:Addr}{fd:FuncData}{N ps:List Str}{k:Nat}{sp:Sp}(F:Fun K x qual st f fd)(S:FnScope N ps (zL st))(len:∀vs H Q E,sp vs H Q E->vs.length=ps.length)(hbody:∀(cdv:Value) (A:Around) (outer:List Env) (s:Shared) (H:Hp) (vs:List V) (Q:VK) (E:XK),Room k (A.deeper (envOfC qual (zL st) s.heap.objs.size f cdv))->sp vs H Q E ->
   ∃t,PSs (zCZ CX0 P w K mg base N qual (zL st) f cdv A outer s H E).nox (wQ st) t/\t { nx:=fun _ H'=>Q .non H',rt:=Q } (start N vs) H):FnOk P w K mg base CX0 (k+1) f fd ps sp:=by
 obtain⟨oc,od,kV,doc,pm,an,cdv,ct,osl,rfl,lk,hcd⟩:=F.ex
 refine zF9 lk hcd S len fun A outer s H vs Q E hr hsp=>?_
 obtain⟨t,h,q⟩:=hbody cdv A outer s H vs Q E hr hsp
 exact⟨t,h.nox,q⟩
theorem Fun.binds{x qual:Str}{st:Stmt}{f:Addr}{fd:FuncData}{ps:List Str}(F:Fun K x qual st f fd)(h:∀(kV doc pm:Value) (an:Option Addr) (cdv ct:Value) (us:List Value),us.length=ps.length->bindArgs (PySem.W.fnOf x qual (jR st) (wQ st) (zL st) .none kV doc pm an cdv ct) ⟨us,[]⟩=pure (ps.zip us)):Binds K fd ps []:=by
 obtain⟨oc,od,kV,doc,pm,an,cdv,ct,osl,rfl,lk,hcd⟩:=F.ex
 exact .all (h kV doc pm an cdv ct)
theorem rY{x qual:Str}{st:Stmt}{f:Addr}{oc:Value}{od an:Option Addr}{osl:Array (Option Value)}{kV doc pm cdv ct:Value}(l:K.lookup f=some ⟨oc,od,.func (PySem.W.fnOf x qual (jR st) (wQ st) (zL st) .none kV doc pm an cdv ct),osl⟩)(c:PySem.W.codeIn K cdv qual=true)(k:PySem.W.keepIn K (.ref f)=true):Fun K x qual st f (PySem.W.fnOf x qual (jR st) (wQ st) (zL st) .none kV doc pm an cdv ct):=⟨⟨oc,od,kV,doc,pm,an,cdv,ct,osl,rfl,l,c⟩,k⟩
end
section
variable{X:Cx}
theorem pv(i:Nat){x:Str}{pos:Pos}(hN:X.N[i]?=some x:=by rfl)(hv:Vis X.env.scope x:=by first|exact Or.inl rfl|exact Or.inr (Or.inl rfl)|exact Or.inr (Or.inr rfl))(hd:(x == ("__debug__" : Str))=false:=by decide)(hcd:(x == ("__classdict__" : Str))=false:=by decide):PE X (.Name x pos) (jX i):=zEJ hN hv hd hcd
end
theorem zGS{A B:Prop}(h:B):if false=true then A else B:=by
 rw[if_neg Bool.false_ne_true]
 exact h
theorem zGR{A B:Prop}(h:A):if true=true then A else B:=by
 rw[if_pos rfl]
 exact h
noncomputable def Same(H H':Hp):Prop:=∀b o,H b=some o->H' b=some o
theorem Same.refl(H:Hp):Same H H:=fun _ _ h=>h
theorem Same.trans{H H1 H2:Hp}(a:Same H H1)(b:Same H1 H2):Same H H2:=fun c o h=>b c o (a c o h)
theorem Same.free{H H':Hp}(e:Same H H'){l:Addr}(h:H' l=Option.none):H l=Option.none:=by
 cases q:H l with
 |none=>rfl
 |some o=>
  rw[e l o q] at h
  cases h
theorem Same.seq{K:Fg}{H H':Hp}{a:Addr}{xs:List V}(e:Same H H')(h:SqL K H a xs):SqL K H' a xs:=by
 rcases h with(h|⟨o,h⟩)|h
 ·exact .inl (.inl (e _ _ h))
 ·exact .inl (.inr ⟨o,e _ _ h⟩)
 ·exact .inr h
end L2
namespace DD
open PySem PySem.Spec PyProof.Rows L2
noncomputable abbrev St:=L2.St
inductive D where
 |non|bl (b:Bool)|int (i:Int)|str (s:List Nat)|tup (l:List D)|lst (l:List D)|ty (n:String)|ref (a:Addr)|dct (ks:List Key) (l:List D)
noncomputable def LsAt(K:Fg)(O:Addr->Prop)(H:Hp)(a:Addr)(xs:List V):Prop:=
 (¬O a/\Rd H a (.lst xs))\/∃(o:Obj) (its:Array Value) (n:Nat),K.lookup a=some o/\o.cls=.type "list" /\ o.dict=none/\o.data=.seq its n/\its.size<=sizeLine/\Vals xs its.toList
theorem LsAt.sq{K:Fg}{O:Addr->Prop}{H:Hp}{a:Addr}{xs:List V}(h:LsAt K O H a xs):SqL K H a xs:=h.imp (·.2) id
mutual
noncomputable def Is(K:Fg)(O:Addr->Prop)(H:Hp):D->V->Prop
 |.non,v=>v=.non
 |.bl b,v=>v=.bl b
 |.int i,v=>v=.int i
 |.str s,v=>v=.str ⟨s.toArray⟩
 |.ty n,v=>v=.ty n
 |.ref a,v=>v=.ref a
 |.tup l,v=>∃a xs,v=.ref a/\SqT K H a xs/\IsL K O H l xs
 |.lst l,v=>∃a xs,v=.ref a/\LsAt K O H a xs/\IsL K O H l xs
 |.dct ks l,v=>∃a kvs,v=.ref a/\¬O a/\Rd H a (.dK kvs)/\kvs.map (·.1)=ks/\IsL K O H l (kvs.map (·.2))
noncomputable def IsL(K:Fg)(O:Addr->Prop)(H:Hp):List D->List V->Prop
 |[],vs=>vs=[]
 |d::l,vs=>∃v r,vs=v::r/\Is K O H d v/\IsL K O H l r
end
noncomputable def Mb:HO->Prop
 |.lst _=>True
 |.dK _=>True
 |.frz _ (.dK _)=>True
 |.ins _ _ _=>True
 |_=>False
noncomputable def jB(O:Addr->Prop)(H:Hp):Prop:=∀a,O a->∃o,H a=some o/\Mb o
noncomputable def m9(O:Addr->Prop)(H H':Hp):Prop:=∀b o,H b=some o->¬O b->H' b=some o
theorem Rd.some{H:Hp}{a:Addr}{u:HO}(h:Rd H a u):∃o,H a=some o:=by
 rcases h with h|⟨o,h⟩
 ·exact⟨_,h⟩
 ·exact⟨_,h⟩
theorem SqT.keep{K:Fg}{O:Addr->Prop}{H H':Hp}{a:Addr}{xs:List V}(k:m9 O H H')(o:jB O H)(h:SqT K H a xs):SqT K H' a xs:=by
 rcases h with(h|⟨ob,h⟩)|h
 ·exact .inl (.inl (k _ _ h fun z=>by obtain⟨ys,q,m⟩:=o a z;rw[h] at q;cases q;exact m))
 ·exact .inl (.inr ⟨ob,k _ _ h fun z=>by obtain⟨ys,q,m⟩:=o a z;rw[h] at q;cases q;exact m⟩)
 ·exact .inr h
theorem Rd.keep{O:Addr->Prop}{H H':Hp}{a:Addr}{u:HO}(k:m9 O H H')(n:¬O a)(h:Rd H a u):Rd H' a u:=by
 rcases h with h|⟨ob,h⟩
 ·exact .inl (k _ _ h n)
 ·exact .inr ⟨ob,k _ _ h n⟩
mutual
theorem Is.mono{K:Fg}{O O':Addr->Prop}{H H':Hp}(k:m9 O H H')(ol:jB O H)(oo:∀a,O' a->H a≠none->O a):∀(d:D) (v:V),Is K O H d v->Is K O' H' d v
 |.non,v,h=>by unfold Is at h ⊢;exact h
 |.bl b,v,h=>by unfold Is at h ⊢;exact h
 |.int i,v,h=>by unfold Is at h ⊢;exact h
 |.str s,v,h=>by unfold Is at h ⊢;exact h
 |.ty n,v,h=>by unfold Is at h ⊢;exact h
 |.ref a,v,h=>by unfold Is at h ⊢;exact h
 |.tup l,v,h=>by
  unfold Is at h ⊢
  obtain⟨a,xs,e,q,r⟩:=h
  exact⟨a,xs,e,SqT.keep k ol q,IsL.mono k ol oo l xs r⟩
 |.lst l,v,h=>by
  unfold Is at h ⊢
  obtain⟨a,xs,e,nq,r⟩:=h
  refine⟨a,xs,e,?_,IsL.mono k ol oo l xs r⟩
  rcases nq with⟨n,q⟩|q
  ·exact .inl ⟨fun z=>n (oo a z (by obtain⟨o,q⟩:=Rd.some q;rw[q];simp)),Rd.keep k n q⟩
  ·exact .inr q
 |.dct ks l,v,h=>by
  unfold Is at h ⊢
  obtain⟨a,kvs,e,n,q,e2,r⟩:=h
  exact⟨a,kvs,e,fun z=>n (oo a z (by obtain⟨o,q⟩:=Rd.some q;rw[q];simp)),Rd.keep k n q,e2,IsL.mono k ol oo l _ r⟩
theorem IsL.mono{K:Fg}{O O':Addr->Prop}{H H':Hp}(k:m9 O H H')(ol:jB O H)(oo:∀a,O' a->H a≠none->O a):∀(l:List D) (vs:List V),IsL K O H l vs->IsL K O' H' l vs
 |[],vs,h=>by unfold IsL at h ⊢;exact h
 |d::l,vs,h=>by
  unfold IsL at h ⊢
  obtain⟨v,r,e,h1,h2⟩:=h
  exact⟨v,r,e,Is.mono k ol oo d v h1,IsL.mono k ol oo l r h2⟩
end
theorem Same.kp{H H':Hp}(s:Same H H')(O:Addr->Prop):m9 O H H':=fun b o e _=>s b o e
theorem Is.same{K:Fg}{O:Addr->Prop}{H H':Hp}{d:D}{v:V}(s:Same H H')(ol:jB O H)(h:Is K O H d v):Is K O H' d v:=Is.mono (Same.kp s O) ol (fun _ z _=>z) d v h
theorem IsL.same{K:Fg}{O:Addr->Prop}{H H':Hp}{l:List D}{vs:List V}(s:Same H H')(ol:jB O H)(h:IsL K O H l vs):IsL K O H' l vs:=IsL.mono (Same.kp s O) ol (fun _ z _=>z) l vs h
section
variable{K:Fg}{O:Addr->Prop}{H:Hp}
theorem IsL.length:∀{l:List D} {vs:List V},IsL K O H l vs->l.length=vs.length
 |[],vs,h=>by unfold IsL at h;subst h;rfl
 |d::l,vs,h=>by unfold IsL at h;obtain⟨v,r,rfl,_,h2⟩:=h;simp[IsL.length h2]
theorem IsL.get:∀{l:List D} {vs:List V} {i:Nat} {d:D},IsL K O H l vs->l[i]?=some d->∃v,vs[i]?=some v/\Is K O H d v
 |[],_,_,_,_,e=>by simp at e
 |d::l,vs,0,d',h,e=>by
  unfold IsL at h;obtain⟨v,r,rfl,h1,h2⟩:=h
  simp at e;subst e;exact⟨v,rfl,h1⟩
 |d::l,vs,i+1,d',h,e=>by
  unfold IsL at h;obtain⟨v,r,rfl,h1,h2⟩:=h
  obtain⟨u,q1,q2⟩:=IsL.get (i:=i) h2 (by simpa using e)
  exact⟨u,by simpa using q1,q2⟩
theorem IsL.nil:IsL K O H [] []:=by unfold IsL;rfl
theorem IsL.cons{d:D}{v:V}{l:List D}{vs:List V}(h:Is K O H d v)(t:IsL K O H l vs):IsL K O H (d::l) (v::vs):=by unfold IsL;exact⟨v,vs,rfl,h,t⟩
theorem IsL.append:∀{l m:List D} {vs us:List V},IsL K O H l vs->IsL K O H m us->IsL K O H (l++m) (vs++us)
 |[],_,_,_,h,t=>by unfold IsL at h;subst h;exact t
 |d::l,m,vs,us,h,t=>by unfold IsL at h;obtain⟨v,r,rfl,h1,h2⟩:=h;exact .cons h1 (IsL.append h2 t)
theorem IsL.take:∀{l:List D} {vs:List V} (n:Nat),IsL K O H l vs->IsL K O H (l.take n) (vs.take n)
 |_,_,0,_=>by simpa using IsL.nil
 |[],_,_+1,h=>by unfold IsL at h;subst h;simpa using IsL.nil
 |d::l,vs,n+1,h=>by unfold IsL at h;obtain⟨v,r,rfl,h1,h2⟩:=h;exact .cons h1 (IsL.take n h2)
theorem IsL.drop:∀{l:List D} {vs:List V} (n:Nat),IsL K O H l vs->IsL K O H (l.drop n) (vs.drop n)
 |_,_,0,h=>h
 |[],_,_+1,h=>by unfold IsL at h;subst h;simpa using IsL.nil
 |d::l,vs,n+1,h=>by unfold IsL at h;obtain⟨v,r,rfl,h1,h2⟩:=h;exact IsL.drop n h2
theorem IsL.reverse:∀{l:List D} {vs:List V},IsL K O H l vs->IsL K O H l.reverse vs.reverse
 |[],_,h=>by unfold IsL at h;subst h;exact IsL.nil
 |d::l,vs,h=>by
  unfold IsL at h;obtain⟨v,r,rfl,h1,h2⟩:=h
  rw[List.reverse_cons,List.reverse_cons];exact(IsL.reverse h2).append (.cons h1 .nil)
theorem IsL.inv1{d:D}{vs:List V}(h:IsL K O H [d] vs):∃v,vs=[v]/\Is K O H d v:=by
 unfold IsL at h
 obtain⟨v,r,rfl,h1,h2⟩:=h
 unfold IsL at h2;subst h2
 exact⟨v,rfl,h1⟩
theorem IsL.inv2{d e:D}{vs:List V}(h:IsL K O H [d,e] vs):∃v u,vs=[v,u]/\Is K O H d v/\Is K O H e u:=by
 unfold IsL at h
 obtain⟨v,r,rfl,h1,h2⟩:=h
 obtain⟨u,rfl,h3⟩:=h2.inv1
 exact⟨v,u,rfl,h1,h3⟩
theorem IsL.inv3{d e f:D}{vs:List V}(h:IsL K O H [d,e,f] vs):∃v u w,vs=[v,u,w]/\Is K O H d v/\Is K O H e u/\Is K O H f w:=by
 unfold IsL at h
 obtain⟨v,r,rfl,h1,h2⟩:=h
 obtain⟨u,w,rfl,h3,h4⟩:=h2.inv2
 exact⟨v,u,w,rfl,h1,h3,h4⟩
theorem Is.int_iff{i:Int}{v:V}:Is K O H (.int i) v↔v=.int i:=by unfold Is;exact Iff.rfl
theorem Is.bl_iff{b:Bool}{v:V}:Is K O H (.bl b) v↔v=.bl b:=by unfold Is;exact Iff.rfl
theorem Is.str_iff{s:List Nat}{v:V}:Is K O H (.str s) v↔v=.str ⟨s.toArray⟩:=by unfold Is;exact Iff.rfl
theorem Is.non_iff{v:V}:Is K O H .non v↔v=.non:=by unfold Is;exact Iff.rfl
theorem Is.ref_iff{a:Addr}{v:V}:Is K O H (.ref a) v↔v=.ref a:=by unfold Is;exact Iff.rfl
theorem Is.tup_iff{l:List D}{v:V}:Is K O H (.tup l) v↔∃a xs,v=.ref a/\SqT K H a xs/\IsL K O H l xs:=by unfold Is;exact Iff.rfl
theorem Is.lst_iff{l:List D}{v:V}:Is K O H (.lst l) v↔∃a xs,v=.ref a/\LsAt K O H a xs/\IsL K O H l xs:=by unfold Is;exact Iff.rfl
theorem Is.dct_iff{ks:List Key}{l:List D}{v:V}:Is K O H (.dct ks l) v↔∃a kvs,v=.ref a/\¬O a/\Rd H a (.dK kvs)/\kvs.map (·.1)=ks/\IsL K O H l (kvs.map (·.2)):=by unfold Is;exact Iff.rfl
end
inductive Sl where
 |un|v (d:D)|o (l:List D)|p (l:List D)|z (l:List D)|d (ks:List Key) (l:List D)
noncomputable abbrev En:=List Sl
noncomputable def Sl.own:Sl->Option (List D)
 |.o l=>some l
 |.p l=>some l
 |.z l=>some l
 |.d _ l=>some l
 |_=>none
noncomputable def Sl.mt:Sl->Option (List D)
 |.o l=>some l
 |.p l=>some l
 |.d _ l=>some l
 |_=>none
noncomputable def Sl.ls:Sl->Option (List D)
 |.o l=>some l
 |.p l=>some l
 |.z l=>some l
 |_=>none
noncomputable def Sl.ml:Sl->Option (List D)
 |.o l=>some l
 |.p l=>some l
 |_=>none
theorem zAZ{x:Sl}{l:List D}(h:x.ml=some l):x.mt=some l/\x.ls=some l:=by
 cases x<;>first|(cases h;exact⟨rfl,rfl⟩)|cases h
theorem zE1{x:Option Sl}{l:List D}(h:x.bind Sl.ml=some l):x.bind Sl.mt=some l:=by
 cases x with
 |none=>cases h
 |some x=>exact(zAZ (x:=x) h).1
theorem zE2{x:Sl}{l:List D}(h:x.ls=some l):x.own=some l:=by
 cases x<;>first|(cases h;rfl)|cases h
theorem qX{x:Option Sl}{l:List D}(h:x.bind Sl.ls=some l):x.bind Sl.own=some l:=by
 cases x with
 |none=>cases h
 |some x=>exact zE2 (x:=x) h
theorem zAC{x:Option Sl}{l:List D}(h:x.bind Sl.own=some l):x.bind Sl.ls=some l\/∃ks,x=some (.d ks l):=by
 cases x with
 |none=>cases h
 |some x=>cases x<;>first|(cases h;exact .inl rfl)|(cases h;exact .inr ⟨_,rfl⟩)|cases h
noncomputable def AtS(q:Sl->Option (List D))(r:En)(σ:St)(a:Addr):Prop:=∃(i:Nat) (l:List D),(r[i]?).bind q=some l/\σ[i]?=some (some (.ref a))
noncomputable abbrev wV:=AtS Sl.own
noncomputable abbrev MutAt:=AtS Sl.mt
theorem j7{x:Sl}{l:List D}(h:x.mt=some l):x.own=some l:=by
 cases x<;>first|(cases h;rfl)|cases h
theorem MutAt.own{r:En}{σ:St}{a:Addr}(h:MutAt r σ a):wV r σ a:=by
 obtain⟨i,l,e,q⟩:=h
 obtain⟨x,e1,e2⟩:=Option.bind_eq_some_iff.mp e
 exact⟨i,l,by rw[e1];exact j7 e2,q⟩
noncomputable def Ow(O0:Addr->Prop)(r:En)(σ:St):Addr->Prop:=fun a=>O0 a\/wV r σ a
structure R(K:Fg)(O0:Addr->Prop)(H:Hp)(r:En)(σ:St):Prop where
 len:r.length=σ.length
 val:∀(i:Nat) (d:D),r[i]?=some (.v d)->∃v,σ[i]?=some (some v)/\Is K (Ow O0 r σ) H d v
 own:∀(i:Nat) (l:List D),(r[i]?).bind Sl.ls=some l->∃a xs,σ[i]?=some (some (.ref a))/\H a=some (.lst xs)/\IsL K (Ow O0 r σ) H l xs
 apart:∀(i j:Nat) (a:Addr) (l m:List D),(r[i]?).bind Sl.own=some l->(r[j]?).bind Sl.own=some m->σ[i]?=some (some (.ref a))->σ[j]?=some (some (.ref a))->i=j
 o0:jB O0 H
 loc:∀(i:Nat) (l:List D) (a:Addr),(r[i]?=some (.o l)\/r[i]?=some (.z l)\/∃ks,r[i]?=some (.d ks l))->σ[i]?=some (some (.ref a))->¬O0 a
 par:∀(i:Nat) (l:List D) (a:Addr),r[i]?=some (.p l)->σ[i]?=some (some (.ref a))->O0 a
 dct:∀(i:Nat) (ks:List Key) (l:List D),r[i]?=some (.d ks l)->∃a kvs,σ[i]?=some (some (.ref a))/\H a=some (.dK kvs)/\kvs.map (·.1)=ks/\IsL K (Ow O0 r σ) H l (kvs.map (·.2))
theorem R.obj{K:Fg}{O0:Addr->Prop}{H:Hp}{r:En}{σ:St}(h:R K O0 H r σ){j:Nat}{m:List D}(e:(r[j]?).bind Sl.own=some m):∃a o,σ[j]?=some (some (.ref a))/\H a=some o/\Mb o:=by
 rcases zAC e with e|⟨ks,e⟩
 ·obtain⟨a,xs,e1,e2,_⟩:=h.own j m e
  exact⟨a,_,e1,e2,trivial⟩
 ·obtain⟨a,kvs,e1,e2,_⟩:=h.dct j ks m e
  exact⟨a,_,e1,e2,trivial⟩
theorem R.ol{K:Fg}{O0:Addr->Prop}{H:Hp}{r:En}{σ:St}(h:R K O0 H r σ):jB (Ow O0 r σ) H:=fun a z=>by
 rcases z with z|⟨i,l,e,q⟩
 ·exact h.o0 a z
 ·rcases zAC e with e|⟨ks,e⟩
  ·obtain⟨b,xs,e1,e2,_⟩:=h.own i l e
   rw[q] at e1;cases e1
   exact⟨.lst xs,e2,trivial⟩
  ·obtain⟨b,kvs,e1,e2,_⟩:=h.dct i ks l e
   rw[q] at e1;cases e1
   exact⟨.dK kvs,e2,trivial⟩
theorem R.nofresh{K:Fg}{O0:Addr->Prop}{H:Hp}{r:En}{σ:St}(h:R K O0 H r σ){a:Addr}(n:H a=none):¬Ow O0 r σ a:=fun z=>by
 obtain⟨o,e,_⟩:=h.ol a z
 rw[n] at e;cases e
theorem R.same{K:Fg}{O0:Addr->Prop}{H H':Hp}{r:En}{σ:St}(h:R K O0 H r σ)(s:Same H H'):R K O0 H' r σ where
 len:=h.len
 val:=fun i d e=>by obtain⟨v,e1,q⟩:=h.val i d e;exact⟨v,e1,q.same s h.ol⟩
 own:=fun i l e=>by obtain⟨a,xs,e1,e2,q⟩:=h.own i l e;exact⟨a,xs,e1,s _ _ e2,q.same s h.ol⟩
 dct:=fun i ks l e=>by obtain⟨a,kvs,e1,e2,e3,q⟩:=h.dct i ks l e;exact⟨a,kvs,e1,s _ _ e2,e3,q.same s h.ol⟩
 apart:=h.apart
 o0:=fun a z=>by obtain⟨xs,e,m⟩:=h.o0 a z;exact⟨xs,s _ _ e,m⟩
 loc:=h.loc
 par:=h.par
structure Kp(H:Hp)(r:En)(σ:St)(H':Hp)(r':En)(σ':St):Prop where
 keep:m9 (MutAt r σ) H H'
 live:∀b,H' b=none->H b=none
 lst:∀b o,H b=some o->Mb o->∃o',H' b=some o'/\Mb o'
 new:∀b,wV r' σ' b->wV r σ b\/H b=none
 mnew:∀b,MutAt r' σ' b->MutAt r σ b\/H b=none
 par:∀(i:Nat) (l:List D),r[i]?=some (.p l)->(∃l',r'[i]?=some (.p l'))/\σ'[i]?=σ[i]?
 fz:∀(i:Nat) (l:List D),r[i]?=some (.z l)->r'[i]?=some (.z l)/\σ'[i]?=σ[i]?
theorem Kp.of_same{H H':Hp}(r:En)(σ:St)(s:Same H H'):Kp H r σ H' r σ:=
 ⟨fun b o e _=>s b o e,fun b e=>s.free e,fun b o e m=>⟨o,s _ _ e,m⟩,fun b z=>.inl z,fun b z=>.inl z,fun i l e=>⟨⟨l,e⟩,rfl⟩,fun i l e=>⟨e,rfl⟩⟩
theorem Kp.refl(H:Hp)(r:En)(σ:St):Kp H r σ H r σ:=.of_same r σ (Same.refl H)
theorem Kp.trans{H H1 H2:Hp}{r r1 r2:En}{σ σ1 σ2:St}(a:Kp H r σ H1 r1 σ1)(b:Kp H1 r1 σ1 H2 r2 σ2):Kp H r σ H2 r2 σ2 where
 keep:=fun c o e n=>b.keep c o (a.keep c o e n) fun z=>(a.mnew c z).elim n fun q=>by rw[e] at q;cases q
 live:=fun c e=>a.live c (b.live c e)
 lst:=fun c o e m=>by obtain⟨o1,q,m1⟩:=a.lst c o e m;exact b.lst c o1 q m1
 new:=fun c z=>(b.new c z).elim (a.new c) fun q=>.inr (a.live c q)
 mnew:=fun c z=>(b.mnew c z).elim (a.mnew c) fun q=>.inr (a.live c q)
 par:=fun i l e=>by
  obtain⟨⟨l1,e1⟩,q1⟩:=a.par i l e
  obtain⟨⟨l2,e2⟩,q2⟩:=b.par i l1 e1
  exact⟨⟨l2,e2⟩,q2.trans q1⟩
 fz:=fun i l e=>by
  obtain⟨e1,q1⟩:=a.fz i l e
  obtain⟨e2,q2⟩:=b.fz i l e1
  exact⟨e2,q2.trans q1⟩
theorem PE.conseq{X:Cx}{e:Expr}{t t':TE}(h:PE X e t)(i:∀σ H Q,t' σ H Q->t σ H Q):PE X e t':=fun pins s σ H Q I q=>h pins s σ H Q I (i σ H Q q)
theorem PT.conseq{X:Cx}{e:Expr}{t t':TT}(h:PT X e t)(i:∀σ H Q,t' σ H Q->t σ H Q):PT X e t':=fun pins s σ H Q I q=>h pins s σ H Q I (i σ H Q q)
theorem PA.conseq{X:Cx}{e:List Expr}{t t':TA}(h:PA X e t)(i:∀σ H Q,t' σ H Q->t σ H Q):PA X e t':=fun pos pins s σ H Q I q=>h pos pins s σ H Q I (i σ H Q q)
theorem PS.conseq{X:Cx}{st:Stmt}{t t':TS}(h:PS X st t)(i:∀D σ H,t' D σ H->t D σ H):PS X st t':=fun pins s σ H D I q=>h pins s σ H D I (i D σ H q)
theorem PSs.conseq{X:Cx}{st:List Stmt}{t t':TS}(h:PSs X st t)(i:∀D σ H,t' D σ H->t D σ H):PSs X st t':=fun pins s σ H D I q=>h pins s σ H D I (i D σ H q)
noncomputable abbrev ME:=En->Option D
noncomputable abbrev ML:=En->Option (List D)
noncomputable abbrev MB:=En->Option Bool
noncomputable def lE(K:Fg)(f:ME):TE:=fun σ H Q=>∃O0 r d,R K O0 H r σ/\f r=some d/\∀v H',Same H H'->Is K (Ow O0 r σ) H' d v->Q v H'
noncomputable def lT(K:Fg)(f:MB):TT:=fun σ H Q=>∃O0 r b,R K O0 H r σ/\f r=some b/\∀H',Same H H'->Q b H'
noncomputable def lA(K:Fg)(f:ML):TA:=fun σ H Q=>∃O0 r l,R K O0 H r σ/\f r=some l/\∀vs H',Same H H'->IsL K (Ow O0 r σ) H' l vs->Q vs H'
noncomputable def lF(K:Fg)(f:ML):TE:=fun σ H Q=>∃O0 r l,R K O0 H r σ/\f r=some l/\∀a xs H',Same H H'->H a=none->H' a=some (.lst xs)->IsL K (fun b=>Ow O0 r σ b\/b=a) H' l xs->Q (.ref a) H'
noncomputable def lB(K:Fg)(f:ML):TE:=fun σ H Q=>∃O0 r l,R K O0 H r σ/\f r=some l/\∀a xs H',Same H H'->SqL K H' a xs->IsL K (Ow O0 r σ) H' l xs->Q (.ref a) H'
noncomputable def lX(K:Fg)(f:En->Option (D×En)):TE:=fun σ H Q=>∃O0 r d r',R K O0 H r σ/\f r=some (d,r')/\∀v H',R K O0 H' r' σ->Kp H r σ H' r' σ->Is K (Ow O0 r' σ) H' d v->Q v H'
noncomputable def DE(X:Cx)(e:Expr)(f:ME):Prop:=PE X e (lE X.K f)
noncomputable def DT(X:Cx)(e:Expr)(f:MB):Prop:=PT X e (lT X.K f)
noncomputable def DA(X:Cx)(es:List Expr)(f:ML):Prop:=PA X es (lA X.K f)
noncomputable def DF(X:Cx)(e:Expr)(f:ML):Prop:=PE X e (lF X.K f)
noncomputable def DB(X:Cx)(e:Expr)(f:ML):Prop:=PE X e (lB X.K f)
noncomputable def DX(X:Cx)(e:Expr)(f:En->Option (D×En)):Prop:=PE X e (lX X.K f)
inductive Fl where
 |nx (r:En)|bk (r:En)|ct (r:En)|rt (d:D) (r:En)|rf (l:List D) (r:En)|rg (ks:List Key) (l:List D) (r:En)
noncomputable abbrev MS:=En->Option Fl
noncomputable def FrA(H:Hp)(r:En)(σ:St)(a:Addr):Prop:=H a=none\/∃(i:Nat) (l:List D),(r[i]?=some (.o l)\/∃ks,r[i]?=some (.d ks l))/\σ[i]?=some (some (.ref a))
noncomputable def PostS(K:Fg)(O0:Addr->Prop)(H:Hp)(r:En)(σ:St)(Dn:Ends):Fl->Prop
 |.nx r'=>∀σ' H',R K O0 H' r' σ'->Kp H r σ H' r' σ'->Dn.nx σ' H'
 |.bk r'=>∀σ' H',R K O0 H' r' σ'->Kp H r σ H' r' σ'->Dn.bk σ' H'
 |.ct r'=>∀σ' H',R K O0 H' r' σ'->Kp H r σ H' r' σ'->Dn.ct σ' H'
 |.rt d r'=>∀v σ' H',R K O0 H' r' σ'->Kp H r σ H' r' σ'->Is K O0 H' d v->Dn.rt v H'
 |.rf l r'=>∀a xs σ' H',R K O0 H' r' σ'->Kp H r σ H' r' σ'->FrA H r σ a->¬O0 a->H' a=some (.lst xs)->IsL K (fun b=>O0 b\/b=a) H' l xs->Dn.rt (.ref a) H'
 |.rg ks l r'=>∀a kvs σ' H',R K O0 H' r' σ'->Kp H r σ H' r' σ'->FrA H r σ a->¬O0 a->H' a=some (.dK kvs)->kvs.map (·.1)=ks->IsL K (fun b=>O0 b\/b=a) H' l (kvs.map (·.2))->Dn.rt (.ref a) H'
noncomputable def lS(K:Fg)(g:MS):TS:=fun Dn σ H=>∃O0 r fl,R K O0 H r σ/\g r=some fl/\PostS K O0 H r σ Dn fl
noncomputable def DS(X:Cx)(st:Stmt)(g:MS):Prop:=PS X st (lS X.K g)
noncomputable def DSs(X:Cx)(st:List Stmt)(g:MS):Prop:=PSs X st (lS X.K g)
theorem PostS.before{K:Fg}{O0:Addr->Prop}{H H1:Hp}{r r1:En}{σ σ1:St}{Dn:Ends}{fl:Fl}(R1:R K O0 H1 r1 σ1)(k:Kp H r σ H1 r1 σ1)(h:PostS K O0 H r σ Dn fl):PostS K O0 H1 r1 σ1 Dn fl:=by
 have fra:∀a,FrA H1 r1 σ1 a->FrA H r σ a:=fun a z=>by
  rcases z with z|⟨i,l,e,q⟩
  ·exact .inl (k.live a z)
  ·have eo:(r1[i]?).bind Sl.own=some l:=by rcases e with e|⟨ks,e⟩<;>rw[e]<;>rfl
   have np:∀l2,r1[i]?≠some (.p l2):=fun l2 z=>by rcases e with e|⟨ks,e⟩<;>rw[e] at z<;>cases z
   have nz:∀l2,r1[i]?≠some (.z l2):=fun l2 z=>by rcases e with e|⟨ks,e⟩<;>rw[e] at z<;>cases z
   rcases k.new a ⟨i,l,eo,q⟩ with⟨j,m,e2,q2⟩|z
   ·cases ej:r[j]? with
    |none=>rw[ej] at e2;cases e2
    |some x=>
     rw[ej] at e2
     cases x with
     |un=>cases e2
     |v d=>cases e2
     |o l'=>exact .inr ⟨j,l',.inl ej,q2⟩
     |p l'=>
      obtain⟨⟨l2,e3⟩,q3⟩:=k.par j l' ej
      have:=R1.apart i j a l l2 eo (by rw[e3];rfl) q (q3.trans q2)
      subst this
      exact absurd e3 (np _)
     |z l'=>
      obtain⟨e3,q3⟩:=k.fz j l' ej
      have:=R1.apart i j a l l' eo (by rw[e3];rfl) q (q3.trans q2)
      subst this
      exact absurd e3 (nz _)
     |d ks l'=>exact .inr ⟨j,l',.inr ⟨ks,ej⟩,q2⟩
   ·exact .inl z
 cases fl with
 |nx r'=>exact fun σ' H' h1 h2=>h σ' H' h1 (k.trans h2)
 |bk r'=>exact fun σ' H' h1 h2=>h σ' H' h1 (k.trans h2)
 |ct r'=>exact fun σ' H' h1 h2=>h σ' H' h1 (k.trans h2)
 |rt d r'=>exact fun v σ' H' h1 h2 h3=>h v σ' H' h1 (k.trans h2) h3
 |rf l r'=>exact fun a xs σ' H' h1 h2 h3 h4 h5 h6=>h a xs σ' H' h1 (k.trans h2) (fra a h3) h4 h5 h6
 |rg ks l r'=>exact fun a xs σ' H' h1 h2 h3 h4 h5 h6 h7=>h a xs σ' H' h1 (k.trans h2) (fra a h3) h4 h5 h6 h7
noncomputable def mC(d:D):ME:=fun _=>some d
noncomputable def zD(i:Nat):ME:=fun r=>match r[i]? with
 |some (.v d)=>some d
 |_=>none
noncomputable def o7(i:Nat):ML:=fun r=>(r[i]?).bind Sl.ls
noncomputable def zH(m:D->D->Option D)(f g:ME):ME:=fun r=>(f r).bind fun x=>(g r).bind fun y=>m x y
noncomputable def mUn(m:D->Option D)(f:ME):ME:=fun r=>(f r).bind m
noncomputable def zR:ML:=fun _=>some []
noncomputable def zC(f:ME)(g:ML):ML:=fun r=>(f r).bind fun x=>(g r).bind fun l=>some (x::l)
noncomputable def wS(f:ML):ME:=fun r=>(f r).bind fun l=>if l.length<=sizeLine then some (.tup l) else none
noncomputable def xF(f:ML):ML:=fun r=>(f r).bind fun l=>if l.length<=sizeLine then some l else none
noncomputable def jW(f:ML):ME:=fun r=>(f r).map .lst
noncomputable def zHX(f g:ME):ME:=fun r=>(f r).bind fun d=>match d with
 |.bl true=>g r
 |.bl false=>some (.bl false)
 |_=>none
noncomputable def zI8:D->Option D
 |.bl b=>some (.bl !b)
 |_=>none
noncomputable def qW(f g:MB):MB:=fun r=>(f r).bind fun b=>if b=true then g r else some false
noncomputable def zHW(f g:MB):MB:=fun r=>(f r).bind fun b=>if b=true then some true else g r
noncomputable def ZL(f:MB):MB:=fun r=>(f r).map (!·)
noncomputable def mIf(c:MB)(f g:ME):ME:=fun r=>(c r).bind fun b=>if b=true then f r else g r
noncomputable def blD:D->Option Bool
 |.bl b=>some b
 |_=>none
noncomputable def mBl(f:ME):MB:=fun r=>(f r).bind blD
noncomputable def zIE:D->Option Bool
 |.non=>some false
 |.bl b=>some b
 |.int i=>some (i != 0)
 |.str s=>if s.length<=sizeLine then some (!s.isEmpty) else none
 |.tup l=>some (!l.isEmpty)
 |.lst l=>some (!l.isEmpty)
 |_=>none
noncomputable def ZJ(fl:ML):MB:=fun r=>(fl r).map fun l=>!l.isEmpty
noncomputable def dZ(f:ME):MB:=fun r=>(f r).bind zIE
section
variable{X:Cx}{pos:Pos}{a b c:Expr}{f g:ME}
theorem bind_some{α β:Type}{o:Option α}{h:α->Option β}{y:β}(e:o.bind h=some y):∃x,o=some x/\h x=some y:=by
 cases o with
 |none=>cases e
 |some x=>exact⟨x,rfl,e⟩
theorem zGE{t:TE}(h:PE X a t)(i:∀O0 σ H r d Q,R X.K O0 H r σ->f r=some d->(∀v H',Same H H'->Is X.K (Ow O0 r σ) H' d v->Q v H')->t σ H Q):DE X a f:=
 PE.conseq h fun σ H Q ⟨O0,r,d,hR,e,q⟩=>i O0 σ H r d Q hR e q
theorem zA(i:Nat){x:Str}(h:PE X (.Name x pos) (jX i)):DE X (.Name x pos) (zD i):=
 zGE h fun O0 σ H r d Q hR e q=>by
  unfold zD at e
  have e':r[i]?=some (.v d):=by
   split at e
   ·rename_i d' h;cases e;exact h
   ·cases e
  obtain⟨v,e1,q1⟩:=hR.val i d e'
  exact⟨v,e1,q v H (Same.refl H) q1⟩
theorem uM(i:Nat){x:Str}(h:PE X (.Name x pos) (jX i)):DB X (.Name x pos) (o7 i):=
 PE.conseq h fun σ H Q ⟨O0,r,l,hR,e,q⟩=>by
  obtain⟨a,xs,e1,e2,q1⟩:=hR.own i l e
  exact⟨.ref a,e1,q a xs H (Same.refl H) (SqL.of e2) q1⟩
theorem gQ{v:V}{d:D}(h:PE X a (tC v))(hd:∀O H,Is X.K O H d v):DE X a (mC d):=
 zGE h fun O0 σ H r d' Q hR e q=>by
  unfold mC at e
  cases e
  exact q v H (Same.refl H) (hd _ _)
theorem zE{i j}:DE X (.Constant (.int i) j pos) (mC (.int i)):=gQ mI fun O H=>by unfold Is;rfl
theorem YG{i j}:DE X (.Constant (.bool i) j pos) (mC (.bl i)):=gQ zHK fun O H=>by unfold Is;rfl
theorem zCH{j}:DE X (.Constant .none j pos) (mC .non):=gQ J6 fun O H=>by unfold Is;rfl
theorem yL{x:Str}{s:List Nat}{j}(e:x.cps.toList=s:=by rfl):DE X (.Constant (.str x) j pos) (mC (.str s)):=gQ zEK fun O H=>by
 unfold Is;subst e;simp
noncomputable def OpD(K:Fg)(r2:R2)(m:D->D->Option D):Prop:=∀(O:Addr->Prop) (H:Hp) (dx dy d:D) (vx vy:V) (Q:VK),jB O H->Is K O H dx vx->Is K O H dy vy->m dx dy=some d->(∀v H',Same H H'->Is K O H' d v->Q v H')->r2 vx vy H Q
theorem two{ta tb:TE}{r2:R2}{m:D->D->Option D}(hd:OpD X.K r2 m){σ:St}{H:Hp}{Q:VK}(h:lE X.K (zH m f g) σ H Q):tOp r2 (lE X.K f) (lE X.K g) σ H Q:=by
 obtain⟨O0,r,d,hR,e,q⟩:=h
 obtain⟨x,e1,e⟩:=bind_some e
 obtain⟨y,e2,e⟩:=bind_some e
 refine⟨O0,r,x,hR,e1,fun v1 H1 s1 i1=>⟨O0,r,y,hR.same s1,e2,fun v2 H2 s2 i2=>?_⟩⟩
 exact hd (Ow O0 r σ) H2 x y d v1 v2 Q (hR.same (s1.trans s2)).ol (i1.same s2 (hR.same s1).ol) i2 e fun v H' s' i'=>q v H' ((s1.trans s2).trans s') i'
theorem zP{op:Operator}{r2:R2}{m:D->D->Option D}(ho:OpR X (binaryOp op) r2)(hd:OpD X.K r2 m)(ha:DE X a f)(hb:DE X b g):DE X (.BinOp a op b pos) (zH m f g):=
 PE.conseq (zF2 ho ha hb) fun σ H Q h=>two (ta:=lE X.K f) (tb:=lE X.K g) hd h
theorem tD{op:CmpOp}{r2:R2}{m:D->D->Option D}(ho:OpR X (compareOp op) r2)(hd:OpD X.K r2 m)(ha:DE X a f)(hb:DE X b g)(hm:behindInMarks op b=false):DE X (.Compare a [op] [b] pos) (zH m f g):=
 PE.conseq (zAB ho ha hb hm) fun σ H Q h=>two (ta:=lE X.K f) (tb:=lE X.K g) hd h
theorem yS{op:CmpOp}{r2:R2}{m:D->D->Option D}(ho:OpR X (compareOp op) r2)(hd:OpD X.K r2 m)(ha:DE X a f)(hb:DE X b g)(hm:behindInMarks op b=false):DT X (.Compare a [op] [b] pos) (mBl (zH m f g)):=by
 refine PT.conseq (t8 ho ha hb hm) fun σ H Q h=>?_
 obtain⟨O0,r,k,hR,e,q⟩:=h
 obtain⟨d,e1,e⟩:=bind_some e
 refine two (ta:=lE X.K f) (tb:=lE X.K g) (m:=m) hd ⟨O0,r,d,hR,e1,fun v H' s' i'=>?_⟩
 cases d<;>first|cases e|skip
 rw[Is.bl_iff] at i'
 exact⟨_,i',q H' s'⟩
theorem zH5{op:UnaryOp}{r1:V->Hp->VK->Prop}{m:D->Option D}(ho:UnR X (unaryOp op) r1)(hd:∀(O:Addr->Prop) (H:Hp) (dx d:D) (vx:V) (Q:VK),Is X.K O H dx vx->m dx=some d->(∀v,Is X.K O H d v->Q v H)->r1 vx H Q)(ha:DE X a f):DE X (.UnaryOp op a pos) (mUn m f):=by
 refine PE.conseq (zF1 ho ha) fun σ H Q h=>?_
 obtain⟨O0,r,d,hR,e,q⟩:=h
 obtain⟨x,e1,e⟩:=bind_some e
 exact⟨O0,r,x,hR,e1,fun v1 H1 s1 i1=>hd _ H1 x d v1 Q i1 e fun v i=>q v H1 s1 i⟩
theorem zCG{op}(h:DE X a f):DE X (.BoolOp op [a] pos) f:=zEL h
theorem zCM{rest:List Expr}(ha:DE X a f)(hb:DE X (.BoolOp .And (b::rest) pos) g):DE X (.BoolOp .And (a::b::rest) pos) (zHX f g):=by
 refine PE.conseq (zEN ha hb) fun σ H Q h=>?_
 obtain⟨O0,r,d,hR,e,q⟩:=h
 obtain⟨x,e1,e⟩:=bind_some e
 refine⟨O0,r,x,hR,e1,fun v1 H1 s1 i1=>?_⟩
 cases x with
 |bl k=>
  rw[Is.bl_iff] at i1
  refine⟨k,i1,?_⟩
  cases k with
  |true=>
   rw[if_pos rfl]
   exact⟨O0,r,d,hR.same s1,e,fun v H' s' i'=>q v H' (s1.trans s') i'⟩
  |false=>
   rw[if_neg Bool.false_ne_true]
   cases e
   exact q _ H1 s1 (by rw[Is.bl_iff])
 |_=>cases e
theorem zFO(ha:DE X a f):DE X (.UnaryOp .Not a pos) (mUn zI8 f):=by
 refine PE.conseq (zEM ha) fun σ H Q h=>?_
 obtain⟨O0,r,d,hR,e,q⟩:=h
 obtain⟨x,e1,e⟩:=bind_some e
 refine⟨O0,r,x,hR,e1,fun v1 H1 s1 i1=>?_⟩
 cases x with
 |bl k=>
  rw[Is.bl_iff] at i1
  cases e
  exact⟨k,i1,q _ H1 s1 (by rw[Is.bl_iff])⟩
 |_=>cases e
section
variable{tf tg:MB}
theorem gH(ha:DT X a tf):PW X (.BoolOp .And [a] pos) (lT X.K tf):=t7 ha
theorem zFJ(ha:DT X a tf):PW X (.BoolOp .Or [a] pos) (lT X.K tf):=zD9 ha
theorem PW.conseq{e:Expr}{t t':TT}(h:PW X e t)(i:∀σ H Q,t' σ H Q->t σ H Q):PW X e t':=fun wh pins s σ H Q I q=>h wh pins s σ H Q I (i σ H Q q)
theorem gI{rest:List Expr}(ha:DT X a tf)(hb:PW X (.BoolOp .And (b::rest) pos) (lT X.K tg)):PW X (.BoolOp .And (a::b::rest) pos) (lT X.K (qW tf tg)):=by
 refine PW.conseq (JR ha hb) fun σ H Q h=>?_
 obtain⟨O0,r,d,hR,e,q⟩:=h
 obtain⟨x,e1,e⟩:=bind_some e
 refine⟨O0,r,x,hR,e1,fun H1 s1=>?_⟩
 cases x with
 |true=>
  rw[if_pos rfl]
  exact⟨O0,r,d,hR.same s1,e,fun H' s'=>q H' (s1.trans s')⟩
 |false=>
  rw[if_neg Bool.false_ne_true]
  cases e
  exact q H1 s1
theorem zGB{rest:List Expr}(ha:DT X a tf)(hb:PW X (.BoolOp .Or (b::rest) pos) (lT X.K tg)):PW X (.BoolOp .Or (a::b::rest) pos) (lT X.K (zHW tf tg)):=by
 refine PW.conseq (zHH ha hb) fun σ H Q h=>?_
 obtain⟨O0,r,d,hR,e,q⟩:=h
 obtain⟨x,e1,e⟩:=bind_some e
 refine⟨O0,r,x,hR,e1,fun H1 s1=>?_⟩
 cases x with
 |true=>
  rw[if_pos rfl]
  cases e
  exact q H1 s1
 |false=>
  rw[if_neg Bool.false_ne_true]
  exact⟨O0,r,d,hR.same s1,e,fun H' s'=>q H' (s1.trans s')⟩
theorem zGV(h:PW X a (lT X.K tf)):DT X a tf:=h.pt
theorem zB5(ha:DT X a tf):DT X (.UnaryOp .Not a pos) (ZL tf):=by
 refine PT.conseq (zEC ha) fun σ H Q h=>?_
 obtain⟨O0,r,d,hR,e,q⟩:=h
 unfold ZL at e
 cases e1:tf r with
 |none=>rw[e1] at e;cases e
 |some k=>
  rw[e1] at e;cases e
  exact⟨O0,r,k,hR,e1,fun H1 s1=>q H1 s1⟩
theorem JA{K:Fg}{O:Addr->Prop}{H:Hp}{d:D}{v:V}{k:Bool}(h:Is K O H d v)(e:zIE d=some k):zIR K v H k:=by
 cases d with
 |dct ks l=>cases e
 |non=>rw[Is.non_iff] at h;subst h;cases e;rfl
 |bl b=>rw[Is.bl_iff] at h;subst h;cases e;rfl
 |int i=>rw[Is.int_iff] at h;subst h;cases e;rfl
 |str s=>
  rw[Is.str_iff] at h;subst h
  simp only[zIE] at e
  split at e
  ·rename_i hl
   cases e
   refine⟨by simpa [Str.length] using hl,?_⟩
   cases s with
   |nil=>rfl
   |cons c r=>
    have:((r.length:Int)+1)≠0:=by omega
    simpa [Str.length] using this
  ·cases e
 |tup l=>
  rw[Is.tup_iff] at h;obtain⟨a,xs,rfl,hs,hl⟩:=h;cases e
  refine .inr (.inl ⟨xs,hs,?_⟩)
  have:=hl.length
  cases l<;>cases xs<;>simp_all
 |lst l=>
  rw[Is.lst_iff] at h;obtain⟨a,xs,rfl,hs,hl⟩:=h;cases e
  refine .inl ⟨xs,hs.sq,?_⟩
  have:=hl.length
  cases l<;>cases xs<;>simp_all
 |ty n=>cases e
 |ref a=>cases e
theorem gJ(ha:DE X a f)(he:∀whole,isTrue a X.env whole=(do let v <- whole;standAt a.pos;holding [v] (truthy v)):=by intro _;rfl):DT X a (dZ f):=by
 refine PT.conseq (cB ha he) fun σ H Q h=>?_
 obtain⟨O0,r,d,hR,e,q⟩:=h
 obtain⟨x,e1,e⟩:=bind_some e
 exact⟨O0,r,x,hR,e1,fun v1 H1 s1 i1=>⟨d,JA i1 e,q H1 s1⟩⟩
theorem Z2{fl:ML}(ha:DB X a fl)(he:∀whole,isTrue a X.env whole=(do let v <- whole;standAt a.pos;holding [v] (truthy v)):=by intro _;rfl):DT X a (ZJ fl):=by
 refine PT.conseq (cB ha he) fun σ H Q h=>?_
 obtain⟨O0,r,d,hR,e,q⟩:=h
 unfold ZJ at e
 cases e1:fl r with
 |none=>rw[e1] at e;cases e
 |some l=>
  rw[e1] at e;cases e
  refine⟨O0,r,l,hR,e1,fun a xs H1 s1 i1 i2=>⟨_,.inl ⟨xs,i1,?_⟩,q H1 s1⟩⟩
  have:=i2.length
  cases l<;>cases xs<;>simp_all
theorem zGF(hc:DT X c tf)(ha:DE X a f)(hb:DE X b g):DE X (.IfExp c a b pos) (mIf tf f g):=by
 refine PE.conseq (XT hc ha hb) fun σ H Q h=>?_
 obtain⟨O0,r,d,hR,e,q⟩:=h
 obtain⟨x,e1,e⟩:=bind_some e
 refine⟨O0,r,x,hR,e1,fun H1 s1=>?_⟩
 cases x with
 |true=>rw[if_pos rfl];exact⟨O0,r,d,hR.same s1,e,fun v H' s' i'=>q v H' (s1.trans s') i'⟩
 |false=>rw[if_neg Bool.false_ne_true];exact⟨O0,r,d,hR.same s1,e,fun v H' s' i'=>q v H' (s1.trans s') i'⟩
end
section
variable{es:List Expr}{fs:ML}
theorem zM:DA X [] zR:=PA.conseq xA fun σ H Q ⟨O0,r,l,hR,e,q⟩=>by
 unfold zR at e;cases e
 exact q [] H (Same.refl H) .nil
theorem zB(ha:DE X a f)(hr:DA X es fs)(hs:starEach (a::es) X.env=(false,eval a X.env)::starEach es X.env:=by rfl):DA X (a::es) (zC f fs):=by
 refine PA.conseq (zZ ha hr hs) fun σ H Q h=>?_
 obtain⟨O0,r,d,hR,e,q⟩:=h
 obtain⟨x,e1,e⟩:=bind_some e
 obtain⟨l,e2,e⟩:=bind_some e
 cases e
 exact⟨O0,r,x,hR,e1,fun v1 H1 s1 i1=>⟨O0,r,l,hR.same s1,e2,fun vs H2 s2 i2=>q _ H2 (s1.trans s2) (.cons (i1.same s2 (hR.same s1).ol) i2)⟩⟩
theorem zV{H:Hp}{p:Addr}{o:HO}(n:H p=none):Same H (upd H p o):=fun b u e=>by rw[zI (xZ e n)];exact e
theorem xI{x1}(h:DA X es fs):DE X (.Tuple es x1 pos) (wS fs):=by
 refine PE.conseq (J3 h) fun σ H Q h=>?_
 obtain⟨O0,r,d,hR,e,q⟩:=h
 obtain⟨l,e1,e⟩:=bind_some e
 split at e
 ·rename_i hl
  cases e
  refine⟨O0,r,l,hR,e1,fun vs H1 s1 i1=>⟨by rw[<-i1.length];exact hl,fun p hp=>q _ _ (s1.trans (zV hp)) ?_⟩⟩
  rw[Is.tup_iff]
  exact⟨p,vs,rfl,SqT.of zK,i1.same (zV hp) (hR.same s1).ol⟩
 ·cases e
theorem xU(h:DA X es fs):DF X (.List es pos) (xF fs):=by
 refine PE.conseq (XS h) fun σ H Q h=>?_
 obtain⟨O0,r,l',hR,e,q⟩:=h
 obtain⟨l,e1,e⟩:=bind_some e
 split at e
 ·rename_i hl
  have e':l=l':=Option.some.inj e
  subst e'
  refine⟨O0,r,l,hR,e1,fun vs H1 s1 i1=>⟨by rw[<-i1.length];exact hl,fun p hp=>q _ _ _ (s1.trans (zV hp)) (s1.free hp) zK ?_⟩⟩
  refine IsL.mono (Same.kp (zV hp) _) (hR.same s1).ol (fun a z n=>?_) _ vs i1
  rcases z with z|z
  ·exact z
  ·subst z;exact absurd hp n
 ·cases e
theorem YF{fl:ML}(h:DF X a fl):DE X a (jW fl):=by
 refine PE.conseq h fun σ H Q h=>?_
 obtain⟨O0,r,d,hR,e,q⟩:=h
 unfold jW at e
 cases e1:fl r with
 |none=>rw[e1] at e;cases e
 |some l=>
  rw[e1] at e;cases e
  refine⟨O0,r,l,hR,e1,fun p xs H1 s1 n1 e2 i1=>q _ H1 s1 ?_⟩
  rw[Is.lst_iff]
  have ol:jB (fun b=>Ow O0 r σ b\/b=p) H1:=fun b z=>z.elim (fun z=>(hR.same s1).ol b z) fun z=>by subst z;exact⟨.lst xs,e2,trivial⟩
  exact⟨p,xs,rfl,.inl ⟨hR.nofresh n1,.inl e2⟩,IsL.mono (Same.kp (Same.refl H1) _) ol (fun a z _=>.inl z) l xs i1⟩
end
end
noncomputable def xW:MS:=fun r=>some (.nx r)
noncomputable def yM(g h:MS):MS:=fun r=>(g r).bind fun fl=>match fl with
 |.nx r'=>h r'
 |x=>some x
noncomputable def yW(i:Nat)(d:D)(r:En):Option En:=match r[i]? with
 |some (.p _)=>none
 |some (.z _)=>none
 |some _=>some (r.set i (.v d))
 |none=>none
noncomputable def zII(i:Nat)(l:List D)(r:En):Option En:=match r[i]? with
 |some (.p _)=>none
 |some (.z _)=>none
 |some _=>some (r.set i (.o l))
 |none=>none
noncomputable def qH(i:Nat)(f:ME):MS:=fun r=>(f r).bind fun d=>(yW i d r).map .nx
noncomputable def W7(i:Nat)(f:ML):MS:=fun r=>(f r).bind fun l=>(zII i l r).map .nx
noncomputable def qC(f:ME):MS:=fun r=>(f r).map fun d=>.rt d r
noncomputable def cZ(i:Nat):MS:=fun r=>match r[i]? with
 |some (.o l)=>some (.rf l r)
 |_=>none
noncomputable def sIf(c:MB)(g h:MS):MS:=fun r=>(c r).bind fun b=>if b=true then g r else h r
noncomputable def sX(f:En->Option (D×En)):MS:=fun r=>(f r).map fun p=>.nx p.2
noncomputable def W6(i:Nat)(f:En->Option (D×En)):MS:=fun r=>(f r).bind fun p=>(yW i p.1 p.2).map .nx
noncomputable def qL:Nat->MB->MS->MS
 |0,_,_=>fun _=>none
 |n+1,c,g=>fun r=>(c r).bind fun b=>if b=true then (g r).bind fun fl=>match fl with
   |.nx r'=>qL n c g r'
   |.ct r'=>qL n c g r'
   |.bk r'=>some (.nx r')
   |x=>some x
  else some (.nx r)
noncomputable def ZY(bd:D->En->Option En)(g:MS):List D->MS
 |[],r=>some (.nx r)
 |d::l,r=>(bd d r).bind fun r1=>(g r1).bind fun fl=>match fl with
   |.nx r'=>ZY bd g l r'
   |.ct r'=>ZY bd g l r'
   |.bk r'=>some (.nx r')
   |x=>some x
noncomputable def nL(bd:D->En->Option En)(it:ML)(g:MS):MS:=fun r=>(it r).bind fun l=>ZY bd g l r
theorem zF{α:Type}{l:List α}{i j:Nat}{x:α}(h:i≠j):(l.set i x)[j]?=l[j]?:=by rw[List.getElem?_set];simp[h]
theorem zO{α:Type}{l:List α}{i:Nat}{x:α}(h:i<l.length):(l.set i x)[i]?=some x:=by rw[List.getElem?_set];simp[h]
section
variable{K:Fg}{O0:Addr->Prop}{H H1:Hp}{r:En}{σ:St}{i:Nat}{d:D}{v:V}
theorem cC{q:Sl->Option (List D)}(hq:∀d,q (.v d)=none){a:Addr}{x:Option V}(h:AtS q (r.set i (.v d)) (σ.set i x) a):AtS q r σ a:=by
 obtain⟨j,l,e,q'⟩:=h
 by_cases hj:i=j
 ·subst hj
  by_cases hl:i<r.length
  ·rw[zO hl] at e
   have e':q (.v d)=some l:=e
   rw[hq] at e';cases e'
  ·rw[List.getElem?_eq_none (by simpa using hl)] at e;cases e
 ·rw[zF hj] at e q'
  exact⟨j,l,e,q'⟩
theorem R.setv(h:R K O0 H r σ)(hi:i<r.length)(np:∀l,r[i]?≠some (.p l)/\r[i]?≠some (.z l))(hv:Is K (Ow O0 r σ) H d v):R K O0 H (r.set i (.v d)) (σ.set i (some v))/\Kp H r σ H (r.set i (.v d)) (σ.set i (some v)):=by
 have his:i<σ.length:=by rw[<-h.len];exact hi
 have sub:∀a,Ow O0 (r.set i (.v d)) (σ.set i (some v)) a->H a≠none->Ow O0 r σ a:=fun a z _=>z.elim .inl fun z=>.inr (cC (fun _=>rfl) z)
 have ne:∀(j:Nat) (l:List D),((r.set i (.v d))[j]?).bind Sl.own=some l->i≠j:=fun j l e z=>by subst z;rw[zO hi] at e;cases e
 refine⟨⟨by simp[h.len],fun j d' e=>?_,fun j l e=>?_,fun j k a l m e1 e2 q1 q2=>?_,h.o0,fun j l a e q=>?_,fun j l a e q=>?_,fun j ks l e=>?_⟩,⟨fun b o e _=>e,fun b e=>e,fun b o e m=>⟨o,e,m⟩,fun b z=>.inl (cC (fun _=>rfl) z),fun b z=>.inl (cC (fun _=>rfl) z),fun j l e=>?_,fun j l e=>?_⟩⟩
 ·by_cases hj:i=j
  ·subst hj
   rw[zO hi] at e;cases e
   exact⟨v,zO his,Is.mono (Same.kp (Same.refl H) _) h.ol sub _ _ hv⟩
  ·rw[zF hj] at e
   obtain⟨u,e1,q⟩:=h.val j d' e
   exact⟨u,by rw[zF hj];exact e1,Is.mono (Same.kp (Same.refl H) _) h.ol sub _ _ q⟩
 ·have hj:=ne j l (qX e)
  rw[zF hj] at e
  obtain⟨a,xs,e1,e2,q⟩:=h.own j l e
  exact⟨a,xs,by rw[zF hj];exact e1,e2,IsL.mono (Same.kp (Same.refl H) _) h.ol sub _ _ q⟩
 ·have hj:=ne j l e1
  have hk:=ne k m e2
  rw[zF hj] at e1 q1
  rw[zF hk] at e2 q2
  exact h.apart j k a l m e1 e2 q1 q2
 ·have hj:i≠j:=ne j l (by rcases e with e|e|⟨ks,e⟩<;>rw[e]<;>rfl)
  rw[zF hj] at e q
  exact h.loc j l a e q
 ·have hj:i≠j:=ne j l (by rw[e];rfl)
  rw[zF hj] at e q
  exact h.par j l a e q
 ·have hj:=ne j l (by rw[e];rfl)
  rw[zF hj] at e
  obtain⟨a,kvs,e1,e2,e3,q⟩:=h.dct j ks l e
  exact⟨a,kvs,by rw[zF hj];exact e1,e2,e3,IsL.mono (Same.kp (Same.refl H) _) h.ol sub _ _ q⟩
 ·have hj:i≠j:=fun z=>by subst z;exact(np l).1 e
  exact⟨⟨l,by rw[zF hj];exact e⟩,zF hj⟩
 ·have hj:i≠j:=fun z=>by subst z;exact(np l).2 e
  exact⟨by rw[zF hj];exact e,zF hj⟩
theorem R.seto{l:List D}{xs:List V}{p:Addr}(h:R K O0 H r σ)(s:Same H H1)(n:H p=none)(e:H1 p=some (.lst xs))(hl:IsL K (fun b=>Ow O0 r σ b\/b=p) H1 l xs)(hi:i<r.length)(np:∀l,r[i]?≠some (.p l)/\r[i]?≠some (.z l)):R K O0 H1 (r.set i (.o l)) (σ.set i (some (.ref p)))/\Kp H r σ H1 (r.set i (.o l)) (σ.set i (some (.ref p))):=by
 have his:i<σ.length:=by rw[<-h.len];exact hi
 have ow:∀{q:Sl->Option (List D)} a,AtS q (r.set i (.o l)) (σ.set i (some (.ref p))) a->AtS q r σ a\/a=p:=fun {q} a z=>by
  obtain⟨j,m,e1,q1⟩:=z
  by_cases hj:i=j
  ·subst hj
   rw[zO his] at q1;cases q1;exact .inr rfl
  ·rw[zF hj] at e1 q1
   exact .inl ⟨j,m,e1,q1⟩
 have sub:∀a,Ow O0 (r.set i (.o l)) (σ.set i (some (.ref p))) a->H a≠none->Ow O0 r σ a:=fun a z nn=>z.elim .inl fun z=>(ow a z).elim .inr fun z=>by subst z;exact absurd n nn
 have olp:jB (fun b=>Ow O0 r σ b\/b=p) H1:=fun b z=>z.elim (fun z=>(h.same s).ol b z) fun z=>by subst z;exact⟨.lst xs,e,trivial⟩
 refine⟨⟨by simp[h.len],fun j d' e1=>?_,fun j m e1=>?_,fun j k a l1 m e1 e2 q1 q2=>?_,(h.same s).o0,fun j m a e1 q=>?_,fun j m a e1 q=>?_,fun j ks m e1=>?_⟩,⟨fun b o e1 _=>s b o e1,fun b e1=>s.free e1,fun b o e1 mb=>⟨o,s _ _ e1,mb⟩,fun b z=>(ow b z).imp id fun z=>by subst z;exact n,fun b z=>(ow b z).imp id fun z=>by subst z;exact n,fun j m e1=>?_,fun j m e1=>?_⟩⟩
 ·have hj:i≠j:=fun z=>by subst z;rw[zO hi] at e1;cases e1
  rw[zF hj] at e1
  obtain⟨u,e2,q⟩:=h.val j d' e1
  exact⟨u,by rw[zF hj];exact e2,Is.mono (Same.kp s _) h.ol sub _ _ q⟩
 ·by_cases hj:i=j
  ·subst hj
   rw[zO hi] at e1;cases e1
   refine⟨p,xs,zO his,e,IsL.mono (Same.kp (Same.refl H1) _) olp (fun a z _=>z.elim (fun z=>.inl (.inl z)) fun z=>(ow a z).imp .inr id) _ _ hl⟩
  ·rw[zF hj] at e1
   obtain⟨a,ys,e2,e3,q⟩:=h.own j m e1
   exact⟨a,ys,by rw[zF hj];exact e2,s _ _ e3,IsL.mono (Same.kp s _) h.ol sub _ _ q⟩
 ·have out:∀(j:Nat) (m:List D) (a:Addr),i≠j->((r.set i (.o l))[j]?).bind Sl.own=some m->(σ.set i (some (.ref p)))[j]?=some (some (.ref a))->a≠p:=fun j m a hj e1 q1 z=>by
   rw[zF hj] at e1 q1
   obtain⟨b,ys,e2,e3,_⟩:=h.obj e1
   rw[q1] at e2;cases e2
   subst z
   rw[n] at e3;cases e3
  by_cases hj:i=j
  ·by_cases hk:i=k
   ·exact hj.symm.trans hk
   ·subst hj
    rw[zO his] at q1;cases q1
    exact absurd rfl (out k m p hk e2 q2)
  ·by_cases hk:i=k
   ·subst hk
    rw[zO his] at q2;cases q2
    exact absurd rfl (out j l1 p hj e1 q1)
   ·rw[zF hj] at e1 q1
    rw[zF hk] at e2 q2
    exact h.apart j k a l1 m e1 e2 q1 q2
 ·by_cases hj:i=j
  ·subst hj
   rw[zO his] at q;cases q
   exact fun z=>by obtain⟨ys,e3,_⟩:=h.o0 p z;rw[n] at e3;cases e3
  ·rw[zF hj] at e1 q
   exact h.loc j m a e1 q
 ·have hj:i≠j:=fun z=>by subst z;rw[zO hi] at e1;cases e1
  rw[zF hj] at e1 q
  exact h.par j m a e1 q
 ·have hj:i≠j:=fun z=>by subst z;rw[zO hi] at e1;cases e1
  rw[zF hj] at e1
  obtain⟨a,kvs,e2,e3,e4,q⟩:=h.dct j ks m e1
  exact⟨a,kvs,by rw[zF hj];exact e2,s _ _ e3,e4,IsL.mono (Same.kp s _) h.ol sub _ _ q⟩
 ·have hj:i≠j:=fun z=>by subst z;exact(np m).1 e1
  exact⟨⟨m,by rw[zF hj];exact e1⟩,zF hj⟩
 ·have hj:i≠j:=fun z=>by subst z;exact(np m).2 e1
  exact⟨by rw[zF hj];exact e1,zF hj⟩
theorem qB{r':En}(e:yW i d r=some r'):i<r.length/\(∀l,r[i]?≠some (.p l)/\r[i]?≠some (.z l))/\r'=r.set i (.v d):=by
 unfold yW at e
 cases e1:r[i]? with
 |none=>rw[e1] at e;cases e
 |some x=>
  have hi:i<r.length:=(List.getElem?_eq_some_iff.mp e1).1
  rw[e1] at e
  cases x with
  |p l=>cases e
  |z l=>cases e
  |_=>cases e;exact⟨hi,fun l=>⟨(fun z=>by cases z),(fun z=>by cases z)⟩,rfl⟩
theorem pP{r':En}{l:List D}(e:zII i l r=some r'):i<r.length/\(∀l,r[i]?≠some (.p l)/\r[i]?≠some (.z l))/\r'=r.set i (.o l):=by
 unfold zII at e
 cases e1:r[i]? with
 |none=>rw[e1] at e;cases e
 |some x=>
  have hi:i<r.length:=(List.getElem?_eq_some_iff.mp e1).1
  rw[e1] at e
  cases x with
  |p l=>cases e
  |z l=>cases e
  |_=>cases e;exact⟨hi,fun l=>⟨(fun z=>by cases z),(fun z=>by cases z)⟩,rfl⟩
theorem map_some{α β:Type}{o:Option α}{h:α->β}{y:β}(e:o.map h=some y):∃x,o=some x/\h x=y:=by
 cases o with
 |none=>cases e
 |some x=>exact⟨x,rfl,Option.some.inj e⟩
theorem Is.less{O:Addr->Prop}(h:R K O0 H r σ)(hi:Is K (Ow O0 r σ) H1 d v)(s:Same H H1):Is K O0 H1 d v:=Is.mono (Same.kp (Same.refl H1) _) (h.same s).ol (fun _ z _=>.inl z) _ _ hi
end
section
variable{X:Cx}{pos:Pos}{e:Expr}{f:ME}{fl:ML}{g h:MS}{st:Stmt}{rest:List Stmt}
theorem wG:DSs X [] xW:=PSs.conseq t9 fun Dn σ H ⟨O0,r,f',hR,e,q⟩=>by
 unfold xW at e;cases e
 exact q σ H hR (Kp.refl H r σ)
theorem zJ(h1:DS X st g)(h2:DSs X rest h):DSs X (st::rest) (yM g h):=by
 refine PSs.conseq (wW h1 h2) fun Dn σ H hq=>?_
 obtain⟨O0,r,fl,hR,e,q⟩:=hq
 obtain⟨f1,e1,e2⟩:=bind_some e
 cases f1 with
 |nx r1=>exact⟨O0,r,.nx r1,hR,e1,fun σ' H' R' k=>⟨O0,r1,fl,R',e2,q.before R' k⟩⟩
 |bk r1=>cases e2;exact⟨O0,r,_,hR,e1,q⟩
 |ct r1=>cases e2;exact⟨O0,r,_,hR,e1,q⟩
 |rt d r1=>cases e2;exact⟨O0,r,_,hR,e1,q⟩
 |rf l r1=>cases e2;exact⟨O0,r,_,hR,e1,q⟩
 |rg ks l r1=>cases e2;exact⟨O0,r,_,hR,e1,q⟩
theorem zT(h1:DS X st g):DSs X [st] g:=dF h1
theorem yV(i:Nat){x:Str}{pos':Pos}(he:DE X e f)(hN:X.N.Nodup)(hi:X.N[i]?=some x:=by rfl)(hx:Loc X.env.scope x:=by first|exact Or.inl rfl|exact Or.inr rfl)(hs:swapsWith e (some (.Name x pos')) pos.line X.env=pure false:=by rfl)(hf:X.fn x=true\/X.env.scope.names.lookup x=some .local:=by first|exact .inl rfl|exact .inr rfl):DS X (.Assign [.Name x pos'] e pos) (qH i f):=by
 refine PS.conseq (mG hN hi hx he hs hf) fun Dn σ H hq=>?_
 obtain⟨O0,r,fl,hR,e,q⟩:=hq
 obtain⟨d,e1,e2⟩:=bind_some e
 obtain⟨r',e3,rfl⟩:=map_some e2
 obtain⟨hl,np,rfl⟩:=qB e3
 refine⟨O0,r,d,hR,e1,fun v H1 s1 i1=>?_⟩
 obtain⟨R1,k1⟩:=(hR.same s1).setv hl np i1
 exact q _ H1 R1 ((Kp.of_same r σ s1).trans k1)
theorem kX(i:Nat){x:Str}{pos':Pos}(he:DF X e fl)(hN:X.N.Nodup)(hi:X.N[i]?=some x:=by rfl)(hx:Loc X.env.scope x:=by first|exact Or.inl rfl|exact Or.inr rfl)(hs:swapsWith e (some (.Name x pos')) pos.line X.env=pure false:=by rfl)(hf:X.fn x=true\/X.env.scope.names.lookup x=some .local:=by first|exact .inl rfl|exact .inr rfl):DS X (.Assign [.Name x pos'] e pos) (W7 i fl):=by
 refine PS.conseq (mG hN hi hx he hs hf) fun Dn σ H hq=>?_
 obtain⟨O0,r,fl',hR,e,q⟩:=hq
 obtain⟨l,e1,e2⟩:=bind_some e
 obtain⟨r',e4,rfl⟩:=map_some e2
 obtain⟨hl,np,rfl⟩:=pP e4
 refine⟨O0,r,l,hR,e1,fun p xs H1 s1 n1 e3 i1=>?_⟩
 obtain⟨R1,k1⟩:=hR.seto s1 n1 e3 i1 hl np
 exact q _ H1 R1 k1
theorem yP(he:DE X e f):DS X (.Return (some e) pos) (qC f):=by
 refine PS.conseq (XI he) fun Dn σ H hq=>?_
 obtain⟨O0,r,fl,hR,e,q⟩:=hq
 obtain⟨d,e1,rfl⟩:=map_some e
 exact⟨O0,r,d,hR,e1,fun v H1 s1 i1=>q v σ H1 (hR.same s1) (Kp.of_same r σ s1) (Is.less (O:=O0) hR i1 s1)⟩
theorem gK(i:Nat){x:Str}{pos':Pos}(h:PE X (.Name x pos') (jX i)):DS X (.Return (some (.Name x pos')) pos) (cZ i):=by
 refine PS.conseq (XI h) fun Dn σ H hq=>?_
 obtain⟨O0,r,fl',hR,e,q⟩:=hq
 unfold cZ at e
 have⟨l,e1,e2⟩:∃l,r[i]?=some (.o l)/\fl'=.rf l r:=by
  split at e
  ·rename_i l h;cases e;exact⟨l,h,rfl⟩
  ·cases e
 subst e2
 obtain⟨a,xs,q1,q2,q3⟩:=hR.own i l (by rw[e1];rfl)
 refine⟨.ref a,q1,q a xs σ H hR (Kp.refl H r σ) (.inr ⟨i,l,.inl e1,q1⟩) (hR.loc i l a (.inl e1) q1) q2 ?_⟩
 exact IsL.mono (Same.kp (Same.refl H) _) hR.ol (fun b z _=>z.elim .inl fun z=>by subst z;exact .inr ⟨i,l,by rw[e1];rfl,q1⟩) _ _ q3
theorem qZ{c:Expr}{sa sb:List Stmt}{tc:MB}(hc:DT X c tc)(ha:DSs X sa g)(hb:DSs X sb h):DS X (.If c sa sb pos) (sIf tc g h):=by
 refine PS.conseq (zF0 hc ha hb) fun Dn σ H hq=>?_
 obtain⟨O0,r,fl',hR,e,q⟩:=hq
 obtain⟨k,e1,e2⟩:=bind_some e
 refine⟨O0,r,k,hR,e1,fun H1 s1=>?_⟩
 have R1:=hR.same s1
 have q1:=PostS.before R1 (Kp.of_same r σ s1) q
 cases k with
 |true=>rw[if_pos rfl] at e2;exact zGR ⟨O0,r,fl',R1,e2,q1⟩
 |false=>rw[if_neg Bool.false_ne_true] at e2;exact zGS ⟨O0,r,fl',R1,e2,q1⟩
theorem zB7{fx:En->Option (D×En)}(he:DX X e fx)(hs:swapsWith e none pos.line X.env=pure false:=by rfl):DS X (.Expr e pos) (sX fx):=by
 refine PS.conseq (nU he hs) fun Dn σ H hq=>?_
 obtain⟨O0,r,fl',hR,e,q⟩:=hq
 obtain⟨⟨d,r'⟩,e1,rfl⟩:=map_some e
 exact⟨O0,r,d,r',hR,e1,fun v H1 R1 k1 i1=>q σ H1 R1 k1⟩
theorem zB8(i:Nat){x:Str}{pos':Pos}{fx:En->Option (D×En)}(he:DX X e fx)(hN:X.N.Nodup)(hi:X.N[i]?=some x:=by rfl)(hx:Loc X.env.scope x:=by first|exact Or.inl rfl|exact Or.inr rfl)(hs:swapsWith e (some (.Name x pos')) pos.line X.env=pure false:=by rfl)(hf:X.fn x=true\/X.env.scope.names.lookup x=some .local:=by first|exact .inl rfl|exact .inr rfl):DS X (.Assign [.Name x pos'] e pos) (W6 i fx):=by
 refine PS.conseq (mG hN hi hx he hs hf) fun Dn σ H hq=>?_
 obtain⟨O0,r,fl,hR,e,q⟩:=hq
 obtain⟨⟨d,r1⟩,e1,e2⟩:=bind_some e
 obtain⟨r',e3,rfl⟩:=map_some e2
 obtain⟨hl,np,rfl⟩:=qB e3
 refine⟨O0,r,d,r1,hR,e1,fun v H1 R1 k1 i1=>?_⟩
 obtain⟨R2,k2⟩:=R1.setv hl np i1
 exact q _ H1 R2 (k1.trans k2)
theorem cJ(n:Nat){c:Expr}{body:List Stmt}{tc:MB}(hp:PassesOwn (model X.prog X.w) X.A X.env X.xe)(hc:DT X c tc)(hb:DSs X body g):DS X (.While c body [] pos) (qL n tc g):=by
 refine PS.conseq (nT hp hc hb) fun Dn σ H hq=>?_
 obtain⟨O0,r,fl,hR,e,q⟩:=hq
 refine⟨fun m σ1 H1=>∃r1,R X.K O0 H1 r1 σ1/\Kp H r σ H1 r1 σ1/\qL m tc g r1=some fl,⟨n,r,hR,Kp.refl H r σ,e⟩,?_⟩
 rintro m σ1 H1 ⟨r1,R1,k1,e1⟩
 cases m with
 |zero=>cases e1
 |succ m=>
  obtain⟨b,e2,e3⟩:=bind_some e1
  refine⟨O0,r1,b,R1,e2,fun H2 s2=>?_⟩
  have R2:=R1.same s2
  have k2:=k1.trans (Kp.of_same r1 σ1 s2)
  cases b with
  |false=>
   rw[if_neg Bool.false_ne_true] at e3
   cases e3
   exact zGS (q σ1 H2 R2 k2)
  |true=>
   rw[if_pos rfl] at e3
   obtain⟨f1,e4,e5⟩:=bind_some e3
   refine zGR ⟨fun σ3 H3=>∃r3,R X.K O0 H3 r3 σ3/\Kp H r σ H3 r3 σ3/\qL m tc g r3=some fl,fun σ3 H3 z=>⟨m,Nat.lt_succ_self m,z⟩,O0,r1,f1,R2,e4,?_⟩
   cases f1 with
   |nx r3=>exact fun σ3 H3 R3 k3=>⟨r3,R3,k2.trans k3,e5⟩
   |ct r3=>exact fun σ3 H3 R3 k3=>⟨r3,R3,k2.trans k3,e5⟩
   |bk r3=>cases e5;exact fun σ3 H3 R3 k3=>q σ3 H3 R3 (k2.trans k3)
   |rt d r3=>cases e5;exact PostS.before R2 k2 q
   |rf l r3=>cases e5;exact PostS.before R2 k2 q
   |rg ks l r3=>cases e5;exact PostS.before R2 k2 q
end
noncomputable def lG(K:Fg)(bd:D->En->Option En):TG:=fun v σ H Q=>∃O0 r d r',R K O0 H r σ/\Is K (Ow O0 r σ) H d v/\bd d r=some r'/\∀σ',R K O0 H r' σ'->Kp H r σ H r' σ'->Q σ' H
noncomputable def DG(X:Cx)(tg:Expr)(bd:D->En->Option En):Prop:=PG X tg (lG X.K bd)
noncomputable def zDK(K:Fg)(O M:Addr->Prop)(H0:Hp)(J:It)(l:List D):Prop:=∀(i:Nat) (H:Hp) (O':Addr->Prop),m9 M H0 H->(∀a,O' a->H0 a≠none->O a) ->
 (i<l.length->J.go i H/\∀x H',J.yld i H x H'->Same H H'/\∀d,l[i]?=some d->Is K O' H' d x)/\(i=l.length->J.stop i H)
noncomputable def lI(K:Fg)(it:ML):TI:=fun σ H Rr=>∃O0 r l,R K O0 H r σ/\it r=some l/\∀J H',Same H H'->zDK K (Ow O0 r σ) (MutAt r σ) H' J l->Rr J H'
noncomputable def DI(X:Cx)(tg iter:Expr)(it:ML):Prop:=PI X tg iter (lI X.K it)
theorem PG.conseq{X:Cx}{e:Expr}{t t':TG}(h:PG X e t)(i:∀v σ H Q,t' v σ H Q->t v σ H Q):PG X e t':=fun pins s σ H v u Q I r q=>h pins s σ H v u Q I r (i v σ H Q q)
theorem PI.conseq{X:Cx}{tg e:Expr}{t t':TI}(h:PI X tg e t)(i:∀σ H Q,t' σ H Q->t σ H Q):PI X tg e t':=fun pins s σ H Q I q=>h pins s σ H Q I (i σ H Q q)
theorem kC{α:Type}{l:List α}{i:Nat}{d:α}(h:l[i]?=some d):l.drop i=d::l.drop (i+1):=by
 obtain⟨lt,eq⟩:=List.getElem?_eq_some_iff.mp h
 rw[<-eq,List.drop_eq_getElem_cons lt]
section
variable{X:Cx}{pos:Pos}{tg iter:Expr}{bd:D->En->Option En}{it:ML}{g:MS}{body:List Stmt}
theorem gL(hp:PassesOwn (model X.prog X.w) X.A X.env X.xe)(hc:X.calm=true)(hi:DI X tg iter it)(hg:DG X tg bd)(hb:DSs X body g)(hs:∀x,foldedSetIterable iter X.env x=pure x:=by intro _;rfl):DS X (.For tg iter body [] pos) (nL bd it g):=by
 refine PS.conseq (JW hp hc hi hg hb hs) fun Dn σ H hq=>?_
 obtain⟨O0,r,fl,hR,e,q⟩:=hq
 obtain⟨l,e1,e2⟩:=bind_some e
 refine⟨O0,r,l,hR,e1,fun J H0 s0 yl=>?_⟩
 have R0:=hR.same s0
 refine⟨fun i m σ1 H1=>m=l.length-i/\i<=l.length/\∃r1,R X.K O0 H1 r1 σ1/\Kp H0 r σ H1 r1 σ1/\ZY bd g (l.drop i) r1=some fl,⟨l.length,by simp,Nat.zero_le _,r,R0,Kp.refl H0 r σ,by simpa using e2⟩,?_⟩
 rintro i m σ1 H1 ⟨rfl,hil,r1,R1,k1,e3⟩
 have k0:=(Kp.of_same r σ s0).trans k1
 obtain⟨y1,y2⟩:=yl i H1 (Ow O0 r1 σ1) k1.keep fun a z n=>z.elim .inl fun z=>(k1.new a z).elim .inr fun z=>absurd z n
 by_cases hlt:i<l.length
 ·obtain⟨go,yd⟩:=y1 hlt
  have hd:l[i]?=some l[i]:=by simp[hlt]
  rw[kC hd] at e3
  obtain⟨r2,e4,e5⟩:=bind_some e3
  obtain⟨f1,e6,e7⟩:=bind_some e5
  refine .inr ⟨go,fun σ3 H3=>∃r3,R X.K O0 H3 r3 σ3/\Kp H0 r σ H3 r3 σ3/\ZY bd g (l.drop (i+1)) r3=some fl,fun σ3 H3 z=>⟨l.length-(i+1),by omega,rfl,hlt,z⟩,fun x H2 yx=>?_⟩
  obtain⟨s2,ix⟩:=yd x H2 yx
  have R2:=R1.same s2
  refine⟨O0,r1,l[i],r2,R2,ix _ hd,e4,fun σ2 R2' k2=>⟨O0,r2,f1,R2',e6,?_⟩⟩
  have k3:=(k1.trans (Kp.of_same r1 σ1 s2)).trans k2
  have k4:=(k0.trans (Kp.of_same r1 σ1 s2)).trans k2
  cases f1 with
  |nx r3=>exact fun σ3 H3 R3 kk=>⟨r3,R3,k3.trans kk,e7⟩
  |ct r3=>exact fun σ3 H3 R3 kk=>⟨r3,R3,k3.trans kk,e7⟩
  |bk r3=>cases e7;exact fun σ3 H3 R3 kk=>q σ3 H3 R3 (k4.trans kk)
  |rt d r3=>cases e7;exact PostS.before R2' k4 q
  |rf l' r3=>cases e7;exact PostS.before R2' k4 q
  |rg ks l' r3=>cases e7;exact PostS.before R2' k4 q
 ·have hl:l.drop i=[]:=List.drop_eq_nil_of_le (by omega)
  rw[hl] at e3
  cases e3
  exact .inl ⟨y2 (by omega),q σ1 H1 R1 k0⟩
theorem yY(i:Nat){x:Str}(hN:X.N.Nodup)(hi:X.N[i]?=some x:=by rfl)(hx:Loc X.env.scope x:=by first|exact Or.inl rfl|exact Or.inr rfl)(hf:X.fn x=true\/X.env.scope.names.lookup x=some .local:=by first|exact .inl rfl|exact .inr rfl):DG X (.Name x pos) (yW i):=by
 refine PG.conseq (nW hN hi hx hf) fun v σ H Q h=>?_
 obtain⟨O0,r,d,r',hR,iv,e,q⟩:=h
 obtain⟨hl,np,rfl⟩:=qB e
 obtain⟨R1,k1⟩:=hR.setv hl np iv
 exact q _ R1 k1
noncomputable def b6:List D->En->Option En:=fun l r=>if l.isEmpty then some r else none
noncomputable def xJ(b:D->En->Option En)(bs:List D->En->Option En):List D->En->Option En:=fun l r=>match l with
 |[]=>none
 |d::t=>(b d r).bind fun r1=>bs t r1
noncomputable def lGs(K:Fg)(bs:List D->En->Option En):TGs:=fun vs σ H Q=>∃O0 r l r',R K O0 H r σ/\IsL K (Ow O0 r σ) H l vs/\bs l r=some r'/\∀σ',R K O0 H r' σ'->Kp H r σ H r' σ'->Q σ' H
noncomputable def DGs(X:Cx)(ts:List Expr)(bs:List D->En->Option En):Prop:=PGs X ts (lGs X.K bs)
theorem PGs.conseq{e:List Expr}{t t':TGs}(h:PGs X e t)(i:∀v σ H Q,t' v σ H Q->t v σ H Q):PGs X e t':=fun pins s σ H v u Q I r q=>h pins s σ H v u Q I r (i v σ H Q q)
theorem oP:DGs X [] b6:=by
 refine PGs.conseq J2 fun vs σ H Q h=>?_
 obtain⟨O0,r,l,r',hR,il,e,q⟩:=h
 unfold b6 at e
 cases l with
 |nil=>
  unfold IsL at il
  cases e
  exact⟨il,q σ hR (Kp.refl H r σ)⟩
 |cons d l=>cases e
theorem w6{e:Expr}{es:List Expr}{bs:List D->En->Option En}(h1:DG X e bd)(h2:DGs X es bs)(hs:(assignEach (e::es) X.env).map (·.2)=assign e X.env::(assignEach es X.env).map (·.2):=by rfl):DGs X (e::es) (xJ bd bs):=by
 refine PGs.conseq (XO h1 h2 hs) fun vs σ H Q h=>?_
 obtain⟨O0,r,l,r',hR,il,e,q⟩:=h
 cases l with
 |nil=>cases e
 |cons d t=>
  unfold IsL at il
  obtain⟨v,us,rfl,i1,i2⟩:=il
  obtain⟨r1,e1,e2⟩:=bind_some e
  refine⟨v,us,rfl,O0,r,d,r1,hR,i1,e1,fun σ1 R1 k1=>⟨O0,r1,t,r',R1,?_,e2,fun σ2 R2 k2=>q σ2 R2 (k1.trans k2)⟩⟩
  exact IsL.mono (Same.kp (Same.refl H) _) hR.ol (fun a z n=>z.elim .inl fun z=>(k1.new a z).elim .inr fun z=>absurd z n) _ _ i2
end
inductive Rs where
 |v (d:D)|f (l:List D)|g (ks:List Key) (l:List D)
noncomputable abbrev MF:=List Sl->Option (Rs×List Sl)
structure PostF(K:Fg)(O0:Addr->Prop)(H:Hp)(as:List Sl)(vs:List V)(H':Hp)(as':List Sl):Prop where
 keep:m9 (MutAt as (vs.map some)) H H'
 live:∀b,H' b=none->H b=none
 lst:∀b o,H b=some o->Mb o->∃o',H' b=some o'/\Mb o'
 par:∀(i:Nat) (l:List D),as[i]?=some (.p l)->∃l' a xs,as'[i]?=some (.p l')/\vs[i]?=some (.ref a)/\H' a=some (.lst xs)/\IsL K O0 H' l' xs
noncomputable def RsP(K:Fg)(O0:Addr->Prop)(H:Hp)(as:List Sl)(vs:List V)(as':List Sl)(Q:VK):Rs->Prop
 |.v d=>∀v H',PostF K O0 H as vs H' as'->Is K O0 H' d v->Q v H'
 |.f l=>∀a xs H',PostF K O0 H as vs H' as'->H a=none->H' a=some (.lst xs)->IsL K (fun b=>O0 b\/b=a) H' l xs->Q (.ref a) H'
 |.g ks l=>∀a kvs H',PostF K O0 H as vs H' as'->H a=none->H' a=some (.dK kvs)->kvs.map (·.1)=ks->IsL K (fun b=>O0 b\/b=a) H' l (kvs.map (·.2))->Q (.ref a) H'
noncomputable def spD(K:Fg)(n:Nat)(m:MF):Sp:=fun vs H Q _=>∃O0 as rs as',as.length=n/\R K O0 H as (vs.map some)/\(∀(i:Nat) (l:List D),as[i]?≠some (.o l)/\as[i]?≠some (.z l)/\∀ks,as[i]?≠some (.d ks l))/\m as=some (rs,as')/\RsP K O0 H as vs as' Q rs
noncomputable def mkF(n N:Nat)(g:MS):MF:=fun as=>(g (as++List.replicate (N-n) .un)).bind fun fl=>match fl with
 |.rt d r'=>some (.v d,r'.take n)
 |.rf l r'=>some (.f l,r'.take n)
 |.rg ks l r'=>some (.g ks l,r'.take n)
 |.nx r'=>some (.v .non,r'.take n)
 |_=>none
section
variable{P:Program}{w:World}{K:Fg}{mg:Str->Option Value}{base:Heap}
theorem dL{q:Sl->Option (List D)}(hq:q .un=none){as:List Sl}{vs:List V}{k n:Nat}{a:Addr}(hl:as.length=vs.length):AtS q (as++List.replicate k .un) (vs.map some++List.replicate n none) a↔AtS q as (vs.map some) a:=by
 constructor
 ·rintro ⟨i,l,e,q'⟩
  by_cases hi:i<as.length
  ·rw[List.getElem?_append_left hi] at e
   rw[List.getElem?_append_left (by simp;omega)] at q'
   exact⟨i,l,e,q'⟩
  ·rw[List.getElem?_append_right (by omega),List.getElem?_replicate] at e
   split at e
   ·have e':q .un=some l:=e
    rw[hq] at e';cases e'
   ·cases e
 ·rintro ⟨i,l,e,q'⟩
  have hi:i<as.length:=by
   cases e1:as[i]? with
   |none=>rw[e1] at e;cases e
   |some x=>exact(List.getElem?_eq_some_iff.mp e1).1
  exact⟨i,l,by rw[List.getElem?_append_left hi];exact e,by rw[List.getElem?_append_left (by simp;omega)];exact q'⟩
theorem R.start{O0:Addr->Prop}{H:Hp}{as:List Sl}{vs:List V}{k:Nat}(h:R K O0 H as (vs.map some)):R K O0 H (as++List.replicate k .un) (vs.map some++List.replicate k none):=by
 have hl:as.length=vs.length:=by simpa using h.len
 have own:∀a,Ow O0 (as++List.replicate k .un) (vs.map some++List.replicate k none) a->H a≠none->Ow O0 as (vs.map some) a:=fun a z _=>z.imp id (dL rfl hl).mp
 have pre:∀(i:Nat) (x:Sl),(as++List.replicate k .un)[i]?=some x->x≠.un->as[i]?=some x/\(vs.map some++List.replicate k none)[i]?=(vs.map some)[i]?:=fun i x e n=>by
  by_cases hi:i<as.length
  ·rw[List.getElem?_append_left hi] at e
   exact⟨e,List.getElem?_append_left (by simp;omega)⟩
  ·rw[List.getElem?_append_right (by omega),List.getElem?_replicate] at e
   split at e
   ·cases e;exact absurd rfl n
   ·cases e
 have preO:∀{q:Sl->Option (List D)} (hq:q .un=none) (i:Nat) (l:List D),((as++List.replicate k .un)[i]?).bind q=some l->(as[i]?).bind q=some l/\(vs.map some++List.replicate k none)[i]?=(vs.map some)[i]?:=fun {q} hq i l e=>by
  cases e1:(as++List.replicate k .un)[i]? with
  |none=>rw[e1] at e;cases e
  |some x=>
   obtain⟨q1,q2⟩:=pre i x e1 (by rintro rfl;rw[e1] at e;have e':q .un=some l:=e;rw[hq] at e';cases e')
   rw[e1] at e
   exact⟨by rw[q1];exact e,q2⟩
 refine⟨by simp[hl],fun i d e=>?_,fun i l e=>?_,fun i j a l m e1 e2 q1 q2=>?_,h.o0,fun i l a e q=>?_,fun i l a e q=>?_,fun i ks l e=>?_⟩
 ·obtain⟨q1,q2⟩:=pre i _ e (by intro z;cases z)
  obtain⟨v,e3,q3⟩:=h.val i d q1
  exact⟨v,q2.trans e3,Is.mono (Same.kp (Same.refl H) _) h.ol own _ _ q3⟩
 ·obtain⟨q1,q2⟩:=preO (q:=Sl.ls) rfl i l e
  obtain⟨a,xs,e3,e4,q3⟩:=h.own i l q1
  exact⟨a,xs,q2.trans e3,e4,IsL.mono (Same.kp (Same.refl H) _) h.ol own _ _ q3⟩
 ·obtain⟨p1,p2⟩:=preO (q:=Sl.own) rfl i l e1
  obtain⟨p3,p4⟩:=preO (q:=Sl.own) rfl j m e2
  exact h.apart i j a l m p1 p3 (p2 ▸ q1) (p4 ▸ q2)
 ·rcases e with e|e|⟨ks,e⟩
  ·obtain⟨p1,p2⟩:=pre i _ e (by intro z;cases z)
   exact h.loc i l a (.inl p1) (p2 ▸ q)
  ·obtain⟨p1,p2⟩:=pre i _ e (by intro z;cases z)
   exact h.loc i l a (.inr (.inl p1)) (p2 ▸ q)
  ·obtain⟨p1,p2⟩:=pre i _ e (by intro z;cases z)
   exact h.loc i l a (.inr (.inr ⟨ks,p1⟩)) (p2 ▸ q)
 ·obtain⟨p1,p2⟩:=pre i _ e (by intro z;cases z)
  exact h.par i l a p1 (p2 ▸ q)
 ·obtain⟨p1,p2⟩:=pre i _ e (by intro z;cases z)
  obtain⟨a,kvs,e3,e4,e5,q3⟩:=h.dct i ks l p1
  exact⟨a,kvs,p2.trans e3,e4,e5,IsL.mono (Same.kp (Same.refl H) _) h.ol own _ _ q3⟩
theorem zH2{x qual:Str}{st:Stmt}{f:Addr}{fd:FuncData}{N ps:List Str}{k:Nat}{g:MS}(F:Fun K x qual st f fd)(S:FnScope N ps (zL st))(n:Nat)(nN:Nat)(hn:ps.length=n:=by rfl)(hN:N.length=nN:=by rfl)(hb:∀(cdv:Value),fd.code=cdv->∀(A:Around) (outer:List Env) (s:Shared) (H:Hp) (E:XK),Room k (A.deeper (envOfC qual (zL st) s.heap.objs.size f cdv)) ->
   DSs (zCZ CX0 P w K mg base N qual (zL st) f cdv A outer s H E).nox (wQ st) g):FnOk P w K mg base CX0 (k+1) f fd ps (spD K n (mkF n nN g)):=by
 subst hn hN
 obtain⟨oc,od,kV,doc,pm,an,cdv,ct,osl,rfl,lk,hcd⟩:=F.ex
 refine zF9 lk hcd S (fun vs H Q E h=>?_) (fun A outer s H vs Q E hr h=>?_)
 ·obtain⟨O0,as,rs,as',hl,hR,_⟩:=h
  have:=hR.len
  simp at this;omega
 ·obtain⟨O0,as,rs,as',hl,hR,no,e,q⟩:=h
  have hlv:as.length=vs.length:=by simpa using hR.len
  refine⟨_,PSs.nox (hb cdv rfl A outer s H E hr),?_⟩
  obtain⟨fl,e1,e2⟩:=bind_some e
  have hst:L2.start N vs=vs.map some++List.replicate (N.length-ps.length) none:=by unfold L2.start;rw[<-hlv,hl]
  rw[hst]
  have R0:=R.start (k:=N.length-ps.length) hR
  have fin:∀(σ':St) (H':Hp) (r':En),R K O0 H' r' σ'->Kp H (as++List.replicate (N.length-ps.length) .un) (vs.map some++List.replicate (N.length-ps.length) none) H' r' σ'->PostF K O0 H as vs H' (r'.take ps.length):=fun σ' H' r' R' k'=>by
   refine⟨fun b o eb nb=>k'.keep b o eb fun z=>nb ((dL rfl hlv).mp z),k'.live,k'.lst,fun i l ei=>?_⟩
   have hi:i<as.length:=(List.getElem?_eq_some_iff.mp ei).1
   obtain⟨⟨l',e3⟩,e4⟩:=k'.par i l (by rw[List.getElem?_append_left hi];exact ei)
   rw[List.getElem?_append_left (by simp;omega)] at e4
   obtain⟨a,xs,e5,e6,e7⟩:=R'.own i l' (by rw[e3];rfl)
   rw[e4] at e5
   have ev:vs[i]?=some (.ref a):=by
    rw[List.getElem?_map] at e5
    cases e8:vs[i]? with
    |none=>rw[e8] at e5;cases e5
    |some y=>rw[e8] at e5;cases e5;rfl
   exact⟨l',a,xs,by rw[List.getElem?_take_of_lt (by omega)];exact e3,ev,e6,IsL.mono (Same.kp (Same.refl H') _) R'.ol (fun _ z _=>.inl z) _ _ e7⟩
  refine⟨O0,_,fl,R0,e1,?_⟩
  cases fl with
  |nx r'=>cases e2;exact fun σ' H' R' k'=>q .non H' (fin σ' H' r' R' k') (by rw[Is.non_iff])
  |bk r'=>cases e2
  |ct r'=>cases e2
  |rt d r'=>cases e2;exact fun v σ' H' R' k' i'=>q v H' (fin σ' H' r' R' k') i'
  |rf l r'=>
   cases e2
   refine fun a xs σ' H' R' k' fr no0 ea il=>q a xs H' (fin σ' H' r' R' k') ?_ ea il
   rcases fr with z|⟨i,m,ei,_⟩
   ·exact z
   ·exfalso
    by_cases hi:i<as.length
    ·rw[List.getElem?_append_left hi] at ei
     rcases ei with ei|⟨ks,ei⟩
     ·exact(no i m).1 ei
     ·exact(no i m).2.2 ks ei
    ·rw[List.getElem?_append_right (by omega),List.getElem?_replicate] at ei
     rcases ei with ei|⟨ks,ei⟩<;>split at ei<;>cases ei
  |rg ks l r'=>
   cases e2
   refine fun a kvs σ' H' R' k' fr no0 ea ek il=>q a kvs H' (fin σ' H' r' R' k') ?_ ea ek il
   rcases fr with z|⟨i,m,ei,_⟩
   ·exact z
   ·exfalso
    by_cases hi:i<as.length
    ·rw[List.getElem?_append_left hi] at ei
     rcases ei with ei|⟨ks',ei⟩
     ·exact(no i m).1 ei
     ·exact(no i m).2.2 ks' ei
    ·rw[List.getElem?_append_right (by omega),List.getElem?_replicate] at ei
     rcases ei with ei|⟨ks',ei⟩<;>split at ei<;>cases ei
theorem mY{x qual:Str}{st:Stmt}{f:Addr}{fd:FuncData}{N ps:List Str}{k:Nat}{g:MS}(F:Fun K x qual st f fd)(S:FnScope N ps (zL st))(n:Nat)(nN:Nat)(hn:ps.length=n:=by rfl)(hN:N.length=nN:=by rfl)(hb:∀(cdv:Value) (A:Around) (outer:List Env) (s:Shared) (H:Hp) (E:XK),Room k (A.deeper (envOfC qual (zL st) s.heap.objs.size f cdv)) ->
   DSs (zCZ CX0 P w K mg base N qual (zL st) f cdv A outer s H E).nox (wQ st) g):FnOk P w K mg base CX0 (k+1) f fd ps (spD K n (mkF n nN g)):=zH2 F S n nN hn hN fun cdv _=>hb cdv
theorem zJZ{f:Addr}{fd:FuncData}{ps:List Str}{k:Nat}(n:Nat):FnOk P w K mg base CX0 k f fd ps (spD K n fun _=>none):=
 ⟨(fun vs H Q E h=>by obtain⟨_,_,_,_,_,_,_,e,_⟩:=h;cases e),(fun A outer s H args us vs Q E _ _ _ _ h=>by obtain⟨_,_,_,_,_,_,_,e,_⟩:=h;cases e)⟩
end
noncomputable def rsD:Rs->D
 |.v d=>d
 |.f l=>.lst l
 |.g ks l=>.dct ks l
noncomputable def z6(n:Nat)(m:MF)(fs:ML):ME:=fun r=>(fs r).bind fun ds=>if ds.length=n then (m (ds.map .v)).map fun p=>rsD p.1 else none
noncomputable def uF(n:Nat)(m:MF)(fs:ML):ML:=fun r=>(fs r).bind fun ds=>if ds.length=n then (m (ds.map .v)).bind fun p=>match p.1 with
 |.f l=>some l
 |_=>none
 else none
section
variable{K:Fg}
theorem R.args{O:Addr->Prop}{H:Hp}{ds:List D}{vs:List V}(ol:jB O H)(h:IsL K O H ds vs):R K O H (ds.map .v) (vs.map some):=by
 have no:∀(i:Nat) (l:List D),((ds.map Sl.v)[i]?).bind Sl.own≠some l:=fun i l e=>by
  rw[List.getElem?_map] at e
  cases e1:ds[i]? with
  |none=>rw[e1] at e;cases e
  |some x=>rw[e1] at e;cases e
 refine⟨by simp[h.length],fun i d e=>?_,fun i l e=>absurd (qX e) (no i l),fun i j a l m e1=>absurd e1 (no i l),ol,fun i l a e=>absurd (show((ds.map Sl.v)[i]?).bind Sl.own=some l by rcases e with e|e|⟨_,e⟩<;>rw[e]<;>rfl) (no i l),fun i l a e=>absurd (show((ds.map Sl.v)[i]?).bind Sl.own=some l by rw[e];rfl) (no i l),fun i ks l e=>absurd (show((ds.map Sl.v)[i]?).bind Sl.own=some l by rw[e];rfl) (no i l)⟩
 rw[List.getElem?_map] at e
 cases e1:ds[i]? with
 |none=>rw[e1] at e;cases e
 |some x=>
  rw[e1] at e;cases e
  obtain⟨v,e2,q⟩:=h.get e1
  exact⟨v,by rw[List.getElem?_map,e2];rfl,Is.mono (Same.kp (Same.refl H) _) ol (fun a z _=>z.elim id fun⟨j,l,ej,_⟩=>absurd ej (no j l)) _ _ q⟩
theorem XW{ds:List D}{σ:St}{a:Addr}:¬MutAt (ds.map .v) σ a:=fun⟨i,l,e,_⟩=>by
 rw[List.getElem?_map] at e
 cases e1:ds[i]? with
 |none=>rw[e1] at e;cases e
 |some x=>rw[e1] at e;cases e
theorem PostF.same{O0:Addr->Prop}{H H':Hp}{ds:List D}{vs:List V}{as':List Sl}(h:PostF K O0 H (ds.map .v) vs H' as'):Same H H':=fun b o e=>h.keep b o e XW
end
section
variable{X:Cx}{k n:Nat}{f:Addr}{fd:FuncData}{ps:List Str}{m:MF}{x:Str}{p pos:Pos}{e:Expr}{es:List Expr}{fs:ML}
theorem cU{O0:Addr->Prop}{r:En}{σ:St}{H H1:Hp}{ds:List D}{vs:List V}{rs:Rs}{as':List Sl}{Q:VK}{E:XK}(hR:R X.K O0 H r σ)(s1:Same H H1)(il:IsL X.K (Ow O0 r σ) H1 ds vs)(hl:ds.length=n)(em:m (ds.map .v)=some (rs,as'))(q:RsP X.K (Ow O0 r σ) H1 (ds.map .v) vs as' Q rs):spD X.K n m (vs++[]) H1 Q E:=by
 rw[List.append_nil]
 refine⟨Ow O0 r σ,ds.map .v,rs,as',by simpa using hl,R.args (hR.same s1).ol il,fun i l=>?_,em,q⟩
 rw[List.getElem?_map]
 cases e1:ds[i]? with
 |none=>exact⟨(fun z=>by cases z),(fun z=>by cases z),(fun _ z=>by cases z)⟩
 |some y=>exact⟨(fun z=>by cases z),(fun z=>by cases z),(fun _ z=>by cases z)⟩
theorem z4(F:FnOk X.prog X.w X.K X.mg X.base CX0 k f fd ps (spD X.K n m))(hr:Room k X.A)(hg:Gl X x)(hm:X.mg x=some (.ref f))(hk:PySem.W.keepIn X.K (.ref f)=true)(hb:Binds X.K fd ps [])(ha:DA X (e::es) fs)(hdb:(x == ("__debug__" : Str))=false:=by decide)(he:starEach (e::es) X.env=(false,eval e X.env)::starEach es X.env:=by rfl)(hpl:(backTo pos (starEach es X.env)).any (·.1)=false:=by rfl):DE X (.Call (.Name x p) (e::es) [] pos) (z6 n m fs):=by
 refine PE.conseq (u8 (E:=fun _ _ _=>False) (dvs:=[]) F hr hg hm hk hb .nil dH ha hdb he hpl) fun σ H Q h=>?_
 obtain⟨O0,r,d,hR,e,q⟩:=h
 obtain⟨ds,e1,e2⟩:=bind_some e
 split at e2
 ·rename_i hl
  obtain⟨⟨rs,as'⟩,e3,rfl⟩:=map_some e2
  refine⟨O0,r,ds,hR,e1,fun vs H1 s1 il=>cU hR s1 il hl e3 ?_⟩
  cases rs with
  |v d=>exact fun v H2 pf iv=>q v H2 (s1.trans pf.same) iv
  |f l=>
   refine fun a xs H2 pf na ea il2=>q _ H2 (s1.trans pf.same) ?_
   have R1:=hR.same s1
   have olp:jB (fun b=>Ow O0 r σ b\/b=a) H2:=fun b z=>z.elim (fun z=>(R1.same pf.same).ol b z) fun z=>by subst z;exact⟨.lst xs,ea,trivial⟩
   show Is X.K (Ow O0 r σ) H2 (.lst l) (.ref a)
   rw[Is.lst_iff]
   exact⟨a,xs,rfl,.inl ⟨R1.nofresh na,.inl ea⟩,IsL.mono (Same.kp (Same.refl H2) _) olp (fun _ z _=>.inl z) _ _ il2⟩
  |g ks l=>
   refine fun a kvs H2 pf na ea ek il2=>q _ H2 (s1.trans pf.same) ?_
   have olp:jB (fun b=>Ow O0 r σ b\/b=a) H2:=fun b z=>z.elim (fun z=>((hR.same s1).same pf.same).ol b z) fun z=>by subst z;exact⟨.dK kvs,ea,trivial⟩
   show Is X.K (Ow O0 r σ) H2 (.dct ks l) (.ref a)
   rw[Is.dct_iff]
   exact⟨a,kvs,rfl,(hR.same s1).nofresh na,.inl ea,ek,IsL.mono (Same.kp (Same.refl H2) _) olp (fun _ z _=>.inl z) _ _ il2⟩
 ·cases e2
theorem Z5(F:FnOk X.prog X.w X.K X.mg X.base CX0 k f fd ps (spD X.K n m))(hr:Room k X.A)(hg:Gl X x)(hm:X.mg x=some (.ref f))(hk:PySem.W.keepIn X.K (.ref f)=true)(hb:Binds X.K fd ps [])(ha:DA X (e::es) fs)(hdb:(x == ("__debug__" : Str))=false:=by decide)(he:starEach (e::es) X.env=(false,eval e X.env)::starEach es X.env:=by rfl)(hpl:(backTo pos (starEach es X.env)).any (·.1)=false:=by rfl):DF X (.Call (.Name x p) (e::es) [] pos) (uF n m fs):=by
 refine PE.conseq (u8 (E:=fun _ _ _=>False) (dvs:=[]) F hr hg hm hk hb .nil dH ha hdb he hpl) fun σ H Q h=>?_
 obtain⟨O0,r,l,hR,e,q⟩:=h
 obtain⟨ds,e1,e2⟩:=bind_some e
 split at e2
 ·rename_i hl
  obtain⟨⟨rs,as'⟩,e3,e4⟩:=bind_some e2
  refine⟨O0,r,ds,hR,e1,fun vs H1 s1 il=>cU hR s1 il hl e3 ?_⟩
  cases rs with
  |v d=>cases e4
  |f l'=>cases e4;exact fun a xs H2 pf na ea il2=>q a xs H2 (s1.trans pf.same) (s1.free na) ea il2
  |g ks l'=>cases e4
 ·cases e2
end
section
variable{X:Cx}{tg l:Expr}{f:ME}{p pos:Pos}
noncomputable def zBM:D->Option (List D)
 |.lst l=>some l
 |.tup l=>some l
 |_=>none
noncomputable def mIt(f:ME):ML:=fun r=>(f r).bind zBM
theorem kB{l:List D}{i:Nat}(h:i<l.length):∃d,l[i]?=some d:=⟨l[i],by simp[h]⟩
theorem QT{K:Fg}{O M:Addr->Prop}(mo:∀a,M a->O a){H:Hp}{a:Addr}{xs:List V}{ds:List D}(ol:jB O H)(rd:∀H1,m9 M H H1->SqL K H1 a xs)(il:IsL K O H ds xs):zDK K O M H (Itl K a) ds:=by
 intro i H1 O' kp oo
 have kp':m9 O H H1:=fun b o e n=>kp b o e fun z=>n (mo b z)
 have rd1:SqL K H1 a xs:=rd H1 kp
 refine⟨fun hi=>⟨?_,fun x H' y=>?_⟩,fun hi=>⟨xs,rd1,by rw[<-il.length];exact Nat.le_of_eq hi.symm⟩⟩
 ·obtain⟨d,e⟩:=kB hi
  obtain⟨v,e1,_⟩:=il.get e
  exact⟨xs,v,rd1,e1⟩
 ·obtain⟨rfl,y⟩:=y
  refine⟨Same.refl _,fun d e=>?_⟩
  obtain⟨v,e1,q⟩:=il.get e
  have:=y xs rd1
  rw[e1] at this;cases this
  exact Is.mono kp' ol oo _ _ q
theorem QR{K:Fg}{O M:Addr->Prop}(mo:∀a,M a->O a){H:Hp}{a:Addr}{xs:List V}{ds:List D}(ol:jB O H)(rd:SqT K H a xs)(il:IsL K O H ds xs):zDK K O M H (Itt K a) ds:=by
 intro i H1 O' kp oo
 have kp':m9 O H H1:=fun b o e n=>kp b o e fun z=>n (mo b z)
 have rd1:SqT K H1 a xs:=SqT.keep kp' ol rd
 refine⟨fun hi=>⟨?_,fun x H' y=>?_⟩,fun hi=>⟨xs,rd1,by rw[<-il.length];exact Nat.le_of_eq hi.symm⟩⟩
 ·obtain⟨d,e⟩:=kB hi
  obtain⟨v,e1,_⟩:=il.get e
  exact⟨xs,v,rd1,e1⟩
 ·obtain⟨rfl,y⟩:=y
  refine⟨Same.refl _,fun d e=>?_⟩
  obtain⟨v,e1,q⟩:=il.get e
  have:=y xs rd1
  rw[e1] at this;cases this
  exact Is.mono kp' ol oo _ _ q
theorem J0{tl:TE}(hl:PE X l tl):PI X tg l (fun σ H Rr=>tl σ H fun x H1=>∃a,x=.ref a/\(((∃xs,SqL X.K H1 a xs)/\Rr (Itl X.K a) H1)\/((∃xs,SqT X.K H1 a xs)/\Rr (Itt X.K a) H1))):=by
 intro pins s σ H R I h
 refine thn (hl pins s σ H _ I h) fun v s1 ⟨x,H1,I1,r1,q1⟩=>?_
 obtain⟨a,e,q⟩:=q1
 subst e
 cases r1
 rcases q with⟨⟨xs,hq⟩,q⟩|⟨⟨xs,hq⟩,q⟩
 ·obtain⟨its,rv,p,hz⟩:=I1.list hq
  refine wpAny_pyIter_list p.isList ?_
  refine⟨s1.heap.objs.size,[s1.heap.objs.size],_,_,H1,rfl,I1.kept (t':=s1.toks) fun b o e=>Heap.get?_push_of_some _ e,pF a _,⟨_,Heap.get?_push_size _ rfl,rfl,rfl⟩,fun b hb=>?_,q⟩
  have e:b=s1.heap.objs.size:=by simpa using hb
  subst e
  exact I1.fpOk (Nat.le_refl _) (I1.hok.fresh (Nat.le_refl _))
 ·obtain⟨its,rv,p,hz⟩:=I1.tuple hq
  refine wpAny_pyIter_tuple (show s1.heap.IsTuple a its.toArray from p) ?_
  refine⟨s1.heap.objs.size,[s1.heap.objs.size],_,_,H1,rfl,I1.kept (t':=s1.toks) fun b o e=>Heap.get?_push_of_some _ e,hU a _,⟨_,Heap.get?_push_size _ rfl,rfl,rfl⟩,fun b hb=>?_,q⟩
  have e:b=s1.heap.objs.size:=by simpa using hb
  subst e
  exact I1.fpOk (Nat.le_refl _) (I1.hok.fresh (Nat.le_refl _))
theorem uK(hl:DE X l f):DI X tg l (mIt f):=by
 refine PI.conseq (J0 hl) fun σ H Rr h=>?_
 obtain⟨O0,r,ds,hR,e,q⟩:=h
 obtain⟨d,e1,e2⟩:=bind_some e
 refine⟨O0,r,d,hR,e1,fun v H1 s1 i1=>?_⟩
 have ol:=(hR.same s1).ol
 cases d with
 |lst l'=>
  cases e2
  rw[Is.lst_iff] at i1
  obtain⟨a,xs,rfl,rd,il⟩:=i1
  exact⟨a,rfl,.inl ⟨⟨xs,rd.sq⟩,q _ H1 s1 (QT (fun a z=>.inr z.own) ol (fun H2 k2=>rd.imp (fun z=>Rd.keep k2 (fun y=>z.1 (.inr y.own)) z.2) id) il)⟩⟩
 |tup l'=>
  cases e2
  rw[Is.tup_iff] at i1
  obtain⟨a,xs,rfl,rd,il⟩:=i1
  exact⟨a,rfl,.inr ⟨⟨xs,rd⟩,q _ H1 s1 (QR (fun a z=>.inr z.own) ol rd il)⟩⟩
 |_=>cases e2
noncomputable def zFV(lo:Int)(n:Nat):List D:=(List.range n).map fun i=>.int (lo+(i:Nat))
theorem zDL{K:Fg}{O M:Addr->Prop}{H:Hp}(lo:Int)(n:Nat):zDK K O M H (Itr lo n) (zFV lo n):=by
 intro i H1 O' kp oo
 have hl:(zFV lo n).length=n:=by simp[zFV]
 refine⟨fun hi=>⟨by rw[hl] at hi;exact hi,fun x H' y=>?_⟩,fun hi=>by rw[hl] at hi;exact Nat.le_of_eq hi.symm⟩
 obtain⟨rfl,rfl⟩:=y
 refine⟨Same.refl _,fun d e=>?_⟩
 rw[hl] at hi
 unfold zFV at e
 rw[List.getElem?_map,List.getElem?_range hi] at e
 cases e
 rw[Is.int_iff]
noncomputable def intD:D->Option Int
 |.int i=>some i
 |_=>none
noncomputable def rL(f:ME):ML:=fun r=>(f r).bind fun d=>(intD d).bind fun j=>if -(2 ^ 62)<=j/\j<2 ^ 62 then some (zFV 0 j.toNat) else none
theorem qF{d:D}{i:Int}(e:intD d=some i):d=.int i:=by
 cases d<;>first|cases e;rfl|cases e
theorem oO(hg:Gl X "range")(hm:X.mg "range" = none)(ha:DE X l f)(hs:starEach [l] X.env=[(false,eval l X.env)]:=by rfl):DI X tg (.Call (.Name "range" p) [l] [] pos) (rL f):=by
 refine PI.conseq (p6 hg hm (zZ ha xA hs) hs) fun σ H Rr h=>?_
 obtain⟨O0,r,ds,hR,e,q⟩:=h
 obtain⟨d,e1,e2⟩:=bind_some e
 obtain⟨j,e3,e4⟩:=bind_some e2
 cases qF e3
 split at e4
 ·rename_i hj
  cases e4
  refine⟨O0,r,_,hR,e1,fun v H1 s1 i1=>?_⟩
  rw[Is.int_iff] at i1
  exact⟨j,by rw[i1],hj.1,hj.2,q _ H1 s1 (zDL 0 _)⟩
 ·cases e4
end
noncomputable def tH(env:Env):List (Str×NameKind)->List (Str×Addr)->List (Str×Addr)
 |[],acc=>acc
 |(n,k)::r,acc=>if k=.free then tH env r ((n,(env.cells.lookup n).getD 0)::acc) else tH env r acc
theorem kQ{env:Env}:∀(names:List (Str×NameKind)) (acc:List (Str×Addr)),(∀y∈names,y.2=.free->∃c,env.cells.lookup y.1=some c) ->
  (forIn names acc (fun(x:Str×NameKind) (cs:List (Str×Addr))=>match x with
   |(name,kind)=>if (kind == NameKind.free)=true then do let a <- cellOf env name;pure (ForInStep.yield ((name,a)::cs)) else pure (ForInStep.yield cs)):Sem (List (Str×Addr)))=pure (tH env names acc)
 |[],acc,_=>rfl
 |(n,k)::r,acc,h=>by
  rw[List.forIn_cons]
  by_cases hk:k=.free
  ·obtain⟨c,hc⟩:=h (n,k) List.mem_cons_self hk
   have ih:=kQ r ((n,c)::acc) fun y hy=>h y (List.mem_cons_of_mem _ hy)
   subst hk
   show((do let a <- cellOf env n;pure (ForInStep.yield ((n,a)::acc))) >>= _:Sem _)=_
   unfold cellOf
   rw[hc]
   unfold tH
   rw[if_pos rfl,hc]
   exact ih
  ·have hb:(k == NameKind.free)=false:=by simpa using hk
   have ih:=kQ r acc fun y hy=>h y (List.mem_cons_of_mem _ hy)
   unfold tH
   rw[if_neg hk]
   simp only[hb]
   exact ih
theorem uP{scope:Scope}{env:Env}(h:∀y∈scope.names,y.2=.free->∃c,env.cells.lookup y.1=some c):closureFor scope env=pure (tH env scope.names []):=by
 unfold closureFor
 have:=kQ (env:=env) scope.names [] h
 first
  |exact this
  |(simp only[bind_pure];exact this)
  |(rw[<-this];rfl)
theorem cL{env:Env}{x:Str}{c:Addr}:∀(names:List (Str×NameKind)) (acc:List (Str×Addr)),(∀y∈names,y.2=.free->∃c,env.cells.lookup y.1=some c)->(∀c,acc.lookup x=some c->env.cells.lookup x=some c) ->
  (tH env names acc).lookup x=some c->env.cells.lookup x=some c
 |[],acc,_,ha,e=>ha c e
 |(n,k)::r,acc,h,ha,e=>by
  unfold tH at e
  split at e
  ·rename_i hk
   refine cL r _ (fun y hy=>h y (List.mem_cons_of_mem _ hy)) (fun c' e'=>?_) e
   rw[List.lookup_cons] at e'
   split at e'
   ·rename_i hx
    have hx':x=n:=by simpa using hx
    subst hx'
    obtain⟨c2,q⟩:=h (x,k) List.mem_cons_self hk
    rw[q] at e' ⊢
    simpa using e'
   ·exact ha c' e'
  ·exact cL r _ (fun y hy=>h y (List.mem_cons_of_mem _ hy)) ha e
theorem cM{env:Env}{x:Str}:∀(names:List (Str×NameKind)) (acc:List (Str×Addr)),(∃c,acc.lookup x=some c)->∃c,(tH env names acc).lookup x=some c
 |[],acc,h=>h
 |(n,k)::r,acc,h=>by
  unfold tH
  split
  ·refine cM r _ ?_
   rw[List.lookup_cons]
   split
   ·exact⟨_,rfl⟩
   ·exact h
  ·exact cM r _ h
theorem uQ{env:Env}{x:Str}:∀(names:List (Str×NameKind)) (acc:List (Str×Addr)),(x,NameKind.free)∈names->∃c,(tH env names acc).lookup x=some c
 |[],_,h=>nomatch h
 |(n,k)::r,acc,h=>by
  unfold tH
  rcases List.mem_cons.mp h with z|z
  ·cases z
   rw[if_pos rfl]
   refine cM r _ ?_
   rw[List.lookup_cons]
   simp
  ·split
   ·exact uQ r _ z
   ·exact uQ r _ z
theorem qD{env:Env}:∀{names:List (Str×NameKind)} {x:Str} {k:NameKind},(names.map fun(n,k)=>if (k == NameKind.free && env.scope.kind == .function && env.kindOf n == some .cell) then (n,NameKind.cell) else (n,k)).lookup x=some k ->
  ∃k',names.lookup x=some k'/\(k=k'\/(k'=.free/\k=.cell))
 |[],_,_,h=>by simp at h
 |(n,k0)::r,x,k,h=>by
  have h':List.lookup x ((if (k0 == NameKind.free && env.scope.kind == .function && env.kindOf n == some .cell)=true then (n,NameKind.cell) else (n,k0))::(r.map fun(n,k)=>if (k == NameKind.free && env.scope.kind == .function && env.kindOf n == some .cell) then (n,NameKind.cell) else (n,k)))=some k:=h
  rw[List.lookup_cons]
  by_cases hc:(k0 == NameKind.free && env.scope.kind == .function && env.kindOf n == some .cell)=true
  ·rw[if_pos hc,List.lookup_cons] at h'
   split at h'
   ·rename_i hx
    cases h'
    refine⟨k0,rfl,.inr ⟨?_,rfl⟩⟩
    simp only[Bool.and_eq_true,beq_iff_eq] at hc
    exact hc.1.1
   ·rename_i hx
    exact qD h'
  ·rw[if_neg hc,List.lookup_cons] at h'
   split at h'
   ·rename_i hx
    cases h'
    exact⟨k0,rfl,.inl rfl⟩
   ·rename_i hx
    exact qD h'
theorem j0{env:Env}:∀{names:List (Str×NameKind)} {x:Str},names.lookup x=some .free ->
  let l:=(names.map fun(n,k)=>if (k == NameKind.free && env.scope.kind == .function && env.kindOf n == some .cell) then (n,NameKind.cell) else (n,k));l.lookup x=some .cell\/l.lookup x=some .free
 |[],_,h=>by simp at h
 |(n,k0)::r,x,h=>by
  show List.lookup x ((if (k0 == NameKind.free && env.scope.kind == .function && env.kindOf n == some .cell)=true then (n,NameKind.cell) else (n,k0))::_)=_\/List.lookup x ((if (k0 == NameKind.free && env.scope.kind == .function && env.kindOf n == some .cell)=true then (n,NameKind.cell) else (n,k0))::_)=_
  rw[List.lookup_cons] at h
  cases hx:x == n with
  |true=>
   rw[hx] at h
   cases h
   split
   ·left;rw[List.lookup_cons,hx]
   ·right;rw[List.lookup_cons,hx]
  |false=>
   rw[hx] at h
   have ih:=j0 (env:=env) h
   split
   ·rw[List.lookup_cons,hx];exact ih
   ·rw[List.lookup_cons,hx];exact ih
noncomputable def cxC(X:Cx)(N':List Str)(scope:Scope)(C:Addr)(fp:List Addr)(s:Shared)(H:Hp):Cx where
 prog:=X.prog
 w:=X.w
 K:=X.K
 mg:=X.mg
 base:=X.base
 A:=X.A
 N:=N'
 s₀:=s
 H₀:=H
 env:=compEnvC scope (tH X.env scope.names []) C X.env
 outer:=X.stack
 stack:=X.stack
 ex:=fp
 fn:=fun _=>false
 calm:=X.calm
 pn:=[]
 xe:=fun _ _=>False
structure CmpOk(X:Cx)(N':List Str)(cap:List Nat)(scope:Scope):Prop where
 kind:scope.kind=.function
 nc:∀y∈scope.names,y.2≠.cell
 nm:∀y∈scope.names,y.2=.local->scope.names.lookup y.1=some .local
 fr:∀y∈scope.names,y.2=.free->X.env.kindOf y.1=some .cell\/X.env.kindOf y.1=some .free
 capt:∀(i j:Nat),cap[i]?=some j->∃x,N'[i]?=some x/\X.N[j]?=some x/\scope.names.lookup x=some .free
 len:cap.length<=N'.length
noncomputable def QO(cap:List Nat)(n:Nat)(σ:St):St:=(cap.map fun j=>(σ[j]?).getD none)++List.replicate (n-cap.length) none
section
variable{X:Cx}{pins:List (Addr×Obj)}{σ:St}{H:Hp}{s:Shared}{N':List Str}{cap:List Nat}{scope:Scope}{fp:List Addr}
theorem CmpOk.hasc(o:CmpOk X N' cap scope)(ok:X.Ok):∀y∈scope.names,y.2=.free->∃c,X.env.cells.lookup y.1=some c:=fun y hy e=>ok.has y.1 (o.fr y hy e)
theorem CmpOk.sub(o:CmpOk X N' cap scope)(ok:X.Ok){x:Str}{c:Addr}(e:(tH X.env scope.names []).lookup x=some c):X.env.cells.lookup x=some c:=cL scope.names [] (o.hasc ok) (fun _ z=>by simp at z) e
theorem WL(o:CmpOk X N' cap scope)(I:Inv X pins σ H s)(hfp:∀b∈fp,QL X pins H b)(hlt:∀b∈fp,b<s.heap.objs.size){h':Heap}{t':Nat}(ns:h'.Ns s.heap.objs.size (fun _=>none))(kp:∀b u,s.heap.get? b=some u->h'.get? b=some u):Inv (cxC X N' scope s.heap.objs.size fp s H) [] (QO cap N'.length σ) H { s with heap:=h',toks:=t' }:=by
 have hf:H s.heap.objs.size=none:=I.hok.fresh (Nat.le_refl _)
 have nofp:∀b∈fp,b∉frs X.stack:=fun b hb z=>by
  obtain⟨f0,f1,f2,f3,f4,f5⟩:=hfp b hb
  rcases List.mem_cons.mp (I.stkSub b z) with q|q
  ·exact f1 q
  ·exact f2 q
 have ok':(cxC X N' scope s.heap.objs.size fp s H).Ok:=by
  refine⟨I.ok.mod,o.kind,I.ok.glob,I.ok.blt,Nat.le_refl _,fun x y c e1 e2=>I.ok.inj x y c (o.sub I.ok e1) (o.sub I.ok e2),fun x hx=>?_,fun x c z=>(by cases z),I.ok.hd,I.ok.frames,.inl rfl,fun b hb=>⟨Nat.ne_of_lt (hlt b hb),fun x c e=>(hfp b hb).2.2.2.2.1 x c (o.sub I.ok e)⟩,
   fun b ob e=>I.bs b ob e,Nat.le_trans I.ok.bsz I.sz,fun b ob e hb=>?_,nofp,I.stack,⟨I.stkFree,I.tabIn⟩⟩
  ·have key:scope.names.lookup x=some .free:=by
    rcases hx with hx|hx
    ·obtain⟨k',e1,e2⟩:=qD (env:=X.env) (names:=scope.names) (x:=x) (k:=.cell) hx
     rcases e2 with e2|e2
     ·subst e2;exact absurd rfl (o.nc _ (PySem.mem_of_lookup e1))
     ·rw[e2.1] at e1;exact e1
    ·obtain⟨k',e1,e2⟩:=qD (env:=X.env) (names:=scope.names) (x:=x) (k:=.free) hx
     rcases e2 with e2|e2
     ·subst e2;exact e1
     ·exact absurd e2.2 (by decide)
   exact uQ scope.names [] (PySem.mem_of_lookup key)
  ·rcases(hfp b hb).2.2.2.1 with z|z
   ·exact I.ok.noex b ob e z
   ·exact absurd (Nat.lt_of_lt_of_le (Nat.lt_of_lt_of_le (Heap.lt_size e) I.ok.bsz) z) (Nat.lt_irrefl _)
 refine⟨ok',rfl,I.bare,Un.kept kp,⟨fun _=>none,ns,fun i x v hN hs hv=>?_⟩,fun x c e=>?_,hf,fun x c e=>I.freeC x c (o.sub I.ok e),fun p hp=>?_,I.hok.kept kp,?_⟩
 ·have hN:N'[i]?=some x:=hN
  by_cases hi:i<cap.length
  ·unfold QO at hs
   rw[List.getElem?_append_left (by simpa using hi),List.getElem?_map] at hs
   obtain⟨j,hj⟩:∃j,cap[i]?=some j:=⟨cap[i],by simp[hi]⟩
   rw[hj] at hs
   have hs':σ[j]?=some (some v):=by
    have hs'':(σ[j]?).getD none=some v:=Option.some.inj hs
    cases e:σ[j]? with
    |none=>rw[e] at hs'';cases hs''
    |some y=>rw[e] at hs'';have:y=some v:=hs'';rw[this]
   obtain⟨x',e1,e2,e3⟩:=o.capt i j hj
   rw[hN] at e1;cases e1
   have hk:=o.fr (x,.free) (PySem.mem_of_lookup e3) rfl
   obtain⟨m,hn,hl⟩:=I.loc
   have hvis:Vis X.env.scope x:=hk.elim (fun z=>.inr (.inl z)) fun z=>.inr (.inr z)
   obtain⟨u,r,lk⟩:=hl j x v e2 hs' hvis
   refine⟨u,r,.inr ⟨j0 (env:=X.env) e3,?_⟩⟩
   rcases lk with⟨z,_⟩|⟨_,c,hc,hcell⟩
   ·have z':X.env.kindOf x=some .local:=z
    rw[z'] at hk
    rcases hk with hk|hk<;>cases hk
   ·obtain⟨c',hc'⟩:=uQ (env:=X.env) scope.names [] (PySem.mem_of_lookup e3)
    have hcc:=o.sub I.ok hc'
    rw[hc] at hcc;cases hcc
    obtain⟨ob,q1,q2⟩:=hcell
    exact⟨c,hc',ob,kp _ _ q1,q2⟩
  ·unfold QO at hs
   rw[List.getElem?_append_right (by simpa using Nat.le_of_not_lt hi),List.getElem?_replicate] at hs
   split at hs<;>cases hs
 ·obtain⟨v,ob,q1,q2⟩:=I.cell x c (o.sub I.ok e)
  exact⟨v,ob,kp _ _ q1,q2⟩
 ·exact absurd (show p∈([]:List (Addr×Obj)) from hp) (by simp)
 ·unfold QO
  show _=N'.length
  rw[List.length_append,List.length_map,List.length_replicate]
  have:=o.len
  omega
theorem bX{H2:Hp}{σ2:St}{s2:Shared}{h':Heap}(I:Inv X pins σ H s)(hfp:∀b∈fp,QL X pins H b)(J:Inv (cxC X N' scope s.heap.objs.size fp s H) [] σ2 H2 s2)(sb:Heap.SameBut s.heap.objs.size s2.heap h'):Inv X pins σ H2 { s2 with heap:=h' }:=by
 have hb:Un (frs X.stack) fp H H2 s.heap s2.heap:=J.base
 have ne:∀b o,s.heap.get? b=some o->b≠s.heap.objs.size:=fun b o e=>Nat.ne_of_lt (Heap.lt_size e)
 have fr:H2 s.heap.objs.size=none:=J.free
 refine I.call' (s':={ s2 with heap:=h' }) (ch:=fp) J.os ?_ ?_ J.bare fun b hb=>⟨(hfp b hb).2.2.2.1,(hfp b hb).2.1,(hfp b hb).2.2.2.2.1,(hfp b hb).2.2.2.2.2⟩
 ·refine⟨fun b o e n h1 h2=>?_,fun b o e n h1 h2=>?_,fun b o e n h2=>hb.free b o e n h2,fun b o e h2=>?_,hb.tups,hb.frzs,hb.tbls⟩
  ·exact sb.extBut b o (ne b o e) (hb.keep b o e n h1 h2)
  ·obtain⟨sl,q⟩:=hb.slot b o e n h1 h2
   exact⟨sl,sb.extBut b _ (ne b o e) q⟩
  ·obtain⟨o',q⟩:=hb.there b o e h2
   exact⟨o',sb.extBut b _ (ne b o e) q⟩
 ·intro b u e
  have nb:∀c w,H2 c=some w->c≠s.heap.objs.size:=fun c w q z=>by rw[z,fr] at q;cases q
  refine(J.hok b u e).stay (fun c v hc q=>sb.extBut c v ?_ q) (fun _ q=>q) (fun _ _ q=>q) fun _ _ _ q=>q
  rcases hc with z|z
  ·rw[z];exact nb b u e
  ·exact nb c _ z
noncomputable def YZ(tc:Option TT)(te:TE)(K1:V->Hp->Prop)(K0:Hp->Prop):St->Hp->Prop:=fun σ H=>match tc with
 |none=>te σ H K1
 |some c=>c σ H fun b H1=>if b=true then te σ H1 K1 else K0 H1
noncomputable def zC2(cap:List Nat)(n:Nat)(wi:TI)(g:TG)(tc:Option TT)(te:TE):TE:=fun σ H Q=>wi σ H fun J H1=>∀p,H1 p=none->∃W:Nat->Nat->List V->St->Hp->Prop,(∃m,W 0 m [] (QO cap n σ) (upd H1 p (.lst [])))/\∀i m ys σ2 H2,W i m ys σ2 H2->H2 p=some (.lst ys)/\ys.length<sizeLine /\
 ((J.stop i H2/\Q (.ref p) H2)\/(J.go i H2/\∀x H3,J.yld i H2 x H3->g x σ2 H3 fun σ4 H4=>YZ tc te (fun y H5=>H5 p=some (.lst ys)/\∃m',m'<m/\W (i+1) m' (ys++[y]) σ4 (upd H5 p (.lst (ys++[y])))) (fun H5=>∃m',m'<m/\W (i+1) m' ys σ4 H5) σ4 H4))
theorem gS{prog:Program}{w:World}{A:Around}{Z:Result->Shared->Prop}{t0:Shared}{elt tgt src:Expr}{tests:List Expr}{scope:Scope}{pos:Pos}{it out:Value}{env:Env}(W:Nat->Shared->Prop)(each:∀k t,W k t->wpAny (model prog w) A (pyNext it) (fun got t1=>match got with
   |none=>Z (.ok .next) t1
   |some y=>wpAny (model prog w) A (letOwnedTupleGo tgt it y) (fun _ t2=>wpAny (model prog w) A (assign tgt env y) (fun _ t3=>
     wpAny (model prog w) A (forIn tests true fun c b=>if b=true then do let ok <- isTrue c env (eval c env);pure (ForInStep.yield ok) else pure (ForInStep.yield b)) (fun good t4=>
      if good=true then wpAny (model prog w) A (eval elt env) (fun x t5=>
       wpAny (model prog w) A (call (.builtin "list.append") [out,x]) (fun _ t6=>∃j,j<k/\W j t6) (fun _ _=>False) t5) (fun _ _=>False) t4
      else ∃j,j<k/\W j t4) (fun _ _=>False) t3) (fun _ _=>False) t2) (fun _ _=>False) t1) (fun _ _=>False) t)(k:Nat)(h0:W k t0):codeAny (model prog w) A (.compLoop (.ListComp elt [⟨tgt,src,tests,0⟩] scope pos) 0 it out env) Z t0:=by
 refine codeAny_loop rfl W (fun k t hW=>?_) k h0
 show wpAny _ A ((compTurn (.ListComp elt [⟨tgt,src,tests,0⟩] scope pos) 0 it out env).onRaise (fun x=>do noteFrame x env;theTreesLotGoes x)) _ _ t
 refine wpAny_noted ?_
 rw[compTurn_list]
 refine wpAny_bind (wpAny_standAt (wpAny_bind (wpAny_mono (each k t hW) (fun got t1 g1=>?_) fun _ _ no=>no.elim)))
 cases got with
 |none=>exact wpAny_pure g1
 |some y=>
  refine wpAny_bind (wpAny_mono g1 (fun _ t2 g2=>wpAny_bind (wpAny_mono g2 (fun _ t3 g3=>wpAny_bind (wpAny_mono g3 (fun good t4 g4=>?_) fun _ _ no=>no.elim)) fun _ _ no=>no.elim)) fun _ _ no=>no.elim)
  cases good with
  |false=>exact wpAny_pure ⟨rfl,g4⟩
  |true=>
   exact wpAny_bind (wpAny_bind (wpAny_mono g4 (fun x t5 g5=>wpAny_bind (wpAny_mono g5 (fun _ t6 g6=>wpAny_pure (wpAny_pure ⟨rfl,g6⟩)) fun _ _ no=>no.elim)) fun _ _ no=>no.elim))
theorem tG{elt tg iter:Expr}{ifs:List Expr}{pos:Pos}{g:TG}{tc:Option TT}{te:TE}{J:It}{it:Addr}{tn:Nat->Heap->Prop}{Q:VK}{RR:Value->Addr->Result->Shared->Prop}(hc:X.calm=true)(o:CmpOk X N' cap scope)(hg:∀C fp s H,PG (cxC X N' scope C fp s H) tg g)(ht:match (generalizing:=false) tc with|none=>ifs=[]|some c=>∃e,ifs=[e]/\∀C fp s H,PT (cxC X N' scope C fp s H) e c)(he:∀C fp s H,PE (cxC X N' scope C fp s H) elt te)(I:Inv X pins σ H s)(T:Turn X.prog X.w X.K tg J fp it tn)(st:tn 0 s.heap)(hfp:∀b∈fp,QL X pins H b)(hw:∀p,H p=none->∃W:Nat->Nat->List V->St->Hp->Prop,(∃m,W 0 m [] (QO cap N'.length σ) (upd H p (.lst [])))/\∀i m ys σ2 H2,W i m ys σ2 H2->H2 p=some (.lst ys)/\ys.length<sizeLine /\
   ((J.stop i H2/\Q (.ref p) H2)\/(J.go i H2/\∀x H3,J.yld i H2 x H3->g x σ2 H3 fun σ4 H4=>YZ tc te (fun y H5=>H5 p=some (.lst ys)/\∃m',m'<m/\W (i+1) m' (ys++[y]) σ4 (upd H5 p (.lst (ys++[y])))) (fun H5=>∃m',m'<m/\W (i+1) m' ys σ4 H5) σ4 H4)))(hRR:∀(p:Addr) (s3 s':Shared) (H3 H2:Hp) (σ2:St),Inv X pins σ H3 s3->(∀b∈fp,QL X pins H3 b)->Inv (cxC X N' scope s3.heap.objs.size fp s3 H3) [] σ2 H2 s'->Q (.ref p) H2->RR (.ref p) s3.heap.objs.size (.ok .next) s'):wpAny (model X.prog X.w) X.A (newList []) (fun acc s₃=>wpAny (model X.prog X.w) X.A (newFunctionEnv scope X.env.globals (tH X.env scope.names []) [] X.env.qual none .none (some X.env)) (fun cenv s₄=>
   codeAny (model X.prog X.w) X.A (.compStart (.ListComp elt [⟨tg,iter,ifs,0⟩] scope pos) 0 (.ref it) acc { cenv with scope:=relabel scope X.env }) (RR acc cenv.locals) s₄) X.xe s₃) X.xe s:=by
 refine wpAny_newObj_type ?_
 obtain⟨W,⟨m0,w0⟩,turn⟩:=hw s.heap.objs.size (I.hok.fresh (Nat.le_refl _))
 have nfp:∀b∈fp,b<s.heap.objs.size:=fun b hb=>by
  obtain⟨ob,e,_⟩:=T.obj 0 _ st b hb
  exact Heap.lt_size e
 have I3:=I.lnew (its:=[]) (ys:=[]) (t':=s.toks) .nil (Nat.zero_le _)
 generalize hs3:({ s with heap:=s.heap.push { cls:=.type "list",data:=.seq ([]:List Value).toArray },toks:=s.toks }:Shared)=s3 at I3
 have hs3':({ s with heap:=s.heap.push { cls:=.type "list",dict:=none,data:=.seq ([]:List Value).toArray } }:Shared)=s3:=hs3
 have hf3:∀b∈fp,QL X pins (upd H s.heap.objs.size (.lst [])) b:=fun b hb=>⟨by rw[zI (Nat.ne_of_lt (nfp b hb))];exact(hfp b hb).1,(hfp b hb).2⟩
 have st3:tn 0 s3.heap:=T.keep 0 _ _ st fun b _ ob e=>by rw[<-hs3];exact Heap.get?_push_of_some _ e
 have nfp3:∀b∈fp,b<s3.heap.objs.size:=fun b hb=>by
  obtain⟨ob,e,_⟩:=T.obj 0 _ st3 b hb
  exact Heap.lt_size e
 refine wpAny_newFunctionEnv o.nc (by intro y hy;simp at hy) (fun h₁ hns₁ hsb₁=>?_) o.kind
 have old:∀b ob,s3.heap.get? b=some ob->h₁.get? b=some ob:=fun b ob e=>hsb₁.extBut b ob (Nat.ne_of_lt (Heap.lt_size e)) (Heap.get?_push_of_some _ e)
 have I4:=WL (t':=s3.toks+([]:List (Str×Value)).length) o I3 hf3 nfp3 (by simpa using hns₁) old
 have st4:tn 0 h₁:=T.keep 0 _ _ st3 fun b _ ob e=>old b ob e
 have fpC:∀H',(∀b∈fp,H' b=none)->∀b∈fp,QL (cxC X N' scope s3.heap.objs.size fp s3 (upd H s.heap.objs.size (.lst []))) [] H' b:=fun H' hn b hb=>by
  refine⟨hn b hb,Nat.ne_of_lt (nfp3 b hb),I4.ok.exfs b hb,.inl hb,(I4.ok.exf b hb).2,fun p hp=>absurd (show p∈([]:List (Addr×Obj)) from hp) (by simp)⟩
 have loop:codeAny (model X.prog X.w) X.A (.compLoop (.ListComp elt [⟨tg,iter,ifs,0⟩] scope pos) 0 (.ref it) (.ref s.heap.objs.size) (compEnvC scope (tH X.env scope.names []) s3.heap.objs.size X.env)) (RR (.ref s.heap.objs.size) s3.heap.objs.size) { s3 with heap:=h₁,toks:=s3.toks+([]:List (Str×Value)).length }:=by
  refine gS (fun n s'=>∃i ys σ' H',Inv (cxC X N' scope s3.heap.objs.size fp s3 (upd H s.heap.objs.size (.lst []))) [] σ' H' s'/\tn i s'.heap/\(∀b∈fp,H' b=none)/\W i n ys σ' H') ?_ m0 ⟨0,[],_,_,I4,st4,fun b hb=>(hf3 b hb).1,w0⟩
  rintro n s5 ⟨i,ys,σ5,H5,I5,st5,fr5,w5⟩
  obtain⟨hp5,hz5,br⟩:=turn i n ys σ5 H5 w5
  rcases br with⟨stop,q⟩|⟨go,step⟩
  ·refine thn (T.done (cxC X N' scope s3.heap.objs.size fp s3 (upd H s.heap.objs.size (.lst []))) rfl rfl rfl hc i [] s5 _ H5 (fun _ _=>False) I5 (fpC H5 fr5) st5 stop) fun r s6 ⟨hr,I6⟩=>?_
   subst hr
   exact hRR _ s3 s6 _ H5 _ I3 hf3 I6 q
  ·refine thn (T.item (cxC X N' scope s3.heap.objs.size fp s3 (upd H s.heap.objs.size (.lst []))) rfl rfl rfl hc i [] s5 _ H5 (fun _ _=>False) I5 (fpC H5 fr5) st5 go) fun r s6 ⟨u,hr,h6⟩=>?_
   subst hr
   refine thn h6 fun _ s7 ⟨x,H7,I7,r7,y7,st7,fr7⟩=>?_
   have I7':=I7.pinned (fpC H7 fr7) (T.obj _ _ st7)
   refine thn (hg _ _ _ _ _ s7 _ H7 x u _ I7' r7 (step x H7 y7)) fun _ s8 ⟨σ8,H8,I8,q8⟩=>?_
   have again:∀{H9:Hp} {σ9:St} {s9:Shared} {ys':List V},Inv (cxC X N' scope s3.heap.objs.size fp s3 (upd H s.heap.objs.size (.lst []))) ([]++dG fp s7.heap) σ9 H9 s9->(∃m',m'<n/\W (i+1) m' ys' σ9 H9) ->
     ∃m,m<n/\∃i ys σ' H',Inv (cxC X N' scope s3.heap.objs.size fp s3 (upd H s.heap.objs.size (.lst []))) [] σ' H' s9/\tn i s9.heap/\(∀b∈fp,H' b=none)/\W i m ys σ' H':=fun {H9 σ9 s9 ys'} I9 z=>by
    obtain⟨m',hm,w9⟩:=z
    refine⟨m',hm,i+1,ys',σ9,H9,I9.unpinned,T.keep _ _ _ st7 fun b hb ob e=>(I9.pin (b,ob) (List.mem_append_right _ (List.mem_append_right _ (jE hb e)))).1,fun b hb=>?_,w9⟩
    obtain⟨ob,e,d⟩:=T.obj _ _ st7 b hb
    exact(I9.pin (b,ob) (List.mem_append_right _ (List.mem_append_right _ (jE hb e)))).2.1
   have app:∀{s9:Shared} {H9:Hp} {y:V} {u9:Value},Inv (cxC X N' scope s3.heap.objs.size fp s3 (upd H s.heap.objs.size (.lst []))) ([]++dG fp s7.heap) σ8 H9 s9->RelV y u9->(H9 s.heap.objs.size=some (.lst ys)/\∃m',m'<n/\W (i+1) m' (ys++[y]) σ8 (upd H9 s.heap.objs.size (.lst (ys++[y])))) ->
     wpAny (model X.prog X.w) X.A (call (.builtin "list.append") [.ref s.heap.objs.size,u9]) (fun _ s₅=>∃m,m<n/\∃i ys σ' H',Inv (cxC X N' scope s3.heap.objs.size fp s3 (upd H s.heap.objs.size (.lst []))) [] σ' H' s₅/\tn i s₅.heap/\(∀b∈fp,H' b=none)/\W i m ys σ' H') (fun _ _=>False) s9:=fun {s9 H9 y u9} I9 r9 z9=>by
    refine thn (jD (X:=cxC X N' scope s3.heap.objs.size fp s3 (upd H s.heap.objs.size (.lst []))) _ s9 σ8 H9 (.ref s.heap.objs.size) [y] (.ref s.heap.objs.size) [u9] (fun _ H'=>∃m',m'<n/\W (i+1) m' (ys++[y]) σ8 H') I9 rfl (.cons r9 .nil) ⟨_,ys,y,rfl,rfl,z9.1,hz5,z9.2⟩) fun _ s10 ⟨_,H10,I10,_,z10⟩=>?_
    exact again I10 z10
   cases tc with
   |none=>
    have hi:ifs=[]:=ht
    subst hi
    refine wpAny_tests_nil ?_
    rw[if_pos rfl]
    exact thn (he _ _ _ _ _ s8 σ8 H8 _ I8 q8) fun u9 s9 ⟨y,H9,I9,r9,z9⟩=>app I9 r9 z9
   |some c=>
    obtain⟨e,he1,hce⟩:=ht
    subst he1
    refine wpAny_tests_one (thn (hce _ _ _ _ _ s8 σ8 H8 _ I8 q8) fun b s9 ⟨H9,I9,q9⟩=>?_)
    cases b with
    |false=>
     rw[if_neg Bool.false_ne_true] at q9 ⊢
     exact again I9 q9
    |true=>
     rw[if_pos rfl] at q9 ⊢
     exact thn (he _ _ _ _ _ s9 σ8 H9 _ I9 q9) fun u10 s10 ⟨y,H10,I10,r10,z10⟩=>app I10 r10 z10
 exact codeAny_compStart_list loop (T.self X.A 0 _ _ _ st4 loop)
end
section
variable{X:Cx}{N':List Str}{cap:List Nat}{scope:Scope}{elt tg iter:Expr}{ifs:List Expr}{pos:Pos}{wi:TI}{g:TG}{tc:Option TT}{te:TE}
theorem v5(hc:X.calm=true)(o:CmpOk X N' cap scope)(hi:PI X tg iter wi)(hg:∀C fp s H,PG (cxC X N' scope C fp s H) tg g)(ht:match (generalizing:=false) tc with|none=>ifs=[]|some c=>∃e,ifs=[e]/\∀C fp s H,PT (cxC X N' scope C fp s H) e c)(he:∀C fp s H,PE (cxC X N' scope C fp s H) elt te)(hs:∀x,foldedSetIterable iter X.env x=pure x:=by intro _;rfl):PE X (.ListComp elt [⟨tg,iter,ifs,0⟩] scope pos) (zC2 cap N'.length wi g tc te):=by
 intro pins s σ H Q I h
 rw[eval_ListComp]
 refine wpAny_comprehension_free (use:=none) rfl hs (uP (o.hasc I.ok)) o.kind o.nm (thn (hi pins s σ H _ I h) fun xv s1 h1=>thn h1 fun itv s2 h2=>?_)
 obtain⟨it,fp,tn,J,H2,rfl,I2,T,st2,f2,hw⟩:=h2
 refine tG (Q:=Q) hc o hg ht he I2 T st2 f2 hw ?_
 intro p s3 s' H3 H4 σ4 I3 f3 J4 q
 obtain⟨m,hn,_⟩:=J4.loc
 exact⟨m,hn,fun h' sb=>⟨.ref p,H4,bX I3 f3 J4 sb,rfl,q⟩⟩
end
noncomputable def qA:D->D->Option D
 |.int i,.int j=>some (.int (i+j))
 |.str s,.str t=>if s.length+t.length<=sizeLine then some (.str (s++t)) else none
 |.lst l,.lst m=>if l.length+m.length<=sizeLine then some (.lst (l++m)) else none
 |.tup l,.tup m=>if l.length+m.length<=sizeLine/\l.isEmpty=false/\m.isEmpty=false then some (.tup (l++m)) else none
 |_,_=>none
noncomputable def oZ:D->D->Option D
 |.int i,.int j=>some (.int (i-j))
 |_,_=>none
noncomputable def zAS:D->D->Option D
 |.int i,.int j=>if (-(2 ^ 64)<i/\i<2 ^ 64)\/(-(2 ^ 64)<j/\j<2 ^ 64) then some (.int (i*j)) else none
 |_,_=>none
noncomputable def oJ:D->D->Option D
 |.int i,.int j=>if 0<j/\j<1073741824 then some (.int (i / j)) else none
 |_,_=>none
noncomputable def jM:D->D->Option D
 |.int i,.int j=>if 0<j then some (.int (i % j)) else none
 |_,_=>none
noncomputable def zHI:D->D->Option D
 |.int i,.int j=>if 0<=j/\j<=1000000/\i.natAbs<2 ^ 64 then some (.int (i ^ j.toNat)) else none
 |_,_=>none
noncomputable def vN:D->Option D
 |.int i=>some (.int (-i))
 |_=>none
noncomputable def gtD:D->D->Option D
 |.int i,.int j=>some (.bl (decide (j<i)))
 |_,_=>none
noncomputable def eqS:D->D->Option Bool
 |.int i,.int j=>some (decide (i=j))
 |.str s,.str t=>some (decide (s=t))
 |.bl a,.bl b=>some (decide (a=b))
 |.non,.non=>some true
 |.non,.int _=>some false
 |.int _,.non=>some false
 |.non,.str _=>some false
 |.str _,.non=>some false
 |.int _,.str _=>some false
 |.str _,.int _=>some false
 |_,_=>none
noncomputable def eqD(x y:D):Option D:=(eqS x y).map .bl
noncomputable def neD(x y:D):Option D:=(eqS x y).map fun b=>.bl !b
section
variable{X:Cx}
noncomputable def zFZ(K:Fg):R2:=fun x y H Q=>∃l b xs zs,x=.ref l/\y=.ref b/\SqL K H l xs/\SqL K H b zs/\xs.length+zs.length<=sizeLine/\∀p,H p=none->Q (.ref p) (upd H p (.lst (xs++zs)))
theorem op_catR:OpR X (binaryOp .Add) (zFZ X.K):=by
 intro pins s σ H x y v u Q I rx ry h
 obtain⟨l,b,xs,zs,rfl,rfl,hH,hB,hz,q⟩:=h
 cases rx
 cases ry
 obtain⟨its,r,⟨⟨cls,dd,data,sl⟩,n,e,hc,hd0,hd⟩,z⟩:=I.list hH
 obtain⟨its2,r2,⟨⟨cls2,dd2,data2,sl2⟩,n2,e2,hc2,hd02,hd2⟩,z2⟩:=I.list hB
 have hl:=r.length
 have hl2:=r2.length
 cases (show cls=_ from hc);cases (show dd=_ from hd0);cases (show data=_ from hd)
 cases (show cls2=_ from hc2);cases (show dd2=_ from hd02);cases (show data2=_ from hd2)
 refine concat_meets ⟨_,e,rfl⟩ ⟨_,e2,rfl⟩ noFill_list_add seq_list_add PySem.F.slot_list_add PySem.F.entry_list_add (PySem.F.args_list_add_2 _ _) (list_addW l b its.toArray its2.toArray n n2 none none sl sl2 (by rw[List.size_toArray,List.size_toArray];omega)) ⟨e,e2,?_⟩
 have ea:its.toArray++its2.toArray=(its++its2).toArray:=by simp
 rw[ea]
 exact⟨.ref _,_,I.lnew (t':=s.toks) (r.append r2) (by rw[List.length_append];omega),rfl,q _ I.fresh⟩
noncomputable def zFX(K:Fg):R2:=fun x y H Q=>rI0 (fun i j=>.int (i+j)) x y H Q\/(∃i j,x=.str i/\y=.str j/\i.length+j.length<=sizeLine/\Q (.str (i++j)) H)\/zFZ K x y H Q\/zFY K x y H Q
theorem yE:OpR X (binaryOp .Add) (zFX X.K):=op_add.or (op_add_str.or (op_catR.or zAG))
theorem nH(s t:List Nat):((⟨s.toArray⟩:Str)++(⟨t.toArray⟩:Str))=(⟨(s++t).toArray⟩:Str):=by
 show(⟨s.toArray++t.toArray⟩:Str)=_
 simp
theorem qU(s:List Nat):(⟨s.toArray⟩:Str).length=s.length:=by simp[Str.length]
theorem yF{K:Fg}:OpD K (zFX K) qA:=by
 intro O H dx dy d vx vy Q ol ix iy e q
 unfold qA at e
 split at e
 ·have e:=Option.some.inj e
  subst e
  rw[Is.int_iff] at ix iy
  exact .inl ⟨_,_,ix,iy,q _ H (Same.refl H) (by rw[Is.int_iff])⟩
 ·rename_i s t
  split at e
  ·rename_i hl
   cases e
   rw[Is.str_iff] at ix iy
   refine .inr (.inl ⟨_,_,ix,iy,by rw[qU,qU];exact hl,q _ H (Same.refl H) ?_⟩)
   rw[Is.str_iff,nH]
  ·cases e
 ·rename_i l m
  split at e
  ·rename_i hl
   cases e
   rw[Is.lst_iff] at ix iy
   obtain⟨a,xs,rfl,hs,il⟩:=ix
   obtain⟨b,ys,rfl,hs2,il2⟩:=iy
   have e1:=il.length
   have e2:=il2.length
   refine .inr (.inr (.inl ⟨a,b,xs,ys,rfl,rfl,hs.sq,hs2.sq,by omega,fun p hp=>q _ _ (zV hp) ?_⟩))
   rw[Is.lst_iff]
   refine⟨p,_,rfl,.inl ⟨fun z=>?_,.inl zK⟩,(il.append il2).same (zV hp) ol⟩
   obtain⟨zs,ez,_⟩:=ol p z
   rw[hp] at ez;cases ez
  ·cases e
 ·rename_i l m
  split at e
  ·rename_i hl
   cases e
   rw[Is.tup_iff] at ix iy
   obtain⟨a,xs,rfl,hs,il⟩:=ix
   obtain⟨b,ys,rfl,hs2,il2⟩:=iy
   have e1:=il.length
   have e2:=il2.length
   refine .inr (.inr (.inr ⟨a,b,xs,ys,rfl,rfl,hs,hs2,?_,by omega,fun z=>?_,fun _ p hp=>q _ _ (zV hp) ?_⟩))
   ·rintro rfl
    have:l=[]:=by simpa using e1
    subst this
    simp at hl
   ·subst z
    have:m=[]:=by simpa using e2
    subst this
    simp at hl
   ·rw[Is.tup_iff]
    exact⟨p,_,rfl,SqT.of zK,(il.append il2).same (zV hp) ol⟩
  ·cases e
 ·cases e
theorem zHQ{K:Fg}{C:Int->Int->Prop}{g:Int->Int->V}{m:D->D->Option D}(h:∀dx dy d,m dx dy=some d->∃i j,dx=.int i/\dy=.int j/\C i j/\∀O H,Is K O H d (g i j)):OpD K (rI C g) m:=by
 intro O H dx dy d vx vy Q ol ix iy e q
 obtain⟨i,j,rfl,rfl,hc,hd⟩:=h dx dy d e
 rw[Is.int_iff] at ix iy
 exact⟨i,j,ix,iy,hc,q _ H (Same.refl H) (hd O H)⟩
theorem zF5{K:Fg}{g:Int->Int->V}{m:D->D->Option D}(h:∀dx dy d,m dx dy=some d->∃i j,dx=.int i/\dy=.int j/\∀O H,Is K O H d (g i j)):OpD K (rI0 g) m:=by
 intro O H dx dy d vx vy Q ol ix iy e q
 obtain⟨i,j,rfl,rfl,hd⟩:=h dx dy d e
 rw[Is.int_iff] at ix iy
 exact⟨i,j,ix,iy,q _ H (Same.refl H) (hd O H)⟩
theorem uC{K:Fg}:OpD K (rI0 fun i j=>.int (i-j)) oZ:=zF5 fun dx dy d e=>by
 unfold oZ at e
 split at e
 ·cases e;exact⟨_,_,rfl,rfl,fun O H=>by rw[Is.int_iff]⟩
 ·cases e
theorem mN{K:Fg}:OpD K (rI CMul fun i j=>.int (i*j)) zAS:=zHQ fun dx dy d e=>by
 unfold zAS at e
 split at e
 ·split at e
  ·rename_i hc;cases e;exact⟨_,_,rfl,rfl,hc,fun O H=>by rw[Is.int_iff]⟩
  ·cases e
 ·cases e
theorem dO{K:Fg}:OpD K (rI zJH fun i j=>.int (i / j)) oJ:=zHQ fun dx dy d e=>by
 unfold oJ at e
 split at e
 ·split at e
  ·rename_i hc;cases e;exact⟨_,_,rfl,rfl,hc,fun O H=>by rw[Is.int_iff]⟩
  ·cases e
 ·cases e
theorem xQ{K:Fg}:OpD K (rI (fun _ j=>0<j) fun i j=>.int (i % j)) jM:=zHQ fun dx dy d e=>by
 unfold jM at e
 split at e
 ·split at e
  ·rename_i hc;cases e;exact⟨_,_,rfl,rfl,hc,fun O H=>by rw[Is.int_iff]⟩
  ·cases e
 ·cases e
theorem zEU{K:Fg}:OpD K (rI zJG fun i j=>.int (i ^ j.toNat)) zHI:=zHQ fun dx dy d e=>by
 unfold zHI at e
 split at e
 ·split at e
  ·rename_i hc;cases e;exact⟨_,_,rfl,rfl,hc,fun O H=>by rw[Is.int_iff]⟩
  ·cases e
 ·cases e
theorem ZF{K:Fg}:OpD K (rI0 fun i j=>.bl (decide (j<i))) gtD:=zF5 fun dx dy d e=>by
 unfold gtD at e
 split at e
 ·cases e;exact⟨_,_,rfl,rfl,fun O H=>by rw[Is.bl_iff]⟩
 ·cases e
theorem zBY{K:Fg}{O:Addr->Prop}{H:Hp}{dx dy:D}{vx vy:V}{b:Bool}(ix:Is K O H dx vx)(iy:Is K O H dy vy)(e:eqS dx dy=some b):zIJ vx vy=true/\decide (vx=vy)=b:=by
 cases dx<;>cases dy<;>first|(simp only[eqS,reduceCtorEq] at e;done)|skip
 all_goals simp only[eqS,Option.some.injEq] at e
 all_goals subst e
 all_goals first|rw[Is.int_iff] at ix|rw[Is.str_iff] at ix|rw[Is.bl_iff] at ix|rw[Is.non_iff] at ix
 all_goals first|rw[Is.int_iff] at iy|rw[Is.str_iff] at iy|rw[Is.bl_iff] at iy|rw[Is.non_iff] at iy
 all_goals subst ix iy
 all_goals refine⟨rfl,?_⟩
 all_goals simp
theorem zHP{K:Fg}:OpD K rEq eqD:=by
 intro O H dx dy d vx vy Q ol ix iy e q
 obtain⟨b,e1,rfl⟩:=map_some e
 obtain⟨h1,h2⟩:=zBY ix iy e1
 exact⟨h1,q _ H (Same.refl H) (by rw[Is.bl_iff,h2])⟩
theorem zHO{K:Fg}:OpD K rNe neD:=by
 intro O H dx dy d vx vy Q ol ix iy e q
 obtain⟨b,e1,rfl⟩:=map_some e
 obtain⟨h1,h2⟩:=zBY ix iy e1
 exact⟨h1,q _ H (Same.refl H) (by rw[Is.bl_iff,h2])⟩
noncomputable def bL:D->Bool
 |.int _=>true
 |.str _=>true
 |_=>false
noncomputable def eqF:D->D->Bool
 |.int i,.int j=>decide (i=j)
 |.str s,.str t=>decide (s=t)
 |_,_=>false
theorem zBU{K:Fg}{O:Addr->Prop}{H:Hp}{d:D}{v:V}(h:Is K O H d v)(f:bL d=true):bK v=true:=by
 cases d<;>first|(cases f;done)|skip
 ·rw[Is.int_iff] at h;subst h;rfl
 ·rw[Is.str_iff] at h;subst h;rfl
theorem zFH{K:Fg}{O:Addr->Prop}{H:Hp}{d e:D}{v u:V}(h:Is K O H d v)(f:bL d=true)(h':Is K O H e u)(f':bL e=true):eqV v u=eqF d e:=by
 cases d<;>first|(cases f;done)|skip
 all_goals cases e<;>first|(cases f';done)|skip
 all_goals first|rw[Is.int_iff] at h|rw[Is.str_iff] at h
 all_goals first|rw[Is.int_iff] at h'|rw[Is.str_iff] at h'
 all_goals subst h h'
 ·simp[eqV,eqF]
  rw[Bool.beq_eq_decide_eq]
 ·rfl
 ·rfl
 ·rename_i s t
  simp only[eqV,eqF]
  by_cases z:s=t
  ·subst z;simp
  ·rw[decide_eq_false z,beq_eq_false_iff_ne]
   intro z'
   have:s.toArray=t.toArray:=by injection z'
   exact z (by simpa using this)
end
noncomputable def ixD:D->D->Option D
 |.lst l,.int i=>atI l i
 |.tup l,.int i=>atI l i
 |.str s,.int i=>if s.length<=sizeLine then (atI s i).map fun c=>.str [c] else none
 |_,_=>none
theorem oU{α β:Type}{l:List α}{m:List β}{i:Int}{x:α}(hl:l.length=m.length)(e:atI l i=some x):∃j:Nat,l[j]?=some x/\∀y,m[j]?=some y->atI m i=some y:=by
 unfold atI at e ⊢
 obtain⟨j,e1,e2⟩:=bind_some e
 exact⟨j,e2,fun y ey=>by rw[<-hl,e1];exact ey⟩
noncomputable def zIL(fl:ML)(g:ME):ME:=fun r=>(fl r).bind fun l=>(g r).bind fun d=>(intD d).bind fun i=>atI l i
noncomputable def zF8(fl:ML):ME:=fun r=>(fl r).map fun l=>.int l.length
section
variable{X:Cx}{pos:Pos}{a b:Expr}{f g:ME}
theorem zF4{K:Fg}:OpD K (rIx K) ixD:=by
 intro O H dx dy d vx vy Q ol ix iy e q
 unfold ixD at e
 split at e
 ·rename_i l i
  rw[Is.lst_iff] at ix
  rw[Is.int_iff] at iy
  obtain⟨p,xs,rfl,hs,il⟩:=ix
  obtain⟨j,e1,e2⟩:=oU il.length e
  obtain⟨v,e3,iv⟩:=il.get e1
  exact .inl ⟨p,xs,i,v,rfl,iy,hs.sq,e2 v e3,q _ H (Same.refl H) iv⟩
 ·rename_i l i
  rw[Is.tup_iff] at ix
  rw[Is.int_iff] at iy
  obtain⟨p,xs,rfl,hs,il⟩:=ix
  obtain⟨j,e1,e2⟩:=oU il.length e
  obtain⟨v,e3,iv⟩:=il.get e1
  exact .inr (.inl ⟨p,xs,i,v,rfl,iy,hs,e2 v e3,q _ H (Same.refl H) iv⟩)
 ·rename_i s i
  split at e
  ·rename_i hl
   obtain⟨c,e1,rfl⟩:=map_some e
   rw[Is.str_iff] at ix
   rw[Is.int_iff] at iy
   exact .inr (.inr ⟨_,i,c,ix,iy,by rw[qU];exact hl,by simpa using e1,q _ H (Same.refl H) (by rw[Is.str_iff])⟩)
  ·cases e
 ·cases e
theorem z5(ha:DE X a f)(hb:DE X b g)(hs:vK b:=by intro _ _;rfl):DE X (.Subscript a b pos) (zH ixD f g):=
 PE.conseq (J9 zBK ha hb hs) fun σ H Q h=>two (ta:=lE X.K f) (tb:=lE X.K g) zF4 h
theorem zCK{fl:ML}(ha:DB X a fl)(hb:DE X b g)(hs:vK b:=by intro _ _;rfl):DE X (.Subscript a b pos) (zIL fl g):=by
 refine PE.conseq (J9 ix_list ha hb hs) fun σ H Q h=>?_
 obtain⟨O0,r,d,hR,e,q⟩:=h
 obtain⟨l,e1,e⟩:=bind_some e
 obtain⟨d',e2,e⟩:=bind_some e
 obtain⟨i,e3,e⟩:=bind_some e
 cases qF e3
 refine⟨O0,r,l,hR,e1,fun p xs H1 s1 rd il=>⟨O0,r,_,hR.same s1,e2,fun v2 H2 s2 i2=>?_⟩⟩
 rw[Is.int_iff] at i2
 obtain⟨j,e4,e5⟩:=oU il.length e
 obtain⟨v,e6,iv⟩:=il.get e4
 exact⟨p,xs,i,v,rfl,i2,s2.seq rd,e5 v e6,q v H2 (s1.trans s2) (iv.same s2 (hR.same s1).ol)⟩
noncomputable def vG:D->Option D
 |.lst l=>some (.int l.length)
 |.tup l=>some (.int l.length)
 |.str s=>if s.length<=sizeLine then some (.int s.length) else none
 |_=>none
theorem gT:CallR X (.builtin "len") (fun xs H Q=>(∃p ys,xs=[.ref p]/\(SqL X.K H p ys\/SqT X.K H p ys)/\Q (.int ys.length) H)\/(∃z,xs=[.str z]/\z.length<=sizeLine/\Q (.int z.length) H)):=call_len_seq.or b0
theorem zBD{K:Fg}{O:Addr->Prop}{H:Hp}{x d:D}{v:V}{Q:VK}(i1:Is K O H x v)(e:vG x=some d)(q:∀v,Is K O H d v->Q v H):(∃p ys,[v]=[.ref p]/\(SqL K H p ys\/SqT K H p ys)/\Q (.int ys.length) H)\/(∃z,[v]=[.str z]/\z.length<=sizeLine/\Q (.int z.length) H):=by
 cases x<;>first|(simp only[vG,reduceCtorEq] at e;done)|skip
 ·simp only[vG] at e
  split at e
  ·rename_i hl
   cases e
   rw[Is.str_iff] at i1
   subst i1
   exact .inr ⟨_,rfl,by rw[qU];exact hl,q _ (by rw[Is.int_iff,qU])⟩
  ·cases e
 ·simp only[vG,Option.some.injEq] at e
  subst e
  rw[Is.tup_iff] at i1
  obtain⟨p,ys,rfl,hs,il⟩:=i1
  exact .inl ⟨p,ys,rfl,.inr hs,q _ (by rw[Is.int_iff,il.length])⟩
 ·simp only[vG,Option.some.injEq] at e
  subst e
  rw[Is.lst_iff] at i1
  obtain⟨p,ys,rfl,hs,il⟩:=i1
  exact .inl ⟨p,ys,rfl,.inl hs.sq,q _ (by rw[Is.int_iff,il.length])⟩
theorem bZ{p':Pos}(hg:Gl X "len")(hm:X.mg "len" = none)(ha:DE X a f)(hs:starEach [a] X.env=(false,eval a X.env)::starEach [] X.env:=by rfl):DE X (.Call (.Name "len" p') [a] [] pos) (mUn vG f):=by
 refine PE.conseq (jJ gT hg hm PySem.boot_len (zZ ha xA hs) (he:=hs)) fun σ H Q h=>?_
 obtain⟨O0,r,d,hR,e,q⟩:=h
 obtain⟨x,e1,e2⟩:=bind_some e
 exact⟨O0,r,x,hR,e1,fun v H1 s1 i1=>zBD i1 e2 fun v' iv=>q v' H1 s1 iv⟩
theorem zCI{p':Pos}{fl:ML}(hg:Gl X "len")(hm:X.mg "len" = none)(ha:DB X a fl)(hs:starEach [a] X.env=(false,eval a X.env)::starEach [] X.env:=by rfl):DE X (.Call (.Name "len" p') [a] [] pos) (zF8 fl):=by
 refine PE.conseq (jJ gT hg hm PySem.boot_len (zZ ha xA hs) (he:=hs)) fun σ H Q h=>?_
 obtain⟨O0,r,d,hR,e,q⟩:=h
 obtain⟨l,e1,rfl⟩:=map_some e
 exact⟨O0,r,l,hR,e1,fun p xs H1 s1 rd il=>.inl ⟨p,xs,rfl,.inl rd,q _ H1 s1 (by rw[Is.int_iff,il.length])⟩⟩
noncomputable def tyN:D->Option String
 |.non=>some "NoneType"
 |.bl _=>some "bool"
 |.int _=>some "int"
 |.str _=>some "str"
 |.tup _=>some "tuple"
 |.lst _=>some "list"
 |_=>none
noncomputable def subN:List (String×String×Bool):=[("bool", "int",true),("NoneType", "int",false),("NoneType", "str",false),("NoneType", "bool",false),("NoneType", "tuple",false),("NoneType", "list",false),
 ("bool", "str",false),("bool", "tuple",false),("bool", "list",false),("int", "bool",false),("int", "str",false),("int", "tuple",false),("int", "list",false),
 ("str", "int",false),("str", "bool",false),("str", "tuple",false),("str", "list",false),("tuple", "int",false),("tuple", "bool",false),("tuple", "str",false),("tuple", "list",false),
 ("list", "int",false),("list", "bool",false),("list", "str",false),("list", "tuple",false)]
noncomputable def zBO(t T:String):Option Bool:=if t=T then some true else (subN.find? fun x=>x.1 == t && x.2.1 == T).map (·.2.2)
noncomputable def vH(T:String)(d:D):Option D:=(tyN d).bind fun t=>(zBO t T).map .bl
theorem JE(K:Fg):∀p∈subN,PySem.W.kitOne K (.type p.1) (.type p.2.1)=some p.2.2:=by
 unfold subN
 repeat (first|exact List.forall_mem_nil _|refine List.forall_mem_cons.mpr ⟨rfl,?_⟩)
theorem zE5(K:Fg){t T:String}{b:Bool}(e:zBO t T=some b):PySem.W.kitOne K (.type t) (.type T)=some b:=by
 unfold zBO at e
 split at e
 ·rename_i h;subst h;cases e;unfold PySem.W.kitOne;rw[if_pos (by simp)]
 ·obtain⟨⟨x,y,c⟩,e1,e2⟩:=map_some e
  have hm:=List.mem_of_find?_eq_some e1
  have hp:=List.find?_some e1
  simp only[Bool.and_eq_true,beq_iff_eq] at hp
  obtain⟨rfl,rfl⟩:=hp
  subst e2
  exact(JE K _ hm).trans rfl
noncomputable def TyA(K:Fg)(H:Hp)(x:V)(t:String):Prop:=match x with
 |.non=>t = "NoneType"
 |.bl _=>t = "bool"
 |.int _=>t = "int"
 |.str _=>t = "str"
 |.ref a=>(t = "list" /\ ∃xs,SqL K H a xs)\/(t = "tuple" /\ ∃xs,SqT K H a xs)
 |_=>False
theorem gU:CallR X (.builtin "isinstance") (fun xs H Q=>∃x t T b,xs=[x,.ty T]/\TyA X.K H x t/\zBO t T=some b/\Q (.bl b) H):=by
 intro pins s σ H xs us Q I r h
 obtain⟨x,t,T,b,rfl,ht,e,q⟩:=h
 obtain⟨u,v,rfl,r1,r2⟩:=Vals.two r
 cases (show v=Value.type T from r2)
 have e':=zE5 X.K e
 have fin:∀tk,EP X pins σ Q (.bool b) { s with toks:=tk }:=fun tk=>⟨.bl b,H,I.tok tk,rfl,q⟩
 cases x with
 |non=>cases (show t=_ from ht);exact j9 I r1 (.non) e' fin
 |bl y=>cases (show t=_ from ht);exact j9 I r1 (.bl y) e' fin
 |int i=>cases (show t=_ from ht);exact j9 I r1 (.int i) e' fin
 |str y=>cases (show t=_ from ht);exact j9 I r1 (.str y) e' fin
 |ref a=>
  cases (show u=Value.ref a from r1)
  rcases(show(t = "list" /\ ∃xs,SqL X.K H a xs)\/(t = "tuple" /\ ∃xs,SqT X.K H a xs) from ht) with⟨rfl,xs,hs⟩|⟨rfl,xs,hs⟩
  ·obtain⟨its,_,⟨o,n,h1,h2,_⟩,_⟩:=I.list hs
   exact PySem.W.kia_one PySem.W.kitx_list I.kIn ⟨o,h1,h2⟩ e' (fun z=>nomatch z) fin
  ·obtain⟨its,_,⟨o,h1,h2,_⟩,_⟩:=I.tuple hs
   exact PySem.W.kia_one PySem.W.kitx_tuple I.kIn ⟨o,h1,h2⟩ e' (fun z=>nomatch z) fin
 |_=>exact False.elim ht
theorem zDQ{K:Fg}{O:Addr->Prop}{H:Hp}{d:D}{v:V}{t:String}(h:Is K O H d v)(e:tyN d=some t):TyA K H v t:=by
 cases d<;>first|(simp only[tyN,reduceCtorEq] at e;done)|skip
 all_goals simp only[tyN,Option.some.injEq] at e
 all_goals subst e
 ·rw[Is.non_iff] at h;subst h;rfl
 ·rw[Is.bl_iff] at h;subst h;rfl
 ·rw[Is.int_iff] at h;subst h;rfl
 ·rw[Is.str_iff] at h;subst h;rfl
 ·rw[Is.tup_iff] at h;obtain⟨a,xs,rfl,hs,_⟩:=h;exact .inr ⟨rfl,xs,hs⟩
 ·rw[Is.lst_iff] at h;obtain⟨a,xs,rfl,hs,_⟩:=h;exact .inl ⟨rfl,xs,hs.sq⟩
theorem jG{p' pt:Pos}{x:Str}{T:String}(hg:Gl X "isinstance")(hm:X.mg "isinstance" = none)(ha:DE X a f)(hT:PE X (.Name x pt) (tC (.ty T)))(hs:starEach [a,.Name x pt] X.env=(false,eval a X.env)::starEach [.Name x pt] X.env:=by rfl)(hs2:starEach [.Name x pt] X.env=(false,eval (.Name x pt) X.env)::starEach [] X.env:=by rfl):DE X (.Call (.Name "isinstance" p') [a,.Name x pt] [] pos) (mUn (vH T) f):=by
 refine PE.conseq (jJ gU hg hm PyProof.Rows.boot_isinstance (zZ ha (zZ hT xA hs2) hs) (he:=hs)) fun σ H Q h=>?_
 obtain⟨O0,r,d,hR,e,q⟩:=h
 obtain⟨x,e1,e2⟩:=bind_some e
 obtain⟨t,e3,e4⟩:=bind_some e2
 obtain⟨b,e5,rfl⟩:=map_some e4
 exact⟨O0,r,x,hR,e1,fun v H1 s1 i1=>⟨v,t,T,b,rfl,zDQ i1 e3,e5,q _ H1 s1 (by rw[Is.bl_iff])⟩⟩
end
noncomputable def zAX(r:En)(i:Nat):Option (List D):=(r[i]?).bind Sl.ml
noncomputable def XH(i:Nat)(l:List D)(r:En):Option En:=match r[i]? with
 |some (.o _)=>some (r.set i (.o l))
 |some (.p _)=>some (r.set i (.p l))
 |_=>none
section
variable{K:Fg}{O0:Addr->Prop}{H H':Hp}{r:En}{σ:St}{i:Nat}{a:Addr}{l l':List D}
theorem v4{r':En}(e:XH i l' r=some r'):∃x y,r[i]?=some x/\r'=r.set i y/\y.own=some l'/\y.mt=some l'/\(∃l,x.mt=some l)/\(∀m,y=.p m↔m=l'/\∃n,x=.p n)/\(∀m,y=.o m↔m=l'/\∃n,x=.o n)/\(∀m,y≠.z m)/\y.ls=some l'/\∀ks m,y≠.d ks m:=by
 unfold XH at e
 cases e1:r[i]? with
 |none=>rw[e1] at e;cases e
 |some x=>
  rw[e1] at e
  cases x with
  |o n=>cases e;exact⟨.o n,.o l',rfl,rfl,rfl,rfl,⟨n,rfl⟩,fun m=>⟨(fun z=>by cases z),(fun⟨_,_,z⟩=>by cases z)⟩,fun m=>⟨(fun z=>by cases z;exact⟨rfl,n,rfl⟩),(fun⟨z,_⟩=>by subst z;rfl)⟩,(fun m z=>by cases z),rfl,(fun ks m z=>by cases z)⟩
  |p n=>cases e;exact⟨.p n,.p l',rfl,rfl,rfl,rfl,⟨n,rfl⟩,fun m=>⟨(fun z=>by cases z;exact⟨rfl,n,rfl⟩),(fun⟨z,_⟩=>by subst z;rfl)⟩,fun m=>⟨(fun z=>by cases z),(fun⟨_,_,z⟩=>by cases z)⟩,(fun m z=>by cases z),rfl,(fun ks m z=>by cases z)⟩
  |_=>cases e
theorem R.put{r':En}{xs':List V}(h:R K O0 H r σ)(e:XH i l' r=some r')(ha:σ[i]?=some (some (.ref a)))(kp:∀b o,b≠a->H b=some o->H' b=some o)(lv:∀b,b≠a->H' b=none->H b=none)(e':H' a=some (.lst xs'))(il:IsL K (Ow O0 r σ) H' l' xs'):R K O0 H' r' σ/\Kp H r σ H' r' σ:=by
 obtain⟨x,y,ex,rfl,yo,ym,⟨l0,xm⟩,yp,yoo,yz,yl,yd⟩:=v4 e
 have hi:i<r.length:=(List.getElem?_eq_some_iff.mp ex).1
 have own_i:wV r σ a:=⟨i,l0,by rw[ex];exact j7 xm,ha⟩
 have mut_i:MutAt r σ a:=⟨i,l0,by rw[ex];exact xm,ha⟩
 have atO:∀b,wV (r.set i y) σ b->wV r σ b:=fun b ⟨j,m,e1,q1⟩=>by
  by_cases hj:i=j
  ·subst hj;rw[ha] at q1;cases q1;exact own_i
  ·rw[zF hj] at e1;exact⟨j,m,e1,q1⟩
 have atM:∀b,MutAt (r.set i y) σ b->MutAt r σ b:=fun b ⟨j,m,e1,q1⟩=>by
  by_cases hj:i=j
  ·subst hj;rw[ha] at q1;cases q1;exact mut_i
  ·rw[zF hj] at e1;exact⟨j,m,e1,q1⟩
 have sub:∀b,Ow O0 (r.set i y) σ b->H b≠none->Ow O0 r σ b:=fun b z _=>z.imp id (atO b)
 have sub':∀b,Ow O0 (r.set i y) σ b->H' b≠none->Ow O0 r σ b:=fun b z _=>z.imp id (atO b)
 have keep:m9 (Ow O0 r σ) H H':=fun b o e1 n=>kp b o (fun z=>n (by subst z;exact .inr own_i)) e1
 have lst:∀b o,H b=some o->Mb o->∃o',H' b=some o'/\Mb o':=fun b o e1 mb=>by
  by_cases hb:b=a
  ·subst hb;exact⟨.lst xs',e',trivial⟩
  ·exact⟨o,kp b _ hb e1,mb⟩
 have ol':jB (Ow O0 r σ) H':=fun b z=>by obtain⟨o,q,mb⟩:=h.ol b z;exact lst b o q mb
 refine⟨⟨by simp[h.len],fun j d e1=>?_,fun j m e1=>?_,fun j k b m n e1 e2 q1 q2=>?_,fun b z=>?_,fun j m b e1 q1=>?_,fun j m b e1 q1=>?_,fun j ks m e1=>?_⟩,⟨fun b o e1 n=>kp b o (fun z=>n (by subst z;exact mut_i)) e1,fun b e1=>?_,lst,fun b z=>.inl (atO b z),fun b z=>.inl (atM b z),fun j m e1=>?_,fun j m e1=>?_⟩⟩
 ·have hj:i≠j:=fun z=>by subst z;rw[zO hi] at e1;cases e1;cases yo
  rw[zF hj] at e1
  obtain⟨v,q1,q2⟩:=h.val j d e1
  exact⟨v,q1,Is.mono keep h.ol sub _ _ q2⟩
 ·by_cases hj:i=j
  ·subst hj
   rw[zO hi] at e1
   have:l'=m:=by have e1':y.ls=some m:=e1;rw[yl] at e1';exact Option.some.inj e1'
   subst this
   exact⟨a,xs',ha,e',IsL.mono (Same.kp (Same.refl H') _) ol' sub' _ _ il⟩
  ·rw[zF hj] at e1
   obtain⟨b,ys,q1,q2,q3⟩:=h.own j m e1
   have hb:b≠a:=fun z=>by
    subst z
    exact hj (h.apart i j b l0 m (by rw[ex];exact j7 xm) (qX e1) ha q1)
   exact⟨b,ys,q1,kp b _ hb q2,IsL.mono keep h.ol sub _ _ q3⟩
 ·have get:∀(j:Nat) (m:List D),((r.set i y)[j]?).bind Sl.own=some m->∃m',(r[j]?).bind Sl.own=some m':=fun j m e1=>by
   by_cases hj:i=j
   ·subst hj;exact⟨l0,by rw[ex];exact j7 xm⟩
   ·rw[zF hj] at e1;exact⟨m,e1⟩
  obtain⟨m',z1⟩:=get j m e1
  obtain⟨n',z2⟩:=get k n e2
  exact h.apart j k b m' n' z1 z2 q1 q2
 ·obtain⟨o,q,mb⟩:=h.o0 b z;exact lst b o q mb
 ·by_cases hj:i=j
  ·subst hj
   rw[zO hi] at e1
   rcases e1 with e1|e1|⟨ks,e1⟩
   ·obtain⟨_,n,z⟩:=(yoo m).mp (Option.some.inj e1)
    exact h.loc i n b (.inl (by rw[ex,z])) q1
   ·exact absurd (Option.some.inj e1) (yz m)
   ·exact absurd (Option.some.inj e1) (yd ks m)
  ·rw[zF hj] at e1
   exact h.loc j m b e1 q1
 ·by_cases hj:i=j
  ·subst hj
   rw[zO hi] at e1
   obtain⟨_,n,z⟩:=(yp m).mp (Option.some.inj e1)
   exact h.par i n b (by rw[ex,z]) q1
  ·rw[zF hj] at e1
   exact h.par j m b e1 q1
 ·have hj:i≠j:=fun z=>by subst z;rw[zO hi] at e1;exact yd ks m (Option.some.inj e1)
  rw[zF hj] at e1
  obtain⟨b,kvs,q1,q2,q4,q3⟩:=h.dct j ks m e1
  have hb:b≠a:=fun z=>by
   subst z
   exact hj (h.apart i j b l0 m (by rw[ex];exact j7 xm) (by rw[e1];rfl) ha q1)
  exact⟨b,kvs,q1,kp b _ hb q2,q4,IsL.mono keep h.ol sub _ _ q3⟩
 ·by_cases hb:b=a
  ·subst hb;rw[e'] at e1;cases e1
  ·exact lv b hb e1
 ·by_cases hj:i=j
  ·subst hj
   rw[ex] at e1
   exact⟨⟨l',by rw[zO hi,(yp l').mpr ⟨rfl,m,Option.some.inj e1⟩]⟩,rfl⟩
  ·exact⟨⟨m,by rw[zF hj];exact e1⟩,rfl⟩
 ·have hj:i≠j:=fun z=>by subst z;rw[ex] at e1;cases e1;cases xm
  exact⟨by rw[zF hj];exact e1,rfl⟩
theorem R.upd{r':En}{xs xs':List V}(h:R K O0 H r σ)(e:XH i l' r=some r')(ha:σ[i]?=some (some (.ref a)))(hx:H a=some (.lst xs))(il:IsL K (Ow O0 r σ) H l' xs'):R K O0 (upd H a (.lst xs')) r' σ/\Kp H r σ (upd H a (.lst xs')) r' σ:=by
 have own_a:Ow O0 r σ a:=by
  obtain⟨x,y,ex,_,_,_,⟨l0,xm⟩,_⟩:=v4 e
  exact .inr ⟨i,l0,by rw[ex];exact j7 xm,ha⟩
 refine h.put e ha (fun b o hb e1=>by rw[zI hb];exact e1) (fun b hb e1=>by rw[zI hb] at e1;exact e1) zK ?_
 exact IsL.mono (fun b o e1 n=>by rw[zI (fun z=>n (by subst z;exact own_a))];exact e1) h.ol (fun _ z _=>z) _ _ il
end
noncomputable def ZN(i:Nat)(f:ME):En->Option (D×En):=fun r=>(f r).bind fun d=>(zAX r i).bind fun l=>if l.length<sizeLine then (XH i (l++[d]) r).map fun r'=>(.non,r') else none
noncomputable def ZM(i:Nat)(f:En->Option (D×En)):En->Option (D×En):=fun r0=>(f r0).bind fun p=>(zAX r0 i).bind fun _=>(zAX p.2 i).bind fun l=>if l.length<sizeLine then (XH i (l++[p.1]) p.2).map fun r'=>(.non,r') else none
noncomputable def zCX(i:Nat):En->Option (D×En):=fun r=>(zAX r i).bind fun l=>(l[l.length-1]?).bind fun d=>(XH i l.dropLast r).map fun r'=>(d,r')
noncomputable def zGO(i:Nat)(f:ME):En->Option (D×En):=fun r=>(f r).bind fun d=>(zBM d).bind fun m=>(zAX r i).bind fun l=>if l.length+m.length<=sizeLine then (XH i (l++m) r).map fun r'=>(.non,r') else none
theorem IsL.dropLast{K:Fg}{O:Addr->Prop}{H:Hp}{l:List D}{vs:List V}(h:IsL K O H l vs):IsL K O H l.dropLast vs.dropLast:=by
 rw[List.dropLast_eq_take,List.dropLast_eq_take,h.length]
 exact h.take _
section
variable{X:Cx}{apos cpos pn:Pos}{e:Expr}{f:ME}{x:Str}{i:Nat}
theorem rK{K:Fg}{O0:Addr->Prop}{H:Hp}{r:En}{σ:St}{l:List D}(h:R K O0 H r σ)(e:zAX r i=some l):∃a xs,σ[i]?=some (some (.ref a))/\H a=some (.lst xs)/\IsL K (Ow O0 r σ) H l xs:=by
 obtain⟨y,e1,e2⟩:=bind_some e
 exact h.own i l (by rw[e1];exact(zAZ e2).2)
theorem jF(i:Nat){x:Str}(h:PE X (.Name x pn) (jX i))(he:DE X e f)(hline:(apos.endLine == cpos.line)=true:=by rfl)(hbase:attributeBase (.Name x pn) "append" X.env (eval (.Name x pn) X.env)=eval (.Name x pn) X.env:=by rfl)(hfew:((backTo cpos (starEach [e] X.env)).all (fun x=>!x.1) && (backToKw cpos (keywordEach [] X.env)).all (fun x=>x.1.isSome) && decide ([e].length+([]:List Keyword).length+(if ([]:List Keyword).isEmpty then 0 else 1)<30))=true:=by rfl)(hs:starEach [e] X.env=(false,eval e X.env)::starEach [] X.env:=by rfl):DX X (.Call (.Attribute (.Name x pn) "append" apos) [e] [] cpos) (ZN i f):=by
 refine PE.conseq (p8 PySem.F.plainAttrs_list PySem.F.slot_list_append PySem.F.type_list_append jD h (zZ he xA hs) hbase hfew hline hs) fun σ H Q hq=>?_
 obtain⟨O0,r,d',r',hR,e,q⟩:=hq
 obtain⟨d,e1,e⟩:=bind_some e
 obtain⟨l,e2,e⟩:=bind_some e
 split at e
 ·rename_i hl
  obtain⟨r2,e3,e4⟩:=map_some e
  cases e4
  obtain⟨a,xs,q1,q2,q3⟩:=rK hR e2
  refine⟨.ref a,q1,.inl ⟨rfl,xs,SqL.of q2⟩,O0,r,d,hR,e1,fun v H1 s1 i1=>?_⟩
  have R1:=hR.same s1
  obtain⟨R2,k2⟩:=R1.upd (xs':=xs++[v]) e3 q1 (s1 _ _ q2) ((q3.same s1 hR.ol).append (.cons i1 .nil))
  exact⟨a,xs,v,rfl,rfl,s1 _ _ q2,by rw[<-q3.length];exact hl,q _ _ R2 ((Kp.of_same r σ s1).trans k2) (by rw[Is.non_iff])⟩
 ·cases e
theorem kP(i:Nat){x:Str}{fx:En->Option (D×En)}(h:PE X (.Name x pn) (jX i))(he:DX X e fx)(hline:(apos.endLine == cpos.line)=true:=by rfl)(hbase:attributeBase (.Name x pn) "append" X.env (eval (.Name x pn) X.env)=eval (.Name x pn) X.env:=by rfl)(hfew:((backTo cpos (starEach [e] X.env)).all (fun x=>!x.1) && (backToKw cpos (keywordEach [] X.env)).all (fun x=>x.1.isSome) && decide ([e].length+([]:List Keyword).length+(if ([]:List Keyword).isEmpty then 0 else 1)<30))=true:=by rfl)(hs:starEach [e] X.env=(false,eval e X.env)::starEach [] X.env:=by rfl):DX X (.Call (.Attribute (.Name x pn) "append" apos) [e] [] cpos) (ZM i fx):=by
 refine PE.conseq (p8 PySem.F.plainAttrs_list PySem.F.slot_list_append PySem.F.type_list_append jD h (zZ he xA hs) hbase hfew hline hs) fun σ H Q hq=>?_
 obtain⟨O0,r,d',r',hR,e,q⟩:=hq
 obtain⟨⟨d,r1⟩,e1,e⟩:=bind_some e
 obtain⟨l0,e0,e⟩:=bind_some e
 obtain⟨l,e2,e⟩:=bind_some e
 split at e
 ·rename_i hl
  obtain⟨r2,e3,e4⟩:=map_some e
  cases e4
  obtain⟨a0,xs0,p1,p2,p3⟩:=rK hR e0
  refine⟨.ref a0,p1,.inl ⟨rfl,xs0,SqL.of p2⟩,O0,r,d,r1,hR,e1,fun v H1 R1 k1 i1=>?_⟩
  obtain⟨a,xs,q1,q2,q3⟩:=rK R1 e2
  rw[p1] at q1;cases q1
  obtain⟨R2,k2⟩:=R1.upd (xs':=xs++[v]) e3 p1 q2 (q3.append (.cons i1 .nil))
  exact⟨_,xs,v,rfl,rfl,q2,by rw[<-q3.length];exact hl,q _ _ R2 (k1.trans k2) (by rw[Is.non_iff])⟩
 ·cases e
theorem WR(i:Nat){x:Str}(h:PE X (.Name x pn) (jX i))(hbase:attributeBase (.Name x pn) "pop" X.env (eval (.Name x pn) X.env)=eval (.Name x pn) X.env:=by rfl)(hline:(apos.endLine == cpos.line)=true:=by rfl):DX X (.Call (.Attribute (.Name x pn) "pop" apos) [] [] cpos) (zCX i):=by
 refine PE.conseq (p7 PySem.F.plainAttrs_list PySem.F.slot_list_pop PySem.F.type_list_pop rJ h hbase hline) fun σ H Q hq=>?_
 obtain⟨O0,r,d',r',hR,e,q⟩:=hq
 obtain⟨l,e2,e⟩:=bind_some e
 obtain⟨d,e1,e⟩:=bind_some e
 obtain⟨r2,e3,e4⟩:=map_some e
 have e5:d=d':=congrArg Prod.fst e4
 have e6:r2=r':=congrArg Prod.snd e4
 subst e5 e6
 obtain⟨a,xs,q1,q2,q3⟩:=rK hR e2
 obtain⟨v,ev,iv⟩:=q3.get e1
 obtain⟨R2,k2⟩:=hR.upd (xs':=xs.dropLast) e3 q1 q2 q3.dropLast
 refine⟨.ref a,q1,.inl ⟨rfl,xs,SqL.of q2⟩,a,xs,v,rfl,rfl,q2,by rw[<-q3.length];exact ev,q _ _ R2 k2 ?_⟩
 have own_a:Ow O0 r σ a:=by
  obtain⟨y,z1,z2⟩:=bind_some e2
  exact .inr ⟨i,l,by rw[z1];exact j7 (zAZ z2).1,q1⟩
 have ow2:∀b,Ow O0 r2 σ b->H b≠none->Ow O0 r σ b:=fun b z n=>z.imp id fun z=>(k2.new b z).elim id fun z=>absurd z n
 exact Is.mono (fun b o e1 n=>by rw[zI (fun z=>n (by subst z;exact own_a))];exact e1) hR.ol ow2 _ _ iv
end
noncomputable def zH8:Option Sl->Sl
 |some (.v d)=>.v d
 |_=>.un
noncomputable def tS(cap:List Nat)(n:Nat)(r:En):En:=(cap.map fun j=>zH8 r[j]?)++List.replicate (n-cap.length) .un
noncomputable def jH(bd:D->En->Option En)(c:MB)(x:ME):List D->En->Option (List D)
 |[],_=>some []
 |d::t,r=>(bd d r).bind fun r1=>(c r1).bind fun b=>if b=true then (x r1).bind fun y=>(jH bd c x t r1).map (y::·) else jH bd c x t r1
noncomputable def dY:MB:=fun _=>some true
noncomputable def qV(cap:List Nat)(n:Nat)(it:ML)(bd:D->En->Option En)(c:MB)(x:ME):ML:=fun r=>(it r).bind fun l=>if l.length<sizeLine then jH bd c x l (tS cap n r) else none
noncomputable def jO(cap:List Nat)(n:Nat)(it:ML)(bd:D->En->Option En)(x:ME):ML:=qV cap n it bd dY x
theorem R.cap{K:Fg}{O0:Addr->Prop}{H H2:Hp}{r:En}{σ:St}{cap:List Nat}{n:Nat}{p:Addr}{ys:List V}(h:R K O0 H r σ)(s:Same H H2)(hp:H p=none)(ep:H2 p=some (.lst ys)):R K (fun b=>Ow O0 r σ b\/b=p) H2 (tS cap n r) (QO cap n σ):=by
 have noO:∀(i:Nat) (l:List D),((tS cap n r)[i]?).bind Sl.own≠some l:=fun i l e=>by
  unfold tS at e
  by_cases hi:i<cap.length
  ·rw[List.getElem?_append_left (by simpa using hi),List.getElem?_map] at e
   obtain⟨j,hj⟩:∃j,cap[i]?=some j:=⟨cap[i],by simp[hi]⟩
   rw[hj] at e
   have e':(zH8 r[j]?).own=some l:=e
   cases ej:r[j]? with
   |none=>rw[ej] at e';cases e'
   |some y=>rw[ej] at e';cases y<;>cases e'
  ·rw[List.getElem?_append_right (by simpa using Nat.le_of_not_lt hi),List.getElem?_replicate] at e
   split at e<;>cases e
 have ol:jB (fun b=>Ow O0 r σ b\/b=p) H2:=fun b z=>z.elim (fun z=>(h.same s).ol b z) fun z=>by subst z;exact⟨.lst ys,ep,trivial⟩
 refine⟨by simp[tS,QO],fun i d e=>?_,fun i l e=>absurd (qX e) (noO i l),fun i j a l m e1=>absurd e1 (noO i l),ol,fun i l a e=>absurd (show((tS cap n r)[i]?).bind Sl.own=some l by rcases e with e|e|⟨_,e⟩<;>rw[e]<;>rfl) (noO i l),fun i l a e=>absurd (show((tS cap n r)[i]?).bind Sl.own=some l by rw[e];rfl) (noO i l),fun i ks l e=>absurd (show((tS cap n r)[i]?).bind Sl.own=some l by rw[e];rfl) (noO i l)⟩
 unfold tS at e
 by_cases hi:i<cap.length
 ·rw[List.getElem?_append_left (by simpa using hi),List.getElem?_map] at e
  obtain⟨j,hj⟩:∃j,cap[i]?=some j:=⟨cap[i],by simp[hi]⟩
  rw[hj] at e
  have e':zH8 r[j]?=.v d:=Option.some.inj e
  have ej:r[j]?=some (.v d):=by
   cases ej:r[j]? with
   |none=>rw[ej] at e';cases e'
   |some y=>rw[ej] at e';cases y<;>cases e';rfl
  obtain⟨v,e1,q⟩:=h.val j d ej
  refine⟨v,?_,?_⟩
  ·unfold QO
   rw[List.getElem?_append_left (by simpa using hi),List.getElem?_map,hj]
   show some ((σ[j]?).getD none)=_
   rw[e1];rfl
  ·refine Is.mono (Same.kp s _) h.ol (fun a z nn=>?_) _ _ q
   rcases z with(z|z)|⟨k,l,ek,_⟩
   ·exact z
   ·subst z;exact absurd hp nn
   ·exact absurd ek (noO k l)
 ·rw[List.getElem?_append_right (by simpa using Nat.le_of_not_lt hi),List.getElem?_replicate] at e
  split at e<;>cases e
section
variable{X:Cx}{N':List Str}{cap:List Nat}{scope:Scope}{elt tg iter:Expr}{ifs:List Expr}{pos:Pos}{it:ML}{bd:D->En->Option En}{c:MB}{x:ME}
theorem gR{tc:Option TT}(htc:∀{σ:St} {H:Hp} {K1:V->Hp->Prop} {K0:Hp->Prop} {te:TE},(lT X.K c σ H fun b H1=>if b=true then te σ H1 K1 else K0 H1)->YZ tc te K1 K0 σ H)(n:Nat){σ:St}{H:Hp}{Q:VK}(h:lF X.K (qV cap n it bd c x) σ H Q):zC2 cap n (lI X.K it) (lG X.K bd) tc (lE X.K x) σ H Q:=by
 obtain⟨O0,r,out,hR,e,q⟩:=h
 obtain⟨l,e1,e2⟩:=bind_some e
 split at e2
 ·rename_i hlen
  refine⟨O0,r,l,hR,e1,fun J H1 s1 yl p hp=>?_⟩
  have hpH:H p=none:=s1.free hp
  refine⟨fun i m ys σ2 H2=>m=l.length-i/\i<=l.length/\ys.length<=i/\H2 p=some (.lst ys)/\Same H1 H2/\∃r2 dn rest,R X.K (fun b=>Ow O0 r σ b\/b=p) H2 r2 σ2/\(∀a,¬wV r2 σ2 a)/\IsL X.K (fun b=>Ow O0 r σ b\/b=p) H2 dn ys/\jH bd c x (l.drop i) r2=some rest/\dn++rest=out,
   ⟨l.length,by simp,Nat.zero_le _,Nat.le_refl _,zK,zV hp,tS cap n r,[],out,?_,?_,.nil,by simpa using e2,rfl⟩,?_⟩
  ·exact R.cap hR (s1.trans (zV hp)) hpH zK
  ·rintro a ⟨i,l',e',_⟩
   unfold tS at e'
   by_cases hi:i<cap.length
   ·rw[List.getElem?_append_left (by simpa using hi),List.getElem?_map] at e'
    obtain⟨j,hj⟩:∃j,cap[i]?=some j:=⟨cap[i],by simp[hi]⟩
    rw[hj] at e'
    have e'':(zH8 r[j]?).own=some l':=e'
    cases ej:r[j]? with
    |none=>rw[ej] at e'';cases e''
    |some y=>rw[ej] at e'';cases y<;>cases e''
   ·rw[List.getElem?_append_right (by simpa using Nat.le_of_not_lt hi),List.getElem?_replicate] at e'
    split at e'<;>cases e'
  ·rintro i m ys σ2 H2 ⟨rfl,hil,hyl,hp2,s2,r2,dn,rest,R2,no2,il2,e3,eo⟩
   refine⟨hp2,by omega,?_⟩
   obtain⟨y1,y2⟩:=yl i H2 (fun b=>Ow O0 r σ b\/b=p) (Same.kp s2 _) fun a z nn=>z.elim id fun z=>by subst z;exact absurd hp nn
   by_cases hlt:i<l.length
   ·obtain⟨go,yd⟩:=y1 hlt
    have hd:l[i]?=some l[i]:=by simp[hlt]
    rw[kC hd] at e3
    obtain⟨r3,e4,e5⟩:=bind_some e3
    obtain⟨b,e6,e7⟩:=bind_some e5
    refine .inr ⟨go,fun v H3 yv=>?_⟩
    obtain⟨s3,iv⟩:=yd v H3 yv
    have R3:=R2.same s3
    have ow2:∀a,Ow (fun b=>Ow O0 r σ b\/b=p) r2 σ2 a->Ow O0 r σ a\/a=p:=fun a z=>z.elim id fun z=>absurd z (no2 a)
    refine⟨_,r2,l[i],r3,R3,?_,e4,fun σ4 R4 k4=>?_⟩
    ·exact Is.mono (Same.kp (Same.refl H3) _) R3.o0 (fun a z _=>ow2 a z) _ _ (iv _ hd)
    have no4:∀a,¬wV r3 σ4 a:=fun a z=>by
     rcases k4.new a z with z'|z'
     ·exact no2 a z'
     ·obtain⟨xs,ex,_⟩:=R4.ol a (.inr z)
      rw[z'] at ex;cases ex
    have ow4:∀a,Ow (fun b=>Ow O0 r σ b\/b=p) r3 σ4 a->Ow O0 r σ a\/a=p:=fun a z=>z.elim id fun z=>absurd z (no4 a)
    refine htc ⟨_,r3,b,R4,e6,fun H5 s5=>?_⟩
    have R5:=R4.same s5
    cases b with
    |false=>
     rw[if_neg Bool.false_ne_true] at e7
     refine zGS ⟨l.length-(i+1),by omega,rfl,hlt,by omega,(s3.trans s5) _ _ hp2,s2.trans (s3.trans s5),r3,dn,rest,R5,no4,?_,e7,eo⟩
     exact il2.same (s3.trans s5) R2.o0
    |true=>
     rw[if_pos rfl] at e7
     obtain⟨y,e8,e9⟩:=bind_some e7
     obtain⟨rest',e10,e11⟩:=map_some e9
     refine zGR ⟨_,r3,y,R5,e8,fun u H6 s6 iu=>?_⟩
     have s26:=s3.trans (s5.trans s6)
     have hp6:=s26 _ _ hp2
     have R6:=R5.same s6
     have kk:m9 (fun b=>Ow O0 r σ b\/b=p) H6 (upd H6 p (.lst (ys++[u]))):=fun b' o e' nn=>by rw[zI (fun z=>nn (.inr z))];exact e'
     refine⟨hp6,l.length-(i+1),by omega,rfl,hlt,by simp;omega,zK,?_,r3,dn++[y],rest',?_,no4,?_,e10,?_⟩
     ·intro b' o e'
      have hb:b'≠p:=fun z=>by subst z;rw[hp] at e';cases e'
      rw[zI hb]
      exact s26 _ _ (s2 _ _ e')
     ·refine⟨R6.len,fun j d ej=>?_,fun j m ej=>?_,R6.apart,fun b' z=>?_,R6.loc,R6.par,fun j ks m ej=>?_⟩
      ·obtain⟨w,q1,q2⟩:=R6.val j d ej
       exact⟨w,q1,Is.mono (fun b' o e' nn=>kk b' o e' fun z=>nn (.inl z)) R6.ol (fun _ z _=>z) _ _ q2⟩
      ·obtain⟨a',xs',q1,q2,_⟩:=R6.own j m ej
       exact absurd ⟨j,m,qX ej,q1⟩ (no4 a')
      ·rcases z with z|z
       ·by_cases hb:b'=p
        ·subst hb;exact⟨_,zK,trivial⟩
        ·rw[zI hb];exact R6.o0 b' (.inl z)
       ·subst z;exact⟨_,zK,trivial⟩
      ·obtain⟨a',kvs,q1,q2,_⟩:=R6.dct j ks m ej
       exact absurd ⟨j,m,by rw[ej];rfl,q1⟩ (no4 a')
     ·have i1:=il2.same s26 R2.o0
      have i2:Is X.K (fun b=>Ow O0 r σ b\/b=p) H6 y u:=Is.mono (Same.kp (Same.refl H6) _) R6.ol (fun a z _=>.inl z) _ _ iu
      exact IsL.mono kk R6.o0 (fun _ z _=>z) _ _ (i1.append (.cons i2 .nil))
     ·rw[<-eo,<-e11];simp
   ·have hl:l.drop i=[]:=List.drop_eq_nil_of_le (by omega)
    rw[hl] at e3
    have e3':some []=some rest:=e3
    cases e3'
    rw[List.append_nil] at eo
    subst eo
    exact .inl ⟨y2 (by omega),q p ys H2 (s1.trans s2) hpH hp2 il2⟩
 ·cases e2
theorem bN(hc:X.calm=true)(o:CmpOk X N' cap scope)(hi:DI X tg iter it)(hg:∀C fp s H,DG (cxC X N' scope C fp s H) tg bd)(he:∀C fp s H,DE (cxC X N' scope C fp s H) elt x)(n:Nat)(hn:N'.length=n:=by rfl)(hs:∀x,foldedSetIterable iter X.env x=pure x:=by intro _;rfl):DF X (.ListComp elt [⟨tg,iter,[],0⟩] scope pos) (jO cap n it bd x):=by
 subst hn
 exact PE.conseq (v5 (g:=lG X.K bd) (te:=lE X.K x) (tc:=none) hc o hi hg rfl he hs) fun σ H Q h=>gR (tc:=none) (fun {σ H K1 K0 te} z=>by
  obtain⟨O0,r,b,hR,e,q⟩:=z
  unfold dY at e;cases e
  have z1:(if true=true then te σ H K1 else K0 H):=q H (Same.refl H)
  rw[if_pos rfl] at z1
  exact z1) N'.length h
theorem r6{ce:Expr}(hc:X.calm=true)(o:CmpOk X N' cap scope)(hi:DI X tg iter it)(hg:∀C fp s H,DG (cxC X N' scope C fp s H) tg bd)(ht:∀C fp s H,DT (cxC X N' scope C fp s H) ce c)(he:∀C fp s H,DE (cxC X N' scope C fp s H) elt x)(n:Nat)(hn:N'.length=n:=by rfl)(hs:∀x,foldedSetIterable iter X.env x=pure x:=by intro _;rfl):DF X (.ListComp elt [⟨tg,iter,[ce],0⟩] scope pos) (qV cap n it bd c x):=by
 subst hn
 exact PE.conseq (v5 (g:=lG X.K bd) (te:=lE X.K x) (tc:=some (lT X.K c)) hc o hi hg ⟨ce,rfl,ht⟩ he hs) fun σ H Q h=>gR (tc:=some (lT X.K c)) (fun z=>z) N'.length h
end
noncomputable def CapOk(X:Cx)(scope:Scope):List Nat->List Str->Prop
 |[],_=>True
 |j::t,x::r=>X.N[j]?=some x/\scope.names.lookup x=some .free/\CapOk X scope t r
 |_::_,[]=>False
theorem CapOk.get{X:Cx}{scope:Scope}:∀{cap:List Nat} {N':List Str},CapOk X scope cap N'->∀(i j:Nat),cap[i]?=some j->∃x,N'[i]?=some x/\X.N[j]?=some x/\scope.names.lookup x=some .free
 |[],_,_,i,j,e=>by simp at e
 |k::t,[],h,_,_,_=>False.elim h
 |k::t,x::r,h,0,j,e=>by
  have e':k=j:=by simpa using e
  subst e'
  exact⟨x,rfl,h.1,h.2.1⟩
 |k::t,x::r,h,i+1,j,e=>by
  obtain⟨y,q1,q2⟩:=CapOk.get h.2.2 i j (by simpa using e)
  exact⟨y,by simpa using q1,q2⟩
theorem CapOk.len{X:Cx}{scope:Scope}:∀{cap:List Nat} {N':List Str},CapOk X scope cap N'->cap.length<=N'.length
 |[],_,_=>Nat.zero_le _
 |k::t,[],h=>False.elim h
 |k::t,x::r,h=>Nat.succ_le_succ (CapOk.len h.2.2)
theorem uO{X:Cx}{N':List Str}{cap:List Nat}{scope:Scope}(kind:scope.kind=.function:=by rfl)(nc:∀y∈scope.names,y.2≠.cell:=by decide +kernel)(nm:∀y∈scope.names,y.2=.local->scope.names.lookup y.1=some .local:=by decide +kernel)(fr:∀y∈scope.names,y.2=.free->X.env.kindOf y.1=some .cell\/X.env.kindOf y.1=some .free:=by repeat (first|exact List.forall_mem_nil _|refine List.forall_mem_cons.mpr ⟨fun e=>(by first|exact absurd e (by decide)|exact .inl rfl|exact .inr rfl),?_⟩))(capt:CapOk X scope cap N':=by repeat (first|exact trivial|refine⟨rfl,rfl,?_⟩)):CmpOk X N' cap scope:=⟨kind,nc,nm,fr,capt.get,capt.len⟩
end DD
namespace ZZ
open PySem
open PySem
end ZZ
namespace DD
open PySem PySem.Spec PyProof.Rows L2
section
variable{X:Cx}{pos:Pos}{a b c:Expr}{f g h:ME}
theorem uL(ha:DE X a f):DE X (.UnaryOp .USub a pos) (mUn vN f):=zH5 Q2 (fun O H dx d vx Q i e q=>by
 cases dx<;>first|(simp only[vN,reduceCtorEq] at e;done)|skip
 simp only[vN,Option.some.injEq] at e
 subst e
 rw[Is.int_iff] at i
 exact⟨_,i,q _ (by rw[Is.int_iff])⟩) ha
noncomputable def rS:List D->Option (List Int)
 |[]=>some []
 |.int i::r=>(rS r).map (i::·)
 |_=>none
noncomputable def zA9(fs:ML):ME:=fun r=>(fs r).bind fun l=>match l with
 |[.int i,.int j]=>some (.int (if j > i then j else i))
 |[.int i,.int j,.int k]=>some (.int (if j > i then (if k > j then k else j) else (if k > i then k else i)))
 |_=>none
theorem tK(hc:X.calm=true):CallR X (.builtin "max") (fun xs H Q=>∃i j k,xs=[.int i,.int j,.int k]/\Q (.int (if j > i then (if k > j then k else j) else (if k > i then k else i))) H):=by
 intro pins s σ H xs us Q I r hq
 obtain⟨i,j,k,rfl,q⟩:=hq
 cases r with
 |cons r1 r=>
  obtain⟨u2,u3,rfl,⟨t2,rfl⟩,⟨t3,rfl⟩⟩:=Vals.two r
  obtain⟨t1,rfl⟩:=r1
  refine max_three_ints (I.ok.hd hc) fun h' tk kp=>⟨_,H,I.kept kp,?_,q⟩
  split<;>split<;>exact⟨_,rfl⟩
theorem r8{p':Pos}{es:List Expr}{fs:ML}(hc:X.calm=true)(hg:Gl X "max")(hm:X.mg "max" = none)(ha:DA X (a::es) fs)(hs:starEach (a::es) X.env=(false,eval a X.env)::starEach es X.env:=by rfl)(hpl:(backTo pos (starEach es X.env)).any (·.1)=false:=by rfl):DE X (.Call (.Name "max" p') (a::es) [] pos) (zA9 fs):=by
 refine PE.conseq (jJ ((tL hc).or (tK hc)) hg hm PyProof.Rows.boot_max ha (he:=hs) (hpl:=hpl)) fun σ H Q hq=>?_
 obtain⟨O0,r,d,hR,e,q⟩:=hq
 obtain⟨l,e1,e2⟩:=bind_some e
 refine⟨O0,r,l,hR,e1,fun vs H1 s1 il=>?_⟩
 split at e2
 ·cases e2
  obtain⟨v,u,rfl,i1,i2⟩:=il.inv2
  rw[Is.int_iff] at i1 i2
  exact .inl ⟨_,_,by rw[i1,i2],q _ H1 s1 (by rw[Is.int_iff])⟩
 ·cases e2
  obtain⟨v,u,w,rfl,i1,i2,i3⟩:=il.inv3
  rw[Is.int_iff] at i1 i2 i3
  exact .inr ⟨_,_,_,by rw[i1,i2,i3],q _ H1 s1 (by rw[Is.int_iff])⟩
 ·cases e2
noncomputable def d4(fl:ML):ME:=fun r=>(fl r).bind fun l=>(rS l).bind fun ns=>match ns with
 |[]=>none
 |i::t=>some (.int (t.foldl max i))
theorem oE{K:Fg}{O:Addr->Prop}{H:Hp}:∀{l:List D} {ns:List Int} {vs:List V},rS l=some ns->IsL K O H l vs->vs=ns.map V.int
 |[],ns,vs,e,il=>by cases e;unfold IsL at il;subst il;rfl
 |d::l,ns,vs,e,il=>by
  unfold IsL at il
  obtain⟨v,r,rfl,i1,i2⟩:=il
  cases d<;>first|(simp only[rS,reduceCtorEq] at e;done)|skip
  simp only[rS] at e
  obtain⟨ms,e1,rfl⟩:=map_some e
  rw[Is.int_iff] at i1
  rw[i1,oE e1 i2];rfl
theorem gD:∀(t:List Int) (i:Int),t.foldl max i∈i::t/\∀x∈i::t,x<=t.foldl max i
 |[],i=>⟨List.mem_cons_self,fun x hx=>by simp at hx;rw[hx];exact Int.le_refl _⟩
 |j::t,i=>by
  obtain⟨h1,h2⟩:=gD t (max i j)
  refine⟨?_,fun x hx=>?_⟩
  ·rw[List.foldl_cons]
   rcases List.mem_cons.mp h1 with z|z
   ·rw[z]
    rcases Int.le_total i j with y|y
    ·rw[Int.max_eq_right y];simp
    ·rw[Int.max_eq_left y];simp
   ·exact List.mem_cons_of_mem _ (List.mem_cons_of_mem _ z)
  ·rw[List.foldl_cons]
   have hm:=h2 (max i j) List.mem_cons_self
   rcases List.mem_cons.mp hx with z|z
   ·rw[z];exact Int.le_trans (Int.le_max_left i j) hm
   ·rcases List.mem_cons.mp z with z|z
    ·rw[z];exact Int.le_trans (Int.le_max_right i j) hm
    ·exact h2 x (List.mem_cons_of_mem _ z)
theorem tJ(hc:X.calm=true):CallR X (.builtin "max") (fun xs H Q=>∃p i ns,xs=[.ref p]/\SqL X.K H p ((i::ns).map V.int)/\Q (.int (ns.foldl max i)) H):=by
 intro pins s σ H xs us Q I r hq
 obtain⟨p,i,ns,rfl,hS,q⟩:=hq
 obtain⟨u,rfl,ru⟩:=Vals.one r
 cases ru
 obtain⟨its,rv,pl,hz⟩:=I.list hS
 have hi:IntsAre its (i::ns):=mU rv
 obtain⟨xs,e⟩:=hi.allInts.items;have hns:(i::ns)=xs.toList.map (·.1):=by rw[<-hi.numsOf,<-nums_intItems,<-e]
 have hsz:0<xs.size:=by
  have h3:=congrArg List.length hns
  have h4:ns.length+1=xs.toList.length:=by simpa using h3
  have h5:xs.toList.length=xs.size:=by simp
  omega
 have pl':=pl.isList
 rw[e] at pl'
 refine max_intList (I.ok.hd hc) pl' hsz fun v h' tk hv hk=>?_
 obtain⟨t,rfl⟩:=intItems_at hv;obtain⟨h1,h2⟩:=argBest_gt (numAt xs) (xs.size-1)
 refine⟨.int (ns.foldl max i),H,I.kept hk,⟨t,?_⟩,q⟩
 obtain⟨m1,m2⟩:=gD ns i
 congr 1
 refine Int.le_antisymm ?_ ?_
 ·refine m2 _ ?_
  rw[hns,numAt_eq];exact getD_mem (by rw[List.length_map,Array.length_toList];omega)
 ·rw[hns] at m1
  obtain⟨k,hk',ek⟩:=mem_getD m1
  rw[<-ek]
  rw[List.length_map,Array.length_toList] at hk'
  rw[<-numAt_eq];exact h2 k (by omega)
theorem YB{p':Pos}{fl:ML}(hc:X.calm=true)(hg:Gl X "max")(hm:X.mg "max" = none)(ha:DB X a fl)(hs:starEach [a] X.env=(false,eval a X.env)::starEach [] X.env:=by rfl):DE X (.Call (.Name "max" p') [a] [] pos) (d4 fl):=by
 refine PE.conseq (jJ (tJ hc) hg hm PyProof.Rows.boot_max (zZ ha xA hs) (he:=hs)) fun σ H Q hq=>?_
 obtain⟨O0,r,d,hR,e,q⟩:=hq
 obtain⟨l,e1,e2⟩:=bind_some e
 obtain⟨ns,e3,e4⟩:=bind_some e2
 refine⟨O0,r,l,hR,e1,fun p xs H1 s1 sq il=>?_⟩
 cases ns with
 |nil=>cases e4
 |cons i t=>
  cases e4
  have ex:=oE e3 il
  subst ex
  exact⟨p,i,t,rfl,sq,q _ H1 s1 (by rw[Is.int_iff])⟩
noncomputable def WE(fl:ML):ME:=fun r=>(fl r).map .tup
theorem m4{p':Pos}{fl:ML}(hg:Gl X "tuple")(hm:X.mg "tuple" = none)(ha:DB X a fl)(hs:starEach [a] X.env=(false,eval a X.env)::starEach [] X.env:=by rfl):DE X (.Call (.Name "tuple" p') [a] [] pos) (WE fl):=by
 refine PE.conseq (v7 uR hg hm PyProof.Rows.boot_tuple (zZ ha xA hs) (he:=hs)) fun σ H Q hq=>?_
 obtain⟨O0,r,d,hR,e,q⟩:=hq
 obtain⟨l,e1,rfl⟩:=map_some e
 refine⟨O0,r,l,hR,e1,fun p xs H1 s1 sq il=>⟨p,xs,rfl,.inl ⟨sq,fun t ht=>q _ _ (s1.trans (zV ht)) ?_⟩⟩⟩
 rw[Is.tup_iff]
 exact⟨t,xs,rfl,SqT.of zK,il.same (zV ht) (hR.same s1).ol⟩
theorem zGH{fl:ML}(h:DF X a fl):DB X a fl:=by
 refine PE.conseq h fun σ H Q hq=>?_
 obtain⟨O0,r,l,hR,e,q⟩:=hq
 refine⟨O0,r,l,hR,e,fun p xs H1 s1 n1 e1 il=>q p xs H1 s1 (SqL.of e1) ?_⟩
 have ol:jB (fun b=>Ow O0 r σ b\/b=p) H1:=fun b z=>z.elim (fun z=>(hR.same s1).ol b z) fun z=>by subst z;exact⟨.lst xs,e1,trivial⟩
 exact IsL.mono (Same.kp (Same.refl H1) _) ol (fun a z _=>.inl z) l xs il
end
noncomputable def zC5(f:ME)(bd:D->En->Option En):MS:=fun r=>(f r).bind fun d=>(bd d r).map .nx
theorem zCB{X:Cx}{pos:Pos}{tg e:Expr}{f:ME}{bd:D->En->Option En}(he:DE X e f)(hg:DG X tg bd)(hs:swapsWithSole [tg] e pos.line X.env=pure false:=by rfl)(hw:swappedStores [tg] e X.env=pure none:=by rfl)(h1:(assignEach [tg] X.env).map (·.2)=[assign tg X.env]:=by rfl):DS X (.Assign [tg] e pos) (zC5 f bd):=by
 refine PS.conseq (zEE he hg hs hw h1) fun Dn σ H hq=>?_
 obtain⟨O0,r,fl,hR,e,q⟩:=hq
 obtain⟨d,e1,e2⟩:=bind_some e
 obtain⟨r',e3,rfl⟩:=map_some e2
 refine⟨O0,r,d,hR,e1,fun v H1 s1 i1=>⟨O0,r,d,r',hR.same s1,i1,e3,fun σ' R' k'=>q σ' H1 R' ((Kp.of_same r σ s1).trans k')⟩⟩
open PySem PySem.Spec PyProof.Rows L2 PySem.StrLaws
noncomputable def uN{α:Type}(xs:List α)(lo hi:Option Int):List α:=(xs.drop (HT.sIx xs.length 0 lo)).take (HT.sIx xs.length xs.length hi-HT.sIx xs.length 0 lo)
theorem nK(n d:Nat)(hd:d<=n)(o:Option Int):HT.sIx n d o<=n:=HT.sIx_le n d hd o
theorem cV(lo hi:Option Int)(n:Nat):Builtin.Str.strSliceIndices lo hi 1 n=Builtin.Str.strSliceIndices (some ((HT.sIx n 0 lo:Nat):Int)) (some ((HT.sIx n n hi:Nat):Int)) 1 n:=by
 have key:∀(v:Option Int) (d:Nat),d<=n->(match v with|none=>(d:Int)|some i=>max 0 (min (if i<0 then i+(n:Int) else i) (n:Int)))=max 0 (min (if ((HT.sIx n d v:Nat):Int)<0 then ((HT.sIx n d v:Nat):Int)+(n:Int) else ((HT.sIx n d v:Nat):Int)) (n:Int)):=by
  intro v d hd
  have hle:=nK n d hd v
  have h0:¬(((HT.sIx n d v:Nat):Int)<0):=by omega
  rw[if_neg h0]
  cases v with
  |none=>
   have e:HT.sIx n d none=d:=rfl
   rw[e];show(d:Int)=_;omega
  |some i=>
   have e:HT.sIx n d (some i)=if i<0 then (i+(n:Int)).toNat else min i.toNat n:=rfl
   show max 0 (min (if i<0 then i+(n:Int) else i) (n:Int))=_
   rw[e] at hle ⊢
   split<;>split at hle<;>omega
 have e1:(1:Int) > 0:=by omega
 unfold PySem.Builtin.Str.strSliceIndices
 simp only[e1,if_true]
 have k1:=key lo 0 (Nat.zero_le _)
 have k2:=key hi n (Nat.le_refl _)
 cases lo<;>cases hi<;>simp only at k1 k2 ⊢<;>rw[<-k1,<-k2]<;>rfl
theorem jZ(x:Str)(lo hi:Option Int):sliceText x lo hi=⟨(uN x.cps.toList lo hi).toArray⟩:=by
 have hl:x.cps.toList.length=x.length:=by simp[Str.length]
 unfold uN
 rw[hl]
 have ha:=nK x.length 0 (Nat.zero_le _) lo
 have hb:=nK x.length x.length (Nat.le_refl _) hi
 have e:sliceText x lo hi=sliceText x (some ((HT.sIx x.length 0 lo:Nat):Int)) (some ((HT.sIx x.length x.length hi:Nat):Int)):=by
  unfold sliceText
  rw[cV lo hi x.length]
 rw[e]
 by_cases hab:HT.sIx x.length 0 lo<=HT.sIx x.length x.length hi
 ·exact sliceText_nat x hab hb
 ·have z:HT.sIx x.length x.length hi-HT.sIx x.length 0 lo=0:=by omega
  rw[z,List.take_zero]
  have em:Builtin.Str.strSliceIndices (some ((HT.sIx x.length 0 lo:Nat):Int)) (some ((HT.sIx x.length x.length hi:Nat):Int)) 1 x.length=[]:=by
   have e1:(1:Int) > 0:=by omega
   unfold PySem.Builtin.Str.strSliceIndices
   simp only[e1,if_true]
   have h0:¬(((HT.sIx x.length 0 lo:Nat):Int)<0):=by omega
   have h1:¬(((HT.sIx x.length x.length hi:Nat):Int)<0):=by omega
   rw[if_neg h0,if_neg h1]
   unfold PySem.sliceRange
   simp only[e1,if_true]
   split
   ·omega
   ·rfl
  unfold sliceText
  rw[em]
  split
  ·rename_i q
   have q':x.length=0:=by
                  have:0=x.length:=by simpa using q
                  exact this.symm
   apply Str.ext'
   have:x.cps.size=0:=q'
   exact Array.eq_empty_of_size_eq_zero this
  ·rfl
section
variable{X:Cx}{pos p2:Pos}{a b:Expr}{f g:ME}
noncomputable def zIY:V->Option Int->Option Int->Hp->VK->Prop:=fun x lo hi H Q=>∃z,x=.str z/\z.length<=sizeLine/\Q (.str ⟨(uN z.cps.toList lo hi).toArray⟩) H
theorem WY{α:Type}(xs:List α)(lo hi:Option Int):(uN xs lo hi).length<=xs.length:=by
 unfold uN
 rw[List.length_take,List.length_drop]
 omega
theorem pN:SlR X zIY:=by
 intro pins s σ H x v vl vu lo hi sl Q I rx hs pl pu hq
 obtain⟨z,rfl,hz,q⟩:=hq
 obtain⟨t,rfl⟩:=rx
 refine⟨"str",_,PySem.F.slot_str_getitem.lookup,typeIs_str _ _ _,?_⟩
 have main:∀(l u:Option (Int×Tok)),l.map (·.1)=lo->u.map (·.1)=hi->s.heap.IsSlice sl l u none->wpAny (model X.prog X.w) X.A (getItem (.str z t) (.ref sl)) (EP X pins σ Q) X.xe s:=by
  intro l u hl hu hsl
  refine wpAny_getItem_str_slice hsl rfl ?_
  have e:∀t' k,EP X pins σ Q (.str (sliceText z lo hi) t') { s with toks:=k }:=fun t' k=>⟨.str _,H,I.tok k,⟨t',rfl⟩,by rw[jZ];exact q⟩
  have hle:(sliceText z lo hi).length<=sizeLine:=by
   rw[jZ,qU]
   have:=WY z.cps.toList lo hi
   have h2:z.cps.toList.length=z.length:=by simp[Str.length]
   omega
  unfold sliceMade slicePicked
  rw[hl,hu]
  exact post_val_or_str ⟨hle,e⟩
 obtain⟨o,h1,h2,h3⟩:=hs
 cases pl with
 |none=>cases pu with
  |none=>exact main none none rfl rfl ⟨o,h1,h2,h3⟩
  |int j tj=>exact main none (some (j,tj)) rfl rfl ⟨o,h1,h2,h3⟩
 |int i ti=>cases pu with
  |none=>exact main (some (i,ti)) none rfl rfl ⟨o,h1,h2,h3⟩
  |int j tj=>exact main (some (i,ti)) (some (j,tj)) rfl rfl ⟨o,h1,h2,h3⟩
noncomputable abbrev MO:=En->Option (Option Int)
noncomputable def x5:MO:=fun _=>some none
noncomputable def xR(f:ME):MO:=fun r=>(f r).bind fun d=>(intD d).map some
noncomputable def lO(K:Fg)(f:MO):TO:=fun σ H Q=>∃O0 r o,R K O0 H r σ/\f r=some o/\∀H',Same H H'->Q o H'
noncomputable def DO(X:Cx)(e:Option Expr)(f:MO):Prop:=PO X e (lO X.K f)
theorem PO.conseq{e:Option Expr}{t t':TO}(h:PO X e t)(i:∀σ H Q,t' σ H Q->t σ H Q):PO X e t':=fun pins s σ H Q I q=>h pins s σ H Q I (i σ H Q q)
theorem jA:DO X none x5:=PO.conseq JZ fun σ H Q ⟨O0,r,o,hR,e,q⟩=>by
 unfold x5 at e;cases e
 exact q H (Same.refl H)
theorem wU(ha:DE X a f):DO X (some a) (xR f):=PO.conseq (JY ha) fun σ H Q ⟨O0,r,o,hR,e,q⟩=>by
 obtain⟨d,e1,e2⟩:=bind_some e
 obtain⟨i,e3,rfl⟩:=map_some e2
 cases qF e3
 exact⟨O0,r,_,hR,e1,fun v H1 s1 i1=>⟨i,by rw[Is.int_iff] at i1;exact i1,q H1 s1⟩⟩
noncomputable def slD(d:D)(lo hi:Option Int):Option D:=match d with
 |.lst l=>some (.lst (uN l lo hi))
 |.tup l=>if HT.sIx l.length 0 lo=0/\HT.sIx l.length l.length hi=l.length then none else some (.tup (uN l lo hi))
 |.str s=>if s.length<=sizeLine then some (.str (uN s lo hi)) else none
 |_=>none
noncomputable def mSl(f:ME)(lo hi:MO):ME:=fun r=>(f r).bind fun d=>(lo r).bind fun i=>(hi r).bind fun j=>slD d i j
noncomputable def zJR(K:Fg):V->Option Int->Option Int->Hp->VK->Prop:=fun x lo hi H Q=>zIZ K x lo hi H Q\/zIX K x lo hi H Q\/zIY x lo hi H Q
theorem IsL.cut{K:Fg}{O:Addr->Prop}{H:Hp}{l:List D}{xs:List V}(h:IsL K O H l xs)(lo hi:Option Int):IsL K O H (uN l lo hi) (zDG xs lo hi):=by
 unfold uN zDG
 rw[h.length]
 exact(h.drop _).take _
theorem gO{lo hi:Option Expr}{fl fh:MO}(ha:DE X a f)(hl:DO X lo fl)(hh:DO X hi fh):DE X (.Subscript a (.Slice lo hi none p2) pos) (mSl f fl fh):=by
 refine PE.conseq (XQ (r:=zJR X.K) (sl_list.or (sl_tup.or pN)) ha hl hh) fun σ H Q hq=>?_
 obtain⟨O0,r,d,hR,e,q⟩:=hq
 obtain⟨x,e1,e⟩:=bind_some e
 obtain⟨i,e2,e⟩:=bind_some e
 obtain⟨j,e3,e⟩:=bind_some e
 refine⟨O0,r,x,hR,e1,fun v H1 s1 i1=>⟨O0,r,i,hR.same s1,e2,fun H2 s2=>⟨O0,r,j,hR.same (s1.trans s2),e3,fun H3 s3=>?_⟩⟩⟩
 have s13:=(s1.trans s2).trans s3
 have R3:=hR.same s13
 have i3:=i1.same (s2.trans s3) (hR.same s1).ol
 cases x<;>first|(simp only[slD,reduceCtorEq] at e;done)|skip
 ·simp only[slD] at e
  split at e
  ·rename_i hl'
   cases e
   rw[Is.str_iff] at i3
   refine .inr (.inr ⟨_,i3,by rw[qU];exact hl',q _ H3 s13 (by rw[Is.str_iff])⟩)
  ·cases e
 ·simp only[slD] at e
  split at e
  ·cases e
  ·rename_i hw
   cases e
   rw[Is.tup_iff] at i3
   obtain⟨p,xs,rfl,hs,il⟩:=i3
   refine .inr (.inl ⟨p,xs,rfl,hs,by rw[<-il.length];exact hw,fun t ht=>q _ _ (s13.trans (zV ht)) ?_⟩)
   rw[Is.tup_iff]
   exact⟨t,_,rfl,SqT.of zK,(il.cut i j).same (zV ht) R3.ol⟩
 ·simp only[slD,Option.some.injEq] at e
  subst e
  rw[Is.lst_iff] at i3
  obtain⟨p,xs,rfl,hs,il⟩:=i3
  refine .inl ⟨p,xs,rfl,hs.sq,fun t ht=>q _ _ (s13.trans (zV ht)) ?_⟩
  rw[Is.lst_iff]
  exact⟨t,_,rfl,.inl ⟨R3.nofresh ht,.inl zK⟩,(il.cut i j).same (zV ht) R3.ol⟩
end
open PySem PySem.Spec PyProof.Rows L2 PySem.StrLaws
section
variable{prog:Program}{w:World}{A:Around}{E:Value->Shared->Prop}{s:Shared}
theorem zD6(n:Nat):Builtin.Slice.sliceAdjust none none (-1) (n:Int)=((n:Int)-1,-1):=by
 unfold Builtin.Slice.sliceAdjust
 simp
theorem zD4(n:Nat):Builtin.Slice.slicePlaces ((n:Int)-1) (-1) (-1)=n:=by
 unfold Builtin.Slice.slicePlaces
 have h1:¬((-1:Int) > 0):=by omega
 simp only[h1,if_false]
 split
 ·have : -(-1:Int)=1:=by omega
  rw[this,Int.ediv_one];omega
 ·omega
theorem zD5{sl:Addr}{t:Tok}{n:Nat}{Q:Int×Int×Nat->Shared->Prop}(hs:s.heap.IsSliceOf sl .none .none (.int (-1) t))(h:Q ((n:Int)-1,-1,n) s):wpAny (model prog w) A (Builtin.Slice.sliceApplied (.ref sl) (pure (n:Int))) Q E s:=by
 obtain⟨os,ho,hc,hd⟩:=id hs
 unfold Builtin.Slice.sliceApplied Builtin.Slice.sliceFields
 refine wpAny_bind (wpAny_bind (wpAny_field ho hd (x:=.none) rfl (wpAny_bind (wpAny_field ho hd (x:=.none) rfl (wpAny_bind (wpAny_field ho hd (x:=.int (-1) t) rfl (wpAny_pure (?_))))))))
 refine wpAny_bind (slicePart_int (?_));show wpAny _ _ (if ((-1:Int) == 0)=true then _ else _) _ _ s;rw[if_neg (by decide)]
 refine wpAny_bind (slicePart_none (wpAny_bind (slicePart_none (wpAny_bind (wpAny_pure (?_))))))
 show wpAny _ _ (match Builtin.Slice.sliceAdjust none none (-1) (n:Int) with|(lo,hi)=>pure (lo,(-1:Int),Builtin.Slice.slicePlaces lo hi (-1))) _ _ s
 rw[zD6 n];show wpAny _ _ (pure ((n:Int)-1,(-1:Int),Builtin.Slice.slicePlaces ((n:Int)-1) (-1) (-1))) _ _ s;rw[zD4]
 exact wpAny_pure h
theorem zBT{α β:Type}{F:α->Option β}{G:α->β}:∀(l:List α),(∀m∈l,F m=some (G m))->l.filterMap F=l.map G
 |[],_=>rfl
 |a::l,h=>by
  rw[List.filterMap_cons,h a List.mem_cons_self,List.map_cons,zBT l fun m hm=>h m (List.mem_cons_of_mem _ hm)]
theorem XE(xs:Array Value):((List.range xs.size).filterMap fun(m:Nat)=>xs[((xs.size:Int)-1+(m:Int)*(-1)).toNat]?).toArray=xs.toList.reverse.toArray:=by
 congr 1
 apply List.ext_getElem?
 intro k
 have e:∀m,m<xs.size->xs[((xs.size:Int)-1+(m:Int)*(-1)).toNat]?=some (xs.toList.reverse.getD m .none):=by
  intro m hm
  have h1:((xs.size:Int)-1+(m:Int)*(-1)).toNat=xs.size-1-m:=by omega
  rw[h1,List.getD_eq_getElem?_getD,List.getElem?_reverse (by simpa using hm)]
  have h2:xs.size-1-m<xs.size:=by omega
  simp[h2]
 have e2:(List.range xs.size).filterMap (fun(m:Nat)=>xs[((xs.size:Int)-1+(m:Int)*(-1)).toNat]?)=(List.range xs.size).map fun m=>xs.toList.reverse.getD m .none:=by
  exact zBT _ fun m hm=>e m (List.mem_range.mp hm)
 rw[e2,List.getElem?_map]
 by_cases hk:k<xs.size
 ·rw[List.getElem?_range hk,List.getElem?_eq_getElem (by simpa using hk)]
  simp[List.getD_eq_getElem?_getD,hk]
 ·rw[List.getElem?_eq_none (by simpa using hk),List.getElem?_eq_none (by simpa using hk)];rfl
theorem JO{t sl:Addr}{its:Array Value}{tk:Tok}{Q:Value->Shared->Prop}(ht:IsTup s.heap t its)(hs:s.heap.IsSliceOf sl .none .none (.int (-1) tk))(hsz:its.size<=sizeLine)(h:Q (.ref s.heap.objs.size) { s with heap:=s.heap.push { cls:=.type "tuple",data:=.seq its.toList.reverse.toArray } }):wpAny (model prog w) A (getItem (.ref t) (.ref sl)) Q E s:=by
 have hz:sizeOk (.seq its.toList.reverse.toArray):=by show its.toList.reverse.toArray.size<=sizeLine;simpa using hsz
 obtain⟨os,ho,hc,hd⟩:=id hs
 have hT:s.TypeIs (.ref sl) "slice" := ⟨os,ho,hc⟩
 unfold getItem
 try with_reducible refine wpAny_holding ?_
 first|refine wpAny_bind (wpAny_pure ?_)|skip
 refine wpAny_bind (wpAny_sequenceKey ht.typeIs (by decide) ?_)
 refine wpAny_bind (wpAny_callSpecial?_slot (name:=Str.ofString "__getitem__") ht.typeIs PyProof.Rows.slot_tuple_getitem (wpAny_call_entry PyProof.Rows.slot_tuple_getitem ht.typeIs entry_tuple_getitem (?_) (args_tuple_getitem _ _)))
 show wpAny _ _ (Builtin.Tuple.tupleItemsOf (.ref t) >>= _) _ _ s;refine wpAny_bind (tupleItemsOf_ ht (wpAny_bind (wpAny_typeOf hT (?_))));rw[if_pos (by decide)];refine wpAny_bind (zD5 hs (?_))
 show wpAny _ _ (if (((its.size:Int)-1) == 0 && (-1:Int) == 1 && its.size == its.size)=true then _ else _) _ _ s
 rw[if_neg (by simp),XE]
 first
  |exact wpAny_bind (m:=Builtin.Tuple.tupleExact _) (wpAny_newObj_type (wpAny_pure ⟨_,rfl,wpAny_pure h⟩) hz)
  |exact wpAny_bind (m:=Builtin.Tuple.tupleExact _) (wpAny_newObj_type (wpAny_bind (wpAny_pure (wpAny_pure ⟨_,rfl,wpAny_pure h⟩))) hz)
  |exact wpAny_bind (wpAny_bind (m:=Builtin.Tuple.tupleExact _) (wpAny_newObj_type (wpAny_pure (wpAny_pure ⟨_,rfl,wpAny_pure h⟩)) hz))
  |exact wpAny_bind (wpAny_bind (m:=Builtin.Tuple.tupleExact _) (wpAny_newObj_type (wpAny_pure ⟨_,rfl,wpAny_pure h⟩) hz))
end
section
variable{X:Cx}{pos p2 p3:Pos}{a b:Expr}{f g:ME}{j:Nat}
noncomputable def zJJ(K:Fg)(ta:TE):TE:=fun σ H Q=>ta σ H fun x H1=>(∃p xs,x=.ref p/\SqL K H1 p xs/\∀q,H1 q=none->Q (.ref q) (upd H1 q (.lst xs.reverse)))\/(∃p xs,x=.ref p/\SqT K H1 p xs/\∀q,H1 q=none->Q (.ref q) (upd H1 q (.tup xs.reverse)))
theorem J5{ta:TE}(he:PE X a ta):PE X (.Subscript a (.Slice none none (some (.UnaryOp .USub (.Constant (.int 1) j p3) pos)) p2) pn) (zJJ X.K ta):=by
 intro pins s σ H Q I h
 refine Subscript_ (thn (he pins s σ H _ I h) fun v s1 ⟨x,H1,I1,r1,q1⟩=>?_)
 refine wpAny_Slice ?_
 rw[evalPart_none]
 refine wpAny_pure (wpAny_pure ?_);rw[evalPart_some]
 have hst:PE X (.UnaryOp .USub (.Constant (.int 1) j p3) pos) (tUn (rU fun i=>.int (-i)) (tC (.int 1))):=zF1 Q2 mI
 refine thn (hst pins s1 σ H1 (fun w H'=>w=.int (-1)/\H'=H1) I1 ⟨1,rfl,rfl,rfl⟩) fun u s2 ⟨y,H2,I2,r2,q2,eH⟩=>?_
 subst eH q2
 obtain⟨t,rfl⟩:=r2
 have I4:Inv X pins σ H2 { s2 with heap:=s2.heap.push { cls:=.type "slice",data:=.fields #[.none,.none,.int (-1) t] } }:=I2.kept (t':=s2.toks) fun b ob q=>Heap.get?_push_of_some _ q
 have hsl:({ s2 with heap:=s2.heap.push { cls:=.type "slice",data:=.fields #[.none,.none,.int (-1) t] } }:Shared).heap.IsSliceOf s2.heap.objs.size .none .none (.int (-1) t):=Heap.IsSliceOf.new ..
 rcases q1 with⟨p,xs,rfl,hx,q⟩|⟨p,xs,rfl,hx,q⟩
 ·cases r1
  obtain⟨its,r,pl,hz⟩:=I4.list hx
  have hlen:=r.length
  refine tail_any (ops:=[.ref p,.ref s2.heap.objs.size]) pl.isList.typeIs slot_list_getitem.lookup (wpAny_getItem_list_slice pl.isList hsl .none .none (.int (-1) t) (by simp) ?_ (by simp only[List.size_toArray];omega)) (by with_unfolding_all rfl)
  rw[PySem.W.krv_pick]
  exact⟨.ref _,_,I4.lnew (t':=s2.toks) r.reverse (by rw[List.length_reverse];exact hz),rfl,q _ I4.fresh⟩
 ·cases r1
  obtain⟨its,r,pl,hz⟩:=I4.tuple hx
  have hlen:=r.length
  refine tail_any (ops:=[.ref p,.ref s2.heap.objs.size]) pl.typeIs PyProof.Rows.slot_tuple_getitem.lookup (JO pl hsl (by simp only[List.size_toArray];omega) ?_) (by with_unfolding_all rfl)
  refine⟨.ref _,_,I4.laid (t':=s2.toks) (o:=.tup xs.reverse) (fun b ob q=>Heap.get?_push_of_some _ q) (Nat.le_refl _) ?_,rfl,q _ (I4.hok.fresh (Nat.le_refl _))⟩
  exact⟨by rw[List.length_reverse];exact hz,_,r.reverse,IsTup.new _ _⟩
noncomputable def zD7:D->Option D
 |.lst l=>some (.lst l.reverse)
 |.tup l=>some (.tup l.reverse)
 |_=>none
theorem zCF(ha:DE X a f):DE X (.Subscript a (.Slice none none (some (.UnaryOp .USub (.Constant (.int 1) j p3) pos)) p2) pn) (mUn zD7 f):=by
 refine PE.conseq (J5 ha) fun σ H Q hq=>?_
 obtain⟨O0,r,d,hR,e,q⟩:=hq
 obtain⟨x,e1,e2⟩:=bind_some e
 refine⟨O0,r,x,hR,e1,fun v H1 s1 i1=>?_⟩
 have R1:=hR.same s1
 cases x<;>first|(simp only[zD7,reduceCtorEq] at e2;done)|skip
 ·simp only[zD7,Option.some.injEq] at e2
  subst e2
  rw[Is.tup_iff] at i1
  obtain⟨p,xs,rfl,hs,il⟩:=i1
  refine .inr ⟨p,xs,rfl,hs,fun t ht=>q _ _ (s1.trans (zV ht)) ?_⟩
  rw[Is.tup_iff]
  exact⟨t,_,rfl,SqT.of zK,il.reverse.same (zV ht) R1.ol⟩
 ·simp only[zD7,Option.some.injEq] at e2
  subst e2
  rw[Is.lst_iff] at i1
  obtain⟨p,xs,rfl,hs,il⟩:=i1
  refine .inl ⟨p,xs,rfl,hs.sq,fun t ht=>q _ _ (s1.trans (zV ht)) ?_⟩
  rw[Is.lst_iff]
  exact⟨t,_,rfl,.inl ⟨R1.nofresh ht,.inl zK⟩,il.reverse.same (zV ht) R1.ol⟩
noncomputable def pL:List D->Option (List (List Nat))
 |[]=>some []
 |.str s::r=>(pL r).map (s::·)
 |_=>none
noncomputable def ZS(sep:List Nat):List (List Nat)->List Nat
 |[]=>[]
 |[s]=>s
 |s::r=>s++sep++ZS sep r
theorem nG{K:Fg}{O:Addr->Prop}{H:Hp}:∀{l:List D} {ss:List (List Nat)} {vs:List V},pL l=some ss->IsL K O H l vs->vs=ss.map fun s=>V.str ⟨s.toArray⟩
 |[],ss,vs,e,il=>by cases e;unfold IsL at il;subst il;rfl
 |d::l,ss,vs,e,il=>by
  unfold IsL at il
  obtain⟨v,r,rfl,i1,i2⟩:=il
  cases d<;>first|(simp only[pL,reduceCtorEq] at e;done)|skip
  simp only[pL] at e
  obtain⟨ms,e1,rfl⟩:=map_some e
  rw[Is.str_iff] at i1
  rw[i1,nG e1 i2];rfl
theorem u4:∀{ss:List (List Nat)} {us:List Value},Vals (ss.map fun s=>V.str ⟨s.toArray⟩) us->StrsAre us (ss.map fun s=>(⟨s.toArray⟩:Str))
 |[],us,r=>by rw[List.map_nil] at r;cases r;exact .nil
 |s::ss,us,r=>by
  rw[List.map_cons] at r
  cases r with
  |cons r1 r2=>
   obtain⟨t,e⟩:=r1
   subst e
   exact .cons _ t (u4 r2)
theorem ZR(sep:List Nat):∀ss:List (List Nat),Str.join (⟨sep.toArray⟩:Str) (ss.map fun s=>(⟨s.toArray⟩:Str))=⟨(ZS sep ss).toArray⟩
 |[]=>rfl
 |[s]=>rfl
 |s::t::r=>by
  have ih:=ZR sep (t::r)
  show(⟨s.toArray⟩:Str)++⟨sep.toArray⟩++Str.join _ ((t::r).map fun s=>(⟨s.toArray⟩:Str))=_
  rw[ih,nH,nH]
  rfl
noncomputable def zHD(K:Fg):V->List V->Hp->VK->Prop:=fun x vs H Q=>∃sep p ss,x=.str ⟨sep.toArray⟩/\vs=[.ref p]/\SqL K H p (ss.map fun s=>V.str ⟨s.toArray⟩)/\(ss.map List.length).sum+ss.length*sep.length<=16777216/\Q (.str ⟨(ZS sep ss).toArray⟩) H
theorem zAU:MtR X "str.join" (zHD X.K):=by
 intro pins s σ H x vs v us Q I rx rv hq
 obtain⟨sep,p,ss,rfl,rfl,hs,hl,q⟩:=hq
 obtain⟨t,rfl⟩:=rx
 obtain⟨u,rfl,ru⟩:=Vals.one rv
 cases ru
 obtain⟨its,r,pl,hz⟩:=I.list hs
 refine join_list pl.isList (ys:=ss.map fun s=>(⟨s.toArray⟩:Str)) (by simpa using u4 r) ?_ fun t' k=>⟨.str _,H,I.tok k,⟨t',rfl⟩,?_⟩
 ·have e:(ss.map fun s=>(⟨s.toArray⟩:Str)).map (·.length)=ss.map List.length:=by rw[List.map_map];exact List.map_congr_left fun s _=>qU s
  rw[e,List.length_map,qU];exact hl
 ·show Q (.str (Txt.join _ _)) H
  unfold Txt.join
  rw[glued_eq_join,ZR];exact q
noncomputable def zDB(f:ME)(fl:ML):ME:=fun r=>(f r).bind fun d=>match d with
 |.str sep=>(fl r).bind fun l=>(pL l).bind fun ss=>if (ss.map List.length).sum+ss.length*sep.length<=16777216 then some (.str (ZS sep ss)) else none
 |_=>none
theorem zCJ{fl:ML}{apos cpos:Pos}(ho:DE X a f)(ha:DB X b fl)(hbase:attributeBase a "join" X.env (eval a X.env)=eval a X.env:=by rfl)(hline:(apos.endLine == cpos.line)=true:=by rfl)(hfew:((backTo cpos (starEach [b] X.env)).all (fun x=>!x.1) && (backToKw cpos (keywordEach [] X.env)).all (fun x=>x.1.isSome) && decide ([b].length+([]:List Keyword).length+(if ([]:List Keyword).isEmpty then 0 else 1)<30))=true:=by rfl)(hs:starEach [b] X.env=(false,eval b X.env)::starEach [] X.env:=by rfl):DE X (.Call (.Attribute a "join" apos) [b] [] cpos) (zDB f fl):=by
 refine PE.conseq (p8 PySem.F.plainAttrs_str PySem.F.slot_str_join PySem.F.type_str_join zAU ho (zZ ha xA hs) hbase hfew hline hs) fun σ H Q hq=>?_
 obtain⟨O0,r,d,hR,e,q⟩:=hq
 obtain⟨x,e1,e2⟩:=bind_some e
 refine⟨O0,r,x,hR,e1,fun v H1 s1 i1=>?_⟩
 cases x<;>first|(simp only[reduceCtorEq] at e2;done)|skip
 simp only at e2
 obtain⟨l,e3,e4⟩:=bind_some e2
 obtain⟨ss,e5,e6⟩:=bind_some e4
 rw[Is.str_iff] at i1
 subst i1
 split at e6
 ·rename_i hl
  cases e6
  refine⟨rfl,O0,r,l,hR.same s1,e3,fun p xs H2 s2 sq il=>?_⟩
  have ex:=nG e5 il
  subst ex
  exact⟨_,p,ss,rfl,rfl,sq,hl,q _ H2 (s1.trans s2) (by rw[Is.str_iff])⟩
 ·cases e6
end
open PySem PySem.Spec PyProof.Rows L2 PySem.StrLaws PySem.Builtin.Str
section
variable{X:Cx}{a b:Expr}{f g:ME}{p pos:Pos}{elts:List Expr}{k:Nat}{tp:Pos}
noncomputable def z1(F:V->Hp->Prop):List V->Hp->Prop
 |[x],H=>F x H
 |_,_=>False
theorem QQ{F:V->Hp->Prop}:∀{vs:List V} {H:Hp},z1 F vs H->∃x,vs=[x]/\F x H
 |[x],_,h=>⟨x,rfl,h⟩
 |[],_,h=>h.elim
 |_::_::_,_,h=>h.elim
end
noncomputable def frZ(i:Nat)(r:En):Option En:=match r[i]? with
 |some (.o l)=>some (r.set i (.z l))
 |_=>none
noncomputable def unZ(i:Nat)(r:En):Option En:=match r[i]? with
 |some (.z l)=>some (r.set i (.o l))
 |_=>none
noncomputable def unF(i:Nat):Fl->Option Fl
 |.nx r=>(unZ i r).map .nx
 |.bk r=>(unZ i r).map .bk
 |.ct r=>(unZ i r).map .ct
 |.rt d r=>(unZ i r).map (.rt d)
 |.rf _ _=>none
 |.rg _ _ _=>none
noncomputable def sZ(i:Nat)(g:MS):MS:=fun r=>(frZ i r).bind fun r1=>(g r1).bind (unF i)
theorem R.swap{K:Fg}{O0:Addr->Prop}{H:Hp}{r:En}{σ:St}{i:Nat}{l:List D}{y:Sl}(h:R K O0 H r σ)(hy:(r[i]?=some (.o l)/\y=.z l)\/(r[i]?=some (.z l)/\y=.o l)):R K O0 H (r.set i y) σ/\∀b,wV (r.set i y) σ b↔wV r σ b:=by
 have eo:(r[i]?).bind Sl.own=some l:=by rcases hy with⟨e,_⟩|⟨e,_⟩<;>rw[e]<;>rfl
 have yo:y.own=some l:=by rcases hy with⟨_,e⟩|⟨_,e⟩<;>rw[e]<;>rfl
 have hi:i<r.length:=by
  rcases hy with⟨e,_⟩|⟨e,_⟩<;>exact(List.getElem?_eq_some_iff.mp e).1
 have own:∀j,((r.set i y)[j]?).bind Sl.own=(r[j]?).bind Sl.own:=fun j=>by
  by_cases hj:i=j
  ·subst hj;rw[zO hi,eo];exact yo
  ·rw[zF hj]
 have lss:∀j,((r.set i y)[j]?).bind Sl.ls=(r[j]?).bind Sl.ls:=fun j=>by
  by_cases hj:i=j
  ·subst hj;rw[zO hi];rcases hy with⟨e,e2⟩|⟨e,e2⟩<;>rw[e,e2]<;>rfl
  ·rw[zF hj]
 have at_:∀b,wV (r.set i y) σ b↔wV r σ b:=fun b=>⟨fun⟨j,m,e,q⟩=>⟨j,m,by rw[<-own j];exact e,q⟩,fun⟨j,m,e,q⟩=>⟨j,m,by rw[own j];exact e,q⟩⟩
 have ow:∀b,Ow O0 (r.set i y) σ b->H b≠none->Ow O0 r σ b:=fun b z _=>z.imp id (at_ b).mp
 refine⟨⟨by simp[h.len],fun j d ej=>?_,fun j m ej=>?_,fun j k b m n e4 e5=>?_,h.o0,fun j m b ej q=>?_,fun j m b ej q=>?_,fun j ks m ej=>?_⟩,at_⟩
 ·have hj:i≠j:=fun z=>by subst z;rw[zO hi] at ej;cases ej;cases yo
  rw[zF hj] at ej
  obtain⟨v,q1,q2⟩:=h.val j d ej
  exact⟨v,q1,Is.mono (Same.kp (Same.refl H) _) h.ol ow _ _ q2⟩
 ·rw[lss j] at ej
  obtain⟨b,ys,q1,q2,q3⟩:=h.own j m ej
  exact⟨b,ys,q1,q2,IsL.mono (Same.kp (Same.refl H) _) h.ol ow _ _ q3⟩
 ·rw[own j] at e4
  rw[own k] at e5
  exact h.apart j k b m n e4 e5
 ·by_cases hj:i=j
  ·subst hj
   rcases hy with⟨e,_⟩|⟨e,_⟩
   ·exact h.loc i l b (.inl e) q
   ·exact h.loc i l b (.inr (.inl e)) q
  ·rw[zF hj] at ej
   exact h.loc j m b ej q
 ·by_cases hj:i=j
  ·subst hj
   rw[zO hi] at ej
   rcases hy with⟨_,e⟩|⟨_,e⟩<;>rw[e] at ej<;>cases ej
  ·rw[zF hj] at ej
   exact h.par j m b ej q
 ·have hj:i≠j:=fun z=>by
   subst z
   rw[zO hi] at ej
   rcases hy with⟨_,e⟩|⟨_,e⟩<;>rw[e] at ej<;>cases ej
  rw[zF hj] at ej
  obtain⟨b,kvs,q1,q2,q4,q3⟩:=h.dct j ks m ej
  exact⟨b,kvs,q1,q2,q4,IsL.mono (Same.kp (Same.refl H) _) h.ol ow _ _ q3⟩
theorem oH{i:Nat}{r r1:En}(e:frZ i r=some r1):∃l,r[i]?=some (.o l)/\r1=r.set i (.z l):=by
 unfold frZ at e
 split at e
 ·rename_i l h;cases e;exact⟨l,h,rfl⟩
 ·cases e
theorem YU{i:Nat}{r r1:En}(e:unZ i r=some r1):∃l,r[i]?=some (.z l)/\r1=r.set i (.o l):=by
 unfold unZ at e
 split at e
 ·rename_i l h;cases e;exact⟨l,h,rfl⟩
 ·cases e
theorem Kp.froze{K:Fg}{O0:Addr->Prop}{H H':Hp}{r r1 r2 r3:En}{σ σ2:St}{i:Nat}(hR:R K O0 H r σ)(e:frZ i r=some r1)(k:Kp H r1 σ H' r2 σ2)(R2:R K O0 H' r2 σ2)(e':unZ i r2=some r3):R K O0 H' r3 σ2/\Kp H r σ H' r3 σ2:=by
 obtain⟨l,el,rfl⟩:=oH e
 obtain⟨l2,el2,rfl⟩:=YU e'
 have hi:i<r.length:=(List.getElem?_eq_some_iff.mp el).1
 have hi2:i<r2.length:=(List.getElem?_eq_some_iff.mp el2).1
 obtain⟨R1,at1⟩:=hR.swap (y:=.z l) (.inl ⟨el,rfl⟩)
 obtain⟨R3,at3⟩:=R2.swap (y:=.o l2) (.inr ⟨el2,rfl⟩)
 obtain⟨q1,q2⟩:=k.fz i l (zO hi)
 have m1:∀b,MutAt (r.set i (.z l)) σ b->MutAt r σ b:=fun b ⟨j,m,ej,qj⟩=>by
  have hj:i≠j:=fun z=>by subst z;rw[zO hi] at ej;cases ej
  rw[zF hj] at ej;exact⟨j,m,ej,qj⟩
 refine⟨R3,⟨fun b o eb n=>k.keep b o eb fun z=>n (m1 b z),k.live,k.lst,fun b z=>(k.new b ((at3 b).mp z)).imp (at1 b).mp id,fun b z=>?_,fun j m ej=>?_,fun j m ej=>?_⟩⟩
 ·obtain⟨j,m,ej,qj⟩:=z
  by_cases hj:i=j
  ·subst hj
   exact .inl ⟨i,l,by rw[el];rfl,by rw[<-q2];exact qj⟩
  ·rw[zF hj] at ej
   exact(k.mnew b ⟨j,m,ej,qj⟩).imp (m1 b) id
 ·have hj:i≠j:=fun z=>by subst z;rw[el] at ej;cases ej
  obtain⟨⟨m',e1⟩,e2⟩:=k.par j m (by rw[zF hj];exact ej)
  exact⟨⟨m',by rw[zF hj];exact e1⟩,e2⟩
 ·have hj:i≠j:=fun z=>by subst z;rw[el] at ej;cases ej
  obtain⟨e1,e2⟩:=k.fz j m (by rw[zF hj];exact ej)
  exact⟨by rw[zF hj];exact e1,e2⟩
theorem zJ2(i:Nat){X:Cx}{st:Stmt}{g:MS}(h:DS X st g):DS X st (sZ i g):=by
 refine PS.conseq h fun Dn σ H hq=>?_
 obtain⟨O0,r,fl,hR,e,q⟩:=hq
 obtain⟨r1,e1,e2⟩:=bind_some e
 obtain⟨f1,e3,e4⟩:=bind_some e2
 have R1:R X.K O0 H r1 σ:=by
  obtain⟨l,el,rfl⟩:=oH e1
  exact(hR.swap (y:=.z l) (.inl ⟨el,rfl⟩)).1
 refine⟨O0,r1,f1,R1,e3,?_⟩
 cases f1 with
 |nx r2=>
  obtain⟨r3,e5,rfl⟩:=map_some e4
  exact fun σ' H' R' k'=>let ⟨R3,k3⟩:=Kp.froze hR e1 k' R' e5;q σ' H' R3 k3
 |bk r2=>
  obtain⟨r3,e5,rfl⟩:=map_some e4
  exact fun σ' H' R' k'=>let ⟨R3,k3⟩:=Kp.froze hR e1 k' R' e5;q σ' H' R3 k3
 |ct r2=>
  obtain⟨r3,e5,rfl⟩:=map_some e4
  exact fun σ' H' R' k'=>let ⟨R3,k3⟩:=Kp.froze hR e1 k' R' e5;q σ' H' R3 k3
 |rt d r2=>
  obtain⟨r3,e5,rfl⟩:=map_some e4
  exact fun v σ' H' R' k' iv=>let ⟨R3,k3⟩:=Kp.froze hR e1 k' R' e5;q v σ' H' R3 k3 iv
 |rf l r2=>cases e4
 |rg ks l r2=>cases e4
section
variable{X:Cx}{a b:Expr}{f g:ME}{p pos:Pos}{elts:List Expr}{k:Nat}{tp:Pos}
noncomputable def lK(K:Fg)(f:ML):TE:=fun σ H Q=>∃O0 r l,R K O0 H r σ/\f r=some l/\∀u xs H',Same H H'->(∀H1,m9 (MutAt r σ) H' H1->SqL K H1 u xs)->IsL K (Ow O0 r σ) H' l xs->Q (.ref u) H'
noncomputable def DK(X:Cx)(e:Expr)(f:ML):Prop:=PE X e (lK X.K f)
noncomputable def mZs(i:Nat):ML:=fun r=>match r[i]? with
 |some (.z l)=>some l
 |_=>none
theorem zJ3(i:Nat){x:Str}(h:PE X (.Name x pos) (jX i)):DK X (.Name x pos) (mZs i):=by
 refine PE.conseq h fun σ H Q hq=>?_
 obtain⟨O0,r,l,hR,e,q⟩:=hq
 have e':r[i]?=some (.z l):=by
  unfold mZs at e
  split at e
  ·rename_i l' h;cases e;exact h
  ·cases e
 obtain⟨u,xs,e1,e2,e3⟩:=hR.own i l (by rw[e'];rfl)
 refine⟨.ref u,e1,q u xs H (Same.refl H) (fun H1 k1=>SqL.of (k1 _ _ e2 fun⟨j,m,ej,qj⟩=>?_)) e3⟩
 obtain⟨y,ey,ym⟩:=bind_some ej
 have:=hR.apart i j u l m (by rw[e'];rfl) (by rw[ey];exact j7 ym) e1 qj
 subst this
 rw[e'] at ey;cases ey;cases ym
theorem noF{H:Hp}:jB (fun _=>False) H:=fun _ z=>z.elim
end
section
variable{w:World}{prog:Program}{E:Value->Shared->Prop}{A:Around}
theorem zGD{it l:Addr}{ys:Array Value}(hne:l≠it):∀(n i:Nat) (s:Shared) (Q:List Value->Shared->Prop),s.heap.IsListIter it l i->s.heap.IsList l ys->i+n<=ys.size ->
  (∀g,g.IsListIter it l (i+n)->Heap.SameBut it s.heap g->Q ((ys.toList.drop i).take n) { s with heap:=g })->wpAny (model prog w) A (draw (.ref it) n) Q E s
 |0,i,s,Q,h1,_,_,h=>by
  show wpAny _ _ (pure []) Q E s;exact wpAny_pure (by simpa using h s.heap h1 (Heap.SameBut.refl ..))
 |n+1,i,s,Q,h1,h2,h3,h=>by
  have hl:i<ys.size:=by omega
  show wpAny _ _ (pyNext (.ref it) >>= _) Q E s;refine wpAny_bind (wpAny_pyNext_list_item h1 h2 (x:=ys[i]) (by simp[hl]) fun g1 k1 t1=>?_)
  refine wpAny_bind (wpAny_holding (zGD hne n (i+1) _ _ k1 (h2.extBut t1.extBut hne) (by omega) fun g2 k2 t2=>wpAny_pure (?_)))
  have hd:ys.toList.drop i=ys[i]::ys.toList.drop (i+1):=by simp[List.drop_eq_getElem_cons,hl]
  have:=h g2 (by rw[show i+(n+1)=i+1+n by omega];exact k2) (t1.trans t2)
  rw[hd,List.take_succ_cons] at this;exact this
theorem Q1{l:Addr}{ys:Array Value}{s:Shared}{Q:List Value->Shared->Prop}(hh:A.handled=none)(h2:s.heap.IsList l ys)(h:∀g,Heap.ExtBut s.heap.objs.size s.heap g->Q ys.toList { s with heap:=g }):wpAny (model prog w) A (unpackItems (.ref l) ys.size none) Q E s:=by
 have hlt:l≠s.heap.objs.size:=by obtain⟨o,e,_⟩:=h2;exact Nat.ne_of_lt (Heap.lt_size e)
 unfold unpackItems;refine wpAny_bind (?_);unfold notIterableAtAll
 refine wpAny_bind (wpAny_specialOf h2.typeIs F.slot_list_iter.lookup (wpAny_pure (?_)));simp only[Bool.false_eq_true,if_false];refine wpAny_bind (wpAny_holding (wpAny_pyIter_list h2 (?_)))
 refine wpAny_bind (wpAny_holding (zGD hlt ys.size 0 _ _ ⟨_,Heap.get?_push_size _ rfl,rfl,rfl⟩ (h2.push _) (by omega) fun g1 k1 t1=>?_))
 have ha:List.take ys.size (List.drop 0 ys.toList)=ys.toList:=by rw[List.drop_zero];exact List.take_of_length_le (by simp)
 rw[ha,if_neg (by simp)]
 refine wpAny_bind (wpAny_holding (wpAny_pyNext_list_end hh k1 ((h2.push _).extBut t1.extBut hlt) (by simp) fun g2 t2=>?_));simp only[Option.isSome_none,Bool.false_eq_true,if_false]
 exact wpAny_pure (h g2 fun b o hb e=>t2 b o hb (t1.extBut b o hb (Heap.get?_push_of_some _ e)))
end
section
variable{X:Cx}{pos:Pos}{es:List Expr}{k n:Nat}
theorem zEI{t:TGs}(hc:X.calm=true)(h:PGs X es t)(hn:(assignEach es X.env).length=n:=by rfl)(hst:(assignEach es X.env).findIdx? (·.1)=none:=by rfl):PG X (.Tuple es k pos) (fun v σ H Q=>∃a xs,v=.ref a/\(SqT X.K H a xs\/SqL X.K H a xs)/\xs.length=n/\t xs σ H Q):=by
 intro pins s σ H v u Q I r hw
 obtain⟨a,xs,e1,hq,hl,hw⟩:=hw
 subst e1
 cases r
 rcases hq with hq|hq
 ·exact zEH hc h hn hst pins s σ H (.ref a) (.ref a) Q I rfl ⟨a,xs,rfl,hq,hl,hw⟩
 ·obtain⟨its,rv,pl,hz⟩:=I.list hq
  rw[assign_Tuple]
  refine wpAny_bind (wpAny_standAt ?_)
  unfold unpack
  rw[hst]
  have hsz:(assignEach es X.env).length=its.toArray.size:=by rw[hn,List.size_toArray,<-rv.length];exact hl.symm
  rw[hsz]
  refine wpAny_bind (wpAny_holding (Q1 (I.ok.hd hc) pl.isList fun g hx=>?_))
  have I1:Inv X pins σ H { s with heap:=g }:=I.kept (t':=s.toks) fun b o e=>hx b o (Nat.ne_of_lt (Heap.lt_size e)) e
  exact h pins _ σ H xs _ Q I1 (by simpa using rv) hw
noncomputable def uS(n:Nat)(bs:List D->En->Option En):D->En->Option En:=fun d r=>match d with
 |.tup l=>if l.length=n then bs l r else none
 |.lst l=>if l.length=n then bs l r else none
 |_=>none
theorem WV{bs:List D->En->Option En}(hc:X.calm=true)(h:DGs X es bs)(hn:(assignEach es X.env).length=n:=by rfl)(hst:(assignEach es X.env).findIdx? (·.1)=none:=by rfl):DG X (.Tuple es k pos) (uS n bs):=by
 refine PG.conseq (zEI hc h hn hst) fun v σ H Q h=>?_
 obtain⟨O0,r,d,r',hR,iv,e,q⟩:=h
 cases d<;>first|(simp only[uS,reduceCtorEq] at e;done)|skip
 ·rename_i l
  rw[Is.tup_iff] at iv
  obtain⟨a,xs,rfl,hs,il⟩:=iv
  simp only[uS] at e
  split at e
  ·rename_i hl
   exact⟨a,xs,rfl,.inl hs,by rw[<-il.length];exact hl,O0,r,l,r',hR,il,e,q⟩
  ·cases e
 ·rename_i l
  rw[Is.lst_iff] at iv
  obtain⟨a,xs,rfl,hs,il⟩:=iv
  simp only[uS] at e
  split at e
  ·rename_i hl
   exact⟨a,xs,rfl,.inr hs.sq,by rw[<-il.length];exact hl,O0,r,l,r',hR,il,e,q⟩
  ·cases e
end
set_option maxRecDepth 9000 in
theorem zJ0(l:Addr)(xs:Array Value)(n:Nat)(b:Addr)(cl:Value)(dd:Option Addr)(ys:Array Value)(n2:Nat)(sl:Array (Option Value))(hcl:cl=.type "tuple")(h0:¬(!xs.isEmpty && Builtin.List.listTooLong (xs.size+ys.size))=true)(h1:xs.size<=sizeLine)(h2:xs.size+ys.size<=sizeLine+1):Meets (Builtin.«list.extend» ⟨[.ref l,.ref b],[]⟩) (fun _ R s=>s.heap.get? l=some { cls:=.type "list",dict:=none,data:=.seq xs n,slots:=#[] }/\s.heap.get? b=some { cls:=cl,dict:=dd,data:=.seq ys n2,slots:=sl }/\R (.ok (.ret Value.none)) { s with heap:=s.heap.update l (Obj.mapSeq fun x=>x++ys),toks:=s.toks }):=
 .of_wp fun prog w A R s h=>by
  subst hcl
  obtain⟨hp,g,d,tk,os⟩:=s;obtain⟨hl,hb,h⟩:=h;have f1:=AutoSeq1.idx_int;have f2:=AutoSeq1.sub_tuple_tuple;have f3:=AutoSeq1.sub_list_list;have f4:=AutoSeq1.sub_tuple_list;have f5:=AutoSeq1.sub_list_tuple
  have hz:(xs++ys).size<=sizeLine+1:=by rw[Array.size_append];exact h2
  wp_walk using (wpAny_updateSeq hl rfl (hz:=h1) (_hz':=hz)),wpAny_loadPart' hl,wpAny_loadPart' hb;exact⟨_,rfl,h⟩
set_option maxRecDepth 9000 in
theorem zJ1(l:Addr)(xs:Array Value)(n:Nat)(b:Addr)(cl:Value)(dd:Option Addr)(ys:Array Value)(n2:Nat)(sl:Array (Option Value))(hcl:cl=.type "list")(h0:¬(!xs.isEmpty && Builtin.List.listTooLong (xs.size+ys.size))=true)(h1:xs.size<=sizeLine)(h2:xs.size+ys.size<=sizeLine+1):Meets (Builtin.«list.extend» ⟨[.ref l,.ref b],[]⟩) (fun _ R s=>s.heap.get? l=some { cls:=.type "list",dict:=none,data:=.seq xs n,slots:=#[] }/\s.heap.get? b=some { cls:=cl,dict:=dd,data:=.seq ys n2,slots:=sl }/\R (.ok (.ret Value.none)) { s with heap:=s.heap.update l (Obj.mapSeq fun x=>x++ys),toks:=s.toks }):=
 .of_wp fun prog w A R s h=>by
  subst hcl
  obtain⟨hp,g,d,tk,os⟩:=s;obtain⟨hl,hb,h⟩:=h;have f1:=AutoSeq1.idx_int;have f2:=AutoSeq1.sub_tuple_tuple;have f3:=AutoSeq1.sub_list_list;have f4:=AutoSeq1.sub_tuple_list;have f5:=AutoSeq1.sub_list_tuple
  have hz:(xs++ys).size<=sizeLine+1:=by rw[Array.size_append];exact h2
  wp_walk using (wpAny_updateSeq hl rfl (hz:=h1) (_hz':=hz)),wpAny_loadPart' hl,wpAny_loadPart' hb;exact⟨_,rfl,h⟩
section
variable{X:Cx}
noncomputable def zHE(K:Fg):V->List V->Hp->VK->Prop:=fun x vs H Q=>∃l b xs zs,x=.ref l/\vs=[.ref b]/\H l=some (.lst xs)/\(SqL K H b zs\/SqT K H b zs)/\xs.length+zs.length<=sizeLine/\Q .non (upd H l (.lst (xs++zs)))
theorem zAW:MtR X "list.extend" (zHE X.K):=by
 intro pins s σ H x vs v us Q I rx rv h
 obtain⟨l,b,xs,zs,rfl,rfl,hH,hB,hz,q⟩:=h
 cases rx
 obtain⟨u,rfl,ru⟩:=rv.one
 cases ru
 obtain⟨z,its,n,r,hl,e⟩:=I.lstM hH
 have fin:∀(its2:List Value),Vals zs its2->¬(!its.toArray.isEmpty && Builtin.List.listTooLong (its.toArray.size+its2.toArray.size))=true/\its.toArray.size<=sizeLine/\its.toArray.size+its2.toArray.size<=sizeLine+1 /\
   EP X pins σ Q Value.none { s with heap:=s.heap.update l (Obj.mapSeq fun x=>x++its2.toArray),toks:=s.toks }:=fun its2 r2=>by
  have hl2:=r2.length
  have hsz:its.toArray.size+its2.toArray.size<=sizeLine:=by rw[List.size_toArray,List.size_toArray];omega
  refine⟨by rw[X2 hsz,Bool.and_false];exact Bool.false_ne_true,by rw[List.size_toArray];omega,by omega,.non,_,I.lset (its':=its++its2) hH e (by simp) (r.append r2) ?_,rfl,q⟩
  rw[List.length_append];omega
 rcases hB with hB|hB
 ·obtain⟨its2,r2,⟨⟨c2,d2,dt2,sl2⟩,n2,g2,hc,hd,hs⟩,z2⟩:=I.list hB
  simp only at hc hd hs
  subst hs
  obtain⟨f1,f2,f3,f4⟩:=fin its2 r2
  exact call_meets F.slot_list_extend ⟨_,e,rfl⟩ F.entry_list_extend (F.args_list_extend_2 _ _) (zJ1 l its.toArray n b _ _ its2.toArray n2 _ hc f1 f2 f3) ⟨e,g2,f4⟩
 ·obtain⟨its2,r2,⟨⟨c2,d2,dt2,sl2⟩,g2,hc,n2,hs⟩,z2⟩:=I.tuple hB
  simp only at hc hs
  subst hs
  obtain⟨f1,f2,f3,f4⟩:=fin its2 r2
  exact call_meets F.slot_list_extend ⟨_,e,rfl⟩ F.entry_list_extend (F.args_list_extend_2 _ _) (zJ0 l its.toArray n b _ _ its2.toArray n2 _ hc f1 f2 f3) ⟨e,g2,f4⟩
variable{apos cpos pn:Pos}{e:Expr}{f:ME}
theorem gG(i:Nat){x:Str}(h:PE X (.Name x pn) (jX i))(he:DE X e f)(hline:(apos.endLine == cpos.line)=true:=by rfl)(hbase:attributeBase (.Name x pn) "extend" X.env (eval (.Name x pn) X.env)=eval (.Name x pn) X.env:=by rfl)(hfew:((backTo cpos (starEach [e] X.env)).all (fun x=>!x.1) && (backToKw cpos (keywordEach [] X.env)).all (fun x=>x.1.isSome) && decide ([e].length+([]:List Keyword).length+(if ([]:List Keyword).isEmpty then 0 else 1)<30))=true:=by rfl)(hs:starEach [e] X.env=(false,eval e X.env)::starEach [] X.env:=by rfl):DX X (.Call (.Attribute (.Name x pn) "extend" apos) [e] [] cpos) (zGO i f):=by
 refine PE.conseq (p8 PySem.F.plainAttrs_list PySem.F.slot_list_extend PySem.F.type_list_extend zAW h (zZ he xA hs) hbase hfew hline hs) fun σ H Q hq=>?_
 obtain⟨O0,r,d',r',hR,e,q⟩:=hq
 obtain⟨d,e1,e⟩:=bind_some e
 obtain⟨m,em,e⟩:=bind_some e
 obtain⟨l,e2,e⟩:=bind_some e
 split at e
 ·rename_i hl
  obtain⟨r2,e3,e4⟩:=map_some e
  cases e4
  obtain⟨a,xs,q1,q2,q3⟩:=rK hR e2
  refine⟨.ref a,q1,.inl ⟨rfl,xs,SqL.of q2⟩,O0,r,d,hR,e1,fun v H1 s1 i1=>?_⟩
  have R1:=hR.same s1
  have key:∃b zs,v=.ref b/\(SqL X.K H1 b zs\/SqT X.K H1 b zs)/\IsL X.K (Ow O0 r σ) H1 m zs:=by
   cases d<;>first|(cases em;done)|skip
   ·cases em;rw[Is.tup_iff] at i1;obtain⟨b,zs,rfl,h1,h2⟩:=i1;exact⟨b,zs,rfl,.inr h1,h2⟩
   ·cases em;rw[Is.lst_iff] at i1;obtain⟨b,zs,rfl,h1,h2⟩:=i1;exact⟨b,zs,rfl,.inl h1.sq,h2⟩
  obtain⟨b,zs,rfl,hb,il⟩:=key
  obtain⟨R2,k2⟩:=R1.upd (xs':=xs++zs) e3 q1 (s1 _ _ q2) ((q3.same s1 hR.ol).append il)
  exact⟨a,b,xs,zs,rfl,rfl,s1 _ _ q2,hb,by rw[<-q3.length,<-il.length];exact hl,q _ _ R2 ((Kp.of_same r σ s1).trans k2) (by rw[Is.non_iff])⟩
 ·cases e
end
noncomputable def zBZ:List V->List V->Bool
 |[],[]=>true
 |x::xs,y::ys=>eqV x y && zBZ xs ys
 |_,_=>false
noncomputable def zGA:List D->List D->Bool
 |[],[]=>true
 |x::xs,y::ys=>eqF x y && zGA xs ys
 |_,_=>false
noncomputable def zB0(xs ys:List V)(j:Nat):Bool:=match xs[j]?,ys[j]? with
 |some x,some y=>eqV x y
 |_,_=>false
theorem vZ:∀(xs ys:List V),xs.length=ys.length->(List.range xs.length).all (zB0 xs ys)=zBZ xs ys
 |[],[],_=>rfl
 |x::xs,y::ys,h=>by
  rw[List.length_cons,List.range_succ_eq_map,List.all_cons,List.all_map,zBZ,<-vZ xs ys (by simpa using h)]
  rfl
 |[],y::ys,h=>by simp at h
 |x::xs,[],h=>by simp at h
theorem cH:∀(xs ys:List V),xs.length≠ys.length->zBZ xs ys=false
 |[],[],h=>by simp at h
 |x::xs,y::ys,h=>by rw[zBZ,cH xs ys (by simpa using h),Bool.and_false]
 |[],y::ys,h=>rfl
 |x::xs,[],h=>rfl
theorem cG{K:Fg}{O:Addr->Prop}{H:Hp}:∀{l:List D} {xs:List V},IsL K O H l xs->l.all bL=true->xs.all bK=true
 |[],xs,h,_=>by unfold IsL at h;subst h;rfl
 |d::l,xs,h,f=>by
  rw[List.all_cons,Bool.and_eq_true] at f
  unfold IsL at h;obtain⟨v,r,rfl,h1,h2⟩:=h
  rw[List.all_cons,zBU h1 f.1,cG h2 f.2];rfl
theorem Z1{K:Fg}{O:Addr->Prop}{H:Hp}:∀{l m:List D} {xs ys:List V},IsL K O H l xs->IsL K O H m ys->l.all bL=true->m.all bL=true->zBZ xs ys=zGA l m
 |[],m,xs,ys,h,h',_,_=>by
  unfold IsL at h;subst h
  cases m with
  |nil=>unfold IsL at h';subst h';rfl
  |cons e m=>unfold IsL at h';obtain⟨v,r,rfl,_,_⟩:=h';rfl
 |d::l,m,xs,ys,h,h',f,f'=>by
  unfold IsL at h;obtain⟨v,r,rfl,h1,h2⟩:=h
  cases m with
  |nil=>unfold IsL at h';subst h';rfl
  |cons e m=>
   rw[List.all_cons,Bool.and_eq_true] at f f'
   unfold IsL at h';obtain⟨v',r',rfl,h1',h2'⟩:=h'
   rw[zBZ,zGA,Z1 h2 h2' f.2 f'.2,zFH h1 f.1 h1' f'.1]
theorem Z0{K:Fg}{O:Addr->Prop}{H:Hp}:∀{l m:List D} {xs ys:List V},IsL K O H l xs->IsL K O H m ys->l.all bL=true->m.all bL=true->xs.all bK=true/\ys.all bK=true/\zBZ xs ys=zGA l m:=fun h h' f f'=>⟨cG h f,cG h' f',Z1 h h' f f'⟩
section
variable{X:Cx}
noncomputable def zHG(K:Fg)(neg:Bool):R2:=fun x y H Q=>∃p q xs ys,x=.ref p/\y=.ref q/\SqL K H p xs/\SqL K H q ys/\xs.all bK=true/\ys.all bK=true/\Q (.bl (if neg then !zBZ xs ys else zBZ xs ys)) H
theorem YO{xs:List V}{j:Nat}{x:V}(h:xs.all bK=true)(e:xs[j]?=some x):bK x=true:=List.all_eq_true.mp h x (List.mem_of_getElem? e)
theorem tT{xs:List V}{its:List Value}(r:Vals xs its){j:Nat}(h:j<its.toArray.size):∃x,xs[j]?=some x/\RelV x its.toArray[j]:=by
 have hj:j<xs.length:=by rw[r.length];simpa using h
 obtain⟨u,e,q⟩:=r.get (i:=j) (x:=xs[j]) (by simp[hj])
 refine⟨xs[j],by simp[hj],?_⟩
 have:its.toArray[j]=u:=by
  have h':j<its.length:=by simpa using h
  simp only[List.getElem_toArray]
  rw[List.getElem?_eq_getElem h'] at e
  exact Option.some.inj e
 rw[this];exact q
theorem oC{A:Around}{s:Shared}{xs ys:List V}{its its2:List Value}(r:Vals xs its)(r2:Vals ys its2)(fx:xs.all bK=true)(fy:ys.all bK=true):∀j (h1:j<its.toArray.size) (h2:j<its2.toArray.size),SeqAt.EqAt A s its.toArray[j] its2.toArray[j] (zB0 xs ys j):=by
 intro j h1 h2
 obtain⟨x,e1,q1⟩:=tT r h1
 obtain⟨y,e2,q2⟩:=tT r2 h2
 have:zB0 xs ys j=eqV x y:=by unfold zB0;rw[e1,e2]
 rw[this]
 exact zFI q1 q2 (YO fx e1) (YO fy e2)
theorem zES(hu:X.A.units<cLine):OpR X (compareOp .Eq) (zHG X.K false):=by
 intro pins s σ H x y v u Q I rx ry h
 obtain⟨p,q',xs,ys,rfl,rfl,h1,h2,fx,fy,q⟩:=h
 cases rx;cases ry
 obtain⟨its,r,pl,hz⟩:=I.list h1
 obtain⟨its2,r2,pl2,hz2⟩:=I.list h2
 have n1:=r.length
 have n2:=r2.length
 by_cases hl:xs.length=ys.length
 ·refine SeqAt.eq_listAt pl.isList pl2.isList (by simp only[List.size_toArray];omega) hu (oC r r2 fx fy) (yJ I q ?_)
  rw[List.size_toArray,<-n1,vZ xs ys hl];rfl
 ·refine SeqAt.eq_list_lengthsAt pl.isList pl2.isList (by simp only[List.size_toArray,bne_iff_ne];omega) hu (yJ I q ?_)
  rw[cH xs ys hl];rfl
theorem zEQ(hu:X.A.units<cLine):OpR X (compareOp .NotEq) (zHG X.K true):=by
 intro pins s σ H x y v u Q I rx ry h
 obtain⟨p,q',xs,ys,rfl,rfl,h1,h2,fx,fy,q⟩:=h
 cases rx;cases ry
 obtain⟨its,r,pl,hz⟩:=I.list h1
 obtain⟨its2,r2,pl2,hz2⟩:=I.list h2
 have n1:=r.length
 have n2:=r2.length
 by_cases hl:xs.length=ys.length
 ·refine SeqAt.RcNeAt.lists pl.isList pl2.isList (by simp only[List.size_toArray];omega) hu (oC r r2 fx fy) _ _ _ _ (yJ I q ?_)
  rw[List.size_toArray,<-n1,vZ xs ys hl];rfl
 ·refine SeqAt.RcNeAt.lists_lengths pl.isList pl2.isList (by simp only[List.size_toArray,bne_iff_ne];omega) hu _ _ _ _ (yJ I q ?_)
  rw[cH xs ys hl];rfl
noncomputable def eqA(x y:D):Option D:=match x,y with
 |.lst l,.lst m=>if l.all bL=true/\m.all bL=true then some (.bl (zGA l m)) else none
 |x,y=>eqD x y
noncomputable def neA(x y:D):Option D:=match x,y with
 |.lst l,.lst m=>if l.all bL=true/\m.all bL=true then some (.bl (!zGA l m)) else none
 |x,y=>neD x y
noncomputable def zI6(K:Fg):R2:=fun x y H Q=>zHG K false x y H Q\/rEq x y H Q
noncomputable def zI1(K:Fg):R2:=fun x y H Q=>zHG K true x y H Q\/rNe x y H Q
theorem wJ(hu:X.A.units<cLine):OpR X (compareOp .Eq) (zI6 X.K):=(zES hu).or zHN
theorem zAE(hu:X.A.units<cLine):OpR X (compareOp .NotEq) (zI1 X.K):=(zEQ hu).or zHL
theorem wK{K:Fg}:OpD K (zI6 K) eqA:=by
 intro O H dx dy d vx vy Q ol ix iy e q
 unfold eqA at e
 split at e
 ·rename_i l m
  split at e
  ·rename_i hf
   cases e
   rw[Is.lst_iff] at ix iy
   obtain⟨a,xs,rfl,hs,il⟩:=ix
   obtain⟨b,ys,rfl,hs',il'⟩:=iy
   obtain⟨f1,f2,f3⟩:=Z0 il il' hf.1 hf.2
   exact .inl ⟨a,b,xs,ys,rfl,rfl,hs.sq,hs'.sq,f1,f2,q _ H (Same.refl H) (by rw[Is.bl_iff,f3];rfl)⟩
  ·cases e
 ·exact .inr (zHP O H dx dy d vx vy Q ol ix iy e q)
theorem zAM{K:Fg}:OpD K (zI1 K) neA:=by
 intro O H dx dy d vx vy Q ol ix iy e q
 unfold neA at e
 split at e
 ·rename_i l m
  split at e
  ·rename_i hf
   cases e
   rw[Is.lst_iff] at ix iy
   obtain⟨a,xs,rfl,hs,il⟩:=ix
   obtain⟨b,ys,rfl,hs',il'⟩:=iy
   obtain⟨f1,f2,f3⟩:=Z0 il il' hf.1 hf.2
   exact .inl ⟨a,b,xs,ys,rfl,rfl,hs.sq,hs'.sq,f1,f2,q _ H (Same.refl H) (by rw[Is.bl_iff,f3];rfl)⟩
  ·cases e
 ·exact .inr (zHO O H dx dy d vx vy Q ol ix iy e q)
end
section
variable{X:Cx}{a:Expr}{es:List Expr}{f:ME}{fs:ML}{i:Nat}{pos p pn:Pos}
theorem ZB{r r':En}{σ:St}{l':List D}{b:Addr}(e:XH i l' r=some r')(h:wV r' σ b):wV r σ b:=by
 obtain⟨x,y,ex,rfl,yo,ym,⟨l0,xm⟩,_⟩:=v4 e
 obtain⟨j,m,ej,qj⟩:=h
 by_cases hj:j=i
 ·subst hj;exact⟨j,l0,by rw[ex];exact j7 xm,qj⟩
 ·rw[zF (fun z=>hj z.symm)] at ej;exact⟨j,m,ej,qj⟩
end
section
variable{es:List Expr}{env:Env}{p:Pos}
theorem yC{c k}:starEach (.Constant c k p::es) env=(false,eval (.Constant c k p) env)::starEach es env:=rfl
theorem zQ{x}:starEach (.Name x p::es) env=(false,eval (.Name x p) env)::starEach es env:=rfl
theorem nI{l k}:starEach (.Tuple l k p::es) env=(false,eval (.Tuple l k p) env)::starEach es env:=rfl
theorem vT{f l k}:starEach (.Call f l k p::es) env=(false,eval (.Call f l k p) env)::starEach es env:=rfl
theorem wA{a b}:starEach (.Subscript a b p::es) env=(false,eval (.Subscript a b p) env)::starEach es env:=rfl
theorem vU{a o b}:starEach (.BinOp a o b p::es) env=(false,eval (.BinOp a o b p) env)::starEach es env:=rfl
end
noncomputable def zGP:List Expr->Option (List (List Nat))
 |[]=>some []
 |.Constant (.str x) _ _::es=>(zGP es).map (x.cps.toList::·)
 |_=>none
noncomputable def zDA(ss:List (List Nat)):ML:=fun _=>some (ss.map D.str)
theorem oQ{X:Cx}:∀{es:List Expr} {ss:List (List Nat)},zGP es=some ss->DA X es (zDA ss)
 |[],ss,h=>by
  cases h;exact zM
 |e::es,ss,h=>by
  cases e<;>first|(simp only[zGP,reduceCtorEq] at h;done)|skip
  rename_i c j p
  cases c<;>first|(simp only[zGP,reduceCtorEq] at h;done)|skip
  rename_i x
  simp only[zGP] at h
  obtain⟨ss',e1,rfl⟩:=map_some h
  exact zB (f:=mC (.str x.cps.toList)) (fs:=zDA ss') (yL rfl) (oQ e1) (hs:=yC)
section
variable{X:Cx}{pos:Pos}{a b tg:Expr}{f g:ME}
noncomputable def Y9:MS:=fun _=>none
theorem oN{st:Stmt}:DS X st Y9:=fun _ _ _ _ _ _ q=>by
 obtain⟨O0,r,fl,hR,e,q⟩:=q
 cases e
theorem gP{x:Str}{i:Int}(h:∃t,X.mg x=some (.int i t))(hg:Gl X x)(hd:(x == ("__debug__" : Str))=false:=by decide):DE X (.Name x pos) (mC (.int i)):=by
 obtain⟨t,h⟩:=h
 exact gQ (ZA (v:=.int i) hg h ⟨t,rfl⟩ hd) fun O H=>by rw[Is.int_iff]
theorem WP{Ps:Params}{x:Str}{tbl:List (List Nat×List Nat)}{pins:List (Addr×Obj)}{σ:St}{H:Hp}{s:Shared}{p:Addr}{es:Array DictEntry}{n:Nat}(I:Inv X pins σ H s)(hl:X.K.lookup p=some ⟨.type "dict",none,.dict es n,#[]⟩)(hk:PySem.W.KeysLit X.w.params es.toList):s.heap.MapOf (strKind X.prog X.w) p (fun k=>findBy Value.isStrOf es k):=PySem.W.mapOf_K (I.mod.kin.keeps I.bk) hl hk
theorem bM(es:Array DictEntry)(k:Str):findBy Value.isStrOf es k=(es.toList.find? fun d=>Value.isStrOf k d.key).map (·.val):=by
 obtain⟨l⟩:=es
 unfold findBy
 rw[List.find?_toArray]
theorem YD{x:Str}{p:Addr}(h:X.mg x=some (.ref p))(hg:Gl X x)(hd:(x == ("__debug__" : Str))=false:=by decide):DE X (.Name x pos) (mC (.ref p)):=
 gQ (ZA (v:=.ref p) hg h rfl hd) fun O H=>by rw[Is.ref_iff]
end
open Builtin.Str
section
variable{X:Cx}{pos pn apos cpos:Pos}{a b e:Expr}{f g:ME}
noncomputable def rT:D->Option D
 |.bl b=>some (.int (if b then 1 else 0))
 |_=>none
theorem tM:CallR X (.type "int") (fun xs H Q=>∃b:Bool,xs=[.bl b]/\Q (.int (if b then 1 else 0)) H):=by
 intro pins s σ H xs us Q I r hq
 obtain⟨y,rfl,q⟩:=hq
 obtain⟨u,rfl,ru⟩:=Vals.one r
 obtain rfl:u=.bool y:=ru
 exact call_int_bool ⟨.int _,H,I.tok _,⟨_,rfl⟩,q⟩
theorem YC{p':Pos}(hg:Gl X "int")(hm:X.mg "int" = none)(ha:DE X a f)(hs:starEach [a] X.env=(false,eval a X.env)::starEach [] X.env:=by rfl):DE X (.Call (.Name "int" p') [a] [] pos) (mUn rT f):=by
 refine PE.conseq (v7 tM hg hm PyProof.Rows.boot_int (zZ ha xA hs) (he:=hs)) fun σ H Q hq=>?_
 obtain⟨O0,r,d,hR,e,q⟩:=hq
 obtain⟨x,e1,e2⟩:=bind_some e
 refine⟨O0,r,x,hR,e1,fun v H1 s1 i1=>?_⟩
 cases x<;>first|(simp only[rT,reduceCtorEq] at e2;done)|skip
 cases e2
 rw[Is.bl_iff] at i1
 exact⟨_,by rw[i1],q _ H1 s1 (by rw[Is.int_iff])⟩
end
end DD
namespace TS
open PySem PyProof.Rows
open PySem PyProof.Rows
open PySem PyProof.Rows
open PySem PyProof.Rows
open PySem PyProof.Rows
open PySem PyProof.Rows
open PySem PyProof.Rows
open PySem PyProof.Rows
open PySem PyProof.Rows
open PySem PyProof.Rows PySem.W
end TS
namespace DD
open PySem PySem.Spec PyProof.Rows L2
noncomputable def ltA:D->D->Option D
 |.int i,.int j=>some (.bl (decide (i<j)))
 |.str s,.str t=>some (.bl (decide (s<t)))
 |_,_=>none
section
variable{X:Cx}
theorem zER:OpR X (compareOp .Lt) (fun x y H Q=>∃i j,x=.str i/\y=.str j/\Q (.bl (decide (i.cps.toList<j.cps.toList))) H):=by
 intro pins s σ H x y v u Q I rx ry hq
 obtain⟨i,j,rfl,rfl,q⟩:=hq
 obtain⟨t,rfl⟩:=rx
 obtain⟨t',rfl⟩:=ry
 exact PySem.P.lt_str ⟨.bl _,H,I,rfl,q⟩
noncomputable def zI2:R2:=fun x y H Q=>rI0 (fun i j=>.bl (decide (i<j))) x y H Q\/∃i j,x=.str i/\y=.str j/\Q (.bl (decide (i.cps.toList<j.cps.toList))) H
theorem mL:OpR X (compareOp .Lt) zI2:=op_lt.or zER
theorem mO{K:Fg}:OpD K zI2 ltA:=by
 intro O H dx dy d vx vy Q ol ix iy e q
 cases dx<;>cases dy<;>first|(simp only[ltA,reduceCtorEq] at e;done)|skip
 ·simp only[ltA,Option.some.injEq] at e
  subst e
  rw[Is.int_iff] at ix iy
  exact .inl ⟨_,_,ix,iy,q _ H (Same.refl H) (by rw[Is.bl_iff])⟩
 ·simp only[ltA,Option.some.injEq] at e
  subst e
  rw[Is.str_iff] at ix iy
  exact .inr ⟨_,_,ix,iy,q _ H (Same.refl H) (by rw[Is.bl_iff])⟩
end
mutual
noncomputable def toP:D->PyData
 |.non=>.none
 |.bl b=>.bool b
 |.int i=>.int i
 |.str s=>.str ⟨s.toArray⟩
 |.tup l=>.tuple (tR l)
 |.lst l=>.list (tR l)
 |.ty _=>.none
 |.ref _=>.none
 |.dct _ _=>.none
noncomputable def tR:List D->List PyData
 |[]=>[]
 |d::l=>toP d::tR l
end
mutual
noncomputable def okD:D->Bool
 |.tup l=>zC7 l
 |.lst l=>zC7 l
 |.ty _=>false
 |.ref _=>false
 |.dct _ _=>false
 |_=>true
noncomputable def zC7:List D->Bool
 |[]=>true
 |d::l=>okD d && zC7 l
end
section
variable{X:Cx}{pins:List (Addr×Obj)}{σ:St}{H:Hp}{s:Shared}{O:Addr->Prop}
mutual
theorem kI(I:Inv X pins σ H s):∀(d:D) (v:V) (u:Value),okD d=true->Is X.K O H d v->RelV v u->∃as,Reads s.heap u (toP d) as
 |.non,v,u,_,h,r=>by rw[Is.non_iff] at h;subst h;cases r;exact⟨_,.none⟩
 |.bl b,v,u,_,h,r=>by rw[Is.bl_iff] at h;subst h;cases r;exact⟨_,.bool b⟩
 |.int i,v,u,_,h,r=>by rw[Is.int_iff] at h;subst h;obtain⟨t,rfl⟩:=r;exact⟨_,.int i t⟩
 |.str x,v,u,_,h,r=>by rw[Is.str_iff] at h;subst h;obtain⟨t,rfl⟩:=r;exact⟨_,.str _ t⟩
 |.ty n,v,u,o,_,_=>by simp[okD] at o
 |.ref a,v,u,o,_,_=>by simp[okD] at o
 |.dct ks l,v,u,o,_,_=>by simp[okD] at o
 |.tup l,v,u,o,h,r=>by
  rw[Is.tup_iff] at h
  obtain⟨a,xs,rfl,sq,il⟩:=h
  cases r
  obtain⟨its,rv,⟨ob,e,c,n,dt⟩,_⟩:=I.tuple sq
  obtain⟨as,q⟩:=j3 I l xs its (by simpa [okD] using o) il rv
  exact⟨_,.tuple e c dt (by simpa using q)⟩
 |.lst l,v,u,o,h,r=>by
  rw[Is.lst_iff] at h
  obtain⟨a,xs,rfl,sq,il⟩:=h
  cases r
  obtain⟨its,rv,⟨ob,n,e,c,_,dt⟩,_⟩:=I.list sq.sq
  obtain⟨as,q⟩:=j3 I l xs its (by simpa [okD] using o) il rv
  exact⟨_,.list e c dt (by simpa using q)⟩
theorem j3(I:Inv X pins σ H s):∀(l:List D) (vs:List V) (us:List Value),zC7 l=true->IsL X.K O H l vs->Vals vs us->∃as,ReadsAll s.heap us (tR l) as
 |[],vs,us,_,h,r=>by unfold IsL at h;subst h;cases r;exact⟨_,.nil⟩
 |d::l,vs,us,o,h,r=>by
  unfold IsL at h
  obtain⟨v,vr,rfl,h1,h2⟩:=h
  simp only[zC7,Bool.and_eq_true] at o
  cases r with
  |cons r1 r2=>
   obtain⟨as,q1⟩:=kI I d v _ o.1 h1 r1
   obtain⟨bs,q2⟩:=j3 I l vr _ o.2 h2 r2
   exact⟨_,.cons q1 q2⟩
end
end
section
variable{X:Cx}
theorem un2{k:Nat}{A:Around}(r:Room k A):A.units+200<cLine:=by have:=r.un;omega
end
noncomputable def fre:Sl->Prop
 |.un=>True
 |.v _=>True
 |_=>False
theorem yK{i:Nat}{d:D}{r:En}{x:Sl}(e:r[i]?=some x)(h:fre x):yW i d r=some (r.set i (.v d)):=by
 unfold yW
 rw[e]
 cases x<;>first|rfl|cases h
theorem zEF{i:Nat}{r:En}{S:List D}{d:D}(e:r[i]?=some (.o (S++[d]))):zCX i r=some (d,r.set i (.o S)):=by
 simp[zCX,zAX,e,Sl.ml,XH]
theorem m7{i:Nat}{f:ME}{r:En}{S:List D}{d:D}(e:r[i]?=some (.o S))(e2:f r=some d)(h:S.length<sizeLine):ZN i f r=some (.non,r.set i (.o (S++[d]))):=by
 simp[ZN,zAX,e,Sl.ml,XH,e2,h]
theorem yU{g h:MS}{r r':En}(e:g r=some (.nx r')):yM g h r=h r':=by
 unfold yM;rw[e];rfl
theorem zDZ{g h:MS}{r r':En}{d:D}(e:g r=some (.rt d r')):yM g h r=some (.rt d r'):=by
 unfold yM;rw[e];rfl
theorem pT{f:En->Option (D×En)}{r r':En}{d:D}(e:f r=some (d,r')):sX f r=some (.nx r'):=by
 unfold sX;rw[e];rfl
theorem jI{i:Nat}{f:ME}{r r2:En}{d:D}(e:f r=some d)(e2:yW i d r=some r2):qH i f r=some (.nx r2):=by
 unfold qH;rw[e];show(yW i d r).map Fl.nx=_;rw[e2];rfl
theorem JK{c:MB}{g h:MS}{r:En}(e:c r=some true):sIf c g h r=g r:=by
 unfold sIf;rw[e];rfl
theorem zC4{c:MB}{g h:MS}{r:En}(e:c r=some false):sIf c g h r=h r:=by
 unfold sIf;rw[e];rfl
theorem b7{n:Nat}{c:MB}{g:MS}{r r':En}(h:c r=some true)(e:g r=some (.nx r')):qL (n+1) c g r=qL n c g r':=by
 show(c r).bind _=_
 rw[h,Option.bind_some,if_pos rfl,e,Option.bind_some]
theorem vP{n:Nat}{c:MB}{g:MS}{r:En}(h:c r=some false):qL (n+1) c g r=some (.nx r):=by
 show(c r).bind _=_
 rw[h,Option.bind_some,if_neg (by simp)]
theorem g0{α:Type}(x:α)(l:List α):atI (x::l) 0=some x:=xS (j:=0) rfl
theorem bY{bd:D->En->Option En}{g:MS}{d:D}{l:List D}{r r1 r':En}(h:bd d r=some r1)(e:g r1=some (.nx r')):ZY bd g (d::l) r=ZY bd g l r':=by
 show(bd d r).bind _=_
 rw[h,Option.bind_some,e,Option.bind_some]
section
variable{f g:ME}{fl gl:ML}{r:En}{x y d:D}{i j:Int}
theorem zY{m:D->D->Option D}(e1:f r=some x)(e2:g r=some y)(e:m x y=some d):zH m f g r=some d:=by
 unfold zH;rw[e1,Option.bind_some,e2];exact e
theorem kY{m:D->Option D}(e1:f r=some x)(e:m x=some d):mUn m f r=some d:=by
 unfold mUn;rw[e1];exact e
theorem wH(e1:f r=some (.int i))(e2:g r=some (.int j)):zH qA f g r=some (.int (i+j)):=zY e1 e2 rfl
theorem wD(e1:f r=some (.int i))(e2:g r=some (.int j))(h:0<j):zH jM f g r=some (.int (i % j)):=zY e1 e2 (if_pos h)
theorem rH(e1:f r=some (.int i))(e2:g r=some (.int j))(h : -(2 ^ 64)<i/\i<2 ^ 64):zH zAS f g r=some (.int (i*j)):=zY e1 e2 (if_pos (.inl h))
theorem gF(e1:f r=some (.int i))(e2:g r=some (.int j))(h:0<j/\j<1073741824):zH oJ f g r=some (.int (i / j)):=zY e1 e2 (if_pos h)
theorem zN:mC d r=some d:=rfl
theorem zG{l:List D}(e1:f r=some x)(e2:fl r=some l):zC f fl r=some (x::l):=by
 unfold zC;rw[e1,Option.bind_some,e2];rfl
theorem zX:zR r=some []:=rfl
theorem d6{l:List D}(e:fl r=some l)(h:l.length<=100):jW (xF fl) r=some (.lst l):=by
 unfold jW xF;rw[e,Option.bind_some,if_pos (Nat.le_trans h (by decide))];rfl
theorem qJ{l:List D}(e:fl r=some l)(h:l.length<=100):wS fl r=some (.tup l):=by
 unfold wS;rw[e,Option.bind_some,if_pos (Nat.le_trans h (by decide))]
theorem yZ{n:Nat}{m:MF}{l:List D}{p:Rs}(e:fl r=some l)(hl:l.length=n)(h:∃as,m (l.map .v)=some (p,as)):z6 n m fl r=some (rsD p):=by
 obtain⟨as,h⟩:=h
 unfold z6;rw[e,Option.bind_some,if_pos hl,h];rfl
theorem g9{b:Bool}(e:f r=some (.bl b)):mBl f r=some b:=by
 unfold mBl;rw[e];rfl
theorem qM(e:f r=some d):qC f r=some (.rt d r):=by
 unfold qC;rw[e];rfl
theorem yQ{k:Nat}{h:MS}{r2:En}{z:Option Fl}(d:D)(e:f r=some d)(e2:yW k d r=some r2)(q:h r2=z):yM (qH k f) h r=z:=by
 rw[yU (jI e e2)];exact q
theorem qK{c:MB}{a h:MS}{z:Option Fl}(e:c r=some false)(q:h r=z):yM (sIf c a xW) h r=z:=by
 rw[yU (r':=r) (by rw[zC4 e];rfl)];exact q
theorem cY{c:MB}{a h:MS}{r':En}(e:c r=some true)(q:a r=some (.rt d r')):yM (sIf c a xW) h r=some (.rt d r'):=zDZ (by rw[JK e];exact q)
theorem jN{n N:Nat}{s:MS}{as:List Sl}{r':En}(e:s (as++List.replicate (N-n) .un)=some (.rt d r')):∃bs,mkF n N s as=some (.v d,bs):=by
 unfold mkF;rw[e];exact⟨_,rfl⟩
end
theorem tU{s t:List Nat}(h:s.length+t.length<=100):qA (.str s) (.str t)=some (.str (s++t)):=if_pos (Nat.le_trans h (by decide))
theorem pO{f:ME}{lo hi:MO}{r:En}{x d:D}{a b:Option Int}(e1:f r=some x)(e2:lo r=some a)(e3:hi r=some b)(e:slD x a b=some d):mSl f lo hi r=some d:=by
 unfold mSl;rw[e1,Option.bind_some,e2,Option.bind_some,e3];exact e
theorem rF{g:ME}{r:En}{i:Int}(e:g r=some (.int i)):mUn vN g r=some (.int (-i)):=kY e rfl
theorem wX{g:ME}{r:En}{i:Int}(e:g r=some (.int i)):xR g r=some (some i):=by
 unfold xR;rw[e];rfl
theorem QC{f g:ME}{r:En}{i j:Int}(e1:f r=some (.int i))(e2:g r=some (.int j)):mBl (zH gtD f g) r=some (decide (j<i)):=g9 (zY e1 e2 rfl)
theorem zBB{l m:List D}(h:l.length+m.length<=100000):qA (.lst l) (.lst m)=some (.lst (l++m)):=if_pos (Nat.le_trans h (by decide))
theorem zCO{α:Type}(s:List α)(k:Nat):uN s none (some (k:Int))=s.take k:=by
 unfold uN
 rw[HT.sIx_nat,HT.sIx_none,List.drop_zero,Nat.sub_zero,List.take_eq_take_iff]
 omega
theorem zCP{α:Type}(s:List α)(i k:Nat):uN s (some (i:Int)) (some (k:Int))=(s.take k).drop i:=by
 unfold uN
 rw[HT.sIx_nat,HT.sIx_nat,List.drop_take]
 by_cases h:i<=s.length
 ·rw[Nat.min_eq_left h,List.take_eq_take_iff,List.length_drop]
  rw[Nat.sub_min_sub_right,Nat.sub_min_sub_right,Nat.min_assoc,Nat.min_self]
 ·have e1:s.drop (min i s.length)=[]:=List.drop_of_length_le (by omega)
  have e2:s.drop i=[]:=List.drop_of_length_le (by omega)
  rw[e1,e2];simp
theorem XC{f:ME}{r:En}{n:Nat}(e:f r=some (.int (n:Int)))(h:n<1000):rL f r=some ((List.range n).map fun k=>.int ((0:Int)+(k:Nat))):=by
 have h1 : -(2 ^ 62:Int)<=(n:Int)/\(n:Int)<2 ^ 62:=by constructor<;>omega
 have h2:DD.intD (.int (n:Int))=some (n:Int):=by unfold DD.intD;rfl
 unfold rL
 rw[e,Option.bind_some,h2,Option.bind_some,if_pos h1,Int.toNat_natCast]
 unfold zFV;rfl
theorem zJA{f g:ME}{r:En}{l m:List D}(e1:f r=some (.lst l))(e2:g r=some (.lst m))(h:l.length+m.length<=100000):zH qA f g r=some (.lst (l++m)):=zY e1 e2 (zBB h)
theorem bdP{i j:Nat}{a b:D}{r r1 r2:En}(h1:yW i a r=some r1)(h2:yW j b r1=some r2):uS 2 (xJ (yW i) (xJ (yW j) b6)) (.tup [a,b]) r=some r2:=by
 show((yW i a r).bind fun z=>(yW j b z).bind fun y=>some y)=_
 rw[h1,Option.bind_some,h2];rfl
noncomputable def ItB(K:Fg)(a:Addr)(n:Nat):It:=
 ⟨fun i H=>∃xs x,SqL K H a xs/\xs.length=n/\i<n/\xs[n-1-i]?=some x,fun i H x H'=>H'=H/\∀xs,SqL K H a xs->xs[n-1-i]?=some x,fun i _=>i=n⟩
theorem pG{P:Program}{w:World}{K:Fg}{tg:Expr}(a it:Addr)(n:Nat):Turn P w K tg (ItB K a n) [it] it (fun i h=>h.IsRevIter it a ((n:Int)-1-(i:Int))) where
 mem:=by simp
 obj:=fun i h st b hb=>by
  have e:b=it:=by simpa using hb
  subst e
  obtain⟨o,e,c,d⟩:=st
  exact⟨o,e,fun v z=>by rw[d] at z;cases z⟩
 keep:=fun i h h' st k=>st.at fun o e=>k it (by simp) o e
 item:=by
  intro X hP hw hK hc i pins s σ H E I hf st hg
  subst hP hw hK
  obtain⟨xs,x,hq,hn,hi,hx⟩:=hg
  obtain⟨its,rv,p,hz⟩:=I.list hq
  obtain⟨u,hu,ru⟩:=rv.get hx
  obtain⟨f0,f1,f2,f3,f4,f5⟩:=hf it (by simp)
  have e1:(n:Int)-1-(i:Int)=((n-1-i:Nat):Int):=by clear st hu hx hq hn rv p;omega
  rw[e1] at st
  refine wpAny_pyNext_rev_item st p.isList (x:=u) (by simpa using hu) fun h' st' sb=>?_
  have e2:((n-1-i:Nat):Int)-1=(n:Int)-1-((i+1:Nat):Int):=by clear st st' hu hx hq hn rv p;omega
  rw[e2] at st'
  have I1:Inv X pins σ H { s with heap:=h' }:=I.turned (t':=s.toks) (fun b o hb e=>(sb.2 b hb).trans e) f0 f1 f3 f4 f5
  obtain⟨o,e,c,d⟩:=id st'
  exact⟨u,rfl,ZX (s:={ s with heap:=h' }) e c d (by decide) ⟨x,H,I1,ru,⟨rfl,fun ys hy=>by rw[I.list_inj hy hq];exact hx⟩,st',fun b hb=>(hf b hb).1⟩⟩
 done:=by
  intro X hP hw hK hc i pins s σ H E I hf st hg
  subst hP hw hK
  obtain rfl:i=n:=hg
  obtain⟨f0,f1,f2,f3,f4,f5⟩:=hf it (by simp)
  have e1:(i:Int)-1-(i:Int)=-1:=by clear st;omega
  rw[e1] at st
  exact wpAny_pyNext_rev_end (I.ok.hd hc) st fun h' eb=>⟨rfl,I.turned (t':=s.toks) (fun b o hb e=>eb b o hb e) f0 f1 f3 f4 f5⟩
 self:=fun _ _ _ _ _ st h=>wpAny_pyIter_revIter st h
section
variable{X:Cx}{a tg:Expr}{f:ME}{p pos:Pos}
theorem QU{K:Fg}{O M:Addr->Prop}(mo:∀a,M a->O a){H:Hp}{a:Addr}{xs:List V}{ds:List D}(ol:jB O H)(rd:∀H1,m9 M H H1->SqL K H1 a xs)(il:IsL K O H ds xs):zDK K O M H (ItB K a xs.length) ds.reverse:=by
 intro i H1 O' kp oo
 have kp':m9 O H H1:=fun b o e n=>kp b o e fun z=>n (mo b z)
 have rd1:SqL K H1 a xs:=rd H1 kp
 have ll:=il.length
 have bk:∀d,ds.reverse[i]?=some d->i<xs.length/\ds[xs.length-1-i]?=some d:=fun d e=>by
  have hi:i<ds.length:=by
   obtain⟨h,_⟩:=List.getElem?_eq_some_iff.mp e
   rw[List.length_reverse] at h;exact h
  rw[List.getElem?_reverse hi,ll] at e
  exact⟨ll ▸ hi,e⟩
 refine⟨fun hi=>⟨?_,fun x H' y=>?_⟩,fun hi=>by rw[List.length_reverse,ll] at hi;exact hi⟩
 ·obtain⟨d,e⟩:=kB hi
  obtain⟨hi',e'⟩:=bk d e
  obtain⟨v,e1,_⟩:=il.get e'
  exact⟨xs,v,rd1,rfl,hi',e1⟩
 ·obtain⟨rfl,y⟩:=y
  refine⟨Same.refl _,fun d e=>?_⟩
  obtain⟨hi',e'⟩:=bk d e
  obtain⟨v,e1,q⟩:=il.get e'
  have:=y xs rd1
  rw[e1] at this;cases this
  exact Is.mono kp' ol oo _ _ q
theorem J1{ta:TE}(hg:Gl X "reversed")(hm:X.mg "reversed" = none)(ha:PE X a ta)(hs:starEach [a] X.env=[(false,eval a X.env)]:=by rfl):PI X tg (.Call (.Name "reversed" p) [a] [] pos) (fun σ H R=>ta σ H fun x H1=>∃u xs,x=.ref u/\SqL X.K H1 u xs/\R (ItB X.K u xs.length) H1):=by
 intro pins s σ H R I h
 have hA:PA X [a] (W5 ta zDV):=zZ ha xA (by rw[hs];rfl)
 refine Call_ (bW I hg hm PyProof.Rows.boot_reversed (PyProof.Rows.callWith_type1 (thn (hA pos pins s σ H (z1 fun x H1=>∃u xs,x=.ref u/\SqL X.K H1 u xs/\R (ItB X.K u xs.length) H1) I h) fun us s1 ⟨vs,H1,I1,r1,q1⟩=>?_) hs rfl))
 obtain⟨_,rfl,u,xs,rfl,hx,q⟩:=QQ q1
 obtain⟨uu,rfl,ru⟩:=Vals.one r1
 cases ru
 obtain⟨its,rv,pl,_⟩:=I1.list hx
 have hl:its.toArray.size=xs.length:=by rw[List.size_toArray];exact rv.length.symm
 have z1:(s1.heap.push (revObj u ((its.toArray.size:Int)-1))).IsRevIter s1.heap.objs.size u ((its.toArray.size:Int)-1):=⟨_,Heap.get?_push_size _ rfl,rfl,rfl⟩
 refine call_reversed_list pl.isList (wpAny_pyIter_revIter z1 ?_)
 refine⟨_,[s1.heap.objs.size],_,_,H1,rfl,I1.kept (t':=s1.toks) (fun b o e=>Heap.get?_push_of_some _ e),pG u _ xs.length,?_,fun b hb=>?_,q⟩
 ·rw[hl] at z1 ⊢
  rw[show((xs.length:Int)-1-((0:Nat):Int))=(xs.length:Int)-1 from Int.sub_zero _]
  exact z1
 ·have e:b=s1.heap.objs.size:=by simpa using hb
  subst e
  exact I1.fpOk (Nat.le_refl _) (I1.hok.fresh (Nat.le_refl _))
noncomputable def zBA(f:ML):ML:=fun r=>(f r).map List.reverse
theorem WU{fl:ML}(hg:Gl X "reversed")(hm:X.mg "reversed" = none)(ha:DK X a fl)(hs:starEach [a] X.env=[(false,eval a X.env)]:=by rfl):DI X tg (.Call (.Name "reversed" p) [a] [] pos) (zBA fl):=by
 refine PI.conseq (J1 hg hm ha hs) fun σ H Rr hq=>?_
 obtain⟨O0,r,ds,hR,e,q⟩:=hq
 obtain⟨l,e1,rfl⟩:=map_some e
 refine⟨O0,r,l,hR,e1,fun u xs H1 s1 kp il=>?_⟩
 exact⟨u,xs,rfl,kp H1 fun b o e _=>e,q _ H1 s1 (QU (fun a z=>.inr z.own) (hR.same s1).ol kp il)⟩
end
section
variable{X:Cx}{pos p2:Pos}{a b:Expr}{f g:ME}
theorem oG{K:Fg}{O:Addr->Prop}{H:Hp}{l:List D}{xs ys:List V}{p:Addr}(ol:jB O H)(hp:H p=none)(h:IsL K O H l xs):IsL K (fun b=>O b\/b=p) (upd H p (.lst ys)) l xs:=
 IsL.mono (Same.kp (zV hp) _) ol (fun a z n=>z.elim id fun z=>by subst z;exact absurd hp n) _ _ h
noncomputable def zIM(f g:ML):ML:=fun r=>(f r).bind fun l=>(g r).bind fun m=>if l.length+m.length<=sizeLine then some (l++m) else none
theorem zFN{fl gl:ML}(ha:DB X a fl)(hb:DB X b gl):DF X (.BinOp a .Add b pos) (zIM fl gl):=by
 refine PE.conseq (zF2 op_catR ha hb) fun σ H Q h=>?_
 obtain⟨O0,r,d,hR,e,q⟩:=h
 obtain⟨l,e1,e⟩:=bind_some e
 obtain⟨m,e2,e⟩:=bind_some e
 split at e
 ·rename_i hz
  cases e
  refine⟨O0,r,l,hR,e1,fun p xs H1 s1 sq il=>⟨O0,r,m,hR.same s1,e2,fun p' ys H2 s2 sq' il'=>?_⟩⟩
  refine⟨p,p',xs,ys,rfl,rfl,s2.seq sq,sq',by rw[<-il.length,<-il'.length];exact hz,fun t ht=>q t _ _ ((s1.trans s2).trans (zV ht)) ((s1.trans s2).free ht) zK ?_⟩
  exact oG (hR.same (s1.trans s2)).ol ht ((il.same s2 (hR.same s1).ol).append il')
 ·cases e
end
noncomputable def WZ(bd:D->En->Option En)(x:En->Option (D×En)):List D->En->Option (List D×En)
 |[],r=>some ([],r)
 |d::l,r=>(bd d r).bind fun r1=>(x r1).bind fun p=>(WZ bd x l p.2).map fun q=>(p.1::q.1,q.2)
noncomputable def WH(i n:Nat)(it:ML)(bd:D->En->Option En)(x:En->Option (D×En)):En->Option (D×En):=fun r=>(it r).bind fun l=>(zAX r i).bind fun L=>if l.length<sizeLine then (WZ bd x l (Sl.p L::List.replicate (n-1) Sl.un)).bind fun(q:List D×En)=>match (q.2[0]?:Option Sl) with
 |some (.p L')=>(XH i L' r).map fun r'=>(.lst q.1,r')
 |_=>none
 else none
section
variable{X:Cx}{N':List Str}{scope:Scope}{elt tg iter:Expr}{pos:Pos}{it:ML}{bd:D->En->Option En}{x:En->Option (D×En)}{i:Nat}
theorem mJ{q:Sl->Option (List D)}(hu:q .un=none){L m:List D}{k j:Nat}(e:((Sl.p L::List.replicate k Sl.un)[j]?).bind q=some m):j=0/\q (.p L)=some m:=by
 cases j with
 |zero=>exact⟨rfl,e⟩
 |succ j=>
  rw[List.getElem?_cons_succ,List.getElem?_replicate] at e
  split at e
  ·rw[Option.bind_some,hu] at e;cases e
  ·cases e
theorem R.cap1{K:Fg}{O:Addr->Prop}{H:Hp}{L:List D}{xs:List V}{a:Addr}{k:Nat}(ol:jB O H)(ha:O a)(ea:H a=some (.lst xs))(il:IsL K O H L xs):R K O H (.p L::List.replicate k .un) (some (.ref a)::List.replicate k none):=by
 have ow:∀b,Ow O (.p L::List.replicate k .un) (some (.ref a)::List.replicate k none) b->H b≠none->O b:=fun b z _=>z.elim id fun⟨j,m,ej,qj⟩=>by
  obtain⟨rfl,_⟩:=mJ rfl ej
  cases qj;exact ha
 have get:∀(j:Nat) (x:Sl),(Sl.p L::List.replicate k Sl.un)[j]?=some x->(j=0/\x=.p L)\/x=.un:=fun j x e=>by
  cases j with
  |zero=>cases e;exact .inl ⟨rfl,rfl⟩
  |succ j=>
   rw[List.getElem?_cons_succ,List.getElem?_replicate] at e
   split at e
   ·cases e;exact .inr rfl
   ·cases e
 refine⟨by simp,fun j d e=>?_,fun j m e=>?_,fun j j' b m m' e1 e2 _ _=>?_,ol,fun j m b e _=>?_,fun j m b e q=>?_,fun j ks m e=>?_⟩
 ·rcases get _ _ e with⟨_,z⟩|z<;>cases z
 ·obtain⟨rfl,e2⟩:=mJ rfl e
  cases e2
  exact⟨a,xs,rfl,ea,IsL.mono (Same.kp (Same.refl H) _) ol ow _ _ il⟩
 ·rw[(mJ rfl e1).1,(mJ rfl e2).1]
 ·rcases e with e|e|⟨_,e⟩<;>rcases get _ _ e with⟨_,z⟩|z<;>cases z
 ·rcases get _ _ e with⟨rfl,z⟩|z
  ·cases q;exact ha
  ·cases z
 ·rcases get _ _ e with⟨_,z⟩|z<;>cases z
theorem m5(hx:∀r d r',x r=some (d,r')->∀σ b,wV r' σ b->wV r σ b){σ:St}{H:Hp}{Q:VK}(h:lX X.K (WH i N'.length it bd x) σ H Q):zC2 [i] N'.length (lI X.K it) (lG X.K bd) none (lX X.K x) σ H Q:=by
 obtain⟨O0,r,dv,r',hR,e,q⟩:=h
 obtain⟨l,e1,e⟩:=bind_some e
 obtain⟨L,e2,e⟩:=bind_some e
 split at e
 ·rename_i hlen
  obtain⟨⟨out,rE⟩,e3,e⟩:=bind_some e
  simp only at e
  split at e
  ·rename_i L' eL
   obtain⟨r2',e4,e5⟩:=map_some e
   have hd1:D.lst out=dv:=congrArg Prod.fst e5
   have hr1:r2'=r':=congrArg Prod.snd e5
   subst hd1 hr1
   refine⟨O0,r,l,hR,e1,fun J H1 s1 yl p hp=>?_⟩
   have R1:=hR.same s1
   obtain⟨a,xs,ha,hxa,il⟩:=rK R1 e2
   have mut_a:MutAt r σ a:=⟨i,L,zE1 e2,ha⟩
   have own_a:Ow O0 r σ a:=.inr mut_a.own
   have hpa:a≠p:=fun z=>by subst z;rw[hp] at hxa;cases hxa
   have hnO:¬Ow O0 r σ p:=R1.nofresh hp
   let O':Addr->Prop:=fun b=>Ow O0 r σ b\/b=p
   have ol1:jB O' (upd H1 p (.lst [])):=fun b z=>by
    by_cases hb:b=p
    ·subst hb;exact⟨_,zK,trivial⟩
    ·rw[zI hb];exact z.elim (R1.ol b) fun z=>absurd z hb
   have hsig:QO [i] N'.length σ=some (.ref a)::List.replicate (N'.length-1) none:=by
    unfold QO
    rw[List.map_cons,List.map_nil,ha];rfl
   rw[hsig]
   refine⟨fun k m ys σ2 H2=>m=l.length-k/\k<=l.length/\ys.length<=k/\H2 p=some (.lst ys)/\σ2[0]?=some (some (.ref a))/\(∀b u,b≠a->H1 b=some u->H2 b=some u)/\(∀b,H2 b=none->H1 b=none) /\
     ∃r2 dn rest,R X.K O' H2 r2 σ2/\(∀b,wV r2 σ2 b->b=a)/\(∃L2,r2[0]?=some (.p L2))/\IsL X.K O' H2 dn ys/\WZ bd x (l.drop k) r2=some (rest,rE)/\dn++rest=out,
    ⟨l.length,by simp,Nat.zero_le _,Nat.le_refl _,zK,?_,?_,?_,_,[],out,R.cap1 (k:=N'.length-1) ol1 (.inl own_a) (by rw[zI hpa];exact hxa) (oG R1.ol hp il),?_,⟨L,rfl⟩,.nil,by simpa using e3,rfl⟩,?_⟩
   ·rfl
   ·intro b u hb eb
    rw[zI (fun z=>by subst z;rw[hp] at eb;cases eb)];exact eb
   ·intro b eb
    by_cases hb:b=p
    ·subst hb;exact hp
    ·rw[zI hb] at eb;exact eb
   ·rintro b ⟨j,m,ej,qj⟩
    obtain⟨rfl,_⟩:=mJ rfl ej
    cases qj;rfl
   ·rintro k m ys σ2 H2 ⟨rfl,hkl,hyl,hp2,hs2,kp2,lv2,r2,dn,rest,R2,no2,⟨L2,eL2⟩,il2,e6,eo⟩
    refine⟨hp2,by omega,?_⟩
    have hO:∀b,Ow O' r2 σ2 b->O' b:=fun b z=>z.elim id fun z=>.inl (by rw[no2 b z];exact own_a)
    obtain⟨y1,y2⟩:=yl k H2 O' (fun b u eb nb=>kp2 b u (fun z=>nb (by rw[z];exact mut_a)) eb) fun b z nn=>z.elim id fun z=>by subst z;exact absurd hp nn
    by_cases hlt:k<l.length
    ·obtain⟨go,yd⟩:=y1 hlt
     have hd:l[k]?=some l[k]:=by simp[hlt]
     rw[kC hd] at e6
     obtain⟨r3,e7,e8⟩:=bind_some e6
     obtain⟨⟨y,r4⟩,e9,e10⟩:=bind_some e8
     obtain⟨⟨rest',rE'⟩,e11,e12⟩:=map_some e10
     have ha1:y::rest'=rest:=congrArg Prod.fst e12
     have ha2:rE'=rE:=congrArg Prod.snd e12
     subst ha1 ha2
     refine .inr ⟨go,fun v H3 yv=>?_⟩
     obtain⟨s3,iv⟩:=yd v H3 yv
     have R3:=R2.same s3
     refine⟨O',r2,l[k],r3,R3,?_,e7,fun σ4 R4 k4=>?_⟩
     ·exact Is.mono (Same.kp (Same.refl H3) _) R3.o0 (fun b z _=>hO b z) _ _ (iv _ hd)
     have hp3:=s3 _ _ hp2
     have no4:∀b,wV r3 σ4 b->b=a:=fun b z=>by
      rcases k4.new b z with z'|z'
      ·exact no2 b z'
      ·obtain⟨zs,ez,_⟩:=R4.ol b (.inr z)
       rw[z'] at ez;cases ez
     obtain⟨⟨L3,eL3⟩,hs4⟩:=k4.par 0 L2 eL2
     refine⟨O',r3,y,r4,R4,e9,fun u H6 R6 k6 iu=>?_⟩
     have nm:∀b,MutAt r3 σ4 b->b=a:=fun b z=>no4 b z.own
     have hp6:H6 p=some (.lst ys):=k6.keep p _ hp3 fun z=>hpa (nm p z).symm
     have no6:∀b,wV r4 σ4 b->b=a:=fun b z=>by
      exact no4 b (hx _ _ _ e9 σ4 b z)
     obtain⟨⟨L4,eL4⟩,_⟩:=k6.par 0 L3 eL3
     have kk:m9 O' H6 (upd H6 p (.lst (ys++[u]))):=fun b' o' e' nn=>by rw[zI (fun z=>nn (.inr z))];exact e'
     have k36:m9 O' H3 H6:=fun b' o' e' nn=>k6.keep b' o' e' fun z=>nn (.inl (by rw[nm b' z];exact own_a))
     refine⟨hp6,l.length-(k+1),by omega,rfl,hlt,by simp;omega,zK,by rw[hs4];exact hs2,?_,?_,r4,dn++[y],rest',?_,no6,⟨L4,eL4⟩,?_,e11,by rw[<-eo];simp⟩
     ·intro b u' hb eb
      have hbp:b≠p:=fun z=>by subst z;rw[hp] at eb;cases eb
      rw[zI hbp]
      exact k6.keep b _ (s3 _ _ (kp2 b u' hb eb)) fun z=>hb (nm b z)
     ·intro b eb
      by_cases hb:b=p
      ·subst hb;exact hp
      ·rw[zI hb] at eb
       exact lv2 b (s3.free (k6.live b eb))
     ·refine⟨R6.len,fun j d ej=>?_,fun j m ej=>?_,R6.apart,fun b' z=>?_,R6.loc,R6.par,fun j ks m ej=>?_⟩
      ·obtain⟨w,q1,q2⟩:=R6.val j d ej
       exact⟨w,q1,Is.mono (fun b' o' e' nn=>kk b' o' e' fun z=>nn (.inl z)) R6.ol (fun _ z _=>z) _ _ q2⟩
      ·obtain⟨a',xs',q1,q2,q3⟩:=R6.own j m ej
       have ha':=no6 a' ⟨j,m,qX ej,q1⟩
       exact⟨a',xs',q1,by rw[zI (by rw[ha'];exact hpa)];exact q2,IsL.mono (fun b' o' e' nn=>kk b' o' e' fun z=>nn (.inl z)) R6.ol (fun _ z _=>z) _ _ q3⟩
      ·rcases z with z|z
       ·by_cases hb:b'=p
        ·subst hb;exact⟨_,zK,trivial⟩
        ·rw[zI hb];exact R6.o0 b' (.inl z)
       ·subst z;exact⟨_,zK,trivial⟩
      ·obtain⟨a',kvs,q1,q2,q4,q3⟩:=R6.dct j ks m ej
       have ha':=no6 a' ⟨j,m,by rw[ej];rfl,q1⟩
       exact⟨a',kvs,q1,by rw[zI (by rw[ha'];exact hpa)];exact q2,q4,IsL.mono (fun b' o' e' nn=>kk b' o' e' fun z=>nn (.inl z)) R6.ol (fun _ z _=>z) _ _ q3⟩
     ·have i1:=IsL.mono k36 R3.o0 (fun _ z _=>z) _ _ (il2.same s3 R2.o0)
      have i2:Is X.K O' H6 y u:=Is.mono (Same.kp (Same.refl H6) _) R6.ol (fun a z _=>.inl z) _ _ iu
      exact IsL.mono kk R6.o0 (fun _ z _=>z) _ _ (i1.append (.cons i2 .nil))
    ·have hl:l.drop k=[]:=List.drop_eq_nil_of_le (by omega)
     rw[hl] at e6
     have e6':some ([],r2)=some (rest,rE):=e6
     cases e6'
     rw[List.append_nil] at eo
     subst eo
     obtain⟨c0,zs,q0,q1,q2⟩:=R2.own 0 L' (by rw[eL];rfl)
     rw[hs2] at q0;cases q0
     obtain⟨RE,kE⟩:=R1.put e4 ha kp2 (fun b _=>lv2 b) q1 (IsL.mono (Same.kp (Same.refl H2) _) R2.ol (fun b z _=>.inl (.inl z)) _ _ q2)
     refine .inl ⟨y2 (by omega),q _ H2 RE ((Kp.of_same r σ s1).trans kE) ?_⟩
     rw[Is.lst_iff]
     have np:∀b,Ow O0 r2' σ b->Ow O0 r σ b:=fun b z=>z.imp id fun z=>ZB e4 z
     exact⟨p,ys,rfl,.inl ⟨fun z=>hnO (np p z),.inl hp2⟩,IsL.mono (Same.kp (Same.refl H2) _) R2.o0 (fun b z _=>.inl (np b z)) _ _ il2⟩
  ·cases e
 ·cases e
theorem WS(hc:X.calm=true)(o:CmpOk X N' [i] scope)(hi:DI X tg iter it)(hg:∀C fp s H,DG (cxC X N' scope C fp s H) tg bd)(he:∀C fp s H,DX (cxC X N' scope C fp s H) elt x)(hx:∀r d r',x r=some (d,r')->∀σ b,wV r' σ b->wV r σ b)(n:Nat)(hn:N'.length=n:=by rfl)(hs:∀x,foldedSetIterable iter X.env x=pure x:=by intro _;rfl):DX X (.ListComp elt [⟨tg,iter,[],0⟩] scope pos) (WH i n it bd x):=by
 subst hn
 exact PE.conseq (v5 (g:=lG X.K bd) (te:=lX X.K x) (tc:=none) hc o hi hg rfl he hs) fun σ H Q h=>m5 hx h
theorem JX{j:Nat}:∀r d r',zCX j r=some (d,r')->∀σ b,wV r' σ b->wV r σ b:=fun r d r' e σ b h=>by
 obtain⟨l,_,e⟩:=bind_some e
 obtain⟨d',_,e⟩:=bind_some e
 obtain⟨r2,e3,e4⟩:=map_some e
 have:r2=r':=congrArg Prod.snd e4
 subst this
 exact ZB e3 h
end
section
variable{X:Cx}{a:Expr}{es:List Expr}{f:ME}{pos p:Pos}
noncomputable abbrev MXA:=En->Option (List D×En)
noncomputable def lXA(K:Fg)(f:MXA):TA:=fun σ H Q=>∃O0 r l r',R K O0 H r σ/\f r=some (l,r')/\∀vs H',R K O0 H' r' σ->Kp H r σ H' r' σ->IsL K (Ow O0 r' σ) H' l vs->Q vs H'
noncomputable def DXA(X:Cx)(es:List Expr)(f:MXA):Prop:=PA X es (lXA X.K f)
noncomputable def cO(fx:En->Option (D×En)):MXA:=fun r=>(fx r).map fun p=>([p.1],p.2)
noncomputable def jY(f:ME)(z:MXA):MXA:=fun r=>(f r).bind fun d=>(z r).map fun q=>(d::q.1,q.2)
theorem oK{fx:En->Option (D×En)}(ha:DX X a fx)(hs:starEach [a] X.env=(false,eval a X.env)::starEach [] X.env:=by rfl):DXA X [a] (cO fx):=by
 refine PA.conseq (zZ ha xA hs) fun σ H Q hq=>?_
 obtain⟨O0,r,l,r',hR,e,q⟩:=hq
 obtain⟨⟨d,r1⟩,e1,e2⟩:=map_some e
 cases e2
 exact⟨O0,r,d,r1,hR,e1,fun v H1 R1 k1 i1=>q [v] H1 R1 k1 (.cons i1 .nil)⟩
theorem Is.kp{K:Fg}{O0:Addr->Prop}{H H':Hp}{r r':En}{σ σ':St}{d:D}{v:V}(hR:R K O0 H r σ)(k:Kp H r σ H' r' σ')(h:Is K (Ow O0 r σ) H d v):Is K (Ow O0 r' σ') H' d v:=
 Is.mono (fun b o e nn=>k.keep b o e fun z=>nn (.inr z.own)) hR.ol (fun b z n=>z.imp id fun z=>(k.new b z).elim id fun z=>absurd z n) _ _ h
theorem cI{z:MXA}(ha:DE X a f)(hr:DXA X es z)(hs:starEach (a::es) X.env=(false,eval a X.env)::starEach es X.env:=by rfl):DXA X (a::es) (jY f z):=by
 refine PA.conseq (zZ ha hr hs) fun σ H Q hq=>?_
 obtain⟨O0,r,l,r',hR,e,q⟩:=hq
 obtain⟨d,e1,e⟩:=bind_some e
 obtain⟨⟨l',r1⟩,e2,e3⟩:=map_some e
 cases e3
 refine⟨O0,r,d,hR,e1,fun v H1 s1 i1=>⟨O0,r,l',r1,hR.same s1,e2,fun vs H2 R2 k2 i2=>q (v::vs) H2 R2 ((Kp.of_same r σ s1).trans k2) (.cons (Is.kp (hR.same s1) k2 i1) i2)⟩⟩
noncomputable def vD(n:Nat)(m:MF)(z:MXA):En->Option (D×En):=fun r=>(z r).bind fun q=>if q.1.length=n then (m (q.1.map .v)).map fun p=>(rsD p.1,q.2) else none
theorem oM{k n:Nat}{fa:Addr}{fd:FuncData}{ps:List Str}{m:MF}{x:Str}{z:MXA}(F:FnOk X.prog X.w X.K X.mg X.base CX0 k fa fd ps (spD X.K n m))(hr:Room k X.A)(hg:Gl X x)(hm:X.mg x=some (.ref fa))(hk:PySem.W.keepIn X.K (.ref fa)=true)(hb:Binds X.K fd ps [])(ha:DXA X (a::es) z)(hdb:(x == ("__debug__" : Str))=false:=by decide)(he:starEach (a::es) X.env=(false,eval a X.env)::starEach es X.env:=by rfl)(hpl:(backTo pos (starEach es X.env)).any (·.1)=false:=by rfl):DX X (.Call (.Name x p) (a::es) [] pos) (vD n m z):=by
 refine PE.conseq (u8 (E:=fun _ _ _=>False) (dvs:=[]) F hr hg hm hk hb .nil dH ha hdb he hpl) fun σ H Q h=>?_
 obtain⟨O0,r,d,r',hR,e,q⟩:=h
 obtain⟨⟨ds,r1⟩,e1,e2⟩:=bind_some e
 split at e2
 ·rename_i hl
  obtain⟨⟨rs,as'⟩,e3,e4⟩:=map_some e2
  have h1:rsD rs=d:=congrArg Prod.fst e4
  have h2:r1=r':=congrArg Prod.snd e4
  subst h1 h2
  refine⟨O0,r,ds,r1,hR,e1,fun vs H1 R1 k1 il=>cU R1 (Same.refl H1) il hl e3 ?_⟩
  have go:∀{H2:Hp},Same H1 H2->R X.K O0 H2 r1 σ/\Kp H r σ H2 r1 σ:=fun s=>⟨R1.same s,k1.trans (Kp.of_same r1 σ s)⟩
  cases rs with
  |v d=>exact fun v H2 pf iv=>q v H2 (go pf.same).1 (go pf.same).2 iv
  |f l=>
   refine fun a xs H2 pf na ea il2=>q _ H2 (go pf.same).1 (go pf.same).2 ?_
   have olp:jB (fun b=>Ow O0 r1 σ b\/b=a) H2:=fun b z=>z.elim (fun z=>(R1.same pf.same).ol b z) fun z=>by subst z;exact⟨.lst xs,ea,trivial⟩
   show Is X.K (Ow O0 r1 σ) H2 (.lst l) (.ref a)
   rw[Is.lst_iff]
   exact⟨a,xs,rfl,.inl ⟨R1.nofresh na,.inl ea⟩,IsL.mono (Same.kp (Same.refl H2) _) olp (fun _ z _=>.inl z) _ _ il2⟩
  |g ks l=>
   refine fun a kvs H2 pf na ea ek il2=>q _ H2 (go pf.same).1 (go pf.same).2 ?_
   have olp:jB (fun b=>Ow O0 r1 σ b\/b=a) H2:=fun b z=>z.elim (fun z=>(R1.same pf.same).ol b z) fun z=>by subst z;exact⟨.dK kvs,ea,trivial⟩
   show Is X.K (Ow O0 r1 σ) H2 (.dct ks l) (.ref a)
   rw[Is.dct_iff]
   exact⟨a,kvs,rfl,R1.nofresh na,.inl ea,ek,IsL.mono (Same.kp (Same.refl H2) _) olp (fun _ z _=>.inl z) _ _ il2⟩
 ·cases e2
end
noncomputable def YL:List D->List D->Bool
 |[],[]=>false
 |.int _::_,.lst _::_=>true
 |_::m,_::l=>YL m l
 |[],_::_=>true
 |_::_,[]=>true
mutual
noncomputable def apD(l:List D):D->Bool
 |.tup m=>apL l m
 |.lst m=>YL m l && apL l m
 |.dct _ _=>false
 |_=>true
noncomputable def apL(l:List D):List D->Bool
 |[]=>true
 |d::m=>apD l d && apL l m
end
theorem oS{K:Fg}{O O':Addr->Prop}{H:Hp}:∀{m l:List D} {xs:List V},YL m l=true->IsL K O H m xs->IsL K O' H l xs->False
 |[],[],xs,c,_,_=>by simp[YL] at c
 |[],e::l,xs,_,h,h'=>by
  unfold IsL at h;subst h
  unfold IsL at h';obtain⟨v,r,e,_⟩:=h';cases e
 |d::m,[],xs,_,h,h'=>by
  unfold IsL at h';subst h'
  unfold IsL at h;obtain⟨v,r,e,_⟩:=h;cases e
 |d::m,e::l,xs,c,h,h'=>by
  unfold IsL at h;obtain⟨v,r,rfl,h1,h2⟩:=h
  unfold IsL at h';obtain⟨v',r',ee,h1',h2'⟩:=h'
  cases ee
  by_cases hc:YL m l=true
  ·exact oS hc h2 h2'
  ·unfold YL at c
   split at c
   ·rename_i e1 e2;cases e1
   ·rename_i i t l' t' e1 e2
    cases e1;cases e2
    rw[Is.int_iff] at h1
    rw[Is.lst_iff] at h1'
    obtain⟨a,ys,q,_⟩:=h1'
    rw[h1] at q;cases q
   ·rename_i e1 e2
    cases e1;cases e2
    exact hc c
   ·rename_i e1 e2;cases e1
   ·rename_i e1 e2;cases e2
mutual
theorem zGI{K:Fg}{O O':Addr->Prop}{H:Hp}{a:Addr}{xs:List V}{l:List D}(hO:∀b,O b->O' b\/b=a)(ha:H a=some (.lst xs))(il:IsL K O' H l xs):∀(d:D) (v:V),apD l d=true->Is K O' H d v->Is K O H d v
 |.non,v,_,h=>by unfold Is at h ⊢;exact h
 |.bl b,v,_,h=>by unfold Is at h ⊢;exact h
 |.int i,v,_,h=>by unfold Is at h ⊢;exact h
 |.str s,v,_,h=>by unfold Is at h ⊢;exact h
 |.ty n,v,_,h=>by unfold Is at h ⊢;exact h
 |.ref a,v,_,h=>by unfold Is at h ⊢;exact h
 |.dct ks m,v,p,h=>by unfold apD at p;cases p
 |.tup m,v,p,h=>by
  unfold apD at p
  unfold Is at h ⊢
  obtain⟨b,ys,e,q,r⟩:=h
  exact⟨b,ys,e,q,tO hO ha il m ys p r⟩
 |.lst m,v,p,h=>by
  unfold apD at p
  rw[Bool.and_eq_true] at p
  unfold Is at h ⊢
  obtain⟨b,ys,e,q,r⟩:=h
  refine⟨b,ys,e,?_,tO hO ha il m ys p.2 r⟩
  rcases q with⟨n,q⟩|q
  ·refine .inl ⟨fun z=>?_,q⟩
   rcases hO b z with z|z
   ·exact n z
   ·subst z
    rcases q with q|⟨o,q⟩
    ·rw[ha] at q;cases q
     exact oS p.1 r il
    ·rw[ha] at q;cases q
  ·exact .inr q
theorem tO{K:Fg}{O O':Addr->Prop}{H:Hp}{a:Addr}{xs:List V}{l:List D}(hO:∀b,O b->O' b\/b=a)(ha:H a=some (.lst xs))(il:IsL K O' H l xs):∀(m:List D) (vs:List V),apL l m=true->IsL K O' H m vs->IsL K O H m vs
 |[],vs,_,h=>by unfold IsL at h ⊢;exact h
 |d::m,vs,p,h=>by
  unfold apL at p
  rw[Bool.and_eq_true] at p
  unfold IsL at h ⊢
  obtain⟨v,r,e,h1,h2⟩:=h
  exact⟨v,r,e,zGI hO ha il d v p.1 h1,tO hO ha il m r p.2 h2⟩
end
section
variable{X:Cx}{es:List Expr}{fs:ML}{pos p pn:Pos}
noncomputable def bV(n:Nat)(m:MF)(i:Nat)(fs:ML):ME:=fun r=>(o7 i r).bind fun l=>(fs r).bind fun ds=>if ds.length+1=n then (m ((.lst l::ds).map .v)).bind fun p=>if apD l (rsD p.1)=true then some (rsD p.1) else none else none
theorem cK{k n i:Nat}{fa:Addr}{fd:FuncData}{ps:List Str}{m:MF}{x y:Str}(F:FnOk X.prog X.w X.K X.mg X.base CX0 k fa fd ps (spD X.K n m))(hr:Room k X.A)(hg:Gl X x)(hm:X.mg x=some (.ref fa))(hk:PySem.W.keepIn X.K (.ref fa)=true)(hb:Binds X.K fd ps [])(hy:PE X (.Name y pn) (jX i))(ha:DA X es fs)(hdb:(x == ("__debug__" : Str))=false:=by decide)(he:starEach (.Name y pn::es) X.env=(false,eval (.Name y pn) X.env)::starEach es X.env:=by rfl)(hpl:(backTo pos (starEach es X.env)).any (·.1)=false:=by rfl):DE X (.Call (.Name x p) (.Name y pn::es) [] pos) (bV n m i fs):=by
 refine PE.conseq (u8 (E:=fun _ _ _=>False) (dvs:=[]) F hr hg hm hk hb .nil dH (zZ hy ha he) hdb he hpl) fun σ H Q hq=>?_
 obtain⟨O0,r,d,hR,e,q⟩:=hq
 obtain⟨l,e1,e⟩:=bind_some e
 obtain⟨ds,e2,e⟩:=bind_some e
 split at e
 ·rename_i hn
  obtain⟨⟨rs,as'⟩,e3,e⟩:=bind_some e
  split at e
  ·rename_i hap
   have hd:=Option.some.inj e
   subst hd
   obtain⟨a,xs,q1,q2,q3⟩:=hR.own i l e1
   refine⟨.ref a,q1,O0,r,ds,hR,e2,fun vs H1 s1 il=>?_⟩
   show spD X.K n m ((.ref a::vs)++[]) H1 Q _
   rw[List.append_nil]
   have R1:=hR.same s1
   let O':Addr->Prop:=fun b=>Ow O0 r σ b/\b≠a
   have ol':jB O' H1:=fun b z=>R1.ol b z.1
   have dn:∀{d:D} {v:V},Is X.K (Ow O0 r σ) H1 d v->Is X.K O' H1 d v:=fun h=>Is.mono (Same.kp (Same.refl H1) _) R1.ol (fun _ z _=>z.1) _ _ h
   have dnL:∀{d:List D} {v:List V},IsL X.K (Ow O0 r σ) H1 d v->IsL X.K O' H1 d v:=fun h=>IsL.mono (Same.kp (Same.refl H1) _) R1.ol (fun _ z _=>z.1) _ _ h
   have q2':=s1 _ _ q2
   have q3':=dnL (q3.same s1 hR.ol)
   have ia:IsL X.K O' H1 (.lst l::ds) (.ref a::vs):=.cons (by rw[Is.lst_iff];exact⟨a,xs,rfl,.inl ⟨fun z=>z.2 rfl,.inl q2'⟩,q3'⟩) (dnL il)
   have hO:∀b,Ow O0 r σ b->O' b\/b=a:=fun b z=>by
    by_cases hb:b=a
    ·exact .inr hb
    ·exact .inl ⟨z,hb⟩
   refine⟨O',(D.lst l::ds).map .v,rs,as',by simpa using hn,R.args ol' ia,fun j l'=>?_,e3,?_⟩
   ·rw[List.getElem?_map]
    cases e1:(D.lst l::ds)[j]? with
    |none=>exact⟨(fun z=>by cases z),(fun z=>by cases z),(fun _ z=>by cases z)⟩
    |some y=>exact⟨(fun z=>by cases z),(fun z=>by cases z),(fun _ z=>by cases z)⟩
   ·cases rs with
    |v d'=>
     exact fun v H2 pf iv=>q v H2 (s1.trans pf.same) (zGI hO (pf.same _ _ q2') (q3'.same pf.same ol') _ _ hap iv)
    |f l'=>
     refine fun b ys H2 pf nb eb il2=>q _ H2 (s1.trans pf.same) ?_
     have hap':apL l l'=true:=by
      have:apD l (.lst l')=true:=hap
      unfold apD at this
      rw[Bool.and_eq_true] at this
      exact this.2
     have hba:¬Ow O0 r σ b:=R1.nofresh nb
     have i3:IsL X.K O' H2 l' ys:=IsL.mono (Same.kp (Same.refl H2) _) (fun c z=>z.elim (fun z=>by
      obtain⟨zs,ez,mb⟩:=ol' c z;exact⟨zs,pf.same _ _ ez,mb⟩) fun z=>by subst z;exact⟨.lst ys,eb,trivial⟩) (fun _ z _=>.inl z) _ _ il2
     show Is X.K (Ow O0 r σ) H2 (.lst l') (.ref b)
     rw[Is.lst_iff]
     exact⟨b,ys,rfl,.inl ⟨hba,.inl eb⟩,tO hO (pf.same _ _ q2') (q3'.same pf.same ol') _ _ hap' i3⟩
    |g ks l'=>exact absurd (show apD l (.dct ks l')=true from hap) (by unfold apD;simp)
  ·cases e
 ·cases e
end
end DD
namespace ZZ
open PySem
end ZZ
namespace DD
open PySem PySem.Spec PyProof.Rows L2
open PySem PySem.Spec PyProof.Rows L2 PySem.W
open PySem PySem.Spec PyProof.Rows L2 PySem.W
open PySem PySem.Spec PyProof.Rows L2 PySem.W
open PySem PySem.Spec PyProof.Rows L2 PySem.W
open PySem PySem.Spec PyProof.Rows L2 PySem.W
open PySem PySem.Spec PyProof.Rows L2 PySem.W PySem.Calls Builtin Builtin.ObjectAttr Builtin.Getset_descriptor
open PySem PySem.Spec PyProof.Rows L2 PySem.W
open PySem PySem.Spec PyProof.Rows L2 PySem.W
open PySem PySem.Spec PyProof.Rows L2 PySem.W
open PySem PySem.Spec PyProof.Rows L2 PySem.W
open PySem PySem.Spec PyProof.Rows L2 PySem.W
open PySem PySem.Spec PyProof.Rows L2 PySem.W
section
variable{P:Program}{w:World}{K:Fg}{mg:Str->Option Value}{base:Heap}{N:List Str}{qual:Str}{scope:Scope}{f0:Addr}{cd:Value}{A:Around}{outer:List Env}{s:Shared}{H:Hp}{E:XK}
variable{k n:Nat}{fa:Addr}{fd:FuncData}{ps:List Str}{m:List Sl->Option Str}{x:Str}{p pos:Pos}{a:Expr}{es:List Expr}{fs:ML}
end
open PySem PySem.Spec PyProof.Rows L2 PySem.W
open PySem PySem.Spec PyProof.Rows L2 PySem.W
open PySem PySem.Spec PyProof.Rows L2 PySem.W
open PySem PySem.Spec PyProof.Rows L2 PySem.W
open PySem PySem.Spec PyProof.Rows L2 PySem.W
open PySem PySem.Spec PyProof.Rows L2 PySem.W
noncomputable def It3(lo c:Int)(n:Nat):It:=⟨fun i _=>i<n,fun i H x H'=>H'=H/\x=.int (lo+(i:Nat)*c),fun i _=>n<=i⟩
theorem cQ{P:Program}{w:World}{K:Fg}{tg:Expr}(it:Addr)(lo c:Int)(n:Nat):Turn P w K tg (It3 lo c n) [it] it (fun i h=>IsRangeIter h it (lo+(i:Nat)*c) ((n:Int)-(i:Nat)) c) where
 mem:=by simp
 obj:=fun i h st b hb=>by
  obtain rfl:b=it:=List.mem_singleton.mp hb
  exact⟨_,st,fun v z=>by
   have z':Data.fields _=Data.cell v:=z
   cases z'⟩
 keep:=fun i h h' st k=>k it (List.mem_singleton.mpr rfl) _ st
 item:=by
  intro X hP hw hK hc i pins s σ H E I hf st hg
  subst hP hw hK
  obtain⟨f0,f1,f2,f3,f4,f5⟩:=hf it (List.mem_singleton.mpr rfl)
  refine(Walks.range (prog:=X.prog) (w:=X.w) (I.ok.hd hc) it lo c n).item i s _ _ hg st fun v h' tk hv st' kk=>?_
  obtain⟨t,rfl⟩:=hv
  have I1:Inv X pins σ H { s with heap:=h',toks:=tk }:=I.turned (fun b o hb e=>kk b o (by simpa using hb) e) f0 f1 f3 f4 f5
  exact⟨_,rfl,ZX (s:={ s with heap:=h',toks:=tk }) (n:="range_iterator") st' rfl rfl (by decide) ⟨.int (lo+(i:Nat)*c),H,I1,⟨t,rfl⟩,⟨rfl,rfl⟩,st',fun b hb=>(hf b hb).1⟩⟩
 done:=by
  intro X hP hw hK hc i pins s σ H E I hf st hg
  subst hP hw hK
  obtain⟨f0,f1,f2,f3,f4,f5⟩:=hf it (List.mem_singleton.mpr rfl)
  exact wpAny_pyNext_range_end (I.ok.hd hc) st (by have:n<=i:=hg;omega) fun h' eb=>⟨rfl,I.turned (t':=s.toks) (fun b o hb e=>eb b o hb e) f0 f1 f3 f4 f5⟩
 self:=fun _ _ _ _ _ st h=>wpAny_pyIter_rangeiter st h
noncomputable def b3(a b c:Int):Nat:=((b-a+c-1) / c).toNat
theorem Y2{a b c:Int}(hc:0<c):(b3 a b c:Int)=Builtin.Range.rangeSize a b c:=by
 unfold b3 Builtin.Range.rangeSize
 rw[if_pos hc]
 have e:b-a+c-1=(b-a-1)+1*c:=by omega
 split
 ·have q:0<=(b-a-1) / c:=Int.ediv_nonneg (by omega) (by omega)
  rw[e,Int.add_mul_ediv_right _ _ (by omega)];omega
 ·have q:(b-a-1) / c<0:=Int.ediv_neg_of_neg_of_pos (by omega) hc
  rw[e,Int.add_mul_ediv_right _ _ (by omega)];omega
theorem zDX{a b c:Int}(h1:0<=a)(h2:a<=1000)(h3:0<=b)(h4:b<=1000)(h5:0<c)(h6:c<=1000):Builtin.Range.small a b c=true:=by
 have z:0<=Builtin.Range.rangeSize a b c/\Builtin.Range.rangeSize a b c<=1001:=by
  unfold Builtin.Range.rangeSize;rw[if_pos h5]
  split
  ·have q:0<=(b-a-1) / c:=Int.ediv_nonneg (by omega) (by omega)
   have q':(b-a-1) / c<=b-a-1:=Int.ediv_le_self _ (by omega)
   omega
  ·omega
 unfold Builtin.Range.small
 simp only[Builtin.Range.rangeFitsLong,Bool.and_eq_true,Bool.or_eq_true,decide_eq_true_eq,beq_iff_eq]
 rw[if_pos h5]
 refine⟨⟨⟨⟨?_,?_⟩,?_⟩,?_⟩,.inr ?_⟩<;>simp<;>omega
section
variable{X:Cx}{tg:Expr}
theorem pW{pins:List (Addr×Obj)}{σ:L2.St}{H:Hp}{s:Shared}{R:It->Hp->Prop}{E:Value->Shared->Prop}{lo hi c:Int}{t u v:Tok}{tk:Nat}(I:Inv X pins σ H s)(hs:Builtin.Range.small lo hi c=true)(hc:0<c)(q:R (It3 lo c (b3 lo hi c)) H):wpAny (model X.prog X.w) X.A (pyIter (.ref s.heap.objs.size)) (PIE X pins σ tg R) E { s with heap:=s.heap.push { cls:=.type "range",data:=.fields #[.int lo t,.int hi u,.int c v] },toks:=tk }:=by
 refine wpAny_pyIter_range (IsRange.new ..) hs ?_
 have I1:Inv X pins σ H { s with heap:=s.heap.push { cls:=.type "range",data:=.fields #[.int lo t,.int hi u,.int c v] },toks:=tk }:=I.kept fun b o e=>Heap.get?_push_of_some _ e
 generalize hz:(s.heap.push { cls:=.type "range",data:=.fields #[.int lo t,.int hi u,.int c v] })=h1 at I1 ⊢
 refine⟨h1.objs.size,[h1.objs.size],_,_,H,rfl,I1.kept (t':=tk) fun b o e=>Heap.get?_push_of_some _ e,cQ _ lo c (b3 lo hi c),?_,fun b hb=>?_,q⟩
 ·show IsRangeIter _ _ (lo+((0:Nat):Int)*c) ((b3 lo hi c:Int)-((0:Nat):Int)) c
  rw[Y2 hc,show lo+((0:Nat):Int)*c=lo by simp,show Builtin.Range.rangeSize lo hi c-((0:Nat):Int)=Builtin.Range.rangeSize lo hi c by simp]
  exact Heap.get?_push_size _ rfl
 ·obtain rfl:=(List.mem_singleton.mp hb)
  exact I1.fpOk (Nat.le_refl _) (I1.hok.fresh (Nat.le_refl _))
noncomputable def zHZ(ta:TA):TI:=fun σ H R=>ta σ H fun vs H1=>∃i j c:Int,vs=[.int i,.int j,.int c]/\(0<=i/\i<=1000/\0<=j/\j<=1000/\0<c/\c<=1000)/\R (It3 i c (b3 i j c)) H1
theorem p5{a b c:Expr}{ta:TA}{p pos:Pos}(hg:Gl X "range")(hm:X.mg "range" = none)(ha:PA X [a,b,c] ta)(hs:starEach [a,b,c] X.env=[(false,eval a X.env),(false,eval b X.env),(false,eval c X.env)]:=by rfl)(hs2:starEach [b,c] X.env=[(false,eval b X.env),(false,eval c X.env)]:=by rfl):PI X tg (.Call (.Name "range" p) [a,b,c] [] pos) (zHZ ta):=by
 intro pins s σ H R I h
 refine Call_ (bW I hg hm boot_range (PyProof.Rows.callWith_type1 (thn (ha pos pins s σ H _ I h) fun us s1 ⟨vs,H1,I1,r1,q1⟩=>?_) (by rw[hs,hs2]) (by rw[hs2];rfl)))
 obtain⟨i,j,k,e,⟨q1,q2,q3,q4,q5,q6⟩,q⟩:=q1
 subst e
 cases r1 with
 |cons a1 r1=>cases r1 with
  |cons a2 r1=>cases r1 with
   |cons a3 r1=>
    cases r1
    obtain⟨t,rfl⟩:=a1
    obtain⟨t',rfl⟩:=a2
    obtain⟨t2,rfl⟩:=a3
    exact call_range_3 (by omega) (pW I1 (zDX q1 q2 q3 q4 q5 q6) q5 q) (.inl (PyProof.noPylong_small (by omega)))
end
section
variable{X:Cx}{tg l l2 l3:Expr}{f g h:ME}{p pos:Pos}
noncomputable def zGN(lo c:Int)(n:Nat):List D:=(List.range n).map fun(i:Nat)=>.int (lo+(i:Int)*c)
theorem QS{K:Fg}{O M:Addr->Prop}{H:Hp}(lo c:Int)(n:Nat):zDK K O M H (It3 lo c n) (zGN lo c n):=by
 intro i H1 O' kp oo
 have hl:(zGN lo c n).length=n:=by simp[zGN]
 refine⟨fun hi=>⟨by rw[hl] at hi;exact hi,fun x H' y=>?_⟩,fun hi=>by rw[hl] at hi;exact Nat.le_of_eq hi.symm⟩
 obtain⟨rfl,rfl⟩:=y
 refine⟨Same.refl _,fun d e=>?_⟩
 rw[hl] at hi
 unfold zGN at e
 rw[List.getElem?_map,List.getElem?_range hi] at e
 cases e
 rw[Is.int_iff]
noncomputable def ZK(f g h:ME):ML:=fun r=>(f r).bind fun d=>(intD d).bind fun i=>(g r).bind fun d=>(intD d).bind fun j=>(h r).bind fun d=>(intD d).bind fun c=>if 0<=i/\i<=1000/\0<=j/\j<=1000/\0<c/\c<=1000 then some (zGN i c (b3 i j c)) else none
theorem zCD(hg:Gl X "range")(hm:X.mg "range" = none)(ha:DE X l f)(hb:DE X l2 g)(hc:DE X l3 h)(hs:starEach [l,l2,l3] X.env=[(false,eval l X.env),(false,eval l2 X.env),(false,eval l3 X.env)]:=by rfl)(hs2:starEach [l2,l3] X.env=[(false,eval l2 X.env),(false,eval l3 X.env)]:=by rfl)(hs3:starEach [l3] X.env=[(false,eval l3 X.env)]:=by rfl):DI X tg (.Call (.Name "range" p) [l,l2,l3] [] pos) (ZK f g h):=by
 refine PI.conseq (p5 hg hm (zZ ha (zZ hb (zZ hc xA hs3) (by rw[hs2,hs3])) (by rw[hs,hs2])) hs hs2) fun σ H Rr hq=>?_
 obtain⟨O0,r,ds,hR,e,q⟩:=hq
 obtain⟨d,e1,y1⟩:=bind_some e
 obtain⟨i,z1,y2⟩:=bind_some y1
 obtain⟨d2,e2,y3⟩:=bind_some y2
 obtain⟨j,z2,y4⟩:=bind_some y3
 obtain⟨d3,e3,y5⟩:=bind_some y4
 obtain⟨c,z3,y6⟩:=bind_some y5
 cases qF z1
 cases qF z2
 cases qF z3
 split at y6
 ·rename_i hj
  cases y6
  refine⟨O0,r,_,hR,e1,fun v H1 s1 i1=>⟨O0,r,_,hR.same s1,e2,fun v2 H2 s2 i2=>⟨O0,r,_,(hR.same s1).same s2,e3,fun v3 H3 s3 i3=>?_⟩⟩⟩
  rw[Is.int_iff] at i1 i2 i3
  exact⟨i,j,c,by rw[i1,i2,i3],hj,q _ H3 ((s1.trans s2).trans s3) (QS i c _)⟩
 ·cases y6
end
open PySem PySem.Spec PyProof.Rows L2 PySem.W
open PySem PySem.Spec PyProof.Rows L2 PySem.W
open PySem PySem.Spec PyProof.Rows L2 PySem.W
open PySem PySem.Spec PyProof.Rows L2 PySem.W
open PySem PySem.Spec PyProof.Rows L2 PySem.W
end DD
namespace L2
open PySem PySem.Spec PyProof.Rows
section
variable{κ:Type}[DecidableEq κ]
noncomputable def W2(kvs:List (κ×V))(k:κ):Option V:=(kvs.find? fun kv=>decide (kv.1=k)).map (·.2)
noncomputable def pX(kvs:List (κ×V))(k:κ)(v:V):List (κ×V):=
 if (kvs.any fun kv=>decide (kv.1=k))=true then kvs.map (fun kv=>if kv.1=k then (kv.1,v) else kv) else kvs++[(k,v)]
theorem b8{p:κ×V}{r:List (κ×V)}{k:κ}(e:p.1=k):W2 (p::r) k=some p.2:=by simp[W2,List.find?_cons,e]
theorem b9{p:κ×V}{r:List (κ×V)}{k:κ}(e:¬p.1=k):W2 (p::r) k=W2 r k:=by simp[W2,List.find?_cons,e]
theorem RelO.isSome_eq{o:Option V}{u:Option Value}(r:RelO o u):o.isSome=u.isSome:=by
 cases o with
 |none=>cases u with
  |none=>rfl
  |some _=>exact(show False from r).elim
 |some _=>cases u with
  |none=>exact(show False from r).elim
  |some _=>rfl
theorem KV.val{kvs:List (κ×V)}{vs:List (κ×Value)}(r:KV kvs vs)(k:κ):RelO (W2 kvs k) (valueAt vs k):=by
 unfold KV at r
 induction r with
 |nil=>exact True.intro
 |@cons p q ps qs h t ih=>
  obtain⟨h1,h2⟩:=h
  by_cases e:p.1=k
  ·have e':q.1=k:=h1.symm.trans e
   have b:valueAt (q::qs) k=some q.2:=by simp[valueAt,List.find?_cons,e']
   rw[b8 e,b];exact h2
  ·have e':¬q.1=k:=fun z=>e (h1.trans z)
   have b:valueAt (q::qs) k=valueAt qs k:=by simp[valueAt,List.find?_cons,e']
   rw[b9 e,b];exact ih
theorem KV.any{kvs:List (κ×V)}{vs:List (κ×Value)}(r:KV kvs vs)(k:κ):(kvs.any fun kv=>decide (kv.1=k))=vs.any fun kv=>decide (kv.1=k):=by
 unfold KV at r
 induction r with
 |nil=>rfl
 |cons h t ih=>rw[List.any_cons,List.any_cons,ih,h.1]
theorem KV.repl{kvs:List (κ×V)}{vs:List (κ×Value)}(r:KV kvs vs)(k:κ){y:V}{u:Value}(ry:RelV y u):KV (kvs.map fun kv=>if kv.1=k then (kv.1,y) else kv) (vs.map fun kv=>if kv.1=k then (kv.1,u) else kv):=by
 unfold KV at r ⊢
 induction r with
 |nil=>exact .nil
 |@cons p q ps qs h t ih=>
  rw[List.map_cons,List.map_cons]
  refine .cons ?_ ih
  obtain⟨h1,h2⟩:=h
  by_cases e:p.1=k
  ·rw[if_pos e,if_pos (h1.symm.trans e)];exact⟨h1,ry⟩
  ·rw[if_neg e,if_neg (fun z=>e (h1.trans z))];exact⟨h1,h2⟩
theorem KV.put{kvs:List (κ×V)}{vs:List (κ×Value)}(r:KV kvs vs)(k:κ){y:V}{u:Value}(ry:RelV y u):KV (pX kvs k y) (stored vs k u):=by
 unfold pX stored
 rw[r.any k]
 by_cases e:(vs.any fun kv=>decide (kv.1=k))=true
 ·rw[if_pos e,if_pos e];exact r.repl k ry
 ·rw[if_neg e,if_neg e];exact Paired.snoc r ⟨rfl,ry⟩
end
theorem zBJ{P:Program}{w:World}{k:Key}{u:Value}(r:RelV (kV k) u):(yH P w).is k u=true:=by
 cases k with
 |inl i=>obtain⟨t,e⟩:=(show ∃t,u=Value.int i t from r);subst e;exact dQ P w i t
 |inr x=>obtain⟨t,e⟩:=(show ∃t,u=Value.str x t from r);subst e;exact dP P w x t
theorem gA{P:Program}{w:World}:∀{ks:List Key} {us:List Value},Vals (ks.map kV) us->ItemsAre (yH P w) ks us
 |[],_,r=>by rw[List.map_nil] at r;cases r;exact .nil
 |k::ks,_,r=>by
  rw[List.map_cons] at r
  cases r with
  |cons h t=>exact .cons (zBJ h) (gA t)
noncomputable abbrev KT(H:Hp):List (List Key×V)->List (List Key×Addr×Value)->Prop:=Paired fun p q=>p.1=q.1/\H q.2.1=some (.tup (p.1.map kV))/\RelV p.2 q.2.2
theorem KT.val{H:Hp}{kvs:List (List Key×V)}{xs:List (List Key×Addr×Value)}(r:KT H kvs xs)(k:List Key):RelO (W2 kvs k) ((atKey xs k).map (·.2)):=by
 induction r with
 |nil=>exact True.intro
 |@cons p q ps qs h t ih=>
  obtain⟨h1,_,h2⟩:=h
  by_cases e:p.1=k
  ·have e':q.1=k:=h1.symm.trans e
   have b:atKey (q::qs) k=some q.2:=by simp[atKey,List.find?_cons,e']
   rw[b8 e,b];exact h2
  ·have e':¬q.1=k:=fun z=>e (h1.trans z)
   have b:atKey (q::qs) k=atKey qs k:=by simp[atKey,List.find?_cons,e']
   rw[b9 e,b];exact ih
section
variable{P:Program}{w:World}{H:Hp}{h:Heap}{a:Addr}
theorem zFW{u:HO}(ok:HOk P w H h)(e:Rd H a u):ObjOk P w H h a u:=e.ok ok
theorem zDE{kvs:List (Key×V)}(ok:HOk P w H h)(e:Rd H a (.dK kvs)):kvs.length<=sizeLine/\(a == sysModules)=false/\∃vs,KV kvs vs/\h.DictOf (yH P w) a vs:=
 show ObjOk P w H h a (.dK kvs) from zFW ok e
theorem zBG{ks:List Key}(ok:HOk P w H h)(e:H a=some (.tup (ks.map kV))):(tupleKind (yH P w)).is h ks a:=by
 obtain⟨_,its,r,o,h1,h2,n,h3⟩:=(show ObjOk P w H h a (.tup (ks.map kV)) from ok a _ e)
 exact⟨o,its.toArray,n,h1,h2,h3,by simpa using gA r⟩
theorem zGC{kvs:List (List Key×V)}(ok:HOk P w H h)(e:Rd H a (.dT kvs)):kvs.length<=sizeLine/\(a == sysModules)=false /\
  ∃xs,KT H kvs xs/\h.DictOfH (tupleKind (yH P w)) a xs:=by
 obtain⟨z,y,xs,r,o,es,ep,h1,h2,h3,h4,h5⟩:=(show ObjOk P w H h a (.dT kvs) from zFW ok e)
 refine⟨z,y,xs,r,o,es,ep,h1,h2,h3,h4,fun x hx=>?_,h5⟩
 have all:∀{l:List (List Key×V)} {m:List (List Key×Addr×Value)},KT H l m->∀x∈m,(tupleKind (yH P w)).is h x.1 x.2.1:=by
  intro l m q
  induction q with
  |nil=>intro x hx;exact nomatch hx
  |@cons p q ps qs hq t ih=>
   intro x hx
   rcases List.mem_cons.mp hx with e|hx
   ·subst e
    exact zBG ok (by rw[<-hq.1];exact hq.2.1)
   ·exact ih x hx
 exact all r x hx
end
noncomputable def zIT(H:Hp)(a:Addr)(y:V)(r:Option V):Prop:=
 (∃kvs k,Rd H a (.dK kvs)/\y=kV k/\r=W2 kvs k)\/∃kvs k b,Rd H a (.dT kvs)/\y=.ref b/\H b=some (.tup (k.map kV))/\r=W2 kvs k
section
variable{X:Cx}{pins:List (Addr×Obj)}{σ:St}{H:Hp}{s:Shared}{a:Addr}{y v:V}{u r:Value}{o:Option V}{A:Around}{E:Value->Shared->Prop}
theorem Inv.big(I:Inv X pins σ H s):sysModules<s.heap.objs.size:=by
 have h:mainGlobals<s.heap.objs.size:=(I.mod.glob.keeps I.bk).lt
 exact Nat.lt_trans (by decide) h
theorem tE{Q:Value->Shared->Prop}(hu:A.units+1<cLine)(I:Inv X pins σ H s)(g:zIT H a y (some v))(ry:RelV y u)(h:∀w' s',Inv X pins σ H s'->RelV v w'->Q w' s'):wpAny (model X.prog X.w) A (getItem (.ref a) u) Q E s:=by
 rcases g with⟨kvs,k,e,ey,l⟩|⟨kvs,k,b,e,ey,eb,l⟩
 ·subst ey
  obtain⟨z,hd,vs,rel,dd⟩:=zDE I.hok e
  obtain⟨w',hw,rw'⟩:=RelO.some_of (v:=v) (o:=valueAt vs k) (by rw[l];exact rel.val k)
  exact wpAny_getItem_of (zBJ ry) dd.mapOf hw (h w' _ (I.tok _) rw')
 ·subst ey
  cases (show u=Value.ref b from ry)
  obtain⟨z,hd,xs,rel,dd⟩:=zGC I.hok e
  obtain⟨w',hw,rw'⟩:=RelO.some_of (v:=v) (o:=(atKey xs k).map (·.2)) (by rw[l];exact rel.val k)
  obtain⟨p,hp,hp2⟩:=Option.map_eq_some_iff.mp hw
  refine wpAny_getItem_heap (tupleKind_room_in1 hu) (zBG I.hok eb) dd hp ?_
  rw[hp2]
  exact h w' _ (I.tok _) rw'
theorem zFL{P:Program}{w:World}{H':Hp}{h':Heap}{kvs:List (Key×V)}{vs:List (Key×Value)}(z:kvs.length<=sizeLine)(hd:(a == sysModules)=false)(rel:KV kvs vs)(dd:h'.DictOf (yH P w) a vs):ObjOk P w H' h' a (.dK kvs):=⟨z,hd,vs,rel,dd⟩
end
noncomputable def zIS(i:Expr):Prop:=∀ov iv,subscripted i false ov iv=operate [ov,iv] (getItem ov iv)
theorem JF{prog:Program}{w:World}{A:Around}{E:Value->Shared->Prop}{s:Shared}{env:Env}{value slice:Expr}{pos:Pos}{T id:String}{Q:Value->Shared->Prop}(hl:typeLookup (.type T) "__getitem__" = pure (some (.builtin id)))(hs:zIS slice)(h:wpAny (model prog w) A (eval value env) (fun o s₁=>wpAny (model prog w) A (eval slice env) (fun i s₂=>s₂.TypeIs o T/\wpAny (model prog w) A (getItem o i) Q E s₂) E s₁) E s):wpAny (model prog w) A (eval (.Subscript value slice pos) env) Q E s:=by
 refine Subscript_ (wpAny_mono h (fun o s₁ h₁=>wpAny_mono h₁ (fun i s₂ h₂=>?_) fun _ _ x=>x) fun _ _ x=>x)
 obtain⟨hT,h₂⟩:=h₂
 unfold subscriptTail
 refine wpAny_bind ?_
 rw[getitemInPython_of_ne hT.not_modules]
 refine wpAny_bind (wpAny_specialOf hT hl ?_)
 have fin:wpAny (model prog w) A (subscripted slice false o i) (fun r s₃=>wpAny (model prog w) A (letTemporaryGo value o r >>= fun _=>pure r) Q E s₃) E s₂:=by
  rw[hs o i]
  exact wpAny_operating (wpAny_mono h₂ (fun r s₃ h₃=>wpAny_bind (wpAny_letTemporaryGo (wpAny_pure h₃))) fun _ _ x=>x)
 first
  |exact wpAny_pure (wpAny_bind fin)
  |exact wpAny_bind (wpAny_pure (wpAny_bind fin))
  |exact wpAny_bind fin
theorem gM{X:Cx}{pins:List (Addr×Obj)}{σ:St}{H:Hp}{s:Shared}{a:Addr}{y:V}{o:Option V}(I:Inv X pins σ H s)(g:zIT H a y o):s.TypeIs (.ref a) "dict" := by
 rcases g with⟨kvs,k,e,_,_⟩|⟨kvs,k,b,e,_,_,_⟩
 ·obtain⟨_,_,vs,_,dd⟩:=zDE I.hok e
  exact dd.typeIs
 ·obtain⟨_,_,xs,_,dd⟩:=zGC I.hok e
  exact dd.typeIs
noncomputable def zG8(td ty:TE):TE:=fun σ H Q=>td σ H fun x H1=>ty σ H1 fun y H2=>∃a v,x=.ref a/\zIT H2 a y (some v)/\Q v H2
section
variable{X:Cx}{o i e value:Expr}{pos pos' tpos:Pos}{td ty tv:TE}
theorem zAA(hu:X.A.units+1<cLine)(ho:PE X o td)(hi:PE X i ty)(hs:zIS i):PE X (.Subscript o i pos) (zG8 td ty):=by
 intro pins s σ H Q I h
 refine JF PySem.F.slot_dict_getitem.lookup hs (thn (ho pins s σ H _ I h) fun u s1 ⟨x,H1,I1,rx,q1⟩=>thn (hi pins s1 σ H1 _ I1 q1) fun iv s2 ⟨y,H2,I2,ry,a,v,ex,g,q2⟩=>?_)
 subst ex
 obtain rfl:u=Value.ref a:=rx
 exact⟨gM I2 g,tE hu I2 g ry fun w' s3 I3 rw'=>⟨v,H2,I3,rw',q2⟩⟩
end
theorem WT{P:Program}{w:World}{H:Hp}(h:Heap)(hb:sysModules<h.objs.size):ObjOk P w H (h.push { cls:=.type "dict",data:=.dict #[] }) h.objs.size (.dK []):=
 ⟨Nat.zero_le _,beq_eq_false_iff_ne.mpr (Ne.symm (Nat.ne_of_lt hb)),[],.nil,Heap.DictOf.new h⟩
noncomputable def zDW:TE:=fun _ H Q=>∀p,H p=none->Q (.ref p) (upd H p (.dK []))
section
variable{X:Cx}{pos:Pos}
theorem XU:PE X (.Dict [] [] pos) zDW:=fun pins s σ H Q I h=>
 wpAny_Dict_empty ⟨.ref s.heap.objs.size,_,I.laid (a:=s.heap.objs.size) (o:=.dK []) (t':=s.toks) (fun _ _ q=>Heap.get?_push_of_some _ q) (Nat.le_refl _) (WT s.heap I.big),rfl,h _ (I.hok.fresh (Nat.le_refl _))⟩
end
end L2
namespace DD
open PySem PySem.Spec PyProof.Rows L2
noncomputable def zIO:D->Option Key
 |.int i=>some (.inl i)
 |.str s=>some (.inr ⟨s.toArray⟩)
 |_=>none
theorem zBI{K:Fg}{O:Addr->Prop}{H:Hp}{d:D}{v:V}{k:Key}(e:zIO d=some k)(h:Is K O H d v):v=kV k:=by
 cases d<;>first|(cases e;done)|skip
 ·cases e;rw[Is.int_iff] at h;exact h
 ·cases e;rw[Is.str_iff] at h;exact h
noncomputable def zCW(ks:List Key)(l:List D)(k:Key)(d:D):List Key×List D:=if (ks.any fun j=>decide (j=k))=true then (ks,List.zipWith (fun j e=>if j=k then d else e) ks l) else (ks++[k],l++[d])
section
variable{K:Fg}{O0:Addr->Prop}{H H1 H':Hp}{r:En}{σ:St}{i:Nat}{d:D}{v:V}{a:Addr}
theorem nQ{O:Addr->Prop}{k:Key}(hd:Is K O H d v):∀{kvs:List (Key×V)} {l:List D},IsL K O H l (kvs.map (·.2))->IsL K O H (List.zipWith (fun j e=>if j=k then d else e) (kvs.map (·.1)) l) ((kvs.map fun kv=>if kv.1=k then (kv.1,v) else kv).map (·.2))
 |[],[],_=>.nil
 |[],d'::l,h=>by unfold IsL at h;obtain⟨_,_,e,_⟩:=h;cases e
 |p::kvs,[],h=>by unfold IsL at h;cases h
 |p::kvs,d'::l,h=>by
  unfold IsL at h
  obtain⟨x,y,e,h1,h2⟩:=h
  rw[List.map_cons] at e
  cases e
  rw[List.map_cons,List.map_cons,List.map_cons,List.zipWith_cons_cons]
  refine .cons ?_ (nQ hd h2)
  by_cases q:p.1=k
  ·rw[if_pos q,if_pos q];exact hd
  ·rw[if_neg q,if_neg q];exact h1
theorem JT{O:Addr->Prop}{k:Key}{kvs:List (Key×V)}{ks:List Key}{l:List D}(hk:kvs.map (·.1)=ks)(hl:IsL K O H l (kvs.map (·.2)))(hd:Is K O H d v):(pX kvs k v).map (·.1)=(zCW ks l k d).1/\IsL K O H (zCW ks l k d).2 ((pX kvs k v).map (·.2)):=by
 subst hk
 have ea:(kvs.any fun kv=>decide (kv.1=k))=((kvs.map (·.1)).any fun j=>decide (j=k)):=by rw[List.any_map];rfl
 unfold pX zCW
 rw[ea]
 by_cases q:((kvs.map (·.1)).any fun j=>decide (j=k))=true
 ·rw[if_pos q,if_pos q]
  refine⟨?_,nQ hd hl⟩
  rw[List.map_map]
  refine List.map_congr_left fun x _=>?_
  show(if x.1=k then (x.1,v) else x).1=x.1
  split<;>rfl
 ·rw[if_neg q,if_neg q,List.map_append,List.map_append]
  exact⟨rfl,hl.append (.cons hd .nil)⟩
end
section
variable{prog:Program}{w:World}{A:Around}{E:Value->Shared->Prop}{s:Shared}
theorem dE{Q:Int->Shared->Prop}(h:Q 4238894112 { s with toks:=s.toks+1 }):wpAny (model prog w) A (pyHash .none) Q E s:=by
 unfold pyHash pyHashByItsType
 have hv:[Value.none].any Value.onHeap=false:=rfl
 refine wpAny_bind ?_
 rw[cRoomFor,if_neg (by rw[hv];exact Bool.false_ne_true)];refine wpAny_pure ?_
 refine wpAny_bind (wpAny_specialOf (T:="NoneType") rfl PySem.F.slot_NoneType_hash.lookup ?_)
 show wpAny _ _ (if (some (Value.builtin "NoneType.__hash__") == some Value.none)=true then _ else _) Q E s
 rw[if_neg (by decide)]
 refine wpAny_bind (wpAny_specialOf (T:="NoneType") rfl PySem.F.slot_NoneType_hash.lookup ?_)
 show wpAny _ _ (callSpecialIfBoundUnlessNone? .none "__hash__" _ >>= _) Q E s
 refine wpAny_bind (wpAny_callSpecialIfBoundUnlessNone?_slot (T:="NoneType") rfl PySem.F.slot_NoneType_hash
  (wpAny_call_entry (T:="NoneType") PySem.F.slot_NoneType_hash rfl PySem.F.entry_NoneType_hash
   (show wpAny _ _ (do ret (<- mkInt 4238894112)) _ _ s from wpAny_ret_mkInt ?_) (PySem.F.args_NoneType_hash_1 _)))
 exact wpAny_pure h
end
noncomputable def rQ:Option Key->Value->Bool
 |none,.none=>true
 |none,_=>false
 |some k,v=>b5 k v
theorem yO{k:Option Key}{v:Value}(h:rQ k v=true):(k=none/\v=.none)\/∃j,k=some j/\b5 j v=true:=by
 cases k with
 |none=>cases v<;>first|exact .inl ⟨rfl,rfl⟩|cases h
 |some j=>exact .inr ⟨j,rfl,h⟩
theorem bE{k:Key}:b5 k .none=false:=by cases k<;>rfl
theorem zBW{prog:Program}{w:World}{A:Around}{E:Value->Shared->Prop}{s:Shared}{Q:Bool->Shared->Prop}(h:Q true s):wpAny (model prog w) A (eqBool .none .none) Q E s:=by
 show wpAny (model prog w) A (do rule "eq-bool.same-object";pure true) Q E s
 (exact wpAny_bind (wpAny_rule (wpAny_pure h)))
noncomputable def ZC(prog:Program)(w:World):PySem.KeyKind prog w (Option Key) where
 is:=rQ
 hash:=fun k=>match k with
  |none=>4238894112
  |some k=>zJC w k
 inj:=fun v a b ha hb=>by
  rcases yO ha with⟨rfl,rfl⟩|⟨i,rfl,h1⟩
  ·rcases yO hb with⟨rfl,_⟩|⟨j,rfl,h2⟩
   ·rfl
   ·rw[bE] at h2;cases h2
  ·rcases yO hb with⟨rfl,rfl⟩|⟨j,rfl,h2⟩
   ·rw[bE] at h1;cases h1
   ·rw[(yH prog w).inj v i j h1 h2]
 byValue:=fun k v h=>by
  rcases yO h with⟨rfl,rfl⟩|⟨i,rfl,h1⟩
  ·rfl
  ·exact(yH prog w).byValue i v h1
 pyHash:=fun hv h=>by
  rcases yO hv with⟨rfl,rfl⟩|⟨i,rfl,h1⟩
  ·exact dE h
  ·exact(yH prog w).pyHash h1 h
 eqBool:=fun {A E s a b u v Q} hu hv h=>by
  rcases yO hu with⟨rfl,rfl⟩|⟨i,rfl,h1⟩
  ·rcases yO hv with⟨rfl,rfl⟩|⟨j,rfl,h2⟩
   ·exact zBW (by simpa using h)
   ·have h':Q false s:=by rw[decide_eq_false (by intro z;cases z)] at h;exact h
    rcases yD h2 with⟨n,t,rfl,rfl⟩|⟨y,t,rfl,rfl⟩
    ·exact SeqAt.EqAt.none_int n t _ _ _ _ h'
    ·exact SeqAt.EqAt.none_str y t _ _ _ _ h'
  ·rcases yO hv with⟨rfl,rfl⟩|⟨j,rfl,h2⟩
   ·have h':Q false s:=by rw[decide_eq_false (by intro z;cases z)] at h;exact h
    rcases yD h1 with⟨n,t,rfl,rfl⟩|⟨y,t,rfl,rfl⟩
    ·exact SeqAt.EqAt.int_none n t _ _ _ _ h'
    ·exact SeqAt.EqAt.str_none y t _ _ _ _ h'
   ·refine(yH prog w).eqBool h1 h2 ?_
    have e:decide (some i=some j)=decide (i=j):=by
     by_cases q:i=j
     ·rw[decide_eq_true q,decide_eq_true (by rw[q])]
     ·rw[decide_eq_false q,decide_eq_false (fun z=>q (Option.some.inj z))]
    rw[e] at h;exact h
 «strs»:=fun k x t v h=>by
  rcases yO h with⟨rfl,e⟩|⟨i,rfl,h1⟩
  ·cases e
  ·exact(yH prog w).strs i x t v h1
noncomputable def vO:Option Key->V
 |none=>.non
 |some k=>kV k
theorem zGZ{P:Program}{w:World}{k:Option Key}{u:Value}(r:RelV (vO k) u):(ZC P w).is k u=true:=by
 cases k with
 |none=>cases (show u=Value.none from r);rfl
 |some k=>exact zBJ (P:=P) (w:=w) r
noncomputable def valO(kvs:List (Key×V)):Option Key->Option V
 |none=>none
 |some k=>W2 kvs k
theorem zJW{P:Program}{w:World}{h:Heap}{a:Addr}{vs:List (Key×Value)}(d:h.DictOf (yH P w) a vs):h.MapOf (ZC P w) a (fun k=>match k with|none=>none|some k=>valueAt vs k):=by
 obtain⟨o,es,ep,ho,hc,hdat,hk,hf⟩:=d.mapOf
 refine⟨o,es,ep,ho,hc,hdat,fun e he=>?_,fun k=>?_⟩
 ·obtain⟨j,h1,h2⟩:=hk e he
  exact⟨some j,h1,h2⟩
 ·cases k with
  |some k=>exact hf k
  |none=>
   have nof:∀e∈es,rQ none e.key=false:=fun e he=>by
    obtain⟨j,h1,_⟩:=hk e he
    rcases yD (show b5 j e.key=true from h1) with⟨n,t,_,q⟩|⟨y,t,_,q⟩<;>rw[q]<;>rfl
   show findBy rQ es none=none
   unfold findBy
   rw[Array.find?_eq_none.mpr (fun e he=>by rw[nof e he];exact Bool.false_ne_true)]
   rfl
section
variable{X:Cx}{pins:List (Addr×Obj)}{σ:L2.St}{H:Hp}{s:Shared}{a:Addr}{kvs:List (Key×V)}{k:Option Key}{u r:Value}{d:V}{A:Around}{E:Value->Shared->Prop}
theorem XF{vs:List (Key×Value)}(rel:KV kvs vs)(k:Option Key):RelO (valO kvs k) (match k with|none=>none|some k=>valueAt vs k):=by
 cases k with
 |none=>exact trivial
 |some k=>exact rel.val k
theorem zJV{Q:Value->Shared->Prop}(I:Inv X pins σ H s)(e:Rd H a (.dK kvs))(ry:RelV (vO k) u)(h:∀s',Inv X pins σ H s'->Q (.bool (valO kvs k).isSome) s'):wpAny (model X.prog X.w) A (compareOp .In u (.ref a)) Q E s:=by
 obtain⟨z,hd,vs,rel,dd⟩:=zDE I.hok e
 refine wpAny_in_of (zGZ ry) hd (zJW dd) ?_
 rw[<-(XF rel k).isSome_eq]
 exact h _ (I.tok _)
end
noncomputable abbrev MD:=En->Option (List Key×List D)
noncomputable def lDc(K:Fg)(f:MD):TE:=fun σ H Q=>∃O0 r ks l,R K O0 H r σ/\f r=some (ks,l)/\∀a kvs H',Same H H'->Rd H' a (.dK kvs)->kvs.map (·.1)=ks->IsL K (Ow O0 r σ) H' l (kvs.map (·.2))->Q (.ref a) H'
noncomputable def lFd(K:Fg)(f:MD):TE:=fun σ H Q=>∃O0 r ks l,R K O0 H r σ/\f r=some (ks,l)/\∀a kvs H',Same H H'->H a=none->H' a=some (.dK kvs)->kvs.map (·.1)=ks->IsL K (fun b=>Ow O0 r σ b\/b=a) H' l (kvs.map (·.2))->Q (.ref a) H'
noncomputable def DDc(X:Cx)(e:Expr)(f:MD):Prop:=PE X e (lDc X.K f)
noncomputable def DFd(X:Cx)(e:Expr)(f:MD):Prop:=PE X e (lFd X.K f)
noncomputable def zIN(f:ME):MD:=fun r=>(f r).bind fun d=>match d with
 |.dct ks l=>some (ks,l)
 |_=>none
noncomputable def mD0:MD:=fun _=>some ([],[])
noncomputable def zC9(f:MD):ME:=fun r=>(f r).map fun q=>.dct q.1 q.2
noncomputable def zJB:D->Option (Option Key)
 |.non=>some none
 |.int i=>some (some (.inl i))
 |.str s=>some (some (.inr ⟨s.toArray⟩))
 |_=>none
noncomputable def qI:List Key->List D->Key->Option D
 |k'::ks,d::l,k=>if k'=k then some d else qI ks l k
 |_,_,_=>none
noncomputable def zBC(ks:List Key)(l:List D):Option Key->Option D
 |none=>none
 |some k=>qI ks l k
noncomputable def zDC(neg:Bool)(fk:ME)(fd:MD):MB:=fun r=>(fk r).bind fun kd=>(fd r).bind fun q=>(zJB kd).map fun k=>if neg then !(zBC q.1 q.2 k).isSome else (zBC q.1 q.2 k).isSome
theorem zBH{K:Fg}{O:Addr->Prop}{H:Hp}{d:D}{v:V}{k:Option Key}(e:zJB d=some k)(h:Is K O H d v):v=vO k:=by
 cases d<;>first|(cases e;done)|skip
 ·cases e;rw[Is.non_iff] at h;exact h
 ·cases e;rw[Is.int_iff] at h;exact h
 ·cases e;rw[Is.str_iff] at h;exact h
theorem cE{K:Fg}{O:Addr->Prop}{H:Hp}(k:Key):∀{kvs:List (Key×V)} {l:List D},IsL K O H l (kvs.map (·.2))->(∃d v,qI (kvs.map (·.1)) l k=some d/\W2 kvs k=some v/\Is K O H d v)\/(qI (kvs.map (·.1)) l k=none/\W2 kvs k=none)
 |[],[],_=>.inr ⟨rfl,rfl⟩
 |[],d'::l,h=>by unfold IsL at h;obtain⟨_,_,e,_⟩:=h;cases e
 |p::kvs,[],h=>by unfold IsL at h;cases h
 |p::kvs,d'::l,h=>by
  unfold IsL at h
  obtain⟨x,y,e,h1,h2⟩:=h
  rw[List.map_cons] at e
  cases e
  by_cases q:p.1=k
  ·exact .inl ⟨d',p.2,by rw[List.map_cons];unfold qI;rw[if_pos q],b8 q,h1⟩
  ·have e1:qI ((p::kvs).map (·.1)) (d'::l) k=qI (kvs.map (·.1)) l k:=by rw[List.map_cons];show(if p.1=k then _ else _)=_;rw[if_neg q]
   rw[e1,b9 q]
   exact cE k h2
theorem WJ{K:Fg}{O:Addr->Prop}{H:Hp}(k:Option Key){kvs:List (Key×V)}{l:List D}(h:IsL K O H l (kvs.map (·.2))):(∃d v,zBC (kvs.map (·.1)) l k=some d/\valO kvs k=some v/\Is K O H d v)\/(zBC (kvs.map (·.1)) l k=none/\valO kvs k=none):=by
 cases k with
 |none=>exact .inr ⟨rfl,rfl⟩
 |some k=>exact cE k h
section
variable{X:Cx}{a k e b o:Expr}{f g x:ME}{fd:MD}{pos ps pn p apos cpos:Pos}{nm:Str}
theorem zJ4(h:DE X a f):DDc X a (zIN f):=by
 refine PE.conseq h fun σ H Q hq=>?_
 obtain⟨O0,r,ks,l,hR,e,q⟩:=hq
 obtain⟨d,e1,e⟩:=bind_some e
 refine⟨O0,r,d,hR,e1,fun v H1 s1 i1=>?_⟩
 cases d<;>first|(cases e;done)|skip
 cases e
 rw[Is.dct_iff] at i1
 obtain⟨c,kvs,rfl,_,rd,ek,il⟩:=i1
 exact q c kvs H1 s1 rd ek il
theorem zBV:DFd X (.Dict [] [] pos) mD0:=by
 refine PE.conseq XU fun σ H Q hq=>?_
 obtain⟨O0,r,ks,l,hR,e,q⟩:=hq
 cases e
 exact fun p hp=>q p [] _ (zV hp) hp zK rfl .nil
theorem zDF(h:DFd X a fd):DE X a (zC9 fd):=by
 refine PE.conseq h fun σ H Q hq=>?_
 obtain⟨O0,r,d,hR,e,q⟩:=hq
 obtain⟨⟨ks,l⟩,e1,rfl⟩:=map_some e
 refine⟨O0,r,ks,l,hR,e1,fun c kvs H1 s1 n1 e2 ek il=>q _ H1 s1 ?_⟩
 have ol:jB (fun b=>Ow O0 r σ b\/b=c) H1:=fun b z=>z.elim (fun z=>(hR.same s1).ol b z) fun z=>by subst z;exact⟨.dK kvs,e2,trivial⟩
 rw[Is.dct_iff]
 exact⟨c,kvs,rfl,hR.nofresh n1,.inl e2,ek,IsL.mono (Same.kp (Same.refl H1) _) ol (fun _ z _=>.inl z) _ _ il⟩
theorem zB6(hk:DE X k g)(ho:DDc X o fd)(hm:behindInMarks .In o=false:=by rfl):DT X (.Compare k [.In] [o] pos) (zDC false g fd):=by
 refine PT.conseq (JV (t:=fun σ H Q=>lE X.K g σ H fun y H1=>lDc X.K fd σ H1 fun x H2=>∃c kvs j,x=.ref c/\Rd H2 c (.dK kvs)/\y=vO j/\Q (.bl (valO kvs j).isSome) H2) ?_ hm) fun σ H Q hq=>?_
 ·intro pins s σ H Q I h
  refine thn (hk pins s σ H _ I h) fun iv s1 ⟨y,H1,I1,ry,q1⟩=>thn (ho pins s1 σ H1 _ I1 q1) fun u s2 ⟨x,H2,I2,rx,c,kvs,j,ex,rd,ey,q2⟩=>?_
  subst ex ey
  obtain rfl:u=Value.ref c:=rx
  exact zJV I2 rd ry fun s3 I3=>⟨.bl (valO kvs j).isSome,H2,I3,rfl,q2⟩
 ·obtain⟨O0,r,t,hR,e,q⟩:=hq
  obtain⟨kd,e1,e⟩:=bind_some e
  obtain⟨⟨ks,l⟩,e2,e⟩:=bind_some e
  obtain⟨j,e3,rfl⟩:=map_some e
  refine⟨O0,r,kd,hR,e1,fun y H1 s1 iy=>⟨O0,r,ks,l,hR.same s1,e2,fun c kvs H2 s2 rd ek il=>⟨c,kvs,j,rfl,rd,zBH e3 iy,_,rfl,?_⟩⟩⟩
  subst ek
  have q':=q H2 (s1.trans s2)
  rcases WJ j il with⟨dd,v,p1,p2,p3⟩|⟨p1,p2⟩
  ·rw[p1] at q';rw[p2];exact q'
  ·rw[p1] at q';rw[p2];exact q'
end
open PySem PySem.Spec PyProof.Rows L2 PySem.W
open PySem PySem.Spec PyProof.Rows L2 PySem.W TS
open PySem PySem.Spec PyProof.Rows L2 PySem.W TS
open PySem PySem.Spec PyProof.Rows L2 PySem.W
theorem un1{k:Nat}{A:Around}(r:Room k A):A.units+1<cLine:=by have:=un2 r;omega
noncomputable def zBF(n:Nat)(d:D):Bool:=okD d && (toP d).canLay0 && decide ((toP d).depth<=n)
noncomputable def eqN(n:Nat)(x y:D):Option D:=if zBF n x=true/\zBF n y=true then some (.bl (PyData.eqv (toP x) (toP y))) else none
noncomputable def neN(n:Nat)(x y:D):Option D:=if zBF n x=true/\zBF n y=true then some (.bl (!PyData.eqv (toP x) (toP y))) else none
noncomputable def zHF(K:Fg)(n:Nat)(neg:Bool):R2:=fun x y H Q=>∃O dx dy,Is K O H dx x/\Is K O H dy y/\zBF n dx=true/\zBF n dy=true/\Q (.bl (if neg then !PyData.eqv (toP dx) (toP dy) else PyData.eqv (toP dx) (toP dy))) H
theorem zAF{X:Cx}{n:Nat}(hu:X.A.units+n<cLine):OpR X (compareOp .Eq) (zHF X.K n false):=by
 intro pins s σ H x y v u Q I rx ry hq
 obtain⟨O,dx,dy,ix,iy,lx,ly,q⟩:=hq
 unfold zBF at lx ly
 simp only[Bool.and_eq_true,decide_eq_true_eq] at lx ly
 obtain⟨as,qa⟩:=kI I dx x v lx.1.1 ix rx
 obtain⟨bs,qb⟩:=kI I dy y u ly.1.1 iy ry
 exact PySem.SeqAt.compareEq_reads qa qb lx.1.2 ly.1.2 (by have:=Nat.min_le_left (toP dx).depth (toP dy).depth;omega) ⟨.bl _,H,I,rfl,q⟩
theorem zAD{X:Cx}{n:Nat}(hu:X.A.units+n<cLine):OpR X (compareOp .NotEq) (zHF X.K n true):=by
 intro pins s σ H x y v u Q I rx ry hq
 obtain⟨O,dx,dy,ix,iy,lx,ly,q⟩:=hq
 unfold zBF at lx ly
 simp only[Bool.and_eq_true,decide_eq_true_eq] at lx ly
 obtain⟨as,qa⟩:=kI I dx x v lx.1.1 ix rx
 obtain⟨bs,qb⟩:=kI I dy y u ly.1.1 iy ry
 exact PySem.SeqAt.compareNe_reads qa qb lx.1.2 ly.1.2 (by have:=Nat.min_le_left (toP dx).depth (toP dy).depth;omega) ⟨.bl _,H,I,rfl,q⟩
theorem zAN{K:Fg}{n:Nat}:OpD K (zHF K n false) (eqN n):=by
 intro O H dx dy d vx vy Q ol ix iy e q
 unfold eqN at e
 split at e
 ·rename_i h
  cases e
  exact⟨O,dx,dy,ix,iy,h.1,h.2,q _ H (Same.refl H) (by rw[Is.bl_iff];rfl)⟩
 ·cases e
theorem zAL{K:Fg}{n:Nat}:OpD K (zHF K n true) (neN n):=by
 intro O H dx dy d vx vy Q ol ix iy e q
 unfold neN at e
 split at e
 ·rename_i h
  cases e
  exact⟨O,dx,dy,ix,iy,h.1,h.2,q _ H (Same.refl H) (by rw[Is.bl_iff];rfl)⟩
 ·cases e
theorem Q3{k:Nat}{A:Around}(r:Room k A)(h:16<=k):A.units+400<cLine:=by have:=r.un;omega
open PySem PySem.Spec PyProof.Rows L2 PySem.W
structure Mst where
 most:Int
 steps:Int
 wait:List D
 come:List D
 ended:D
 defs:D
noncomputable def mfs(most steps:Int)(w c:Addr)(ve vd:V):List (Str×V):=[("most",.int most),("steps",.int steps),("waiting",.ref w),("come",.ref c),("ended",ve),("defs",vd)]
structure Mch(K:Fg)(O:Addr->Prop)(H:Hp)(C a w c:Addr)(st:Mst):Prop where
 ex:∃dx xs ys ve vd,H a=some (.ins C dx (mfs st.most st.steps w c ve vd))/\H w=some (.lst xs)/\H c=some (.lst ys)/\Is K O H st.ended ve/\Is K O H st.defs vd/\IsL K O H st.wait xs/\IsL K O H st.come ys
 wc:w≠c
 oa:O a
 ow:O w
 oc:O c
noncomputable def NoOwn(r:En):Prop:=∀i:Nat,(r[i]?).bind Sl.own=none
structure McR(K:Fg)(O:Addr->Prop)(H:Hp)(C:Addr)(z:Nat)(a w c:Addr)(st:Mst)(r:En)(σ:St):Prop where
 ms:Mch K O H C a w c st
 rr:R K O H r σ
 no:NoOwn r
 me:σ[z]?=some (some (.ref a))
noncomputable def KeepM(a w c:Addr)(H H':Hp):Prop:=∀b o,H b=some o->b≠a->b≠w->b≠c->H' b=some o
theorem KeepM.refl{a w c:Addr}(H:Hp):KeepM a w c H H:=fun _ _ e _ _ _=>e
theorem KeepM.trans{a w c:Addr}{H H1 H2:Hp}(x:KeepM a w c H H1)(y:KeepM a w c H1 H2):KeepM a w c H H2:=fun b o e h1 h2 h3=>y b o (x b o e h1 h2 h3) h1 h2 h3
theorem KeepM.same{a w c:Addr}{H H':Hp}(s:Same H H'):KeepM a w c H H':=fun b o e _ _ _=>s b o e
section
variable{K:Fg}{O:Addr->Prop}{H H':Hp}{z:Nat}{C a w c:Addr}{st:Mst}{r:En}{σ:St}
theorem NoOwn.at{q:Sl->Option (List D)}(hq:∀x l,q x=some l->x.own=some l)(h:NoOwn r){b:Addr}:¬AtS q r σ b:=fun⟨i,l,e,_⟩=>by
 obtain⟨x,e1,e2⟩:=Option.bind_eq_some_iff.mp e
 have:=h i
 rw[e1] at this
 rw[show(some x).bind Sl.own=x.own from rfl,hq x l e2] at this
 cases this
theorem NoOwn.ow(h:NoOwn r){b:Addr}:Ow O r σ b↔O b:=⟨fun z=>z.elim id fun z=>absurd z (h.at fun _ _ e=>e),.inl⟩
theorem McR.is(m:McR K O H C z a w c st r σ){d:D}{v:V}:Is K (Ow O r σ) H' d v↔Is K O H' d v:=by
 rw[show Ow O r σ=O from funext fun b=>propext m.no.ow]
theorem McR.ol(m:McR K O H C z a w c st r σ):jB O H:=m.rr.o0
theorem Mch.kp(m:Mch K O H C a w c st)(k:KeepM a w c H H'):m9 O H H':=fun b o e n=>k b o e (fun z=>n (z ▸ m.oa)) (fun z=>n (z ▸ m.ow)) fun z=>n (z ▸ m.oc)
theorem McR.step{st':Mst}(m:McR K O H C z a w c st r σ)(k:KeepM a w c H H')(n:Mch K O H' C a w c st'):McR K O H' C z a w c st' r σ:=by
 have kp:=m.ms.kp k
 have ol:jB O H':=fun b z=>by
  obtain⟨dx,xs,ys,ve,vd,e1,e2,e3,_⟩:=n.ex
  by_cases h1:b=a
  ·rw[h1];exact⟨_,e1,trivial⟩
  ·by_cases h2:b=w
   ·rw[h2];exact⟨_,e2,trivial⟩
   ·by_cases h3:b=c
    ·rw[h3];exact⟨_,e3,trivial⟩
    ·obtain⟨o,e,mb⟩:=m.ol b z
     exact⟨o,k b o e h1 h2 h3,mb⟩
 refine⟨n,⟨m.rr.len,fun i d e=>?_,fun i l e=>?_,m.rr.apart,ol,m.rr.loc,m.rr.par,fun i ks l e=>?_⟩,m.no,m.me⟩
 ·obtain⟨v,e1,q⟩:=m.rr.val i d e
  rw[m.is] at q
  exact⟨v,e1,m.is.mpr (Is.mono kp m.ol (fun _ z _=>z) _ _ q)⟩
 ·have:=m.no i
  rw[qX e] at this;cases this
 ·have:=m.no i
  rw[e] at this;cases this
theorem Mch.mono(m:Mch K O H C a w c st)(ol:jB O H)(s:Same H H'):Mch K O H' C a w c st:=by
 obtain⟨dx,xs,ys,ve,vd,e1,e2,e3,e4,e5,e6,e7⟩:=m.ex
 exact⟨⟨dx,xs,ys,ve,vd,s _ _ e1,s _ _ e2,s _ _ e3,e4.same s ol,e5.same s ol,e6.same s ol,e7.same s ol⟩,m.wc,m.oa,m.ow,m.oc⟩
theorem McR.same(m:McR K O H C z a w c st r σ)(s:Same H H'):McR K O H' C z a w c st r σ:=m.step (KeepM.same s) (m.ms.mono m.ol s)
theorem McR.aw(m:Mch K O H C a w c st):a≠w/\a≠c:=by
 obtain⟨dx,xs,ys,ve,vd,e1,e2,e3,_⟩:=m.ex
 exact⟨zF6 e1 e2 (by intro z;cases z),zF6 e1 e3 (by intro z;cases z)⟩
theorem Mch.put{H2:Hp}{dx:Addr}{xs ys:List V}{ve vd:V}{most steps:Int}{wa co:List D}{en de:D}(m:Mch K O H C a w c st)(ol:jB O H)(k:KeepM a w c H H2)(e1:H2 a=some (.ins C dx (mfs most steps w c ve vd)))(e2:H2 w=some (.lst xs))(e3:H2 c=some (.lst ys))(h1:Is K O H en ve)(h2:Is K O H de vd)(h3:IsL K O H wa xs)(h4:IsL K O H co ys):Mch K O H2 C a w c ⟨most,steps,wa,co,en,de⟩:=by
 have kp:=m.kp k
 have f:∀(b:Addr),O b->H b≠none->O b:=fun _ z _=>z
 exact⟨⟨dx,xs,ys,ve,vd,e1,e2,e3,Is.mono kp ol f _ _ h1,Is.mono kp ol f _ _ h2,IsL.mono kp ol f _ _ h3,IsL.mono kp ol f _ _ h4⟩,m.wc,m.oa,m.ow,m.oc⟩
end
noncomputable abbrev MEf:=Mst->En->Option (D×Mst)
noncomputable def lM(K:Fg)(C:Addr)(z:Nat)(m:MEf):TE:=fun σ H Q=>∃O a w c st r d st',McR K O H C z a w c st r σ/\m st r=some (d,st')/\∀v H',McR K O H' C z a w c st' r σ->Is K O H' d v->KeepM a w c H H'->Q v H'
noncomputable def spM(K:Fg)(C:Addr)(n:Nat)(m:Mst->List D->Option (D×Mst)):Sp:=fun vs H Q _=>∃O a w c st ds us d st',vs=.ref a::us/\ds.length=n/\Mch K O H C a w c st/\jB O H/\IsL K O H ds us/\m st ds=some (d,st')/\∀v H',Mch K O H' C a w c st'->jB O H'->Is K O H' d v->KeepM a w c H H'->Q v H'
section
variable{X:Cx}{C:Addr}{z:Nat}{e o:Expr}{f:ME}{pos apos bpos cpos npos:Pos}{x:Str}
noncomputable abbrev DMe(X:Cx)(C:Addr)(z:Nat)(e:Expr)(m:MEf):Prop:=PE X e (lM X.K C z m)
theorem xE(h:DE X e f):DMe X C z e (fun st r=>(f r).map fun d=>(d,st)):=by
 refine PE.conseq h fun σ H Q hq=>?_
 obtain⟨O,a,w,c,st,r,d,st',m,e1,q⟩:=hq
 obtain⟨d',e2,e3⟩:=map_some e1
 cases e3
 exact⟨O,r,d,m.rr,e2,fun v H' s iv=>q v H' (m.same s) ((m.same s).is.mp iv) (KeepM.same s)⟩
theorem wM{O:Addr->Prop}{H:Hp}{a w c:Addr}{st:Mst}{r:En}{σ:St}(m:McR X.K O H C z a w c st r σ):σ[z]?=some (some (.ref a)):=m.me
noncomputable def zCV(f:Str)(sel:Mst->D):Prop:=∀(K:Fg) (O:Addr->Prop) (H:Hp) (st:Mst) (w c:Addr) (ve vd:V),Is K O H st.ended ve->Is K O H st.defs vd->∃v,(mfs st.most st.steps w c ve vd).lookup f=some v/\Is K O H (sel st) v
theorem zBS:zCV "most" fun st=>.int st.most:=fun K O H st w c ve vd _ _=>⟨_,rfl,by rw[Is.int_iff]⟩
theorem cF:zCV "steps" fun st=>.int st.steps:=fun K O H st w c ve vd _ _=>⟨_,rfl,by rw[Is.int_iff]⟩
theorem uJ:zCV "ended" fun st=>st.ended:=fun K O H st w c ve vd h _=>⟨_,rfl,h⟩
theorem uE{fn:Str}{sel:Mst->D}(hv:PE X (.Name x npos) (jX z))(cl:Cls X.K C)(na:NoAttr X.K C fn)(hf:zCV fn sel)(hb:attributeBase (.Name x npos) fn X.env (eval (.Name x npos) X.env)=eval (.Name x npos) X.env:=by rfl):DMe X C z (.Attribute (.Name x npos) fn pos) (fun st _=>some (sel st,st)):=by
 refine PE.conseq (v6 hv hb) fun σ H Q hq=>?_
 obtain⟨O,a,w,c,st,r,d,st',m,e1,q⟩:=hq
 cases e1
 obtain⟨dx,xs,ys,ve,vd,g1,g2,g3,g4,g5,g6,g7⟩:=m.ms.ex
 obtain⟨v,l,iv⟩:=hf X.K O H st w c ve vd g4 g5
 exact⟨.ref a,wM m,a,C,dx,_,v,rfl,g1,cl,na,l,q v H m iv (KeepM.refl H)⟩
noncomputable def JS(st:Mst)(d:D):Mst:={ st with wait:=st.wait++[d] }
noncomputable def zEA(st:Mst)(d:D):Mst:={ st with come:=st.come++[d] }
theorem ZI(hv:PE X (.Name x npos) (jX z))(cl:Cls X.K C)(na:NoAttr X.K C "waiting")(h:DE X e f)(hs:starEach [e] X.env=(false,eval e X.env)::starEach [] X.env:=by rfl)(hb:attributeBase (.Name x npos) "waiting" X.env (eval (.Name x npos) X.env)=eval (.Name x npos) X.env:=by rfl)(hbase:attributeBase (.Attribute (.Name x npos) "waiting" bpos) "append" X.env (eval (.Attribute (.Name x npos) "waiting" bpos) X.env)=eval (.Attribute (.Name x npos) "waiting" bpos) X.env:=by rfl)(hfew:((backTo cpos (starEach [e] X.env)).all (fun x=>!x.1) && (backToKw cpos (keywordEach [] X.env)).all (fun x=>x.1.isSome)
   && decide (([e]:List Expr).length+([]:List Keyword).length+(if ([]:List Keyword).isEmpty then 0 else 1)<30))=true:=by rfl)(hline:(apos.endLine == cpos.line)=true:=by rfl)(hplain:(backTo cpos (starEach [] X.env)).any (·.1)=false:=by rfl):DMe X C z (.Call (.Attribute (.Attribute (.Name x npos) "waiting" bpos) "append" apos) [e] [] cpos) (fun st r=>(f r).bind fun d=>if st.wait.length<sizeLine then some (.non,JS st d) else none):=by
 refine PE.conseq (p8 PySem.F.plainAttrs_list PySem.F.slot_list_append PySem.F.type_list_append jD (v6 hv hb) (zZ h xA hs) hbase hfew hline hs hplain) fun σ H Q hq=>?_
 obtain⟨O,a,w,c,st,r,d,st',m,e1,q⟩:=hq
 obtain⟨d',e2,e3⟩:=bind_some e1
 split at e3
 ·rename_i hl
  cases e3
  obtain⟨dx,xs,ys,ve,vd,g1,g2,g3,g4,g5,g6,g7⟩:=m.ms.ex
  refine⟨.ref a,wM m,a,C,dx,_,.ref w,rfl,g1,cl,na,rfl,.inl ⟨rfl,_,SqL.of g2⟩,O,r,d',m.rr,e2,fun v H1 s1 iv=>?_⟩
  have m1:=m.same s1
  have aw:=McR.aw m.ms
  refine⟨w,xs,v,rfl,rfl,s1 _ _ g2,by rw[<-g6.length];exact hl,?_⟩
  have k1:KeepM a w c H1 (upd H1 w (.lst (xs++[v]))):=fun b o e _ h2 _=>by rw[zI h2];exact e
  have n:=Mch.put (K:=X.K) (H2:=upd H1 w (.lst (xs++[v]))) (wa:=st.wait++[d']) m1.ms m1.ol k1 (by rw[zI aw.1];exact s1 _ _ g1) zK (by rw[zI m.ms.wc.symm];exact s1 _ _ g3) (g4.same s1 m.ol) (g5.same s1 m.ol) ((g6.same s1 m.ol).append (.cons (m1.is.mp iv) .nil)) (g7.same s1 m.ol)
  exact q .non _ (m1.step k1 n) (by rw[Is.non_iff]) ((KeepM.same s1).trans k1)
 ·cases e3
theorem zA5(hv:PE X (.Name x npos) (jX z))(cl:Cls X.K C)(na:NoAttr X.K C "come")(h:DE X e f)(hs:starEach [e] X.env=(false,eval e X.env)::starEach [] X.env:=by rfl)(hb:attributeBase (.Name x npos) "come" X.env (eval (.Name x npos) X.env)=eval (.Name x npos) X.env:=by rfl)(hbase:attributeBase (.Attribute (.Name x npos) "come" bpos) "append" X.env (eval (.Attribute (.Name x npos) "come" bpos) X.env)=eval (.Attribute (.Name x npos) "come" bpos) X.env:=by rfl)(hfew:((backTo cpos (starEach [e] X.env)).all (fun x=>!x.1) && (backToKw cpos (keywordEach [] X.env)).all (fun x=>x.1.isSome)
   && decide (([e]:List Expr).length+([]:List Keyword).length+(if ([]:List Keyword).isEmpty then 0 else 1)<30))=true:=by rfl)(hline:(apos.endLine == cpos.line)=true:=by rfl)(hplain:(backTo cpos (starEach [] X.env)).any (·.1)=false:=by rfl):DMe X C z (.Call (.Attribute (.Attribute (.Name x npos) "come" bpos) "append" apos) [e] [] cpos) (fun st r=>(f r).bind fun d=>if st.come.length<sizeLine then some (.non,zEA st d) else none):=by
 refine PE.conseq (p8 PySem.F.plainAttrs_list PySem.F.slot_list_append PySem.F.type_list_append jD (v6 hv hb) (zZ h xA hs) hbase hfew hline hs hplain) fun σ H Q hq=>?_
 obtain⟨O,a,w,c,st,r,d,st',m,e1,q⟩:=hq
 obtain⟨d',e2,e3⟩:=bind_some e1
 split at e3
 ·rename_i hl
  cases e3
  obtain⟨dx,xs,ys,ve,vd,g1,g2,g3,g4,g5,g6,g7⟩:=m.ms.ex
  refine⟨.ref a,wM m,a,C,dx,_,.ref c,rfl,g1,cl,na,rfl,.inl ⟨rfl,_,SqL.of g3⟩,O,r,d',m.rr,e2,fun v H1 s1 iv=>?_⟩
  have m1:=m.same s1
  have aw:=McR.aw m.ms
  refine⟨c,ys,v,rfl,rfl,s1 _ _ g3,by rw[<-g7.length];exact hl,?_⟩
  have k1:KeepM a w c H1 (upd H1 c (.lst (ys++[v]))):=fun b o e _ _ h2=>by rw[zI h2];exact e
  have n:=Mch.put (K:=X.K) (H2:=upd H1 c (.lst (ys++[v]))) (co:=st.come++[d']) m1.ms m1.ol k1 (by rw[zI aw.2];exact s1 _ _ g1) (by rw[zI m.ms.wc];exact s1 _ _ g2) zK (g4.same s1 m.ol) (g5.same s1 m.ol) (g6.same s1 m.ol) ((g7.same s1 m.ol).append (.cons (m1.is.mp iv) .nil))
  exact q .non _ (m1.step k1 n) (by rw[Is.non_iff]) ((KeepM.same s1).trans k1)
 ·cases e3
theorem mV{α:Type}{l:List α}{d:α}(h:l.getLast?=some d):l[l.length-1]?=some d/\l=l.dropLast++[d]:=by
 rw[List.getLast?_eq_getElem?] at h
 refine⟨h,?_⟩
 have hn:l≠[]:=by rintro rfl;simp at h
 rw[List.getElem?_eq_getElem (by have:=List.length_pos_iff.mpr hn;omega)] at h
 have:=List.dropLast_concat_getLast hn
 rw[List.getLast_eq_getElem,Option.some.inj h] at this
 exact this.symm
theorem IsL.last{K:Fg}{O:Addr->Prop}{H:Hp}{l:List D}{xs:List V}{d:D}(h:IsL K O H l xs)(e:l.getLast?=some d):∃y,xs[xs.length-1]?=some y/\Is K O H d y/\IsL K O H l.dropLast xs.dropLast:=by
 obtain⟨y,e1,iy⟩:=h.get (mV e).1
 rw[h.length] at e1
 refine⟨y,e1,iy,?_⟩
 rw[List.dropLast_eq_take,List.dropLast_eq_take,h.length]
 exact h.take _
theorem zA3(hv:PE X (.Name x npos) (jX z))(cl:Cls X.K C)(na:NoAttr X.K C "waiting")(hb:attributeBase (.Name x npos) "waiting" X.env (eval (.Name x npos) X.env)=eval (.Name x npos) X.env:=by rfl)(hbase:attributeBase (.Attribute (.Name x npos) "waiting" bpos) "pop" X.env (eval (.Attribute (.Name x npos) "waiting" bpos) X.env)=eval (.Attribute (.Name x npos) "waiting" bpos) X.env:=by rfl)(hline:(apos.endLine == cpos.line)=true:=by rfl):DMe X C z (.Call (.Attribute (.Attribute (.Name x npos) "waiting" bpos) "pop" apos) [] [] cpos) (fun st _=>st.wait.getLast?.map fun d=>(d,{ st with wait:=st.wait.dropLast })):=by
 refine PE.conseq (p7 PySem.F.plainAttrs_list PySem.F.slot_list_pop PySem.F.type_list_pop rJ (v6 hv hb) hbase hline) fun σ H Q hq=>?_
 obtain⟨O,a,w,c,st,r,d,st',m,e1,q⟩:=hq
 obtain⟨d',e2,e3⟩:=map_some e1
 cases e3
 obtain⟨dx,xs,ys,ve,vd,g1,g2,g3,g4,g5,g6,g7⟩:=m.ms.ex
 have aw:=McR.aw m.ms
 obtain⟨y,ey,iy,il⟩:=g6.last e2
 refine⟨.ref a,wM m,a,C,dx,_,.ref w,rfl,g1,cl,na,rfl,.inl ⟨rfl,_,SqL.of g2⟩,w,xs,y,rfl,rfl,g2,ey,?_⟩
 have k1:KeepM a w c H (upd H w (.lst xs.dropLast)):=fun b o e _ h2 _=>by rw[zI h2];exact e
 have n:=Mch.put (K:=X.K) (H2:=upd H w (.lst xs.dropLast)) (wa:=st.wait.dropLast) m.ms m.ol k1 (by rw[zI aw.1];exact g1) zK (by rw[zI m.ms.wc.symm];exact g3) g4 g5 il g7
 exact q y _ (m.step k1 n) (Is.mono (m.ms.kp k1) m.ol (fun _ z _=>z) _ _ iy) k1
theorem zA4(hv:PE X (.Name x npos) (jX z))(cl:Cls X.K C)(na:NoAttr X.K C "come")(hb:attributeBase (.Name x npos) "come" X.env (eval (.Name x npos) X.env)=eval (.Name x npos) X.env:=by rfl)(hbase:attributeBase (.Attribute (.Name x npos) "come" bpos) "pop" X.env (eval (.Attribute (.Name x npos) "come" bpos) X.env)=eval (.Attribute (.Name x npos) "come" bpos) X.env:=by rfl)(hline:(apos.endLine == cpos.line)=true:=by rfl):DMe X C z (.Call (.Attribute (.Attribute (.Name x npos) "come" bpos) "pop" apos) [] [] cpos) (fun st _=>st.come.getLast?.map fun d=>(d,{ st with come:=st.come.dropLast })):=by
 refine PE.conseq (p7 PySem.F.plainAttrs_list PySem.F.slot_list_pop PySem.F.type_list_pop rJ (v6 hv hb) hbase hline) fun σ H Q hq=>?_
 obtain⟨O,a,w,c,st,r,d,st',m,e1,q⟩:=hq
 obtain⟨d',e2,e3⟩:=map_some e1
 cases e3
 obtain⟨dx,xs,ys,ve,vd,g1,g2,g3,g4,g5,g6,g7⟩:=m.ms.ex
 have aw:=McR.aw m.ms
 obtain⟨y,ey,iy,il⟩:=g7.last e2
 refine⟨.ref a,wM m,a,C,dx,_,.ref c,rfl,g1,cl,na,rfl,.inl ⟨rfl,_,SqL.of g3⟩,c,ys,y,rfl,rfl,g3,ey,?_⟩
 have k1:KeepM a w c H (upd H c (.lst ys.dropLast)):=fun b o e _ _ h2=>by rw[zI h2];exact e
 have n:=Mch.put (K:=X.K) (H2:=upd H c (.lst ys.dropLast)) (co:=st.come.dropLast) m.ms m.ol k1 (by rw[zI aw.2];exact g1) (by rw[zI m.ms.wc];exact g2) zK g4 g5 g6 il
 exact q y _ (m.step k1 n) (Is.mono (m.ms.kp k1) m.ol (fun _ z _=>z) _ _ iy) k1
end
open PySem PySem.Spec PyProof.Rows L2 PySem.W
noncomputable abbrev MEa:=Mst->En->Option (List D×Mst)
noncomputable def lMa(K:Fg)(C:Addr)(z:Nat)(m:MEa):TA:=fun σ H Q=>∃O a w c st r l st',McR K O H C z a w c st r σ/\m st r=some (l,st')/\∀vs H',McR K O H' C z a w c st' r σ->IsL K O H' l vs->KeepM a w c H H'->Q vs H'
noncomputable abbrev DMa(X:Cx)(C:Addr)(z:Nat)(es:List Expr)(m:MEa):Prop:=PA X es (lMa X.K C z m)
noncomputable def xT:MEa:=fun st _=>some ([],st)
noncomputable def zS(m:MEf)(ms:MEa):MEa:=fun st r=>(m st r).bind fun p=>(ms p.2 r).map fun q=>(p.1::q.1,q.2)
section
variable{X:Cx}{C:Addr}{z:Nat}{e:Expr}{es:List Expr}{m:MEf}{ms:MEa}{x:Str}{pos apos npos p:Pos}
theorem qO:DMa X C z [] xT:=by
 refine PA.conseq xA fun σ H Q hq=>?_
 obtain⟨O,a,w,c,st,r,l,st',mr,e1,q⟩:=hq
 cases e1
 exact q [] H mr .nil (KeepM.refl H)
theorem yI(h:DMe X C z e m)(hs:DMa X C z es ms)(hst:starEach (e::es) X.env=(false,eval e X.env)::starEach es X.env:=by rfl):DMa X C z (e::es) (zS m ms):=by
 refine PA.conseq (zZ h hs hst) fun σ H Q hq=>?_
 obtain⟨O,a,w,c,st,r,l,st',mr,e1,q⟩:=hq
 obtain⟨⟨d,st1⟩,e2,e3⟩:=bind_some e1
 obtain⟨⟨l1,st2⟩,e4,e5⟩:=map_some e3
 cases e5
 refine⟨O,a,w,c,st,r,d,st1,mr,e2,fun v H1 m1 iv k1=>⟨O,a,w,c,st1,r,l1,st2,m1,e4,fun vs H2 m2 il k2=>?_⟩⟩
 exact q (v::vs) H2 m2 (.cons (Is.mono (m1.ms.kp k2) m1.ol (fun _ z _=>z) _ _ iv) il) (k1.trans k2)
theorem zA8{fs:ML}(h:DA X es fs):DMa X C z es (fun st r=>(fs r).map fun l=>(l,st)):=by
 refine PA.conseq h fun σ H Q hq=>?_
 obtain⟨O,a,w,c,st,r,l,st',mr,e1,q⟩:=hq
 obtain⟨l',e2,e3⟩:=map_some e1
 cases e3
 refine⟨O,r,l,mr.rr,e2,fun vs H' s il=>q vs H' (mr.same s) ?_ (KeepM.same s)⟩
 rw[show Ow O r σ=O from funext fun b=>propext mr.no.ow] at il
 exact il
noncomputable def wL(n:Nat)(mm:Mst->List D->Option (D×Mst))(ms:MEa):MEf:=fun st r=>(ms st r).bind fun p=>if p.1.length=n then mm p.2 p.1 else none
variable{k n:Nat}{f:Addr}{fd:FuncData}{ps:List Str}{mm:Mst->List D->Option (D×Mst)}{mn:Str}
theorem nJ{O:Addr->Prop}{H:Hp}{a w c:Addr}{st st':Mst}{r:En}{σ:St}{ds:List D}{us:List V}{d:D}{Q:VK}{E:XK}(mr:McR X.K O H C z a w c st r σ)(hl:ds.length=n)(il:IsL X.K O H ds us)(e:mm st ds=some (d,st'))(q:∀v H',McR X.K O H' C z a w c st' r σ->Is X.K O H' d v->KeepM a w c H H'->Q v H'):spM X.K C n mm (.ref a::us++[]) H Q E:=by
 rw[List.append_nil]
 exact⟨O,a,w,c,st,ds,us,d,st',rfl,hl,mr.ms,mr.ol,il,e,fun v H' m' ol' iv k=>q v H' (mr.step k m') iv k⟩
theorem qE{pl:Sem Bool}(hv:PE X (.Name x npos) (jX z))(cl:Cls X.K C)(hm:Meth X.K C mn f)(hn:∀(i j:Int) (w c:Addr) (ve vd:V),(mfs i j w c ve vd).lookup mn=none)(F:FnOk X.prog X.w X.K X.mg X.base CX0 k f fd ps (spM X.K C n mm))(hr:Room k X.A)(hb:Binds X.K fd ps [])(ha:DMa X C z (e::es) ms)(hst:starEach (e::es) X.env=(false,eval e X.env)::starEach es X.env:=by rfl)(hpl:(backTo pos (starEach es X.env)).any (·.1)=false:=by rfl)(ht:eval (.Call (.Attribute (.Name x npos) mn apos) (e::es) [] pos) X.env=(do
   let ov <- eval (.Name x npos) X.env
   standAt apos.atName
   let (f,first) <- holding [ov] (getMethod ov mn pl)
   callWith pos f first (backTo pos (starEach (e::es) X.env)) (backToKw pos (keywordEach [] X.env))):=by rfl):DMe X C z (.Call (.Attribute (.Name x npos) mn apos) (e::es) [] pos) (wL n mm ms):=by
 refine PE.conseq (J7 (E:=fun _ _ _=>False) (dvs:=[]) hv cl hm F hr hb .nil dH ha hst hpl ht) fun σ H Q hq=>?_
 obtain⟨O,a,w,c,st,r,d,st',mr,e1,q⟩:=hq
 obtain⟨⟨ds,st1⟩,e2,e3⟩:=bind_some e1
 split at e3
 ·rename_i hl
  obtain⟨dx,xs,ys,ve,vd,g1,_⟩:=mr.ms.ex
  refine⟨.ref a,wM mr,a,dx,_,rfl,g1,hn _ _ _ _ _ _,O,a,w,c,st,r,ds,st1,mr,e2,fun vs H1 m1 il k1=>?_⟩
  exact nJ m1 hl il e3 fun v H' m' iv k'=>q v H' m' iv (k1.trans k')
 ·cases e3
theorem n9{pl:Sem Bool}(hv:PE X (.Name x npos) (jX z))(cl:Cls X.K C)(hm:Meth X.K C mn f)(hn:∀(i j:Int) (w c:Addr) (ve vd:V),(mfs i j w c ve vd).lookup mn=none)(F:FnOk X.prog X.w X.K X.mg X.base CX0 k f fd ps (spM X.K C 0 mm))(hr:Room k X.A)(hb:Binds X.K fd ps [])(ht:eval (.Call (.Attribute (.Name x npos) mn apos) [] [] pos) X.env=(do
   let ov <- eval (.Name x npos) X.env
   standAt apos.atName
   let (f,first) <- holding [ov] (getMethod ov mn pl)
   callWith pos f first (backTo pos (starEach [] X.env)) (backToKw pos (keywordEach [] X.env))):=by rfl):DMe X C z (.Call (.Attribute (.Name x npos) mn apos) [] [] pos) (fun st _=>mm st []):=by
 refine PE.conseq (XR (E:=fun _ _ _=>False) (dvs:=[]) hv cl hm F hr hb .nil dH ht) fun σ H Q hq=>?_
 obtain⟨O,a,w,c,st,r,d,st',mr,e1,q⟩:=hq
 obtain⟨dx,xs,ys,ve,vd,g1,_⟩:=mr.ms.ex
 refine⟨.ref a,wM mr,a,dx,_,rfl,g1,hn _ _ _ _ _ _,?_⟩
 exact nJ (us:=[]) (E:=fun _ _ _=>False) mr rfl .nil e1 q
end
noncomputable abbrev MEt:=Mst->En->Option (Bool×Mst)
noncomputable def lMt(K:Fg)(C:Addr)(z:Nat)(m:MEt):TT:=fun σ H Q=>∃O a w c st r b st',McR K O H C z a w c st r σ/\m st r=some (b,st')/\∀H',McR K O H' C z a w c st' r σ->KeepM a w c H H'->Q b H'
noncomputable abbrev DMt(X:Cx)(C:Addr)(z:Nat)(e:Expr)(m:MEt):Prop:=PT X e (lMt X.K C z m)
section
variable{X:Cx}{C:Addr}{z:Nat}{e:Expr}{m:MEf}
theorem bD{b:MB}(h:DT X e b):DMt X C z e (fun st r=>(b r).map fun z=>(z,st)):=by
 refine PT.conseq h fun σ H Q hq=>?_
 obtain⟨O,a,w,c,st,r,z,st',mr,e1,q⟩:=hq
 obtain⟨z',e2,e3⟩:=map_some e1
 cases e3
 exact⟨O,r,z,mr.rr,e2,fun H' s=>q H' (mr.same s) (KeepM.same s)⟩
end
inductive MFl where
 |nx (st:Mst) (r:En)|rt (d:D) (st:Mst) (r:En)
noncomputable abbrev MEs:=Mst->En->Option MFl
noncomputable def MFl.to(K:Fg)(O:Addr->Prop)(C:Addr)(z:Nat)(a w c:Addr)(H:Hp)(Dn:Ends):MFl->Prop
 |.nx st' r'=>∀σ' H',McR K O H' C z a w c st' r' σ'->KeepM a w c H H'->Dn.nx σ' H'
 |.rt d st' r'=>∀v σ' H',McR K O H' C z a w c st' r' σ'->Is K O H' d v->KeepM a w c H H'->Dn.rt v H'
noncomputable def lMs(K:Fg)(C:Addr)(z:Nat)(g:MEs):TS:=fun Dn σ H=>∃O a w c st r fl,McR K O H C z a w c st r σ/\g st r=some fl/\fl.to K O C z a w c H Dn
noncomputable abbrev DMs(X:Cx)(C:Addr)(z:Nat)(st:Stmt)(g:MEs):Prop:=PS X st (lMs X.K C z g)
noncomputable abbrev QM(X:Cx)(C:Addr)(z:Nat)(sts:List Stmt)(g:MEs):Prop:=PSs X sts (lMs X.K C z g)
noncomputable def pD:MEs:=fun st r=>some (.nx st r)
noncomputable def oY(g h:MEs):MEs:=fun st r=>(g st r).bind fun fl=>match fl with
 |.nx st' r'=>h st' r'
 |.rt d st' r'=>some (.rt d st' r')
noncomputable def uDo(m:MEf):MEs:=fun st r=>(m st r).map fun p=>.nx p.2 r
noncomputable def QN(m:MEf):MEs:=fun st r=>(m st r).map fun p=>.rt p.1 p.2 r
noncomputable def zGM(z i:Nat)(m:MEf):MEs:=fun st r=>(m st r).bind fun p=>if i=z then none else (yW i p.1 r).map fun r'=>.nx p.2 r'
noncomputable def uIf(t:MEt)(g h:MEs):MEs:=fun st r=>(t st r).bind fun p=>if p.1=true then g p.2 r else h p.2 r
theorem MFl.to_keep{K:Fg}{O:Addr->Prop}{z:Nat}{C a w c:Addr}{H H1:Hp}{Dn:Ends}{fl:MFl}(k:KeepM a w c H H1)(h:fl.to K O C z a w c H Dn):fl.to K O C z a w c H1 Dn:=by
 cases fl with
 |nx st r=>exact fun σ' H' m k'=>h σ' H' m (k.trans k')
 |rt d st r=>exact fun v σ' H' m iv k'=>h v σ' H' m iv (k.trans k')
section
variable{X:Cx}{C:Addr}{z:Nat}{e:Expr}{m:MEf}{st1:Stmt}{sts:List Stmt}{g h:MEs}{pos pos':Pos}{x:Str}{t:MEt}
theorem WA:QM X C z [] pD:=by
 refine PSs.conseq t9 fun Dn σ H hq=>?_
 obtain⟨O,a,w,c,st,r,fl,mr,e1,q⟩:=hq
 cases e1
 exact q σ H mr (KeepM.refl H)
theorem jL(h1:DMs X C z st1 g)(h2:QM X C z sts h):QM X C z (st1::sts) (oY g h):=by
 refine PSs.conseq (wW h1 h2) fun Dn σ H hq=>?_
 obtain⟨O,a,w,c,st,r,fl,mr,e1,q⟩:=hq
 obtain⟨fl1,e2,e3⟩:=bind_some e1
 refine⟨O,a,w,c,st,r,fl1,mr,e2,?_⟩
 cases fl1 with
 |nx st' r'=>exact fun σ' H' m' k'=>⟨O,a,w,c,st',r',fl,m',e3,MFl.to_keep k' q⟩
 |rt d st' r'=>cases e3;exact q
theorem xH(h1:DMs X C z st1 g):QM X C z [st1] g:=dF h1
theorem vC(he:DMe X C z e m)(hs:swapsWith e none pos.line X.env=pure false:=by rfl):DMs X C z (.Expr e pos) (uDo m):=by
 refine PS.conseq (nU he hs) fun Dn σ H hq=>?_
 obtain⟨O,a,w,c,st,r,fl,mr,e1,q⟩:=hq
 obtain⟨⟨d,st'⟩,e2,e3⟩:=map_some e1
 cases e3
 exact⟨O,a,w,c,st,r,d,st',mr,e2,fun v H' m' _ k'=>q σ H' m' k'⟩
theorem mQ(he:DMe X C z e m):DMs X C z (.Return (some e) pos) (QN m):=by
 refine PS.conseq (XI he) fun Dn σ H hq=>?_
 obtain⟨O,a,w,c,st,r,fl,mr,e1,q⟩:=hq
 obtain⟨⟨d,st'⟩,e2,e3⟩:=map_some e1
 cases e3
 exact⟨O,a,w,c,st,r,d,st',mr,e2,fun v H' m' iv k'=>q v σ H' m' iv k'⟩
theorem n8{c:Expr}{as bs:List Stmt}(hc:DMt X C z c t)(ha:QM X C z as g)(hb:QM X C z bs h):DMs X C z (.If c as bs pos) (uIf t g h):=by
 refine PS.conseq (zF0 hc ha hb) fun Dn σ H hq=>?_
 obtain⟨O,a,w,c,st,r,fl,mr,e1,q⟩:=hq
 obtain⟨⟨b,st'⟩,e2,e3⟩:=bind_some e1
 refine⟨O,a,w,c,st,r,b,st',mr,e2,fun H' m' k'=>?_⟩
 cases b with
 |true=>exact⟨O,a,w,c,st',r,fl,m',e3,MFl.to_keep k' q⟩
 |false=>exact⟨O,a,w,c,st',r,fl,m',e3,MFl.to_keep k' q⟩
end
open PySem PySem.Spec PyProof.Rows L2 PySem.W
section
variable{X:Cx}{C:Addr}{z:Nat}{e e':Expr}{m m':MEf}{f:ME}{pos pos' npos apos tpos:Pos}{x y:Str}
theorem NoOwn.set{r:En}{i:Nat}{d:D}(h:NoOwn r):NoOwn (r.set i (.v d)):=fun j=>by
 by_cases hj:i=j
 ·subst hj
  by_cases hi:i<r.length
  ·rw[zO hi];rfl
  ·rw[List.getElem?_eq_none (by rw[List.length_set];omega)];rfl
 ·rw[zF hj];exact h j
theorem zEY(i:Nat)(he:DMe X C z e m)(hN:X.N.Nodup)(hi:X.N[i]?=some x:=by rfl)(hx:Loc X.env.scope x:=by first|exact Or.inl rfl|exact Or.inr rfl)(hs:swapsWith e (some (.Name x pos')) pos.line X.env=pure false:=by rfl)(hf:X.fn x=true\/X.env.kindOf x=some .local:=by first|exact Or.inl rfl|exact Or.inr rfl):DMs X C z (.Assign [.Name x pos'] e pos) (zGM z i m):=by
 refine PS.conseq (mG hN hi hx he hs hf) fun Dn σ H hq=>?_
 obtain⟨O,a,w,c,st,r,fl,mr,e1,q⟩:=hq
 obtain⟨⟨d,st'⟩,e2,e3⟩:=bind_some e1
 split at e3
 ·cases e3
 ·rename_i h0
  obtain⟨r',e4,rfl⟩:=map_some e3
  obtain⟨hl,np,rfl⟩:=qB e4
  refine⟨O,a,w,c,st,r,d,st',mr,e2,fun v H1 m1 iv k1=>?_⟩
  obtain⟨R1,_⟩:=m1.rr.setv hl np (m1.is.mpr iv)
  exact q _ H1 ⟨m1.ms,R1,m1.no.set,by rw[List.getElem?_set_ne h0];exact m1.me⟩ k1
noncomputable def zG2(f:ME):MEs:=fun st r=>(f r).map fun d=>.nx { st with ended:=d } r
theorem zE0(hv:PE X (.Name x npos) (jX z))(cl:Cls X.K C)(na:NoAttr X.K C "ended")(h:DE X e f)(hs:swapsWith e (some (.Attribute (.Name x npos) "ended" apos)) pos.line X.env=pure false:=by rfl):DMs X C z (.Assign [.Attribute (.Name x npos) "ended" apos] e pos) (zG2 f):=by
 refine PS.conseq (bT hv h hs) fun Dn σ H hq=>?_
 obtain⟨O,a,w,c,st,r,fl,mr,e1,q⟩:=hq
 obtain⟨d,e2,rfl⟩:=map_some e1
 refine⟨O,r,d,mr.rr,e2,fun v H1 s1 iv=>?_⟩
 have m1:=mr.same s1
 obtain⟨dx,xs,ys,ve,vd,g1,g2,g3,g4,g5,g6,g7⟩:=m1.ms.ex
 have aw:=McR.aw m1.ms
 refine⟨.ref a,wM m1,a,C,dx,_,rfl,g1,cl,na,by show 6<1000;decide,?_⟩
 have k1:KeepM a w c H1 (upd H1 a (.ins C dx (mfs st.most st.steps w c v vd))):=fun b o e h2 _ _=>by rw[zI h2];exact e
 have n:=Mch.put (K:=X.K) (H2:=upd H1 a (.ins C dx (mfs st.most st.steps w c v vd))) (en:=d) m1.ms m1.ol k1 zK (by rw[zI aw.1.symm];exact g2) (by rw[zI aw.2.symm];exact g3) (m1.is.mp iv) g5 g6 g7
 exact q σ _ (m1.step k1 n) ((KeepM.same s1).trans k1)
theorem zAY{j:Nat}(hv:PE X (.Name x npos) (jX z))(cl:Cls X.K C)(na:NoAttr X.K C "steps"):DMs X C z (.AugAssign (.Attribute (.Name x npos) "steps" tpos) .Add (.Constant (.int 1) j pos') pos) (fun st r=>some (.nx { st with steps:=st.steps+1 } r)):=by
 refine PS.conseq (pY hv mI zFD) fun Dn σ H hq=>?_
 obtain⟨O,a,w,c,st,r,fl,mr,e1,q⟩:=hq
 cases e1
 obtain⟨dx,xs,ys,ve,vd,g1,g2,g3,g4,g5,g6,g7⟩:=mr.ms.ex
 have aw:=McR.aw mr.ms
 refine⟨.ref a,wM mr,a,C,dx,_,.int st.steps,rfl,g1,cl,na,rfl,?_⟩
 refine⟨st.steps,1,rfl,rfl,dx,_,g1,by show 6<1000;decide,?_⟩
 have k1:KeepM a w c H (upd H a (.ins C dx (mfs st.most (st.steps+1) w c ve vd))):=fun b o e h2 _ _=>by rw[zI h2];exact e
 have n:=Mch.put (K:=X.K) (H2:=upd H a (.ins C dx (mfs st.most (st.steps+1) w c ve vd))) (steps:=st.steps+1) mr.ms mr.ol k1 zK (by rw[zI aw.1.symm];exact g2) (by rw[zI aw.2.symm];exact g3) g4 g5 g6 g7
 exact q σ _ (mr.step k1 n) k1
theorem zHS{i j:Mst->Int}(ha:DMe X C z e fun st _=>some (.int (i st),st))(hb:DMe X C z e' fun st _=>some (.int (j st),st))(hm:behindInMarks .GtE e'=false):DMt X C z (.Compare e [.GtE] [e'] pos) (fun st _=>some (decide (j st<=i st),st)):=by
 refine PT.conseq (t8 zHM ha hb hm) fun σ H Q hq=>?_
 obtain⟨O,a,w,c,st,r,b,st',mr,e1,q⟩:=hq
 cases e1
 refine⟨O,a,w,c,st,r,_,st,mr,rfl,fun v H1 m1 iv k1=>⟨O,a,w,c,st,r,_,st,m1,rfl,fun u H2 m2 iu k2=>?_⟩⟩
 rw[Is.int_iff] at iv iu
 exact⟨i st,j st,iv,iu,_,rfl,q H2 m2 (k1.trans k2)⟩
theorem zHT(ha:DMe X C z e m)(he:∀whole,isTrue e X.env whole=(do let v <- whole;standAt e.pos;holding [v] (truthy v)):=by intro _;rfl):DMt X C z e (fun st r=>(m st r).bind fun p=>match p.1 with | .bl b=>some (b,p.2)|_=>none):=by
 refine PT.conseq (zEB ha he) fun σ H Q hq=>?_
 obtain⟨O,a,w,c,st,r,b,st',mr,e1,q⟩:=hq
 obtain⟨⟨d,st1⟩,e2,e3⟩:=bind_some e1
 refine⟨O,a,w,c,st,r,d,st1,mr,e2,fun v H1 m1 iv k1=>?_⟩
 cases d<;>first|(cases e3;done)|skip
 cases e3
 rw[Is.bl_iff] at iv
 exact⟨b,iv,q H1 m1 k1⟩
end
noncomputable def mkU(n N:Nat)(g:MEs):Mst->List D->Option (D×Mst):=fun st ds=>(g st (.un::ds.map .v++List.replicate (N-(n+1)) .un)).bind fun fl=>match fl with
 |.nx st' _=>some (.non,st')
 |.rt d st' _=>some (d,st')
section
variable{P:Program}{w:World}{K:Fg}{mg:Str->Option Value}{base:Heap}{C:Addr}
theorem R.un0{O:Addr->Prop}{H:Hp}{r:En}{σ:St}{y:Option V}(h:R K O H r σ)(no:NoOwn r):R K O H (.un::r) (y::σ):=by
 have ow:Ow O r σ=O:=funext fun b=>propext no.ow
 have no':NoOwn (.un::r):=fun i=>by
  cases i with
  |zero=>rfl
  |succ i=>exact no i
 have ow':Ow O (.un::r) (y::σ)=O:=funext fun b=>propext no'.ow
 refine⟨by simp[h.len],fun i d e=>?_,fun i l e=>?_,fun i j b l m e1 e2 _ _=>?_,h.o0,fun i l b e _=>?_,fun i l b e _=>?_,fun i ks l e=>?_⟩
 ·cases i with
  |zero=>cases e
  |succ i=>
   obtain⟨v,e1,q⟩:=h.val i d e
   rw[ow] at q
   rw[ow']
   exact⟨v,e1,q⟩
 ·have:=no' i;rw[qX e] at this;cases this
 ·have:=no' i;rw[e1] at this;cases this
 ·exfalso
  have:=no' i
  rcases e with e|e|⟨ks,e⟩<;>rw[e] at this<;>cases this
 ·have:=no' i;rw[e] at this;cases this
 ·have:=no' i;rw[e] at this;cases this
theorem bC(ds:List D)(k:Nat):NoOwn (ds.map .v++List.replicate k .un):=fun i=>by
 by_cases hi:i<ds.length
 ·rw[List.getElem?_append_left (by simpa using hi),List.getElem?_map,List.getElem?_eq_getElem hi];rfl
 ·rw[List.getElem?_append_right (by simpa using hi),List.getElem?_replicate]
  split<;>rfl
theorem QP{x qual:Str}{st:Stmt}{f:Addr}{fd:FuncData}{N ps:List Str}{k:Nat}{g:MEs}(F:Fun K x qual st f fd)(S:FnScope N ps (zL st))(n:Nat)(nN:Nat)(hn:ps.length=n+1:=by rfl)(hN:N.length=nN:=by rfl)(hb:∀(cdv:Value) (A:Around) (outer:List Env) (s:Shared) (H:Hp) (E:XK),Room k (A.deeper (envOfC qual (zL st) s.heap.objs.size f cdv)) ->
   QM (zCZ CX0 P w K mg base N qual (zL st) f cdv A outer s H E).nox C 0 (wQ st) g):FnOk P w K mg base CX0 (k+1) f fd ps (spM K C n (mkU n nN g)):=by
 subst hN
 refine F.ok S (fun vs H Q E h=>?_) (fun cdv A outer s H vs Q E hr h=>?_)
 ·obtain⟨O,a,w',c,st',ds,us,d,st2,rfl,hl,_,_,il,_⟩:=h
  have:=il.length
  rw[List.length_cons,hn];omega
 ·obtain⟨O,a,w',c,st',ds,us,d,st2,rfl,hl,ms,ol,il,e,q⟩:=h
  refine⟨_,hb cdv A outer s H E hr,?_⟩
  obtain⟨fl,e1,e2⟩:=bind_some e
  have hlu:=il.length
  have hst:L2.start N (.ref a::us)=some (.ref a)::(us.map some++List.replicate (N.length-(n+1)) none):=by
   unfold L2.start
   rw[List.map_cons,List.length_cons,<-hlu,hl];rfl
  rw[hst]
  have R0:R K O H (ds.map .v++List.replicate (N.length-(n+1)) .un) (us.map some++List.replicate (N.length-(n+1)) none):=R.start (R.args ol il)
  have mr:McR K O H C 0 a w' c st' (.un::(ds.map .v++List.replicate (N.length-(n+1)) .un)) (some (.ref a)::(us.map some++List.replicate (N.length-(n+1)) none)):=
   ⟨ms,R0.un0 (bC ds _),(fun i=>by cases i with|zero=>rfl|succ i=>exact bC ds _ i),rfl⟩
  refine⟨O,a,w',c,st',_,fl,mr,e1,?_⟩
  cases fl with
  |nx st3 r'=>cases e2;exact fun σ' H' m' k'=>q .non H' m'.ms m'.ol (by rw[Is.non_iff]) k'
  |rt d' st3 r'=>cases e2;exact fun v σ' H' m' iv k'=>q v H' m'.ms m'.ol iv k'
end
open PySem PySem.Spec PyProof.Rows L2 PySem.W
noncomputable def zJ9(e:DictEntry)(q:List Nat×Addr):Prop:=∃t,e.key=.str ⟨q.1.toArray⟩ t/\e.val=.ref q.2
noncomputable def oX:List DictEntry->List (List Nat×Addr)->Prop
 |[],l=>l=[]
 |e::es,l=>∃q r,l=q::r/\zJ9 e q/\oX es r
noncomputable def tP(mg:Str->Option Value)(K:Fg)(Ps:Params)(x:Str)(tbl:List (List Nat×Addr)):Prop:=∃(p:Addr) (es:Array DictEntry) (n:Nat),mg x=some (.ref p)/\(p == sysModules)=false/\K.lookup p=some ⟨.type "dict",none,.dict es n,#[]⟩/\PySem.W.KeysLit Ps es.toList/\oX es.toList tbl
noncomputable def j8(tbl:List (List Nat×Addr))(s:List Nat):Option Addr:=(tbl.find? fun q=>decide (q.1=s)).map (·.2)
theorem kO(s:List Nat):∀{es:List DictEntry} {tbl:List (List Nat×Addr)},oX es tbl->(es.find? fun d=>Value.isStrOf ⟨s.toArray⟩ d.key).map (·.val)=(j8 tbl s).map Value.ref
 |[],tbl,h=>by unfold oX at h;subst h;rfl
 |e::es,tbl,h=>by
  unfold oX at h
  obtain⟨q,r,rfl,⟨t,h1,h2⟩,h3⟩:=h
  have ih:=kO s h3
  have k:Value.isStrOf (⟨s.toArray⟩:Str) e.key=decide (q.1=s):=by
   rw[h1]
   show((⟨q.1.toArray⟩:Str) == ⟨s.toArray⟩)=_
   by_cases c:q.1=s
   ·rw[decide_eq_true c,c];simp
   ·rw[decide_eq_false c]
    refine beq_eq_false_iff_ne.mpr fun z=>c ?_
    have z2:=congrArg (fun x:Str=>x.cps.toList) z
    simpa using z2
  unfold j8 at ih ⊢
  rw[List.find?_cons,List.find?_cons,k]
  cases hc:decide (q.1=s)
  ·exact ih
  ·rw[Option.map_some,h2];rfl
section
variable{X:Cx}{C:Addr}{z:Nat}{b:Expr}{es:List Expr}{f:ME}{ms:MEa}{x wn:Str}{pos p' npos bp:Pos}{tbl:List (List Nat×Addr)}
noncomputable def zJS(p:Addr)(tbl:List (List Nat×Addr)):R2:=fun x y H Q=>∃(s:List Nat) (g:Addr),x=.ref p/\y=.str ⟨s.toArray⟩/\j8 tbl s=some g/\Q (.ref g) H
theorem zFB{p:Addr}{es:Array DictEntry}{n:Nat}(hl:X.K.lookup p=some ⟨.type "dict",none,.dict es n,#[]⟩)(hk:PySem.W.KeysLit X.w.params es.toList)(he:oX es.toList tbl):IxR X (zJS p tbl):=by
 intro value slice pins s σ H x y v u Q I rx ry h hs
 obtain⟨z,g,rfl,rfl,e,q⟩:=h
 cases rx
 obtain⟨t,rfl⟩:=ry
 have hmap:=WP (tbl:=[]) (Ps:=X.w.params) (x:="") I hl hk
 have fnd:=kO z he
 rw[e,<-bM] at fnd
 exact subscriptTail_builtinR (x:=.ref g) hmap.typeIs slot_dict_getitem.lookup (wpAny_getItem_of (Q:=fun r s'=>r=Value.ref g/\EP X pins σ Q r s') (strKind_is _ _ _ t) hmap fnd ⟨rfl,.ref g,H,I.tok _,rfl,q⟩) hs
noncomputable def atR(tbl:List (List Nat×Addr)):D->Option D
 |.str s=>(j8 tbl s).map .ref
 |_=>none
theorem zCL(h:tP X.mg X.K X.w.params wn tbl)(hg:Gl X wn)(hb:DE X b f)(hs:vK b:=by intro _ _;rfl)(hd:(wn == ("__debug__" : Str))=false:=by decide):DE X (.Subscript (.Name wn p') b pos) (mUn (atR tbl) f):=by
 obtain⟨p,es,n,h1,h2,h3,h4,h5⟩:=h
 refine PE.conseq (J9 (zFB h3 h4 h5) (YD (p:=p) h1 hg hd) hb hs) fun σ H Q hq=>?_
 obtain⟨O0,r,d,hR,e,q⟩:=hq
 obtain⟨k,e1,e2⟩:=bind_some e
 cases k<;>first|(simp only[atR,reduceCtorEq] at e2;done)|skip
 simp only[atR] at e2
 obtain⟨v,e3,rfl⟩:=map_some e2
 refine⟨O0,r,_,hR,rfl,fun v1 H1 s1 i1=>⟨O0,r,_,hR.same s1,e1,fun v2 H2 s2 i2=>?_⟩⟩
 rw[Is.ref_iff] at i1
 rw[Is.str_iff] at i2
 exact⟨_,v,i1,i2,e3,q _ H2 (s1.trans s2) (by rw[Is.ref_iff])⟩
noncomputable def zC0(n:Nat)(ways:List Nat->Option (Mst->List D->Option (D×Mst)))(f:ME)(ms:MEa):MEf:=fun st r=>(f r).bind fun d=>match d with
 |.str key=>(ways key).bind fun mm=>(ms st r).bind fun p=>if p.1.length=n then mm p.2 p.1 else none
 |_=>none
theorem zA0{k n:Nat}{ways:List Nat->Option (Mst->List D->Option (D×Mst))}(hG:tP X.mg X.K X.w.params wn tbl)(hg:Gl X wn)(hk:DE X b f)(hv:PE X (.Name x npos) (jX z))(ha:DMa X C z es ms)(hw:∀key mm,ways key=some mm->∃(g:Addr) (fd:FuncData) (ps:List Str),j8 tbl key=some g/\FnOk X.prog X.w X.K X.mg X.base CX0 k g fd ps (spM X.K C n mm)/\Binds X.K fd ps []/\PySem.W.keepIn X.K (.ref g)=true)(hr:Room k X.A)(hs:vK b:=by intro _ _;rfl)(hd:(wn == ("__debug__" : Str))=false:=by decide)(he:starEach (.Name x npos::es) X.env=(false,eval (.Name x npos) X.env)::starEach es X.env:=by rfl)(hpl:(backTo pos (starEach es X.env)).any (·.1)=false:=by rfl):DMe X C z (.Call (.Subscript (.Name wn p') b bp) (.Name x npos::es) [] pos) (zC0 n ways f ms):=by
 intro pins s σ H Q I hq
 obtain⟨O,a,w,c,st,r,d,st',mr,e1,q⟩:=hq
 obtain⟨kd,e2,e3⟩:=bind_some e1
 cases kd<;>first|(cases e3;done)|skip
 rename_i key
 obtain⟨mm,e4,e5⟩:=bind_some e3
 obtain⟨⟨ds,st1⟩,e6,e7⟩:=bind_some e5
 split at e7
 ·rename_i hl
  obtain⟨g,fd,ps,g1,F,hb,hkp⟩:=hw key mm e4
  show wpAny _ _ (do callWith pos (<- eval (.Subscript (.Name wn p') b bp) X.env) [] (backTo pos (starEach (.Name x npos::es) X.env)) (backToKw pos (keywordEach [] X.env))) _ _ s
  refine wpAny_bind (thn ((zCL hG hg hk hs hd) pins s σ H (fun v H1=>v=.ref g/\Same H H1) I ⟨O,r,.ref g,mr.rr,by unfold mUn;rw[e2,Option.bind_some];show(j8 tbl key).map D.ref=_;rw[g1];rfl,fun v H1 s1 iv=>⟨by rw[Is.ref_iff] at iv;exact iv,s1⟩⟩) fun u s1 ⟨v,H1,I1,rv,ev,sm⟩=>?_)
  subst ev
  obtain rfl:u=Value.ref g:=rv
  have m1:=mr.same sm
  refine PySem.W.callWith_K (first:=[]) (h₀:=X.base) I.ok.mod.kin hkp (thn ((zZ hv ha he) pos pins s1 σ H1 (fun vs H2=>spM X.K C n mm (vs++[]) H2 Q fun _ _ _=>False) I1 ⟨.ref a,wM m1,O,a,w,c,st,r,ds,st1,m1,e6,fun vs H2 m2 il k2=>?_⟩) fun us s2 ⟨vs,H2,I2,rr,q2⟩=>⟨I2.kIn,?_⟩) he hpl
  ·exact nJ m2 hl il e7 fun v H' m' iv k'=>q v H' m' iv (((KeepM.same sm).trans k2).trans k')
  ·exact mF F hr hb .nil dH I2 rr q2
 ·cases e7
end
open PySem PySem.Spec PyProof.Rows L2 PySem.W
noncomputable def o8(K:Fg)(p:Addr)(ns:List Int):Prop:=∃(o:Obj) (its:Array Value) (n:Nat),K.lookup p=some o/\o.cls=.type "tuple" /\ o.data=.seq its n/\its.size<=sizeLine/\Vals (ns.map V.int) its.toList
noncomputable def QK(K:Fg):List (List Nat×Addr)->List (List Nat×List Int)->Prop
 |[],l=>l=[]
 |q::r,l=>∃ns l',l=(q.1,ns)::l'/\o8 K q.2 ns/\QK K r l'
noncomputable def b4(tbl:List (List Nat×List Int))(s:List Nat):Option (List Int):=(tbl.find? fun q=>decide (q.1=s)).map (·.2)
theorem bF{K:Fg}(s:List Nat):∀{tr:List (List Nat×Addr)} {tbl:List (List Nat×List Int)},QK K tr tbl->match j8 tr s,b4 tbl s with
  |some p,some ns=>o8 K p ns
  |none,none=>True
  |_,_=>False
 |[],tbl,h=>by unfold QK at h;subst h;trivial
 |q::r,tbl,h=>by
  unfold QK at h
  obtain⟨ns,l',rfl,h1,h2⟩:=h
  have ih:=bF s h2
  unfold j8 b4 at ih ⊢
  rw[List.find?_cons,List.find?_cons]
  cases hc:decide (q.1=s)
  ·exact ih
  ·exact h1
noncomputable def zCU(mg:Str->Option Value)(K:Fg)(Ps:Params)(x:Str)(tbl:List (List Nat×List Int)):Prop:=∃tr,tP mg K Ps x tr/\QK K tr tbl
noncomputable def zGU(tbl:List (List Nat×List Int)):D->Option D
 |.str s=>some (.tup (((b4 tbl s).getD []).map .int))
 |_=>none
section
variable{X:Cx}{e b:Expr}{f:ME}{x:Str}{p' apos cpos tpos:Pos}{tbl:List (List Nat×List Int)}{kk:Nat}
theorem ZU{K:Fg}{O:Addr->Prop}{H:Hp}:∀l:List Int,IsL K O H (l.map D.int) (l.map V.int)
 |[]=>IsL.nil
 |i::l=>.cons (by rw[Is.int_iff]) (ZU l)
theorem YE(h:zCU X.mg X.K X.w.params x tbl)(hg:Gl X x)(he:DE X e f)(hb:DE X b (mC (.tup [])))(hd:(x == ("__debug__" : Str))=false:=by decide)(hbase:attributeBase (.Name x p') "get" X.env (eval (.Name x p') X.env)=eval (.Name x p') X.env:=by rfl)(hfew:((backTo cpos (starEach [e,b] X.env)).all (fun x=>!x.1) && (backToKw cpos (keywordEach [] X.env)).all (fun x=>x.1.isSome) && decide (([e,b]:List Expr).length+([]:List Keyword).length+(if ([]:List Keyword).isEmpty then 0 else 1)<30))=true:=by rfl)(hline:(apos.endLine == cpos.line)=true:=by rfl)(htr:backTo cpos (starEach [e,b] X.env)=[(false,eval e X.env),(false,eval b X.env)]:=by rfl):DE X (.Call (.Attribute (.Name x p') "get" apos) [e,b] [] cpos) (mUn (zGU tbl) f):=by
 obtain⟨tr,⟨p,es,n,h1,h2,h3,h4,h5⟩,ht⟩:=h
 intro pins s σ H Q I hq
 obtain⟨O0,r,d,hR,e1,q⟩:=hq
 obtain⟨kd,e2,e3⟩:=bind_some e1
 cases kd<;>first|(cases e3;done)|skip
 rename_i key
 cases e3
 refine wpAny_Call_method hbase hfew hline PySem.F.plainAttrs_dict PySem.F.slot_dict_get PySem.F.type_dict_get (thn ((YD (p:=p) h1 hg hd) pins s σ H (fun v H1=>v=.ref p/\Same H H1) I ⟨O0,r,.ref p,hR,rfl,fun v H1 s1 iv=>⟨by rw[Is.ref_iff] at iv;exact iv,s1⟩⟩) fun u s1 ⟨v,H1,I1,rv,ev,sm⟩=>?_)
 subst ev
 obtain rfl:u=Value.ref p:=rv
 have mp:=WP (tbl:=[]) (Ps:=X.w.params) (x:="") I1 h3 h4
 refine⟨mp.typeIs,fun q hq=>by cases hq;exact⟨_,I1.kIn _ _ h3,rfl⟩,?_⟩
 rw[htr]
 have R1:=hR.same sm
 refine Calls.callWith_builtin rfl (Calls.evalArgs_plain (Calls.spliced_cons (thn (he pins s1 σ H1 (fun v H2=>v=.str ⟨key.toArray⟩/\Same H1 H2) I1 ⟨O0,r,.str key,R1,e2,fun v H2 s2 iv=>⟨by rw[Is.str_iff] at iv;exact iv,s2⟩⟩) fun iv s2 ⟨y,H2,I2,ry,ey,sm2⟩=>
  Calls.spliced_cons (thn (hb pins s2 σ H2 (fun v H3=>Same H2 H3/\Is X.K (Ow O0 r σ) H3 (.tup []) v) I2 ⟨O0,r,.tup [],R1.same sm2,rfl,fun v H3 s3 iv=>⟨s3,iv⟩⟩) fun fv s3 ⟨z,H3,I3,rz,sm3,iz⟩=>Calls.spliced_nil ?_))))
 subst ey
 obtain⟨t,rfl⟩:=ry
 have mp3:=WP (tbl:=[]) (Ps:=X.w.params) (x:="") I3 h3 h4
 have fnd:=kO key h5
 rw[<-bM] at fnd
 have sall:=(sm.trans sm2).trans sm3
 refine call_meetsIn PySem.F.slot_dict_get mp3.typeIs PySem.F.entry_dict_get (PySem.F.args_dict_get_3 _ _ _) (meets_dict_get_default (strKind X.prog X.w) p (strKind_is _ _ _ t) h2 fv) ⟨_,mp3,?_⟩
 rw[fnd]
 have lk:=bF key ht
 cases e5:j8 tr key with
 |none=>
  rw[e5] at lk
  cases e6:b4 tbl key with
  |none=>
   refine⟨z,H3,I3.tok _,rz,q z H3 sall ?_⟩
   rw[e6];exact iz
  |some ns=>rw[e6] at lk;exact lk.elim
 |some a=>
  rw[e5] at lk
  cases e6:b4 tbl key with
  |none=>rw[e6] at lk;exact lk.elim
  |some ns=>
   rw[e6] at lk
   refine⟨.ref a,H3,I3.tok _,rfl,q (.ref a) H3 sall ?_⟩
   rw[e6,Is.tup_iff]
   exact⟨a,ns.map V.int,rfl,.inr lk,ZU ns⟩
end
open PySem PySem.Spec PyProof.Rows L2 PySem.W
namespace RV
theorem owner:Manifest.owners.lookup (String.ofList ['d','e','s','r','e','v','e','r'].reverse)=some Manifest.sig_reversed:=by kernel_rfl
theorem s_next:Slot "reversed" "__next__" "reversed.__next__" := Slot.of (owner:="reversed") (n:="__next__") (by(rw[typeLookup_type,builtinLookup_eq_fast]);kernel_rfl) (by decide +kernel) (by decide +kernel) (by decide +kernel) (by first|exact .inl (by decide +kernel)|exact .inr (by decide +kernel)) (by(rw[isSubtype_type]);kernel_rfl)
theorem e_next:entryFor table "reversed.__next__" = some Builtin.«reversed.__next__»:=entryFor_of_tree (by kernel_rfl)
theorem a_next(a:Value):argsOk "reversed.__next__" ⟨[a],[]⟩:=by
 unfold argsOk;rw[signature?_of (id:="reversed.__next__") (n:=['_','_','t','x','e','n','_','_']) (o:=['d','e','s','r','e','v','e','r']) (by kernel_rfl) owner];kernel_rfl
theorem s_iter:Slot "reversed" "__iter__" "reversed.__iter__" := Slot.of (owner:="reversed") (n:="__iter__") (by(rw[typeLookup_type,builtinLookup_eq_fast]);kernel_rfl) (by decide +kernel) (by decide +kernel) (by decide +kernel) (by first|exact .inl (by decide +kernel)|exact .inr (by decide +kernel)) (by(rw[isSubtype_type]);kernel_rfl)
theorem a_iter(a:Value):argsOk "reversed.__iter__" ⟨[a],[]⟩:=by
 unfold argsOk;rw[signature?_of (id:="reversed.__iter__") (n:=['_','_','r','e','t','i','_','_']) (o:=['d','e','s','r','e','v','e','r']) (by kernel_rfl) owner];kernel_rfl
theorem e_iter:entryFor table "reversed.__iter__" = some Builtin.«dict_keyiterator.__iter__»:=
 entryFor_alias (id':="dict_keyiterator.__iter__") (by kernel_rfl) (by first|rfl|decide +kernel|(unfold String.splitOn;simp +decide [String.splitOnAux])) (by decide +kernel) (by kernel_rfl)
theorem no_own:typeLookup (.type "tuple") "__reversed__" = pure none:=by(rw[typeLookup_type,builtinLookup_eq_fast]);kernel_rfl
theorem no_dict:isSubtype (.type "tuple") (.type "dict")=pure false:=by(rw[isSubtype_type]);kernel_rfl
theorem zD0:Slot "reversed" "__init__" "object.__init__" := Slot.of (owner:="object") (n:="__init__") (by(rw[typeLookup_type,builtinLookup_eq_fast]);kernel_rfl) (by decide +kernel) (by decide +kernel) (by decide +kernel) (by first|exact .inl (by decide +kernel)|exact .inr (by decide +kernel)) (by(rw[isSubtype_type]);kernel_rfl)
theorem called:TypeCalled "reversed" "reversed.__new__" "object.__init__" := ⟨by decide +kernel,by decide +kernel,⟨_,_,F.mro_reversed⟩,F.made_reversed,by decide +kernel,by(rw[isSubtype_type]);kernel_rfl,zD0⟩
end RV
noncomputable def W8(l:Addr)(i:Int):Obj:={ cls:=.type "reversed",data:=.fields #[.ref l,rawInt i] }
noncomputable def IsRv(h:Heap)(a l:Addr)(i:Int):Prop:=∃o,h.get? a=some o/\o.cls=.type "reversed" /\ o.data=.fields #[.ref l,rawInt i]
section
variable{prog:Program}{w:World}{A:Around}{E:Value->Shared->Prop}{s:Shared}
theorem IsRv.typeIs{a l:Addr}{i:Int}(x:IsRv s.heap a l i):s.TypeIs (.ref a) "reversed" := let ⟨o,ho,hc,_⟩:=x;⟨o,ho,hc⟩
theorem IsRv.at{h h':Heap}{a l:Addr}{i:Int}(x:IsRv h a l i)(e:∀o,h.get? a=some o->h'.get? a=some o):IsRv h' a l i:=let ⟨o,ho,r⟩:=x;⟨o,e _ ho,r⟩
theorem tY{it l:Addr}{i:Int}{Q:Value->Shared->Prop}(hit:IsRv s.heap it l i)(h:Q (.ref it) s):wpAny (model prog w) A (pyIter (.ref it)) Q E s:=by
 refine wpAny_pyIter_slot hit.typeIs RV.s_iter (wpAny_call_entry RV.s_iter hit.typeIs RV.e_iter ?_ (RV.a_iter _))
 (show wpAny _ _ (ret (.ref it)) _ _ s)
 exact wpAny_pure ⟨_,rfl, "reversed",_,hit.typeIs,RV.s_next.lookup,h⟩
theorem zD2{l:Addr}{items:Array Value}{Q₁:Value->Shared->Prop}(ht:IsTup s.heap l items)(hz:items.size<=sizeLine)(h:∀tk,Q₁ (.ref s.heap.objs.size) { s with heap:=s.heap.push (W8 l ((items.size:Int)-1)),toks:=tk }):codeAny (model prog w) A (.call (.builtin "reversed.__new__") ⟨[.type "reversed",.ref l],[]⟩) (wants Q₁ E) s:=by
 refine codeAny_of_tree ?_
 show wpAny _ A.in1 (do checkBuiltinCall "reversed.__new__" ⟨[.type "reversed",.ref l],[]⟩;again (.builtin "reversed.__new__" ⟨[.type "reversed",.ref l],[]⟩)) _ _ s
 refine wpAny_bind (wpAny_of_eq (F.newCall_reversed_1 _) (wpAny_pure ⟨plainId_quiet F.plain_reversed_new _,codeAny_builtin F.entry_reversed_new ?_⟩))
 rw[Around.under_plainId F.plain_reversed_new _]
 (unfold Builtin.«reversed.__new__»)
 (refine wpAny_bind (wpAny_of_eq (newClass_reversed _) ?_))
 try dsimp only
 refine wpAny_bind (wpAny_of_eq (a:=()) (by first|rfl|kernel_rfl) ?_)
 refine wpAny_bind (wpAny_of_eq (a:=()) (by first|rfl|kernel_rfl) ?_)
 try dsimp only
 refine wpAny_bind (wpAny_specialOf ht.typeIs RV.no_own ?_)
 try dsimp only
 refine wpAny_bind ?_
 show wpAny _ _ (isInstance (Value.ref l) (.type "dict") >>= _) _ _ _
 refine wpAny_bind (wpAny_isInstance ht.typeIs RV.no_dict ?_)
 try dsimp only
 simp only[Bool.false_eq_true,if_false]
 refine wpAny_bind (wpAny_specialOf ht.typeIs PySem.F.slot_tuple_getitem.lookup ?_)
 try dsimp only
 rw[if_pos (by decide +kernel)]
 refine wpAny_pure ?_
 simp only[Bool.not_true,Bool.false_eq_true,if_false]
 refine wpAny_bind (len_tuple ht (by have:=sizeLine_eq;omega) ?_)
 refine wpAny_bind (wpAny_of_eq (a:=some (items.size:Int)) rfl ?_)
 try dsimp only
 unfold Builtin.SmallTypes.newRecord
 (refine wpAny_bind (wpAny_newObj_type ?_ (by size_fits)))
 exact wpAny_pure (h _)
theorem JN{l:Addr}{items:Array Value}{Q:Value->Shared->Prop}(ht:IsTup s.heap l items)(hz:items.size<=sizeLine)(h:∀tk,Q (.ref s.heap.objs.size) { s with heap:=s.heap.push (W8 l ((items.size:Int)-1)),toks:=tk }):wpAny (model prog w) A (call (.type "reversed") [.ref l]) Q E s:=by
 refine callType_codes (Q₁:=fun obj s₁=>obj=.ref s.heap.objs.size/\∃tk,s₁={ s with heap:=s.heap.push (W8 l ((items.size:Int)-1)),toks:=tk }) RV.called (F.typeCall_reversed_1 _) F.entry_object_init (zD2 ht hz fun tk=>⟨rfl,tk,rfl⟩) ?_
 rintro obj s₁ ⟨rfl,tk,rfl⟩
 have ty:Shared.TypeIs { s with heap:=s.heap.push (W8 l ((items.size:Int)-1)),toks:=tk } (.ref s.heap.objs.size) "reversed" := ⟨_,Heap.get?_push_size _ rfl,rfl⟩
 refine⟨ty,F.args_object_init_2 _ _,?_⟩
 exact object_init_meets RV.called.init.lookup RV.called.made (by decide) prog w A.in1 _ _ ⟨ty,rfl,h tk⟩
theorem JM{it l:Addr}{i:Nat}{items:Array Value}{x:Value}{Q:Option Value->Shared->Prop}(hit:IsRv s.heap it l (i:Int))(hl:IsTup s.heap l items)(hz:items.size<=sizeLine)(hx:items[i]?=some x)(hQ:∀h' tk,IsRv h' it l ((i:Int)-1)->Heap.SameBut it s.heap h'->Q (some x) { s with heap:=h',toks:=tk }):wpAny (model prog w) A (pyNext (.ref it)) Q E s:=by
 obtain⟨o,ho,hc,hd⟩:=id hit
 unfold pyNext
 refine wpAny_bind (wpAny_attempt (wpAny_callSpecial?_slot (name:=Str.ofString "__next__") hit.typeIs RV.s_next
  (wpAny_call_entry RV.s_next hit.typeIs RV.e_next ?_ (RV.a_next _))))
 unfold Builtin.«reversed.__next__»
 refine wpAny_bind (wpAny_of_eq (a:=(Value.ref it,[])) rfl ?_)
 try dsimp only
 refine wpAny_bind (wpAny_field ho hd (x:=.ref l) rfl ?_)
 refine wpAny_bind (wpAny_field ho hd (x:=rawInt (i:Int)) rfl ?_)
 show wpAny _ _ (if (i:Int)<0 then _ else _) _ _ s
 rw[if_neg (by omega)]
 refine wpAny_bind (wpAny_specialOf hl.typeIs PySem.F.slot_tuple_getitem.lookup ?_)
 simp only[Option.isNone_some,Bool.false_eq_true,if_false]
 (refine wpAny_bind (wpAny_mkInt ?_))
 have hi:i<items.size:=by
  obtain⟨z,_⟩:=Array.getElem?_eq_some_iff.mp hx
  exact z
 refine wpAny_bind (wpAny_attempt (getItem_tuple (j:=i) (s:={ s with toks:=s.toks+1 }) hl (by omega) (by have:=sizeLine_eq;omega) (by unfold seqIndex?;simp;omega) hx ?_))
 dsimp only
 refine wpAny_bind (wpAny_field (s:={ s with toks:=s.toks+1 }) ho hd (x:=rawInt (i:Int)) rfl ?_)
 dsimp only[rawInt]
 refine wpAny_bind (wpAny_setField (s:={ s with toks:=s.toks+1 }) ho hd (by simp) ?_)
 refine wpAny_pure ⟨x,rfl,wpAny_pure (hQ _ _ ?_ (Heap.SameBut.update ..))⟩
 exact⟨_,Heap.get?_update_self _ ho (Obj.isFreed_of_fields (Obj.data_mapFields hd _)),(Obj.cls_mapFields ..).trans hc,by
  rw[Obj.data_mapFields hd];simp[rawInt]⟩
theorem zD3{it l:Addr}{Q:Option Value->Shared->Prop}(hh:A.handled=none)(hit:IsRv s.heap it l (-1))(hQ:∀h',Heap.ExtBut it s.heap h'->Q none { s with heap:=h' }):wpAny (model prog w) A (pyNext (.ref it)) Q E s:=by
 obtain⟨o,ho,hc,hd⟩:=id hit
 unfold pyNext
 refine wpAny_bind (wpAny_attempt (wpAny_callSpecial?_slot (name:=Str.ofString "__next__") hit.typeIs RV.s_next
  (wpAny_call_entry RV.s_next hit.typeIs RV.e_next ?_ (RV.a_next _))))
 unfold Builtin.«reversed.__next__»
 refine wpAny_bind (wpAny_of_eq (a:=(Value.ref it,[])) rfl ?_)
 try dsimp only
 refine wpAny_bind (wpAny_field ho hd (x:=.ref l) rfl ?_)
 refine wpAny_bind (wpAny_field ho hd (x:=rawInt (-1)) rfl ?_)
 show wpAny _ _ (if (-1:Int)<0 then _ else _) _ _ s
 rw[if_pos (by decide)]
 refine wpAny_bind (wpAny_rule ?_)
 show wpAny _ _ ((setField (.ref it) 1 (rawInt (-1)) >>= fun _=>setField (.ref it) 0 .none) >>= _) _ _ _
 refine wpAny_bind (wpAny_bind (wpAny_setField ho hd (by simp) ?_))
 refine wpAny_setField (Heap.get?_update_self _ ho (Obj.isFreed_of_fields (Obj.data_mapFields hd _))) (Obj.data_mapFields hd _) (by simp) ?_
 refine wpAny_bind ?_
 (show wpAny _ _ (newExc (.type "StopIteration") [] >>= _) _ _ _)
 refine wpAny_bind ?_
 simp only[newExc,newTuple]
 (refine wpAny_bind (wpAny_newObj_type ?_ (by size_fits)))
 refine wpAny_bind (m:=firstArgMember _ _) (wpAny_of_eq (a:=Value.none) (by first|rfl|(simp only[firstArgMember];rfl)) ?_)
 (refine wpAny_newObj_type ?_ (by size_fits))
 simp only[raiseNew]
 (refine wpAny_bind (wpAny_handled ?_))
 first|rw[show A.in1.handled=none from hh]|rw[hh]
 (refine wpAny_bind (wpAny_pure (wpAny_throw ?_)))
 refine wpAny_bind (wpAny_isInstance (T:="StopIteration") (b:=true) ⟨_,Heap.get?_push_size _ rfl,rfl⟩ isSubtype_stop ?_)
 refine wpAny_pure (hQ _ fun b o hb e=>?_)
 have e1:=(Heap.SameBut.update s.heap it (Obj.mapFields fun x=>x.setIfInBounds 1 (rawInt (-1)))).2 b hb
 have e2:=(Heap.SameBut.update (s.heap.update it (Obj.mapFields fun x=>x.setIfInBounds 1 (rawInt (-1)))) it (Obj.mapFields fun x=>x.setIfInBounds 0 .none)).2 b hb
 exact Heap.get?_push_of_some _ (Heap.get?_push_of_some _ (e2.trans (e1.trans e)))
end
noncomputable def zIC(K:Fg)(a:Addr)(n:Nat):It:=
 ⟨fun i H=>∃xs x,SqT K H a xs/\xs.length=n/\i<n/\xs[n-1-i]?=some x,fun i H x H'=>H'=H/\∀xs,SqT K H a xs->xs[n-1-i]?=some x,fun i _=>i=n⟩
theorem Q9{P:Program}{w:World}{K:Fg}{tg:Expr}(a it:Addr)(n:Nat):Turn P w K tg (zIC K a n) [it] it (fun i h=>IsRv h it a ((n:Int)-1-(i:Int))) where
 mem:=by simp
 obj:=fun i h st b hb=>by
  have e:b=it:=by simpa using hb
  subst e
  obtain⟨o,e,c,d⟩:=st
  exact⟨o,e,fun v z=>by rw[d] at z;cases z⟩
 keep:=fun i h h' st k=>st.at fun o e=>k it (by simp) o e
 item:=by
  intro X hP hw hK hc i pins s σ H E I hf st hg
  subst hP hw hK
  obtain⟨xs,x,hq,hn,hi,hx⟩:=hg
  obtain⟨its,rv,p,hz⟩:=I.tuple hq
  obtain⟨u,hu,ru⟩:=rv.get hx
  obtain⟨f0,f1,f2,f3,f4,f5⟩:=hf it (by simp)
  have e1:(n:Int)-1-(i:Int)=((n-1-i:Nat):Int):=by clear st hu hx hq hn rv p;omega
  rw[e1] at st
  refine JM st p (by rw[List.size_toArray,<-rv.length];exact hz) (x:=u) (by simpa using hu) fun h' tk st' sb=>?_
  have e2:((n-1-i:Nat):Int)-1=(n:Int)-1-((i+1:Nat):Int):=by clear st st' hu hx hq hn rv p;omega
  rw[e2] at st'
  have I1:Inv X pins σ H { s with heap:=h',toks:=tk }:=I.turned (t':=tk) (fun b o hb e=>(sb.2 b hb).trans e) f0 f1 f3 f4 f5
  obtain⟨o,e,c,d⟩:=id st'
  exact⟨u,rfl,ZX (s:={ s with heap:=h',toks:=tk }) e c d (by decide) ⟨x,H,I1,ru,⟨rfl,fun ys hy=>by rw[I.tuple_inj hy hq];exact hx⟩,st',fun b hb=>(hf b hb).1⟩⟩
 done:=by
  intro X hP hw hK hc i pins s σ H E I hf st hg
  subst hP hw hK
  obtain rfl:i=n:=hg
  obtain⟨f0,f1,f2,f3,f4,f5⟩:=hf it (by simp)
  have e1:(i:Int)-1-(i:Int)=-1:=by clear st;omega
  rw[e1] at st
  exact zD3 (I.ok.hd hc) st fun h' eb=>⟨rfl,I.turned (t':=s.toks) (fun b o hb e=>eb b o hb e) f0 f1 f3 f4 f5⟩
 self:=fun _ _ _ _ _ st h=>tY st h
open PySem PySem.Spec PyProof.Rows L2 PySem.W
noncomputable def lIo(K:Fg)(it:ML):TI:=fun σ H Rr=>∃O0 r l,R K O0 H r σ/\it r=some l/\∀J H',Same H H'->zDK K (Ow O0 r σ) (Ow O0 r σ) H' J l->Rr J H'
noncomputable def DIo(X:Cx)(tg iter:Expr)(it:ML):Prop:=PI X tg iter (lIo X.K it)
noncomputable def mTp(f:ME):ML:=fun r=>(f r).bind fun d=>match d with
 |.tup l=>some l
 |_=>none
section
variable{X:Cx}{l a tg:Expr}{f:ME}{p pos:Pos}
theorem zCC(hl:DE X l f):DIo X tg l (mTp f):=by
 refine PI.conseq (J0 hl) fun σ H Rr h=>?_
 obtain⟨O0,r,ds,hR,e,q⟩:=h
 obtain⟨d,e1,e2⟩:=bind_some e
 refine⟨O0,r,d,hR,e1,fun v H1 s1 i1=>?_⟩
 have ol:=(hR.same s1).ol
 cases d<;>first|(cases e2;done)|skip
 cases e2
 rw[Is.tup_iff] at i1
 obtain⟨a,xs,rfl,rd,il⟩:=i1
 exact⟨a,rfl,.inr ⟨⟨xs,rd⟩,q _ H1 s1 (QR (fun a z=>z) ol rd il)⟩⟩
theorem zGW{K:Fg}{O:Addr->Prop}{H:Hp}{a:Addr}{xs:List V}{ds:List D}(ol:jB O H)(rd:SqT K H a xs)(il:IsL K O H ds xs):zDK K O O H (zIC K a xs.length) ds.reverse:=by
 intro i H1 O' kp oo
 have rd1:SqT K H1 a xs:=SqT.keep kp ol rd
 have ll:=il.length
 have bk:∀d,ds.reverse[i]?=some d->i<xs.length/\ds[xs.length-1-i]?=some d:=fun d e=>by
  have hi:i<ds.length:=by
   obtain⟨h,_⟩:=List.getElem?_eq_some_iff.mp e
   rw[List.length_reverse] at h;exact h
  rw[List.getElem?_reverse hi,ll] at e
  exact⟨ll ▸ hi,e⟩
 refine⟨fun hi=>⟨?_,fun x H' y=>?_⟩,fun hi=>by rw[List.length_reverse,ll] at hi;exact hi⟩
 ·obtain⟨d,e⟩:=kB hi
  obtain⟨hi',e'⟩:=bk d e
  obtain⟨v,e1,_⟩:=il.get e'
  exact⟨xs,v,rd1,rfl,hi',e1⟩
 ·obtain⟨rfl,y⟩:=y
  refine⟨Same.refl _,fun d e=>?_⟩
  obtain⟨hi',e'⟩:=bk d e
  obtain⟨v,e1,q⟩:=il.get e'
  have:=y xs rd1
  rw[e1] at this;cases this
  exact Is.mono kp ol oo _ _ q
theorem zHJ{ta:TE}(hg:Gl X "reversed")(hm:X.mg "reversed" = none)(ha:PE X a ta)(hs:starEach [a] X.env=[(false,eval a X.env)]:=by rfl):PI X tg (.Call (.Name "reversed" p) [a] [] pos) (fun σ H R=>ta σ H fun x H1=>∃u xs,x=.ref u/\SqT X.K H1 u xs/\R (zIC X.K u xs.length) H1):=by
 intro pins s σ H R I h
 have hA:PA X [a] (W5 ta zDV):=zZ ha xA (by rw[hs];rfl)
 refine Call_ (bW I hg hm PyProof.Rows.boot_reversed (PyProof.Rows.callWith_type1 (thn (hA pos pins s σ H (z1 fun x H1=>∃u xs,x=.ref u/\SqT X.K H1 u xs/\R (zIC X.K u xs.length) H1) I h) fun us s1 ⟨vs,H1,I1,r1,q1⟩=>?_) hs rfl))
 obtain⟨_,rfl,u,xs,rfl,hx,q⟩:=QQ q1
 obtain⟨uu,rfl,ru⟩:=Vals.one r1
 cases ru
 obtain⟨its,rv,pl,hz⟩:=I1.tuple hx
 have hl:its.toArray.size=xs.length:=by rw[List.size_toArray];exact rv.length.symm
 refine JN pl (by rw[hl];exact hz) fun tk=>?_
 have z1:IsRv (s1.heap.push (W8 u ((its.toArray.size:Int)-1))) s1.heap.objs.size u ((its.toArray.size:Int)-1):=⟨_,Heap.get?_push_size _ rfl,rfl,rfl⟩
 refine tY z1 ?_
 refine⟨_,[s1.heap.objs.size],_,_,H1,rfl,I1.kept (t':=tk) (fun b o e=>Heap.get?_push_of_some _ e),Q9 u _ xs.length,?_,fun b hb=>?_,q⟩
 ·rw[hl] at z1 ⊢
  rw[show((xs.length:Int)-1-((0:Nat):Int))=(xs.length:Int)-1 from Int.sub_zero _]
  exact z1
 ·have e:b=s1.heap.objs.size:=by simpa using hb
  subst e
  exact I1.fpOk (Nat.le_refl _) (I1.hok.fresh (Nat.le_refl _))
noncomputable def zHV(f:ME):ML:=fun r=>(mTp f r).map List.reverse
theorem zFM(hg:Gl X "reversed")(hm:X.mg "reversed" = none)(ha:DE X a f)(hs:starEach [a] X.env=[(false,eval a X.env)]:=by rfl):DIo X tg (.Call (.Name "reversed" p) [a] [] pos) (zHV f):=by
 refine PI.conseq (zHJ hg hm ha hs) fun σ H Rr hq=>?_
 obtain⟨O0,r,ds,hR,e,q⟩:=hq
 obtain⟨l,e0,rfl⟩:=map_some e
 obtain⟨x,e1,e2⟩:=bind_some e0
 refine⟨O0,r,x,hR,e1,fun v1 H1 s1 i1=>?_⟩
 have ol:=(hR.same s1).ol
 cases x<;>first|(cases e2;done)|skip
 cases e2
 rw[Is.tup_iff] at i1
 obtain⟨u,xs,rfl,hx,il⟩:=i1
 exact⟨u,xs,rfl,hx,q _ H1 s1 (zGW ol hx il)⟩
end
noncomputable def nB(z i:Nat)(g:MEs):List D->MEs
 |[]=>pD
 |d::t=>fun st r=>if i=z then none else (yW i d r).bind fun r1=>(g st r1).bind fun fl=>match fl with
  |.nx st' r'=>nB z i g t st' r'
  |.rt d st' r'=>some (.rt d st' r')
noncomputable def zID(z i:Nat)(it:ML)(g:MEs):MEs:=fun st r=>(it r).bind fun l=>nB z i g l st r
noncomputable def vR:Nat->MEt->MEs->MEs
 |0,_,_=>fun _ _=>none
 |n+1,t,g=>fun st r=>(t st r).bind fun p=>if p.1=true then (g p.2 r).bind fun fl=>(match fl with
  |.nx st' r'=>vR n t g st' r'
  |.rt d st' r'=>some (.rt d st' r')) else some (.nx p.2 r)
section
variable{X:Cx}{C:Addr}{z:Nat}{iter c:Expr}{body:List Stmt}{it:ML}{g:MEs}{t:MEt}{pos tpos npos apos:Pos}{x y:Str}
theorem zEZ(i:Nat)(hp:PassesOwn (model X.prog X.w) X.A X.env X.xe)(hc:X.calm=true)(hi:DIo X (.Name x tpos) iter it)(hN:X.N.Nodup)(hb:QM X C z body g)(hxi:X.N[i]?=some x:=by rfl)(hx:Loc X.env.scope x:=by first|exact Or.inl rfl|exact Or.inr rfl)(hf:X.fn x=true\/X.env.scope.names.lookup x=some .local:=by first|exact .inl rfl|exact .inr rfl)(hs:∀x,foldedSetIterable iter X.env x=pure x:=by intro _;rfl):DMs X C z (.For (.Name x tpos) iter body [] pos) (zID z i it g):=by
 refine PS.conseq (JW hp hc hi (nW hN hxi hx hf) hb hs) fun Dn σ H hq=>?_
 obtain⟨O,a,w,c,st,r,fl,mr,e,q⟩:=hq
 obtain⟨l,e1,e2⟩:=bind_some e
 refine⟨O,r,l,mr.rr,e1,fun J H0 s0 yl=>?_⟩
 have m0:=mr.same s0
 rw[show Ow O r σ=O from funext fun b=>propext mr.no.ow] at yl
 refine⟨fun i' m σ1 H1=>m=l.length-i'/\i'<=l.length/\∃st1 r1,McR X.K O H1 C z a w c st1 r1 σ1/\KeepM a w c H0 H1/\nB z i g (l.drop i') st1 r1=some fl,⟨l.length,by simp,Nat.zero_le _,st,r,m0,KeepM.refl H0,by simpa using e2⟩,?_⟩
 rintro i' m σ1 H1 ⟨rfl,hil,st1,r1,m1,k1,e3⟩
 have k0:=(KeepM.same (a:=a) (w:=w) (c:=c) s0).trans k1
 obtain⟨y1,y2⟩:=yl i' H1 O (m0.ms.kp k1) fun _ z _=>z
 by_cases hlt:i'<l.length
 ·obtain⟨go,yd⟩:=y1 hlt
  have hd:l[i']?=some l[i']:=by simp[hlt]
  rw[kC hd] at e3
  unfold nB at e3
  split at e3
  ·cases e3
  rename_i h0
  obtain⟨r2,e4,e5⟩:=bind_some e3
  obtain⟨f1,e6,e7⟩:=bind_some e5
  refine .inr ⟨go,fun σ3 H3=>∃st3 r3,McR X.K O H3 C z a w c st3 r3 σ3/\KeepM a w c H0 H3/\nB z i g (l.drop (i'+1)) st3 r3=some fl,fun σ3 H3 z=>⟨l.length-(i'+1),by omega,rfl,hlt,z⟩,fun x H2 yx=>?_⟩
  obtain⟨s2,ix⟩:=yd x H2 yx
  have m2:=m1.same s2
  obtain⟨hl,np,rfl⟩:=qB e4
  obtain⟨R1,_⟩:=m2.rr.setv hl np (m2.is.mpr (ix _ hd))
  have m3:McR X.K O H2 C z a w c st1 (r1.set i (.v l[i'])) (σ1.set i (some x)):=⟨m2.ms,R1,m2.no.set,by rw[List.getElem?_set_ne h0];exact m2.me⟩
  refine⟨O,a,w,c,st1,_,f1,m3,e6,?_⟩
  have k3:=k1.trans (KeepM.same (a:=a) (w:=w) (c:=c) s2)
  have k4:=k0.trans (KeepM.same (a:=a) (w:=w) (c:=c) s2)
  cases f1 with
  |nx st3 r3=>exact fun σ3 H3 M3 kk=>⟨st3,r3,M3,k3.trans kk,e7⟩
  |rt d st3 r3=>cases e7;exact MFl.to_keep k4 q
 ·have hl:l.drop i'=[]:=List.drop_eq_nil_of_le (by omega)
  rw[hl] at e3
  cases e3
  exact .inl ⟨y2 (by omega),q σ1 H1 m1 k0⟩
theorem X9(n:Nat)(hp:PassesOwn (model X.prog X.w) X.A X.env X.xe)(hc:DMt X C z c t)(hb:QM X C z body g):DMs X C z (.While c body [] pos) (vR n t g):=by
 refine PS.conseq (nT hp hc hb) fun Dn σ H hq=>?_
 obtain⟨O,a,w,c,st,r,fl,mr,e,q⟩:=hq
 refine⟨fun m σ1 H1=>∃st1 r1,McR X.K O H1 C z a w c st1 r1 σ1/\KeepM a w c H H1/\vR m t g st1 r1=some fl,⟨n,st,r,mr,KeepM.refl H,e⟩,?_⟩
 rintro m σ1 H1 ⟨st1,r1,m1,k1,e1⟩
 cases m with
 |zero=>cases e1
 |succ m=>
  obtain⟨⟨b,st2⟩,e2,e3⟩:=bind_some e1
  refine⟨O,a,w,c,st1,r1,b,st2,m1,e2,fun H2 m2 k2=>?_⟩
  have k3:=k1.trans k2
  cases b with
  |false=>
   cases e3
   exact zGS (q σ1 H2 m2 k3)
  |true=>
   obtain⟨f1,e4,e5⟩:=bind_some e3
   refine zGR ⟨fun σ3 H3=>∃st3 r3,McR X.K O H3 C z a w c st3 r3 σ3/\KeepM a w c H H3/\vR m t g st3 r3=some fl,fun σ3 H3 z=>⟨m,Nat.lt_succ_self m,z⟩,O,a,w,c,st2,r1,f1,m2,e4,?_⟩
   cases f1 with
   |nx st3 r3=>exact fun σ3 H3 M3 kk=>⟨st3,r3,M3,k3.trans kk,e5⟩
   |rt d st3 r3=>cases e5;exact MFl.to_keep k3 q
theorem zAT(hv:PE X (.Name x npos) (jX z))(cl:Cls X.K C)(na:NoAttr X.K C "waiting")(hb:attributeBase (.Name x npos) "waiting" X.env (eval (.Name x npos) X.env)=eval (.Name x npos) X.env:=by rfl)(he:∀whole,isTrue (.Attribute (.Name x npos) "waiting" apos) X.env whole=(do let v <- whole;standAt (Expr.Attribute (.Name x npos) "waiting" apos).pos;holding [v] (truthy v)):=by intro _;rfl):DMt X C z (.Attribute (.Name x npos) "waiting" apos) (fun st _=>some (!st.wait.isEmpty,st)):=by
 refine PT.conseq (cB (v6 hv hb) he) fun σ H Q hq=>?_
 obtain⟨O,a,w,c,st,r,b,st',mr,e,q⟩:=hq
 cases e
 obtain⟨dx,xs,ys,ve,vd,g1,g2,g3,g4,g5,g6,g7⟩:=mr.ms.ex
 refine⟨.ref a,wM mr,a,C,dx,_,.ref w,rfl,g1,cl,na,rfl,!xs.isEmpty,.inl ⟨xs,SqL.of g2,rfl⟩,?_⟩
 have:=g6.length
 rw[show xs.isEmpty=st.wait.isEmpty by cases h1:st.wait<;>cases h2:xs<;>simp[h1,h2] at this ⊢]
 exact q H mr (KeepM.refl H)
noncomputable def nonB:D->Bool
 |.non=>true
 |_=>false
theorem Is.nonB{K:Fg}{O:Addr->Prop}{H:Hp}{d:D}{v:V}(h:Is K O H d v):decide (v=.non)=nonB d:=by
 cases d with
 |non=>rw[Is.non_iff] at h;subst h;rfl
 |bl b=>rw[Is.bl_iff] at h;subst h;rfl
 |int i=>rw[Is.int_iff] at h;subst h;rfl
 |str s=>rw[Is.str_iff] at h;subst h;rfl
 |ref a=>rw[Is.ref_iff] at h;subst h;rfl
 |tup l=>rw[Is.tup_iff] at h;obtain⟨a,xs,rfl,_⟩:=h;rfl
 |lst l=>rw[Is.lst_iff] at h;obtain⟨a,xs,rfl,_⟩:=h;rfl
 |dct ks l=>rw[Is.dct_iff] at h;obtain⟨a,xs,rfl,_⟩:=h;rfl
 |ty n=>unfold Is at h;subst h;rfl
theorem zAV{m:MEf}{e:Expr}{j:Nat}{pos':Pos}(h:DMe X C z e m):DMt X C z (.Compare e [.Is] [.Constant .none j pos'] pos) (fun st r=>(m st r).map fun p=>(nonB p.1,p.2)):=by
 refine PT.conseq (JV (zEO h)) fun σ H Q hq=>?_
 obtain⟨O,a,w,c,st,r,b,st',mr,e,q⟩:=hq
 obtain⟨⟨d,st1⟩,e1,e2⟩:=map_some e
 cases e2
 exact⟨O,a,w,c,st,r,d,st1,mr,e1,fun v H1 m1 iv k1=>⟨_,rfl,by rw[Is.nonB iv];exact q H1 m1 k1⟩⟩
theorem zEX{e e':Expr}{t':MEt}(h:DMt X C z e t)(h':DMt X C z e' t'):DMt X C z (.BoolOp .And [e,e'] pos) (fun st r=>(t st r).bind fun p=>if p.1=true then t' p.2 r else some (false,p.2)):=by
 refine PT.conseq (PW.pt (JR h (t7 h'))) fun σ H Q hq=>?_
 obtain⟨O,a,w,c,st,r,b,st',mr,e,q⟩:=hq
 obtain⟨⟨b1,st1⟩,e1,e2⟩:=bind_some e
 refine⟨O,a,w,c,st,r,b1,st1,mr,e1,fun H1 m1 k1=>?_⟩
 cases b1 with
 |false=>cases e2;exact zGS (q H1 m1 k1)
 |true=>exact zGR ⟨O,a,w,c,st1,r,b,st',m1,e2,fun H2 m2 k2=>q H2 m2 (k1.trans k2)⟩
end
open PySem PySem.Spec PyProof.Rows L2 PySem.W
section
variable{X:Cx}{C:Addr}{iter:Expr}{f:ME}{scope:Scope}{N':List Str}{x y:Str}{j:Nat}{tpos npos npos' apos bpos cpos pos pl p2 p3 pn:Pos}
theorem vS{α:Type}{cs:List α}{i:Nat}(h:i<cs.length):∃v,(cs.take (cs.length-i))[(cs.take (cs.length-i)).length-1]?=some v/\(cs.take (cs.length-i)).dropLast=cs.take (cs.length-(i+1))/\cs.reverse.take i++[v]=cs.reverse.take (i+1):=by
 have hl:(cs.take (cs.length-i)).length=cs.length-i:=by rw[List.length_take];omega
 have h1:cs.length-i-1<cs.length:=by omega
 refine⟨cs[cs.length-i-1],?_,?_,?_⟩
 ·rw[hl,List.getElem?_take,if_pos (by omega),List.getElem?_eq_getElem h1]
 ·rw[List.dropLast_eq_take,hl,List.take_take];congr 1;omega
 ·rw[List.take_succ,List.getElem?_reverse h,show cs.length-1-i=cs.length-i-1 by omega,List.getElem?_eq_getElem h1];rfl
noncomputable def zC1(f:ME):MEf:=fun st r=>(f r).bind fun d=>match d with
 |.tup l=>if l.length<=st.come.length/\l.length<sizeLine then some (.lst (st.come.drop (st.come.length-l.length)),{ st with come:=st.come.take (st.come.length-l.length) }) else none
 |_=>none
theorem zA2(hc:X.calm=true)(o:CmpOk X N' [0] scope)(hi:DE X iter f)(hn:N'.length=2)(hg:∀C fp s H,PG (cxC X N' scope C fp s H) (.Name y tpos) (zBQ 1))(hv:∀C fp s H,PE (cxC X N' scope C fp s H) (.Name x npos) (jX 0))(cl:Cls X.K C)(na:NoAttr X.K C "come")(hb:∀C fp s H,attributeBase (.Name x npos) "come" (cxC X N' scope C fp s H).env (eval (.Name x npos) (cxC X N' scope C fp s H).env)=eval (.Name x npos) (cxC X N' scope C fp s H).env)(hbase:∀C fp s H,attributeBase (.Attribute (.Name x npos) "come" bpos) "pop" (cxC X N' scope C fp s H).env (eval (.Attribute (.Name x npos) "come" bpos) (cxC X N' scope C fp s H).env)=eval (.Attribute (.Name x npos) "come" bpos) (cxC X N' scope C fp s H).env)(hline:(apos.endLine == cpos.line)=true:=by rfl)(hs:∀x,foldedSetIterable iter X.env x=pure x:=by intro _;rfl):DMe X C 0 (.Subscript (.ListComp (.Call (.Attribute (.Attribute (.Name x npos) "come" bpos) "pop" apos) [] [] cpos) [⟨.Name y tpos,iter,[],0⟩] scope pl) (.Slice none none (some (.UnaryOp .USub (.Constant (.int 1) j p3) pos)) p2) pn) (zC1 f):=by
 refine PE.conseq (J5 (v5 (tc:=none) (g:=zBQ 1) (te:=zIV X.K "list" zI0 (zIU X.K (jX 0) "come")) (cap:=[0]) hc o (zCC hi) hg rfl (fun C fp s H=>p7 PySem.F.plainAttrs_list PySem.F.slot_list_pop PySem.F.type_list_pop rJ (v6 (hv C fp s H) (hb C fp s H)) (hbase C fp s H) hline) hs)) fun σ H Q hq=>?_
 obtain⟨O,a,w,c,st,r,d,st',mr,e1,q⟩:=hq
 obtain⟨d',e2,e3⟩:=bind_some e1
 cases d'<;>first|(cases e3;done)|skip
 rename_i l
 dsimp only at e3
 split at e3
 case isFalse=>cases e3
 rename_i hln
 obtain⟨hln,hsz⟩:=hln
 cases e3
 refine⟨O,r,l,mr.rr,by unfold mTp;rw[e2];rfl,fun J H1 s1 yl p hp=>?_⟩
 rw[show Ow O r σ=O from funext fun b=>propext mr.no.ow] at yl
 have m1:=mr.same s1
 obtain⟨dx,xs,cs,ve,vd,g1,g2,g3,g4,g5,g6,g7⟩:=m1.ms.ex
 have aw:=McR.aw m1.ms
 have hcs:=g7.length
 have pa:a≠p:=fun z=>by rw[z,hp] at g1;cases g1
 have pw:w≠p:=fun z=>by rw[z,hp] at g2;cases g2
 have pc:c≠p:=fun z=>by rw[z,hp] at g3;cases g3
 rw[hn]
 refine⟨fun i m ys σ2 H2=>m=l.length-i/\i<=l.length/\σ2.length=2/\σ2[0]?=some (some (.ref a))/\ys=cs.reverse.take i/\H2 p=some (.lst ys)/\H2 c=some (.lst (cs.take (cs.length-i)))/\∀b o,H1 b=some o->b≠c->H2 b=some o,
  ⟨l.length,rfl,Nat.zero_le _,rfl,by show some (σ[0]?.getD none)=_;rw[mr.me];rfl,rfl,zK,by rw[zI pc,g3];simp,fun b o e _=>by rw[zI (fun z=>by rw[z,hp] at e;cases e)];exact e⟩,?_⟩
 rintro i m ys σ2 H2 ⟨rfl,hi',hl2,hs2,rfl,ep,ec,eo⟩
 have kM:KeepM a w c H1 H2:=fun b o e h1 h2 h3=>eo b o e h3
 obtain⟨y1,y2⟩:=yl i H2 O (m1.ms.kp kM) fun _ z _=>z
 have hlt':(cs.reverse.take i).length=i:=by rw[List.length_take,List.length_reverse];omega
 refine⟨ep,by rw[hlt'];omega,?_⟩
 by_cases hlt:i<l.length
 ·obtain⟨go,yd⟩:=y1 hlt
  refine .inr ⟨go,fun xv H3 yx=>?_⟩
  obtain⟨s3,_⟩:=yd xv H3 yx
  obtain⟨v,v1,v2,v3⟩:=vS (cs:=cs) (i:=i) (by omega)
  have ea3:H3 a=some (.ins C dx (mfs st.most st.steps w c ve vd)):=s3 _ _ (eo a _ g1 aw.2)
  have ec3:=s3 _ _ ec
  refine⟨.ref a,by rw[List.getElem?_set_ne (by decide)];exact hs2,a,C,dx,_,.ref c,rfl,ea3,cl,na,rfl,.inl ⟨rfl,_,SqL.of ec3⟩,c,_,v,rfl,rfl,ec3,v1,?_⟩
  have ep3:=s3 _ _ ep
  refine⟨by rw[zI pc.symm];exact ep3,l.length-(i+1),by omega,rfl,hlt,by rw[List.length_set];exact hl2,by rw[List.getElem?_set_ne (by decide)];exact hs2,v3,zK,?_,fun b o e h1=>?_⟩
  ·rw[zI pc,zK,v2]
  ·rw[zI (fun z=>by rw[z,hp] at e;cases e),zI h1];exact s3 _ _ (eo b o e h1)
 ·have hil:i=l.length:=by omega
  subst hil
  refine .inl ⟨y2 rfl,.inl ⟨p,_,rfl,SqL.of ep,fun t ht=>?_⟩⟩
  have hne:∀b o,H2 b=some o->b≠t:=fun b o e z=>by rw[z,ht] at e;cases e
  have k2:KeepM a w c H1 (upd H2 t (.lst (cs.reverse.take l.length).reverse)):=fun b o e h1 h2 h3=>by rw[zI (hne b o (kM b o e h1 h2 h3))];exact kM b o e h1 h2 h3
  have n:=Mch.put (K:=X.K) (H2:=upd H2 t (.lst (cs.reverse.take l.length).reverse)) (co:=st.come.take (st.come.length-l.length)) m1.ms m1.ol k2 (by rw[zI (hne a _ (eo a _ g1 aw.2))];exact eo a _ g1 aw.2) (by rw[zI (hne w _ (eo w _ g2 m1.ms.wc))];exact eo w _ g2 m1.ms.wc) (by rw[zI (hne c _ ec)];exact ec) g4 g5 g6 (by rw[hcs];exact g7.take _)
  have m2:=m1.step k2 n
  have ot:¬O t:=fun z=>by
   obtain⟨o,e,_⟩:=m1.ol t z
   by_cases h1:t=c
   ·rw[h1] at ht;rw[ht] at ec;cases ec
   ·have:=eo t o e h1;rw[ht] at this;cases this
  refine q _ _ m2 ?_ ((KeepM.same s1).trans k2)
  rw[Is.lst_iff]
  have e9:(cs.reverse.take l.length).reverse=cs.drop (cs.length-l.length):=by
   rw[List.take_reverse,List.reverse_reverse]
  refine⟨t,cs.drop (cs.length-l.length),rfl,.inl ⟨ot,.inl (by rw[zK,e9])⟩,?_⟩
  rw[<-hcs]
  exact IsL.mono (m1.ms.kp k2) m1.ol (fun _ z _=>z) _ _ (g7.drop _)
end
open PySem PySem.Spec PyProof.Rows L2 PySem.W
namespace DU
theorem e_loop:entryFor table "dict.update.loop" = some Builtin.«dict.update.loop»:=entryFor_of_tree (by kernel_rfl)
theorem p_loop:plainId "dict.update.loop" = true:=by decide +kernel
theorem lk_keys:typeLookup (.type "list") "keys" = pure none:=by rw[typeLookup_type,builtinLookup_eq_fast];kernel_rfl
end DU
section
variable{prog:Program}{w:World}{A:Around}{E:Value->Shared->Prop}{s:Shared}
theorem rN{a:Addr}{o:Obj}{xs:Array Value}{k:Nat}{Q:Option Value->Shared->Prop}(hx:s.heap.get? a=some o)(hc:o.cls=.type "list")(hdat:o.data=.seq xs k)(hd:o.dict=none)(hA:A.handled=none)(h:∀h' tk,(∀b ob,s.heap.get? b=some ob->h'.get? b=some ob)->Q none { s with heap:=h',toks:=tk }):wpAny (model prog w) A (getAttr? (.ref a) "keys") Q E s:=by
 obtain⟨c,dct,dat,sl⟩:=o
 simp only at hc hdat hd
 subst hc hdat hd
 obtain⟨hp,g,d,tk,os⟩:=s
 have hT:∀tk',(⟨hp,g,d,tk',os⟩:Shared).TypeIs (.ref a) "list" := fun _=>⟨_,hx,rfl⟩
 have f1:=sub_AttributeError
 have f3:=F.slot_list_getattribute.lookup
 have f4:=F.slot_list_getattribute.bind (.ref a)
 have f5:=am_list_getattr_none
 (unfold getAttr? getAttrBy? getAttrBy)
 repeat (any_goals (first|assumption|exact hT _|((with_reducible show wpAny _ _ (call (Value.builtin "list.__getattribute__") _ _) _ _ _);refine call_meets F.slot_list_getattribute (hT _) am_entry_list_getattribute (F.args_list_getattribute_2 _ _) (meets_getattribute_miss_list a xs k sl _ _ DU.lk_keys (by decide +kernel) (by size_fits)) ⟨hx,hA,fun h' tk' e hx'=>?_⟩)|wp_step))
 obtain⟨t',u',he⟩:=hx'.there
 (show wpAny _ _ (getattributeRaised _ _ _ _ _ _ _) _ _ _)
 unfold getattributeRaised
 repeat (any_goals (first|assumption|wp_step))
 exact h _ _ hx'.keeps
noncomputable def zIA(h:Heap)(v:Value)(k:Key)(u:Value):Prop:=∃t key,v=.ref t/\IsTup h t #[key,u]/\b5 k key=true
theorem zB3{l it d:Addr}{its:Array Value}(hh:A.handled=none)(hld:l≠d)(hli:l≠it)(hid:it≠d):∀(n i:Nat) (s:Shared) (ps:List (Key×Value)) (kvs:List (Key×Value)) (R:Result->Shared->Prop),i+n=its.size->ps.length=n->kvs.length+n<=sizeLine->s.heap.IsListIter it l i->PlainL s.heap l its ->
  (∀j (p:Key×Value),ps[j]?=some p->∃v,its[i+j]?=some v/\(∃t,v=.ref t/\t≠d/\t≠it)/\zIA s.heap v p.1 p.2)->s.heap.DictOf (yH prog w) d kvs ->
  (∀h' tk,h'.DictOf (yH prog w) d (ps.foldl (fun z p=>stored z p.1 p.2) kvs)->(∀b o,b≠it->b≠d->s.heap.get? b=some o->h'.get? b=some o)->R (.ok (.ret .none)) { s with heap:=h',toks:=tk }) ->
  codeAny (model prog w) A (.builtin "dict.update.loop" ⟨[.ref d,.ref it,rawInt (i:Int),.none],[]⟩) R s:=by
 intro n
 induction n with
 |zero=>
  intro i s ps kvs R hi hl hz hit pl hp hd hR
  obtain rfl:ps=[]:=List.length_eq_zero_iff.mp hl
  refine codeAny_builtin DU.e_loop ?_
  rw[Around.under_plainId DU.p_loop _]
  show wpAny _ A.in1 (pyNext (.ref it) >>= _) _ _ s
  refine wpAny_bind (wpAny_pyNext_list_end (show A.in1.handled=none from hh) hit pl.isList (Array.getElem?_eq_none (by omega)) fun h' eb=>?_)
  show wpAny _ A.in1 (Builtin.Dict.addKeywords d [] >>= fun _=>ret Value.none) _ _ _
  refine wpAny_bind (wpAny_pure (wpAny_pure (hR h' s.toks (hd.extBut eb hid.symm) fun b o hb _ e=>eb b o hb e)))
 |succ n ih=>
  intro i s ps kvs R hi hl hz hit pl hp hd hR
  obtain⟨p,ps,rfl⟩:∃p q,ps=p::q:=by cases ps with
   |nil=>cases hl
   |cons p q=>exact⟨p,q,rfl⟩
  obtain⟨v,ev,⟨t0,rfl,ntd,nti⟩,t,key,e0,tu,kk⟩:=hp 0 p rfl
  cases e0
  refine codeAny_builtin DU.e_loop ?_
  rw[Around.under_plainId DU.p_loop _]
  show wpAny _ A.in1 (pyNext (.ref it) >>= _) _ _ s
  refine wpAny_bind (wpAny_pyNext_list_item hit pl.isList ev fun h1 hit1 sb1=>?_)
  have k1:∀b o,b≠it->s.heap.get? b=some o->h1.get? b=some o:=fun b o hb e=>(sb1.2 b hb).trans e
  have tu1:IsTup h1 t0 #[key,p.2]:=by obtain⟨o,e,r⟩:=tu;exact⟨o,k1 _ _ nti e,r⟩
  have hd1:h1.DictOf (yH prog w) d kvs:=hd.sameBut sb1 hid.symm
  obtain⟨ot,hot,hct,nt,hdt⟩:=id tu1
  (refine wpAny_bind (wpAny_holding ?_))
  (refine wpAny_bind (wpAny_tryCatch ?_))
  unfold Builtin.Dict.pairItems
  refine wpAny_bind (wpAny_typeOf (s:={ s with heap:=h1 }) tu1.typeIs ?_)
  rw[if_pos (by decide)]
  refine wpAny_bind (wpAny_seqItems (s:={ s with heap:=h1 }) hot hdt (wpAny_pure ?_))
  dsimp only[Option.getD_some]
  refine wpAny_holding ?_
  refine wpAny_dictSet_pairs (knd:=yH prog w) (s:={ s with heap:=h1 }) (k:=p.1) kk hd1 (fun h2 hd2 sb2=>?_) (by omega)
  have k2:∀b o,b≠it->b≠d->s.heap.get? b=some o->h2.get? b=some o:=fun b o hb hb' e=>(sb2.2 b hb').trans (k1 b o hb e)
  have e1:((i:Int)+1)=((i+1:Nat):Int):=by omega
  rw[e1]
  refine wpAny_pure ⟨plainId_quiet DU.p_loop _,ih (i+1) _ ps (stored kvs p.1 p.2) R (by omega) (Nat.succ.inj hl) ?_ (hit1.at fun o e=>(sb2.2 it hid).trans e) (by obtain⟨o,n,e,r⟩:=pl;exact⟨o,n,k2 l o hli hld e,r⟩) (fun j q hq=>?_) hd2 fun h' tk hd' kp=>?_⟩
  ·have:(stored kvs p.1 p.2).length<=kvs.length+1:=by unfold stored;split<;>simp
   omega
  ·obtain⟨v,ev',⟨t1,rfl,n1,n2⟩,t2,key2,e2,tu2,kk2⟩:=hp (j+1) q hq
   cases e2
   refine⟨_,by rw[<-ev'];congr 1;omega,⟨t1,rfl,n1,n2⟩,t1,key2,rfl,?_,kk2⟩
   obtain⟨o,e,r⟩:=tu2
   exact⟨o,k2 t1 o n2 n1 e,r⟩
  ·exact hR h' tk hd' fun b o hb hb' e=>kp b o hb hb' (k2 b o hb hb' e)
end
open PySem PySem.Spec PyProof.Rows L2 PySem.W
section
variable{prog:Program}{w:World}{A:Around}{E:Value->Shared->Prop}{s:Shared}
theorem zB4{l:Addr}{its:Array Value}{ps:List (Key×Value)}{Q:Value->Shared->Prop}(hh:A.handled=none)(pl:PlainL s.heap l its)(hl:ps.length=its.size)(hz:its.size<=sizeLine)(hp:∀(j:Nat) (p:Key×Value),ps[j]?=some p->∃v,its[j]?=some v/\zIA s.heap v p.1 p.2)(h:∀h' tk,h'.DictOf (yH prog w) s.heap.objs.size (ps.foldl (fun z p=>stored z p.1 p.2) [])->(∀b o,s.heap.get? b=some o->h'.get? b=some o)->Q (.ref s.heap.objs.size) { s with heap:=h',toks:=tk }):wpAny (model prog w) A (call (.type "dict") [.ref l]) Q E s:=by
 refine callType_codes (Q₁:=fun obj s₁=>obj=.ref s.heap.objs.size/\s₁={ s with heap:=s.heap.push { cls:=.type "dict",data:=.dict #[] } }) F.kt_called_dict (F.kt_typeCall_dict_1 _) F.entry_dict_init (kt_code_dict_new _ ⟨rfl,rfl⟩) ?_
 rintro obj s₁ ⟨rfl,rfl⟩
 have hnew:(s.heap.push { cls:=.type "dict",data:=.dict #[] }).DictOf (yH prog w) s.heap.objs.size []:=Heap.DictOf.new s.heap
 obtain⟨ol,nl,hol,hcl,hdl,hsl⟩:=id pl
 have hlt:l<s.heap.objs.size:=Heap.lt_size hol
 have k1:∀b o,s.heap.get? b=some o->(s.heap.push { cls:=.type "dict",data:=.dict #[] }).get? b=some o:=fun b o e=>Heap.get?_push_of_some _ e
 refine⟨hnew.typeIs,F.args_dict_init_2 _ _,?_⟩
 (unfold Builtin.«dict.__init__»)
 refine wpAny_bind ?_
 (unfold Builtin.Dict.selfAndRest)
 (refine wpAny_bind (wpAny_notOrdered_dict hnew.typeIs ?_))
 show wpAny _ _ (pure (s.heap.objs.size,[Value.ref l])) _ _ _
 refine wpAny_pure ?_
 show wpAny _ _ (Builtin.Dict.updateFrom "dict.__init__" s.heap.objs.size (.ref l) [] .none) _ _ _
 (unfold Builtin.Dict.updateFrom)
 refine wpAny_bind (wpAny_typeOf (T:="list") ⟨_,k1 _ _ hol,hcl⟩ ?_)
 rw[if_pos (by decide)]
 refine wpAny_bind (rN (k1 _ _ hol) hcl hsl hdl (show A.in1.handled=none from hh) fun h2 tk2 k2=>?_)
 rw[if_pos (by rfl)]
 refine wpAny_bind (wpAny_rule ?_)
 have pl2:PlainL h2 l its:=⟨ol,nl,k2 _ _ (k1 _ _ hol),hcl,hdl,hsl⟩
 refine wpAny_bind (wpAny_pyIter_list (s:={ s with heap:=h2,toks:=tk2 }) pl2.isList ?_)
 have hd2:h2.DictOf (yH prog w) s.heap.objs.size []:=by
  obtain⟨o,es,ep,ho,r⟩:=hnew
  exact⟨o,es,ep,k2 _ _ ho,r⟩
 have hds:s.heap.objs.size<h2.objs.size:=by
  obtain⟨o,es,ep,ho,r⟩:=hd2
  exact Heap.lt_size ho
 have k3:∀b o,h2.get? b=some o->(h2.push { cls:=.type "list_iterator",data:=.fields #[.ref l,.int 0 0] }).get? b=some o:=fun b o e=>Heap.get?_push_of_some _ e
 have ka:∀b o,s.heap.get? b=some o->(h2.push { cls:=.type "list_iterator",data:=.fields #[.ref l,.int 0 0] }).get? b=some o:=fun b o e=>k3 _ _ (k2 _ _ (k1 _ _ e))
 refine wpAny_pure ⟨plainId_quiet DU.p_loop _,zB3 (A:=A.in1) (l:=l) (it:=h2.objs.size) (d:=s.heap.objs.size) (its:=its) hh (Nat.ne_of_lt hlt) (Nat.ne_of_lt (Nat.lt_trans hlt hds)) (Nat.ne_of_gt hds) its.size 0 _ ps [] _ (by omega) hl (by simpa using hz) ⟨_,Heap.get?_push_size _ rfl,rfl,rfl⟩ ⟨ol,nl,k3 _ _ (k2 _ _ (k1 _ _ hol)),hcl,hdl,hsl⟩ (fun j p e=>?_) ?_ fun h' tk hd' kp=>?_⟩
 ·obtain⟨v,ev,t,key,rfl,⟨o,e1,r⟩,kk⟩:=hp j p e
  have:=Heap.lt_size e1
  exact⟨_,by rw[Nat.zero_add];exact ev,⟨t,rfl,Nat.ne_of_lt this,Nat.ne_of_lt (Nat.lt_trans this hds)⟩,t,key,rfl,⟨o,ka _ _ e1,r⟩,kk⟩
 ·obtain⟨o,es,ep,ho,r⟩:=hd2
  exact⟨o,es,ep,k3 _ _ ho,r⟩
 ·refine⟨rfl,h h' tk hd' fun b o e=>kp b o ?_ ?_ (ka _ _ e)⟩
  ·exact Nat.ne_of_lt (Nat.lt_trans (Heap.lt_size e) hds)
  ·exact Nat.ne_of_lt (Heap.lt_size e)
end
noncomputable def zF3:D->Option (Key×D)
 |.tup [k,d]=>(zIO k).map fun k=>(k,d)
 |_=>none
noncomputable def dJ:List D->Option (List (Key×D))
 |[]=>some []
 |d::l=>(zF3 d).bind fun p=>(dJ l).map (p::·)
noncomputable def QF(ps:List (Key×D)):List Key×List D:=ps.foldl (fun z p=>zCW z.1 z.2 p.1 p.2) ([],[])
noncomputable def WG(fl:ML):MD:=fun r=>(fl r).bind fun l=>(dJ l).map QF
section
variable{X:Cx}{a:Expr}{fl:ML}{p' pos:Pos}
theorem kD(hc:X.calm=true):CallR X (.type "dict") (fun xs H Q=>∃(l:Addr) (ys:List V) (ps:List (Key×V)),xs=[.ref l]/\SqL X.K H l ys/\ps.length=ys.length/\(∀(j:Nat) (p:Key×V),ps[j]?=some p->∃t,ys[j]?=some (.ref t)/\SqT X.K H t [kV p.1,p.2])/\∀p,H p=none->Q (.ref p) (upd H p (.dK (ps.foldl (fun z p=>pX z p.1 p.2) [])))):=by
 intro pins s σ H xs us Q I r h
 obtain⟨l,ys,ps,rfl,hl,hn,hp,q⟩:=h
 obtain⟨u,rfl,rx⟩:=W1 r
 cases rx
 obtain⟨its,rv,pl,hz⟩:=I.list hl
 have hlen:=rv.length
 have ex:∀(j:Nat) (p:Key×V),ps[j]?=some p->∃(v:Value) (u:Value),its[j]?=some v/\RelV p.2 u/\zIA s.heap v p.1 u:=fun j p e=>by
  obtain⟨t,e1,st⟩:=hp j p e
  obtain⟨v,ev,rv'⟩:=rv.get e1
  cases rv'
  obtain⟨its2,rv2,tu,_⟩:=I.tuple st
  obtain⟨key,u,rfl,rk,ru⟩:=Vals.two rv2
  exact⟨_,u,ev,ru,t,key,rfl,tu,zBJ (P:=X.prog) (w:=X.w) rk⟩
 let us:List (Key×Value):=(List.range ps.length).pmap (fun j hj=>((ps[j]'hj).1,Classical.choose (Classical.choose_spec (ex j ps[j] (List.getElem?_eq_getElem hj))))) fun j hj=>List.mem_range.mp hj
 have ul:us.length=ps.length:=by simp[us]
 have uj:∀(j:Nat) (hj:j<ps.length),us[j]?=some ((ps[j]).1,Classical.choose (Classical.choose_spec (ex j ps[j] (List.getElem?_eq_getElem hj)))):=fun j hj=>by
  rw[List.getElem?_eq_getElem (by rw[ul];exact hj)]
  simp[us]
 have hpr:∀(j:Nat) (p:Key×Value),us[j]?=some p->∃v,its.toArray[j]?=some v/\zIA s.heap v p.1 p.2:=fun j p e=>by
  have hj:j<ps.length:=by
   obtain⟨z,_⟩:=List.getElem?_eq_some_iff.mp e
   rw[ul] at z;exact z
  rw[uj j hj] at e
  cases e
  obtain⟨e1,e2,e3⟩:=Classical.choose_spec (Classical.choose_spec (ex j ps[j] (List.getElem?_eq_getElem hj)))
  exact⟨_,by simpa using e1,e3⟩
 have kv:∀(z:List (Key×V)) (z':List (Key×Value)),KV z z'->KV (ps.foldl (fun z p=>pX z p.1 p.2) z) (us.foldl (fun z p=>stored z p.1 p.2) z'):=by
  have gen:∀(as:List (Key×V)) (bs:List (Key×Value)),as.length=bs.length->(∀(j:Nat) (x:Key×V) (y:Key×Value),as[j]?=some x->bs[j]?=some y->x.1=y.1/\RelV x.2 y.2)->∀(z:List (Key×V)) (z':List (Key×Value)),KV z z'->KV (as.foldl (fun z p=>pX z p.1 p.2) z) (bs.foldl (fun z p=>stored z p.1 p.2) z'):=by
   intro as
   induction as with
   |nil=>intro bs hl _ z z' hz;cases bs with
    |nil=>exact hz
    |cons _ _=>cases hl
   |cons x as ih=>intro bs hl hr z z' hz;cases bs with
    |nil=>cases hl
    |cons y bs=>
     obtain⟨e1,e2⟩:=hr 0 x y rfl rfl
     rw[List.foldl_cons,List.foldl_cons]
     refine ih bs (Nat.succ.inj hl) (fun j x y e e'=>hr (j+1) x y e e') _ _ ?_
     rw[e1];exact hz.put y.1 e2
  refine gen ps us ul.symm fun j x y e e'=>?_
  have hj:j<ps.length:=by
   obtain⟨z,_⟩:=List.getElem?_eq_some_iff.mp e
   exact z
  rw[uj j hj] at e'
  rw[List.getElem?_eq_getElem hj] at e
  cases e;cases e'
  obtain⟨_,e2,_⟩:=Classical.choose_spec (Classical.choose_spec (ex j ps[j] (List.getElem?_eq_getElem hj)))
  exact⟨rfl,e2⟩
 have lz:(ps.foldl (fun z p=>pX z p.1 p.2) []).length<=sizeLine:=by
  have gen:∀(as:List (Key×V)) (z:List (Key×V)),(as.foldl (fun z p=>pX z p.1 p.2) z).length<=z.length+as.length:=by
   intro as
   induction as with
   |nil=>intro z;simp
   |cons x as ih=>
    intro z
    rw[List.foldl_cons]
    have h1:=ih (pX z x.1 x.2)
    have h2:(pX z x.1 x.2).length<=z.length+1:=by unfold pX;split<;>simp
    simp only[List.length_cons];omega
  have:=gen ps []
  simp only[List.length_nil] at this;omega
 refine zB4 (I.ok.hd hc) pl (by rw[ul,List.size_toArray];omega) (by rw[List.size_toArray];omega) hpr fun h' tk dd kp=>?_
 exact⟨.ref s.heap.objs.size,_,I.laid (a:=s.heap.objs.size) (o:=.dK (ps.foldl (fun z p=>pX z p.1 p.2) [])) (t':=tk) kp (Nat.le_refl _) (zFL lz (beq_eq_false_iff_ne.mpr (Ne.symm (Nat.ne_of_lt I.big))) (kv [] [] .nil) dd),rfl,q _ (I.hok.fresh (Nat.le_refl _))⟩
theorem dI{K:Fg}{O:Addr->Prop}{H:Hp}:∀{l:List D} {qs:List (Key×D)} {ys:List V},dJ l=some qs->IsL K O H l ys->∃ps:List (Key×V),ps.length=ys.length/\(∀(j:Nat) (p:Key×V),ps[j]?=some p->∃t,ys[j]?=some (.ref t)/\SqT K H t [kV p.1,p.2]) /\
  ∀(kvs:List (Key×V)) (ks:List Key) (ds:List D),kvs.map (·.1)=ks->IsL K O H ds (kvs.map (·.2))->(ps.foldl (fun z p=>pX z p.1 p.2) kvs).map (·.1)=(qs.foldl (fun z p=>zCW z.1 z.2 p.1 p.2) (ks,ds)).1/\IsL K O H (qs.foldl (fun z p=>zCW z.1 z.2 p.1 p.2) (ks,ds)).2 ((ps.foldl (fun z p=>pX z p.1 p.2) kvs).map (·.2))
 |[],qs,ys,e,h=>by
  cases e
  unfold IsL at h
  subst h
  exact⟨[],rfl,fun j p e=>by simp at e,fun kvs ks ds e1 e2=>⟨e1,e2⟩⟩
 |d::l,qs,ys,e,h=>by
  obtain⟨⟨k,d'⟩,e1,e2⟩:=bind_some e
  obtain⟨qs',e3,rfl⟩:=map_some e2
  unfold IsL at h
  obtain⟨y,ys',rfl,iy,il⟩:=h
  obtain⟨ps,hl,hp,hf⟩:=dI e3 il
  unfold zF3 at e1
  split at e1
  ·rename_i kd dd
   obtain⟨k',e4,e5⟩:=map_some e1
   cases e5
   rw[Is.tup_iff] at iy
   obtain⟨t,xs,rfl,st,i2⟩:=iy
   unfold IsL at i2
   obtain⟨v1,xs1,rfl,j1,i3⟩:=i2
   unfold IsL at i3
   obtain⟨v2,xs2,rfl,j2,i4⟩:=i3
   unfold IsL at i4
   subst i4
   have ek:v1=kV k:=by
    cases kd<;>first|(cases e4;done)|skip
    ·cases e4;rw[Is.int_iff] at j1;exact j1
    ·cases e4;rw[Is.str_iff] at j1;exact j1
   subst ek
   refine⟨(k,v2)::ps,by simp[hl],fun j p e=>?_,fun kvs ks ds g1 g2=>?_⟩
   ·cases j with
    |zero=>cases e;exact⟨t,rfl,st⟩
    |succ j=>exact hp j p e
   ·rw[List.foldl_cons,List.foldl_cons]
    obtain⟨q1,q2⟩:=JT (k:=k) g1 g2 j2
    exact hf _ _ _ q1 q2
  ·cases e1
theorem WQ(hc:X.calm=true)(hg:Gl X "dict")(hm:X.mg "dict" = none)(ha:DB X a fl)(hs:starEach [a] X.env=(false,eval a X.env)::starEach [] X.env:=by rfl):DFd X (.Call (.Name "dict" p') [a] [] pos) (WG fl):=by
 refine PE.conseq (v7 (kD hc) hg hm PyProof.Rows.boot_dict (zZ ha xA hs) (he:=hs)) fun σ H Q hq=>?_
 obtain⟨O0,r,ks,l,hR,e,q⟩:=hq
 obtain⟨ds,e1,e2⟩:=bind_some e
 obtain⟨qs,e3,e4⟩:=map_some e2
 refine⟨O0,r,ds,hR,e1,fun c xs H1 s1 sq il=>?_⟩
 obtain⟨ps,hl,hp,hf⟩:=dI e3 il
 refine⟨c,xs,ps,rfl,sq,hl,hp,fun t ht=>?_⟩
 obtain⟨q1,q2⟩:=hf [] [] [] rfl .nil
 unfold QF at e4
 rw[e4] at q1 q2
 refine q t _ _ (s1.trans (zV ht)) (s1.free ht) zK q1 ?_
 exact IsL.mono (Same.kp (zV ht) _) (hR.same s1).ol (fun b z nn=>z.elim id fun z=>by subst z;exact absurd ht nn) _ _ q2
end
open PySem PySem.Spec PyProof.Rows L2 PySem.W
structure CMeth(K:Fg)(B:Addr)(m:Str)(f:Addr):Prop where
 ga:specialIn K (.ref B) "__getattribute__" = some (some (.builtin "type.__getattribute__"))
 rd:readsIn K B (.type "type")=true
 fc:findCls K (.ref B) (.type "type") m=some (.val (.ref f))
 hh:handedIn (.ref f)=true
 kp:keepIn K (.ref f)=true
section
variable{X:Cx}{CX:CXT}{k:Nat}{f B:Addr}{fd:FuncData}{ps:List Str}{sp:Sp}{dvs:List V}{ds:List Value}{E:XK}{x m:Str}{p pos apos:Pos}{e:Expr}{es:List Expr}{t:TA}
theorem XV{pl:Sem Bool}(M:CMeth X.K B m f)(F:FnOk X.prog X.w X.K X.mg X.base CX k f fd ps sp)(hr:Room k X.A)(hg:Gl X x)(hm:X.mg x=some (.ref B))(hb:Binds X.K fd ps ds)(hd:Vals dvs ds)(hx:uT CX X E)(ha:PA X (e::es) t)(hdb:(x == ("__debug__" : Str))=false:=by decide)(hst:starEach (e::es) X.env=(false,eval e X.env)::starEach es X.env:=by rfl)(hpl:(backTo pos (starEach es X.env)).any (·.1)=false:=by rfl)(ht:eval (.Call (.Attribute (.Name x p) m apos) (e::es) [] pos) X.env=(do
   let ov <- eval (.Name x p) X.env
   standAt apos.atName
   let (f,first) <- holding [ov] (getMethod ov m pl)
   callWith pos f first (backTo pos (starEach (e::es) X.env)) (backToKw pos (keywordEach [] X.env))):=by rfl):PE X (.Call (.Attribute (.Name x p) m apos) (e::es) [] pos) (zC3 sp dvs E t):=by
 intro pins s σ H Q I h
 refine PySem.W.methodCall_KW (pl:=pl) ?_ ht
 refine d9 I hg hm ?_ hdb
 refine method_cls I.kIn M.ga (cls_value I.kIn M.rd M.fc M.hh ?_)
 refine PySem.W.callWith_K (first:=[]) (h₀:=X.base) I.ok.mod.kin M.kp (thn (ha pos pins { s with toks:=s.toks+1 } σ H _ (I.tok _) h) fun us s2 ⟨vs,H2,I2,r,q2⟩=>⟨I2.kIn,?_⟩) hst hpl
 exact mF F hr hb hd hx I2 r q2
end
open PySem PySem.Spec PyProof.Rows L2 PySem.W
section
variable{K:Fg}{O O':Addr->Prop}{H:Hp}{r:En}{σ:St}{i:Nat}
theorem R.plain(no:NoOwn r)(len:r.length=σ.length)(ol:jB O H)(val:∀(i:Nat) (d:D),r[i]?=some (.v d)->∃v,σ[i]?=some (some v)/\Is K O H d v):R K O H r σ:=by
 have ow:Ow O r σ=O:=funext fun b=>propext no.ow
 refine⟨len,fun i d e=>by rw[ow];exact val i d e,fun i l e=>?_,fun i j b l m e1 e2 _ _=>?_,ol,fun i l b e _=>?_,fun i l b e _=>?_,fun i ks l e=>?_⟩
 ·have:=no i;rw[qX e] at this;cases this
 ·have:=no i;rw[e1] at this;cases this
 ·exfalso
  have:=no i
  rcases e with e|e|⟨ks,e⟩<;>rw[e] at this<;>cases this
 ·have:=no i;rw[e] at this;cases this
 ·have:=no i;rw[e] at this;cases this
theorem R.valO(h:R K O H r σ)(no:NoOwn r){d:D}(e:r[i]?=some (.v d)):∃v,σ[i]?=some (some v)/\Is K O H d v:=by
 obtain⟨v,e1,q⟩:=h.val i d e
 rw[show Ow O r σ=O from funext fun b=>propext no.ow] at q
 exact⟨v,e1,q⟩
theorem Kp.plain{H':Hp}{r':En}{σ':St}(s:Same H H')(no:NoOwn r)(no':NoOwn r'):Kp H r σ H' r' σ':=by
 have k:=Kp.of_same r σ s
 refine⟨k.keep,k.live,k.lst,fun b z=>absurd z (no'.at fun _ _ e=>e),fun b z=>absurd z (no'.at fun x l e=>by cases x<;>first|exact e|cases e),fun i l e=>?_,fun i l e=>?_⟩
 ·have:=no i;rw[e] at this;cases this
 ·have:=no i;rw[e] at this;cases this
noncomputable def X6(r:En):Bool:=r.all fun s=>s.own.isNone
theorem uD(h:X6 r=true):NoOwn r:=fun i=>by
 cases e:r[i]? with
 |none=>rfl
 |some x=>
  have:=List.all_eq_true.mp h x (List.mem_of_getElem? e)
  show x.own=none
  exact Option.isNone_iff_eq_none.mp this
end
noncomputable def Ox(O:Addr->Prop)(x w c:Addr):Addr->Prop:=fun b=>O b\/b=x\/b=w\/b=c
noncomputable def zIG(K:Fg)(C:Addr):Sp:=fun vs H Q _=>∃x dx m,vs=[.ref x,.int m]/\H x=some (.ins C dx []) /\
 ∀w c H',w≠c->H w=none->H c=none->H' x=some (.ins C dx [("most",.int m),("steps",.int 0),("waiting",.ref w),("come",.ref c),("ended",.non)])->H' w=some (.lst [])->H' c=some (.lst [])->(∀b o,H b=some o->b≠x->H' b=some o)->Q .non H'
noncomputable def zIH(K:Fg)(C:Addr)(dd:D->Option D):Sp:=fun vs H Q _=>∃O x dx pd pv m d,vs=[.ref x,pv,.int m]/\H x=some (.ins C dx [])/\jB O H/\¬O x/\Is K (Ox O x x x) H pd pv/\dd pd=some d /\
 ∀w c vd H',w≠c->H w=none->H c=none->H' x=some (.ins C dx (mfs m 0 w c .non vd))->H' w=some (.lst [])->H' c=some (.lst [])->(∀b o,H b=some o->b≠x->H' b=some o)->jB (Ox O x w c) H'->Is K (Ox O x w c) H' d vd->Q .non H'
section
variable{X:Cx}{K:Fg}{C:Addr}
theorem XD{N:List Str}{vs:List V}{H:Hp}{Q:VK}{E:XK}(hN:N.length=2)(cl:Cls K C)(n1:NoAttr K C "most")(n2:NoAttr K C "steps")(n3:NoAttr K C "waiting")(n4:NoAttr K C "come")(n5:NoAttr K C "ended")(h:zIG K C vs H Q E):zFS (zD1 K (jX 0) (jX 1) "most") (zFS (zD1 K (jX 0) (fun _ H Q=>Q (.int 0) H) "steps") (zFS (zD1 K (jX 0) (zIF zDV) "waiting") (zFS (zD1 K (jX 0) (zIF zDV) "come") (zD1 K (jX 0) (fun _ H Q=>Q .non H) "ended")))) { nx:=fun _ H'=>Q .non H',rt:=Q } (L2.start N vs) H:=by
 obtain⟨x,dx,m,rfl,hx,q⟩:=h
 have s0:(L2.start N [.ref x,.int m])[0]?=some (some (.ref x)):=rfl
 have s1:(L2.start N [.ref x,.int m])[1]?=some (some (.int m)):=rfl
 refine⟨.int m,s1,.ref x,s0,x,C,dx,[],rfl,hx,cl,n1,by decide,?_⟩
 refine⟨.ref x,s0,x,C,dx,_,rfl,zK,cl,n2,by show 1<1000;decide,?_⟩
 refine⟨Nat.zero_le _,fun w hw=>⟨.ref x,s0,x,C,dx,[("most",.int m),("steps",.int 0)],rfl,?_,cl,n3,by show 2<1000;decide,?_⟩⟩
 ·rw[zI (fun z=>by rw[<-z,zK] at hw;cases hw),zK];rfl
 have xw:x≠w:=fun z=>by rw[<-z,zK] at hw;cases hw
 refine⟨Nat.zero_le _,fun c hc=>⟨.ref x,s0,x,C,dx,[("most",.int m),("steps",.int 0),("waiting",.ref w)],rfl,?_,cl,n4,by show 3<1000;decide,?_⟩⟩
 ·rw[zI (fun z=>by rw[<-z,zK] at hc;cases hc),zK];rfl
 have xc:x≠c:=fun z=>by rw[<-z,zK] at hc;cases hc
 refine⟨.ref x,s0,x,C,dx,[("most",.int m),("steps",.int 0),("waiting",.ref w),("come",.ref c)],rfl,zK,cl,n5,by show 4<1000;decide,?_⟩
 rw[zI xw.symm,zI xw.symm] at hw
 rw[zI xc.symm] at hc
 have wc:w≠c:=fun z=>by rw[z,zK] at hc;cases hc
 rw[zI wc.symm,zI xc.symm,zI xc.symm] at hc
 refine q w c _ wc hw hc zK ?_ ?_ fun b o e hb=>?_
 ·rw[zI xw.symm,zI xw.symm,zI wc,zI xw.symm,zK]
 ·rw[zI xc.symm,zI xc.symm,zK]
 ·have h1:b≠w:=fun z=>by rw[z,hw] at e;cases e
  have h2:b≠c:=fun z=>by rw[z,hc] at e;cases e
  rw[zI hb,zI hb,zI h2,zI hb,zI h1,zI hb,zI hb];exact e
end
open PySem PySem.Spec PyProof.Rows L2 PySem.W
section
variable{K:Fg}{C:Addr}
theorem zC6{O:Addr->Prop}{H H1:Hp}{x w c:Addr}{o1 o2 o3:HO}(ol:jB O H)(nx:¬O x)(e1:H1 x=some o1)(e2:H1 w=some o2)(e3:H1 c=some o3)(m1:Mb o1)(m2:Mb o2)(m3:Mb o3)(k:∀b o,H b=some o->b≠x->H1 b=some o):jB (Ox O x w c) H1:=fun b z=>by
 rcases z with z|z|z|z
 ·obtain⟨o,e,mb⟩:=ol b z
  exact⟨o,k b o e (fun q=>nx (q ▸ z)),mb⟩
 ·subst z;exact⟨o1,e1,m1⟩
 ·subst z;exact⟨o2,e2,m2⟩
 ·subst z;exact⟨o3,e3,m3⟩
theorem XM{N:List Str}{vs:List V}{H:Hp}{Q:VK}{E:XK}{dd:D->Option D}{fd':ME}(hN:N.length=3)(cl:Cls K C)(n6:NoAttr K C "defs")(hdd:∀pd d,dd pd=some d->∀m,fd' [.un,.v pd,.v (.int m)]=some d)(h:zIH K C dd vs H Q E):zFS (zFU (zC3 (zIG K C) [] E0 (W5 (jX 0) (W5 (jX 2) zDV)))) (zD1 K (jX 0) (lE K fd') "defs") { nx:=fun _ H'=>Q .non H',rt:=Q } (L2.start N vs) H:=by
 obtain⟨O,x,dx,pd,pv,m,d,rfl,hx,ol,nx,ip,ed,q⟩:=h
 have s0:(L2.start N [.ref x,pv,.int m])[0]?=some (some (.ref x)):=rfl
 have s2:(L2.start N [.ref x,pv,.int m])[2]?=some (some (.int m)):=rfl
 refine⟨.ref x,s0,.int m,s2,x,dx,m,rfl,hx,fun w c H1 wc hw hc e1 e2 e3 k=>?_⟩
 have ol0:jB (Ox O x x x) H:=zC6 ol nx hx hx hx trivial trivial trivial fun b o e _=>e
 have ol1:jB (Ox O x w c) H1:=zC6 ol nx e1 e2 e3 trivial trivial trivial k
 have ip1:Is K (Ox O x w c) H1 pd pv:=Is.mono (fun b o e n=>k b o e fun z=>n (.inr (.inl z))) ol0 (fun b z nn=>by
  rcases z with z|z|z|z
  ·exact .inl z
  ·exact .inr (.inl z)
  ·exact absurd (z ▸ hw) nn
  ·exact absurd (z ▸ hc) nn) _ _ ip
 have hs:L2.start N [.ref x,pv,.int m]=[some (.ref x),some pv,some (.int m)]:=by
  unfold L2.start;rw[hN];rfl
 have no:NoOwn [.un,.v pd,.v (.int m)]:=uD rfl
 have rr:R K (Ox O x w c) H1 [.un,.v pd,.v (.int m)] (L2.start N [.ref x,pv,.int m]):=by
  rw[hs]
  refine R.plain no rfl ol1 fun i d' e=>?_
  match i,e with
  |0,e=>cases e
  |1,e=>cases e;exact⟨pv,rfl,ip1⟩
  |2,e=>cases e;exact⟨.int m,rfl,by rw[Is.int_iff]⟩
  |i+3,e=>simp at e
 refine⟨_,_,d,rr,hdd pd d ed m,fun v H2 s iv=>?_⟩
 rw[show Ow (Ox O x w c) [.un,.v pd,.v (.int m)] (L2.start N [.ref x,pv,.int m])=Ox O x w c from funext fun b=>propext no.ow] at iv
 refine⟨.ref x,s0,x,C,dx,_,rfl,s _ _ e1,cl,n6,by show 5<1000;decide,?_⟩
 have xw:w≠x:=fun z=>by rw[z,hx] at hw;cases hw
 have xc:c≠x:=fun z=>by rw[z,hx] at hc;cases hc
 have kx:∀b o,H2 b=some o->b≠x->upd H2 x (.ins C dx (mfs m 0 w c .non v)) b=some o:=fun b o e hb=>by rw[zI hb];exact e
 refine q w c v _ wc hw hc zK (kx _ _ (s _ _ e2) xw) (kx _ _ (s _ _ e3) xc) (fun b o e hb=>kx _ _ (s _ _ (k b o e hb)) hb) ?_ ?_
 ·exact zC6 ol nx zK (kx _ _ (s _ _ e2) xw) (kx _ _ (s _ _ e3) xc) trivial trivial trivial fun b o e hb=>kx _ _ (s _ _ (k b o e hb)) hb
 ·exact Is.mono (fun b o e n=>kx b o e fun z=>n (.inr (.inl z))) (fun b z=>by obtain⟨o,e,mb⟩:=ol1 b z;exact⟨o,s _ _ e,mb⟩) (fun _ z _=>z) _ _ iv
end
noncomputable def zIP:Option Sl->Bool
 |some .un=>true
 |_=>false
theorem zBN{s:Option Sl}(h:zIP s=true):s=some .un:=by
 unfold zIP at h;split at h<;>first|rfl|cases h
noncomputable def zHB(i:Nat)(fp fm:ME)(dd:D->Option D)(g:MEs):MS:=fun r=>if X6 r=true/\zIP r[i]?=true then (fp r).bind fun pd=>(fm r).bind fun md=>match md with
 |.int m=>(dd pd).bind fun d=>(g ⟨m,0,[],[],.non,d⟩ r).bind fun fl=>(match fl with
  |.rt d _ r'=>if X6 r'=true then some (.rt d r') else none
  |_=>none)
 |_=>none else none
section
variable{X:Cx}{C f:Addr}{k:Nat}{fd:FuncData}{ps:List Str}{x nm:Str}{a b:Expr}{fp fm:ME}{dd:D->Option D}{g:MEs}{rest:List Stmt}{p p' pos pos':Pos}
theorem zFK(i:Nat)(M:Mk X.K C f)(F:FnOk X.prog X.w X.K X.mg X.base CX0 k f fd ps (zIH X.K C dd))(hr:Room (k+1) X.A)(hg:Gl X x)(hm:X.mg x=some (.ref C))(hb:Binds X.K fd ps [])(ha:DE X a fp)(hb':DE X b fm)(hrest:QM X C i rest g)(hN:X.N.Nodup)(hi:X.N[i]?=some nm:=by rfl)(hx:Loc X.env.scope nm:=by first|exact Or.inl rfl|exact Or.inr rfl)(hs:swapsWith (.Call (.Name x p) [a,b] [] p') (some (.Name nm pos')) pos.line X.env=pure false:=by rfl)(hf:X.fn nm=true\/X.env.scope.names.lookup nm=some .local:=by first|exact .inl rfl|exact .inr rfl)(hdb:(x == ("__debug__" : Str))=false:=by decide)(he:starEach [a,b] X.env=(false,eval a X.env)::starEach [b] X.env:=by rfl)(he2:starEach [b] X.env=(false,eval b X.env)::starEach [] X.env:=by rfl)(hpl:(backTo p' (starEach [b] X.env)).any (·.1)=false:=by rfl):DSs X (.Assign [.Name nm pos'] (.Call (.Name x p) [a,b] [] p') pos::rest) (zHB i fp fm dd g):=by
 refine PSs.conseq (wW (mG hN hi hx (J8 (dvs:=[]) (E:=E0) M F hr hg hm hb .nil dH (zZ ha (zZ hb' xA he2) he) hdb he hpl) hs hf) hrest) fun Dn σ H hq=>?_
 obtain⟨O,r,fl,hR,e,q⟩:=hq
 unfold zHB at e
 split at e
 case isFalse=>cases e
 rename_i hno
 obtain⟨hno,hun⟩:=hno
 have hun:=zBN hun
 have no:=uD hno
 have ow:Ow O r σ=O:=funext fun b=>propext no.ow
 obtain⟨pd,e1,e⟩:=bind_some e
 obtain⟨md,e2,e⟩:=bind_some e
 cases md<;>first|(cases e;done)|skip
 rename_i m
 obtain⟨d,e3,e⟩:=bind_some e
 obtain⟨fl1,e4,e⟩:=bind_some e
 cases fl1 with
 |nx st' r'=>cases e
 |rt d' st' r'=>
  dsimp only at e
  split at e
  case isFalse=>cases e
  rename_i hno'
  cases e
  have no':=uD hno'
  refine⟨O,r,pd,hR,e1,fun pv H1 s1 ip=>⟨O,r,.int m,hR.same s1,e2,fun mv H2 s2 im=>?_⟩⟩
  rw[ow] at ip im
  rw[Is.int_iff] at im
  subst im
  intro y dx ny ndx hne
  have R2:=(hR.same s1).same s2
  have s3:Same H2 (upd (upd H2 dx (.own y)) y (.ins C dx [])):=fun b o e=>by
   rw[zI (fun z=>by rw[z,ny] at e;cases e),zI (fun z=>by rw[z,ndx] at e;cases e)];exact e
  have nOy:¬O y:=fun z=>by obtain⟨o,e,_⟩:=R2.o0 y z;rw[ny] at e;cases e
  have ip3:Is X.K (Ox O y y y) (upd (upd H2 dx (.own y)) y (.ins C dx [])) pd pv:=Is.mono (O:=O) (H:=H2) (fun b o e _=>s3 _ _ e) R2.o0 (fun b z nn=>by
   rcases z with z|z|z|z
   ·exact z
   all_goals exact absurd (z ▸ ny) nn) _ _ (Is.mono (O:=O) (fun b o e _=>s2 _ _ e) (hR.same s1).o0 (fun _ z _=>z) _ _ ip)
  refine⟨O,y,dx,pd,pv,m,d,rfl,zK,fun b z=>by obtain⟨o,e,mb⟩:=R2.o0 b z;exact⟨o,s3 _ _ e,mb⟩,nOy,ip3,e3,fun w c vd H4 wc hw hc f1 f2 f3 k4 ol4 iv=>⟨rfl,?_⟩⟩
  have sA:Same H H4:=fun b o e=>k4 b o (s3 _ _ (s2 _ _ (s1 _ _ e))) fun z=>by have:=s2 _ _ (s1 _ _ e);rw[z,ny] at this;cases this
  have hyi:(σ.set i (some (.ref y)))[i]?=some (some (.ref y)):=by
   have hi':i<σ.length:=by
    rw[<-hR.len]
    obtain⟨z,_⟩:=List.getElem?_eq_some_iff.mp hun
    exact z
   exact zO hi'
  have R4:R X.K (Ox O y w c) H4 r (σ.set i (some (.ref y))):=by
   refine R.plain no (by rw[List.length_set];exact hR.len) ol4 fun j d' e=>?_
   have hj:i≠j:=fun z=>by rw[<-z,hun] at e;cases e
   obtain⟨v,e5,q5⟩:=hR.valO no e
   refine⟨v,by rw[List.getElem?_set_ne hj];exact e5,Is.mono (O:=O) (H:=H) (fun b o e _=>sA _ _ e) hR.o0 (fun b z nn=>?_) _ _ q5⟩
   rcases z with z|z|z|z
   ·exact z
   ·exact absurd (s1.free (s2.free (z ▸ ny))) nn
   ·exact absurd (s1.free (s2.free (s3.free (z ▸ hw)))) nn
   ·exact absurd (s1.free (s2.free (s3.free (z ▸ hc)))) nn
  have ms:Mch X.K (Ox O y w c) H4 C y w c ⟨m,0,[],[],.non,d⟩:=⟨⟨dx,[],[],.non,vd,f1,f2,f3,by rw[Is.non_iff],iv,.nil,.nil⟩,wc,.inr (.inl rfl),.inr (.inr (.inl rfl)),.inr (.inr (.inr rfl))⟩
  refine⟨Ox O y w c,y,w,c,_,r,_,⟨ms,R4,no,hyi⟩,e4,fun v σ' H' m' iv' k'=>?_⟩
  have sB:Same H H':=fun b o e=>by
   have hb:=s2 _ _ (s1 _ _ e)
   have hb3:=s3 _ _ hb
   refine k' b o (sA _ _ e) (fun z=>?_) (fun z=>?_) (fun z=>?_)
   ·rw[z,ny] at hb;cases hb
   ·rw[z,hw] at hb3;cases hb3
   ·rw[z,hc] at hb3;cases hb3
  have olB:jB O H':=fun b z=>by obtain⟨o,e,mb⟩:=hR.o0 b z;exact⟨o,sB _ _ e,mb⟩
  have dn:∀{d:D} {v:V},Is X.K (Ox O y w c) H' d v->Is X.K O H' d v:=fun iv=>Is.mono (fun b o e _=>e) m'.ol (fun _ z _=>.inl z) _ _ iv
  refine q v σ' H' (R.plain no' m'.rr.len olB fun j d' e=>?_) (Kp.plain sB no no') (dn iv')
  obtain⟨u,e5,q5⟩:=m'.rr.valO no' e
  exact⟨u,e5,dn q5⟩
end
open PySem PySem.Spec PyProof.Rows L2 PySem.W
section
variable{X:Cx}{C:Addr}{z:Nat}{a b e:Expr}{es:List Expr}{m:MEf}{ms:MEa}{f g:ME}{x y:Str}{p pos apos npos:Pos}{k n:Nat}{fa:Addr}{fd:FuncData}{ps:List Str}{sts:List Stmt}
theorem McR.ows{O:Addr->Prop}{H:Hp}{a w c:Addr}{st:Mst}{r:En}{σ:St}(mr:McR X.K O H C z a w c st r σ):Ow O r σ=O:=funext fun b=>propext mr.no.ow
theorem zA1{x1}(h:DMa X C z es ms):DMe X C z (.Tuple es x1 pos) (fun st r=>(ms st r).bind fun p=>if p.1.length<=sizeLine then some (.tup p.1,p.2) else none):=by
 refine PE.conseq (J3 h) fun σ H Q hq=>?_
 obtain⟨O,a,w,c,st,r,d,st',mr,e1,q⟩:=hq
 obtain⟨⟨l,st1⟩,e2,e3⟩:=bind_some e1
 dsimp only at e3
 split at e3
 case isFalse=>cases e3
 rename_i hl
 cases e3
 refine⟨O,a,w,c,st,r,l,_,mr,e2,fun vs H1 m1 il k1=>⟨by rw[<-il.length];exact hl,fun t ht=>?_⟩⟩
 have s2:=zV (o:=.tup vs) ht
 refine q _ _ (m1.same s2) ?_ (k1.trans (KeepM.same s2))
 rw[Is.tup_iff]
 exact⟨t,vs,rfl,SqT.of zK,il.same s2 m1.ol⟩
theorem zF7(ha:DMe X C z a m)(hb:DE X b g)(hs:vK b:=by intro _ _;rfl):DMe X C z (.Subscript a b pos) (fun st r=>(m st r).bind fun p=>(g r).bind fun k=>(ixD p.1 k).map fun d=>(d,p.2)):=by
 refine PE.conseq (J9 zBK ha hb hs) fun σ H Q hq=>?_
 obtain⟨O,a,w,c,st,r,d,st',mr,e1,q⟩:=hq
 obtain⟨⟨d1,st1⟩,e2,e3⟩:=bind_some e1
 obtain⟨kd,e4,e5⟩:=bind_some e3
 obtain⟨d2,e6,e7⟩:=map_some e5
 cases e7
 refine⟨O,a,w,c,st,r,d1,st1,mr,e2,fun v H1 m1 iv k1=>⟨O,r,kd,m1.rr,e4,fun u H2 s2 iu=>?_⟩⟩
 have m2:=m1.same s2
 rw[m1.ows] at iu
 exact zF4 O H2 _ _ _ _ _ _ m2.ol (iv.same s2 m1.ol) iu e6 fun v' H3 s3 iv'=>q v' H3 (m2.same s3) iv' ((k1.trans (KeepM.same s2)).trans (KeepM.same s3))
theorem WB{mf:MF}(F:FnOk X.prog X.w X.K X.mg X.base CX0 k fa fd ps (spD X.K n mf))(hr:Room k X.A)(hg:Gl X x)(hm:X.mg x=some (.ref fa))(hk:PySem.W.keepIn X.K (.ref fa)=true)(hb:Binds X.K fd ps [])(ha:DMa X C z (e::es) ms)(hdb:(x == ("__debug__" : Str))=false:=by decide)(he:starEach (e::es) X.env=(false,eval e X.env)::starEach es X.env:=by rfl)(hpl:(backTo pos (starEach es X.env)).any (·.1)=false:=by rfl):DMe X C z (.Call (.Name x p) (e::es) [] pos) (fun st r=>(ms st r).bind fun p=>if p.1.length=n then (mf (p.1.map .v)).bind fun q=>(match q.1 with | .v d=>some (d,p.2)|_=>none) else none):=by
 refine PE.conseq (u8 (E:=fun _ _ _=>False) (dvs:=[]) F hr hg hm hk hb .nil dH ha hdb he hpl) fun σ H Q hq=>?_
 obtain⟨O,a,w,c,st,r,d,st',mr,e1,q⟩:=hq
 obtain⟨⟨ds,st1⟩,e2,e3⟩:=bind_some e1
 dsimp only at e3
 split at e3
 case isFalse=>cases e3
 rename_i hl
 obtain⟨⟨rs,as'⟩,e4,e5⟩:=bind_some e3
 cases rs<;>first|(cases e5;done)|skip
 cases e5
 refine⟨O,a,w,c,st,r,ds,_,mr,e2,fun vs H1 m1 il k1=>?_⟩
 refine cU m1.rr (Same.refl H1) (by rw[m1.ows];exact il) hl e4 ?_
 intro v H2 pf iv
 rw[m1.ows] at iv
 exact q v H2 (m1.same pf.same) iv (k1.trans (KeepM.same pf.same))
noncomputable def pE(g:ME):MEf:=fun st r=>(g r).bind fun kd=>(zIO kd).bind fun k=>match st.defs with
 |.dct ks l=>(qI ks l k).map fun d=>(d,st)
 |_=>none
theorem ZH(hu:X.A.units+1<cLine)(hv:PE X (.Name x npos) (jX z))(cl:Cls X.K C)(na:NoAttr X.K C "defs")(hk:DE X b g)(hs:zIS b:=by intro _ _;rfl)(hb:attributeBase (.Name x npos) "defs" X.env (eval (.Name x npos) X.env)=eval (.Name x npos) X.env:=by rfl):DMe X C z (.Subscript (.Attribute (.Name x npos) "defs" apos) b pos) (pE g):=by
 refine PE.conseq (zAA hu (v6 hv hb) hk hs) fun σ H Q hq=>?_
 obtain⟨O,a,w,c,st,r,d,st',mr,e1,q⟩:=hq
 obtain⟨kd,e2,e3⟩:=bind_some e1
 obtain⟨j,e4,e5⟩:=bind_some e3
 obtain⟨dx,xs,ys,ve,vd,g1,g2,g3,g4,g5,g6,g7⟩:=mr.ms.ex
 split at e5
 case h_2=>cases e5
 rename_i ks l ed
 obtain⟨d',e6,e7⟩:=map_some e5
 cases e7
 refine⟨.ref a,wM mr,a,C,dx,_,vd,rfl,g1,cl,na,rfl,O,r,kd,mr.rr,e2,fun y H2 s2 iy=>?_⟩
 have m2:=mr.same s2
 have g5':=g5.same s2 mr.ol
 rw[ed,Is.dct_iff] at g5'
 obtain⟨c',kvs,rfl,no,rd,rfl,il⟩:=g5'
 rw[mr.ows] at iy
 rcases cE j il with⟨dd,v,p1,p2,p3⟩|⟨p1,p2⟩
 ·rw[p1] at e6;cases e6
  exact⟨c',v,rfl,.inl ⟨kvs,j,rd,zBI e4 iy,p2.symm⟩,q v H2 m2 p3 (KeepM.same s2)⟩
 ·rw[p1] at e6;cases e6
theorem cD:QM X C z sts (fun _ _=>none):=fun pins s σ H Dn I h=>by
 obtain⟨O,a,w,c,st,r,fl,mr,e,q⟩:=h
 cases e
end
section
variable{P:Program}{w:World}{K:Fg}{mg:Str->Option Value}{base:Heap}{C f:Addr}{fd:FuncData}{ps:List Str}{k n:Nat}
theorem xV{m m':Mst->List D->Option (D×Mst)}(F:FnOk P w K mg base CX0 k f fd ps (spM K C n m))(i:∀st ds p,ds.length=n->m' st ds=some p->m st ds=some p):FnOk P w K mg base CX0 k f fd ps (spM K C n m'):=F.imp fun vs H Q E h=>by
 obtain⟨O,a,w,c,st,ds,us,d,st',e1,e2,e3,e4,e5,e6,q⟩:=h
 exact⟨O,a,w,c,st,ds,us,d,st',e1,e2,e3,e4,e5,i _ _ _ e2 e6,q⟩
end
open PySem PySem.Spec PyProof.Rows L2 PySem.W
namespace RP
theorem boot_repr:bootBuiltins "repr" = some (.builtin "repr"):=by decide +kernel
end RP
noncomputable def dD(l:List D):Bool:=zC7 l && (toP (.lst l)).showable && !(toP (.lst l)).hasDict && decide ((toP (.lst l)).depth<=150) && decide ((toP (.lst l)).shown.length<=sizeLine)
noncomputable def nP(l:List D):D:=.str (toP (.lst l)).shown.cps.toList
noncomputable def d0(fl:ML):ME:=fun r=>(fl r).bind fun l=>if dD l=true then some (nP l) else none
section
variable{X:Cx}{a e:Expr}{fl:ML}{f:ME}{p' pos pos':Pos}{k:Nat}{x:Str}
theorem tI(hr:Room k X.A):CallR X (.builtin "repr") (fun xs H Q=>∃O l p ys,xs=[.ref p]/\SqL X.K H p ys/\IsL X.K O H l ys/\dD l=true/\Q (.str (toP (.lst l)).shown) H):=by
 intro pins s σ H xs us Q I r h
 obtain⟨O,l,p,ys,rfl,hl,il,ok,q⟩:=h
 obtain⟨u,rfl,rx⟩:=W1 r
 cases rx
 unfold dD at ok
 simp only[Bool.and_eq_true,decide_eq_true_eq,Bool.not_eq_true'] at ok
 obtain⟨⟨⟨⟨o1,o2⟩,o3⟩,o4⟩,o5⟩:=ok
 obtain⟨its,rv,⟨ob,n,e,c,_,dt⟩,_⟩:=I.list hl
 obtain⟨as,qa⟩:=j3 I l ys its o1 il rv
 have rd:Reads s.heap (.ref p) (toP (.lst l)) (p::as):=by
  have:=Reads.list e c dt (by simpa using qa)
  unfold toP
  exact this
 have:=hr.un
 exact repr_of_reads' rd o2 (PyData.noDict_hsm o3) hr.gd (by omega) (fun _ _ e=>e) (fun h' u tk kp=>⟨.str _,H,I.kept (t':=tk) kp,⟨u,rfl⟩,q⟩) o5
theorem YA(hr:Room k X.A)(hg:Gl X "repr")(hm:X.mg "repr" = none)(ha:DB X a fl)(he:starEach [a] X.env=(false,eval a X.env)::starEach [] X.env:=by rfl)(hpl:(backTo pos (starEach [] X.env)).any (·.1)=false:=by rfl):DE X (.Call (.Name "repr" p') [a] [] pos) (d0 fl):=by
 refine PE.conseq (jJ (tI hr) hg hm RP.boot_repr (zZ ha xA he) (he:=he) (hpl:=hpl)) fun σ H Q hq=>?_
 obtain⟨O0,r,d,hR,e,q⟩:=hq
 obtain⟨l,e1,e2⟩:=bind_some e
 split at e2
 case isFalse=>cases e2
 rename_i ok
 cases e2
 refine⟨O0,r,l,hR,e1,fun p xs H1 s1 sq il=>⟨_,l,p,xs,rfl,sq,il,ok,q _ H1 s1 ?_⟩⟩
 unfold nP
 rw[Is.str_iff]
noncomputable def tX(i:Nat)(f:ME):MS:=fun r=>match r[i]? with
 |some (.v (.int a))=>(f r).bind fun d=>match d with
  |.int b=>(yW i (.int (a+b)) r).map .nx
  |_=>none
 |_=>none
theorem zCA(i:Nat)(he:DE X e f)(hN:X.N.Nodup)(hi:X.N[i]?=some x:=by rfl)(hx:Loc X.env.scope x:=by first|exact Or.inl rfl|exact Or.inr rfl)(hf:X.fn x=true\/X.env.scope.names.lookup x=some .local:=by first|exact .inl rfl|exact .inr rfl):DS X (.AugAssign (.Name x pos') .Add e pos) (tX i f):=by
 refine PS.conseq (zED hN hi hx he zFC hf) fun Dn σ H hq=>?_
 obtain⟨O0,r,fl',hR,e,q⟩:=hq
 unfold tX at e
 split at e
 case h_2=>cases e
 rename_i a er
 obtain⟨d,e1,e2⟩:=bind_some e
 cases d<;>first|(cases e2;done)|skip
 rename_i b
 obtain⟨r',e4,rfl⟩:=map_some e2
 obtain⟨hl,np,rfl⟩:=qB e4
 obtain⟨v,es,iv⟩:=hR.val i _ er
 rw[Is.int_iff] at iv
 subst iv
 refine⟨.int a,es,O0,r,.int b,hR,e1,fun u H1 s1 iu=>?_⟩
 rw[Is.int_iff] at iu
 subst iu
 refine⟨a,b,rfl,rfl,?_⟩
 obtain⟨R1,k1⟩:=(hR.same s1).setv (d:=.int (a+b)) (v:=.int (a+b)) hl np (by rw[Is.int_iff])
 exact q _ H1 R1 ((Kp.of_same r σ s1).trans k1)
theorem sx0{n:Nat}(h:0<n):seqIndex? 0 n=some 0:=by
 have hb:(decide ((0:Int)<=(if (0:Int)<0 then (0:Int)+n else 0)) && decide ((if (0:Int)<0 then (0:Int)+n else 0)<(n:Int)))=true:=by
  rw[if_neg (by decide)]
  simp only[Bool.and_eq_true,decide_eq_true_eq];omega
 show(if (decide ((0:Int)<=(if (0:Int)<0 then (0:Int)+n else 0)) && decide ((if (0:Int)<0 then (0:Int)+n else 0)<(n:Int)))=true then some (if (0:Int)<0 then (0:Int)+n else 0).toNat else none)=some 0
 rw[if_pos hb,if_neg (by decide)];rfl
noncomputable def QA(i:Nat):En->Option (D×En):=fun r=>(zAX r i).bind fun l=>(l[0]?).bind fun d=>(XH i l.tail r).map fun r'=>(d,r')
theorem zB2(i:Nat){x:Str}{j:Nat}{pn apos cpos kpos:Pos}(h:PE X (.Name x pn) (jX i))(hbase:attributeBase (.Name x pn) "pop" X.env (eval (.Name x pn) X.env)=eval (.Name x pn) X.env:=by rfl)(hline:(apos.endLine == cpos.line)=true:=by rfl)(hfew:((backTo cpos (starEach [.Constant (.int 0) j kpos] X.env)).all (fun x=>!x.1) && (backToKw cpos (keywordEach [] X.env)).all (fun x=>x.1.isSome) && decide ([Expr.Constant (.int 0) j kpos].length+([]:List Keyword).length+(if ([]:List Keyword).isEmpty then 0 else 1)<30))=true:=by rfl)(hs:starEach [.Constant (.int 0) j kpos] X.env=(false,eval (.Constant (.int 0) j kpos) X.env)::starEach [] X.env:=by rfl):DX X (.Call (.Attribute (.Name x pn) "pop" apos) [.Constant (.int 0) j kpos] [] cpos) (QA i):=by
 refine PE.conseq (p8 PySem.F.plainAttrs_list PySem.F.slot_list_pop PySem.F.type_list_pop X8 h (zZ mI xA hs) hbase hfew hline hs) fun σ H Q hq=>?_
 obtain⟨O0,r,d',r',hR,e,q⟩:=hq
 obtain⟨l,e2,e⟩:=bind_some e
 obtain⟨d,e1,e⟩:=bind_some e
 obtain⟨r2,e3,e4⟩:=map_some e
 have e5:d=d':=congrArg Prod.fst e4
 have e6:r2=r':=congrArg Prod.snd e4
 subst e5 e6
 obtain⟨a,xs,q1,q2,q3⟩:=rK hR e2
 obtain⟨v,ev,iv⟩:=q3.get e1
 have hlen:0<xs.length:=by
  obtain⟨z,_⟩:=List.getElem?_eq_some_iff.mp ev
  exact z
 have il:IsL X.K (Ow O0 r σ) H l.tail xs.tail:=by
  rw[<-List.drop_one,<-List.drop_one];exact q3.drop 1
 obtain⟨R2,k2⟩:=hR.upd (xs':=xs.tail) e3 q1 q2 il
 refine⟨.ref a,q1,.inl ⟨rfl,xs,SqL.of q2⟩,a,xs,0,0,v,rfl,rfl,q2,by decide,by decide,sx0 hlen,ev,?_⟩
 rw[List.eraseIdx_zero]
 refine q _ _ R2 k2 ?_
 have own_a:Ow O0 r σ a:=by
  obtain⟨y,z1,z2⟩:=bind_some e2
  exact .inr ⟨i,l,by rw[z1];exact j7 (zAZ z2).1,q1⟩
 have ow2:∀b,Ow O0 r2 σ b->H b≠none->Ow O0 r σ b:=fun b z n=>z.imp id fun z=>(k2.new b z).elim id fun z=>absurd z n
 exact Is.mono (fun b o e1 n=>by rw[zI (fun z=>n (by subst z;exact own_a))];exact e1) hR.ol ow2 _ _ iv
theorem Z9{k:Nat}:DE X (.Tuple [] k pos) (mC (.tup [])):=by
 have h:DE X (.Tuple [] k pos) (wS zR):=xI zM
 have e:wS zR=mC (.tup []):=by
  funext r
  show(some ([]:List D)).bind _=_
  rw[Option.bind_some];exact if_pos (Nat.zero_le _)
 rw[<-e];exact h
end
section
variable{P:Program}{w:World}{K:Fg}{mg:Str->Option Value}{base:Heap}{f:Addr}{fd:FuncData}{ps:List Str}{k n:Nat}
theorem Y1{m m':MF}(F:FnOk P w K mg base CX0 k f fd ps (spD K n m))(i:∀as p,as.length=n->m' as=some p->m as=some p):FnOk P w K mg base CX0 k f fd ps (spD K n m'):=F.imp fun vs H Q E h=>by
 obtain⟨O0,as,rs,as',e1,e2,e3,e4,e5⟩:=h
 exact⟨O0,as,rs,as',e1,e2,e3,i _ _ e1 e4,e5⟩
end
open PySem PySem.Spec PyProof.Rows L2 PySem.W
noncomputable abbrev y0(f:ME):MEf:=fun st r=>(f r).map fun d=>(d,st)
noncomputable abbrev YW(sel:Mst->D):MEf:=fun st _=>some (sel st,st)
noncomputable abbrev W4(f:ME):MEf:=fun st r=>(f r).bind fun d=>if st.wait.length<sizeLine then some (.non,JS st d) else none
noncomputable abbrev zFR(f:ME):MEf:=fun st r=>(f r).bind fun d=>if st.come.length<sizeLine then some (.non,zEA st d) else none
noncomputable abbrev Q5:MEf:=fun st _=>st.wait.getLast?.map fun d=>(d,{ st with wait:=st.wait.dropLast })
noncomputable abbrev zFP:MEf:=fun st _=>st.come.getLast?.map fun d=>(d,{ st with come:=st.come.dropLast })
noncomputable abbrev hJ(mm:Mst->List D->Option (D×Mst)):MEf:=fun st _=>mm st []
noncomputable abbrev Q4(fs:ML):MEa:=fun st r=>(fs r).map fun l=>(l,st)
noncomputable abbrev zG1(ms:MEa):MEf:=fun st r=>(ms st r).bind fun p=>if p.1.length<=sizeLine then some (.tup p.1,p.2) else none
noncomputable abbrev uIx(m:MEf)(g:ME):MEf:=fun st r=>(m st r).bind fun p=>(g r).bind fun k=>(ixD p.1 k).map fun d=>(d,p.2)
noncomputable abbrev Q6(n:Nat)(mf:MF)(ms:MEa):MEf:=fun st r=>(ms st r).bind fun p=>if p.1.length=n then (mf (p.1.map .v)).bind fun q=>(match q.1 with | .v d=>some (d,p.2)|_=>none) else none
noncomputable abbrev uY(b:MB):MEt:=fun st r=>(b r).map fun z=>(z,st)
noncomputable abbrev vGe:MEt:=fun st _=>some (decide (st.most<=st.steps),st)
noncomputable abbrev vBl(m:MEf):MEt:=fun st r=>(m st r).bind fun p=>match p.1 with | .bl b=>some (b,p.2)|_=>none
noncomputable abbrev Q0:MEt:=fun st _=>some (!st.wait.isEmpty,st)
noncomputable abbrev zDP(m:MEf):MEt:=fun st r=>(m st r).map fun p=>(nonB p.1,p.2)
noncomputable abbrev zG0(t t':MEt):MEt:=fun st r=>(t st r).bind fun p=>if p.1=true then t' p.2 r else some (false,p.2)
noncomputable abbrev zFQ:MEs:=fun st r=>some (.nx { st with steps:=st.steps+1 } r)
noncomputable abbrev YV:MEs:=fun _ _=>none
end DD
namespace K41
open PySem PySem.Spec PyProof.Rows L2 DD
noncomputable def top(i:Nat):Stmt:=PySem.Challenge.pw_fieldrows_k41_reckons.main.body.getD i (.Pass ⟨0,0,0,0⟩)
noncomputable def RF:Nat:=40
noncomputable def WF:Nat:=100000
noncomputable def bJ:MS:=(qC (jW (qV [] 1 (mIt (zD 0)) (yW 0) (dZ (mUn (vH "tuple") (zD 0))) (zD 0))))
noncomputable def jT:MF:=mkF 1 1 bJ
noncomputable def jQ:MS:=(yM (W7 1 (xF zR))
 (yM (W7 2 (xF (zC (zD 0) zR)))
 (yM (qL WF (ZJ (o7 2))
 (yM (W6 3 (zCX 2))
 (yM (sX (ZN 1 (zD 3)))
 (sX (zGO 2 (mUn zD7 (z6 1 jT (zC (zD 3) zR))))))))
 (cZ 1))))
noncomputable def qS:MF:=mkF 1 4 jQ
noncomputable def yR:MS:=(yM (W7 2 (xF zR))
 (yM (qH 3 (zH qA (zD 1) (mC (.int 1))))
 (yM (nL (yW 4) (mIt (z6 1 jT (zC (zD 0) zR)))
 (yM (sX (ZN 2 (zD 3)))
 (tX 3 (mUn vG (jW (uF 1 qS (zC (zD 4) zR)))))))
 (cZ 2))))
noncomputable def yT:MF:=mkF 2 5 yR
noncomputable def uH:MS:=(qC (mIf (dZ (mUn (vH "int") (zD 0))) (mC (.str [110,117,109])) (zH ixD (zD 0) (mC (.int 0)))))
noncomputable def xC:MF:=mkF 1 1 uH
noncomputable def kL:MS:=(yM (sIf (mBl (zH eqA (zD 0) (mC (.str [43]))))
 (qC (zH jM (zH qA (zD 1) (zD 2)) (mC (.int 1000000))))
 xW)
 (yM (sIf (mBl (zH eqA (zD 0) (mC (.str [45]))))
 (qC (zH jM (zH oZ (zD 1) (zD 2)) (mC (.int 1000000))))
 xW)
 (yM (sIf (mBl (zH eqA (zD 0) (mC (.str [42]))))
 (qC (zH jM (zH zAS (zD 1) (zD 2)) (mC (.int 1000000))))
 xW)
 (qC (mIf (mBl (zH ltA (zD 1) (zD 2))) (mC (.int 1)) (mC (.int 0)))))))
noncomputable def jS:MF:=mkF 3 3 kL
noncomputable def uI:MS:=(yM (sIf (mBl (zH eqA (z6 1 xC (zC (zD 0) zR)) (mC (.str [114,101,99]))))
 Y9
 xW)
 (yM (sIf (mBl (zH eqA (z6 1 xC (zC (zD 0) zR)) (mC (.str [111,110,101]))))
 (qC (jW (xF (zC (zH ixD (zD 0) (mC (.int 2))) zR))))
 xW)
 (qC (jW (xF zR)))))
noncomputable def uW:MF:=mkF 1 1 uI
noncomputable def jP:MS:=(yM (sIf (mBl (zH eqA (z6 1 xC (zC (zD 0) zR)) (mC (.str [114,101,99]))))
 Y9
 xW)
 (yM (sIf (mBl (zH eqA (z6 1 xC (zC (zD 0) zR)) (mC (.str [111,110,101]))))
 (qC (wS (zC (mC (.str [111,110,101])) (zC (zH ixD (zD 0) (mC (.int 1))) (zC (zH ixD (zD 1) (mC (.int 0))) zR)))))
 xW)
 (yM (sIf (mBl (zH eqA (z6 1 xC (zC (zD 0) zR)) (mC (.str [102,110]))))
 (qC (wS (zC (mC (.str [102,110])) zR)))
 xW)
 (qC (zD 0)))))
noncomputable def vL:MF:=mkF 2 2 jP
noncomputable def mW:MS:=(yM (W7 1 (xF zR))
 (yM (W7 2 (xF (zC (zD 0) zR)))
 (yM (qL WF (ZJ (o7 2))
 (yM (sX (ZM 1 (zCX 2)))
 (yM (sIf (mBl (zH gtD (zF8 (o7 1)) (mC (.int 200))))
 (qC (wS (zC (mC (.str [100,101,101,112])) zR)))
 xW)
 (sX (zGO 2 (mUn zD7 (z6 1 uW (zC (zIL (o7 1) (mUn vN (mC (.int 1)))) zR))))))))
 (yM (W7 3 (xF zR))
 (yM (sZ 1 (nL (yW 4) (zBA (mZs 1))
 (sX (ZM 3 (vD 2 vL (jY (zD 4) (cO (WH 3 2 (mIt (z6 1 uW (zC (zD 4) zR))) (yW 1) (zCX 0)))))))))
 (qC (zIL (o7 3) (mC (.int 0)))))))))
noncomputable def tQ:MF:=mkF 1 5 mW
noncomputable def kN(m:MF):MS:=(yM (W7 3 (uF 2 yT (zC (zD 0) (zC (zD 2) zR))))
 (yM (W7 4 (xF zR))
 (yM (nL (yW 5) (mIt (zD 0))
 (sIf (dZ (mUn (vH "tuple") (zD 5)))
 (sX (ZM 4 (vD 3 m (jY (zD 5) (jY (zD 1) (cO (QA 3)))))))
 (sX (ZN 4 (zD 5)))))
 (qC (WE (zIM (o7 4) (xF (zC (wS (zC (zD 1) (zC (zD 2) zR))) zR))))))))
noncomputable def wI:Nat->MF
 |0=>fun _=>none
 |k+1=>mkF 3 6 (kN (wI k))
noncomputable def wP:MS:=(yM (sIf (mBl (zH ltA (zD 1) (mUn vG (zD 0))))
 (qC (zH ixD (zD 0) (zD 1)))
 xW)
 (qC (mC (.int 0))))
noncomputable def qG:MF:=mkF 2 2 wP
noncomputable def x3:MS:=(yM (qH 2 (zH jM (zH qA (zH qA (zH jM (zD 0) (mC (.int 2147483647))) (zH zAS (mC (.int 16807)) (zD 1))) (mC (.int 7))) (mC (.int 2147483629))))
 (yM (qH 2 (zH jM (zH zAS (zD 2) (zD 2)) (mC (.int 2147483587))))
 (qC (zH oJ (zH jM (zH zAS (zD 2) (zH qA (zD 2) (mC (.int 48271)))) (mC (.int 2147483579))) (mC (.int 5))))))
noncomputable def zU:MF:=mkF 2 3 x3
noncomputable def qP:MS:=(qC (zHX (mUn (vH "int") (zD 0)) (mUn zI8 (mUn (vH "bool") (zD 0)))))
noncomputable def xK:MF:=mkF 1 1 qP
noncomputable def w8:MS:=(yM (qH 3 (wS (zC (zD 0) (zC (zH ixD (zD 1) (mC (.int 0))) (zC (zH ixD (zD 2) (mC (.int 0))) zR)))))
 (yM (qH 4 (zH qA (mC (.int 1)) (zA9 (zC (zH ixD (zD 1) (mC (.int 2))) (zC (zH ixD (zD 2) (mC (.int 2))) zR)))))
 (yM (sIf (mBl (zH eqA (zD 0) (mC (.str [43]))))
 (qC (wS (zC (zD 3) (zC (zH jM (zH qA (zH ixD (zD 1) (mC (.int 1))) (zH ixD (zD 2) (mC (.int 1)))) (mC (.int 1000000))) (zC (zD 4) zR)))))
 xW)
 (yM (sIf (mBl (zH eqA (zD 0) (mC (.str [45]))))
 (qC (wS (zC (zD 3) (zC (zH jM (zH oZ (zH ixD (zD 1) (mC (.int 1))) (zH ixD (zD 2) (mC (.int 1)))) (mC (.int 1000000))) (zC (zD 4) zR)))))
 xW)
 (yM (sIf (mBl (zH eqA (zD 0) (mC (.str [42]))))
 (qC (wS (zC (zD 3) (zC (zH jM (zH zAS (zH ixD (zD 1) (mC (.int 1))) (zH ixD (zD 2) (mC (.int 1)))) (mC (.int 1000000))) (zC (zD 4) zR)))))
 xW)
 (qC (wS (zC (zD 3) (zC (mUn rT (zH ltA (zH ixD (zD 1) (mC (.int 1))) (zH ixD (zD 2) (mC (.int 1))))) (zC (zD 4) zR))))))))))
noncomputable def wR:MF:=mkF 3 5 w8
noncomputable def wO:MS:=(yM (qH 2 (zH jM (zH qA (zD 0) (zD 1)) (zH zHI (mC (.int 10)) (mC (.int 6)))))
 (yM (sIf (mBl (zH eqA (zH jM (zD 1) (mC (.int 3))) (mC (.int 0))))
 (qH 2 (zH ixD (jW (xF (zC (mC (.int 0)) (zC (mC (.int 0)) (zC (mC (.int 1)) (zC (mC (.int 2)) (zC (mC (.int 999999)) (zC (mC (.int 999998)) zR)))))))) (zH jM (zH oJ (zD 1) (mC (.int 3))) (mC (.int 6)))))
 xW)
 (qC (wS (zC (wS (zC (mC (.str [110,117,109])) (zC (zD 2) zR))) (zC (zD 2) (zC (mC (.int 0)) zR)))))))
noncomputable def xL:MF:=mkF 2 3 wO
noncomputable def x4:MS:=(yM (qH 3 (z6 2 zU (zC (zD 1) (zC (zD 2) zR))))
 (yM (qH 4 (zH jM (z6 2 zU (zC (zD 1) (zC (zH qA (zD 2) (mC (.int 300))) zR))) (mC (.int 5))))
 (yM (sIf (qW (mBl (zH eqA (zD 4) (mC (.int 4)))) (qW (mBl (zH gtD (mUn vG (zD 0)) (mC (.int 2)))) (mBl (zH ltA (d4 (jO [] 1 (mIt (mSl (zD 0) (xR (mUn vN (mC (.int 3)))) x5)) (yW 0) (zH ixD (zD 0) (mC (.int 2))))) (mC (.int 12))))))
 (yM (zC5 (mSl (zD 0) (xR (mUn vN (mC (.int 3)))) x5) (uS 3 (xJ (yW 5) (xJ (yW 6) (xJ (yW 7) b6)))))
 (yM (qH 8 (zH qA (mC (.int 1)) (zA9 (zC (zH ixD (zD 5) (mC (.int 2))) (zC (zH ixD (zD 6) (mC (.int 2))) (zC (zH ixD (zD 7) (mC (.int 2))) zR))))))
 (qC (zH qA (mSl (zD 0) x5 (xR (mUn vN (mC (.int 3))))) (jW (xF (zC (wS (zC (wS (zC (mC (.str [105,102])) (zC (zH ixD (zD 5) (mC (.int 0))) (zC (zH ixD (zD 6) (mC (.int 0))) (zC (zH ixD (zD 7) (mC (.int 0))) zR))))) (zC (zH ixD (jW (xF (zC (zH ixD (zD 6) (mC (.int 1))) (zC (zH ixD (zD 7) (mC (.int 1))) zR)))) (mUn rT (zH eqA (zH ixD (zD 5) (mC (.int 1))) (mC (.int 0))))) (zC (zD 8) zR)))) zR)))))))
 xW)
 (yM (sIf (qW (mBl (zH gtD (zD 4) (mC (.int 1)))) (qW (mBl (zH gtD (mUn vG (zD 0)) (mC (.int 1)))) (mBl (zH ltA (d4 (jO [] 1 (mIt (mSl (zD 0) (xR (mUn vN (mC (.int 2)))) x5)) (yW 0) (zH ixD (zD 0) (mC (.int 2))))) (mC (.int 12))))))
 (qC (zH qA (mSl (zD 0) x5 (xR (mUn vN (mC (.int 2))))) (jW (xF (zC (z6 3 wR (zC (zH ixD (jW (xF (zDA [[43],[45],[42],[60]]))) (zH jM (zD 3) (mC (.int 4)))) (zC (zH ixD (zD 0) (mUn vN (mC (.int 2)))) (zC (zH ixD (zD 0) (mUn vN (mC (.int 1)))) zR)))) zR)))))
 xW)
 (qC (zH qA (zD 0) (jW (xF (zC (z6 2 xL (zC (zD 1) (zC (zD 3) zR))) zR)))))))))
noncomputable def wT:MF:=mkF 3 9 x4
noncomputable def xO:MS:=(yM (qH 2 (mC (.int 0)))
 (yM (qL WF (mBl (zH gtD (mUn vG (zD 0)) (mC (.int 1))))
 (yM (qH 3 (zH ixD (jW (xF (zDA [[43],[45],[42],[60],[43]]))) (zH jM (z6 2 zU (zC (zD 1) (zC (zH qA (mC (.int 600)) (zD 2)) zR))) (mC (.int 5)))))
 (yM (qH 0 (zH qA (mSl (zD 0) (xR (mC (.int 2))) x5) (jW (xF (zC (z6 3 wR (zC (zD 3) (zC (zH ixD (zD 0) (mC (.int 0))) (zC (zH ixD (zD 0) (mC (.int 1))) zR)))) zR)))))
 (qH 2 (zH qA (zD 2) (mC (.int 1)))))))
 (qC (zH ixD (zD 0) (mC (.int 0))))))
noncomputable def xG:MF:=mkF 2 4 xO
noncomputable def x0:MS:=(yM (qH 2 (zH qA (mC (.int 1)) (zH jM (zD 0) (mC (.int 7)))))
 (yM (qH 3 (zH jM (zH oJ (zD 0) (mC (.int 7))) (zD 2)))
 (yM (qH 4 (zDB (mC (.str [])) (jO [0] 2 (rL (zD 2)) (yW 1) (zH ixD (mC (.str [113,120,122,106,118])) (zH jM (z6 2 zU (zC (zD 0) (zC (zH qA (mC (.int 30)) (zD 1)) zR))) (mC (.int 5)))))))
 (qC (jW (jO [3,4] 3 (rL (zD 1)) (yW 2) (zH qA (zH qA (mSl (zD 1) x5 (xR (zD 0))) (zH ixD (mC (.str [97,98,99,100,101,103,104,105,107,108])) (zD 2))) (mSl (zD 1) (xR (zD 0)) x5))))))))
noncomputable def qT:MF:=mkF 2 5 x0
noncomputable def uX(i j:Nat):Stmt:=match top i with
 |.ClassDef _ _ _ body _ _ _ _ _ _ _=>body.getD j (.Pass ⟨0,0,0,0⟩)
 |s=>s
structure Dm(K:Fg)(n q:Str)(st:Stmt)(ps:List Str) where
 a:Addr
 d:FuncData
 F:Fun K n q st a d
 b:Binds K d ps []
noncomputable def AH:List (List Nat×List Int):=[([100,111],[1,2]),([103,101,116],[2]),([119,105,116,104],[2,3]),([112,117,116],[2,3]),([108,101,115,115],[2]),([116,97,103],[2]),([119,105,100,101],[2]),([99,97,115,101],[1]),([110,101,118,101,114],[1]),([105,102],[1]),([43],[1,2]),([45],[1,2]),([42],[1,2]),([60],[1,2])]
noncomputable def yN(st:Mst):List D->Option (D×Mst)
 |[e,b]=>if st.wait.length<sizeLine then some (.non,JS st (.tup [e,b,.bl false])) else none
 |_=>none
noncomputable def qQ(st:Mst):List D->Option (D×Mst)
 |[v]=>if st.come.length<sizeLine then some (.non,zEA st v) else none
 |_=>none
noncomputable def nD:D:=.tup [.str [116,105,114,101,100],.non]
noncomputable def qR(st:Mst):List D->Option (D×Mst)
 |[]=>if st.most<=st.steps then some (.bl false,{ st with ended:=nD }) else some (.bl true,{ st with steps:=st.steps+1 })
 |_=>none
noncomputable def nR(e b:D):List Int->Mst->Option Mst
 |[],st=>some st
 |i::t,st=>(ixD e (.int i)).bind fun p=>(yN st [p,b]).bind fun q=>nR e b t q.2
noncomputable def vJ:D->Option (List Int)
 |.tup (.str s::_)=>some ((b4 AH s).getD [])
 |_=>none
noncomputable def zW(st:Mst):List D->Option (D×Mst)
 |[e,b]=>if st.wait.length<sizeLine then (vJ e).bind fun l=>(nR e b l.reverse (JS st (.tup [e,b,.bl true]))).map fun s=>(.non,s) else none
 |_=>none
noncomputable def yA(st:Mst):List D->Option (D×Mst)
 |[e]=>(vJ e).bind fun l=>if l.length<=st.come.length/\l.length<sizeLine then some (.lst (st.come.drop (st.come.length-l.length)),{ st with come:=st.come.take (st.come.length-l.length) }) else none
 |_=>none
noncomputable def wZ(st:Mst):List D->Option (D×Mst)
 |[.tup [_,v,_],_,_]=>qQ st [v]
 |_=>none
noncomputable def xB(st:Mst):List D->Option (D×Mst)
 |[.tup [_,.str s,_],.dct [] [],_]=>(qR st []).bind fun p=>match p.1,p.2.defs with
  |.bl true,.dct ks l=>(qI ks l (.inr ⟨s.toArray⟩)).bind fun d=>yN p.2 [d,.dct [] []]
  |.bl false,_=>some (.non,p.2)
  |_,_=>none
 |_=>none
noncomputable def qY(st:Mst):List D->Option (D×Mst)
 |[.tup [_,_,x,y,_],b,.lst [.int i]]=>if i=0 then yN st [y,b] else yN st [x,b]
 |_=>none
noncomputable def wk(w:List Nat)(i j:Int):Int:=if w=[43] then (i+j) % 1000000 else if w=[45] then (i-j) % 1000000 else if w=[42] then i*j % 1000000 else if i<j then 1 else 0
noncomputable def small(i:Int):Prop:=0<=i/\i<1000000
instance (i:Int):Decidable (small i):=inferInstanceAs (Decidable (_/\_))
noncomputable def yB(st:Mst):List D->Option (D×Mst)
 |[.tup [.str w,_,_,_],_,.lst [.int i,.int j]]=>if small i/\small j then qQ st [.int (wk w i j)] else none
 |_=>none
noncomputable def ways(w:List Nat):Option (Mst->List D->Option (D×Mst)):=if w=[110,117,109] then some wZ else if w=[110,97,109,101] then some xB else if w=[105,102] then some qY else if w=[43]\/w=[45]\/w=[42]\/w=[60] then some yB else none
noncomputable def wE(st:Mst):List D->Option (D×Mst)
 |[.tup (.str w::r),b,ps]=>(ways w).bind fun mm=>(mm st [.tup (.str w::r),b,ps]).map fun q=>(.non,q.2)
 |_=>none
noncomputable def cT(st:Mst):Option Mst:=match st.wait.getLast? with
 |some (.tup [e,b,.bl true])=>(yA { st with wait:=st.wait.dropLast } [e]).bind fun p=>(wE p.2 [e,b,p.1]).map (·.2)
 |some (.tup [e,b,.bl false])=>(zW { st with wait:=st.wait.dropLast } [e,b]).map (·.2)
 |_=>none
noncomputable def dC:Nat->Mst->Option Mst
 |0,_=>none
 |n+1,st=>if st.wait.isEmpty=false/\nonB st.ended=true then (cT st).bind (dC n) else some st
noncomputable def wY(st:Mst):List D->Option (D×Mst)
 |[]=>(dC WF st).map fun s=>(.non,s)
 |_=>none
noncomputable def ddE:ME:=(zC9 (WG (jO [] 2 (mIt (zD 1)) (uS 2 (xJ (yW 0) (xJ (yW 1) b6))) (wS (zC (zD 0) (zC (z6 3 (wI RF) (zC (zD 1) (zC (zD 0) (zC (mC (.int 0)) zR)))) zR))))))
noncomputable def dd(pd:D):Option D:=ddE [.un,.v pd,.v (.int 0)]
noncomputable def zH4(st:Mst):Option D:=match st.ended with
 |.non=>(st.come.getLast?).bind fun v=>(tQ [.v v]).bind fun q=>match q.1 with
  |.v d=>some (.tup [.str [118,97,108,117,101],.int st.steps,d])
  |_=>none
 |.tup [a,b]=>some (.tup [a,.int st.steps,b])
 |_=>none
noncomputable def zHC(m:Int)(d:D):Option D:=match d with
 |.dct ks l=>(qI ks l (.inr ⟨([109,97,105,110]:List Nat).toArray⟩)).bind fun e=>(dC WF ⟨m,0,[.tup [e,.dct [] [],.bl false]],[],.non,d⟩).bind zH4
 |_=>none
noncomputable def uV:MF:=fun as=>match as with
 |[.v pd,.v (.int m)]=>(dd pd).bind fun d=>(zHC m d).map fun x=>(.v x,[.v pd,.v (.int m)])
 |_=>none
noncomputable def QE:MS:=(yM (qH 1 (z6 2 zU (zC (z6 2 qG (zC (zD 0) (zC (mC (.int 0)) zR))) (zC (mC (.int 900)) zR))))
 (yM (qH 2 (mSl (zD 0) (xR (mC (.int 2))) (xR (mC (.int 202)))))
 (yM (qH 3 (zA9 (zC (zH qA (mC (.int 1)) (zH jM (zD 1) (mC (.int 3)))) (zC (zH qA (mC (.int 1)) (zH oJ (zA9 (zC (mC (.int 0)) (zC (zH oZ (mUn vG (zD 2)) (mC (.int 1))) zR))) (mC (.int 28)))) zR))))
 (yM (qH 4 (z6 2 qT (zC (z6 2 zU (zC (z6 2 qG (zC (zD 0) (zC (mC (.int 1)) zR))) (zC (mC (.int 901)) zR))) (zC (zD 3) zR))))
 (yM (W7 5 (xF zR))
 (yM (qH 6 (mC (.int 0)))
 (yM (nL (yW 7) (rL (zD 3))
 (yM (qH 8 (jW (xF (zC (z6 2 xL (zC (zD 1) (zC (z6 2 zU (zC (zD 1) (zC (zD 7) zR))) zR))) zR))))
 (yM (nL (yW 9) (ZK (zD 7) (mUn vG (zD 2)) (zD 3))
 (qH 8 (z6 3 wT (zC (zD 8) (zC (zH ixD (zD 2) (zD 9)) (zC (zD 9) zR))))))
 (yM (zC5 (z6 2 xG (zC (zD 8) (zC (zH qA (zD 1) (zD 7)) zR))) (uS 3 (xJ (yW 10) (xJ (yW 11) (xJ (yW 12) b6)))))
 (sIf (mBl (zH (eqN 400) (zD 7) (zH oZ (zD 3) (mC (.int 1)))))
 (yM (nL (yW 13) (mIt (mSl (zD 4) x5 (xR (zD 7))))
 (qH 10 (wS (zC (mC (.str [43])) (zC (wS (zC (mC (.str [110,97,109,101])) (zC (zD 13) zR))) (zC (zD 10) zR))))))
 (yM (qH 6 (zH jM (zH qA (zD 6) (zD 11)) (mC (.int 1000000))))
 (sX (ZN 5 (wS (zC (mC (.str [109,97,105,110])) (zC (zD 10) zR)))))))
 (yM (qH 6 (zH qA (zD 6) (zD 11)))
 (sX (ZN 5 (wS (zC (zH ixD (zD 4) (zD 7)) (zC (zD 10) zR)))))))))))
 (yM (qH 14 (d0 (o7 5)))
 (yM (qH 15 (bV 2 uV 5 (zC (mC (.int 1000)) zR)))
 (yM (sIf (zHW (mBl (zH (neN 400) (zD 15) (wS (zC (mC (.str [118,97,108,117,101])) (zC (zH oZ (zD 3) (mC (.int 1))) (zC (zD 6) zR)))))) (zHW (ZL (dZ (z6 1 xK (zC (zH ixD (zD 15) (mC (.int 1))) zR)))) (ZL (dZ (z6 1 xK (zC (zH ixD (zD 15) (mC (.int 2))) zR))))))
 (qC (mC (.bl false)))
 xW)
 (yM (sIf (qW (mBl (zH gtD (zD 3) (mC (.int 1)))) (mBl (zH (neN 400) (bV 2 uV 5 (zC (zH oZ (zD 3) (mC (.int 2))) zR)) (wS (zC (mC (.str [116,105,114,101,100])) (zC (zH oZ (zD 3) (mC (.int 2))) (zC (mC .non) zR)))))))
 (qC (mC (.bl false)))
 xW)
 (qC (zHX (zH (eqN 400) (bV 2 uV 5 (zC (zH oZ (zD 3) (mC (.int 1))) zR)) (zD 15)) (zH eqA (d0 (o7 5)) (zD 14)))))))))))))))
noncomputable def oW:MF:=mkF 1 16 QE
structure De(K:Fg)(mg:Str->Option Value)(n:Str)(i:Nat)(ps:List Str) where
 a:Addr
 d:FuncData
 F:Fun K n n (top i) a d
 m:mg n=some (.ref a)
 b:Binds K d ps []
noncomputable abbrev Ok(P:Program)(w:World){K:Fg}{mg:Str->Option Value}(base:Heap){n:Str}{i:Nat}{ps:List Str}(D:De K mg n i ps)(k m:Nat)(F:MF):Prop:=FnOk P w K mg base CX0 k D.a D.d ps (spD K m F)
set_option genInjectivity false in
set_option genSizeOf false in
structure Txt(K:Fg)(mg:Str->Option Value)(Ps:Params) where
 d_inner:De K mg "inner" 2 ["expression"]
 d_places:De K mg "places" 1 ["E"]
 d_inner_numbers:De K mg "inner_numbers" 4 ["expression", "number"]
 d_sort_of:De K mg "sort_of" 9 ["value"]
 d_worked:De K mg "worked" 11 ["word", "first", "second"]
 d_held_in:De K mg "held_in" 38 ["value"]
 d_told_part:De K mg "told_part" 39 ["value", "held"]
 d_told:De K mg "told" 37 ["value"]
 d_marked:De K mg "marked" 15 ["expression", "name", "number"]
 d__law_cell:De K mg "_law_cell" 41 ["_law_script", "_law_k"]
 d__law_mixed:De K mg "_law_mixed" 42 ["_law_cell_here", "_law_k"]
 d__law_whole:De K mg "_law_whole" 43 ["_law_found"]
 d__law_two:De K mg "_law_two" 44 ["_law_word", "_law_one", "_law_other"]
 d__law_leaf:De K mg "_law_leaf" 45 ["_law_cell_here", "_law_number"]
 d__law_grown:De K mg "_law_grown" 46 ["_law_pile", "_law_cell_here", "_law_k"]
 d__law_folded:De K mg "_law_folded" 47 ["_law_pile", "_law_cell_here"]
 d__law_names:De K mg "_law_names" 48 ["_law_cell_here", "_law_many"]
 d_law:De K mg "law" 49 ["_law_script"]
 C:Addr
 B:Addr
 mC:mg "Plain" = some (.ref C)
 mB:mg "Reckoner" = some (.ref B)
 cl:Cls K C
 n_most:NoAttr K C "most"
 n_steps:NoAttr K C "steps"
 n_waiting:NoAttr K C "waiting"
 n_come:NoAttr K C "come"
 n_ended:NoAttr K C "ended"
 n_defs:NoAttr K C "defs"
 m_rinit:Dm K "__init__" "Reckoner.__init__" (uX 8 0) ["self", "most"]
 m_pinit:Dm K "__init__" "Plain.__init__" (uX 16 0) ["self", "program", "most"]
 m_begin:Dm K "begin" "Reckoner.begin" (uX 8 1) ["self", "expression", "around"]
 m_tell:Dm K "tell" "Reckoner.tell" (uX 8 2) ["self", "value"]
 m_step:Dm K "step" "Reckoner.step" (uX 8 3) ["self"]
 m_run_on:Dm K "run_on" "Reckoner.run_on" (uX 8 4) ["self"]
 m_begin_parts:Dm K "begin_parts" "Reckoner.begin_parts" (uX 8 5) ["self", "expression", "around"]
 m_parts_come:Dm K "parts_come" "Reckoner.parts_come" (uX 8 6) ["self", "expression"]
 m_go_on:Dm K "go_on" "Plain.go_on" (uX 16 1) ["self", "expression", "bound", "parts"]
 h_begin:Meth K C "begin" m_begin.a
 h_tell:Meth K C "tell" m_tell.a
 h_step:Meth K C "step" m_step.a
 h_run_on:Meth K C "run_on" m_run_on.a
 h_begin_parts:Meth K C "begin_parts" m_begin_parts.a
 h_parts_come:Meth K C "parts_come" m_parts_come.a
 h_go_on:Meth K C "go_on" m_go_on.a
 mkC:Mk K C m_pinit.a
 cm:CMeth K B "__init__" m_rinit.a
 d_run:De K mg "run" 14 ["program", "most"]
 d_of_num:De K mg "of_num" 21 ["plain", "expression", "bound", "parts"]
 d_of_name:De K mg "of_name" 22 ["plain", "expression", "bound", "parts"]
 d_of_if:De K mg "of_if" 34 ["plain", "expression", "bound", "parts"]
 d_of_working:De K mg "of_working" 35 ["plain", "expression", "bound", "parts"]
 wt:List (List Nat×Addr)
 ways:tP mg K Ps "WAYS" wt
 ahead:zCU mg K Ps "AHEAD" AH
 w_110_3:j8 wt [110,117,109]=some d_of_num.a
 w_110_4:j8 wt [110,97,109,101]=some d_of_name.a
 w_105_2:j8 wt [105,102]=some d_of_if.a
 w_43_1:j8 wt [43]=some d_of_working.a
 w_45_1:j8 wt [45]=some d_of_working.a
 w_42_1:j8 wt [42]=some d_of_working.a
 w_60_1:j8 wt [60]=some d_of_working.a
 z_bool:mg "bool" = none
 z_dict:mg "dict" = none
 z_int:mg "int" = none
 z_isinstance:mg "isinstance" = none
 z_len:mg "len" = none
 z_max:mg "max" = none
 z_range:mg "range" = none
 z_repr:mg "repr" = none
 z_reversed:mg "reversed" = none
 z_tuple:mg "tuple" = none
 c_END_OF_NUMBERS:∃t,mg "END_OF_NUMBERS" = some (.int 1000000 t)
 c_MOST_PARTS:∃t,mg "MOST_PARTS" = some (.int 200 t)
section
variable{P:Program}{w:World}{K:Fg}{mg:Str->Option Value}{base:Heap}
theorem Y6:FnScope ["expression"] ["expression"] (zL (top 2)):=⟨rfl,rfl,rfl,by decide +kernel,rfl,by decide +kernel,by decide +kernel⟩
theorem nY(T:Txt K mg w.params):Ok P w base T.d_inner 1 1 jT:=by
 refine mY T.d_inner.F Y6 1 1 rfl rfl (g:=bJ) (fun cdv A outer s H E hr=>?_)
 unfold bJ
 exact(by refine zT ?_;exact(by refine yP ?_;exact(by refine YF ?_;exact(r6 (N':=["part"]) (cap:=[]) rfl uO (uK (zA 0 (pv 0))) (fun _ _ _ _=>(yY 0 (show(["part"]:List Str).Nodup by decide +kernel))) (fun _ _ _ _=>by exact(gJ (jG (by rfl) (by exact T.z_isinstance) (zA 0 (pv 0)) (bA (by rfl) (by exact T.z_tuple) boot_tuple rfl)))) (fun _ _ _ _=>by exact(zA 0 (pv 0))) 1))))
theorem sc_places:FnScope ["E", "found", "waiting", "place"] ["E"] (zL (top 1)):=⟨rfl,rfl,rfl,by decide +kernel,rfl,by decide +kernel,by decide +kernel⟩
theorem rB(T:Txt K mg w.params):Ok P w base T.d_places 2 1 qS:=by
 refine mY T.d_places.F sc_places 1 4 rfl rfl (g:=jQ) (fun cdv A outer s H E hr=>?_)
 unfold jQ
 exact(by refine zJ ?_ ?_;exact(kX 1 (by refine xU ?_;exact zM) sc_places.nd);exact(by refine zJ ?_ ?_;exact(kX 2 (by refine xU ?_;exact(zB (zA 0 (pv 0)) zM (hs:=zQ))) sc_places.nd);exact(by refine zJ ?_ ?_;exact(cJ WF PassesOwn.never (Z2 (uM 2 (pv 2))) (by refine zJ ?_ ?_;exact(zB8 3 (WR 2 (pv 2)) sc_places.nd);exact(by refine zJ ?_ ?_;exact(zB7 (jF 1 (pv 1) (zA 3 (pv 3))));exact(by refine zT ?_;exact(zB7 (gG 2 (pv 2) (zCF (z4 (nY T) (hr.mono (by decide)) (by rfl) T.d_inner.m T.d_inner.F.kp T.d_inner.b (zB (zA 3 (pv 3)) zM (hs:=zQ))))))))));exact(by refine zT ?_;exact(gK 1 (pv 1))))))
theorem sc_inner_numbers:FnScope ["expression", "number", "found", "behind", "part"] ["expression", "number"] (zL (top 4)):=⟨rfl,rfl,rfl,by decide +kernel,rfl,by decide +kernel,by decide +kernel⟩
theorem jV(T:Txt K mg w.params):Ok P w base T.d_inner_numbers 3 2 yT:=by
 refine mY T.d_inner_numbers.F sc_inner_numbers 2 5 rfl rfl (g:=yR) (fun cdv A outer s H E hr=>?_)
 unfold yR
 exact(by refine zJ ?_ ?_;exact(kX 2 (by refine xU ?_;exact zM) sc_inner_numbers.nd);exact(by refine zJ ?_ ?_;exact(yV 3 (zP yE yF (zA 1 (pv 1)) zE) sc_inner_numbers.nd);exact(by refine zJ ?_ ?_;exact(gL PassesOwn.never rfl (uK (z4 (nY T) (hr.mono (by decide)) (by rfl) T.d_inner.m T.d_inner.F.kp T.d_inner.b (zB (zA 0 (pv 0)) zM (hs:=zQ)))) (yY 4 sc_inner_numbers.nd) (by refine zJ ?_ ?_;exact(zB7 (jF 2 (pv 2) (zA 3 (pv 3))));exact(by refine zT ?_;exact(zCA 3 (bZ (by rfl) T.z_len (by refine YF ?_;exact(Z5 (rB T) (hr.mono (by decide)) (by rfl) T.d_places.m T.d_places.F.kp T.d_places.b (zB (zA 4 (pv 4)) zM (hs:=zQ))))) sc_inner_numbers.nd))));exact(by refine zT ?_;exact(gK 2 (pv 2))))))
theorem hZ:FnScope ["value"] ["value"] (zL (top 9)):=⟨rfl,rfl,rfl,by decide +kernel,rfl,by decide +kernel,by decide +kernel⟩
theorem xN(T:Txt K mg w.params):Ok P w base T.d_sort_of 1 1 xC:=by
 refine mY T.d_sort_of.F hZ 1 1 rfl rfl (g:=uH) (fun cdv A outer s H E hr=>?_)
 unfold uH
 exact(by refine zT ?_;exact(by refine yP ?_;exact(zGF (gJ (jG (by rfl) T.z_isinstance (zA 0 (pv 0)) (bA (by rfl) T.z_int boot_int rfl))) (yL (s:=[110,117,109]) (by rfl)) (z5 (zA 0 (pv 0)) zE))))
theorem pR:FnScope ["word", "first", "second"] ["word", "first", "second"] (zL (top 11)):=⟨rfl,rfl,rfl,by decide +kernel,rfl,by decide +kernel,by decide +kernel⟩
theorem p9(T:Txt K mg w.params):Ok P w base T.d_worked 1 3 jS:=by
 refine mY T.d_worked.F pR 3 3 rfl rfl (g:=kL) (fun cdv A outer s H E hr=>?_)
 unfold kL
 exact(by refine zJ ?_ ?_;exact(qZ (yS (wJ hr.units0) wK (zA 0 (pv 0)) (yL (s:=[43]) (by rfl)) (yG _)) (by refine zT ?_;exact(by refine yP ?_;exact(zP xP xQ (zP yE yF (zA 1 (pv 1)) (zA 2 (pv 2))) (gP T.c_END_OF_NUMBERS (by rfl))))) wG);exact(by refine zJ ?_ ?_;exact(qZ (yS (wJ hr.units0) wK (zA 0 (pv 0)) (yL (s:=[45]) (by rfl)) (yG _)) (by refine zT ?_;exact(by refine yP ?_;exact(zP xP xQ (zP v8 uC (zA 1 (pv 1)) (zA 2 (pv 2))) (gP T.c_END_OF_NUMBERS (by rfl))))) wG);exact(by refine zJ ?_ ?_;exact(qZ (yS (wJ hr.units0) wK (zA 0 (pv 0)) (yL (s:=[42]) (by rfl)) (yG _)) (by refine zT ?_;exact(by refine yP ?_;exact(zP xP xQ (zP mK mN (zA 1 (pv 1)) (zA 2 (pv 2))) (gP T.c_END_OF_NUMBERS (by rfl))))) wG);exact(by refine zT ?_;exact(by refine yP ?_;exact(zGF (yS mL mO (zA 1 (pv 1)) (zA 2 (pv 2)) (yG _)) zE zE))))))
theorem mE:FnScope ["value"] ["value"] (zL (top 38)):=⟨rfl,rfl,rfl,by decide +kernel,rfl,by decide +kernel,by decide +kernel⟩
theorem bB(T:Txt K mg w.params):Ok P w base T.d_held_in 2 1 uW:=by
 refine mY T.d_held_in.F mE 1 1 rfl rfl (g:=uI) (fun cdv A outer s H E hr=>?_)
 unfold uI
 exact(by refine zJ ?_ ?_;exact(qZ (yS (wJ hr.units0) wK (z4 (xN T) (hr.mono (by decide)) (by rfl) T.d_sort_of.m T.d_sort_of.F.kp T.d_sort_of.b (zB (zA 0 (pv 0)) zM (hs:=zQ))) (yL (s:=[114,101,99]) (by rfl)) (yG _)) (by refine zT ?_;exact oN) wG);exact(by refine zJ ?_ ?_;exact(qZ (yS (wJ hr.units0) wK (z4 (xN T) (hr.mono (by decide)) (by rfl) T.d_sort_of.m T.d_sort_of.F.kp T.d_sort_of.b (zB (zA 0 (pv 0)) zM (hs:=zQ))) (yL (s:=[111,110,101]) (by rfl)) (yG _)) (by refine zT ?_;exact(by refine yP ?_;exact(by refine YF ?_;exact(by refine xU ?_;exact(zB (z5 (zA 0 (pv 0)) zE) zM (hs:=wA)))))) wG);exact(by refine zT ?_;exact(by refine yP ?_;exact(by refine YF ?_;exact(by refine xU ?_;exact zM))))))
theorem bR:FnScope ["value", "held"] ["value", "held"] (zL (top 39)):=⟨rfl,rfl,rfl,by decide +kernel,rfl,by decide +kernel,by decide +kernel⟩
theorem bU(T:Txt K mg w.params):Ok P w base T.d_told_part 2 2 vL:=by
 refine mY T.d_told_part.F bR 2 2 rfl rfl (g:=jP) (fun cdv A outer s H E hr=>?_)
 unfold jP
 exact(by refine zJ ?_ ?_;exact(qZ (yS (wJ hr.units0) wK (z4 (xN T) (hr.mono (by decide)) (by rfl) T.d_sort_of.m T.d_sort_of.F.kp T.d_sort_of.b (zB (zA 0 (pv 0)) zM (hs:=zQ))) (yL (s:=[114,101,99]) (by rfl)) (yG _)) (by refine zT ?_;exact oN) wG);exact(by refine zJ ?_ ?_;exact(qZ (yS (wJ hr.units0) wK (z4 (xN T) (hr.mono (by decide)) (by rfl) T.d_sort_of.m T.d_sort_of.F.kp T.d_sort_of.b (zB (zA 0 (pv 0)) zM (hs:=zQ))) (yL (s:=[111,110,101]) (by rfl)) (yG _)) (by refine zT ?_;exact(by refine yP ?_;exact(by refine xI ?_;exact(by refine zB (yL (s:=[111,110,101]) (by rfl)) ?_ (hs:=yC);refine zB (z5 (zA 0 (pv 0)) zE) ?_ (hs:=wA);refine zB (z5 (zA 1 (pv 1)) zE) ?_ (hs:=wA);exact zM)))) wG);exact(by refine zJ ?_ ?_;exact(qZ (yS (wJ hr.units0) wK (z4 (xN T) (hr.mono (by decide)) (by rfl) T.d_sort_of.m T.d_sort_of.F.kp T.d_sort_of.b (zB (zA 0 (pv 0)) zM (hs:=zQ))) (yL (s:=[102,110]) (by rfl)) (yG _)) (by refine zT ?_;exact(by refine yP ?_;exact(by refine xI ?_;exact(zB (yL (s:=[102,110]) (by rfl)) zM (hs:=yC))))) wG);exact(by refine zT ?_;exact(by refine yP ?_;exact(zA 0 (pv 0)))))))
theorem sc_told:FnScope ["value", "found", "waiting", "done", "part"] ["value"] (zL (top 37)):=⟨rfl,rfl,rfl,by decide +kernel,rfl,by decide +kernel,by decide +kernel⟩
theorem zAI(T:Txt K mg w.params):Ok P w base T.d_told 3 1 tQ:=by
 refine mY T.d_told.F sc_told 1 5 rfl rfl (g:=mW) (fun cdv A outer s H E hr=>?_)
 unfold mW
 exact(by refine zJ ?_ ?_;exact(kX 1 (by refine xU ?_;exact zM) sc_told.nd);exact(by refine zJ ?_ ?_;exact(kX 2 (by refine xU ?_;exact(zB (zA 0 (pv 0)) zM (hs:=zQ))) sc_told.nd);exact(by refine zJ ?_ ?_;exact(cJ WF PassesOwn.never (Z2 (uM 2 (pv 2))) (by refine zJ ?_ ?_;exact(zB7 (kP 1 (pv 1) (WR 2 (pv 2))));exact(by refine zJ ?_ ?_;exact(qZ (yS ZD ZF (zCI (by rfl) T.z_len (uM 1 (pv 1))) (gP T.c_MOST_PARTS (by rfl)) (yG _)) (by refine zT ?_;exact(by refine yP ?_;exact(by refine xI ?_;exact(zB (yL (s:=[100,101,101,112]) (by rfl)) zM (hs:=yC))))) wG);exact(by refine zT ?_;exact(zB7 (gG 2 (pv 2) (zCF (z4 (bB T) (hr.mono (by decide)) (by rfl) T.d_held_in.m T.d_held_in.F.kp T.d_held_in.b (zB (zCK (uM 1 (pv 1)) (uL zE)) zM (hs:=wA))))))))));exact(by refine zJ ?_ ?_;exact(kX 3 (by refine xU ?_;exact zM) sc_told.nd);exact(by refine zJ ?_ ?_;exact(zJ2 1 (gL PassesOwn.never rfl (WU (by rfl) T.z_reversed (zJ3 1 (pv 1))) (yY 4 sc_told.nd) (by refine zT ?_;exact(zB7 (kP 3 (pv 3) (oM (bU T) (hr.mono (by decide)) (by rfl) T.d_told_part.m T.d_told_part.F.kp T.d_told_part.b (cI (zA 4 (pv 4)) (oK (by refine WS (N':=["done", "held"]) (i:=3) rfl uO ?_ ?_ ?_ JX 2;exact(uK (z4 (bB T) (hr.mono (by decide)) (by rfl) T.d_held_in.m T.d_held_in.F.kp T.d_held_in.b (zB (zA 4 (pv 4)) zM (hs:=zQ))));exact(fun _ _ _ _=>(yY 1 (show(["done", "held"]:List Str).Nodup by decide +kernel)));exact(fun _ _ _ _=>by exact(WR 0 (pv 0))))))))))));exact(by refine zT ?_;exact(by refine yP ?_;exact(zCK (uM 3 (pv 3)) zE))))))))
theorem sc_marked:FnScope ["expression", "name", "number", "below", "parts", "part"] ["expression", "name", "number"] (zL (top 15)):=⟨rfl,rfl,rfl,by decide +kernel,rfl,by decide +kernel,by decide +kernel⟩
theorem dN:∀(k:Nat) (T:Txt K mg w.params),Ok P w base T.d_marked (k+3) 3 (wI k)
 |0,T=>zJZ 3
 |k+1,T=>by
  have G:=dN k T
  rw[show k+1+3=(k+3)+1 by omega]
  refine mY T.d_marked.F sc_marked 3 6 rfl rfl (g:=kN (wI k)) (fun cdv A outer s H E hr=>?_)
  unfold kN
  exact(by refine zJ ?_ ?_;exact(kX 3 (Z5 (jV T) (hr.mono (by omega)) (by rfl) T.d_inner_numbers.m T.d_inner_numbers.F.kp T.d_inner_numbers.b (by refine zB (zA 0 (pv 0)) ?_ (hs:=zQ);refine zB (zA 2 (pv 2)) ?_ (hs:=zQ);exact zM)) sc_marked.nd);exact(by refine zJ ?_ ?_;exact(kX 4 (by refine xU ?_;exact zM) sc_marked.nd);exact(by refine zJ ?_ ?_;exact(gL PassesOwn.never rfl (uK (zA 0 (pv 0))) (yY 5 sc_marked.nd) (by refine zT ?_;exact(qZ (gJ (jG (by rfl) T.z_isinstance (zA 5 (pv 5)) (bA (by rfl) T.z_tuple boot_tuple rfl))) (by refine zT ?_;exact(zB7 (kP 4 (pv 4) (oM G (hr.mono (by omega)) (by rfl) T.d_marked.m T.d_marked.F.kp T.d_marked.b (cI (zA 5 (pv 5)) (cI (zA 1 (pv 1)) (oK (zB2 3 (pv 3))))))))) (by refine zT ?_;exact(zB7 (jF 4 (pv 4) (zA 5 (pv 5))))))));exact(by refine zT ?_;exact(by refine yP ?_;exact(m4 (by rfl) T.z_tuple (by refine zGH ?_;exact(zFN (uM 4 (pv 4)) (by refine zGH ?_;exact(by refine xU ?_;exact(zB (by refine xI ?_;exact(by refine zB (zA 1 (pv 1)) ?_ (hs:=zQ);refine zB (zA 2 (pv 2)) ?_ (hs:=zQ);exact zM)) zM (hs:=nI))))))))))))
theorem bS:FnScope ["_law_script", "_law_k"] ["_law_script", "_law_k"] (zL (top 41)):=⟨rfl,rfl,rfl,by decide +kernel,rfl,by decide +kernel,by decide +kernel⟩
theorem j5(T:Txt K mg w.params):Ok P w base T.d__law_cell 1 2 qG:=by
 refine mY T.d__law_cell.F bS 2 2 rfl rfl (g:=wP) (fun cdv A outer s H E hr=>?_)
 unfold wP
 exact(by refine zJ ?_ ?_;exact(qZ (yS mL mO (zA 1 (pv 1)) (bZ (by rfl) T.z_len (zA 0 (pv 0))) (yG _)) (by refine zT ?_;exact(by refine yP ?_;exact(z5 (zA 0 (pv 0)) (zA 1 (pv 1))))) wG);exact(by refine zT ?_;exact(by refine yP ?_;exact zE)))
theorem sc__law_mixed:FnScope ["_law_cell_here", "_law_k", "_law_number"] ["_law_cell_here", "_law_k"] (zL (top 42)):=⟨rfl,rfl,rfl,by decide +kernel,rfl,by decide +kernel,by decide +kernel⟩
theorem yX(T:Txt K mg w.params):Ok P w base T.d__law_mixed 1 2 zU:=by
 refine mY T.d__law_mixed.F sc__law_mixed 2 3 rfl rfl (g:=x3) (fun cdv A outer s H E hr=>?_)
 unfold x3
 exact(by refine zJ ?_ ?_;exact(yV 2 (zP xP xQ (zP yE yF (zP yE yF (zP xP xQ (zA 0 (pv 0)) zE) (zP mK mN zE (zA 1 (pv 1)))) zE) zE) sc__law_mixed.nd);exact(by refine zJ ?_ ?_;exact(yV 2 (zP xP xQ (zP mK mN (zA 2 (pv 2)) (zA 2 (pv 2))) zE) sc__law_mixed.nd);exact(by refine zT ?_;exact(by refine yP ?_;exact(zP dM dO (zP xP xQ (zP mK mN (zA 2 (pv 2)) (zP yE yF (zA 2 (pv 2)) zE)) zE) zE)))))
theorem vY:FnScope ["_law_found"] ["_law_found"] (zL (top 43)):=⟨rfl,rfl,rfl,by decide +kernel,rfl,by decide +kernel,by decide +kernel⟩
theorem jK(T:Txt K mg w.params):Ok P w base T.d__law_whole 1 1 xK:=by
 refine mY T.d__law_whole.F vY 1 1 rfl rfl (g:=qP) (fun cdv A outer s H E hr=>?_)
 unfold qP
 exact(by refine zT ?_;exact(by refine yP ?_;exact(zCM (jG (by rfl) T.z_isinstance (zA 0 (pv 0)) (bA (by rfl) T.z_int boot_int rfl)) (zCG (zFO (jG (by rfl) T.z_isinstance (zA 0 (pv 0)) (bA (by rfl) T.z_bool boot_bool rfl)))))))
theorem sc__law_two:FnScope ["_law_word", "_law_one", "_law_other", "_law_told", "_law_deep"] ["_law_word", "_law_one", "_law_other"] (zL (top 44)):=⟨rfl,rfl,rfl,by decide +kernel,rfl,by decide +kernel,by decide +kernel⟩
theorem vB(T:Txt K mg w.params):Ok P w base T.d__law_two 1 3 wR:=by
 refine mY T.d__law_two.F sc__law_two 3 5 rfl rfl (g:=w8) (fun cdv A outer s H E hr=>?_)
 unfold w8
 exact(by refine zJ ?_ ?_;exact(yV 3 (by refine xI ?_;exact(by refine zB (zA 0 (pv 0)) ?_ (hs:=zQ);refine zB (z5 (zA 1 (pv 1)) zE) ?_ (hs:=wA);refine zB (z5 (zA 2 (pv 2)) zE) ?_ (hs:=wA);exact zM)) sc__law_two.nd);exact(by refine zJ ?_ ?_;exact(yV 4 (zP yE yF zE (r8 (by rfl) (by rfl) T.z_max (by refine zB (z5 (zA 1 (pv 1)) zE) ?_ (hs:=wA);refine zB (z5 (zA 2 (pv 2)) zE) ?_ (hs:=wA);exact zM))) sc__law_two.nd);exact(by refine zJ ?_ ?_;exact(qZ (yS (wJ hr.units0) wK (zA 0 (pv 0)) (yL (s:=[43]) (by rfl)) (yG _)) (by refine zT ?_;exact(by refine yP ?_;exact(by refine xI ?_;exact(by refine zB (zA 3 (pv 3)) ?_ (hs:=zQ);refine zB (zP xP xQ (zP yE yF (z5 (zA 1 (pv 1)) zE) (z5 (zA 2 (pv 2)) zE)) zE) ?_ (hs:=vU);refine zB (zA 4 (pv 4)) ?_ (hs:=zQ);exact zM)))) wG);exact(by refine zJ ?_ ?_;exact(qZ (yS (wJ hr.units0) wK (zA 0 (pv 0)) (yL (s:=[45]) (by rfl)) (yG _)) (by refine zT ?_;exact(by refine yP ?_;exact(by refine xI ?_;exact(by refine zB (zA 3 (pv 3)) ?_ (hs:=zQ);refine zB (zP xP xQ (zP v8 uC (z5 (zA 1 (pv 1)) zE) (z5 (zA 2 (pv 2)) zE)) zE) ?_ (hs:=vU);refine zB (zA 4 (pv 4)) ?_ (hs:=zQ);exact zM)))) wG);exact(by refine zJ ?_ ?_;exact(qZ (yS (wJ hr.units0) wK (zA 0 (pv 0)) (yL (s:=[42]) (by rfl)) (yG _)) (by refine zT ?_;exact(by refine yP ?_;exact(by refine xI ?_;exact(by refine zB (zA 3 (pv 3)) ?_ (hs:=zQ);refine zB (zP xP xQ (zP mK mN (z5 (zA 1 (pv 1)) zE) (z5 (zA 2 (pv 2)) zE)) zE) ?_ (hs:=vU);refine zB (zA 4 (pv 4)) ?_ (hs:=zQ);exact zM)))) wG);exact(by refine zT ?_;exact(by refine yP ?_;exact(by refine xI ?_;exact(by refine zB (zA 3 (pv 3)) ?_ (hs:=zQ);refine zB (YC (by rfl) T.z_int (tD mL mO (z5 (zA 1 (pv 1)) zE) (z5 (zA 2 (pv 2)) zE) (yG _))) ?_ (hs:=vT);refine zB (zA 4 (pv 4)) ?_ (hs:=zQ);exact zM)))))))))
theorem sc__law_leaf:FnScope ["_law_cell_here", "_law_number", "_law_drawn"] ["_law_cell_here", "_law_number"] (zL (top 45)):=⟨rfl,rfl,rfl,by decide +kernel,rfl,by decide +kernel,by decide +kernel⟩
theorem j4(T:Txt K mg w.params):Ok P w base T.d__law_leaf 1 2 xL:=by
 refine mY T.d__law_leaf.F sc__law_leaf 2 3 rfl rfl (g:=wO) (fun cdv A outer s H E hr=>?_)
 unfold wO
 exact(by refine zJ ?_ ?_;exact(yV 2 (zP xP xQ (zP yE yF (zA 0 (pv 0)) (zA 1 (pv 1))) (zP zEP zEU zE zE)) sc__law_leaf.nd);exact(by refine zJ ?_ ?_;exact(qZ (yS (wJ hr.units0) wK (zP xP xQ (zA 1 (pv 1)) zE) zE (yG _)) (by refine zT ?_;exact(by refine yV 2 ?_ ?_ ?_ ?_ ?_ ?_;exact(by refine z5 ?_ ?_;exact(by refine YF ?_;exact(by refine xU ?_;exact(by refine zB zE ?_ (hs:=yC);refine zB zE ?_ (hs:=yC);refine zB zE ?_ (hs:=yC);refine zB zE ?_ (hs:=yC);refine zB zE ?_ (hs:=yC);refine zB zE ?_ (hs:=yC);exact zM)));exact(zP xP xQ (zP dM dO (zA 1 (pv 1)) zE) zE));exact(id sc__law_leaf.nd);rfl;(first|exact Or.inl rfl|exact Or.inr rfl);rfl;(first|exact Or.inl rfl|exact Or.inr rfl))) wG);exact(by refine zT ?_;exact(by refine yP ?_;exact(by refine xI ?_;exact(by refine zB (by refine xI ?_;exact(by refine zB (yL (s:=[110,117,109]) (by rfl)) ?_ (hs:=yC);refine zB (zA 2 (pv 2)) ?_ (hs:=zQ);exact zM)) ?_ (hs:=nI);refine zB (zA 2 (pv 2)) ?_ (hs:=zQ);refine zB zE ?_ (hs:=yC);exact zM))))))
theorem sc__law_grown:FnScope ["_law_pile", "_law_cell_here", "_law_k", "_law_number", "_law_kind", "_law_one", "_law_other", "_law_third", "_law_deep"] ["_law_pile", "_law_cell_here", "_law_k"] (zL (top 46)):=⟨rfl,rfl,rfl,by decide +kernel,rfl,by decide +kernel,by decide +kernel⟩
theorem uB(T:Txt K mg w.params):Ok P w base T.d__law_grown 2 3 wT:=by
 refine mY T.d__law_grown.F sc__law_grown 3 9 rfl rfl (g:=x4) (fun cdv A outer s H E hr=>?_)
 unfold x4
 exact(by refine zJ ?_ ?_;exact(yV 3 (z4 (yX T) (hr.mono (by decide)) (by rfl) T.d__law_mixed.m T.d__law_mixed.F.kp T.d__law_mixed.b (by refine zB (zA 1 (pv 1)) ?_ (hs:=zQ);refine zB (zA 2 (pv 2)) ?_ (hs:=zQ);exact zM)) sc__law_grown.nd);exact(by refine zJ ?_ ?_;exact(yV 4 (zP xP xQ (z4 (yX T) (hr.mono (by decide)) (by rfl) T.d__law_mixed.m T.d__law_mixed.F.kp T.d__law_mixed.b (by refine zB (zA 1 (pv 1)) ?_ (hs:=zQ);refine zB (zP yE yF (zA 2 (pv 2)) zE) ?_ (hs:=vU);exact zM)) zE) sc__law_grown.nd);exact(by refine zJ ?_ ?_;exact(qZ (zGV (gI (yS (wJ hr.units0) wK (zA 4 (pv 4)) zE (yG _)) (gI (yS ZD ZF (bZ (by rfl) T.z_len (zA 0 (pv 0))) zE (yG _)) (gH (yS mL mO (YB (by rfl) (by rfl) T.z_max (by refine zGH ?_;exact(bN (N':=["_law_item"]) (cap:=[]) rfl uO (uK (gO (zA 0 (pv 0)) (wU (uL zE)) jA)) (fun _ _ _ _=>(yY 0 (show(["_law_item"]:List Str).Nodup by decide +kernel))) (fun _ _ _ _=>by exact(by refine z5 ?_ ?_;exact(zA 0 (pv 0));exact zE)) 1))) zE (yG _)))))) (by refine zJ ?_ ?_;exact(zCB (gO (zA 0 (pv 0)) (wU (uL zE)) jA) (WV rfl (w6 (yY 5 sc__law_grown.nd) (w6 (yY 6 sc__law_grown.nd) (w6 (yY 7 sc__law_grown.nd) oP)))));exact(by refine zJ ?_ ?_;exact(yV 8 (zP yE yF zE (r8 (by rfl) (by rfl) T.z_max (by refine zB (z5 (zA 5 (pv 5)) zE) ?_ (hs:=wA);refine zB (z5 (zA 6 (pv 6)) zE) ?_ (hs:=wA);refine zB (z5 (zA 7 (pv 7)) zE) ?_ (hs:=wA);exact zM))) sc__law_grown.nd);exact(by refine zT ?_;exact(by refine yP ?_;exact(zP yE yF (gO (zA 0 (pv 0)) jA (wU (uL zE))) (by refine YF ?_;exact(by refine xU ?_;exact(by refine zB ?_ ?_;exact(by refine xI ?_;exact(by refine zB ?_ ?_;exact(by refine xI ?_;exact(by refine zB (yL (s:=[105,102]) (by rfl)) ?_ (hs:=yC);refine zB (z5 (zA 5 (pv 5)) zE) ?_ (hs:=wA);refine zB (z5 (zA 6 (pv 6)) zE) ?_ (hs:=wA);refine zB (z5 (zA 7 (pv 7)) zE) ?_ (hs:=wA);exact zM));refine zB ?_ ?_;exact(by refine z5 ?_ ?_;exact(by refine YF ?_;exact(by refine xU ?_;exact(by refine zB (z5 (zA 6 (pv 6)) zE) ?_ (hs:=wA);refine zB (z5 (zA 7 (pv 7)) zE) ?_ (hs:=wA);exact zM)));exact(YC (by rfl) T.z_int (tD (wJ hr.units0) wK (z5 (zA 5 (pv 5)) zE) zE (yG _))));refine zB ?_ ?_;exact(zA 8 (pv 8));exact zM));exact zM)))))))) wG);exact(by refine zJ ?_ ?_;exact(qZ (zGV (gI (yS ZD ZF (zA 4 (pv 4)) zE (yG _)) (gI (yS ZD ZF (bZ (by rfl) T.z_len (zA 0 (pv 0))) zE (yG _)) (gH (yS mL mO (YB (by rfl) (by rfl) T.z_max (by refine zGH ?_;exact(bN (N':=["_law_item"]) (cap:=[]) rfl uO (uK (gO (zA 0 (pv 0)) (wU (uL zE)) jA)) (fun _ _ _ _=>(yY 0 (show(["_law_item"]:List Str).Nodup by decide +kernel))) (fun _ _ _ _=>by exact(by refine z5 ?_ ?_;exact(zA 0 (pv 0));exact zE)) 1))) zE (yG _)))))) (by refine zT ?_;exact(by refine yP ?_;exact(zP yE yF (gO (zA 0 (pv 0)) jA (wU (uL zE))) (by refine YF ?_;exact(by refine xU ?_;exact(by refine zB ?_ ?_;exact(z4 (vB T) (hr.mono (by decide)) (by rfl) T.d__law_two.m T.d__law_two.F.kp T.d__law_two.b (by refine zB ?_ ?_;exact(by refine z5 ?_ ?_;exact(by refine YF ?_;exact(by refine xU ?_;exact(by refine oQ (ss:=[[43],[45],[42],[60]]) ?_;rfl)));exact(zP xP xQ (zA 3 (pv 3)) zE));refine zB ?_ ?_;exact(z5 (zA 0 (pv 0)) (uL zE));refine zB ?_ ?_;exact(z5 (zA 0 (pv 0)) (uL zE));exact zM));exact zM)))))) wG);exact(by refine zT ?_;exact(by refine yP ?_;exact(zP yE yF (zA 0 (pv 0)) (by refine YF ?_;exact(by refine xU ?_;exact(zB (z4 (j4 T) (hr.mono (by decide)) (by rfl) T.d__law_leaf.m T.d__law_leaf.F.kp T.d__law_leaf.b (by refine zB (zA 1 (pv 1)) ?_ (hs:=zQ);refine zB (zA 3 (pv 3)) ?_ (hs:=zQ);exact zM)) zM (hs:=vT)))))))))))
theorem sc__law_folded:FnScope ["_law_pile", "_law_cell_here", "_law_k", "_law_word"] ["_law_pile", "_law_cell_here"] (zL (top 47)):=⟨rfl,rfl,rfl,by decide +kernel,rfl,by decide +kernel,by decide +kernel⟩
theorem kU(T:Txt K mg w.params):Ok P w base T.d__law_folded 2 2 xG:=by
 refine mY T.d__law_folded.F sc__law_folded 2 4 rfl rfl (g:=xO) (fun cdv A outer s H E hr=>?_)
 unfold xO
 exact(by refine zJ ?_ ?_;exact(yV 2 zE sc__law_folded.nd);exact(by refine zJ ?_ ?_;exact(cJ WF PassesOwn.never (yS ZD ZF (bZ (by rfl) T.z_len (zA 0 (pv 0))) zE (yG _)) (by refine zJ ?_ ?_;exact(by refine yV 3 ?_ ?_ ?_ ?_ ?_ ?_;exact(by refine z5 ?_ ?_;exact(by refine YF ?_;exact(by refine xU ?_;exact(by refine oQ (ss:=[[43],[45],[42],[60],[43]]) ?_;rfl)));exact(zP xP xQ (z4 (yX T) (hr.mono (by decide)) (by rfl) T.d__law_mixed.m T.d__law_mixed.F.kp T.d__law_mixed.b (by refine zB (zA 1 (pv 1)) ?_ (hs:=zQ);refine zB (zP yE yF zE (zA 2 (pv 2))) ?_ (hs:=vU);exact zM)) zE));exact(id sc__law_folded.nd);rfl;(first|exact Or.inl rfl|exact Or.inr rfl);rfl;(first|exact Or.inl rfl|exact Or.inr rfl));exact(by refine zJ ?_ ?_;exact(yV 0 (zP yE yF (gO (zA 0 (pv 0)) (wU zE) jA) (by refine YF ?_;exact(by refine xU ?_;exact(zB (z4 (vB T) (hr.mono (by decide)) (by rfl) T.d__law_two.m T.d__law_two.F.kp T.d__law_two.b (by refine zB (zA 3 (pv 3)) ?_ (hs:=zQ);refine zB (z5 (zA 0 (pv 0)) zE) ?_ (hs:=wA);refine zB (z5 (zA 0 (pv 0)) zE) ?_ (hs:=wA);exact zM)) zM (hs:=vT))))) sc__law_folded.nd);exact(by refine zT ?_;exact(yV 2 (zP yE yF (zA 2 (pv 2)) zE) sc__law_folded.nd)))));exact(by refine zT ?_;exact(by refine yP ?_;exact(z5 (zA 0 (pv 0)) zE)))))
theorem sc__law_names:FnScope ["_law_cell_here", "_law_many", "_law_size", "_law_at", "_law_base"] ["_law_cell_here", "_law_many"] (zL (top 48)):=⟨rfl,rfl,rfl,by decide +kernel,rfl,by decide +kernel,by decide +kernel⟩
theorem uA(T:Txt K mg w.params):Ok P w base T.d__law_names 2 2 qT:=by
 refine mY T.d__law_names.F sc__law_names 2 5 rfl rfl (g:=x0) (fun cdv A outer s H E hr=>?_)
 unfold x0
 exact(by refine zJ ?_ ?_;exact(yV 2 (zP yE yF zE (zP xP xQ (zA 0 (pv 0)) zE)) sc__law_names.nd);exact(by refine zJ ?_ ?_;exact(yV 3 (zP xP xQ (zP dM dO (zA 0 (pv 0)) zE) (zA 2 (pv 2))) sc__law_names.nd);exact(by refine zJ ?_ ?_;exact(yV 4 (zCJ (yL (s:=[]) (by rfl)) (by refine zGH ?_;exact(bN (N':=["_law_cell_here", "_law_k"]) (cap:=[0]) rfl uO (oO (by rfl) T.z_range (zA 2 (pv 2))) (fun _ _ _ _=>(yY 1 (show(["_law_cell_here", "_law_k"]:List Str).Nodup by decide +kernel))) (fun _ _ _ _=>by exact(by refine z5 ?_ ?_;exact(yL (s:=[113,120,122,106,118]) (by rfl));exact(zP xP xQ (z4 (yX T) (hr.mono (by decide)) (by rfl) T.d__law_mixed.m T.d__law_mixed.F.kp T.d__law_mixed.b (by refine zB ?_ ?_;exact(zA 0 (pv 0));refine zB ?_ ?_;exact(zP yE yF zE (zA 1 (pv 1)));exact zM)) zE))) 2))) sc__law_names.nd);exact(by refine zT ?_;exact(by refine yP ?_;exact(by refine YF ?_;exact(bN (N':=["_law_at", "_law_base", "_law_k"]) (cap:=[3,4]) rfl uO (oO (by rfl) T.z_range (zA 1 (pv 1))) (fun _ _ _ _=>(yY 2 (show(["_law_at", "_law_base", "_law_k"]:List Str).Nodup by decide +kernel))) (fun _ _ _ _=>by exact(zP yE yF (zP yE yF (gO (zA 1 (pv 1)) jA (wU (zA 0 (pv 0)))) (by refine z5 ?_ ?_;exact(yL (s:=[97,98,99,100,101,103,104,105,107,108]) (by rfl));exact(zA 2 (pv 2)))) (gO (zA 1 (pv 1)) (wU (zA 0 (pv 0))) jA))) 3)))))))
theorem Y8:FnScope ["self", "expression", "around"] ["self", "expression", "around"] (zL (uX 8 1)):=⟨rfl,rfl,rfl,by decide +kernel,rfl,by decide +kernel,by decide +kernel⟩
noncomputable def u1:MEs:=(uDo (W4 (wS (zC (zD 1) (zC (zD 2) (zC (mC (.bl false)) zR))))))
theorem sz2:(2:Nat)<=sizeLine:=by decide
theorem sz3:(3:Nat)<=sizeLine:=by decide
theorem QZ(st:Mst)(ds:List D)(p:D×Mst)(hl:ds.length=2)(h:yN st ds=some p):mkU 2 3 u1 st ds=some p:=by
 match ds,hl with
 |[e,b],_=>
  have h:(if st.wait.length<sizeLine then some (D.non,JS st (.tup [e,b,.bl false])) else none)=some p:=h
  by_cases hs:st.wait.length<sizeLine
  ·rw[if_pos hs] at h
   cases h
   show(u1 st [.un,.v e,.v b]).bind _=_
   unfold u1 uDo
   simp[W4,wS,zC,zR,zD,mC,hs,sz3]
  ·rw[if_neg hs] at h;cases h
theorem kJ(T:Txt K mg w.params):FnOk P w K mg base CX0 1 T.m_begin.a T.m_begin.d ["self", "expression", "around"] (spM K T.C 2 yN):=by
 refine xV (QP (k:=0) T.m_begin.F Y8 2 3 rfl rfl (g:=u1) (fun cdv A outer s H E hr=>?_)) QZ
 unfold u1
 exact(by refine xH ?_;exact(vC (ZI (pv 0) T.cl T.n_waiting (by refine xI ?_;exact(by refine zB (zA 1 (pv 1)) ?_ (hs:=zQ);refine zB (zA 2 (pv 2)) ?_ (hs:=zQ);refine zB YG ?_ (hs:=yC);exact zM)))))
theorem JI:FnScope ["self", "value"] ["self", "value"] (zL (uX 8 2)):=⟨rfl,rfl,rfl,by decide +kernel,rfl,by decide +kernel,by decide +kernel⟩
noncomputable def hE:MEs:=(uDo (zFR (zD 1)))
theorem zDN(st:Mst)(ds:List D)(p:D×Mst)(hl:ds.length=1)(h:qQ st ds=some p):mkU 1 2 hE st ds=some p:=by
 match ds,hl with
 |[e],_=>
  have h:(if st.come.length<sizeLine then some (D.non,zEA st e) else none)=some p:=h
  by_cases hs:st.come.length<sizeLine
  ·rw[if_pos hs] at h
   cases h
   show(hE st [.un,.v e]).bind _=_
   unfold hE uDo
   simp[zFR,zD,hs]
  ·rw[if_neg hs] at h;cases h
theorem ZE(T:Txt K mg w.params):FnOk P w K mg base CX0 1 T.m_tell.a T.m_tell.d ["self", "value"] (spM K T.C 1 qQ):=by
 refine xV (QP (k:=0) T.m_tell.F JI 1 2 rfl rfl (g:=hE) (fun cdv A outer s H E hr=>?_)) zDN
 unfold hE
 exact(by refine xH ?_;exact(vC (zA5 (pv 0) T.cl T.n_come (zA 1 (pv 1)))))
theorem JJ:FnScope ["self"] ["self"] (zL (uX 8 3)):=⟨rfl,rfl,rfl,by decide +kernel,rfl,by decide +kernel,by decide +kernel⟩
noncomputable def hI:MEs:=(oY (uIf vGe (oY (zG2 (wS (zC (mC (.str [116,105,114,101,100])) (zC (mC .non) zR)))) (QN (y0 (mC (.bl false))))) pD) (oY zFQ (QN (y0 (mC (.bl true))))))
theorem zDO(st:Mst)(ds:List D)(p:D×Mst)(hl:ds.length=0)(h:qR st ds=some p):mkU 0 1 hI st ds=some p:=by
 match ds,hl with
 |[],_=>
  have h:(if st.most<=st.steps then some (D.bl false,{ st with ended:=nD }) else some (.bl true,{ st with steps:=st.steps+1 }))=some p:=h
  show(hI st [.un]).bind _=_
  unfold hI oY uIf
  by_cases hs:st.most<=st.steps
  ·rw[if_pos hs] at h
   cases h
   simp[hs,vGe,zG2,QN,y0,wS,zC,zR,mC,oY,nD,sz2]
  ·rw[if_neg hs] at h
   cases h
   simp[hs,vGe,zG2,QN,y0,wS,zC,zR,mC,oY,nD,pD,zFQ]
theorem zAJ(T:Txt K mg w.params):FnOk P w K mg base CX0 1 T.m_step.a T.m_step.d ["self"] (spM K T.C 0 qR):=by
 refine xV (QP (k:=0) T.m_step.F JJ 0 1 rfl rfl (g:=hI) (fun cdv A outer s H E hr=>?_)) zDO
 unfold hI
 exact(by refine jL ?_ ?_;exact(n8 (zHS (uE (pv 0) T.cl T.n_steps cF) (uE (pv 0) T.cl T.n_most zBS) rfl) (by refine jL ?_ ?_;exact(zE0 (pv 0) T.cl T.n_ended (by refine xI ?_;exact(by refine zB (yL (s:=[116,105,114,101,100]) (by rfl)) ?_ (hs:=yC);refine zB zCH ?_ (hs:=yC);exact zM)));exact(by refine xH ?_;exact(mQ (xE YG)))) WA);exact(by refine jL ?_ ?_;exact(zAY (pv 0) T.cl T.n_steps);exact(by refine xH ?_;exact(mQ (xE YG)))))
theorem sc_begin_parts:FnScope ["self", "expression", "around", "at"] ["self", "expression", "around"] (zL (uX 8 5)):=⟨rfl,rfl,rfl,by decide +kernel,rfl,by decide +kernel,by decide +kernel⟩
noncomputable def xM:MEs:=(oY (uDo (W4 (wS (zC (zD 1) (zC (zD 2) (zC (mC (.bl true)) zR)))))) (zID 0 3 (zHV (mUn (zGU AH) (zH ixD (zD 1) (mC (.int 0))))) (uDo (wL 2 yN (zS (y0 (zH ixD (zD 1) (zD 3))) (zS (y0 (zD 2)) xT))))))
theorem kR{st:Mst}{e b:D}{q:D×Mst}(h:yN st [e,b]=some q):q=(.non,JS st (.tup [e,b,.bl false])):=by
 have h:(if st.wait.length<sizeLine then some (D.non,JS st (.tup [e,b,.bl false])) else none)=some q:=h
 by_cases hs:st.wait.length<sizeLine
 ·rw[if_pos hs] at h;cases h;rfl
 ·rw[if_neg hs] at h;cases h
theorem zJE{α:Type}{x:α}{l:List α}:atI (x::l) 0=some x:=by
 unfold atI ixN
 simp
theorem zCT{e:D}{l:List Int}(h:vJ e=some l){r:En}{i:Nat}(hr:r[i]?=some (.v e)):mUn (zGU AH) (zH ixD (zD i) (mC (.int 0))) r=some (.tup (l.map .int)):=by
 unfold vJ at h
 split at h
 ·rename_i s' r'
  cases h
  have e3:zH ixD (zD i) (mC (.int 0)) r=some (.str s'):=by
   unfold zH zD
   rw[hr]
   exact zJE
  unfold mUn
  rw[e3];rfl
 ·cases h
theorem vQ(st:Mst)(ds:List D)(p:D×Mst)(hl:ds.length=2)(h:zW st ds=some p):mkU 2 4 xM st ds=some p:=by
 match ds,hl with
 |[e,b],_=>
  have h:(if st.wait.length<sizeLine then (vJ e).bind fun l=>(nR e b l.reverse (JS st (.tup [e,b,.bl true]))).map fun s=>(D.non,s) else none)=some p:=h
  by_cases hs:st.wait.length<sizeLine
  ·rw[if_pos hs] at h
   obtain⟨l,e1,h⟩:=bind_some h
   obtain⟨s,e2,rfl⟩:=map_some h
   show(xM st [.un,.v e,.v b,.un]).bind _=_
   have loop:∀(l:List Int) (st s:Mst) (x:Sl),(x=.un\/∃i,x=.v (.int i))->nR e b l st=some s->∃x',nB 0 3 (uDo (wL 2 yN (zS (y0 (zH ixD (zD 1) (zD 3))) (zS (y0 (zD 2)) xT)))) (l.map D.int) st [.un,.v e,.v b,x]=some (.nx s [.un,.v e,.v b,x']):=by
    intro l
    induction l with
    |nil=>intro st s x _ h;cases h;exact⟨x,rfl⟩
    |cons i l ih=>
     intro st s x hx h
     obtain⟨q,h1,h2⟩:=bind_some (show(ixD e (.int i)).bind (fun p=>(yN st [p,b]).bind fun q=>nR e b l q.2)=some s from h)
     obtain⟨q2,h3,h4⟩:=bind_some h2
     obtain⟨x',hx'⟩:=ih q2.2 s (.v (.int i)) (.inr ⟨i,rfl⟩) h4
     refine⟨x',?_⟩
     have hset:yW 3 (.int i) [.un,.v e,.v b,x]=some [.un,.v e,.v b,.v (.int i)]:=by
      rcases hx with rfl|⟨j,rfl⟩<;>rfl
     have hm:wL 2 yN (zS (y0 (zH ixD (zD 1) (zD 3))) (zS (y0 (zD 2)) xT)) st [.un,.v e,.v b,.v (.int i)]=some q2:=by
      have e1:zH ixD (zD 1) (zD 3) [.un,.v e,.v b,.v (.int i)]=some q:=h1
      have e2:zD 2 [.un,.v e,.v b,.v (.int i)]=some b:=rfl
      unfold wL
      simp only[zS,y0,xT,e1,e2,Option.map_some,Option.bind_some,List.length_cons,List.length_nil,if_true]
      exact h3
     rw[List.map_cons]
     unfold nB
     rw[if_neg (by decide),hset,Option.bind_some]
     unfold uDo
     rw[hm]
     exact hx'
   obtain⟨x',hx'⟩:=loop l.reverse _ s .un (.inl rfl) e2
   have ea:zHV (mUn (zGU AH) (zH ixD (zD 1) (mC (.int 0)))) [.un,.v e,.v b,.un]=some (l.reverse.map D.int):=by
    unfold zHV mTp
    rw[zCT e1 rfl]
    show some ((l.map D.int).reverse)=_
    rw[List.map_reverse]
   unfold xM oY
   have e4:uDo (W4 (wS (zC (zD 1) (zC (zD 2) (zC (mC (.bl true)) zR))))) st [.un,.v e,.v b,.un]=some (.nx (JS st (.tup [e,b,.bl true])) [.un,.v e,.v b,.un]):=by
    unfold uDo
    simp[W4,wS,zC,zR,zD,mC,hs,sz3]
   rw[e4,Option.bind_some]
   unfold zID
   dsimp only
   rw[ea,Option.bind_some]
   show(nB _ _ _ _ _ _).bind _=_
   rw[hx']
   rfl
  ·rw[if_neg hs] at h;cases h
theorem kT(T:Txt K mg w.params):FnOk P w K mg base CX0 2 T.m_begin_parts.a T.m_begin_parts.d ["self", "expression", "around"] (spM K T.C 2 zW):=by
 refine xV (QP (k:=1) T.m_begin_parts.F sc_begin_parts 2 4 rfl rfl (g:=xM) (fun cdv A outer s H E hr=>?_)) vQ
 unfold xM
 exact(by refine jL ?_ ?_;exact(vC (ZI (pv 0) T.cl T.n_waiting (by refine xI ?_;exact(by refine zB (zA 1 (pv 1)) ?_ (hs:=zQ);refine zB (zA 2 (pv 2)) ?_ (hs:=zQ);refine zB YG ?_ (hs:=yC);exact zM))));exact(by refine xH ?_;exact(zEZ 3 PassesOwn.never rfl (zFM (by rfl) T.z_reversed (YE T.ahead (by rfl) (z5 (zA 1 (pv 1)) zE) Z9)) sc_begin_parts.nd (by refine xH ?_;exact(vC (qE (pv 0) T.cl T.h_begin (fun _ _ _ _ _ _=>rfl) (kJ T) (hr.mono (by omega)) T.m_begin.b (yI (xE (z5 (zA 1 (pv 1)) (zA 3 (pv 3)))) (yI (xE (zA 2 (pv 2))) qO))))))))
theorem vW:FnScope ["self", "expression"] ["self", "expression"] (zL (uX 8 6)):=⟨rfl,rfl,rfl,by decide +kernel,rfl,by decide +kernel,by decide +kernel⟩
noncomputable def xX:MEs:=(QN (zC1 (mUn (zGU AH) (zH ixD (zD 1) (mC (.int 0))))))
theorem bO(st:Mst)(ds:List D)(p:D×Mst)(hl:ds.length=1)(h:yA st ds=some p):mkU 1 2 xX st ds=some p:=by
 match ds,hl with
 |[e],_=>
  obtain⟨l,e1,h⟩:=bind_some (show(vJ e).bind _=some p from h)
  show(xX st [.un,.v e]).bind _=_
  unfold xX QN zC1
  rw[zCT e1 rfl,Option.bind_some]
  dsimp only
  rw[List.length_map,h]
  rfl
theorem v9(T:Txt K mg w.params):FnOk P w K mg base CX0 1 T.m_parts_come.a T.m_parts_come.d ["self", "expression"] (spM K T.C 1 yA):=by
 refine xV (QP (k:=0) T.m_parts_come.F vW 1 2 rfl rfl (g:=xX) (fun cdv A outer s H E hr=>?_)) bO
 unfold xX
 exact(by refine xH ?_;exact(mQ (zA2 (N':=["self", "at"]) rfl uO (YE T.ahead (by rfl) (z5 (zA 1 (pv 1)) zE) Z9) rfl (fun _ _ _ _=>nW (show(["self", "at"]:List Str).Nodup by decide +kernel) rfl (Or.inl rfl)) (fun _ _ _ _=>pv 0) T.cl T.n_come (fun _ _ _ _=>rfl) (fun _ _ _ _=>rfl))))
theorem pS:FnScope ["plain", "expression", "bound", "parts"] ["plain", "expression", "bound", "parts"] (zL (top 21)):=⟨rfl,rfl,rfl,by decide +kernel,rfl,by decide +kernel,by decide +kernel⟩
noncomputable def kG:MEs:=(uDo (wL 1 qQ (zS (y0 (zH ixD (zD 1) (mC (.int 1)))) xT)))
theorem YT(st:Mst)(ds:List D)(p:D×Mst)(hl:ds.length=3)(h:wZ st ds=some p):mkU 3 4 kG st ds=some p:=by
 unfold wZ at h
 split at h
 ·rename_i a v c b ps
  show(kG st [.un,.v (.tup [a,v,c]),.v b,.v ps]).bind _=_
  have e1:zH ixD (zD 1) (mC (.int 1)) [.un,.v (.tup [a,v,c]),.v b,.v ps]=some v:=rfl
  unfold kG uDo wL
  simp only[zS,y0,xT,e1,Option.map_some,Option.bind_some,List.length_cons,List.length_nil,if_true]
  rw[h]
  have h:(if st.come.length<sizeLine then some (D.non,zEA st v) else none)=some p:=h
  by_cases hs:st.come.length<sizeLine
  ·rw[if_pos hs] at h;cases h;rfl
  ·rw[if_neg hs] at h;cases h
 ·cases h
theorem rC(T:Txt K mg w.params):FnOk P w K mg base CX0 2 T.d_of_num.a T.d_of_num.d ["plain", "expression", "bound", "parts"] (spM K T.C 3 wZ):=by
 refine xV (QP (k:=1) T.d_of_num.F pS 3 4 rfl rfl (g:=kG) (fun cdv A outer s H E hr=>?_)) YT
 unfold kG
 exact(by refine xH ?_;exact(vC (qE (pv 0) T.cl T.h_tell (fun _ _ _ _ _ _=>rfl) (ZE T) (hr.mono (by omega)) T.m_tell.b (yI (xE (z5 (zA 1 (pv 1)) zE)) qO))))
theorem mD:FnScope ["plain", "expression", "bound", "parts"] ["plain", "expression", "bound", "parts"] (zL (top 22)):=⟨rfl,rfl,rfl,by decide +kernel,rfl,by decide +kernel,by decide +kernel⟩
noncomputable def jC:MEs:=(uIf (uY (zDC false (zH ixD (zD 1) (mC (.int 1))) (zIN (zD 2)))) YV (uIf (vBl (hJ qR)) (uDo (wL 2 yN (zS (pE (zH ixD (zD 1) (mC (.int 1)))) (zS (y0 (zC9 mD0)) xT)))) pD))
theorem JG(st:Mst):qR st []=if st.most<=st.steps then some (D.bl false,{ st with ended:=nD }) else some (.bl true,{ st with steps:=st.steps+1 }):=rfl
theorem pC(st:Mst)(ds:List D)(p:D×Mst)(hl:ds.length=3)(h:xB st ds=some p):mkU 3 4 jC st ds=some p:=by
 unfold xB at h
 split at h
 ·rename_i a s c ps
  obtain⟨q,e1,h⟩:=bind_some h
  show(jC st [.un,.v (.tup [a,.str s,c]),.v (.dct [] []),.v ps]).bind _=_
  have e2:zH ixD (zD 1) (mC (.int 1)) [.un,.v (.tup [a,.str s,c]),.v (.dct [] []),.v ps]=some (.str s):=rfl
  have e3:zDC false (zH ixD (zD 1) (mC (.int 1))) (zIN (zD 2)) [.un,.v (.tup [a,.str s,c]),.v (.dct [] []),.v ps]=some false:=rfl
  unfold jC uIf
  simp only[uY,e3,Option.map_some,Option.bind_some,Bool.false_eq_true,if_false,vBl,hJ,e1]
  rw[JG] at e1
  by_cases hs:st.most<=st.steps
  ·rw[if_pos hs] at e1
   cases e1
   cases h
   rfl
  ·rw[if_neg hs] at e1
   cases e1
   dsimp only at h
   split at h
   ·rename_i ks l _ hd
    obtain⟨d,e4,h⟩:=bind_some h
    have hb:=kR h
    subst hb
    have e5:pE (zH ixD (zD 1) (mC (.int 1))) { st with steps:=st.steps+1 } [.un,.v (.tup [a,.str s,c]),.v (.dct [] []),.v ps]=some (d,{ st with steps:=st.steps+1 }):=by
     unfold pE
     rw[e2,Option.bind_some]
     show(match st.defs with | .dct ks l=>(qI ks l (.inr ⟨s.toArray⟩)).map fun d=>(d,{ st with steps:=st.steps+1 })|_=>none)=_
     rw[hd]
     dsimp only
     rw[e4];rfl
    dsimp only[Option.bind_some]
    simp only[if_true,uDo,wL,zS,xT,e5,Option.bind_some,Option.map_some,y0,zC9,mD0,List.length_cons,List.length_nil]
    rw[h];rfl
   ·rename_i z;cases z
   ·cases h
 ·cases h
theorem mM(T:Txt K mg w.params):FnOk P w K mg base CX0 2 T.d_of_name.a T.d_of_name.d ["plain", "expression", "bound", "parts"] (spM K T.C 3 xB):=by
 refine xV (QP (k:=1) T.d_of_name.F mD 3 4 rfl rfl (g:=jC) (fun cdv A outer s H E hr=>?_)) pC
 unfold jC
 exact(by refine xH ?_;exact(n8 (bD (zB6 (z5 (zA 1 (pv 1)) zE) (zJ4 (zA 2 (pv 2))))) cD (by refine xH ?_;exact(n8 (zHT (n9 (pv 0) T.cl T.h_step (fun _ _ _ _ _ _=>rfl) (zAJ T) (hr.mono (by omega)) T.m_step.b)) (by refine xH ?_;exact(vC (qE (pv 0) T.cl T.h_begin (fun _ _ _ _ _ _=>rfl) (kJ T) (hr.mono (by omega)) T.m_begin.b (yI (ZH (un1 hr) (pv 0) T.cl T.n_defs (z5 (zA 1 (pv 1)) zE)) (yI (xE (zDF zBV)) qO))))) WA))))
theorem Y5:FnScope ["plain", "expression", "bound", "parts"] ["plain", "expression", "bound", "parts"] (zL (top 34)):=⟨rfl,rfl,rfl,by decide +kernel,rfl,by decide +kernel,by decide +kernel⟩
noncomputable def uZ:MEs:=(uIf (uY (mBl (zH neA (z6 1 xC (zC (zH ixD (zD 3) (mC (.int 0))) zR)) (mC (.str [110,117,109]))))) YV (uIf (uY (mBl (zH neA (zH ixD (zD 3) (mC (.int 0))) (mC (.int 0))))) (uDo (wL 2 yN (zS (y0 (zH ixD (zD 1) (mC (.int 2)))) (zS (y0 (zD 2)) xT)))) (uDo (wL 2 yN (zS (y0 (zH ixD (zD 1) (mC (.int 3)))) (zS (y0 (zD 2)) xT))))))
theorem QX(st:Mst)(ds:List D)(p:D×Mst)(hl:ds.length=3)(h:qY st ds=some p):mkU 3 4 uZ st ds=some p:=by
 unfold qY at h
 split at h
 ·rename_i a c x y m b i
  show(uZ st [.un,.v (.tup [a,c,x,y,m]),.v b,.v (.lst [.int i])]).bind _=_
  have e1:mBl (zH neA (z6 1 xC (zC (zH ixD (zD 3) (mC (.int 0))) zR)) (mC (.str [110,117,109]))) [.un,.v (.tup [a,c,x,y,m]),.v b,.v (.lst [.int i])]=some false:=rfl
  have e2:mBl (zH neA (zH ixD (zD 3) (mC (.int 0))) (mC (.int 0))) [.un,.v (.tup [a,c,x,y,m]),.v b,.v (.lst [.int i])]=some (!decide (i=0)):=rfl
  have e3:zH ixD (zD 1) (mC (.int 2)) [.un,.v (.tup [a,c,x,y,m]),.v b,.v (.lst [.int i])]=some x:=rfl
  have e4:zH ixD (zD 1) (mC (.int 3)) [.un,.v (.tup [a,c,x,y,m]),.v b,.v (.lst [.int i])]=some y:=rfl
  have e5:zD 2 [.un,.v (.tup [a,c,x,y,m]),.v b,.v (.lst [.int i])]=some b:=rfl
  unfold uZ uIf
  by_cases hi:i=0
  ·rw[if_pos hi] at h
   rw[decide_eq_true hi] at e2
   have hb:=kR h
   simp only[uY,e1,e2,e4,e5,Bool.not_true,Option.map_some,Option.bind_some,Bool.false_eq_true,if_false,uDo,wL,zS,xT,y0,List.length_cons,List.length_nil,if_true]
   rw[h];subst hb;rfl
  ·rw[if_neg hi] at h
   rw[decide_eq_false hi] at e2
   have hb:=kR h
   simp only[uY,e1,e2,e3,e5,Bool.not_false,Option.map_some,Option.bind_some,Bool.false_eq_true,if_false,uDo,wL,zS,xT,y0,List.length_cons,List.length_nil,if_true]
   rw[h];subst hb;rfl
 ·cases h
theorem X0(T:Txt K mg w.params):FnOk P w K mg base CX0 2 T.d_of_if.a T.d_of_if.d ["plain", "expression", "bound", "parts"] (spM K T.C 3 qY):=by
 refine xV (QP (k:=1) T.d_of_if.F Y5 3 4 rfl rfl (g:=uZ) (fun cdv A outer s H E hr=>?_)) QX
 unfold uZ
 exact(by refine xH ?_;exact(n8 (bD (yS (zAE hr.units0) zAM (z4 (xN T) (hr.mono (by decide)) (by rfl) T.d_sort_of.m T.d_sort_of.F.kp T.d_sort_of.b (zB (z5 (zA 3 (pv 3)) zE) zM (hs:=wA))) (yL (s:=[110,117,109]) (by rfl)) (yG _))) cD (by refine xH ?_;exact(n8 (bD (yS (zAE hr.units0) zAM (z5 (zA 3 (pv 3)) zE) zE (yG _))) (by refine xH ?_;exact(vC (qE (pv 0) T.cl T.h_begin (fun _ _ _ _ _ _=>rfl) (kJ T) (hr.mono (by omega)) T.m_begin.b (yI (xE (z5 (zA 1 (pv 1)) zE)) (yI (xE (zA 2 (pv 2))) qO))))) (by refine xH ?_;exact(vC (qE (pv 0) T.cl T.h_begin (fun _ _ _ _ _ _=>rfl) (kJ T) (hr.mono (by omega)) T.m_begin.b (yI (xE (z5 (zA 1 (pv 1)) zE)) (yI (xE (zA 2 (pv 2))) qO)))))))))
theorem vX:FnScope ["plain", "expression", "bound", "parts"] ["plain", "expression", "bound", "parts"] (zL (top 35)):=⟨rfl,rfl,rfl,by decide +kernel,rfl,by decide +kernel,by decide +kernel⟩
noncomputable def xY:MEs:=(uIf (uY (qW (mBl (zH eqA (z6 1 xC (zC (zH ixD (zD 3) (mC (.int 0))) zR)) (mC (.str [110,117,109])))) (mBl (zH eqA (z6 1 xC (zC (zH ixD (zD 3) (mC (.int 1))) zR)) (mC (.str [110,117,109])))))) (uDo (wL 1 qQ (zS (y0 (z6 3 jS (zC (zH ixD (zD 1) (mC (.int 0))) (zC (zH ixD (zD 3) (mC (.int 0))) (zC (zH ixD (zD 3) (mC (.int 1))) zR))))) xT))) YV)
theorem pK{st:Mst}{v:D}{q:D×Mst}(h:qQ st [v]=some q):q=(.non,zEA st v):=by
 have h:(if st.come.length<sizeLine then some (D.non,zEA st v) else none)=some q:=h
 by_cases hs:st.come.length<sizeLine
 ·rw[if_pos hs] at h;cases h;rfl
 ·rw[if_neg hs] at h;cases h
theorem rG{i j:Int}(hi:small i):(-(2 ^ 64)<i/\i<2 ^ 64)\/(-(2 ^ 64)<j/\j<2 ^ 64):=by
 unfold small at hi;left;omega
theorem o9(w:List Nat)(i j:Int)(hi:small i)(hj:small j):∃as,jS [.v (.str w),.v (.int i),.v (.int j)]=some (.v (.int (wk w i j)),as):=by
 unfold jS mkF
 have e:∀k:List Nat,mBl (zH eqA (zD 0) (mC (.str k))) [.v (.str w),.v (.int i),.v (.int j)]=some (decide (w=k)):=fun k=>rfl
 have m6:∀a:Int,jM (.int a) (.int 1000000)=some (.int (a % 1000000)):=fun a=>rfl
 show ∃as,(kL [.v (.str w),.v (.int i),.v (.int j)]).bind _=_
 unfold kL wk
 by_cases h1:w=[43]
 ·refine⟨[.v (.str w),.v (.int i),.v (.int j)],?_⟩
  subst h1
  simp only[yM,sIf,e,decide_true,Option.bind_some,if_true]
  rfl
 ·by_cases h2:w=[45]
  ·refine⟨[.v (.str w),.v (.int i),.v (.int j)],?_⟩
   subst h2
   simp only[yM,sIf,e,decide_true,Option.bind_some,if_true]
   rfl
  ·by_cases h3:w=[42]
   ·refine⟨[.v (.str w),.v (.int i),.v (.int j)],?_⟩
    have hm:zH jM (zH zAS (zD 1) (zD 2)) (mC (.int 1000000)) [.v (.str w),.v (.int i),.v (.int j)]=some (.int (i*j % 1000000)):=by
     show((if (-(2 ^ 64)<i/\i<2 ^ 64)\/(-(2 ^ 64)<j/\j<2 ^ 64) then some (D.int (i*j)) else none).bind _)=_
     rw[if_pos (rG hi)];rfl
    have d1:decide (w=[43])=false:=decide_eq_false h1
    have d2:decide (w=[45])=false:=decide_eq_false h2
    have d3:decide (w=[42])=true:=decide_eq_true h3
    rw[if_neg h1,if_neg h2,if_pos h3]
    simp only[yM,sIf,e,d1,d2,d3,Option.bind_some,if_true,if_false,Bool.false_eq_true,xW,qC,hm]
    rfl
   ·refine⟨[.v (.str w),.v (.int i),.v (.int j)],?_⟩
    have hm:mIf (mBl (zH ltA (zD 1) (zD 2))) (mC (.int 1)) (mC (.int 0)) [.v (.str w),.v (.int i),.v (.int j)]=some (.int (if i<j then 1 else 0)):=by
     show(some (decide (i<j))).bind _=_
     by_cases hq:i<j<;>simp[hq,mC]
    have d1:decide (w=[43])=false:=decide_eq_false h1
    have d2:decide (w=[45])=false:=decide_eq_false h2
    have d3:decide (w=[42])=false:=decide_eq_false h3
    rw[if_neg h1,if_neg h2,if_neg h3]
    simp only[yM,sIf,e,d1,d2,d3,Option.bind_some,if_false,Bool.false_eq_true,xW,qC,hm]
    rfl
theorem bP(st:Mst)(ds:List D)(p:D×Mst)(hl:ds.length=3)(h:yB st ds=some p):mkU 3 4 xY st ds=some p:=by
 unfold yB at h
 split at h
 ·rename_i w x y m b i j
  split at h
  case isFalse=>cases h
  rename_i hs
  obtain⟨as,hw⟩:=o9 w i j hs.1 hs.2
  show(xY st [.un,.v (.tup [.str w,x,y,m]),.v b,.v (.lst [.int i,.int j])]).bind _=_
  have e1:qW (mBl (zH eqA (z6 1 xC (zC (zH ixD (zD 3) (mC (.int 0))) zR)) (mC (.str [110,117,109])))) (mBl (zH eqA (z6 1 xC (zC (zH ixD (zD 3) (mC (.int 1))) zR)) (mC (.str [110,117,109])))) [.un,.v (.tup [.str w,x,y,m]),.v b,.v (.lst [.int i,.int j])]=some true:=rfl
  have e2:z6 3 jS (zC (zH ixD (zD 1) (mC (.int 0))) (zC (zH ixD (zD 3) (mC (.int 0))) (zC (zH ixD (zD 3) (mC (.int 1))) zR))) [.un,.v (.tup [.str w,x,y,m]),.v b,.v (.lst [.int i,.int j])]=some (.int (wk w i j)):=by
   show(jS [.v (.str w),.v (.int i),.v (.int j)]).map _=_
   rw[hw];rfl
  have hb:=pK h
  unfold xY uIf
  simp only[uY,e1,e2,Option.map_some,Option.bind_some,uDo,wL,zS,xT,y0,List.length_cons,List.length_nil,if_true]
  rw[h];subst hb;rfl
 ·cases h
theorem wC(T:Txt K mg w.params):FnOk P w K mg base CX0 2 T.d_of_working.a T.d_of_working.d ["plain", "expression", "bound", "parts"] (spM K T.C 3 yB):=by
 refine xV (QP (k:=1) T.d_of_working.F vX 3 4 rfl rfl (g:=xY) (fun cdv A outer s H E hr=>?_)) bP
 unfold xY
 exact(by refine xH ?_;exact(n8 (bD (zGV (gI (yS (wJ hr.units0) wK (z4 (xN T) (hr.mono (by decide)) (by rfl) T.d_sort_of.m T.d_sort_of.F.kp T.d_sort_of.b (zB (z5 (zA 3 (pv 3)) zE) zM (hs:=wA))) (yL (s:=[110,117,109]) (by rfl)) (yG _)) (gH (yS (wJ hr.units0) wK (z4 (xN T) (hr.mono (by decide)) (by rfl) T.d_sort_of.m T.d_sort_of.F.kp T.d_sort_of.b (zB (z5 (zA 3 (pv 3)) zE) zM (hs:=wA))) (yL (s:=[110,117,109]) (by rfl)) (yG _)))))) (by refine xH ?_;exact(vC (qE (pv 0) T.cl T.h_tell (fun _ _ _ _ _ _=>rfl) (ZE T) (hr.mono (by omega)) T.m_tell.b (yI (xE (z4 (p9 T) (hr.mono (by decide)) (by rfl) T.d_worked.m T.d_worked.F.kp T.d_worked.b (by refine zB (z5 (zA 1 (pv 1)) zE) ?_ (hs:=wA);refine zB (z5 (zA 3 (pv 3)) zE) ?_ (hs:=wA);refine zB (z5 (zA 3 (pv 3)) zE) ?_ (hs:=wA);exact zM))) qO)))) cD))
theorem Y7:FnScope ["self", "expression", "bound", "parts"] ["self", "expression", "bound", "parts"] (zL (uX 16 1)):=⟨rfl,rfl,rfl,by decide +kernel,rfl,by decide +kernel,by decide +kernel⟩
noncomputable def u0:MEs:=(uDo (zC0 3 ways (zH ixD (zD 1) (mC (.int 0))) (Q4 (zC (zD 1) (zC (zD 2) (zC (zD 3) zR))))))
theorem QY(st:Mst)(ds:List D)(p:D×Mst)(hl:ds.length=3)(h:wE st ds=some p):mkU 3 4 u0 st ds=some p:=by
 unfold wE at h
 split at h
 ·rename_i w r b ps
  obtain⟨mm,e1,h⟩:=bind_some h
  have e2:zH ixD (zD 1) (mC (.int 0)) [.un,.v (.tup (.str w::r)),.v b,.v ps]=some (.str w):=by
   show atI (.str w::r) 0=_
   exact zJE
  have e3:zC (zD 1) (zC (zD 2) (zC (zD 3) zR)) [.un,.v (.tup (.str w::r)),.v b,.v ps]=some [.tup (.str w::r),b,ps]:=rfl
  show(u0 st [.un,.v (.tup (.str w::r)),.v b,.v ps]).bind _=_
  unfold u0 uDo zC0
  rw[e2,Option.bind_some]
  dsimp only
  rw[e1,Option.bind_some]
  simp only[Q4,e3,Option.map_some,Option.bind_some,List.length_cons,List.length_nil,if_true]
  obtain⟨q,h1,rfl⟩:=map_some h
  rw[h1];rfl
 ·cases h
theorem X1(T:Txt K mg w.params):FnOk P w K mg base CX0 3 T.m_go_on.a T.m_go_on.d ["self", "expression", "bound", "parts"] (spM K T.C 3 wE):=by
 refine xV (QP (k:=2) T.m_go_on.F Y7 3 4 rfl rfl (g:=u0) (fun cdv A outer s H E hr=>?_)) QY
 unfold u0
 exact(by refine xH ?_;exact(vC (zA0 (k:=2) (n:=3) (ways:=ways) T.ways (by rfl) (z5 (zA 1 (pv 1)) zE) (pv 0) (zA8 (zB (zA 1 (pv 1)) (zB (zA 2 (pv 2)) (zB (zA 3 (pv 3)) zM)))) (fun key mm e=>by
  unfold ways at e
  split at e
  ·rename_i hk;subst hk;cases e;exact⟨_,_,_,T.w_110_3,rC T,T.d_of_num.b,T.d_of_num.F.kp⟩
  split at e
  ·rename_i hk;subst hk;cases e;exact⟨_,_,_,T.w_110_4,mM T,T.d_of_name.b,T.d_of_name.F.kp⟩
  split at e
  ·rename_i hk;subst hk;cases e;exact⟨_,_,_,T.w_105_2,X0 T,T.d_of_if.b,T.d_of_if.F.kp⟩
  split at e
  ·rename_i hk
   cases e
   rcases hk with rfl|rfl|rfl|rfl
   ·exact⟨_,_,_,T.w_43_1,wC T,T.d_of_working.b,T.d_of_working.F.kp⟩
   ·exact⟨_,_,_,T.w_45_1,wC T,T.d_of_working.b,T.d_of_working.F.kp⟩
   ·exact⟨_,_,_,T.w_42_1,wC T,T.d_of_working.b,T.d_of_working.F.kp⟩
   ·exact⟨_,_,_,T.w_60_1,wC T,T.d_of_working.b,T.d_of_working.F.kp⟩
  ·cases e) hr)))
theorem sc_run_on:FnScope ["self", "task"] ["self"] (zL (uX 8 4)):=⟨rfl,rfl,rfl,by decide +kernel,rfl,by decide +kernel,by decide +kernel⟩
noncomputable def kF:MEs:=(vR WF (zG0 Q0 (zDP (YW fun st=>st.ended))) (oY (zGM 0 1 Q5) (uIf (uY (dZ (zH ixD (zD 1) (mC (.int 2))))) (uDo (wL 3 wE (zS (y0 (zH ixD (zD 1) (mC (.int 0)))) (zS (y0 (zH ixD (zD 1) (mC (.int 1)))) (zS (wL 1 yA (zS (y0 (zH ixD (zD 1) (mC (.int 0)))) xT)) xT))))) (uDo (wL 2 zW (zS (y0 (zH ixD (zD 1) (mC (.int 0)))) (zS (y0 (zH ixD (zD 1) (mC (.int 1)))) xT)))))))
noncomputable def QG:MEs:=(oY (zGM 0 1 Q5) (uIf (uY (dZ (zH ixD (zD 1) (mC (.int 2))))) (uDo (wL 3 wE (zS (y0 (zH ixD (zD 1) (mC (.int 0)))) (zS (y0 (zH ixD (zD 1) (mC (.int 1)))) (zS (wL 1 yA (zS (y0 (zH ixD (zD 1) (mC (.int 0)))) xT)) xT))))) (uDo (wL 2 zW (zS (y0 (zH ixD (zD 1) (mC (.int 0)))) (zS (y0 (zH ixD (zD 1) (mC (.int 1)))) xT))))))
theorem W0{st s:Mst}{x:Sl}(hx:x=.un\/∃d,x=.v d)(h:cT st=some s):∃d,QG st [.un,x]=some (.nx s [.un,.v d]):=by
 unfold cT at h
 have hset:∀d,yW 1 d [.un,x]=some [.un,.v d]:=fun d=>by rcases hx with rfl|⟨d',rfl⟩<;>rfl
 have pop:∀d,st.wait.getLast?=some d->zGM 0 1 Q5 st [.un,x]=some (.nx { st with wait:=st.wait.dropLast } [.un,.v d]):=fun d e=>by
  unfold zGM Q5
  rw[e]
  show(if 1=0 then none else (yW 1 d [.un,x]).map fun r'=>MFl.nx { st with wait:=st.wait.dropLast } r')=_
  rw[if_neg (by decide),hset];rfl
 split at h
 ·rename_i e b hl
  refine⟨.tup [e,b,.bl true],?_⟩
  obtain⟨p,h1,h⟩:=bind_some h
  obtain⟨q,h2,rfl⟩:=map_some h
  have e0:zH ixD (zD 1) (mC (.int 0)) [.un,.v (.tup [e,b,.bl true])]=some e:=rfl
  have e1:zH ixD (zD 1) (mC (.int 1)) [.un,.v (.tup [e,b,.bl true])]=some b:=rfl
  have e2:dZ (zH ixD (zD 1) (mC (.int 2))) [.un,.v (.tup [e,b,.bl true])]=some true:=rfl
  unfold QG oY
  rw[pop _ hl,Option.bind_some]
  dsimp only
  unfold uIf
  simp only[uY,e2,Option.map_some,Option.bind_some,if_true]
  unfold uDo wL
  simp only[zS,xT,y0,e0,e1,Option.map_some,Option.bind_some,List.length_cons,List.length_nil,if_true]
  rw[h1]
  simp only[Option.map_some,Option.bind_some,List.length_cons,List.length_nil,if_true]
  rw[h2];rfl
 ·rename_i e b hl
  refine⟨.tup [e,b,.bl false],?_⟩
  obtain⟨q,h2,rfl⟩:=map_some h
  have e0:zH ixD (zD 1) (mC (.int 0)) [.un,.v (.tup [e,b,.bl false])]=some e:=rfl
  have e1:zH ixD (zD 1) (mC (.int 1)) [.un,.v (.tup [e,b,.bl false])]=some b:=rfl
  have e2:dZ (zH ixD (zD 1) (mC (.int 2))) [.un,.v (.tup [e,b,.bl false])]=some false:=rfl
  unfold QG oY
  rw[pop _ hl,Option.bind_some]
  dsimp only
  unfold uIf
  simp only[uY,e2,Option.map_some,Option.bind_some,if_false,Bool.false_eq_true]
  unfold uDo wL
  simp only[zS,xT,y0,e0,e1,Option.map_some,Option.bind_some,List.length_cons,List.length_nil,if_true]
  rw[h2];rfl
 ·cases h
theorem pB:∀(n:Nat) (st s:Mst) (x:Sl),(x=.un\/∃d,x=.v d)->dC n st=some s->∃x',vR n (zG0 Q0 (zDP (YW fun st=>st.ended))) QG st [.un,x]=some (.nx s [.un,x']):=by
 intro n
 induction n with
 |zero=>intro st s x _ h;cases h
 |succ n ih=>
  intro st s x hx h
  have h:(if st.wait.isEmpty=false/\nonB st.ended=true then (cT st).bind (dC n) else some st)=some s:=h
  have ht:zG0 Q0 (zDP (YW fun st=>st.ended)) st [.un,x]=some (!st.wait.isEmpty && nonB st.ended,st):=by
   show(if (!st.wait.isEmpty)=true then some (nonB st.ended,st) else some (false,st))=_
   cases st.wait.isEmpty<;>simp
  unfold vR
  rw[ht,Option.bind_some]
  by_cases hc:st.wait.isEmpty=false/\nonB st.ended=true
  ·rw[if_pos hc] at h
   obtain⟨st1,h1,h2⟩:=bind_some h
   obtain⟨d,hb⟩:=W0 hx h1
   obtain⟨x',hx'⟩:=ih st1 s (.v d) (.inr ⟨d,rfl⟩) h2
   refine⟨x',?_⟩
   rw[if_pos (by simp[hc.1,hc.2]),hb,Option.bind_some]
   exact hx'
  ·rw[if_neg hc] at h
   cases h
   refine⟨x,?_⟩
   rw[if_neg (by simpa using hc)]
theorem YS(st:Mst)(ds:List D)(p:D×Mst)(hl:ds.length=0)(h:wY st ds=some p):mkU 0 2 kF st ds=some p:=by
 match ds,hl with
 |[],_=>
  obtain⟨s,h1,rfl⟩:=map_some (show(dC WF st).map (fun s=>(D.non,s))=some p from h)
  obtain⟨x',hx'⟩:=pB WF st s .un (.inl rfl) h1
  show(kF st [.un,.un]).bind _=_
  have e:kF=vR WF (zG0 Q0 (zDP (YW fun st=>st.ended))) QG:=rfl
  rw[e,hx'];rfl
theorem rA(T:Txt K mg w.params):FnOk P w K mg base CX0 4 T.m_run_on.a T.m_run_on.d ["self"] (spM K T.C 0 wY):=by
 refine xV (QP (k:=3) T.m_run_on.F sc_run_on 0 2 rfl rfl (g:=kF) (fun cdv A outer s H E hr=>?_)) YS
 unfold kF
 exact(by refine xH ?_;exact(X9 WF PassesOwn.never (zEX (zAT (pv 0) T.cl T.n_waiting) (zAV (uE (pv 0) T.cl T.n_ended uJ))) (by refine jL ?_ ?_;exact(zEY 1 (zA3 (pv 0) T.cl T.n_waiting) sc_run_on.nd);exact(by refine xH ?_;exact(n8 (bD (gJ (z5 (zA 1 (pv 1)) zE))) (by refine xH ?_;exact(vC (qE (pv 0) T.cl T.h_go_on (fun _ _ _ _ _ _=>rfl) (X1 T) (hr.mono (by omega)) T.m_go_on.b (yI (xE (z5 (zA 1 (pv 1)) zE)) (yI (xE (z5 (zA 1 (pv 1)) zE)) (yI (qE (pv 0) T.cl T.h_parts_come (fun _ _ _ _ _ _=>rfl) (v9 T) (hr.mono (by omega)) T.m_parts_come.b (yI (xE (z5 (zA 1 (pv 1)) zE)) qO)) qO)))))) (by refine xH ?_;exact(vC (qE (pv 0) T.cl T.h_begin_parts (fun _ _ _ _ _ _=>rfl) (kT T) (hr.mono (by omega)) T.m_begin_parts.b (yI (xE (z5 (zA 1 (pv 1)) zE)) (yI (xE (z5 (zA 1 (pv 1)) zE)) qO))))))))))
theorem Y3:FnScope ["self", "most"] ["self", "most"] (zL (uX 8 0)):=⟨rfl,rfl,rfl,by decide +kernel,rfl,by decide +kernel,by decide +kernel⟩
theorem XY(T:Txt K mg w.params):FnOk P w K mg base CX0 1 T.m_rinit.a T.m_rinit.d ["self", "most"] (zIG K T.C):=by
 refine Fun.ok (k:=0) T.m_rinit.F Y3 (fun vs H Q E h=>?_) (fun cdv A outer s H vs Q E hr h=>⟨_,wW (bT (pv 0) (pv 1) rfl) (wW (bT (pv 0) mI rfl) (wW (bT (pv 0) (XS xA) rfl) (wW (bT (pv 0) (XS xA) rfl) (dF (bT (pv 0) J6 rfl))))),XD rfl T.cl T.n_most T.n_steps T.n_waiting T.n_come T.n_ended h⟩)
 obtain⟨x,dx,m,rfl,_⟩:=h;rfl
theorem Y4:FnScope ["self", "program", "most"] ["self", "program", "most"] (zL (uX 16 0)):=⟨rfl,rfl,rfl,by decide +kernel,rfl,by decide +kernel,by decide +kernel⟩
theorem XZ(T:Txt K mg w.params):FnOk P w K mg base CX0 44 T.m_pinit.a T.m_pinit.d ["self", "program", "most"] (zIH K T.C dd):=by
 refine Fun.ok (k:=43) T.m_pinit.F Y4 (fun vs H Q E h=>?_) (fun cdv A outer s H vs Q E hr h=>⟨_,wW (nU (XV (dvs:=[]) (E:=E0) T.cm (XY T) (hr.mono (by omega)) (by rfl) T.mB T.m_rinit.b .nil dH (zZ (pv 0) (zZ (pv 2) xA)))) (dF (bT (tv:=lE K ddE) (pv 0) (show DE _ _ ddE by unfold ddE;exact(zDF (WQ rfl (by rfl) T.z_dict (by refine zGH ?_;exact(bN (N':=["name", "E"]) (cap:=[]) rfl uO (uK (zA 1 (pv 1))) (fun _ _ _ _=>(WV rfl (w6 (yY 0 (show(["name", "E"]:List Str).Nodup by decide +kernel)) (w6 (yY 1 (show(["name", "E"]:List Str).Nodup by decide +kernel)) oP)))) (fun _ _ _ _=>by exact(by refine xI ?_;exact(by refine zB ?_ ?_;exact(zA 0 (pv 0));refine zB ?_ ?_;exact(z4 (dN RF T) (hr.mono (by decide)) (by rfl) T.d_marked.m T.d_marked.F.kp T.d_marked.b (by refine zB ?_ ?_;exact(zA 1 (pv 1));refine zB ?_ ?_;exact(zA 0 (pv 0));refine zB ?_ ?_;exact zE;exact zM));exact zM))) 2))))) rfl)),XM rfl T.cl T.n_defs (fun pd d e m=>e) h⟩)
 obtain⟨O,x,dx,pd,pv,m,d,rfl,_⟩:=h;rfl
theorem sc_run:FnScope ["program", "most", "plain"] ["program", "most"] (zL (top 14)):=⟨rfl,rfl,rfl,by decide +kernel,rfl,by decide +kernel,by decide +kernel⟩
noncomputable def W3:MEs:=(oY (uDo (wL 2 yN (zS (pE (mC (.str [109,97,105,110]))) (zS (y0 (zC9 mD0)) xT)))) (oY (uDo (hJ wY)) (oY (uIf (zDP (YW fun st=>st.ended)) (QN (zG1 (zS (y0 (mC (.str [118,97,108,117,101]))) (zS (YW fun st=>.int st.steps) (zS (Q6 1 tQ (zS zFP xT)) xT))))) pD) (QN (zG1 (zS (uIx (YW fun st=>st.ended) (mC (.int 0))) (zS (YW fun st=>.int st.steps) (zS (uIx (YW fun st=>st.ended) (mC (.int 1))) xT))))))))
noncomputable def QD:MS:=zHB 2 (zD 0) (zD 1) dd W3
theorem X3{l:List D}:nonB (.tup l)=false:=rfl
theorem zGX(as:List Sl)(p:Rs×List Sl)(hl:as.length=2)(h:uV as=some p):mkF 2 3 QD as=some p:=by
 unfold uV at h
 split at h
 ·rename_i pd m
  obtain⟨d,e1,h⟩:=bind_some h
  obtain⟨x,e2,rfl⟩:=map_some h
  unfold zHC at e2
  split at e2
  case h_2=>cases e2
  rename_i ks l
  obtain⟨e,e3,h⟩:=bind_some e2
  obtain⟨s,e4,e5⟩:=bind_some h
  show(QD [.v pd,.v (.int m),.un]).bind _=_
  obtain⟨s',key⟩:∃s',W3 ⟨m,0,[],[],.non,.dct ks l⟩ [.v pd,.v (.int m),.un]=some (.rt x s' [.v pd,.v (.int m),.un]):=by
   have b1:uDo (wL 2 yN (zS (pE (mC (.str [109,97,105,110]))) (zS (y0 (zC9 mD0)) xT))) ⟨m,0,[],[],.non,.dct ks l⟩ [.v pd,.v (.int m),.un]=some (.nx ⟨m,0,[.tup [e,.dct [] [],.bl false]],[],.non,.dct ks l⟩ [.v pd,.v (.int m),.un]):=by
    have d1:pE (mC (.str [109,97,105,110])) ⟨m,0,[],[],.non,.dct ks l⟩ [.v pd,.v (.int m),.un]=some (e,⟨m,0,[],[],.non,.dct ks l⟩):=by
     show(qI ks l (.inr ⟨([109,97,105,110]:List Nat).toArray⟩)).map _=_
     rw[e3];rfl
    unfold uDo wL
    simp only[zS,xT,d1,y0,zC9,mD0,Option.map_some,Option.bind_some,List.length_cons,List.length_nil,if_true]
    rfl
   have b2:uDo (hJ wY) ⟨m,0,[.tup [e,.dct [] [],.bl false]],[],.non,.dct ks l⟩ [.v pd,.v (.int m),.un]=some (.nx s [.v pd,.v (.int m),.un]):=by
    unfold uDo hJ
    show((dC WF _).map _).map _=_
    rw[e4];rfl
   unfold W3 oY
   rw[b1,Option.bind_some]
   dsimp only
   rw[b2,Option.bind_some]
   dsimp only
   unfold zH4 at e5
   split at e5
   ·rename_i he
    obtain⟨v,f1,e5⟩:=bind_some e5
    obtain⟨⟨q,as'⟩,f2,e5⟩:=bind_some e5
    cases q<;>first|(cases e5;done)|skip
    cases e5
    unfold uIf
    simp only[zDP,YW,he,nonB,Option.map_some,Option.bind_some,if_true]
    unfold QN
    simp only[zG1,zS,xT,y0,mC,YW,Q6,zFP,f1,Option.map_some,Option.bind_some,List.length_cons,List.length_nil,List.map_cons,List.map_nil,f2,if_true]
    rw[if_pos sz3]
    exact⟨_,rfl⟩
   ·rename_i a b he
    cases e5
    unfold uIf
    simp only[zDP,YW,he,X3,Option.map_some,Option.bind_some,Bool.false_eq_true,if_false,pD]
    unfold QN
    have i0:ixD (.tup [a,b]) (.int 0)=some a:=rfl
    have i1:ixD (.tup [a,b]) (.int 1)=some b:=rfl
    simp only[zG1,zS,xT,uIx,mC,YW,he,i0,i1,Option.map_some,Option.bind_some,List.length_cons,List.length_nil]
    rw[if_pos sz3]
    exact⟨_,rfl⟩
   ·cases e5
  unfold QD zHB
  rw[if_pos ⟨rfl,rfl⟩]
  have v0:zD 0 [.v pd,.v (.int m),.un]=some pd:=rfl
  have v1:zD 1 [.v pd,.v (.int m),.un]=some (.int m):=rfl
  simp only[v0,v1,Option.bind_some,e1,key]
  rfl
 ·cases h
theorem XX(T:Txt K mg w.params):Ok P w base T.d_run 46 2 uV:=by
 refine Y1 (mY (k:=45) T.d_run.F sc_run 2 3 rfl rfl (g:=QD) (fun cdv A outer s H E hr=>?_)) zGX
 unfold QD
 exact(zFK 2 T.mkC (XZ T) (hr.mono (by omega)) (by rfl) T.mC T.m_pinit.b (zA 0 (pv 0)) (zA 1 (pv 1)) (show QM _ _ 2 _ W3 by unfold W3;exact(by refine jL ?_ ?_;exact(vC (qE (pv 2) T.cl T.h_begin (fun _ _ _ _ _ _=>rfl) (kJ T) (hr.mono (by omega)) T.m_begin.b (yI (ZH (un1 hr) (pv 2) T.cl T.n_defs yL) (yI (xE (zDF zBV)) qO))));exact(by refine jL ?_ ?_;exact(vC (n9 (pv 2) T.cl T.h_run_on (fun _ _ _ _ _ _=>rfl) (rA T) (hr.mono (by omega)) T.m_run_on.b));exact(by refine jL ?_ ?_;exact(n8 (zAV (uE (pv 2) T.cl T.n_ended uJ)) (by refine xH ?_;exact(mQ (zA1 (yI (xE yL) (yI (uE (pv 2) T.cl T.n_steps cF) (yI (WB (zAI T) (hr.mono (by omega)) (by rfl) T.d_told.m T.d_told.F.kp T.d_told.b (yI (zA4 (pv 2) T.cl T.n_come) qO)) qO)))))) WA);exact(by refine xH ?_;exact(mQ (zA1 (yI (zF7 (uE (pv 2) T.cl T.n_ended uJ) zE) (yI (uE (pv 2) T.cl T.n_steps cF) (yI (zF7 (uE (pv 2) T.cl T.n_ended uJ) zE) qO)))))))))) sc_run.nd)
theorem sc_law:FnScope ["_law_script", "_law_first", "_law_cells", "_law_many", "_law_names_here", "_law_program", "_law_total", "_law_k", "_law_pile", "_law_j", "_law_told", "_law_number", "_law_deep", "_law_name", "_law_kept", "_law_found"] ["_law_script"] (zL (top 49)):=⟨rfl,rfl,rfl,by decide +kernel,rfl,by decide +kernel,by decide +kernel⟩
theorem zET(T:Txt K mg w.params):Ok P w base T.d_law 47 1 oW:=by
 refine mY T.d_law.F sc_law 1 16 rfl rfl (g:=QE) (fun cdv A outer s H E hr=>?_)
 unfold QE
 exact(by refine zJ ?_ ?_;exact(yV 1 (z4 (yX T) (hr.mono (by decide)) (by rfl) T.d__law_mixed.m T.d__law_mixed.F.kp T.d__law_mixed.b (by refine zB (z4 (j5 T) (hr.mono (by decide)) (by rfl) T.d__law_cell.m T.d__law_cell.F.kp T.d__law_cell.b (by refine zB (zA 0 (pv 0)) ?_ (hs:=zQ);refine zB zE ?_ (hs:=yC);exact zM)) ?_ (hs:=vT);refine zB zE ?_ (hs:=yC);exact zM)) sc_law.nd);exact(by refine zJ ?_ ?_;exact(yV 2 (gO (zA 0 (pv 0)) (wU zE) (wU zE)) sc_law.nd);exact(by refine zJ ?_ ?_;exact(yV 3 (r8 (by rfl) (by rfl) T.z_max (by refine zB (zP yE yF zE (zP xP xQ (zA 1 (pv 1)) zE)) ?_ (hs:=vU);refine zB (zP yE yF zE (zP dM dO (r8 (by rfl) (by rfl) T.z_max (by refine zB zE ?_ (hs:=yC);refine zB (zP v8 uC (bZ (by rfl) T.z_len (zA 2 (pv 2))) zE) ?_ (hs:=vU);exact zM)) zE)) ?_ (hs:=vU);exact zM)) sc_law.nd);exact(by refine zJ ?_ ?_;exact(yV 4 (z4 (uA T) (hr.mono (by decide)) (by rfl) T.d__law_names.m T.d__law_names.F.kp T.d__law_names.b (by refine zB (z4 (yX T) (hr.mono (by decide)) (by rfl) T.d__law_mixed.m T.d__law_mixed.F.kp T.d__law_mixed.b (by refine zB (z4 (j5 T) (hr.mono (by decide)) (by rfl) T.d__law_cell.m T.d__law_cell.F.kp T.d__law_cell.b (by refine zB (zA 0 (pv 0)) ?_ (hs:=zQ);refine zB zE ?_ (hs:=yC);exact zM)) ?_ (hs:=vT);refine zB zE ?_ (hs:=yC);exact zM)) ?_ (hs:=vT);refine zB (zA 3 (pv 3)) ?_ (hs:=zQ);exact zM)) sc_law.nd);exact(by refine zJ ?_ ?_;exact(kX 5 (by refine xU ?_;exact zM) sc_law.nd);exact(by refine zJ ?_ ?_;exact(yV 6 zE sc_law.nd);exact(by refine zJ ?_ ?_;exact(gL PassesOwn.never rfl (oO (by rfl) T.z_range (zA 3 (pv 3))) (yY 7 sc_law.nd) (by refine zJ ?_ ?_;exact(yV 8 (by refine YF ?_;exact(by refine xU ?_;exact(zB (z4 (j4 T) (hr.mono (by decide)) (by rfl) T.d__law_leaf.m T.d__law_leaf.F.kp T.d__law_leaf.b (by refine zB (zA 1 (pv 1)) ?_ (hs:=zQ);refine zB (z4 (yX T) (hr.mono (by decide)) (by rfl) T.d__law_mixed.m T.d__law_mixed.F.kp T.d__law_mixed.b (by refine zB (zA 1 (pv 1)) ?_ (hs:=zQ);refine zB (zA 7 (pv 7)) ?_ (hs:=zQ);exact zM)) ?_ (hs:=vT);exact zM)) zM (hs:=vT)))) sc_law.nd);exact(by refine zJ ?_ ?_;exact(gL PassesOwn.never rfl (zCD (by rfl) T.z_range (zA 7 (pv 7)) (bZ (by rfl) T.z_len (zA 2 (pv 2))) (zA 3 (pv 3))) (yY 9 sc_law.nd) (by refine zT ?_;exact(yV 8 (z4 (uB T) (hr.mono (by decide)) (by rfl) T.d__law_grown.m T.d__law_grown.F.kp T.d__law_grown.b (by refine zB (zA 8 (pv 8)) ?_ (hs:=zQ);refine zB (z5 (zA 2 (pv 2)) (zA 9 (pv 9))) ?_ (hs:=wA);refine zB (zA 9 (pv 9)) ?_ (hs:=zQ);exact zM)) sc_law.nd)));exact(by refine zJ ?_ ?_;exact(zCB (z4 (kU T) (hr.mono (by decide)) (by rfl) T.d__law_folded.m T.d__law_folded.F.kp T.d__law_folded.b (by refine zB (zA 8 (pv 8)) ?_ (hs:=zQ);refine zB (zP yE yF (zA 1 (pv 1)) (zA 7 (pv 7))) ?_ (hs:=vU);exact zM)) (WV rfl (w6 (yY 10 sc_law.nd) (w6 (yY 11 sc_law.nd) (w6 (yY 12 sc_law.nd) oP)))));exact(by refine zT ?_;exact(qZ (yS (zAF (n:=400) (Q3 hr (by decide))) zAN (zA 7 (pv 7)) (zP v8 uC (zA 3 (pv 3)) zE) (yG _)) (by refine zJ ?_ ?_;exact(gL PassesOwn.never rfl (uK (gO (zA 4 (pv 4)) jA (wU (zA 7 (pv 7))))) (yY 13 sc_law.nd) (by refine zT ?_;exact(yV 10 (by refine xI ?_;exact(by refine zB (yL (s:=[43]) (by rfl)) ?_ (hs:=yC);refine zB (by refine xI ?_;exact(by refine zB (yL (s:=[110,97,109,101]) (by rfl)) ?_ (hs:=yC);refine zB (zA 13 (pv 13)) ?_ (hs:=zQ);exact zM)) ?_ (hs:=nI);refine zB (zA 10 (pv 10)) ?_ (hs:=zQ);exact zM)) sc_law.nd)));exact(by refine zJ ?_ ?_;exact(yV 6 (zP xP xQ (zP yE yF (zA 6 (pv 6)) (zA 11 (pv 11))) zE) sc_law.nd);exact(by refine zT ?_;exact(zB7 (jF 5 (pv 5) (by refine xI ?_;exact(by refine zB (yL (s:=[109,97,105,110]) (by rfl)) ?_ (hs:=yC);refine zB (zA 10 (pv 10)) ?_ (hs:=zQ);exact zM))))))) (by refine zJ ?_ ?_;exact(yV 6 (zP yE yF (zA 6 (pv 6)) (zA 11 (pv 11))) sc_law.nd);exact(by refine zT ?_;exact(zB7 (jF 5 (pv 5) (by refine xI ?_;exact(by refine zB (z5 (zA 4 (pv 4)) (zA 7 (pv 7))) ?_ (hs:=wA);refine zB (zA 10 (pv 10)) ?_ (hs:=zQ);exact zM))))))))))));exact(by refine zJ ?_ ?_;exact(yV 14 (YA hr rfl T.z_repr (uM 5 (pv 5))) sc_law.nd);exact(by refine zJ ?_ ?_;exact(yV 15 (cK (XX T) (hr.mono (by decide)) (by rfl) T.d_run.m T.d_run.F.kp T.d_run.b (pv 5) (zB zE zM (hs:=yC))) sc_law.nd);exact(by refine zJ ?_ ?_;exact(qZ (zGV (zGB (yS (zAD (n:=400) (Q3 hr (by decide))) zAL (zA 15 (pv 15)) (by refine xI ?_;exact(by refine zB (yL (s:=[118,97,108,117,101]) (by rfl)) ?_ (hs:=yC);refine zB (zP v8 uC (zA 3 (pv 3)) zE) ?_ (hs:=vU);refine zB (zA 6 (pv 6)) ?_ (hs:=zQ);exact zM)) (yG _)) (zGB (zB5 (gJ (z4 (jK T) (hr.mono (by decide)) (by rfl) T.d__law_whole.m T.d__law_whole.F.kp T.d__law_whole.b (zB (z5 (zA 15 (pv 15)) zE) zM (hs:=wA))))) (zFJ (zB5 (gJ (z4 (jK T) (hr.mono (by decide)) (by rfl) T.d__law_whole.m T.d__law_whole.F.kp T.d__law_whole.b (zB (z5 (zA 15 (pv 15)) zE) zM (hs:=wA))))))))) (by refine zT ?_;exact(by refine yP ?_;exact YG)) wG);exact(by refine zJ ?_ ?_;exact(qZ (zGV (gI (yS ZD ZF (zA 3 (pv 3)) zE (yG _)) (gH (yS (zAD (n:=400) (Q3 hr (by decide))) zAL (cK (XX T) (hr.mono (by decide)) (by rfl) T.d_run.m T.d_run.F.kp T.d_run.b (pv 5) (zB (zP v8 uC (zA 3 (pv 3)) zE) zM (hs:=vU))) (by refine xI ?_;exact(by refine zB (yL (s:=[116,105,114,101,100]) (by rfl)) ?_ (hs:=yC);refine zB (zP v8 uC (zA 3 (pv 3)) zE) ?_ (hs:=vU);refine zB zCH ?_ (hs:=yC);exact zM)) (yG _))))) (by refine zT ?_;exact(by refine yP ?_;exact YG)) wG);exact(by refine zT ?_;exact(by refine yP ?_;exact(zCM (tD (zAF (n:=400) (Q3 hr (by decide))) zAN (cK (XX T) (hr.mono (by decide)) (by rfl) T.d_run.m T.d_run.F.kp T.d_run.b (pv 5) (zB (zP v8 uC (zA 3 (pv 3)) zE) zM (hs:=vU))) (zA 15 (pv 15)) (yG _)) (zCG (tD (wJ hr.units0) wK (YA hr rfl T.z_repr (uM 5 (pv 5))) (zA 14 (pv 14)) (yG _)))))))))))))))))
end
theorem qN(c k:Int):∃n:Int,0<=n/\∃as,zU [.v (.int c),.v (.int k)]=some (.v (.int n),as):=by
 let n1:Int:=(c % 2147483647+16807*k+7) % 2147483629
 let n2:Int:=n1*n1 % 2147483587
 have h1:0<=n1/\n1<2147483629:=⟨Int.emod_nonneg _ (by decide),Int.emod_lt_of_pos _ (by decide)⟩
 have h2:0<=n2/\n2<2147483587:=⟨Int.emod_nonneg _ (by decide),Int.emod_lt_of_pos _ (by decide)⟩
 refine⟨n2*(n2+48271) % 2147483579 / 5,?_,?_⟩
 ·exact Int.ediv_nonneg (Int.emod_nonneg _ (by decide)) (by decide)
 ·refine jN (r':=[.v (.int c),.v (.int k),.v (.int n2)]) ?_
  show x3 [.v (.int c),.v (.int k),.un]=_
  unfold x3
  rw[yU (jI (d:=.int n1) (r2:=[.v (.int c),.v (.int k),.v (.int n1)]) (wD (wH (wH (wD rfl zN (by decide)) (rH zN rfl (by decide))) zN) zN (by decide)) (by rfl))]
  rw[yU (jI (d:=.int n2) (r2:=[.v (.int c),.v (.int k),.v (.int n2)]) (wD (rH rfl rfl (by lia)) zN (by decide)) (by rfl))]
  exact qM (gF (wD (rH rfl (wH rfl zN) (by lia)) zN (by decide)) zN (by decide))
theorem WX{α:Type}(a b:List α){k:Int}(hk:k=-(b.length:Int))(h0:0<b.length):uN (a++b) (some k) none=b/\uN (a++b) none (some k)=a:=by
 subst hk
 have e:∀d,HT.sIx (a++b).length d (some (-(b.length:Int)))=a.length:=fun d=>by
  show(if -(b.length:Int)<0 then (-(b.length:Int)+((a++b).length:Int)).toNat else _)=_
  rw[if_pos (by lia),List.length_append]
  lia
 constructor
 ·unfold uN
  rw[e,HT.sIx_none,List.drop_left,List.length_append,Nat.add_sub_cancel_left,List.take_length]
 ·unfold uN
  rw[e,HT.sIx_none,List.drop_zero,Nat.sub_zero,List.take_left]
theorem YN{α:Type}(a b:List α)(x:α){k:Int}(hk:k=-((b.length:Int)+1)):atI (a++x::b) k=some x:=by
 have e:ixN (a++x::b).length k=some a.length:=by
  unfold ixN
  rw[if_neg (by lia),if_pos (by simp;lia)]
  congr 1
  simp
  lia
 unfold atI
 rw[e]
 simp
theorem zCN{α:Type}(a b:α)(l:List α):uN (a::b::l) (some 2) none=l:=by
 unfold uN
 have e:HT.sIx (a::b::l).length 0 (some 2)=min 2 (a::b::l).length:=HT.sIx_nat _ 0 2
 rw[e,HT.sIx_none]
 simp
theorem ZT:∀l:List Int,rS (l.map D.int)=some l
 |[]=>rfl
 |i::l=>by simp[rS,ZT l]
theorem zCS{c1 c2:MB}{r:En}{a:Bool}(e1:c1 r=some a)(e2:a=true->∃b,c2 r=some b):∃b,qW c1 c2 r=some b/\(b=true->a=true/\c2 r=some true):=by
 cases a
 ·exact⟨false,by unfold qW;rw[e1];rfl,fun h=>by cases h⟩
 ·obtain⟨b,h⟩:=e2 rfl
  refine⟨b,by unfold qW;rw[e1,Option.bind_some,if_pos rfl,h],fun hb=>⟨rfl,by rw[h,hb]⟩⟩
theorem kH{α:Type}(l:List α)(k:Nat)(h:k<=l.length):∃a b,l=a++b/\b.length=k:=⟨l.take (l.length-k),l.drop (l.length-k),(List.take_append_drop _ _).symm,by rw[List.length_drop];lia⟩
inductive Ex where
 |num (n:Int)
 |two (w:List Nat) (a b:Ex)
 |iff (a b c:Ex)
 |nm (s:List Nat)
noncomputable def toD:Ex->D
 |.num n=>.tup [.str [110,117,109],.int n]
 |.two w a b=>.tup [.str w,toD a,toD b]
 |.iff a b c=>.tup [.str [105,102],toD a,toD b,toD c]
 |.nm s=>.tup [.str [110,97,109,101],.str s]
noncomputable def wd(w:List Nat):Prop:=w=[43]\/w=[45]\/w=[42]\/w=[60]
noncomputable def val:Ex->Int
 |.num n=>n
 |.two w a b=>wk w (val a) (val b)
 |.iff a b c=>if val a=0 then val c else val b
 |.nm _=>0
noncomputable def gd:Ex->Prop
 |.num n=>small n
 |.two w a b=>wd w/\gd a/\gd b
 |.iff a b c=>gd a/\gd b/\gd c
 |.nm _=>False
noncomputable def lv:Ex->Nat
 |.num _=>1
 |.two _ a b=>lv a+lv b
 |.iff a b c=>lv a+lv b+lv c
 |.nm _=>1
noncomputable def dp:Ex->Nat
 |.num _=>0
 |.two _ a b=>max (dp a) (dp b)+1
 |.iff a b c=>max (max (dp a) (dp b)) (dp c)+1
 |.nm _=>0
theorem WI:∀e,1<=lv e
 |.num _=>Nat.le_refl 1
 |.two _ a b=>Nat.le_trans (WI a) (Nat.le_add_right ..)
 |.iff a b c=>Nat.le_trans (WI a) (Nat.le_trans (Nat.le_add_right ..) (Nat.le_add_right ..))
 |.nm _=>Nat.le_refl 1
theorem Z4:∀e,dp e+1<=lv e
 |.num _=>Nat.le_refl 1
 |.two _ a b=>by have:=Z4 a;have:=Z4 b;unfold dp lv;lia
 |.iff a b c=>by have:=Z4 a;have:=Z4 b;have:=Z4 c;unfold dp lv;lia
 |.nm _=>Nat.le_refl 1
theorem nA(w:List Nat)(i j:Int):small (wk w i j):=by
 have h:∀x:Int,small (x % 1000000):=fun x=>⟨Int.emod_nonneg _ (by decide),Int.emod_lt_of_pos _ (by decide)⟩
 unfold wk
 split
 ·exact h _
 split
 ·exact h _
 split
 ·exact h _
 split
 ·exact⟨by decide,by decide⟩
 ·exact⟨by decide,by decide⟩
theorem x6:∀e,gd e->small (val e)
 |.num _,h=>h
 |.two w a b,_=>nA w _ _
 |.iff a b c,h=>by
  unfold val
  split
  ·exact x6 c h.2.2
  ·exact x6 b h.2.1
 |.nm _,h=>h.elim
noncomputable def itm(e:Ex):D:=.tup [toD e,.int (val e),.int (dp e)]
theorem ix0{f:ME}{r:En}{e:Ex}(h:f r=some (itm e)):zH ixD f (mC (.int 0)) r=some (toD e):=zY h zN (g0 _ _)
theorem ix1{f:ME}{r:En}{e:Ex}(h:f r=some (itm e)):zH ixD f (mC (.int 1)) r=some (.int (val e)):=zY h zN (xS (j:=1) rfl)
theorem ix2{f:ME}{r:En}{e:Ex}(h:f r=some (itm e)):zH ixD f (mC (.int 2)) r=some (.int (dp e)):=zY h zN (xS (j:=2) rfl)
theorem zFF{f:ME}{r:En}{w v:List Nat}(h:f r=some (.str w)):mBl (zH eqA f (mC (.str v))) r=some (decide (w=v)):=g9 (zY h zN rfl)
theorem oA{f g:ME}{r:En}{i j:Int}(h1:f r=some (.int i))(h2:g r=some (.int j)):zA9 (zC f (zC g zR)) r=some (.int (max i j)):=by
 unfold zA9
 rw[zG h1 (zG h2 zX)]
 show some (D.int (if j > i then j else i))=_
 congr 2
 split<;>lia
theorem Q8{w:List Nat}{a b:Ex}(hw:wd w)(ha:gd a)(hb:gd b):∃as,wR [.v (.str w),.v (itm a),.v (itm b)]=some (.v (itm (.two w a b)),as):=by
 have sa:=x6 a ha
 let T:D:=toD (.two w a b)
 let L:D:=.int (1+max (dp a:Int) (dp b))
 let R:En:=[.v (.str w),.v (itm a),.v (itm b),.v T,.v L]
 have el:L=.int (dp (.two w a b):Int):=congrArg D.int (show 1+max (dp a:Int) (dp b)=((max (dp a) (dp b)+1:Nat):Int) by lia)
 have fin:∀(f:ME) (i:Int),f R=some (.int i)->qC (wS (zC (zD 3) (zC f (zC (zD 4) zR)))) R=some (.rt (.tup [T,.int i,L]) R):=fun f i h=>qM (qJ (zG rfl (zG h (zG rfl zX))) (by show 3<=100;decide))
 have res:∀i:Int,i=wk w (val a) (val b)->D.tup [T,.int i,L]=itm (.two w a b):=fun i h=>by subst h;rw[el];rfl
 have start:∀z,(yM (sIf (mBl (zH eqA (zD 0) (mC (.str [43]))))
 (qC (wS (zC (zD 3) (zC (zH jM (zH qA (zH ixD (zD 1) (mC (.int 1))) (zH ixD (zD 2) (mC (.int 1)))) (mC (.int 1000000))) (zC (zD 4) zR)))))
 xW)
 (yM (sIf (mBl (zH eqA (zD 0) (mC (.str [45]))))
 (qC (wS (zC (zD 3) (zC (zH jM (zH oZ (zH ixD (zD 1) (mC (.int 1))) (zH ixD (zD 2) (mC (.int 1)))) (mC (.int 1000000))) (zC (zD 4) zR)))))
 xW)
 (yM (sIf (mBl (zH eqA (zD 0) (mC (.str [42]))))
 (qC (wS (zC (zD 3) (zC (zH jM (zH zAS (zH ixD (zD 1) (mC (.int 1))) (zH ixD (zD 2) (mC (.int 1)))) (mC (.int 1000000))) (zC (zD 4) zR)))))
 xW)
 (qC (wS (zC (zD 3) (zC (mUn rT (zH ltA (zH ixD (zD 1) (mC (.int 1))) (zH ixD (zD 2) (mC (.int 1))))) (zC (zD 4) zR)))))))) R=z->w8 [.v (.str w),.v (itm a),.v (itm b),.un,.un]=z:=fun z h=>by
  unfold w8
  refine yQ T (r2:=[.v (.str w),.v (itm a),.v (itm b),.v T,.un]) (qJ (zG rfl (zG (ix0 rfl) (zG (ix0 rfl) zX))) (by show 3<=100;decide)) (by rfl) ?_
  refine yQ L (r2:=R) (wH zN (oA (ix2 rfl) (ix2 rfl))) (by rfl) h
 have v1:zH ixD (zD 1) (mC (.int 1)) R=some (.int (val a)):=ix1 rfl
 have v2:zH ixD (zD 2) (mC (.int 1)) R=some (.int (val b)):=ix1 rfl
 have q:∀v,mBl (zH eqA (zD 0) (mC (.str v))) R=some (decide (w=v)):=fun v=>zFF rfl
 rcases hw with rfl|rfl|rfl|rfl
 ·rw[<-res ((val a+val b) % 1000000) (by rfl)]
  exact jN (r':=R) (start _ (cY (q _) (fin _ _ (wD (wH v1 v2) zN (by decide)))))
 ·rw[<-res ((val a-val b) % 1000000) (by rfl)]
  exact jN (r':=R) (start _ (qK (q _) (cY (q _) (fin _ _ (wD (zY v1 v2 rfl) zN (by decide))))))
 ·rw[<-res (val a*val b % 1000000) (by rfl)]
  exact jN (r':=R) (start _ (qK (q _) (qK (q _) (cY (q _) (fin _ _ (wD (rH v1 v2 (by unfold small at sa;lia)) zN (by decide)))))))
 ·rw[<-res (if val a<val b then 1 else 0) (by rfl)]
  refine jN (r':=R) (start _ (qK (q _) (qK (q _) (qK (q _) (fin _ _ (kY (zY v1 v2 (d:=.bl (decide (val a<val b))) rfl) ?_))))))
  by_cases c:val a<val b
  ·rw[decide_eq_true c,if_pos c];rfl
  ·rw[decide_eq_false c,if_neg c];rfl
theorem zJU{r:En}:zH zHI (mC (.int 10)) (mC (.int 6)) r=some (.int 1000000):=rfl
theorem ZQ(c n:Int):∃x:Int,small x/\∃as,xL [.v (.int c),.v (.int n)]=some (.v (itm (.num x)),as):=by
 have h:∀x:Int,small (x % 1000000):=fun x=>⟨Int.emod_nonneg _ (by decide),Int.emod_lt_of_pos _ (by decide)⟩
 have start:∀z,yM (sIf (mBl (zH eqA (zH jM (zD 1) (mC (.int 3))) (mC (.int 0)))) (qH 2 (zH ixD (jW (xF (zC (mC (.int 0)) (zC (mC (.int 0)) (zC (mC (.int 1)) (zC (mC (.int 2)) (zC (mC (.int 999999)) (zC (mC (.int 999998)) zR)))))))) (zH jM (zH oJ (zD 1) (mC (.int 3))) (mC (.int 6))))) xW) (qC (wS (zC (wS (zC (mC (.str [110,117,109])) (zC (zD 2) zR))) (zC (zD 2) (zC (mC (.int 0)) zR))))) [.v (.int c),.v (.int n),.v (.int ((c+n) % 1000000))]=z->wO [.v (.int c),.v (.int n),.un]=z:=fun z q=>by
  unfold wO
  exact yQ (.int ((c+n) % 1000000)) (r2:=[.v (.int c),.v (.int n),.v (.int ((c+n) % 1000000))]) (wD (wH rfl rfl) zJU (by decide)) (by rfl) q
 have fin:∀x:Int,(qC (wS (zC (wS (zC (mC (.str [110,117,109])) (zC (zD 2) zR))) (zC (zD 2) (zC (mC (.int 0)) zR))))) [.v (.int c),.v (.int n),.v (.int x)]=some (.rt (itm (.num x)) [.v (.int c),.v (.int n),.v (.int x)]):=fun x=>
  qM (qJ (zG (qJ (zG zN (zG rfl zX)) (by show 2<=100;decide)) (zG rfl (zG zN zX))) (by show 3<=100;decide))
 have t:mBl (zH eqA (zH jM (zD 1) (mC (.int 3))) (mC (.int 0))) [.v (.int c),.v (.int n),.v (.int ((c+n) % 1000000))]=some (decide (n % 3=0)):=g9 (zY (wD (i:=n) (j:=3) rfl zN (by decide)) zN rfl)
 by_cases hz:n % 3=0
 ·have h0:0<=n / 3 % 6:=Int.emod_nonneg _ (by decide)
  have h6:n / 3 % 6<6:=Int.emod_lt_of_pos _ (by decide)
  obtain⟨j,hj⟩:=Int.eq_ofNat_of_zero_le h0
  have hj6:j<6:=by lia
  have a:∀j:Nat,j<6->∃x:Int,small x/\([0,0,1,2,999999,999998]:List Int)[j]?=some x:=by
   intro j hj
   match j,hj with
   |0,_=>exact⟨_,by decide,rfl⟩
   |1,_=>exact⟨_,by decide,rfl⟩
   |2,_=>exact⟨_,by decide,rfl⟩
   |3,_=>exact⟨_,by decide,rfl⟩
   |4,_=>exact⟨_,by decide,rfl⟩
   |5,_=>exact⟨_,by decide,rfl⟩
  obtain⟨x,hx,ex⟩:=a j hj6
  refine⟨x,hx,jN (r':=[.v (.int c),.v (.int n),.v (.int x)]) (start _ ?_)⟩
  rw[yU (r':=[.v (.int c),.v (.int n),.v (.int x)]) ?_]
  ·exact fin x
  ·rw[decide_eq_true hz] at t
   rw[JK t]
   refine jI (d:=.int x) (zY (x:=.lst (([0,0,1,2,999999,999998]:List Int).map D.int)) (y:=.int (j:Int)) rfl ?_ ?_) (by rfl)
   ·exact hj ▸ wD (gF rfl zN (by decide)) zN (by decide)
   ·show atI (([0,0,1,2,999999,999998]:List Int).map D.int) (j:Int)=_
    refine xS ?_
    rw[List.getElem?_map,ex];rfl
 ·rw[decide_eq_false hz] at t
  exact⟨_,h (c+n),jN (start _ (qK t (fin _)))⟩
noncomputable def tl(es:List Ex):Nat:=(es.map lv).sum
theorem cR(a b:List Ex):tl (a++b)=tl a+tl b:=by simp[tl]
theorem YY:∀es:List Ex,es.length<=tl es
 |[]=>Nat.le_refl 0
 |e::es=>by have:=YY es;have:=WI e;show es.length+1<=lv e+(es.map lv).sum;unfold tl at *;lia
theorem YJ:∀(hs:List Ex) (x:Sl),fre x->jH (yW 0) dY (zH ixD (zD 0) (mC (.int 2))) (hs.map itm) [x]=some (hs.map fun f=>D.int (dp f))
 |[],x,_=>rfl
 |f::hs,x,hx=>by
  have ih:=YJ hs (.v (itm f)) trivial
  rw[List.map_cons,List.map_cons]
  have e1:yW 0 (itm f) [x]=some [.v (itm f)]:=yK (r:=[x]) rfl hx
  have e2:zH ixD (zD 0) (mC (.int 2)) [.v (itm f)]=some (.int (dp f)):=ix2 (e:=f) rfl
  have e3:dY [.v (itm f)]=some true:=rfl
  unfold jH
  rw[e1,Option.bind_some,e3,Option.bind_some,if_pos rfl,e2,Option.bind_some,ih];rfl
theorem cW{gs hs:List Ex}{k:Int}{r:En}(hv:zD 0 r=some (.lst ((gs++hs).map itm)))(hk : -k=-(hs.length:Int))(h0:0<hs.length):mSl (zD 0) (xR (mUn vN (mC (.int k)))) x5 r=some (.lst (hs.map itm))/\mSl (zD 0) x5 (xR (mUn vN (mC (.int k)))) r=some (.lst (gs.map itm)):=by
 have q:=WX (gs.map itm) (hs.map itm) (k:=-k) (by rw[List.length_map];exact hk) (by rw[List.length_map];exact h0)
 rw[<-List.map_append] at q
 constructor
 ·refine pO hv (wX (rF zN)) (by rfl) ?_
  show some (D.lst (uN _ _ _))=_
  rw[q.1]
 ·refine pO hv (by rfl) (wX (rF zN)) ?_
  show some (D.lst (uN _ _ _))=_
  rw[q.2]
theorem tF{gs hs:List Ex}{k:Int}{r:En}(hv:zD 0 r=some (.lst ((gs++hs).map itm)))(hk : -k=-(hs.length:Int))(h0:0<hs.length)(hl:hs.length<100):∃b,mBl (zH ltA (d4 (jO [] 1 (mIt (mSl (zD 0) (xR (mUn vN (mC (.int k)))) x5)) (yW 0) (zH ixD (zD 0) (mC (.int 2))))) (mC (.int 12))) r=some b:=by
 have sl:mIt (mSl (zD 0) (xR (mUn vN (mC (.int k)))) x5) r=some (hs.map itm):=by
  unfold mIt
  rw[(cW hv hk h0).1];rfl
 have cm:jO [] 1 (mIt (mSl (zD 0) (xR (mUn vN (mC (.int k)))) x5)) (yW 0) (zH ixD (zD 0) (mC (.int 2))) r=some ((hs.map fun f=>(dp f:Int)).map D.int):=by
  unfold jO qV
  rw[sl,Option.bind_some,if_pos (by rw[List.length_map];exact Nat.lt_of_lt_of_le hl (by decide))]
  show jH _ _ _ _ [.un]=_
  rw[YJ hs .un trivial,List.map_map];rfl
 obtain⟨f,t,rfl⟩:∃f t,hs=f::t:=by
  cases hs with
  |nil=>simp at h0
  |cons f t=>exact⟨f,t,rfl⟩
 have mx:d4 (jO [] 1 (mIt (mSl (zD 0) (xR (mUn vN (mC (.int k)))) x5)) (yW 0) (zH ixD (zD 0) (mC (.int 2)))) r=some (.int ((t.map fun f=>(dp f:Int)).foldl max (dp f:Int))):=by
  unfold d4
  rw[cm,Option.bind_some,ZT];rfl
 exact⟨_,g9 (zY mx zN rfl)⟩
theorem zA6{f g h:ME}{r:En}{i j k:Int}(h1:f r=some (.int i))(h2:g r=some (.int j))(h3:h r=some (.int k)):zA9 (zC f (zC g (zC h zR))) r=some (.int (max (max i j) k)):=by
 unfold zA9
 rw[zG h1 (zG h2 (zG h3 zX))]
 show some (D.int (if j > i then if k > j then k else j else if k > i then k else i))=_
 congr 2
 split<;>split<;>lia
theorem QV{r:En}{f:ME}{i:Int}(h:f r=some (.int i))(h0:0<=i)(h4:i<4):∃w,wd w/\zH ixD (jW (xF (zDA [[43],[45],[42],[60]]))) f r=some (.str w):=by
 obtain⟨j,rfl⟩:=Int.eq_ofNat_of_zero_le h0
 have hj:j<4:=by lia
 have a:∀j:Nat,j<4->∃w,wd w/\([[43],[45],[42],[60]]:List (List Nat))[j]?=some w:=by
  intro j hj
  match j,hj with
  |0,_=>exact⟨_,.inl rfl,rfl⟩
  |1,_=>exact⟨_,.inr (.inl rfl),rfl⟩
  |2,_=>exact⟨_,.inr (.inr (.inl rfl)),rfl⟩
  |3,_=>exact⟨_,.inr (.inr (.inr rfl)),rfl⟩
 obtain⟨w,hw,e⟩:=a j hj
 refine⟨w,hw,zY (x:=.lst (([[43],[45],[42],[60]]:List (List Nat)).map D.str)) rfl h ?_⟩
 refine xS ?_
 rw[List.getElem?_map,e];rfl
theorem YR{r:En}{f:ME}{i:Int}(h:f r=some (.int i))(h0:0<=i)(h4:i<5):∃w,wd w/\zH ixD (jW (xF (zDA [[43],[45],[42],[60],[43]]))) f r=some (.str w):=by
 obtain⟨j,rfl⟩:=Int.eq_ofNat_of_zero_le h0
 have hj:j<5:=by lia
 have a:∀j:Nat,j<5->∃w,wd w/\([[43],[45],[42],[60],[43]]:List (List Nat))[j]?=some w:=by
  intro j hj
  match j,hj with
  |0,_=>exact⟨_,.inl rfl,rfl⟩
  |1,_=>exact⟨_,.inr (.inl rfl),rfl⟩
  |2,_=>exact⟨_,.inr (.inr (.inl rfl)),rfl⟩
  |3,_=>exact⟨_,.inr (.inr (.inr rfl)),rfl⟩
  |4,_=>exact⟨_,.inl rfl,rfl⟩
 obtain⟨w,hw,e⟩:=a j hj
 refine⟨w,hw,zY (x:=.lst (([[43],[45],[42],[60],[43]]:List (List Nat)).map D.str)) rfl h ?_⟩
 refine xS ?_
 rw[List.getElem?_map,e];rfl
noncomputable def Gw(es:List Ex)(c k:Int):Prop:=∃es':List Ex,(∀e∈es',gd e)/\es'≠[]/\tl es'<=tl es+1/\∃as,wT [.v (.lst (es.map itm)),.v (.int c),.v (.int k)]=some (.v (.lst (es'.map itm)),as)
theorem WN{es:List Ex}(hg:∀e∈es,gd e)(hl:es.length<=1000)(c k:Int):Gw es c k:=by
 obtain⟨n,n0,hn⟩:=qN c k
 obtain⟨m,m0,hm⟩:=qN c (k+300)
 let P:D:=.lst (es.map itm)
 let R:En:=[.v P,.v (.int c),.v (.int k),.v (.int n),.v (.int (m % 5)),.un,.un,.un,.un]
 let G1:MS:=(yM (zC5 (mSl (zD 0) (xR (mUn vN (mC (.int 3)))) x5) (uS 3 (xJ (yW 5) (xJ (yW 6) (xJ (yW 7) b6))))) (yM (qH 8 (zH qA (mC (.int 1)) (zA9 (zC (zH ixD (zD 5) (mC (.int 2))) (zC (zH ixD (zD 6) (mC (.int 2))) (zC (zH ixD (zD 7) (mC (.int 2))) zR)))))) (qC (zH qA (mSl (zD 0) x5 (xR (mUn vN (mC (.int 3))))) (jW (xF (zC (wS (zC (wS (zC (mC (.str [105,102])) (zC (zH ixD (zD 5) (mC (.int 0))) (zC (zH ixD (zD 6) (mC (.int 0))) (zC (zH ixD (zD 7) (mC (.int 0))) zR))))) (zC (zH ixD (jW (xF (zC (zH ixD (zD 6) (mC (.int 1))) (zC (zH ixD (zD 7) (mC (.int 1))) zR)))) (mUn rT (zH eqA (zH ixD (zD 5) (mC (.int 1))) (mC (.int 0))))) (zC (zD 8) zR)))) zR)))))))
 let G2:MS:=(qC (zH qA (mSl (zD 0) x5 (xR (mUn vN (mC (.int 2))))) (jW (xF (zC (z6 3 wR (zC (zH ixD (jW (xF (zDA [[43],[45],[42],[60]]))) (zH jM (zD 3) (mC (.int 4)))) (zC (zH ixD (zD 0) (mUn vN (mC (.int 2)))) (zC (zH ixD (zD 0) (mUn vN (mC (.int 1)))) zR)))) zR)))))
 let G3:MS:=(qC (zH qA (zD 0) (jW (xF (zC (z6 2 xL (zC (zD 1) (zC (zD 3) zR))) zR)))))
 let C1:MB:=(qW (mBl (zH eqA (zD 4) (mC (.int 4)))) (qW (mBl (zH gtD (mUn vG (zD 0)) (mC (.int 2)))) (mBl (zH ltA (d4 (jO [] 1 (mIt (mSl (zD 0) (xR (mUn vN (mC (.int 3)))) x5)) (yW 0) (zH ixD (zD 0) (mC (.int 2))))) (mC (.int 12))))))
 let C2:MB:=(qW (mBl (zH gtD (zD 4) (mC (.int 1)))) (qW (mBl (zH gtD (mUn vG (zD 0)) (mC (.int 1)))) (mBl (zH ltA (d4 (jO [] 1 (mIt (mSl (zD 0) (xR (mUn vN (mC (.int 2)))) x5)) (yW 0) (zH ixD (zD 0) (mC (.int 2))))) (mC (.int 12))))))
 have start:∀z,yM (sIf C1 G1 xW) (yM (sIf C2 G2 xW) G3) R=z->x4 [.v P,.v (.int c),.v (.int k),.un,.un,.un,.un,.un,.un]=z:=fun z h=>by
  unfold x4
  refine yQ (.int n) (r2:=[.v P,.v (.int c),.v (.int k),.v (.int n),.un,.un,.un,.un,.un]) (yZ (p:=.v (.int n)) (zG rfl (zG rfl zX)) rfl hn) (by rfl) ?_
  exact yQ (.int (m % 5)) (r2:=R) (wD (yZ (p:=.v (.int m)) (zG rfl (zG (wH rfl zN) zX)) rfl hm) zN (by decide)) (by rfl) h
 have ln:mUn vG (zD 0) R=some (.int (es.length:Int)):=kY (x:=P) rfl (by show some (D.int ((es.map itm).length:Int))=_;rw[List.length_map])
 have cnd:∀(q:Nat) (c0:MB) (a:Bool),0<q->q<100->c0 R=some a->∃b,qW c0 (qW (mBl (zH gtD (mUn vG (zD 0)) (mC (.int ((q:Int)-1))))) (mBl (zH ltA (d4 (jO [] 1 (mIt (mSl (zD 0) (xR (mUn vN (mC (.int (q:Int))))) x5)) (yW 0) (zH ixD (zD 0) (mC (.int 2))))) (mC (.int 12))))) R=some b/\(b=true->q<=es.length):=fun q c0 a q0 q1 hc=>by
  have inner:∃b,qW (mBl (zH gtD (mUn vG (zD 0)) (mC (.int ((q:Int)-1))))) (mBl (zH ltA (d4 (jO [] 1 (mIt (mSl (zD 0) (xR (mUn vN (mC (.int (q:Int))))) x5)) (yW 0) (zH ixD (zD 0) (mC (.int 2))))) (mC (.int 12)))) R=some b/\(b=true->q<=es.length):=by
   by_cases h:q<=es.length
   ·obtain⟨gs,hs,e1,e2⟩:=kH es q h
    obtain⟨b,hb⟩:=tF (gs:=gs) (hs:=hs) (k:=q) (r:=R) (show zD 0 R=some (.lst ((gs++hs).map itm)) by rw[<-e1];rfl) (by rw[e2]) (by lia) (by lia)
    obtain⟨b',h3,_⟩:=zCS (c1:=mBl (zH gtD (mUn vG (zD 0)) (mC (.int ((q:Int)-1))))) (QC ln zN) (fun _=>⟨b,hb⟩)
    exact⟨b',h3,fun _=>h⟩
   ·refine⟨false,?_,fun h=>by cases h⟩
    unfold qW
    rw[QC ln zN,decide_eq_false (by lia)];rfl
  obtain⟨b,h1,h2⟩:=inner
  obtain⟨b',h3,h4⟩:=zCS (r:=R) hc (fun _=>⟨b,h1⟩)
  refine⟨b',h3,fun hb=>?_⟩
  have z:=(h4 hb).2
  rw[h1] at z
  exact h2 (by simpa using z)
 have gdq:∀(gs hs:List Ex) (q:Ex),es=gs++hs->gd q->∀x∈gs++[q],gd x:=fun gs hs q e hq x hx=>by
  simp only[List.mem_append,List.mem_singleton] at hx
  rcases hx with hx|rfl
  ·exact hg x (by rw[e];simp[hx])
  ·exact hq
 have fin:∀(gs hs:List Ex) (q:Ex) (f g:ME) (r:En),es=gs++hs->f r=some (.lst (gs.map itm))->g r=some (itm q)->zH qA f (jW (xF (zC g zR))) r=some (.lst ((gs++[q]).map itm)):=fun gs hs q f g r e h1 h2=>by
  rw[List.map_append]
  have:gs.length<=es.length:=by rw[e,List.length_append];lia
  exact zJA h1 (d6 (l:=[itm q]) (zG h2 zX) (by show 1<=100;decide)) (by simp;lia)
 obtain⟨b1,k1,p1⟩:∃b,C1 R=some b/\(b=true->3<=es.length):=cnd 3 _ (decide (m % 5=4)) (by decide) (by decide) (g9 (zY rfl zN rfl))
 obtain⟨b2,k2,p2⟩:∃b,C2 R=some b/\(b=true->2<=es.length):=cnd 2 _ (decide (1<m % 5)) (by decide) (by decide) (QC rfl zN)
 cases b1
 rotate_left
 ·obtain⟨gs,hs,e1,e2⟩:=kH es 3 (p1 rfl)
  obtain⟨a,b,d,rfl⟩:∃a b d,hs=[a,b,d]:=by
   match hs,e2 with
   |[a,b,d],_=>exact⟨a,b,d,rfl⟩
  let q:Ex:=.iff a b d
  have ga:gd q:=⟨hg a (by rw[e1];simp),hg b (by rw[e1];simp),hg d (by rw[e1];simp)⟩
  have sb:=cW (gs:=gs) (hs:=[a,b,d]) (k:=3) (r:=R) (by rw[<-e1];rfl) rfl (Nat.zero_lt_succ _)
  let R1:En:=[.v P,.v (.int c),.v (.int k),.v (.int n),.v (.int (m % 5)),.v (itm a),.v (itm b),.v (itm d),.un]
  let R2:En:=[.v P,.v (.int c),.v (.int k),.v (.int n),.v (.int (m % 5)),.v (itm a),.v (itm b),.v (itm d),.v (.int (1+max (max (dp a:Int) (dp b)) (dp d)))]
  have sb2:=cW (gs:=gs) (hs:=[a,b,d]) (k:=3) (r:=R2) (by rw[<-e1];rfl) rfl (Nat.zero_lt_succ _)
  have el:D.int (1+max (max (dp a:Int) (dp b)) (dp d))=.int (dp q:Int):=congrArg D.int (show 1+max (max (dp a:Int) (dp b)) (dp d)=((max (max (dp a) (dp b)) (dp d)+1:Nat):Int) by lia)
  have g1:G1 R=some (.rt (.lst ((gs++[q]).map itm)) R2):=by
   show yM _ _ R=_
   rw[yU (r':=R1) (by unfold zC5;rw[sb.1];rfl)]
   refine yQ (.int (1+max (max (dp a:Int) (dp b)) (dp d))) (r2:=R2) (wH zN (zA6 (ix2 rfl) (ix2 rfl) (ix2 rfl))) (by rfl) (qM (fin gs _ q _ _ _ e1 sb2.2 ?_))
   have v:zH ixD (jW (xF (zC (zH ixD (zD 6) (mC (.int 1))) (zC (zH ixD (zD 7) (mC (.int 1))) zR)))) (mUn rT (zH eqA (zH ixD (zD 5) (mC (.int 1))) (mC (.int 0)))) R2=some (.int (val q)):=by
    refine zY (x:=.lst [.int (val b),.int (val d)]) (y:=.int (if val a=0 then 1 else 0)) (d6 (zG (ix1 rfl) (zG (ix1 rfl) zX)) (by show 2<=100;decide)) ?_ ?_
    ·refine kY (x:=.bl (decide (val a=0))) (zY (ix1 (e:=a) rfl) zN rfl) ?_
     by_cases z:val a=0
     ·rw[decide_eq_true z,if_pos z];rfl
     ·rw[decide_eq_false z,if_neg z];rfl
    ·show _=some (D.int (if val a=0 then val d else val b))
     by_cases z:val a=0
     ·rw[if_pos z,if_pos z];exact xS (j:=1) rfl
     ·rw[if_neg z,if_neg z];exact g0 _ _
   refine(qJ (l:=[toD q,.int (val q),.int (1+max (max (dp a:Int) (dp b)) (dp d))]) (zG (qJ (zG zN (zG (ix0 (e:=a) rfl) (zG (ix0 (e:=b) rfl) (zG (ix0 (e:=d) rfl) zX)))) (by show 4<=100;decide)) (zG v (zG rfl zX))) (by show 3<=100;decide)).trans ?_
   rw[el];rfl
  refine⟨gs++[q],gdq gs _ q e1 ga,by simp,?_,jN (start _ (cY k1 g1))⟩
  rw[e1,cR,cR];simp only[tl,List.map_cons,List.map_nil,List.sum_cons,List.sum_nil];show _+(lv a+lv b+lv d+0)<=_;lia
 cases b2
 rotate_left
 ·obtain⟨gs,hs,e1,e2⟩:=kH es 2 (p2 rfl)
  obtain⟨a,b,rfl⟩:∃a b,hs=[a,b]:=by
   match hs,e2 with
   |[a,b],_=>exact⟨a,b,rfl⟩
  have sb:=cW (gs:=gs) (hs:=[a,b]) (k:=2) (r:=R) (by rw[<-e1];rfl) rfl (Nat.zero_lt_succ _)
  obtain⟨w,hw,ew⟩:=QV (r:=R) (f:=zH jM (zD 3) (mC (.int 4))) (i:=n % 4) (wD rfl zN (by decide)) (Int.emod_nonneg _ (by decide)) (Int.emod_lt_of_pos _ (by decide))
  have ga:=hg a (by rw[e1];simp)
  have gb:=hg b (by rw[e1];simp)
  let q:Ex:=.two w a b
  have i2:zH ixD (zD 0) (mUn vN (mC (.int 2))) R=some (itm a):=zY (x:=P) rfl (rF zN) (by
   show atI (es.map itm) (-2)=_
   rw[e1,List.map_append];exact YN (gs.map itm) [itm b] (itm a) rfl)
  have i1:zH ixD (zD 0) (mUn vN (mC (.int 1))) R=some (itm b):=zY (x:=P) rfl (rF zN) (by
   show atI (es.map itm) (-1)=_
   rw[e1,show gs++[a,b]=(gs++[a])++[b] by simp,List.map_append];exact YN ((gs++[a]).map itm) [] (itm b) rfl)
  refine⟨gs++[q],gdq gs _ q e1 ⟨hw,ga,gb⟩,by simp,?_,jN (start _ (qK k1 (cY k2 (qM (fin gs _ q _ _ _ e1 sb.2 (yZ (p:=.v (itm q)) (zG ew (zG i2 (zG i1 zX))) rfl (Q8 hw ga gb)))))))⟩
  rw[e1,cR,cR];simp only[tl,List.map_cons,List.map_nil,List.sum_cons,List.sum_nil];show _+(lv a+lv b+0)<=_;lia
 ·obtain⟨x,hx,e⟩:=ZQ c n
  refine⟨es++[.num x],gdq es [] (.num x) (by simp) hx,by simp,?_,jN (start _ (qK k1 (qK k2 (qM (fin es [] (.num x) _ _ _ (by simp) rfl (yZ (p:=.v (itm (.num x))) (zG rfl (zG rfl zX)) rfl e))))))⟩
  rw[cR];exact Nat.le_refl _
noncomputable def zDJ:MS:=(yM (qH 3 (zH ixD (jW (xF (zDA [[43],[45],[42],[60],[43]]))) (zH jM (z6 2 zU (zC (zD 1) (zC (zH qA (mC (.int 600)) (zD 2)) zR))) (mC (.int 5)))))
 (yM (qH 0 (zH qA (mSl (zD 0) (xR (mC (.int 2))) x5) (jW (xF (zC (z6 3 wR (zC (zD 3) (zC (zH ixD (zD 0) (mC (.int 0))) (zC (zH ixD (zD 0) (mC (.int 1))) zR)))) zR)))))
 (qH 2 (zH qA (zD 2) (mC (.int 1))))))
noncomputable abbrev wF(m:Nat)(L:List Ex)(c k:Int)(x:Sl):Option Fl:=qL m (mBl (zH gtD (mUn vG (zD 0)) (mC (.int 1)))) zDJ [.v (.lst (L.map itm)),.v (.int c),.v (.int k),x]
theorem rZ{a b:Ex}{L:List Ex}{c k:Int}{x:Sl}(hx:fre x)(ha:gd a)(hb:gd b)(hl:L.length<=900):∃(q:Ex) (x':Sl),fre x'/\gd q/\lv q=lv a+lv b/\∀m,wF (m+1) (a::b::L) c k x=wF m (L++[q]) c (k+1) x':=by
 obtain⟨n,n0,hm⟩:=qN c (600+k)
 let P:D:=.lst ((a::b::L).map itm)
 let R:En:=[.v P,.v (.int c),.v (.int k),x]
 obtain⟨w,hw,ew⟩:=YR (r:=R) (f:=zH jM (z6 2 zU (zC (zD 1) (zC (zH qA (mC (.int 600)) (zD 2)) zR))) (mC (.int 5))) (i:=n % 5) (wD (yZ (p:=.v (.int n)) (zG rfl (zG (wH zN rfl) zX)) rfl hm) zN (by decide)) (Int.emod_nonneg _ (by decide)) (Int.emod_lt_of_pos _ (by decide))
 refine⟨.two w a b,.v (.str w),trivial,⟨hw,ha,hb⟩,rfl,fun m=>?_⟩
 have cd:mBl (zH gtD (mUn vG (zD 0)) (mC (.int 1))) R=some true:=by
  have l0:mUn vG (zD 0) R=some (.int ((a::b::L).length:Int)):=kY (x:=P) rfl (by show some (D.int (((a::b::L).map itm).length:Int))=_;rw[List.length_map])
  rw[QC l0 zN,decide_eq_true (by simp;lia)]
 refine b7 cd ?_
 unfold zDJ
 let R1:En:=[.v P,.v (.int c),.v (.int k),.v (.str w)]
 refine yQ (.str w) (r2:=R1) ew (yK (i:=3) (x:=x) rfl hx) ?_
 refine yQ (.lst ((L++[Ex.two w a b]).map itm)) ?_ (r2:=[.v (.lst ((L++[Ex.two w a b]).map itm)),.v (.int c),.v (.int k),.v (.str w)]) (by rfl) (jI (wH rfl zN) (by rfl))
 rw[List.map_append]
 refine zJA (l:=L.map itm) ?_ (d6 (l:=[itm (Ex.two w a b)]) (zG (x:=itm (Ex.two w a b)) ?_ zX) (by show 1<=100;decide)) (by simp;lia)
 ·refine pO (x:=P) rfl (wX zN) (by rfl) ?_
  show some (D.lst (uN (itm a::itm b::L.map itm) (some 2) none))=_
  rw[zCN]
 ·have i0:zH ixD (zD 0) (mC (.int 0)) R1=some (itm a):=zY (x:=P) rfl zN (g0 _ _)
  have i1:zH ixD (zD 0) (mC (.int 1)) R1=some (itm b):=zY (x:=P) rfl zN (xS (j:=1) rfl)
  exact yZ (p:=.v (itm (Ex.two w a b))) (zG rfl (zG i0 (zG i1 zX))) rfl (Q8 hw ha hb)
theorem gE{c:Int}:∀(n:Nat) (es:List Ex) (k:Int) (x:Sl),fre x->es.length=n+1->n<=800->(∀e∈es,gd e)->∃(q:Ex) (k':Int) (x':Sl),gd q/\lv q=tl es/\∀m,wF (n+m) es c k x=wF m [q] c k' x'
 |0,es,k,x,hx,hl,hn,hg=>by
  match es,hl with
  |[e],_=>exact⟨e,k,x,hg e (by simp),by simp[tl],fun m=>by rw[Nat.zero_add]⟩
 |n+1,es,k,x,hx,hl,hn,hg=>by
  match es,hl with
  |a::b::t,hl=>
   obtain⟨q,x',q1,q2,q3,q4⟩:=rZ (a:=a) (b:=b) (L:=t) (c:=c) (k:=k) hx (hg a (by simp)) (hg b (by simp)) (by simp at hl;lia)
   obtain⟨r,k',x2,r1,r2,r3⟩:=gE n (t++[q]) (k+1) x' q1 (by simp at hl ⊢;lia) (by lia) (fun e he=>by
    simp only[List.mem_append,List.mem_singleton] at he
    rcases he with he|rfl
    ·exact hg e (by simp[he])
    ·exact q2)
   refine⟨r,k',x2,r1,?_,fun m=>?_⟩
   ·rw[r2,cR];simp[tl];lia
   ·have e0:=q4 (n+m)
    rw[show n+1+m=n+m+1 by lia]
    exact e0.trans (r3 m)
theorem zBR(c:Int){es:List Ex}(hg:∀e∈es,gd e)(h0:es≠[])(hl:es.length<=500):∃q:Ex,gd q/\lv q=tl es/\∃as,xG [.v (.lst (es.map itm)),.v (.int c)]=some (.v (itm q),as):=by
 have l1:0<es.length:=List.length_pos_iff.mpr h0
 obtain⟨q,k',x',q1,q2,q3⟩:=gE (c:=c) (es.length-1) es 0 .un trivial (by lia) (by lia) hg
 refine⟨q,q1,q2,jN (r':=[.v (.lst ([q].map itm)),.v (.int c),.v (.int k'),x']) ?_⟩
 show xO [.v (.lst (es.map itm)),.v (.int c),.un,.un]=_
 unfold xO
 refine yQ (.int 0) zN (r2:=[.v (.lst (es.map itm)),.v (.int c),.v (.int 0),.un]) (by rfl) ?_
 have w:=q3 (WF-(es.length-1))
 rw[show es.length-1+(WF-(es.length-1))=WF by unfold WF;lia,show WF-(es.length-1)=(WF-(es.length-1)-1)+1 by unfold WF;lia] at w
 unfold wF at w
 rw[vP (r:=[.v (.lst ([q].map itm)),.v (.int c),.v (.int k'),x']) (by rfl)] at w
 unfold zDJ at w
 rw[yU w]
 exact qM (zY (x:=.lst ([q].map itm)) rfl zN (g0 _ _))
theorem YI{x:ME}{j:Nat}{mk:Sl->En}{p:Nat->Prop}(hj:∀s d,fre s->yW j d (mk s)=some (mk (.v d))):∀(L:List D) (s:Sl),fre s->(∀a∈L,∃c,p c/\x (mk (.v a))=some (.str [c]))->∃cs:List Nat,cs.length=L.length/\(∀c∈cs,p c)/\jH (yW j) dY x L (mk s)=some (cs.map fun c=>D.str [c])
 |[],s,hs,h=>⟨[],rfl,(fun _ h=>by cases h),rfl⟩
 |a::L,s,hs,h=>by
  obtain⟨c,hc,e⟩:=h a (by simp)
  obtain⟨cs,h1,h2,h3⟩:=YI hj L (.v a) trivial fun b hb=>h b (by simp[hb])
  refine⟨c::cs,by simp[h1],fun d hd=>?_,?_⟩
  ·rcases List.mem_cons.mp hd with rfl|hd
   ·exact hc
   ·exact h2 d hd
  ·unfold jH
   rw[hj s a hs,Option.bind_some,show dY (mk (.v a))=some true from rfl,Option.bind_some,if_pos rfl,e,Option.bind_some,h3];rfl
theorem oR{α:Type}{x:ME}{j:Nat}{mk:Sl->En}{g y:α->D}(hj:∀s d,fre s->yW j d (mk s)=some (mk (.v d))):∀(L:List α) (s:Sl),fre s->(∀a∈L,x (mk (.v (g a)))=some (y a))->jH (yW j) dY x (L.map g) (mk s)=some (L.map y)
 |[],s,hs,h=>rfl
 |a::L,s,hs,h=>by
  have ih:=oR (y:=y) hj L (.v (g a)) trivial fun b hb=>h b (by simp[hb])
  rw[List.map_cons]
  unfold jH
  rw[hj s _ hs,Option.bind_some,show dY (mk (.v (g a)))=some true from rfl,Option.bind_some,if_pos rfl,h a (by simp),Option.bind_some,ih];rfl
theorem nF:∀cs:List Nat,pL (cs.map fun c=>D.str [c])=some (cs.map fun c=>[c])
 |[]=>rfl
 |c::cs=>by simp[pL,nF cs]
theorem oB:∀cs:List Nat,ZS [] (cs.map fun c=>[c])=cs
 |[]=>rfl
 |[c]=>rfl
 |c::d::cs=>by
  have ih:=oB (d::cs)
  rw[List.map_cons,List.map_cons] at *
  unfold ZS
  rw[ih];rfl
noncomputable def bl5:List Nat:=[113,120,122,106,118]
noncomputable def al:List Nat:=[97,98,99,100,101,103,104,105,107,108]
theorem zH7{l:List Nat}(hl:l.length<=100){i:Int}(h0:0<=i)(h:i<l.length):∃c,c∈l/\ixD (.str l) (.int i)=some (.str [c]):=by
 obtain⟨j,rfl⟩:=Int.eq_ofNat_of_zero_le h0
 have hj:j<l.length:=by lia
 refine⟨l[j],List.getElem_mem hj,?_⟩
 show(if l.length<=sizeLine then (atI l (j:Int)).map fun c=>D.str [c] else none)=_
 rw[if_pos (Nat.le_trans hl (by decide)),xS (List.getElem?_eq_getElem hj)];rfl
noncomputable def W9(pre suf:List Nat)(i:Nat):List Nat:=pre++[al.getD i 0]++suf
theorem WW{α:Type}(s:List α)(k:Nat):uN s (some (k:Int)) none=s.drop k:=by
 unfold uN
 rw[HT.sIx_nat,HT.sIx_none]
 by_cases h:k<=s.length
 ·rw[Nat.min_eq_left h,List.take_of_length_le (by rw[List.length_drop];lia)]
 ·have e1:s.drop (min k s.length)=[]:=List.drop_of_length_le (by lia)
  have e2:s.drop k=[]:=List.drop_of_length_le (by lia)
  rw[e1,e2];simp
theorem pN{s:List Nat}{lo hi:Option Int}(h:s.length<=100):slD (.str s) lo hi=some (.str (uN s lo hi)):=if_pos (Nat.le_trans h (by decide))
theorem X7{c:Int}(hc:0<=c){k:Nat}(hk:k<=10):∃pre suf:List Nat,(∀x∈pre++suf,x∈bl5)/\(pre++suf).length<=7/\∃as,qT [.v (.int c),.v (.int (k:Int))]=some (.v (.lst ((List.range k).map fun i=>D.str (W9 pre suf i))),as):=by
 have z0:0<=c % 7:=Int.emod_nonneg _ (by decide)
 have z7:c % 7<7:=Int.emod_lt_of_pos _ (by decide)
 obtain⟨n,hn⟩:∃n:Nat,1+c % 7=(n:Int):=⟨(1+c % 7).toNat,by lia⟩
 have a0:0<=c / 7 % (n:Int):=Int.emod_nonneg _ (by lia)
 have a1:c / 7 % (n:Int)<n:=Int.emod_lt_of_pos _ (by lia)
 obtain⟨a,ha⟩:=Int.eq_ofNat_of_zero_le a0
 let C:Sl:=.v (.int c)
 let Kk:Sl:=.v (.int (k:Int))
 obtain⟨cs,c1,c2,c3⟩:=YI (x:=zH ixD (mC (.str [113,120,122,106,118])) (zH jM (z6 2 zU (zC (zD 0) (zC (zH qA (mC (.int 30)) (zD 1)) zR))) (mC (.int 5)))) (j:=1) (mk:=fun s=>[C,s]) (p:=(·∈bl5)) (fun s d hs=>yK (x:=s) rfl hs) ((List.range n).map fun i=>D.int ((0:Int)+(i:Nat))) .un trivial (fun d hd=>by
  obtain⟨i,_,rfl⟩:=List.mem_map.mp hd
  obtain⟨m,m0,hm⟩:=qN c (30+((0:Int)+(i:Nat)))
  obtain⟨ch,h1,h2⟩:=zH7 (l:=bl5) (by decide) (i:=m % 5) (Int.emod_nonneg _ (by decide)) (Int.emod_lt_of_pos _ (by decide))
  exact⟨ch,h1,zY (x:=.str bl5) zN (wD (yZ (p:=.v (.int m)) (zG rfl (zG (wH zN rfl) zX)) rfl hm) zN (by decide)) h2⟩)
 rw[List.length_map,List.length_range] at c1
 refine⟨cs.take a,cs.drop a,by rw[List.take_append_drop];exact c2,by rw[List.take_append_drop];lia,jN (r':=[C,Kk,.v (.int (n:Int)),.v (.int (a:Int)),.v (.str cs)]) ?_⟩
 show x0 [C,Kk,.un,.un,.un]=_
 unfold x0
 refine yQ (.int (n:Int)) (r2:=[C,Kk,.v (.int (n:Int)),.un,.un]) (hn ▸ wH zN (wD rfl zN (by decide))) (by rfl) ?_
 refine yQ (.int (a:Int)) (r2:=[C,Kk,.v (.int (n:Int)),.v (.int (a:Int)),.un]) (by rw[show D.int (a:Int)=.int (c / 7 % (n:Int)) by rw[ha]];exact wD (gF rfl zN (by decide)) rfl (by lia)) (by rfl) ?_
 refine yQ (.str cs) (r2:=[C,Kk,.v (.int (n:Int)),.v (.int (a:Int)),.v (.str cs)]) ?_ (by rfl) ?_
 ·unfold zDB
  rw[zN,Option.bind_some]
  show(jO _ _ _ _ _ _).bind _=_
  unfold jO qV
  rw[XC (n:=n) rfl (by lia),Option.bind_some,if_pos (by rw[List.length_map,List.length_range];exact Nat.lt_of_lt_of_le (show n<100 by lia) (by decide))]
  rw[show tS [0] 2 [C,Kk,.v (.int (n:Int)),.v (.int (a:Int)),.un]=[C,.un] from rfl,c3,Option.bind_some,nF,Option.bind_some,if_pos,oB]
  have e:((cs.map fun c=>[c]).map List.length).sum=cs.length:=by
   rw[List.map_map]
   clear c2 c3 c1
   induction cs with
   |nil=>rfl
   |cons x t ih=>simp at ih ⊢;lia
  rw[e];simp;lia
 ·refine qM ?_
  unfold jW jO qV
  rw[XC (n:=k) rfl (by lia),Option.bind_some,if_pos (by rw[List.length_map,List.length_range];exact Nat.lt_of_lt_of_le (show k<100 by lia) (by decide))]
  rw[show tS [3,4] 3 [C,Kk,.v (.int (n:Int)),.v (.int (a:Int)),.v (.str cs)]=[.v (.int (a:Int)),.v (.str cs),.un] from rfl]
  rw[oR (mk:=fun s=>[.v (.int (a:Int)),.v (.str cs),s]) (y:=fun i=>D.str (W9 (cs.take a) (cs.drop a) i)) (fun s d hs=>yK (x:=s) rfl hs) (List.range k) .un trivial (fun i hi=>?_)]
  ·rfl
  ·have hi':i<k:=List.mem_range.mp hi
   have e2:ixD (.str al) (.int ((0:Int)+(i:Nat)))=some (.str [al.getD i 0]):=by
    show(if al.length<=sizeLine then (atI al ((0:Int)+(i:Nat))).map fun c=>D.str [c] else none)=_
    have hi2:i<al.length:=Nat.lt_of_lt_of_le hi' hk
    rw[if_pos (by decide),Int.zero_add,xS (List.getElem?_eq_getElem hi2),show al.getD i 0=al[i] by rw[List.getD_eq_getElem?_getD,List.getElem?_eq_getElem hi2];rfl];rfl
   have t1:(cs.take a).length<=7:=by rw[List.length_take];lia
   have t2:(cs.drop a).length<=7:=by rw[List.length_drop];lia
   unfold W9
   refine zY (x:=.str (cs.take a++[al.getD i 0])) (y:=.str (cs.drop a)) (zY (x:=.str (cs.take a)) (pO (x:=.str cs) rfl (by rfl) (wX rfl) ?_) (zY (x:=.str al) zN rfl e2) (tU (by simp;lia))) (pO (x:=.str cs) rfl (wX rfl) (by rfl) ?_) (tU (by simp;lia))
   ·rw[pN (by lia),zCO]
   ·rw[pN (by lia),WW]
structure NmOk(s:List Nat):Prop where
 len:s.length<=8
 ch:∀x∈s,x∈bl5++al
theorem zHR{pre suf:List Nat}(h:∀x∈pre++suf,x∈bl5)(hl:(pre++suf).length<=7){i:Nat}(hi:i<10):NmOk (W9 pre suf i):=by
 have a:al.getD i 0∈al:=by
  have hi2:i<al.length:=hi
  rw[show al.getD i 0=al[i] by rw[List.getD_eq_getElem?_getD,List.getElem?_eq_getElem hi2];rfl];exact List.getElem_mem hi2
 rw[List.length_append] at hl
 refine⟨by unfold W9;rw[List.length_append,List.length_append];show _+1+_<=8;lia,fun x hx=>?_⟩
 unfold W9 at hx
 simp only[List.mem_append,List.mem_singleton] at hx ⊢
 rcases hx with(hx|rfl)|hx
 ·exact .inl (h x (by simp[hx]))
 ·exact .inr a
 ·exact .inl (h x (by simp[hx]))
theorem zAO{pre suf:List Nat}{i j:Nat}(hi:i<10)(hj:j<10)(h:i≠j):W9 pre suf i≠W9 pre suf j:=fun e=>by
 unfold W9 at e
 rw[List.append_assoc,List.append_assoc] at e
 have e2:=List.append_cancel_left e
 have e3:al.getD i 0=al.getD j 0:=(List.cons.inj e2).1
 have inj:∀i<10,∀j<10,al.getD i 0=al.getD j 0->i=j:=by decide
 exact h (inj i hi j hj e3)
theorem zAP{s:List Nat}(h:NmOk s):s≠[109,97,105,110]:=fun e=>by
 have:=h.ch 109 (by rw[e];simp)
 revert this;decide
inductive Pt where
 |pl (d:D)
 |ex (e:Ex)
noncomputable def ptD:Pt->D
 |.pl d=>d
 |.ex e=>toD e
noncomputable def ptE:Pt->Option Ex
 |.pl _=>none
 |.ex e=>some e
noncomputable def pts:Ex->List Pt
 |.num n=>[.pl (.str [110,117,109]),.pl (.int n)]
 |.two w a b=>[.pl (.str w),.ex a,.ex b]
 |.iff a b c=>[.pl (.str [105,102]),.ex a,.ex b,.ex c]
 |.nm s=>[.pl (.str [110,97,109,101]),.pl (.str s)]
noncomputable def plain(d:D):Prop:=vH "tuple" d=some (.bl false)
noncomputable def PtOk(l:List Pt):Prop:=∀d,Pt.pl d∈l->plain d
theorem nC(e:Ex):toD e=.tup ((pts e).map ptD):=by cases e<;>rfl
theorem JU(e:Ex):PtOk (pts e):=by
 intro d h
 cases e<;>simp[pts] at h
 ·rcases h with rfl|rfl<;>rfl
 ·subst h;rfl
 ·subst h;rfl
 ·rcases h with rfl|rfl<;>rfl
theorem ZV(e:Ex):vH "tuple" (toD e)=some (.bl true):=by rw[nC];rfl
noncomputable def ch(e:Ex):List Ex:=(pts e).filterMap ptE
theorem PtOk.tail{p:Pt}{l:List Pt}(h:PtOk (p::l)):PtOk l:=fun d hd=>h d (List.mem_cons_of_mem _ hd)
theorem kK:∀(l:List Pt) (s:Sl),fre s->PtOk l->jH (yW 0) (dZ (mUn (vH "tuple") (zD 0))) (zD 0) (l.map ptD) [s]=some ((l.filterMap ptE).map toD)
 |[],s,hs,h=>rfl
 |.pl d::l,s,hs,h=>by
  have ih:=kK l (.v d) trivial h.tail
  have e1:yW 0 d [s]=some [.v d]:=yK (r:=[s]) rfl hs
  have e2:dZ (mUn (vH "tuple") (zD 0)) [.v d]=some false:=by
   unfold dZ
   rw[kY (f:=zD 0) (r:=[.v d]) (x:=d) rfl (h d (by simp))];rfl
  show jH _ _ _ (d::l.map ptD) [s]=_
  unfold jH
  rw[e1,Option.bind_some,e2,Option.bind_some,if_neg (by decide),ih];rfl
 |.ex e::l,s,hs,h=>by
  have ih:=kK l (.v (toD e)) trivial h.tail
  have e1:yW 0 (toD e) [s]=some [.v (toD e)]:=yK (r:=[s]) rfl hs
  have e2:dZ (mUn (vH "tuple") (zD 0)) [.v (toD e)]=some true:=by
   unfold dZ
   rw[kY (f:=zD 0) (r:=[.v (toD e)]) (x:=toD e) rfl (ZV e)];rfl
  have e3:zD 0 [.v (toD e)]=some (toD e):=rfl
  show jH _ _ _ (toD e::l.map ptD) [s]=_
  unfold jH
  rw[e1,Option.bind_some,e2,Option.bind_some,if_pos rfl,e3,Option.bind_some,ih];rfl
theorem nS(e:Ex):(pts e).length<=4:=by cases e<;>simp[pts]
theorem oF(e:Ex):∃as,jT [.v (toD e)]=some (.v (.lst ((ch e).map toD)),as):=by
 refine jN (r':=[.v (toD e)]) ?_
 show bJ [.v (toD e)]=_
 unfold bJ
 refine qM ?_
 unfold jW qV
 have it:mIt (zD 0) [.v (toD e)]=some ((pts e).map ptD):=by
  unfold mIt
  rw[show zD 0 [.v (toD e)]=some (toD e) from rfl,nC];rfl
 have:=nS e
 rw[it,Option.bind_some,if_pos (by rw[List.length_map];exact Nat.lt_of_lt_of_le (show _<100 by lia) (by decide)),show tS [] 1 [.v (toD e)]=[.un] from rfl,kK _ .un trivial (JU e)];rfl
noncomputable def nd:Ex->Nat
 |.num _=>1
 |.two _ a b=>1+nd a+nd b
 |.iff a b c=>1+nd a+nd b+nd c
 |.nm _=>1
noncomputable def tn(es:List Ex):Nat:=(es.map nd).sum
theorem JC(a b:List Ex):tn (a++b)=tn a+tn b:=by simp[tn]
theorem zAR(e:Ex):nd e=1+tn (ch e):=by cases e<;>simp[nd,tn,ch,pts,ptE,List.filterMap]<;>lia
theorem ZG:∀e,nd e+1<=2*lv e
 |.num _=>Nat.le_refl 2
 |.two _ a b=>by have:=ZG a;have:=ZG b;show 1+nd a+nd b+1<=2*(lv a+lv b);lia
 |.iff a b c=>by have:=ZG a;have:=ZG b;have:=ZG c;show 1+nd a+nd b+nd c+1<=2*(lv a+lv b+lv c);lia
 |.nm _=>Nat.le_refl 2
theorem JB(l:List Ex):l.length<=tn l:=by
 induction l with
 |nil=>exact Nat.le_refl 0
 |cons a l ih=>have:=zAR a;show l.length+1<=nd a+(l.map nd).sum;unfold tn at ih;lia
noncomputable def zDH:MS:=(yM (W6 3 (zCX 2)) (yM (sX (ZN 1 (zD 3))) (sX (zGO 2 (mUn zD7 (z6 1 jT (zC (zD 3) zR)))))))
theorem vA(x:Sl):∀(n:Nat) (es:List Ex) (F:List D) (s:Sl),fre s->tn es<=n->F.length+n<=10000->∃F' s',F'.length<=F.length+n/\∀m,qL (n+1+m) (ZJ (o7 2)) zDH [x,.o F,.o (es.map toD),s]=some (.nx [x,.o F',.o [],s'])
 |n,[],F,s,hs,h1,h2=>⟨F,s,Nat.le_add_right ..,fun m=>by rw[show n+1+m=(n+m)+1 by lia];exact vP rfl⟩
 |0,e::es,F,s,hs,h1,h2=>by
  have:=zAR e
  have:tn (e::es)=nd e+tn es:=by simp[tn]
  lia
 |n+1,e0::es0,F,s,hs,h1,h2=>by
  obtain⟨es,e,he⟩:∃es e,e0::es0=es++[e]:=⟨(e0::es0).dropLast,(e0::es0).getLast (by simp),(List.dropLast_concat_getLast (by simp)).symm⟩
  rw[he] at h1 ⊢
  rw[JC] at h1
  have hn:=zAR e
  have h1':tn es+nd e<=n+1:=by simpa [tn] using h1
  have hc:tn ((ch e).reverse)=tn (ch e):=by simp[tn,List.sum_reverse]
  have cl:=JB (ch e)
  have le:=JB es
  obtain⟨F',s',q1,q2⟩:=vA x n (es++(ch e).reverse) (F++[toD e]) (.v (toD e)) trivial (by rw[JC,hc];lia) (by simp;lia)
  refine⟨F',s',by simp at q1;lia,fun m=>?_⟩
  rw[show n+1+1+m=(n+1+m)+1 by lia]
  have em:(es++[e]).map toD=es.map toD++[toD e]:=by simp
  have cd:ZJ (o7 2) [x,.o F,.o ((es++[e]).map toD),s]=some true:=by rw[em];show some (!(es.map toD++[toD e]).isEmpty)=_;simp
  rw[b7 (r':=[x,.o (F++[toD e]),.o ((es++(ch e).reverse).map toD),.v (toD e)]) cd ?_,q2 m]
  unfold zDH
  rw[em]
  have p1:W6 3 (zCX 2) [x,.o F,.o (es.map toD++[toD e]),s]=some (.nx [x,.o F,.o (es.map toD),.v (toD e)]):=by
   unfold W6
   rw[zEF (S:=es.map toD) (d:=toD e) rfl,Option.bind_some]
   show(yW 3 (toD e) [x,.o F,.o (es.map toD),s]).map Fl.nx=_
   rw[yK (r:=[x,.o F,.o (es.map toD),s]) (x:=s) rfl hs];rfl
  rw[yU p1]
  have p2:sX (ZN 1 (zD 3)) [x,.o F,.o (es.map toD),.v (toD e)]=some (.nx [x,.o (F++[toD e]),.o (es.map toD),.v (toD e)]):=pT (m7 (S:=F) rfl rfl (Nat.lt_of_lt_of_le (show F.length<20000 by lia) (by decide)))
  rw[yU p2]
  refine pT (d:=.non) ?_
  unfold zGO
  have ci:z6 1 jT (zC (zD 3) zR) [x,.o (F++[toD e]),.o (es.map toD),.v (toD e)]=some (.lst ((ch e).map toD)):=yZ (p:=.v (.lst ((ch e).map toD))) (zG (x:=toD e) rfl zX) rfl (oF e)
  rw[kY (d:=.lst ((ch e).map toD).reverse) ci rfl,Option.bind_some]
  show(some ((ch e).map toD).reverse).bind _=_
  rw[Option.bind_some]
  show(some (es.map toD)).bind _=_
  rw[Option.bind_some,if_pos (by simp;exact Nat.le_trans (show _<=20000 by lia) (by decide))]
  show some (D.non,[x,Sl.o (F++[toD e]),.o (es.map toD++((ch e).map toD).reverse),.v (toD e)])=_
  simp
theorem p0{e:Ex}(h:nd e<=5000):∃F:List D,F.length<=5000/\∃as,qS [.v (toD e)]=some (.f F,as):=by
 have t1:tn [e]=nd e:=by simp[tn]
 obtain⟨F',s',q1,q2⟩:=vA (.v (toD e)) (nd e) [e] [] .un trivial (by lia) (by simp;lia)
 refine⟨F',by simp at q1;lia,?_⟩
 have w:=q2 (WF-(nd e+1))
 rw[show nd e+1+(WF-(nd e+1))=WF by unfold WF;lia] at w
 unfold zDH at w
 refine⟨([.v (toD e),.o F',.o [],s']:En).take 1,?_⟩
 unfold qS mkF
 have b:jQ [.v (toD e),.un,.un,.un]=some (.rf F' [.v (toD e),.o F',.o [],s']):=by
  unfold jQ
  rw[yU (r':=[.v (toD e),.o [],.un,.un]) (by rfl),yU (r':=[.v (toD e),.o [],.o ([e].map toD),.un]) (by rfl),yU w];rfl
 show(jQ [.v (toD e),.un,.un,.un]).bind _=_
 rw[b];rfl
noncomputable def zDI:MS:=(yM (sX (ZN 2 (zD 3))) (tX 3 (mUn vG (jW (uF 1 qS (zC (zD 4) zR))))))
theorem j6(x y:Sl):∀(es:List Ex) (F:List Int) (i:Int) (s:Sl),fre s->(∀e∈es,nd e<=5000)->F.length+es.length<=1000->∃(F':List Int) (i':Int) (s':Sl),F'.length=F.length+es.length/\ZY (yW 4) zDI (es.map toD) [x,y,.o (F.map D.int),.v (.int i),s]=some (.nx [x,y,.o (F'.map D.int),.v (.int i'),s'])
 |[],F,i,s,hs,h,hl=>⟨F,i,s,rfl,rfl⟩
 |e::es,F,i,s,hs,h,hl=>by
  obtain⟨P,p1,as,p2⟩:=p0 (h e (by simp))
  obtain⟨F',i',s',q1,q2⟩:=j6 x y es (F++[i]) (i+(P.length:Int)) (.v (toD e)) trivial (fun a ha=>h a (by simp[ha])) (by simp at hl ⊢;lia)
  refine⟨F',i',s',by simp at q1 ⊢;lia,?_⟩
  rw[List.map_cons,bY (r1:=[x,y,.o (F.map D.int),.v (.int i),.v (toD e)]) (yK (i:=4) (x:=s) rfl hs) (r':=[x,y,.o ((F++[i]).map D.int),.v (.int (i+(P.length:Int))),.v (toD e)]) ?_,q2]
  unfold zDI
  rw[yU (pT (m7 (i:=2) (S:=F.map D.int) (d:=.int i) rfl rfl (by rw[List.length_map];exact Nat.lt_of_lt_of_le (show F.length<2000 by simp at hl;lia) (by decide))))]
  have l1:mUn vG (jW (uF 1 qS (zC (zD 4) zR))) [x,y,.o (F.map D.int++[D.int i]),.v (.int i),.v (toD e)]=some (.int (P.length:Int)):=by
   refine kY (x:=.lst P) ?_ rfl
   have p2':qS (([toD e]:List D).map Sl.v)=some (.f P,as):=p2
   unfold jW uF
   rw[zG (x:=toD e) (l:=[]) rfl zX,Option.bind_some,if_pos (show([toD e]:List D).length=1 from rfl),p2'];rfl
  show tX 3 _ [x,y,.o (F.map D.int++[D.int i]),.v (.int i),.v (toD e)]=_
  unfold tX
  show(mUn vG _ _).bind _=_
  rw[l1,List.map_append];rfl
theorem mP(e:Ex)(i:Int)(h:nd e<=5000):∃F:List Int,F.length=(ch e).length/\∃as,yT [.v (toD e),.v (.int i)]=some (.f (F.map D.int),as):=by
 have hn:=zAR e
 have cm:∀(l:List Ex),∀a∈l,nd a<=tn l:=fun l=>by
  induction l with
  |nil=>intro a ha;cases ha
  |cons b l ih=>
   intro a ha
   have e0:tn (b::l)=nd b+tn l:=by simp[tn]
   rcases List.mem_cons.mp ha with rfl|ha
   ·lia
   ·have:=ih a ha;lia
 have cl:(ch e).length<=4:=Nat.le_trans (List.length_filterMap_le ..) (nS e)
 obtain⟨F',i',s',q1,q2⟩:=j6 (.v (toD e)) (.v (.int i)) (ch e) [] (i+1) .un trivial (fun a ha=>by have:=cm _ a ha;lia) (by simp;lia)
 refine⟨F',by simpa using q1,([.v (toD e),.v (.int i),.o (F'.map D.int),.v (.int i'),s']:En).take 2,?_⟩
 unfold yT mkF
 have b:yR [.v (toD e),.v (.int i),.un,.un,.un]=some (.rf (F'.map D.int) [.v (toD e),.v (.int i),.o (F'.map D.int),.v (.int i'),s']):=by
  unfold yR
  rw[yU (r':=[.v (toD e),.v (.int i),.o [],.un,.un]) (by rfl)]
  refine yQ (.int (i+1)) (r2:=[.v (toD e),.v (.int i),.o [],.v (.int (i+1)),.un]) (wH rfl zN) (by rfl) ?_
  rw[yU (r':=[.v (toD e),.v (.int i),.o (F'.map D.int),.v (.int i'),s']) ?_]
  ·rfl
  ·unfold nL
   have it:mIt (z6 1 jT (zC (zD 0) zR)) [.v (toD e),.v (.int i),.o [],.v (.int (i+1)),.un]=some ((ch e).map toD):=by
    have ci:z6 1 jT (zC (zD 0) zR) [.v (toD e),.v (.int i),.o [],.v (.int (i+1)),.un]=some (.lst ((ch e).map toD)):=yZ (p:=.v (.lst ((ch e).map toD))) (zG (x:=toD e) rfl zX) rfl (oF e)
    unfold mIt
    rw[ci];rfl
   rw[it]
   unfold zDI at q2
   exact q2
 show(yR [.v (toD e),.v (.int i),.un,.un,.un]).bind _=_
 rw[b];rfl
inductive Mk:Ex->D->Prop
 |num (n:Int) (m:D):Mk (.num n) (.tup [.str [110,117,109],.int n,m])
 |two {w:List Nat} {a b:Ex} {x y:D} (m:D):Mk a x->Mk b y->Mk (.two w a b) (.tup [.str w,x,y,m])
 |iff {a b c:Ex} {x y z:D} (m:D):Mk a x->Mk b y->Mk c z->Mk (.iff a b c) (.tup [.str [105,102],x,y,z,m])
 |nm (s:List Nat) (m:D):Mk (.nm s) (.tup [.str [110,97,109,101],.str s,m])
noncomputable def PR:List Pt->List D->Prop
 |[],ys=>ys=[]
 |.pl d::l,ys=>∃t,ys=d::t/\PR l t
 |.ex e::l,ys=>∃y t,ys=y::t/\Mk e y/\PR l t
theorem zHU{e:Ex}{ys:List D}{m:D}(h:PR (pts e) ys):Mk e (.tup (ys++[m])):=by
 cases e with
 |num n=>
  obtain⟨t,rfl,u,rfl,h⟩:=h
  cases (show u=[] from h)
  exact .num n m
 |two w a b=>
  obtain⟨t,rfl,x,u,rfl,hx,y,v,rfl,hy,h⟩:=h
  cases (show v=[] from h)
  exact .two m hx hy
 |iff a b c=>
  obtain⟨t,rfl,x,u,rfl,hx,y,v,rfl,hy,z,q,rfl,hz,h⟩:=h
  cases (show q=[] from h)
  exact .iff m hx hy hz
 |nm s=>
  obtain⟨t,rfl,u,rfl,h⟩:=h
  cases (show u=[] from h)
  exact .nm s m
theorem XL:∀{l:List Pt} {ys:List D},PR l ys->ys.length=l.length
 |[],ys,h=>by cases (show ys=[] from h);rfl
 |.pl d::l,ys,h=>by obtain⟨t,rfl,h⟩:=h;simp[XL h]
 |.ex e::l,ys,h=>by obtain⟨y,t,rfl,_,h⟩:=h;simp[XL h]
noncomputable def QH(m:MF):MS:=(sIf (dZ (mUn (vH "tuple") (zD 5))) (sX (ZM 4 (vD 3 m (jY (zD 5) (jY (zD 1) (cO (QA 3))))))) (sX (ZN 4 (zD 5))))
theorem zC8{m:MF}{E I:Sl}{N:D}:∀(l:List Pt) (B:List Int) (P:List D) (s:Sl),fre s->PtOk l->(l.filterMap ptE).length<=B.length->P.length+l.length<=1000->(∀e,Pt.ex e∈l->∀i:Int,∃y,Mk e y/\∃as,m [.v (toD e),.v N,.v (.int i)]=some (.v y,as)) ->
  ∃(ys:List D) (B':List Int) (s':Sl),PR l ys/\ZY (yW 5) (QH m) (l.map ptD) [E,.v N,I,.o (B.map D.int),.o P,s]=some (.nx [E,.v N,I,.o (B'.map D.int),.o (P++ys),s'])
 |[],B,P,s,hs,h1,h2,h3,h4=>⟨[],B,s,rfl,by rw[List.append_nil];rfl⟩
 |.pl d::l,B,P,s,hs,h1,h2,h3,h4=>by
  obtain⟨ys,B',s',q1,q2⟩:=zC8 (E:=E) (I:=I) l B (P++[d]) (.v d) trivial h1.tail h2 (by simp at h3 ⊢;lia) (fun e he=>h4 e (by simp[he]))
  refine⟨d::ys,B',s',⟨ys,rfl,q1⟩,?_⟩
  show ZY _ _ (d::l.map ptD) _=_
  rw[bY (r1:=[E,.v N,I,.o (B.map D.int),.o P,.v d]) (yK (i:=5) (x:=s) rfl hs) (r':=[E,.v N,I,.o (B.map D.int),.o (P++[d]),.v d]) ?_,q2,List.append_assoc];rfl
  have e2:dZ (mUn (vH "tuple") (zD 5)) [E,.v N,I,.o (B.map D.int),.o P,.v d]=some false:=by
   unfold dZ
   rw[kY (f:=zD 5) (r:=[E,.v N,I,.o (B.map D.int),.o P,.v d]) (x:=d) rfl (h1 d (by simp))];rfl
  unfold QH
  rw[zC4 e2]
  exact pT (m7 (i:=4) (S:=P) rfl rfl (Nat.lt_of_lt_of_le (show P.length<2000 by simp at h3;lia) (by decide)))
 |.ex e::l,B,P,s,hs,h1,h2,h3,h4=>by
  match B,h2 with
  |[],h2=>simp[ptE] at h2
  |b::B,h2=>
   obtain⟨y,hy,as,ey⟩:=h4 e (by simp) b
   obtain⟨ys,B',s',q1,q2⟩:=zC8 (E:=E) (I:=I) l B (P++[y]) (.v (toD e)) trivial h1.tail (by simpa [ptE] using h2) (by simp at h3 ⊢;lia) (fun e he=>h4 e (by simp[he]))
   refine⟨y::ys,B',s',⟨y,ys,rfl,hy,q1⟩,?_⟩
   show ZY _ _ (toD e::l.map ptD) _=_
   let R:En:=[E,.v N,I,.o ((b::B).map D.int),.o P,.v (toD e)]
   rw[bY (r1:=R) (yK (i:=5) (x:=s) rfl hs) (r':=[E,.v N,I,.o (B.map D.int),.o (P++[y]),.v (toD e)]) ?_,q2,List.append_assoc];rfl
   have e2:dZ (mUn (vH "tuple") (zD 5)) R=some true:=by
    unfold dZ
    rw[kY (f:=zD 5) (r:=R) (x:=toD e) rfl (ZV e)];rfl
   unfold QH
   rw[JK e2]
   have cx:vD 3 m (jY (zD 5) (jY (zD 1) (cO (QA 3)))) R=some (y,[E,.v N,I,.o (B.map D.int),.o P,.v (toD e)]):=by
    have xa:jY (zD 5) (jY (zD 1) (cO (QA 3))) R=some ([toD e,N,.int b],[E,.v N,I,.o (B.map D.int),.o P,.v (toD e)]):=rfl
    have ey':m (([toD e,N,.int b]:List D).map Sl.v)=some (.v y,as):=ey
    unfold vD
    rw[xa,Option.bind_some,if_pos (show([toD e,N,.int b]:List D).length=3 from rfl),ey'];rfl
   refine pT (d:=.non) ?_
   unfold ZM
   rw[cx,Option.bind_some]
   show(some P).bind _=_
   rw[Option.bind_some]
   show(some P).bind _=_
   rw[Option.bind_some,if_pos (Nat.lt_of_lt_of_le (show P.length<2000 by simp at h3;lia) (by decide))];rfl
theorem zH6{e a:Ex}(h:Pt.ex a∈pts e):dp a<dp e/\nd a<nd e:=by
 cases e<;>simp[pts] at h
 ·rcases h with rfl|rfl
  ·constructor
   ·show dp a<max (dp a) _+1;lia
   ·show nd a<1+nd a+_;lia
  ·constructor
   ·show dp a<max _ (dp a)+1;lia
   ·show nd a<1+_+nd a;lia
 ·rcases h with rfl|rfl|rfl
  ·constructor
   ·show dp a<max (max (dp a) _) _+1;lia
   ·show nd a<1+nd a+_+_;lia
  ·constructor
   ·show dp a<max (max _ (dp a)) _+1;lia
   ·show nd a<1+_+nd a+_;lia
  ·constructor
   ·show dp a<max _ (dp a)+1;lia
   ·show nd a<1+_+_+nd a;lia
theorem dR(N:D):∀(k:Nat) (e:Ex) (i:Int),dp e<k->nd e<=5000->∃d,Mk e d/\∃as,wI k [.v (toD e),.v N,.v (.int i)]=some (.v d,as)
 |0,e,i,h,_=>by lia
 |k+1,e,i,h,hn=>by
  obtain⟨F,f1,fs,f2⟩:=mP e i hn
  have pl:=nS e
  obtain⟨ys,B',s',q1,q2⟩:=zC8 (m:=wI k) (E:=.v (toD e)) (I:=.v (.int i)) (N:=N) (pts e) F [] .un trivial (JU e) (Nat.le_of_eq f1.symm) (by simp;lia) (fun a ha j=>by
   have:=zH6 ha
   exact dR N k a j (by lia) (by lia))
  have yl:=XL q1
  let M:D:=.tup [N,.int i]
  refine⟨.tup (ys++[M]),zHU q1,jN (r':=[.v (toD e),.v N,.v (.int i),.o (B'.map D.int),.o ys,s']) ?_⟩
  show kN (wI k) [.v (toD e),.v N,.v (.int i),.un,.un,.un]=_
  unfold kN
  have f2':yT (([toD e,.int i]:List D).map Sl.v)=some (.f (F.map D.int),fs):=f2
  have s1:W7 3 (uF 2 yT (zC (zD 0) (zC (zD 2) zR))) [.v (toD e),.v N,.v (.int i),.un,.un,.un]=some (.nx [.v (toD e),.v N,.v (.int i),.o (F.map D.int),.un,.un]):=by
   unfold W7 uF
   rw[zG (x:=toD e) (l:=[.int i]) rfl (zG rfl zX),Option.bind_some,if_pos (show([toD e,.int i]:List D).length=2 from rfl),f2'];rfl
  rw[yU s1,yU (r':=[.v (toD e),.v N,.v (.int i),.o (F.map D.int),.o [],.un]) (by rfl)]
  have s2:nL (yW 5) (mIt (zD 0)) (QH (wI k)) [.v (toD e),.v N,.v (.int i),.o (F.map D.int),.o [],.un]=some (.nx [.v (toD e),.v N,.v (.int i),.o (B'.map D.int),.o ys,s']):=by
   unfold nL
   have it:mIt (zD 0) [.v (toD e),.v N,.v (.int i),.o (F.map D.int),.o [],.un]=some ((pts e).map ptD):=by
    unfold mIt
    rw[show zD 0 [.v (toD e),.v N,.v (.int i),.o (F.map D.int),.o [],.un]=some (toD e) from rfl,nC];rfl
   rw[it];exact q2
  unfold QH at s2
  rw[yU s2]
  refine qM ?_
  unfold WE zIM
  have o4:o7 4 [.v (toD e),.v N,.v (.int i),.o (B'.map D.int),.o ys,s']=some ys:=rfl
  have l1:xF (zC (wS (zC (zD 1) (zC (zD 2) zR))) zR) [.v (toD e),.v N,.v (.int i),.o (B'.map D.int),.o ys,s']=some [M]:=rfl
  rw[o4,Option.bind_some,l1,Option.bind_some,if_pos (Nat.le_trans (show ys.length+([M]:List D).length<=100 by show ys.length+1<=100;lia) (by decide))];rfl
noncomputable abbrev tsk(d:D)(b:Bool):D:=.tup [d,.dct [] [],.bl b]
section
variable{mo:Int}{df:D}
theorem nO{n:Nat}{s:Int}{w c:List D}{t:D}{st:Mst}(h:cT ⟨mo,s,w++[t],c,.non,df⟩=some st):dC (n+1) ⟨mo,s,w++[t],c,.non,df⟩=dC n st:=by
 show(if (w++[t]).isEmpty=false/\nonB .non=true then (cT _).bind (dC n) else _)=_
 rw[if_pos ⟨by simp,rfl⟩,h];rfl
theorem zDT{s:Int}{w c:List D}{e:D}:cT ⟨mo,s,w++[tsk e false],c,.non,df⟩=(zW ⟨mo,s,w,c,.non,df⟩ [e,.dct [] []]).map (·.2):=by
 unfold cT
 rw[show(w++[tsk e false]).getLast?=some (tsk e false) by simp]
 show(zW ⟨mo,s,(w++[tsk e false]).dropLast,c,.non,df⟩ _).map _=_
 rw[List.dropLast_concat]
theorem zDS{s:Int}{w c:List D}{e:D}:cT ⟨mo,s,w++[tsk e true],c,.non,df⟩=(yA ⟨mo,s,w,c,.non,df⟩ [e]).bind fun p=>(wE p.2 [e,.dct [] [],p.1]).map (·.2):=by
 unfold cT
 rw[show(w++[tsk e true]).getLast?=some (tsk e true) by simp]
 show(yA ⟨mo,s,(w++[tsk e true]).dropLast,c,.non,df⟩ _).bind _=_
 rw[List.dropLast_concat]
theorem d5{n:Nat}(h:n<=100000):n<sizeLine:=Nat.lt_of_le_of_lt h (by decide)
theorem beg{s:Int}{w c:List D}{e:D}(h:w.length<=100000):yN ⟨mo,s,w,c,.non,df⟩ [e,.dct [] []]=some (.non,⟨mo,s,w++[tsk e false],c,.non,df⟩):=if_pos (d5 h)
theorem zFE{s:Int}{w c:List D}{W:List Nat}{r:List D}{n:Nat}{l:List Int}{ps:List D}(hl:(b4 AH W).getD []=l)(hp:l.reverse.map (fun i=>ixD (.tup (.str W::r)) (.int i))=ps.map some)(hw:w.length+l.length<=90000):dC (n+1) ⟨mo,s,w++[tsk (.tup (.str W::r)) false],c,.non,df⟩=dC n ⟨mo,s,w++tsk (.tup (.str W::r)) true::ps.map (tsk · false),c,.non,df⟩:=by
 refine nO ?_
 rw[zDT]
 unfold zW
 show Option.map _ (if w.length<sizeLine then _ else none)=_
 rw[if_pos (show w.length<sizeLine from d5 (by lia))]
 show((some ((b4 AH W).getD [])).bind _).map _=_
 rw[hl,Option.bind_some]
 have hll:l.reverse.length=l.length:=List.length_reverse
 have push:∀(is:List Int) (ps w:List D),is.map (fun i=>ixD (.tup (.str W::r)) (.int i))=ps.map some->w.length+is.length<=95000->nR (.tup (.str W::r)) (.dct [] []) is ⟨mo,s,w,c,.non,df⟩=some ⟨mo,s,w++ps.map (tsk · false),c,.non,df⟩:=by
  intro is
  induction is with
  |nil=>intro ps w h _;cases ps with
   |nil=>simp[nR]
   |cons=>cases h
  |cons i is ih=>
   intro ps w h hw
   cases ps with
   |nil=>cases h
   |cons p ps=>
    rw[List.map_cons,List.map_cons] at h
    obtain⟨h1,h2⟩:=List.cons.inj h
    rw[List.length_cons] at hw
    unfold nR
    rw[h1,Option.bind_some,beg (by lia),Option.bind_some,ih ps _ h2 (by simp;lia)]
    simp
 rw[show JS ⟨mo,s,w,c,.non,df⟩ (.tup [.tup (.str W::r),.dct [] [],.bl true])=⟨mo,s,w++[tsk (.tup (.str W::r)) true],c,.non,df⟩ from rfl,push _ ps _ hp (by simp;lia)]
 simp
theorem zGT{s:Int}{w c q:List D}{W:List Nat}{r:List D}{n:Nat}{l:List Int}{st:Mst}{mm:Mst->List D->Option (D×Mst)}{x:D}(hl:(b4 AH W).getD []=l)(hq:q.length=l.length)(h4:l.length<=4)(hm:ways W=some mm)(h:mm ⟨mo,s,w,c,.non,df⟩ [.tup (.str W::r),.dct [] [],.lst q]=some (x,st)):dC (n+1) ⟨mo,s,w++[tsk (.tup (.str W::r)) true],c++q,.non,df⟩=dC n st:=by
 refine nO ?_
 rw[zDS]
 unfold yA
 show((some ((b4 AH W).getD [])).bind _).bind _=_
 rw[hl,Option.bind_some,if_pos ⟨by show l.length<=(c++q).length;rw[List.length_append];lia,d5 (by lia)⟩,Option.bind_some]
 have e1:(c++q).length-l.length=c.length:=by rw[List.length_append];lia
 show(wE ⟨mo,s,w,(c++q).take ((c++q).length-l.length),.non,df⟩ [_,_,.lst ((c++q).drop ((c++q).length-l.length))]).map _=_
 rw[e1,List.take_left,List.drop_left]
 unfold wE
 show(((ways W).bind fun mm=>(mm _ _).map _)).map _=_
 rw[hm,Option.bind_some,h];rfl
noncomputable def Runs(mo:Int)(df d:D)(s0 s1 v:Int)(t h:Nat):Prop:=∀(w c:List D) (n:Nat),w.length+h<=80000->c.length+h<=80000->dC (t+n) ⟨mo,s0,w++[tsk d false],c,.non,df⟩=dC n ⟨mo,s1,w,c++[.int v],.non,df⟩
theorem tel{s:Int}{w c:List D}{v:D}(h:c.length<=100000):qQ ⟨mo,s,w,c,.non,df⟩ [v]=some (.non,⟨mo,s,w,c++[v],.non,df⟩):=if_pos (d5 h)
theorem XA(s i:Int)(m:D):Runs mo df (.tup [.str [110,117,109],.int i,m]) s s i 2 2:=fun w c n h1 h2=>by
 rw[show 2+n=(n+1)+1 by lia,zFE (l:=[]) (ps:=[]) rfl rfl (by simp;lia)]
 have:=zGT (mo:=mo) (df:=df) (s:=s) (w:=w) (c:=c) (q:=[]) (W:=[110,117,109]) (r:=[.int i,m]) (n:=n) (l:=[]) (x:=.non) rfl rfl (by decide) rfl (tel (v:=.int i) (by lia))
 rw[List.append_nil] at this
 exact this
theorem kS{W:List Nat}(h:wd W):(b4 AH W).getD []=[1,2]/\ways W=some yB:=by
 rcases h with rfl|rfl|rfl|rfl<;>exact⟨rfl,rfl⟩
theorem nM{W:List Nat}{x y m:D}{s0 s1 s2 va vb:Int}{ta tb h:Nat}(hW:wd W)(ha:small va)(hb:small vb)(rx:Runs mo df x s0 s1 va ta h)(ry:Runs mo df y s1 s2 vb tb h):Runs mo df (.tup [.str W,x,y,m]) s0 s2 (wk W va vb) (ta+tb+2) (h+3):=fun w c n h1 h2=>by
 rw[show ta+tb+2+n=(ta+(tb+(n+1)))+1 by lia,zFE (l:=[1,2]) (ps:=[y,x]) (kS hW).1 rfl (by simp;lia)]
 show dC _ ⟨mo,s0,w++[tsk _ true,tsk y false,tsk x false],c,.non,df⟩=_
 have e1:=rx (w++[tsk (.tup [.str W,x,y,m]) true,tsk y false]) c (tb+(n+1)) (by simp;lia) (by lia)
 rw[List.append_assoc] at e1
 refine e1.trans ?_
 have e2:=ry (w++[tsk (.tup [.str W,x,y,m]) true]) (c++[.int va]) (n+1) (by simp;lia) (by simp;lia)
 rw[List.append_assoc] at e2
 refine e2.trans ?_
 rw[List.append_assoc]
 exact zGT (q:=[.int va,.int vb]) (l:=[1,2]) (x:=.non) (kS hW).1 rfl (by show 2<=4;decide) (kS hW).2 (by
  show(if small va/\small vb then qQ _ _ else none)=_
  rw[if_pos ⟨ha,hb⟩,tel (by lia)])
theorem tZ{x y z m:D}{s0 s1 s2 va v:Int}{ta tb h:Nat}(rx:Runs mo df x s0 s1 va ta h)(ry:Runs mo df (if va=0 then z else y) s1 s2 v tb h):Runs mo df (.tup [.str [105,102],x,y,z,m]) s0 s2 v (ta+tb+2) (h+3):=fun w c n h1 h2=>by
 rw[show ta+tb+2+n=(ta+((tb+n)+1))+1 by lia,zFE (l:=[1]) (ps:=[x]) rfl rfl (by simp;lia)]
 show dC _ ⟨mo,s0,w++[tsk _ true,tsk x false],c,.non,df⟩=_
 have e1:=rx (w++[tsk (.tup [.str [105,102],x,y,z,m]) true]) c ((tb+n)+1) (by simp;lia) (by lia)
 rw[List.append_assoc] at e1
 refine e1.trans ?_
 refine(zGT (q:=[.int va]) (l:=[1]) (x:=.non) (st:=⟨mo,s1,w++[tsk (if va=0 then z else y) false],c,.non,df⟩) (mm:=qY) rfl rfl (by show 1<=4;decide) rfl ?_).trans (ry w c n (by lia) (by lia))
 show(if va=0 then yN _ _ else yN _ _)=_
 split<;>exact beg (by lia)
theorem dA{ks:List Key}{l:List D}{s:List Nat}{m d:D}{s0 s1 v:Int}{t h:Nat}(hs:s0<mo)(hd:qI ks l (.inr ⟨s.toArray⟩)=some d)(r:Runs mo (.dct ks l) d (s0+1) s1 v t h):Runs mo (.dct ks l) (.tup [.str [110,97,109,101],.str s,m]) s0 s1 v (t+2) (h+3):=fun w c n h1 h2=>by
 rw[show t+2+n=((t+n)+1)+1 by lia,zFE (l:=[]) (ps:=[]) rfl rfl (by simp;lia)]
 have:=zGT (mo:=mo) (df:=.dct ks l) (s:=s0) (w:=w) (c:=c) (q:=[]) (W:=[110,97,109,101]) (r:=[.str s,m]) (n:=t+n) (l:=[]) (x:=.non) (st:=⟨mo,s0+1,w++[tsk d false],c,.non,.dct ks l⟩) (mm:=xB) rfl rfl (by decide) rfl (by
  unfold xB
  show(qR _ []).bind _=_
  unfold qR
  rw[if_neg (show ¬mo<=s0 by lia),Option.bind_some]
  show(qI ks l _).bind _=_
  rw[hd,Option.bind_some];exact beg (by lia))
 rw[List.append_nil] at this
 refine this.trans (r w c n (by lia) (by lia))
noncomputable def zGJ(mo:Int)(df d:D)(s0 s1:Int)(t h:Nat):Prop:=∀(w c:List D) (n:Nat),w.length+h<=80000->c.length+h<=80000->∃w' c',dC (t+n) ⟨mo,s0,w++[tsk d false],c,.non,df⟩=some ⟨mo,s1,w',c',nD,df⟩
theorem pJ{ks:List Key}{l:List D}{s:List Nat}{m:D}{s0:Int}(hs:mo<=s0):zGJ mo (.dct ks l) (.tup [.str [110,97,109,101],.str s,m]) s0 s0 3 3:=fun w c n h1 h2=>by
 refine⟨w,c,?_⟩
 rw[show 3+n=((n+1)+1)+1 by lia,zFE (l:=[]) (ps:=[]) rfl rfl (by simp;lia)]
 have:=zGT (mo:=mo) (df:=.dct ks l) (s:=s0) (w:=w) (c:=c) (q:=[]) (W:=[110,97,109,101]) (r:=[.str s,m]) (n:=n+1) (l:=[]) (x:=.non) (st:=⟨mo,s0,w,c,nD,.dct ks l⟩) (mm:=xB) rfl rfl (by decide) rfl (by
  unfold xB
  show(qR _ []).bind _=_
  unfold qR
  rw[if_pos hs];rfl)
 rw[List.append_nil] at this
 refine this.trans ?_
 show(if _/\nonB nD=true then _ else _)=_
 rw[if_neg (fun z=>by have:=z.2;revert this;decide)]
theorem pI{W:List Nat}{x y m:D}{s0 s1:Int}{t h:Nat}(hW:wd W)(r:zGJ mo df x s0 s1 t h):zGJ mo df (.tup [.str W,x,y,m]) s0 s1 (t+1) (h+3):=fun w c n h1 h2=>by
 obtain⟨w',c',e⟩:=r (w++[tsk (.tup [.str W,x,y,m]) true,tsk y false]) c n (by simp;lia) (by lia)
 refine⟨w',c',?_⟩
 rw[show t+1+n=(t+n)+1 by lia,zFE (l:=[1,2]) (ps:=[y,x]) (kS hW).1 rfl (by simp;lia)]
 rw[List.append_assoc] at e
 exact e
theorem pH{W:List Nat}{x y m:D}{s0 s1 s2 va:Int}{ta t h:Nat}(hW:wd W)(rx:Runs mo df x s0 s1 va ta h)(r:zGJ mo df y s1 s2 t h):zGJ mo df (.tup [.str W,x,y,m]) s0 s2 (ta+t+1) (h+3):=fun w c n h1 h2=>by
 obtain⟨w',c',e⟩:=r (w++[tsk (.tup [.str W,x,y,m]) true]) (c++[.int va]) n (by simp;lia) (by simp;lia)
 refine⟨w',c',?_⟩
 rw[show ta+t+1+n=(ta+(t+n))+1 by lia,zFE (l:=[1,2]) (ps:=[y,x]) (kS hW).1 rfl (by simp;lia)]
 have e1:=rx (w++[tsk (.tup [.str W,x,y,m]) true,tsk y false]) c (t+n) (by simp;lia) (by lia)
 rw[List.append_assoc] at e1
 refine e1.trans ?_
 rw[List.append_assoc] at e
 exact e
theorem Runs.mono{d:D}{s0 s1 v:Int}{t h h':Nat}(r:Runs mo df d s0 s1 v t h)(hh:h<=h'):Runs mo df d s0 s1 v t h':=fun w c n h1 h2=>r w c n (by lia) (by lia)
theorem wB:∀{e:Ex} {d:D},Mk e d->gd e->∀s:Int,∃t,t<=2*nd e/\Runs mo df d s s (val e) t (3*dp e+2)
 |_,_,.num n m,h,s=>⟨2,Nat.le_refl 2,XA s n m⟩
 |_,_,.two (w:=W) (a:=a) (b:=b) m ha hb,h,s=>by
  obtain⟨ta,t1,ra⟩:=wB ha h.2.1 s
  obtain⟨tb,t2,rb⟩:=wB hb h.2.2 s
  refine⟨ta+tb+2,by show _<=2*(1+nd a+nd b);lia,?_⟩
  exact nM (m:=m) (h:=3*max (dp a) (dp b)+2) h.1 (x6 a h.2.1) (x6 b h.2.2) (ra.mono (by lia)) (rb.mono (by lia))
 |_,_,.iff (a:=a) (b:=b) (c:=c) m ha hb hc,h,s=>by
  obtain⟨ta,t1,ra⟩:=wB ha h.1 s
  obtain⟨tb,t2,rb⟩:=wB hb h.2.1 s
  obtain⟨tc,t3,rc⟩:=wB hc h.2.2 s
  have ev:val (.iff a b c)=if val a=0 then val c else val b:=rfl
  have hd:dp (.iff a b c)=max (max (dp a) (dp b)) (dp c)+1:=rfl
  by_cases z:val a=0
  ·refine⟨ta+tc+2,by show _<=2*(1+nd a+nd b+nd c);lia,?_⟩
   rw[ev,if_pos z]
   refine(tZ (h:=3*max (max (dp a) (dp b)) (dp c)+2) (ra.mono (by lia)) ?_).mono (by lia)
   rw[if_pos z];exact rc.mono (by lia)
  ·refine⟨ta+tb+2,by show _<=2*(1+nd a+nd b+nd c);lia,?_⟩
   rw[ev,if_neg z]
   refine(tZ (h:=3*max (max (dp a) (dp b)) (dp c)+2) (ra.mono (by lia)) ?_).mono (by lia)
   rw[if_neg z];exact rb.mono (by lia)
 |_,_,.nm s m,h,_=>h.elim
end
theorem YX(i:Int):∃as,tQ [.v (.int i)]=some (.v (.int i),as):=by
 refine jN (r':=[.v (.int i),.o [.int i],.o [],.o [.int i],.v (.int i)]) ?_
 show mW [.v (.int i),.un,.un,.un,.un]=_
 unfold mW
 rw[yU (r':=[.v (.int i),.o [],.un,.un,.un]) (by rfl),yU (r':=[.v (.int i),.o [],.o [.int i],.un,.un]) (by rfl)]
 rw[yU (r':=[.v (.int i),.o [.int i],.o [],.un,.un]) ?_]
 ·rw[yU (r':=[.v (.int i),.o [.int i],.o [],.o [],.un]) (by rfl)]
  rw[yU (r':=[.v (.int i),.o [.int i],.o [],.o [.int i],.v (.int i)]) ?_]
  ·rfl
  ·rfl
 ·rw[show WF=(99998+1)+1 from rfl,b7 (r':=[.v (.int i),.o [.int i],.o [],.un,.un]) (by rfl) (by rfl),vP (by rfl)]
noncomputable abbrev Pr:=List (List Nat×Ex)
noncomputable def prog(ps:Pr):List D:=ps.map fun p=>.tup [.str p.1,toD p.2]
noncomputable def ky(s:List Nat):Key:=.inr ⟨s.toArray⟩
theorem zE4{s t:List Nat}(h:ky s=ky t):s=t:=by
 have h1:(⟨s.toArray⟩:Str)=⟨t.toArray⟩:=Sum.inr.inj h
 have h2:=congrArg (fun x:Str=>x.cps.toList) h1
 simpa using h2
noncomputable def MkP:Pr->List D->Prop
 |[],l=>l=[]
 |p::ps,l=>∃d t,l=d::t/\Mk p.2 d/\MkP ps t
noncomputable def zGL(ps:Pr):Prop:=∀p∈ps,dp p.2<40/\nd p.2<=1000
theorem YH:∀(ps:Pr) (x y:Sl),fre x->fre y->zGL ps->∃l:List D,MkP ps l/\jH (uS 2 (xJ (yW 0) (xJ (yW 1) b6))) dY (wS (zC (zD 0) (zC (z6 3 (wI RF) (zC (zD 1) (zC (zD 0) (zC (mC (.int 0)) zR)))) zR))) (prog ps) [x,y]=some (List.zipWith (fun p d=>.tup [.str p.1,d]) ps l)
 |[],x,y,hx,hy,h=>⟨[],rfl,rfl⟩
 |p::ps,x,y,hx,hy,h=>by
  obtain⟨d,hd,e⟩:=dR (.str p.1) RF p.2 0 (h p (by simp)).1 (Nat.le_trans (h p (by simp)).2 (by decide))
  obtain⟨l,h1,h2⟩:=YH ps (.v (.str p.1)) (.v (toD p.2)) trivial trivial fun q hq=>h q (by simp[hq])
  refine⟨d::l,⟨d,l,rfl,hd,h1⟩,?_⟩
  have e1:uS 2 (xJ (yW 0) (xJ (yW 1) b6)) (.tup [.str p.1,toD p.2]) [x,y]=some [.v (.str p.1),.v (toD p.2)]:=bdP (r1:=[.v (.str p.1),y]) (yK (i:=0) (x:=x) rfl hx) (yK (i:=1) (x:=y) rfl hy)
  have e2:wS (zC (zD 0) (zC (z6 3 (wI RF) (zC (zD 1) (zC (zD 0) (zC (mC (.int 0)) zR)))) zR)) [.v (.str p.1),.v (toD p.2)]=some (.tup [.str p.1,d]):=qJ (zG rfl (zG (yZ (p:=.v d) (zG rfl (zG rfl (zG zN zX))) rfl e) zX)) (by show 2<=100;decide)
  show jH _ _ _ (D.tup [.str p.1,toD p.2]::prog ps) [x,y]=_
  unfold jH
  rw[e1,Option.bind_some,show dY [.v (.str p.1),.v (toD p.2)]=some true from rfl,Option.bind_some,if_pos rfl,e2,Option.bind_some,h2];rfl
noncomputable def Ds(ps:Pr)(l:List D):List (Key×D):=List.zipWith (fun p d=>(ky p.1,d)) ps l
theorem nX:∀(ps:Pr) (l:List D),dJ (List.zipWith (fun p d=>.tup [.str p.1,d]) ps l)=some (Ds ps l)
 |[],l=>rfl
 |p::ps,[]=>rfl
 |p::ps,d::l=>by
  have ih:=nX ps l
  show(dJ (D.tup [.str p.1,d]::List.zipWith _ ps l))=_
  unfold dJ
  rw[ih];rfl
theorem oI:∀(q:List (Key×D)) (ks:List Key) (l:List D),(∀p∈q,p.1∉ks)->(q.map (·.1)).Nodup->q.foldl (fun z p=>zCW z.1 z.2 p.1 p.2) (ks,l)=(ks++q.map (·.1),l++q.map (·.2))
 |[],ks,l,h,hn=>by simp
 |p::q,ks,l,h,hn=>by
  have e:zCW ks l p.1 p.2=(ks++[p.1],l++[p.2]):=by
   unfold zCW
   rw[if_neg]
   intro z
   obtain⟨j,h1,h2⟩:=List.any_eq_true.mp z
   exact h p (by simp) (of_decide_eq_true h2 ▸ h1)
  rw[List.map_cons,List.nodup_cons] at hn
  rw[List.foldl_cons,e,oI q _ _ (fun p' hp hm=>by
   rcases List.mem_append.mp hm with z|z
   ·exact h p' (by simp[hp]) z
   ·have z':p'.1=p.1:=by simpa using z
    exact hn.1 (z' ▸ List.mem_map.mpr ⟨p',hp,rfl⟩)) hn.2]
  simp
theorem ZP:∀(q:List (Key×D)) (p:Key×D),p∈q->(q.map (·.1)).Nodup->qI (q.map (·.1)) (q.map (·.2)) p.1=some p.2
 |a::q,p,h,hn=>by
  rw[List.map_cons,List.nodup_cons] at hn
  rw[List.map_cons,List.map_cons]
  unfold qI
  rcases List.mem_cons.mp h with rfl|h
  ·rw[if_pos rfl]
  ·have ne:¬a.1=p.1:=fun z=>hn.1 (z ▸ List.mem_map.mpr ⟨p,h,rfl⟩)
   rw[if_neg ne]
   exact ZP q p h hn.2
theorem Z3:∀{ps:Pr} {l:List D},MkP ps l->(Ds ps l).map (·.1)=ps.map fun p=>ky p.1
 |[],l,h=>by cases (show l=[] from h);rfl
 |p::ps,l,h=>by obtain⟨d,t,rfl,_,h⟩:=h;show ky p.1::(Ds ps t).map _=_;rw[Z3 h];rfl
theorem zB9:∀{ps:Pr} {l:List D},MkP ps l->∀p∈ps,∃d,Mk p.2 d/\(ky p.1,d)∈Ds ps l
 |[],l,h,p,hp=>by cases hp
 |q::ps,l,h,p,hp=>by
  obtain⟨d,t,rfl,hd,h⟩:=h
  rcases List.mem_cons.mp hp with rfl|hp
  ·exact⟨d,hd,by show _∈(ky p.1,d)::Ds ps t;simp⟩
  ·obtain⟨d',h1,h2⟩:=zB9 h p hp
   exact⟨d',h1,by show _∈(ky q.1,d)::Ds ps t;simp[h2]⟩
theorem X4{ps:Pr}(h:(ps.map (·.1)).Nodup):(ps.map fun p=>ky p.1).Nodup:=by
 rw[show(ps.map fun p=>ky p.1)=(ps.map (·.1)).map ky by rw[List.map_map];rfl]
 generalize ps.map (·.1)=l at h
 induction l with
 |nil=>exact List.nodup_nil
 |cons a l ih=>
  rw[List.nodup_cons] at h
  rw[List.map_cons,List.nodup_cons]
  refine⟨fun z=>?_,ih h.2⟩
  obtain⟨b,h1,h2⟩:=List.mem_map.mp z
  exact h.1 (zE4 h2 ▸ h1)
theorem zGG{ps:Pr}(hp:zGL ps)(hl:ps.length<=1000)(hn:(ps.map (·.1)).Nodup):∃(ks:List Key) (l:List D),dd (.lst (prog ps))=some (.dct ks l)/\∀p∈ps,∃d,Mk p.2 d/\qI ks l (ky p.1)=some d:=by
 obtain⟨l,h1,h2⟩:=YH ps .un .un trivial trivial hp
 have nk:((Ds ps l).map (·.1)).Nodup:=by rw[Z3 h1];exact X4 hn
 refine⟨(Ds ps l).map (·.1),(Ds ps l).map (·.2),?_,fun p hp=>?_⟩
 ·unfold dd ddE zC9 WG jO qV
  have it:mIt (zD 1) [.un,.v (.lst (prog ps)),.v (.int 0)]=some (prog ps):=rfl
  rw[it,Option.bind_some,if_pos (show(prog ps).length<sizeLine by unfold prog;rw[List.length_map];exact Nat.lt_of_le_of_lt hl (by decide)),show tS [] 2 [.un,.v (.lst (prog ps)),.v (.int 0)]=[.un,.un] from rfl,h2,Option.bind_some,nX]
  show some (D.dct (QF (Ds ps l)).1 (QF (Ds ps l)).2)=_
  unfold QF
  rw[oI _ _ _ (fun _ _ z=>by cases z) nk];rfl
 ·obtain⟨d,q1,q2⟩:=zB9 h1 p hp
  exact⟨d,q1,ZP _ _ q2 nk⟩
noncomputable def wN:Pr->Ex->Ex
 |[],e=>e
 |p::r,e=>.two [43] (.nm p.1) (wN r e)
noncomputable def g8:Pr->Int->Int
 |[],v=>v
 |p::r,v=>wk [43] (val p.2) (g8 r v)
theorem dX:∀(r:Pr) {v:Int},small v->small (g8 r v)
 |[],v,h=>h
 |p::r,v,h=>nA _ _ _
section
variable{mo:Int}{ks:List Key}{l:List D}{e:Ex}
theorem dB(he:gd e)(h1:dp e<40)(h2:nd e<=1000):∀(r:Pr) (d:D) (s0:Int),zGL r->(∀p∈r,gd p.2/\∃x,Mk p.2 x/\qI ks l (ky p.1)=some x)->Mk (wN r e) d->s0+r.length<=mo->∃t,t<=2000+2004*r.length/\Runs mo (.dct ks l) d s0 (s0+r.length) (g8 r (val e)) t (200+3*r.length)
 |[],d,s0,hp,hr,hd,hm=>by
  obtain⟨t,t1,q⟩:=wB (mo:=mo) (df:=.dct ks l) (e:=e) hd he s0
  refine⟨t,by show _<=2000+0;lia,?_⟩
  rw[show s0+(([]:Pr).length:Int)=s0 by simp]
  exact q.mono (by show _<=200+0;lia)
 |p::r,d,s0,hp,hr,hd,hm=>by
  cases hd with
  |two m ha hb=>
   rename_i x y
   cases ha with
   |nm _ m'=>
    rw[List.length_cons] at hm
    obtain⟨gp,dx,mx,lx⟩:=hr p (by simp)
    obtain⟨pd,pn⟩:=hp p (by simp)
    obtain⟨ta,t1,ra⟩:=wB (mo:=mo) (df:=.dct ks l) mx gp (s0+1)
    obtain⟨tb,t2,rb⟩:=dB he h1 h2 r y (s0+1) (fun q hq=>hp q (by simp[hq])) (fun q hq=>hr q (by simp[hq])) hb (by lia)
    refine⟨(ta+2)+tb+2,by rw[List.length_cons];lia,?_⟩
    have q:=nM (m:=m) (h:=200+3*r.length) (W:=[43]) (.inl rfl) (x6 _ gp) (dX r (x6 _ he)) ((dA (m:=m') (s:=p.1) (by lia) lx ra).mono (by lia)) rb
    rw[show s0+((p::r).length:Int)=s0+1+(r.length:Int) by rw[List.length_cons];lia]
    exact q.mono (by rw[List.length_cons];lia)
theorem cS:∀(r:Pr) (d:D) (s0:Int),zGL r->(∀p∈r,gd p.2/\∃x,Mk p.2 x/\qI ks l (ky p.1)=some x)->Mk (wN r e) d->s0<=mo->mo<s0+r.length->∃t,t<=3+2004*r.length/\zGJ mo (.dct ks l) d s0 mo t (200+3*r.length)
 |[],d,s0,hp,hr,hd,hm,hm2=>by simp at hm2;lia
 |p::r,d,s0,hp,hr,hd,hm,hm2=>by
  cases hd with
  |two m ha hb=>
   rename_i x y
   cases ha with
   |nm _ m'=>
    rw[List.length_cons] at hm2
    by_cases z:mo<=s0
    ·obtain rfl:mo=s0:=by lia
     refine⟨3+1,by rw[List.length_cons];lia,fun w c n q1 q2=>?_⟩
     exact pI (m:=m) (W:=[43]) (.inl rfl) (pJ (m:=m') (s:=p.1) (Int.le_refl _)) w c n (by lia) (by lia)
    ·obtain⟨gp,dx,mx,lx⟩:=hr p (by simp)
     obtain⟨pd,pn⟩:=hp p (by simp)
     obtain⟨ta,t1,ra⟩:=wB (mo:=mo) (df:=.dct ks l) mx gp (s0+1)
     obtain⟨tb,t2,rb⟩:=cS r y (s0+1) (fun q hq=>hp q (by simp[hq])) (fun q hq=>hr q (by simp[hq])) hb (by lia) (by lia)
     refine⟨(ta+2)+tb+1,by rw[List.length_cons];lia,fun w c n q1 q2=>?_⟩
     rw[List.length_cons] at q1 q2
     exact pH (m:=m) (h:=200+3*r.length) (W:=[43]) (.inl rfl) ((dA (m:=m') (s:=p.1) (by lia) lx ra).mono (by lia)) rb w c n (by lia) (by lia)
end
theorem zB1{mo s v:Int}{df:D}:zH4 ⟨mo,s,[],[.int v],.non,df⟩=some (.tup [.str [118,97,108,117,101],.int s,.int v]):=by
 obtain⟨as,ht⟩:=YX v
 have e:([D.int v]:List D).getLast?=some (.int v):=rfl
 unfold zH4
 show(([D.int v]:List D).getLast?.bind _)=_
 rw[e,Option.bind_some,ht];rfl
noncomputable def YQ:List Nat:=[109,97,105,110]
section
variable{ps:Pr}{e:Ex}(hp:zGL (ps++[(YQ,wN ps.reverse e)]))(hg:∀p∈ps,gd p.2)(he:gd e)(h1:dp e<40)(h2:nd e<=1000)(hl:ps.length<=9)(hn:((ps++[(YQ,wN ps.reverse e)]).map (·.1)).Nodup)
include hp hg he h1 h2 hl hn
theorem pU{mo:Int}(hm:(ps.length:Int)<=mo):∃as,uV [.v (.lst (prog (ps++[(YQ,wN ps.reverse e)]))),.v (.int mo)]=some (.v (.tup [.str [118,97,108,117,101],.int ps.length,.int (g8 ps.reverse (val e))]),as):=by
 obtain⟨ks,l,q1,q2⟩:=zGG hp (by simp;lia) hn
 obtain⟨d,hd,ld⟩:=q2 (YQ,wN ps.reverse e) (by simp)
 have rl:ps.reverse.length=ps.length:=List.length_reverse
 obtain⟨t,t1,r⟩:=dB (mo:=mo) (ks:=ks) (l:=l) he h1 h2 ps.reverse d 0 (fun p z=>hp p (by simp at z ⊢;exact .inl z)) (fun p z=>by
  have z':p∈ps:=by simpa using z
  exact⟨hg p z',q2 p (by simp[z'])⟩) hd (by lia)
 have w:=r [] [] (WF-t) (by simp;lia) (by simp;lia)
 rw[show t+(WF-t)=WF by unfold WF;lia] at w
 refine⟨[.v (.lst (prog (ps++[(YQ,wN ps.reverse e)]))),.v (.int mo)],?_⟩
 unfold uV
 show(dd _).bind _=_
 rw[q1,Option.bind_some]
 unfold zHC
 show((qI ks l (ky YQ)).bind _).map _=_
 rw[ld,Option.bind_some]
 show((dC WF ⟨mo,0,[]++[tsk d false],[],.non,.dct ks l⟩).bind _).map _=_
 rw[w,show WF-t=(WF-t-1)+1 by unfold WF;lia]
 rw[show dC ((WF-t-1)+1) ⟨mo,0+((ps.reverse.length:Nat):Int),[],[]++[.int (g8 ps.reverse (val e))],.non,.dct ks l⟩=some ⟨mo,0+((ps.reverse.length:Nat):Int),[],[.int (g8 ps.reverse (val e))],.non,.dct ks l⟩ from if_neg (fun z=>by cases z.1)]
 rw[Option.bind_some,zB1,rl,Int.zero_add];rfl
theorem pV{mo:Int}(h0:0<=mo)(hm:mo<(ps.length:Int)):∃as,uV [.v (.lst (prog (ps++[(YQ,wN ps.reverse e)]))),.v (.int mo)]=some (.v (.tup [.str [116,105,114,101,100],.int mo,.non]),as):=by
 obtain⟨ks,l,q1,q2⟩:=zGG hp (by simp;lia) hn
 obtain⟨d,hd,ld⟩:=q2 (YQ,wN ps.reverse e) (by simp)
 have rl:ps.reverse.length=ps.length:=List.length_reverse
 obtain⟨t,t1,r⟩:=cS (mo:=mo) (ks:=ks) (l:=l) ps.reverse d 0 (fun p z=>hp p (by simp at z ⊢;exact .inl z)) (fun p z=>by
  have z':p∈ps:=by simpa using z
  exact⟨hg p z',q2 p (by simp[z'])⟩) hd h0 (by lia)
 obtain⟨w',c',w⟩:=r [] [] (WF-t) (by simp;lia) (by simp;lia)
 rw[show t+(WF-t)=WF by unfold WF;lia] at w
 refine⟨[.v (.lst (prog (ps++[(YQ,wN ps.reverse e)]))),.v (.int mo)],?_⟩
 unfold uV
 show(dd _).bind _=_
 rw[q1,Option.bind_some]
 unfold zHC
 show((qI ks l (ky YQ)).bind _).map _=_
 rw[ld,Option.bind_some]
 show((dC WF ⟨mo,0,[]++[tsk d false],[],.non,.dct ks l⟩).bind _).map _=_
 rw[w];rfl
end
structure Sh(d:D)(n b:Nat):Prop where
 ok:okD d=true
 sh:(toP d).showable=true
 nd:(toP d).hasDict=false
 dp:(toP d).depth<=n
 ls:PyData.leavesShort 13 (toP d)=true
 bk:(toP d).bulk<=b
structure ShL(l:List D)(n b:Nat):Prop where
 ok:zC7 l=true
 sh:PyData.showableAll (tR l)=true
 nd:PyData.hasDictAll (tR l)=false
 dp:PyData.depthAll (tR l)<=n
 ls:PyData.leavesShortAll 13 (tR l)=true
 bk:PyData.bulkAll (tR l)<=b
theorem kZ{n:Nat}:ShL [] n 0:=⟨rfl,rfl,rfl,Nat.zero_le _,rfl,Nat.le_refl _⟩
theorem xD{d:D}{l:List D}{n m b c k:Nat}(h:Sh d m b)(hl:ShL l n c)(hm:m<=n)(hk:b+1+c<=k):ShL (d::l) n k:=by
 refine⟨?_,?_,?_,?_,?_,?_⟩
 ·show(okD d && zC7 l)=true;rw[h.ok,hl.ok];rfl
 ·show((toP d).showable && PyData.showableAll (tR l))=true;rw[h.sh,hl.sh];rfl
 ·show((toP d).hasDict || PyData.hasDictAll (tR l))=false;rw[h.nd,hl.nd];rfl
 ·show max (toP d).depth (PyData.depthAll (tR l))<=n;have:=h.dp;have:=hl.dp;lia
 ·show(PyData.leavesShort 13 (toP d) && PyData.leavesShortAll 13 (tR l))=true;rw[h.ls,hl.ls];rfl
 ·show(toP d).bulk+1+PyData.bulkAll (tR l)<=k;have:=h.bk;have:=hl.bk;lia
theorem hX{l:List D}{n b:Nat}(h:ShL l n b):Sh (.tup l) (n+1) b:=⟨h.ok,h.sh,h.nd,Nat.succ_le_succ h.dp,h.ls,h.bk⟩
theorem cX{s:List Nat}(h:∀c∈s,c<16 ^ 8):Sh (.str s) 0 s.length:=by
 refine⟨rfl,rfl,rfl,Nat.le_refl _,?_,Nat.le_refl _⟩
 show(s.all fun c=>decide (c<16 ^ 8))=true
 exact List.all_eq_true.mpr fun c hc=>decide_eq_true (h c hc)
theorem zDY{i:Int}(h:small i):Sh (.int i) 0 0:=by
 refine⟨rfl,?_,rfl,Nat.le_refl _,?_,Nat.le_refl _⟩
 ·show decide (i.natAbs.log2<1920)=true
  refine decide_eq_true ?_
  have h2:i.natAbs<2 ^ 20:=by have:=h.1;have:=h.2;lia
  by_cases z:i.natAbs=0
  ·rw[z];decide
  ·exact Nat.lt_trans ((Nat.log2_lt z).mpr h2) (by decide)
 ·show decide ((PyData.int i).shown.length<=13)=true
  refine decide_eq_true ?_
  rw[PyData.shown]
  exact Nat.le_trans (toString_length_le h.1 (k:=6) (by decide) h.2) (by decide)
noncomputable def gr:Ex->Prop
 |.num n=>small n
 |.two w a b=>wd w/\gr a/\gr b
 |.iff a b c=>gr a/\gr b/\gr c
 |.nm s=>NmOk s
theorem rX:∀{e:Ex},gd e->gr e
 |.num n,h=>h
 |.two w a b,h=>⟨h.1,rX h.2.1,rX h.2.2⟩
 |.iff a b c,h=>⟨rX h.1,rX h.2.1,rX h.2.2⟩
 |.nm s,h=>h.elim
theorem zAQ{s:List Nat}(h:NmOk s):∀c∈s,c<16 ^ 8:=fun c hc=>by
 have a:∀c∈bl5++al,c<16 ^ 8:=by decide
 exact a c (h.ch c hc)
theorem zDM{w:List Nat}(h:wd w):(∀c∈w,c<16 ^ 8)/\w.length=1:=by
 rcases h with rfl|rfl|rfl|rfl<;>decide
theorem tW:∀{e:Ex},gr e->Sh (toD e) (dp e+1) (20*nd e)
 |.num n,h=>hX (xD (cX (by decide)) (xD (zDY h) kZ (Nat.le_refl 0) (Nat.le_refl _)) (Nat.le_refl 0) (show 3+1+(0+1+0)<=20*1 by decide))
 |.two w a b,h=>by
  have ha:=tW h.2.1
  have hb:=tW h.2.2
  have hw:=zDM h.1
  refine hX (n:=max (dp a) (dp b)+1) (xD (cX hw.1) (xD ha (xD hb kZ (by lia) (Nat.le_refl _)) (by lia) (Nat.le_refl _)) (Nat.zero_le _) ?_)
  show w.length+1+_<=20*(1+nd a+nd b);lia
 |.iff a b c,h=>by
  have ha:=tW h.1
  have hb:=tW h.2.1
  have hc:=tW h.2.2
  refine hX (n:=max (max (dp a) (dp b)) (dp c)+1) (xD (cX (by decide)) (xD ha (xD hb (xD hc kZ (by lia) (Nat.le_refl _)) (by lia) (Nat.le_refl _)) (by lia) (Nat.le_refl _)) (Nat.zero_le _) ?_)
  show 2+1+_<=20*(1+nd a+nd b+nd c);lia
 |.nm s,h=>hX (xD (cX (by decide)) (xD (cX (zAQ h)) kZ (Nat.le_refl 0) (Nat.le_refl _)) (Nat.le_refl 0) (by have:=h.len;show 4+1+(s.length+1+0)<=20;lia))
theorem tV:∀{ps:Pr},(∀p∈ps,(∀c∈p.1,c<16 ^ 8)/\p.1.length<=8/\gr p.2/\dp p.2<40/\nd p.2<=1000)->ShL (prog ps) 50 (20100*ps.length)
 |[],h=>kZ
 |p::ps,h=>by
  obtain⟨h1,h2,h3,h4,h5⟩:=h p (by simp)
  have ih:=tV (ps:=ps) fun q hq=>h q (by simp[hq])
  refine xD (hX (xD (cX h1) (xD (tW h3) kZ (Nat.le_refl _) (Nat.le_refl _)) (Nat.zero_le _) (Nat.le_refl _))) ih (by lia) ?_
  rw[List.length_cons];lia
theorem JP{ps:Pr}(hl:ps.length<=50)(h:∀p∈ps,(∀c∈p.1,c<16 ^ 8)/\p.1.length<=8/\gr p.2/\dp p.2<40/\nd p.2<=1000):dD (prog ps)=true:=by
 have q:=tV h
 have e1:(toP (.lst (prog ps))).bulk<=2 ^ 20:=Nat.le_trans q.bk (by lia)
 have e2:=PyData.shown_fits_bulk (B:=13) (by decide) (by decide) (d:=toP (.lst (prog ps))) q.ls e1
 have e3:(toP (.lst (prog ps))).showable=true:=q.sh
 have e4:(toP (.lst (prog ps))).hasDict=false:=q.nd
 have e5:(toP (.lst (prog ps))).depth<=150:=by
  show PyData.depthAll (tR (prog ps))+1<=150
  have:=q.dp;lia
 unfold dD
 rw[q.ok,e3,e4,decide_eq_true e5,decide_eq_true e2];rfl
theorem YM(ns:List Int)(k:Nat):∃c:Int,∃as,qG [.v (.lst (ns.map .int)),.v (.int (k:Int))]=some (.v (.int c),as):=by
 let R:En:=[.v (.lst (ns.map .int)),.v (.int (k:Int))]
 have t:mBl (zH ltA (zD 1) (mUn vG (zD 0))) R=some (decide ((k:Int)<(ns.length:Int))):=g9 (zY (x:=.int (k:Int)) (y:=.int (ns.length:Int)) rfl (kY (x:=.lst (ns.map .int)) rfl (by show some (D.int ((ns.map D.int).length:Int))=_;rw[List.length_map])) rfl)
 by_cases h:k<ns.length
 ·rw[decide_eq_true (by lia)] at t
  refine⟨ns[k],jN (r':=R) ?_⟩
  show wP R=_
  unfold wP
  refine cY t (qM (zY (x:=.lst (ns.map .int)) (y:=.int (k:Int)) rfl rfl (xS ?_)))
  rw[List.getElem?_map,List.getElem?_eq_getElem h];rfl
 ·rw[decide_eq_false (by lia)] at t
  exact⟨0,jN (r':=R) (qK t (qM zN))⟩
noncomputable abbrev Ef(S:D)(F:Int)(cs:List Int)(M:Nat)(nm:List (List Nat))(P:List D)(T:Int)(k x8 x9 x10 x11 x12 x13:Sl):En:=
 [.v S,.v (.int F),.v (.lst (cs.map .int)),.v (.int (M:Int)),.v (.lst (nm.map .str)),.o P,.v (.int T),k,x8,x9,x10,x11,x12,x13,.un,.un]
noncomputable def zCQ:MS:=(qH 8 (z6 3 wT (zC (zD 8) (zC (zH ixD (zD 2) (zD 9)) (zC (zD 9) zR)))))
section
variable{S:D}{F:Int}{cs:List Int}{M:Nat}{nm:List (List Nat)}{P:List D}{T:Int}{k x10 x11 x12 x13:Sl}
theorem gC:∀(L:List Nat) (es:List Ex) (x9:Sl),fre x9->(∀j∈L,j<cs.length)->(∀e∈es,gd e)->es≠[]->tl es+L.length<=900->∃(es':List Ex) (x9':Sl),fre x9'/\(∀e∈es',gd e)/\es'≠[]/\tl es'<=tl es+L.length /\
  ZY (yW 9) zCQ (L.map fun(j:Nat)=>D.int (j:Int)) (Ef S F cs M nm P T k (.v (.lst (es.map itm))) x9 x10 x11 x12 x13)=some (.nx (Ef S F cs M nm P T k (.v (.lst (es'.map itm))) x9' x10 x11 x12 x13))
 |[],es,x9,hx,hL,hg,h0,hl=>⟨es,x9,hx,hg,h0,Nat.le_refl _,rfl⟩
 |j::L,es,x9,hx,hL,hg,h0,hl=>by
  have hj:=hL j (by simp)
  rw[List.length_cons] at hl
  have tl0:=YY es
  obtain⟨es1,g1,z1,t1,as,e1⟩:=WN hg (by lia) (cs[j]) (j:Int)
  obtain⟨es',x9',q1,q2,q3,q4,q5⟩:=gC L es1 (.v (.int (j:Int))) trivial (fun i hi=>hL i (by simp[hi])) g1 z1 (by lia)
  refine⟨es',x9',q1,q2,q3,by rw[List.length_cons];lia,?_⟩
  rw[List.map_cons,bY (r1:=Ef S F cs M nm P T k (.v (.lst (es.map itm))) (.v (.int (j:Int))) x10 x11 x12 x13) (yK (i:=9) (x:=x9) rfl hx) (r':=Ef S F cs M nm P T k (.v (.lst (es1.map itm))) (.v (.int (j:Int))) x10 x11 x12 x13) ?_,q5]
  refine jI (d:=.lst (es1.map itm)) (yZ (p:=.v (.lst (es1.map itm))) (zG (x:=.lst (es.map itm)) rfl (zG (x:=.int cs[j]) ?_ (zG rfl zX))) rfl ⟨as,e1⟩) rfl
  refine zY (x:=.lst (cs.map .int)) (y:=.int (j:Int)) rfl rfl (xS ?_)
  rw[List.getElem?_map,List.getElem?_eq_getElem hj];rfl
end
theorem zHA{k n M:Nat}(hM:M=1\/M=2\/M=3)(hn:n<=28*M):b3 (k:Int) (n:Int) (M:Int)<=28/\∀i<b3 (k:Int) (n:Int) (M:Int),k+i*M<n:=by
 unfold b3
 rcases hM with rfl|rfl|rfl
 ·exact⟨by omega,fun i hi=>by omega⟩
 ·exact⟨by omega,fun i hi=>by omega⟩
 ·exact⟨by omega,fun i hi=>by omega⟩
noncomputable def QJ(z:MS):MS:=(yM (qH 8 (jW (xF (zC (z6 2 xL (zC (zD 1) (zC (z6 2 zU (zC (zD 1) (zC (zD 7) zR))) zR))) zR)))) (yM (nL (yW 9) (ZK (zD 7) (mUn vG (zD 2)) (zD 3)) zCQ) (yM (zC5 (z6 2 xG (zC (zD 8) (zC (zH qA (zD 1) (zD 7)) zR))) (uS 3 (xJ (yW 10) (xJ (yW 11) (xJ (yW 12) b6))))) z)))
theorem zAH{S:D}{F:Int}{cs:List Int}{M:Nat}(hM:M=1\/M=2\/M=3)(hc:cs.length<=28*M){nm:List (List Nat)}{P:List D}{T:Int}{k:Nat}(hk:k<=10){x8 x9 x10 x11 x12 x13:Sl}(h8:fre x8)(h9:fre x9)(h10:fre x10)(h11:fre x11)(h12:fre x12):∃(q:Ex) (y8 y9:Sl),fre y8/\fre y9/\gd q/\lv q<=29/\∀z,QJ z (Ef S F cs M nm P T (.v (.int (k:Int))) x8 x9 x10 x11 x12 x13)=z (Ef S F cs M nm P T (.v (.int (k:Int))) y8 y9 (.v (toD q)) (.v (.int (val q))) (.v (.int (dp q:Int))) x13):=by
 obtain⟨m,m0,hm⟩:=qN F (k:Int)
 obtain⟨x,hx,lx⟩:=ZQ F m
 obtain⟨sz,si⟩:=zHA (k:=k) hM hc
 let n3:=b3 (k:Int) (cs.length:Int) (M:Int)
 let L:List Nat:=(List.range n3).map fun i=>k+i*M
 have lL:L.length=n3:=by simp[L]
 have hL:∀j∈L,j<cs.length:=fun j hj=>by
  obtain⟨i,hi,rfl⟩:=List.mem_map.mp hj
  exact si i (List.mem_range.mp hi)
 let R0:En:=Ef S F cs M nm P T (.v (.int (k:Int))) x8 x9 x10 x11 x12 x13
 let R1:En:=Ef S F cs M nm P T (.v (.int (k:Int))) (.v (.lst ([Ex.num x].map itm))) x9 x10 x11 x12 x13
 have tx:tl [Ex.num x]=1:=rfl
 obtain⟨es,y9,f9,g1,g2,g3,g4⟩:=gC (S:=S) (F:=F) (cs:=cs) (M:=M) (nm:=nm) (P:=P) (T:=T) (k:=.v (.int (k:Int))) (x10:=x10) (x11:=x11) (x12:=x12) (x13:=x13) L [Ex.num x] x9 h9 hL (fun e he=>by rw[List.mem_singleton.mp he];exact hx) (by simp) (by lia)
 have el:=YY es
 obtain⟨q,q1,q2,q3⟩:=zBR (F+(k:Int)) g1 g2 (by lia)
 refine⟨q,.v (.lst (es.map itm)),y9,trivial,f9,q1,by lia,fun z=>?_⟩
 have s1:qH 8 (jW (xF (zC (z6 2 xL (zC (zD 1) (zC (z6 2 zU (zC (zD 1) (zC (zD 7) zR))) zR))) zR))) R0=some (.nx R1):=jI (d:=.lst ([Ex.num x].map itm)) (d6 (zG (yZ (p:=.v (itm (.num x))) (zG rfl (zG (yZ (p:=.v (.int m)) (zG rfl (zG rfl zX)) rfl hm) zX)) rfl lx) zX) (by show 1<=100;decide)) (yK (i:=8) (x:=x8) rfl h8)
 have rg:ZK (zD 7) (mUn vG (zD 2)) (zD 3) R1=some (L.map fun(j:Nat)=>D.int (j:Int)):=by
  have e5:mUn vG (zD 2) R1=some (.int (cs.length:Int)):=kY (x:=.lst (cs.map .int)) rfl (by show some (D.int ((cs.map D.int).length:Int))=_;rw[List.length_map])
  unfold ZK
  rw[show zD 7 R1=some (.int (k:Int)) from rfl,Option.bind_some,show DD.intD (D.int (k:Int))=some (k:Int) from rfl,Option.bind_some,e5,Option.bind_some,show DD.intD (D.int (cs.length:Int))=some (cs.length:Int) from rfl,Option.bind_some,show zD 3 R1=some (.int (M:Int)) from rfl,Option.bind_some,show DD.intD (D.int (M:Int))=some (M:Int) from rfl,Option.bind_some,if_pos (by lia)]
  show some ((List.range n3).map fun(i:Nat)=>D.int ((k:Int)+(i:Int)*(M:Int)))=some (((List.range n3).map fun i=>k+i*M).map fun(j:Nat)=>D.int (j:Int))
  rw[List.map_map]
  first|rfl|(congr 1;done)
 have s2:nL (yW 9) (ZK (zD 7) (mUn vG (zD 2)) (zD 3)) zCQ R1=some (.nx (Ef S F cs M nm P T (.v (.int (k:Int))) (.v (.lst (es.map itm))) y9 x10 x11 x12 x13)):=by
  unfold nL
  rw[rg]
  exact g4
 unfold QJ
 rw[yU s1,yU s2]
 have cf:z6 2 xG (zC (zD 8) (zC (zH qA (zD 1) (zD 7)) zR)) (Ef S F cs M nm P T (.v (.int (k:Int))) (.v (.lst (es.map itm))) y9 x10 x11 x12 x13)=some (itm q):=yZ (p:=.v (itm q)) (zG rfl (zG (wH rfl rfl) zX)) rfl q3
 have s3:zC5 (z6 2 xG (zC (zD 8) (zC (zH qA (zD 1) (zD 7)) zR))) (uS 3 (xJ (yW 10) (xJ (yW 11) (xJ (yW 12) b6)))) (Ef S F cs M nm P T (.v (.int (k:Int))) (.v (.lst (es.map itm))) y9 x10 x11 x12 x13)=some (.nx (Ef S F cs M nm P T (.v (.int (k:Int))) (.v (.lst (es.map itm))) y9 (.v (toD q)) (.v (.int (val q))) (.v (.int (dp q:Int))) x13)):=by
  unfold zC5
  rw[cf,Option.bind_some]
  have a1:yW 10 (toD q) (Ef S F cs M nm P T (.v (.int (k:Int))) (.v (.lst (es.map itm))) y9 x10 x11 x12 x13)=some (Ef S F cs M nm P T (.v (.int (k:Int))) (.v (.lst (es.map itm))) y9 (.v (toD q)) x11 x12 x13):=yK (x:=x10) rfl h10
  have a2:yW 11 (.int (val q)) (Ef S F cs M nm P T (.v (.int (k:Int))) (.v (.lst (es.map itm))) y9 (.v (toD q)) x11 x12 x13)=some (Ef S F cs M nm P T (.v (.int (k:Int))) (.v (.lst (es.map itm))) y9 (.v (toD q)) (.v (.int (val q))) x12 x13):=yK (x:=x11) rfl h11
  have a3:yW 12 (.int (dp q:Int)) (Ef S F cs M nm P T (.v (.int (k:Int))) (.v (.lst (es.map itm))) y9 (.v (toD q)) (.v (.int (val q))) x12 x13)=some (Ef S F cs M nm P T (.v (.int (k:Int))) (.v (.lst (es.map itm))) y9 (.v (toD q)) (.v (.int (val q))) (.v (.int (dp q:Int))) x13):=yK (x:=x12) rfl h12
  show((yW 10 (toD q) _).bind fun z=>(yW 11 (.int (val q)) z).bind fun z=>(yW 12 (.int (dp q:Int)) z).bind fun z=>some z).map Fl.nx=_
  rw[a1,Option.bind_some,a2,Option.bind_some,a3];rfl
 rw[yU s3]
noncomputable def zEG(t:Ex)(s:List Nat):Ex:=.two [43] (.nm s) t
theorem dU:∀(r:Pr) (e:Ex),wN r e=(r.map (·.1)).foldr (fun s t=>zEG t s) e
 |[],e=>rfl
 |p::r,e=>by show Ex.two _ _ (wN r e)=_;rw[dU r e];rfl
theorem WD(ps:Pr)(e:Ex):(ps.map (·.1)).foldl zEG e=wN ps.reverse e:=by
 rw[dU,List.map_reverse,List.foldr_reverse]
noncomputable def vM(ps:Pr):Int:=(ps.map fun p=>val p.2).sum
theorem nE(a b:Pr):vM (a++b)=vM a+vM b:=by simp[vM]
theorem Y0(ps:Pr):vM ps.reverse=vM ps:=by
 induction ps with
 |nil=>rfl
 |cons p ps ih=>rw[List.reverse_cons,nE,ih];simp[vM];lia
theorem dW:∀(r:Pr) {v:Int},small v->g8 r v=(vM r+v) % 1000000
 |[],v,h=>by show v=(0+v) % 1000000;rw[Int.zero_add,Int.emod_eq_of_lt h.1 h.2]
 |p::r,v,h=>by
  have ih:=dW r h
  show(val p.2+g8 r v) % 1000000=_
  rw[ih]
  show _=(val p.2+vM r+v) % 1000000
  omega
noncomputable def tN:MS:=(qH 10 (wS (zC (mC (.str [43])) (zC (wS (zC (mC (.str [110,97,109,101])) (zC (zD 13) zR))) (zC (zD 10) zR)))))
noncomputable def QI:MS:=(sIf (mBl (zH (eqN 400) (zD 7) (zH oZ (zD 3) (mC (.int 1))))) (yM (nL (yW 13) (mIt (mSl (zD 4) x5 (xR (zD 7)))) tN) (yM (qH 6 (zH jM (zH qA (zD 6) (zD 11)) (mC (.int 1000000)))) (sX (ZN 5 (wS (zC (mC (.str [109,97,105,110])) (zC (zD 10) zR))))))) (yM (qH 6 (zH qA (zD 6) (zD 11))) (sX (ZN 5 (wS (zC (zH ixD (zD 4) (zD 7)) (zC (zD 10) zR)))))))
section
variable{S:D}{F:Int}{cs:List Int}{M:Nat}{nm:List (List Nat)}
theorem dS{P:List D}{T:Int}{k x8 x9 x11 x12:Sl}:∀(l:List (List Nat)) (e:Ex) (x13:Sl),fre x13->∃y,fre y/\ZY (yW 13) tN (l.map .str) (Ef S F cs M nm P T k x8 x9 (.v (toD e)) x11 x12 x13)=some (.nx (Ef S F cs M nm P T k x8 x9 (.v (toD (l.foldl zEG e))) x11 x12 y))
 |[],e,x13,hx=>⟨x13,hx,rfl⟩
 |s::l,e,x13,hx=>by
  obtain⟨y,hy,q⟩:=dS (P:=P) (T:=T) (k:=k) (x8:=x8) (x9:=x9) (x11:=x11) (x12:=x12) l (zEG e s) (.v (.str s)) trivial
  refine⟨y,hy,?_⟩
  rw[List.map_cons,bY (r1:=Ef S F cs M nm P T k x8 x9 (.v (toD e)) x11 x12 (.v (.str s))) (yK (i:=13) (x:=x13) rfl hx) (r':=Ef S F cs M nm P T k x8 x9 (.v (toD (zEG e s))) x11 x12 (.v (.str s))) ?_,q];rfl
  exact jI (d:=toD (zEG e s)) (qJ (zG zN (zG (qJ (zG zN (zG rfl zX)) (by show 2<=100;decide)) (zG rfl zX))) (by show 3<=100;decide)) rfl
theorem zBX(a b:Int):eqN 400 (.int a) (.int b)=some (.bl (a == b)):=rfl
structure Dfs(nm:List (List Nat))(ps:Pr):Prop where
 nms:ps.map (·.1)=nm.take ps.length
 gd:∀p∈ps,gd p.2/\lv p.2<=29
noncomputable abbrev uU(ps:Pr)(e:Ex):Pr:=ps++[(YQ,wN ps.reverse e)]
theorem nV(a b:Pr):prog (a++b)=prog a++prog b:=by unfold prog;rw[List.map_append]
theorem XJ(a:Pr):(prog a).length=a.length:=by unfold prog;rw[List.length_map]
theorem gN(hM:M=1\/M=2\/M=3)(hc:cs.length<=28*M)(hn:nm.length=M):∀(r k:Nat) (ps:Pr) (x7 x8 x9 x10 x11 x12 x13:Sl),k+r+1=M->ps.length=k->Dfs nm ps->fre x7->fre x8->fre x9->fre x10->fre x11->fre x12->fre x13 ->
  ∃(qs:Pr) (e:Ex) (y7 y8 y9 y10 y11 y12 y13:Sl),Dfs nm qs/\qs.length+1=M/\gd e/\lv e<=29 /\
   ZY (yW 7) (QJ QI) ((List.range' k (r+1)).map fun k=>D.int ((0:Int)+(k:Nat))) (Ef S F cs M nm (prog ps) (vM ps) x7 x8 x9 x10 x11 x12 x13)=some (.nx (Ef S F cs M nm (prog (uU qs e)) ((vM qs+val e) % 1000000) y7 y8 y9 y10 y11 y12 y13))
 |r,k,ps,x7,x8,x9,x10,x11,x12,x13,hk,hl,hd,h7,h8,h9,h10,h11,h12,h13=>by
  obtain⟨q,y8,y9,f8,f9,gq,lq,eq⟩:=zAH (S:=S) (F:=F) (cs:=cs) hM hc (nm:=nm) (P:=prog ps) (T:=vM ps) (k:=k) (by lia) (x13:=x13) h8 h9 h10 h11 h12
  rw[List.range'_succ,List.map_cons]
  have u7:yW 7 (D.int ((0:Int)+(k:Nat))) (Ef S F cs M nm (prog ps) (vM ps) x7 x8 x9 x10 x11 x12 x13)=some (Ef S F cs M nm (prog ps) (vM ps) (.v (.int (k:Int))) x8 x9 x10 x11 x12 x13):=by
   rw[Int.zero_add];exact yK (i:=7) (x:=x7) rfl h7
  let R:En:=Ef S F cs M nm (prog ps) (vM ps) (.v (.int (k:Int))) y8 y9 (.v (toD q)) (.v (.int (val q))) (.v (.int (dp q:Int))) x13
  have pl:(prog ps).length<sizeLine:=by rw[XJ];exact Nat.lt_of_lt_of_le (show ps.length<100 by lia) (by decide)
  have ct:mBl (zH (eqN 400) (zD 7) (zH oZ (zD 3) (mC (.int 1)))) R=some ((k:Int) == (M:Int)-1):=g9 (zY (x:=.int (k:Int)) (y:=.int ((M:Int)-1)) rfl (zY rfl zN rfl) (zBX _ _))
  match r with
  |0=>
   have c1:((k:Int) == (M:Int)-1)=true:=beq_iff_eq.mpr (by lia)
   rw[c1] at ct
   obtain⟨y,hy,ml⟩:=dS (S:=S) (F:=F) (cs:=cs) (M:=M) (nm:=nm) (P:=prog ps) (T:=vM ps) (k:=.v (.int (k:Int))) (x8:=y8) (x9:=y9) (x11:=.v (.int (val q))) (x12:=.v (.int (dp q:Int))) (nm.take k) q x13 h13
   have fe:(nm.take k).foldl zEG q=wN ps.reverse q:=by rw[<-WD,hd.nms,hl]
   rw[fe] at ml
   refine⟨ps,q,.v (.int (k:Int)),y8,y9,.v (toD (wN ps.reverse q)),.v (.int (val q)),.v (.int (dp q:Int)),y,hd,by lia,gq,lq,?_⟩
   rw[bY u7 (r':=Ef S F cs M nm (prog (uU ps q)) ((vM ps+val q) % 1000000) (.v (.int (k:Int))) y8 y9 (.v (toD (wN ps.reverse q))) (.v (.int (val q))) (.v (.int (dp q:Int))) y) ?_]
   ·rfl
   ·rw[eq]
    unfold QI
    rw[JK ct]
    have s1:nL (yW 13) (mIt (mSl (zD 4) x5 (xR (zD 7)))) tN R=some (.nx (Ef S F cs M nm (prog ps) (vM ps) (.v (.int (k:Int))) y8 y9 (.v (toD (wN ps.reverse q))) (.v (.int (val q))) (.v (.int (dp q:Int))) y)):=by
     unfold nL
     have it:mIt (mSl (zD 4) x5 (xR (zD 7))) R=some ((nm.take k).map .str):=by
      have sl:mSl (zD 4) x5 (xR (zD 7)) R=some (.lst ((nm.take k).map .str)):=by
       refine pO (x:=.lst (nm.map .str)) rfl (by rfl) (wX (i:=(k:Int)) rfl) ?_
       show some (D.lst (uN (nm.map D.str) none (some (k:Int))))=_
       rw[zCO,List.map_take]
      unfold mIt
      rw[sl];rfl
     rw[it];exact ml
    rw[yU s1]
    refine yQ (.int ((vM ps+val q) % 1000000)) (r2:=Ef S F cs M nm (prog ps) ((vM ps+val q) % 1000000) (.v (.int (k:Int))) y8 y9 (.v (toD (wN ps.reverse q))) (.v (.int (val q))) (.v (.int (dp q:Int))) y) (wD (wH rfl rfl) zN (by decide)) (by rfl) ?_
    rw[nV]
    exact pT (m7 (i:=5) (S:=prog ps) (d:=.tup [.str YQ,toD (wN ps.reverse q)]) rfl (qJ (zG zN (zG rfl zX)) (by show 2<=100;decide)) pl)
  |r+1=>
   have c1:((k:Int) == (M:Int)-1)=false:=beq_eq_false_iff_ne.mpr (by lia)
   rw[c1] at ct
   have kn:k<nm.length:=by lia
   have hd':Dfs nm (ps++[(nm[k],q)]):=by
    refine⟨?_,fun p hp=>?_⟩
    ·rw[List.map_append,hd.nms,List.length_append,hl]
     show nm.take k++[nm[k]]=nm.take (k+1)
     rw[List.take_append_getElem]
    ·rcases List.mem_append.mp hp with z|z
     ·exact hd.gd p z
     ·rw[List.mem_singleton.mp z];exact⟨gq,lq⟩
   obtain⟨qs,e,y7,z8,z9,z10,z11,z12,z13,r1,r2,r3,r4,r5⟩:=gN hM hc hn r (k+1) (ps++[(nm[k],q)]) (.v (.int (k:Int))) y8 y9 (.v (toD q)) (.v (.int (val q))) (.v (.int (dp q:Int))) x13 (by lia) (by simp;lia) hd' trivial f8 f9 trivial trivial trivial h13
   refine⟨qs,e,y7,z8,z9,z10,z11,z12,z13,r1,r2,r3,r4,?_⟩
   rw[bY u7 (r':=Ef S F cs M nm (prog (ps++[(nm[k],q)])) (vM (ps++[(nm[k],q)])) (.v (.int (k:Int))) y8 y9 (.v (toD q)) (.v (.int (val q))) (.v (.int (dp q:Int))) x13) ?_]
   ·exact r5
   ·rw[eq]
    unfold QI
    rw[zC4 ct]
    have es:vM (ps++[(nm[k],q)])=vM ps+val q:=by rw[nE];simp[vM]
    rw[es]
    refine yQ (.int (vM ps+val q)) (r2:=Ef S F cs M nm (prog ps) (vM ps+val q) (.v (.int (k:Int))) y8 y9 (.v (toD q)) (.v (.int (val q))) (.v (.int (dp q:Int))) x13) (wH rfl rfl) (by rfl) ?_
    rw[nV]
    refine pT (m7 (i:=5) (S:=prog ps) (d:=.tup [.str nm[k],toD q]) rfl (qJ (zG (zY (x:=.lst (nm.map .str)) (y:=.int (k:Int)) rfl rfl (xS ?_)) (zG rfl zX)) (by show 2<=100;decide)) pl)
    rw[List.getElem?_map,List.getElem?_eq_getElem kn];rfl
end
theorem ZO:∀(r:Pr) (e:Ex),lv (wN r e)=lv e+r.length
 |[],e=>rfl
 |p::r,e=>by show 1+lv (wN r e)=_;rw[ZO r e,List.length_cons];lia
theorem ZW:∀(r:Pr) {e:Ex},gd e->(∀p∈r,NmOk p.1)->gr (wN r e)
 |[],e,h,_=>rX h
 |p::r,e,h,hn=>⟨.inl rfl,hn p (by simp),ZW r h fun q hq=>hn q (by simp[hq])⟩
theorem zI9(s:List Nat)(hs:PyData.strOk ⟨s.toArray⟩=true)(a b:Int):zBF 400 (.tup [.str s,.int a,.int b])=true:=by
 show((true && (true && (true && true))) && (PyData.strOk ⟨s.toArray⟩ && (true && (true && true))) && true)=true
 rw[hs];rfl
theorem zHY(s:List Nat)(hs:PyData.strOk ⟨s.toArray⟩=true)(a:Int):zBF 400 (.tup [.str s,.int a,.non])=true:=by
 show((true && (true && (true && true))) && (PyData.strOk ⟨s.toArray⟩ && (true && (true && true))) && true)=true
 rw[hs];rfl
theorem zJD(s:Str)(a b:Int):PyData.eqv (.tuple [.str s,.int a,.int b]) (.tuple [.str s,.int a,.int b])=true:=by simp[PyData.eqv,PyData.eqvAll]
theorem zH3(s:Str)(a:Int):PyData.eqv (.tuple [.str s,.int a,.none]) (.tuple [.str s,.int a,.none])=true:=by simp[PyData.eqv,PyData.eqvAll]
noncomputable def VAL:List Nat:=[118,97,108,117,101]
noncomputable def TIR:List Nat:=[116,105,114,101,100]
theorem zFG(a b:Int):eqN 400 (.tup [.str VAL,.int a,.int b]) (.tup [.str VAL,.int a,.int b])=some (.bl true):=by
 have h:=zI9 VAL (by decide +kernel) a b
 unfold eqN
 rw[if_pos ⟨h,h⟩]
 exact congrArg (fun z=>some (D.bl z)) (zJD _ a b)
theorem zEV(a b:Int):neN 400 (.tup [.str VAL,.int a,.int b]) (.tup [.str VAL,.int a,.int b])=some (.bl false):=by
 have h:=zI9 VAL (by decide +kernel) a b
 unfold neN
 rw[if_pos ⟨h,h⟩]
 exact congrArg (fun z=>some (D.bl (!z))) (zJD _ a b)
theorem zEW(a:Int):neN 400 (.tup [.str TIR,.int a,.non]) (.tup [.str TIR,.int a,.non])=some (.bl false):=by
 have h:=zHY TIR (by decide +kernel) a
 unfold neN
 rw[if_pos ⟨h,h⟩]
 exact congrArg (fun z=>some (D.bl (!z))) (zH3 _ a)
theorem pA(i:Int):∃as,xK [.v (.int i)]=some (.v (.bl true),as):=⟨_,rfl⟩
theorem cN{n i:Nat}{m:MF}{fs:ML}{r:En}{l ds:List D}{d:D}(h1:o7 i r=some l)(h2:fs r=some ds)(h3:ds.length+1=n)(h4:∃as,m ((.lst l::ds).map .v)=some (.v d,as))(h5:apD l d=true):bV n m i fs r=some d:=by
 obtain⟨as,h4⟩:=h4
 unfold bV
 rw[h1,Option.bind_some,h2,Option.bind_some,if_pos h3,h4,Option.bind_some];exact if_pos h5
theorem zA7{F:Int}{n:Nat}(hn:n<=61):∃M:Nat,(M=1\/M=2\/M=3)/\n<=28*M/\max (1+F % 3) (1+max 0 ((n:Int)-1) / 28)=(M:Int):=by
 have h0:0<=F % 3:=Int.emod_nonneg _ (by decide)
 have h3:F % 3<3:=Int.emod_lt_of_pos _ (by decide)
 refine⟨(max (1+F % 3) (1+max 0 ((n:Int)-1) / 28)).toNat,?_,?_,?_⟩
 ·omega
 ·omega
 ·omega
theorem law_math:∀ns:List Int,ns.length<=63->∃as,oW [.v (.lst (ns.map .int))]=some (.v (.bl true),as):=by
 intro ns hns
 obtain⟨c0,hc0⟩:=YM ns 0
 obtain⟨F,F0,hF⟩:=qN c0 900
 obtain⟨c1,hc1⟩:=YM ns 1
 obtain⟨B,B0,hB⟩:=qN c1 901
 let cs:List Int:=(ns.take 202).drop 2
 have cl:cs.length<=61:=by simp only[cs,List.length_drop,List.length_take];lia
 obtain⟨M,hM,hc,eM⟩:=zA7 (F:=F) cl
 obtain⟨pre,suf,n1,n2,hN⟩:=X7 (c:=B) B0 (k:=M) (by lia)
 let nm:List (List Nat):=(List.range M).map (W9 pre suf)
 have nl:nm.length=M:=by simp[nm]
 have nok:∀s∈nm,NmOk s:=fun s hs=>by
  obtain⟨i,hi,rfl⟩:=List.mem_map.mp hs
  have:=List.mem_range.mp hi
  exact zHR n1 n2 (by lia)
 have nnd:nm.Nodup:=by
  rcases hM with rfl|rfl|rfl
  ·exact List.nodup_cons.mpr ⟨(fun z=>by cases z),List.nodup_nil⟩
  ·refine List.nodup_cons.mpr ⟨fun z=>?_,List.nodup_cons.mpr ⟨(fun z=>by cases z),List.nodup_nil⟩⟩
   exact zAO (by decide) (by decide) (by decide) (List.mem_singleton.mp z)
  ·refine List.nodup_cons.mpr ⟨fun z=>?_,List.nodup_cons.mpr ⟨fun z=>?_,List.nodup_cons.mpr ⟨(fun z=>by cases z),List.nodup_nil⟩⟩⟩
   ·rcases List.mem_cons.mp z with z|z
    ·exact zAO (by decide) (by decide) (by decide) z
    ·exact zAO (by decide) (by decide) (by decide) (List.mem_singleton.mp z)
   ·exact zAO (by decide) (by decide) (by decide) (List.mem_singleton.mp z)
 let S:D:=.lst (ns.map .int)
 obtain⟨qs,e,y7,y8,y9,y10,y11,y12,y13,r1,r2,r3,r4,r5⟩:=gN (S:=S) (F:=F) (cs:=cs) (M:=M) (nm:=nm) hM hc nl (M-1) 0 [] .un .un .un .un .un .un .un (by lia) rfl ⟨rfl,fun p hp=>by cases hp⟩ trivial trivial trivial trivial trivial trivial trivial
 have qn:∀p∈qs,NmOk p.1:=fun p hp=>nok p.1 (List.mem_of_mem_take (r1.nms ▸ List.mem_map.mpr ⟨p,hp,rfl⟩))
 have rl:qs.reverse.length=qs.length:=List.length_reverse
 have lm:=ZO qs.reverse e
 have bnd:∀a:Ex,lv a<=32->dp a<40/\nd a<=1000:=fun a ha=>by
  have:=Z4 a;have:=ZG a;lia
 have pok:zGL (uU qs e):=fun p hp=>by
  rcases List.mem_append.mp hp with z|z
  ·exact bnd _ (by have:=(r1.gd p z).2;lia)
  ·rw[List.mem_singleton.mp z];exact bnd _ (by show lv (wN qs.reverse e)<=32;lia)
 have pnd:((uU qs e).map (·.1)).Nodup:=by
  rw[List.map_append,r1.nms]
  refine List.nodup_append.mpr ⟨List.Sublist.nodup (List.take_sublist _ _) nnd,List.nodup_cons.mpr ⟨(fun z=>by cases z),List.nodup_nil⟩,fun a ha b hb=>?_⟩
  have hb':b=YQ:=List.mem_singleton.mp hb
  rw[hb']
  exact zAP (nok a (List.mem_of_mem_take ha))
 have gq:∀p∈qs,gd p.2:=fun p hp=>(r1.gd p hp).1
 have rep:dD (prog (uU qs e))=true:=JP (by simp;lia) fun p hp=>by
  rcases List.mem_append.mp hp with z|z
  ·exact⟨zAQ (qn p z),(qn p z).len,rX (gq p z),pok p hp⟩
  ·have pz:=List.mem_singleton.mp z
   have p1:p.1=YQ:=by rw[pz]
   have p2:p.2=wN qs.reverse e:=by rw[pz]
   refine⟨by rw[p1];decide,by rw[p1];decide,?_,pok p hp⟩
   rw[p2];exact ZW _ r3 fun p hp=>qn p (by simpa using hp)
 have be:=bnd e (by lia)
 have sv:=x6 e r3
 have tot:g8 qs.reverse (val e)=(vM qs+val e) % 1000000:=by rw[dW _ sv,Y0]
 have mq:(qs.length:Int)=(M:Int)-1:=by lia
 have runV:∀mo:Int,(M:Int)-1<=mo->∃as,uV [.v (.lst (prog (uU qs e))),.v (.int mo)]=some (.v (.tup [.str VAL,.int ((M:Int)-1),.int ((vM qs+val e) % 1000000)]),as):=fun mo hmo=>by
  have:=pU pok gq r3 be.1 be.2 (by lia) pnd (mo:=mo) (by lia)
  rw[tot,mq] at this
  exact this
 have runT:1<M->∃as,uV [.v (.lst (prog (uU qs e))),.v (.int ((M:Int)-2))]=some (.v (.tup [.str TIR,.int ((M:Int)-2),.non]),as):=fun h=>pV pok gq r3 be.1 be.2 (by lia) pnd (mo:=(M:Int)-2) (by lia) (by lia)
 let Tt:Int:=(vM qs+val e) % 1000000
 let P:List D:=prog (uU qs e)
 let V:D:=.tup [.str VAL,.int ((M:Int)-1),.int Tt]
 let R7:En:=[.v S,.v (.int F),.v (.lst (cs.map .int)),.v (.int (M:Int)),.v (.lst (nm.map .str)),.o P,.v (.int Tt),y7,y8,y9,y10,y11,y12,y13,.un,.un]
 let R8:En:=[.v S,.v (.int F),.v (.lst (cs.map .int)),.v (.int (M:Int)),.v (.lst (nm.map .str)),.o P,.v (.int Tt),y7,y8,y9,y10,y11,y12,y13,.v (nP P),.un]
 let R9:En:=[.v S,.v (.int F),.v (.lst (cs.map .int)),.v (.int (M:Int)),.v (.lst (nm.map .str)),.o P,.v (.int Tt),y7,y8,y9,y10,y11,y12,y13,.v (nP P),.v V]
 refine jN (r':=R9) ?_
 show QE [.v S,.un,.un,.un,.un,.un,.un,.un,.un,.un,.un,.un,.un,.un,.un,.un]=_
 unfold QE
 refine yQ (.int F) (r2:=[.v S,.v (.int F),.un,.un,.un,.un,.un,.un,.un,.un,.un,.un,.un,.un,.un,.un]) (yZ (p:=.v (.int F)) (zG (yZ (p:=.v (.int c0)) (zG (x:=S) rfl (zG zN zX)) rfl hc0) (zG zN zX)) rfl hF) (by rfl) ?_
 refine yQ (.lst (cs.map .int)) (r2:=[.v S,.v (.int F),.v (.lst (cs.map .int)),.un,.un,.un,.un,.un,.un,.un,.un,.un,.un,.un,.un,.un]) ?_ (by rfl) ?_
 ·refine pO (x:=S) rfl (wX zN) (wX zN) ?_
  show some (D.lst (uN (ns.map D.int) (some ((2:Nat):Int)) (some ((202:Nat):Int))))=_
  rw[zCP,<-List.map_take,<-List.map_drop]
 refine yQ (.int (M:Int)) (r2:=[.v S,.v (.int F),.v (.lst (cs.map .int)),.v (.int (M:Int)),.un,.un,.un,.un,.un,.un,.un,.un,.un,.un,.un,.un]) ?_ (by rfl) ?_
 ·rw[<-eM]
  refine oA (wH zN (wD rfl zN (by decide))) (wH zN (gF (oA zN (zY (x:=.int (cs.length:Int)) (y:=.int 1) (kY (x:=.lst (cs.map .int)) rfl (by show some (D.int ((cs.map D.int).length:Int))=_;rw[List.length_map])) zN rfl)) zN (by decide)))
 refine yQ (.lst (nm.map .str)) (r2:=[.v S,.v (.int F),.v (.lst (cs.map .int)),.v (.int (M:Int)),.v (.lst (nm.map .str)),.un,.un,.un,.un,.un,.un,.un,.un,.un,.un,.un]) ?_ (by rfl) ?_
 ·have e0:(nm.map D.str)=(List.range M).map fun i=>D.str (W9 pre suf i):=by simp only[nm,List.map_map];rfl
  rw[e0]
  exact yZ (p:=.v (.lst ((List.range M).map fun i=>D.str (W9 pre suf i)))) (zG (yZ (p:=.v (.int B)) (zG (yZ (p:=.v (.int c1)) (zG (x:=S) rfl (zG zN zX)) rfl hc1) (zG zN zX)) rfl hB) (zG rfl zX)) rfl hN
 rw[yU (r':=[.v S,.v (.int F),.v (.lst (cs.map .int)),.v (.int (M:Int)),.v (.lst (nm.map .str)),.o [],.un,.un,.un,.un,.un,.un,.un,.un,.un,.un]) (by rfl)]
 refine yQ (.int 0) (r2:=[.v S,.v (.int F),.v (.lst (cs.map .int)),.v (.int (M:Int)),.v (.lst (nm.map .str)),.o [],.v (.int 0),.un,.un,.un,.un,.un,.un,.un,.un,.un]) zN (by rfl) ?_
 have s7:nL (yW 7) (rL (zD 3)) (QJ QI) [.v S,.v (.int F),.v (.lst (cs.map .int)),.v (.int (M:Int)),.v (.lst (nm.map .str)),.o [],.v (.int 0),.un,.un,.un,.un,.un,.un,.un,.un,.un]=some (.nx R7):=by
  unfold nL
  rw[XC (n:=M) rfl (by lia),Option.bind_some,List.range_eq_range']
  rw[show M-1+1=M by lia] at r5
  exact r5
 unfold QJ QI zCQ tN at s7
 rw[yU s7]
 have own:∀a b:Sl,o7 5 [.v S,.v (.int F),.v (.lst (cs.map .int)),.v (.int (M:Int)),.v (.lst (nm.map .str)),.o P,.v (.int Tt),y7,y8,y9,y10,y11,y12,y13,a,b]=some P:=fun _ _=>rfl
 have rp:∀a b:Sl,d0 (o7 5) [.v S,.v (.int F),.v (.lst (cs.map .int)),.v (.int (M:Int)),.v (.lst (nm.map .str)),.o P,.v (.int Tt),y7,y8,y9,y10,y11,y12,y13,a,b]=some (nP P):=fun a b=>by
  unfold d0
  rw[own,Option.bind_some,if_pos rep]
 refine yQ (nP P) (r2:=R8) (rp _ _) (by rfl) ?_
 refine yQ V (r2:=R9) (cN (own _ _) (zG zN zX) rfl (runV 1000 (by lia)) (by rfl)) (by rfl) ?_
 have m1:zH oZ (zD 3) (mC (.int 1)) R9=some (.int ((M:Int)-1)):=zY rfl zN rfl
 have m2:zH oZ (zD 3) (mC (.int 2)) R9=some (.int ((M:Int)-2)):=zY rfl zN rfl
 have w:∀(f:ME) (i:Int),f R9=some (.int i)->ZL (dZ (z6 1 xK (zC f zR))) R9=some false:=fun f i h=>by
  unfold ZL dZ
  have cw:z6 1 xK (zC f zR) R9=some (.bl true):=yZ (p:=.v (.bl true)) (zG h zX) rfl (pA i)
  rw[cw];rfl
 refine qK ?_ ?_
 ·have a1:mBl (zH (neN 400) (zD 15) (wS (zC (mC (.str [118,97,108,117,101])) (zC (zH oZ (zD 3) (mC (.int 1))) (zC (zD 6) zR))))) R9=some false:=g9 (zY (x:=V) (y:=V) rfl (qJ (zG zN (zG m1 (zG rfl zX))) (by show 3<=100;decide)) (zEV _ _))
  have a2:=w (zH ixD (zD 15) (mC (.int 1))) ((M:Int)-1) (zY (x:=V) rfl zN (xS (j:=1) rfl))
  have a3:=w (zH ixD (zD 15) (mC (.int 2))) Tt (zY (x:=V) rfl zN (xS (j:=2) rfl))
  unfold zHW
  rw[a1,Option.bind_some,if_neg (by decide),a2,Option.bind_some,if_neg (by decide),a3]
 refine qK ?_ ?_
 ·unfold qW
  have g1:mBl (zH gtD (zD 3) (mC (.int 1))) R9=some (decide ((1:Int)<(M:Int))):=QC rfl zN
  rw[g1,Option.bind_some]
  by_cases h:1<M
  ·rw[decide_eq_true (by lia),if_pos rfl]
   exact g9 (zY (x:=.tup [.str TIR,.int ((M:Int)-2),.non]) (y:=.tup [.str TIR,.int ((M:Int)-2),.non]) (cN (own _ _) (zG m2 zX) rfl (runT h) (by rfl)) (qJ (zG zN (zG m2 (zG zN zX))) (by show 3<=100;decide)) (zEW _))
  ·rw[decide_eq_false (by lia),if_neg (by decide)]
 refine qM ?_
 have b1:zH (eqN 400) (bV 2 uV 5 (zC (zH oZ (zD 3) (mC (.int 1))) zR)) (zD 15) R9=some (.bl true):=zY (x:=V) (y:=V) (cN (own _ _) (zG m1 zX) rfl (runV _ (Int.le_refl _)) (by rfl)) rfl (zFG _ _)
 unfold zHX
 rw[b1,Option.bind_some]
 show zH eqA (d0 (o7 5)) (zD 14) R9=_
 refine zY (x:=nP P) (y:=nP P) (rp _ _) rfl ?_
 show some (D.bl (decide (_=_)))=_
 rw[decide_eq_true rfl]
theorem zBE{α:Type}{l:List α}(h:l.length=1):∃a0,l=[a0]:=List.length_eq_one_iff.mp h
theorem QB{α:Type}{l:List α}(h:l.length=2):∃a0 a1,l=[a0,a1]:=by
 cases l with
 |nil=>cases h
 |cons a0 l=>obtain⟨a1,rfl⟩:=zBE (Nat.succ.inj h);exact⟨a0,a1,rfl⟩
theorem zDD{α:Type}{l:List α}(h:l.length=3):∃a0 a1 a2,l=[a0,a1,a2]:=by
 cases l with
 |nil=>cases h
 |cons a0 l=>obtain⟨a1,a2,rfl⟩:=QB (Nat.succ.inj h);exact⟨a0,a1,a2,rfl⟩
theorem zGQ{α:Type}{l:List α}(h:l.length=4):∃a0 a1 a2 a3,l=[a0,a1,a2,a3]:=by
 cases l with
 |nil=>cases h
 |cons a0 l=>obtain⟨a1,a2,a3,rfl⟩:=zDD (Nat.succ.inj h);exact⟨a0,a1,a2,a3,rfl⟩
noncomputable def hC(K:Fg)(n:Str)(st:Stmt):Prop:=∃(f:Addr) (od an:Option Addr) (sl:Array (Option Value)) (oc kV dc pm cd ct:Value),PySem.W.nsIn K mainGlobals n=some (some (.ref f))/\K.lookup f=some ⟨oc,od,.func (PySem.W.fnOf n n (jR st) (wQ st) (zL st) .none kV dc pm an cd ct),sl⟩/\PySem.W.codeIn K cd n=true/\PySem.W.keepIn K (.ref f)=true
theorem dfo{K:Fg}{n:Str}{st:Stmt}{f:Addr}{od an:Option Addr}{sl:Array (Option Value)}{oc kV dc pm cd ct:Value}(a:PySem.W.nsIn K mainGlobals n=some (some (.ref f)))(l:K.lookup f=some ⟨oc,od,.func (PySem.W.fnOf n n (jR st) (wQ st) (zL st) .none kV dc pm an cd ct),sl⟩)(c:PySem.W.codeIn K cd n=true)(k:PySem.W.keepIn K (.ref f)=true):hC K n st:=⟨f,od,an,sl,oc,kV,dc,pm,cd,ct,a,l,c,k⟩
theorem deo{K:Fg}{h:Heap}{mg:Str->Option Value}{n:Str}{i:Nat}{ps:List Str}(X:K.In h)(G:h.Ns mainGlobals mg)(D:hC K n (top i))(hb:∀{f:Addr} {d:FuncData},Fun K n n (top i) f d->Binds K d ps []):Nonempty (De K mg n i ps):=by
 obtain⟨f,_,_,_,_,_,_,_,_,_,a,l,c,k⟩:=D
 have F:=rY (st:=top i) l c k
 exact⟨⟨f,_,F,PySem.W.mg_of X G a,hb F⟩⟩
noncomputable def FnK(K:Fg)(n q:Str)(st:Stmt)(f:Addr):Prop:=∃(od an:Option Addr) (sl:Array (Option Value)) (oc kV dc pm cd ct:Value),K.lookup f=some ⟨oc,od,.func (PySem.W.fnOf n q (jR st) (wQ st) (zL st) .none kV dc pm an cd ct),sl⟩/\PySem.W.codeIn K cd q=true/\PySem.W.keepIn K (.ref f)=true
theorem fnk{K:Fg}{n q:Str}{st:Stmt}{f:Addr}{od an:Option Addr}{sl:Array (Option Value)}{oc kV dc pm cd ct:Value}(l:K.lookup f=some ⟨oc,od,.func (PySem.W.fnOf n q (jR st) (wQ st) (zL st) .none kV dc pm an cd ct),sl⟩)(c:PySem.W.codeIn K cd q=true)(k:PySem.W.keepIn K (.ref f)=true):FnK K n q st f:=⟨od,an,sl,oc,kV,dc,pm,cd,ct,l,c,k⟩
theorem kW{K:Fg}{n q:Str}{st:Stmt}{f:Addr}{ps:List Str}(D:FnK K n q st f)(hb:∀{f:Addr} {d:FuncData},Fun K n q st f d->Binds K d ps []):∃m:Dm K n q st ps,m.a=f/\PySem.W.keepIn K (.ref f)=true:=by
 obtain⟨_,_,_,_,_,_,_,_,_,l,c,k⟩:=D
 have F:=rY (st:=st) l c k
 exact⟨⟨f,_,F,hb F⟩,rfl,k⟩
theorem mX{K:Fg}{h:Heap}{mg:Str->Option Value}{n:Str}{i:Nat}{f:Addr}{ps:List Str}(X:K.In h)(G:h.Ns mainGlobals mg)(a:PySem.W.nsIn K mainGlobals n=some (some (.ref f)))(D:FnK K n n (top i) f)(hb:∀{f:Addr} {d:FuncData},Fun K n n (top i) f d->Binds K d ps []):∃m:De K mg n i ps,m.a=f:=by
 obtain⟨_,_,_,_,_,_,_,_,_,l,c,k⟩:=D
 have F:=rY (st:=top i) l c k
 exact⟨⟨f,_,F,PySem.W.mg_of X G a,hb F⟩,rfl⟩
theorem itup_mk{K:Fg}{p:Addr}{ns:List Int}{od:Option Addr}{its:Array Value}{n:Nat}{sl:Array (Option Value)}(l:K.lookup p=some ⟨.type "tuple",od,.seq its n,sl⟩)(s:its.size<=sizeLine)(v:Vals (ns.map V.int) its.toList):o8 K p ns:=⟨_,_,_,l,rfl,rfl,s,v⟩
theorem zE3{K:Fg}(hm:∀ns:List Int,ns.length<=63->∃as,oW [.v (.lst (ns.map .int))]=some (.v (.bl true),as))(H:Hp)(a:Addr)(ns:List Int)(hl:ns.length<=63)(hS:SqL K H a (ns.map V.int)):spD K 1 oW [.ref a] H (fun v _=>v=.bl true) (fun _ _ _=>False):=by
 have il:∀l:List Int,IsL K (fun _=>False) H (l.map D.int) (l.map V.int):=fun l=>by
  induction l with
  |nil=>exact IsL.nil
  |cons x l ih=>exact .cons (by rw[Is.int_iff]) ih
 obtain⟨as,e⟩:=hm ns hl
 refine⟨fun _=>False,[.v (.lst (ns.map .int))],_,as,rfl,R.args (ds:=[.lst (ns.map .int)]) noF (.cons (by rw[Is.lst_iff];exact⟨a,_,rfl,hS.imp (fun z=>⟨id,z⟩) id,il ns⟩) .nil),fun i l=>?_,e,fun v H' _ iv=>by rw[Is.bl_iff] at iv;exact iv⟩
 cases i with
 |zero=>exact⟨(fun z=>by cases z),(fun z=>by cases z),(fun _ z=>by cases z)⟩
 |succ i=>exact⟨(fun z=>by cases z),(fun z=>by cases z),(fun _ z=>by cases z)⟩
theorem all_mk{l:PySem.W.OpenLaw}{w:World}{K:Fg}{h:Heap}{mg:Str->Option Value}{fa:Addr}(X:K.In h)(G:h.Ns mainGlobals mg)(hfa:mg "law" = some (.ref fa))(D0:hC K "inner" (top 2))(D1:hC K "places" (top 1))(D2:hC K "inner_numbers" (top 4))(D3:hC K "sort_of" (top 9))(D4:hC K "worked" (top 11))(D5:hC K "held_in" (top 38))(D6:hC K "told_part" (top 39))(D7:hC K "told" (top 37))(D8:hC K "marked" (top 15))(D9:hC K "_law_cell" (top 41))(D10:hC K "_law_mixed" (top 42))(D11:hC K "_law_whole" (top 43))(D12:hC K "_law_two" (top 44))(D13:hC K "_law_leaf" (top 45))(D14:hC K "_law_grown" (top 46))(D15:hC K "_law_folded" (top 47))(D16:hC K "_law_names" (top 48))(D17:hC K "law" (top 49)){C B:Addr}(aC:PySem.W.nsIn K mainGlobals "Plain" = some (some (.ref C)))(aB:PySem.W.nsIn K mainGlobals "Reckoner" = some (some (.ref B)))(pg:PySem.W.plainGet K C Str.empty=true)(hd:PySem.W.hasDictIn K C=true)(po:PySem.W.plainOver K C=true)(sa:PySem.W.findIn K (.ref C) "__setattr__" = some (some (.builtin "object.__setattr__")))(mk:PySem.W.makesIn K C=true)(kc:PySem.W.keepIn K (.ref C)=true)(n_most:PySem.W.findIn K (.ref C) "most" = some none)(n_steps:PySem.W.findIn K (.ref C) "steps" = some none)(n_waiting:PySem.W.findIn K (.ref C) "waiting" = some none)(n_come:PySem.W.findIn K (.ref C) "come" = some none)(n_ended:PySem.W.findIn K (.ref C) "ended" = some none)(n_defs:PySem.W.findIn K (.ref C) "defs" = some none){f_rinit:Addr}(fc:PySem.W.findCls K (.ref B) (.type "type") "__init__" = some (.val (.ref f_rinit)))(cga:PySem.W.specialIn K (.ref B) "__getattribute__" = some (some (.builtin "type.__getattribute__")))(crd:PySem.W.readsIn K B (.type "type")=true)(chh:PySem.W.handedIn (.ref f_rinit)=true)(q_rinit:FnK K "__init__" "Reckoner.__init__" (uX 8 0) f_rinit){f_pinit:Addr}(a_pinit:PySem.W.findIn K (.ref C) "__init__" = some (some (.ref f_pinit)))(i_pinit:PySem.W.isFn K (.ref f_pinit)=true)(q_pinit:FnK K "__init__" "Plain.__init__" (uX 16 0) f_pinit){yN:Addr}(a_begin:PySem.W.findIn K (.ref C) "begin" = some (some (.ref yN)))(i_begin:PySem.W.isFn K (.ref yN)=true)(q_begin:FnK K "begin" "Reckoner.begin" (uX 8 1) yN){qQ:Addr}(a_tell:PySem.W.findIn K (.ref C) "tell" = some (some (.ref qQ)))(i_tell:PySem.W.isFn K (.ref qQ)=true)(q_tell:FnK K "tell" "Reckoner.tell" (uX 8 2) qQ){qR:Addr}(a_step:PySem.W.findIn K (.ref C) "step" = some (some (.ref qR)))(i_step:PySem.W.isFn K (.ref qR)=true)(q_step:FnK K "step" "Reckoner.step" (uX 8 3) qR){wY:Addr}(a_run_on:PySem.W.findIn K (.ref C) "run_on" = some (some (.ref wY)))(i_run_on:PySem.W.isFn K (.ref wY)=true)(q_run_on:FnK K "run_on" "Reckoner.run_on" (uX 8 4) wY){zW:Addr}(a_begin_parts:PySem.W.findIn K (.ref C) "begin_parts" = some (some (.ref zW)))(i_begin_parts:PySem.W.isFn K (.ref zW)=true)(q_begin_parts:FnK K "begin_parts" "Reckoner.begin_parts" (uX 8 5) zW){yA:Addr}(a_parts_come:PySem.W.findIn K (.ref C) "parts_come" = some (some (.ref yA)))(i_parts_come:PySem.W.isFn K (.ref yA)=true)(q_parts_come:FnK K "parts_come" "Reckoner.parts_come" (uX 8 6) yA){wE:Addr}(a_go_on:PySem.W.findIn K (.ref C) "go_on" = some (some (.ref wE)))(i_go_on:PySem.W.isFn K (.ref wE)=true)(q_go_on:FnK K "go_on" "Plain.go_on" (uX 16 1) wE){f_run:Addr}(a_run:PySem.W.nsIn K mainGlobals "run" = some (some (.ref f_run)))(q_run:FnK K "run" "run" (top 14) f_run){wZ:Addr}(a_of_num:PySem.W.nsIn K mainGlobals "of_num" = some (some (.ref wZ)))(q_of_num:FnK K "of_num" "of_num" (top 21) wZ){xB:Addr}(a_of_name:PySem.W.nsIn K mainGlobals "of_name" = some (some (.ref xB)))(q_of_name:FnK K "of_name" "of_name" (top 22) xB){qY:Addr}(a_of_if:PySem.W.nsIn K mainGlobals "of_if" = some (some (.ref qY)))(q_of_if:FnK K "of_if" "of_if" (top 34) qY){yB:Addr}(a_of_working:PySem.W.nsIn K mainGlobals "of_working" = some (some (.ref yB)))(q_of_working:FnK K "of_working" "of_working" (top 35) yB){g_of_fn g_of_do g_of_empty g_of_get g_of_with g_of_put g_of_less g_of_tag g_of_wide g_of_case g_of_never:Addr}{p_WAYS:Addr}{es_WAYS:Array DictEntry}{n_WAYS:Nat}(c_WAYS:PySem.W.nsIn K mainGlobals "WAYS" = some (some (.ref p_WAYS)))(l_WAYS:K.lookup p_WAYS=some ⟨.type "dict",none,.dict es_WAYS n_WAYS,#[]⟩)(y_WAYS:(p_WAYS == sysModules)=false)(k_WAYS:PySem.W.KeysLit w.params es_WAYS.toList)(e_WAYS:oX es_WAYS.toList [([110,117,109],wZ),([110,97,109,101],xB),([102,110],g_of_fn),([100,111],g_of_do),([101,109,112,116,121],g_of_empty),([103,101,116],g_of_get),([119,105,116,104],g_of_with),([112,117,116],g_of_put),([108,101,115,115],g_of_less),([116,97,103],g_of_tag),([119,105,100,101],g_of_wide),([99,97,115,101],g_of_case),([110,101,118,101,114],g_of_never),([105,102],qY),([43],yB),([45],yB),([42],yB),([60],yB)]){t_0 t_1 t_2 t_3 t_4 t_5 t_6 t_7 t_8 t_9 t_10 t_11 t_12 t_13:Addr}{p_AHEAD:Addr}{es_AHEAD:Array DictEntry}{n_AHEAD:Nat}(c_AHEAD:PySem.W.nsIn K mainGlobals "AHEAD" = some (some (.ref p_AHEAD)))(l_AHEAD:K.lookup p_AHEAD=some ⟨.type "dict",none,.dict es_AHEAD n_AHEAD,#[]⟩)(y_AHEAD:(p_AHEAD == sysModules)=false)(k_AHEAD:PySem.W.KeysLit w.params es_AHEAD.toList)(e_AHEAD:oX es_AHEAD.toList [([100,111],t_0),([103,101,116],t_1),([119,105,116,104],t_2),([112,117,116],t_3),([108,101,115,115],t_4),([116,97,103],t_5),([119,105,100,101],t_6),([99,97,115,101],t_7),([110,101,118,101,114],t_8),([105,102],t_9),([43],t_10),([45],t_11),([42],t_12),([60],t_13)])(j_0:o8 K t_0 [1,2])(j_1:o8 K t_1 [2])(j_2:o8 K t_2 [2,3])(j_3:o8 K t_3 [2,3])(j_4:o8 K t_4 [2])(j_5:o8 K t_5 [2])(j_6:o8 K t_6 [2])(j_7:o8 K t_7 [1])(j_8:o8 K t_8 [1])(j_9:o8 K t_9 [1])(j_10:o8 K t_10 [1,2])(j_11:o8 K t_11 [1,2])(j_12:o8 K t_12 [1,2])(j_13:o8 K t_13 [1,2])(z_bool:PySem.W.nsIn K mainGlobals "bool" = some none)(z_dict:PySem.W.nsIn K mainGlobals "dict" = some none)(z_int:PySem.W.nsIn K mainGlobals "int" = some none)(z_isinstance:PySem.W.nsIn K mainGlobals "isinstance" = some none)(z_len:PySem.W.nsIn K mainGlobals "len" = some none)(z_max:PySem.W.nsIn K mainGlobals "max" = some none)(z_range:PySem.W.nsIn K mainGlobals "range" = some none)(z_repr:PySem.W.nsIn K mainGlobals "repr" = some none)(z_reversed:PySem.W.nsIn K mainGlobals "reversed" = some none)(z_tuple:PySem.W.nsIn K mainGlobals "tuple" = some none){t_END_OF_NUMBERS:Tok}(c_END_OF_NUMBERS:PySem.W.nsIn K mainGlobals "END_OF_NUMBERS" = some (some (.int 1000000 t_END_OF_NUMBERS))){t_MOST_PARTS:Tok}(c_MOST_PARTS:PySem.W.nsIn K mainGlobals "MOST_PARTS" = some (some (.int 200 t_MOST_PARTS))):∃fd:FuncData,(∀(s:Shared) (v:Value),BindsTo s fd ⟨[v],[]⟩ [("_law_script",v)])/\∀base:Heap,K.In base->base.Ns mainGlobals mg->FnOk l.prog w K mg base CX0 47 fa fd ["_law_script"] (spD K 1 oW):=by
 obtain⟨f17,_,_,_,_,_,_,_,_,_,a17,l17,c17,k17⟩:=D17
 have e:=hfa.symm.trans (PySem.W.mg_of X G a17)
 cases e
 have F17:=rY (st:=top 49) l17 c17 k17
 have b17:=F17.binds (ps:=["_law_script"]) fun _ _ _ _ _ _ us hl=>by obtain⟨_,rfl⟩:=zBE hl;rfl
 obtain⟨m_rinit,rfl,k_rinit⟩:=kW (ps:=["self", "most"]) q_rinit fun F=>F.binds (ps:=["self", "most"]) fun _ _ _ _ _ _ us hl=>by obtain⟨_,_,rfl⟩:=QB hl;rfl
 obtain⟨m_pinit,rfl,k_pinit⟩:=kW (ps:=["self", "program", "most"]) q_pinit fun F=>F.binds (ps:=["self", "program", "most"]) fun _ _ _ _ _ _ us hl=>by obtain⟨_,_,_,rfl⟩:=zDD hl;rfl
 obtain⟨m_begin,rfl,k_begin⟩:=kW (ps:=["self", "expression", "around"]) q_begin fun F=>F.binds (ps:=["self", "expression", "around"]) fun _ _ _ _ _ _ us hl=>by obtain⟨_,_,_,rfl⟩:=zDD hl;rfl
 obtain⟨m_tell,rfl,k_tell⟩:=kW (ps:=["self", "value"]) q_tell fun F=>F.binds (ps:=["self", "value"]) fun _ _ _ _ _ _ us hl=>by obtain⟨_,_,rfl⟩:=QB hl;rfl
 obtain⟨m_step,rfl,k_step⟩:=kW (ps:=["self"]) q_step fun F=>F.binds (ps:=["self"]) fun _ _ _ _ _ _ us hl=>by obtain⟨_,rfl⟩:=zBE hl;rfl
 obtain⟨m_run_on,rfl,k_run_on⟩:=kW (ps:=["self"]) q_run_on fun F=>F.binds (ps:=["self"]) fun _ _ _ _ _ _ us hl=>by obtain⟨_,rfl⟩:=zBE hl;rfl
 obtain⟨m_begin_parts,rfl,k_begin_parts⟩:=kW (ps:=["self", "expression", "around"]) q_begin_parts fun F=>F.binds (ps:=["self", "expression", "around"]) fun _ _ _ _ _ _ us hl=>by obtain⟨_,_,_,rfl⟩:=zDD hl;rfl
 obtain⟨m_parts_come,rfl,k_parts_come⟩:=kW (ps:=["self", "expression"]) q_parts_come fun F=>F.binds (ps:=["self", "expression"]) fun _ _ _ _ _ _ us hl=>by obtain⟨_,_,rfl⟩:=QB hl;rfl
 obtain⟨m_go_on,rfl,k_go_on⟩:=kW (ps:=["self", "expression", "bound", "parts"]) q_go_on fun F=>F.binds (ps:=["self", "expression", "bound", "parts"]) fun _ _ _ _ _ _ us hl=>by obtain⟨_,_,_,_,rfl⟩:=zGQ hl;rfl
 obtain⟨d_run,rfl⟩:=mX (ps:=["program", "most"]) X G a_run q_run fun F=>F.binds (ps:=["program", "most"]) fun _ _ _ _ _ _ us hl=>by obtain⟨_,_,rfl⟩:=QB hl;rfl
 obtain⟨d_of_num,rfl⟩:=mX (ps:=["plain", "expression", "bound", "parts"]) X G a_of_num q_of_num fun F=>F.binds (ps:=["plain", "expression", "bound", "parts"]) fun _ _ _ _ _ _ us hl=>by obtain⟨_,_,_,_,rfl⟩:=zGQ hl;rfl
 obtain⟨d_of_name,rfl⟩:=mX (ps:=["plain", "expression", "bound", "parts"]) X G a_of_name q_of_name fun F=>F.binds (ps:=["plain", "expression", "bound", "parts"]) fun _ _ _ _ _ _ us hl=>by obtain⟨_,_,_,_,rfl⟩:=zGQ hl;rfl
 obtain⟨d_of_if,rfl⟩:=mX (ps:=["plain", "expression", "bound", "parts"]) X G a_of_if q_of_if fun F=>F.binds (ps:=["plain", "expression", "bound", "parts"]) fun _ _ _ _ _ _ us hl=>by obtain⟨_,_,_,_,rfl⟩:=zGQ hl;rfl
 obtain⟨d_of_working,rfl⟩:=mX (ps:=["plain", "expression", "bound", "parts"]) X G a_of_working q_of_working fun F=>F.binds (ps:=["plain", "expression", "bound", "parts"]) fun _ _ _ _ _ _ us hl=>by obtain⟨_,_,_,_,rfl⟩:=zGQ hl;rfl
 exact⟨_,fun s v=>.of_eq rfl,fun base _ _=>zET ⟨Classical.choice (deo (ps:=["expression"]) X G D0 fun F=>F.binds (ps:=["expression"]) fun _ _ _ _ _ _ us hl=>by obtain⟨_,rfl⟩:=zBE hl;rfl),
  Classical.choice (deo (ps:=["E"]) X G D1 fun F=>F.binds (ps:=["E"]) fun _ _ _ _ _ _ us hl=>by obtain⟨_,rfl⟩:=zBE hl;rfl),
  Classical.choice (deo (ps:=["expression", "number"]) X G D2 fun F=>F.binds (ps:=["expression", "number"]) fun _ _ _ _ _ _ us hl=>by obtain⟨_,_,rfl⟩:=QB hl;rfl),
  Classical.choice (deo (ps:=["value"]) X G D3 fun F=>F.binds (ps:=["value"]) fun _ _ _ _ _ _ us hl=>by obtain⟨_,rfl⟩:=zBE hl;rfl),
  Classical.choice (deo (ps:=["word", "first", "second"]) X G D4 fun F=>F.binds (ps:=["word", "first", "second"]) fun _ _ _ _ _ _ us hl=>by obtain⟨_,_,_,rfl⟩:=zDD hl;rfl),
  Classical.choice (deo (ps:=["value"]) X G D5 fun F=>F.binds (ps:=["value"]) fun _ _ _ _ _ _ us hl=>by obtain⟨_,rfl⟩:=zBE hl;rfl),
  Classical.choice (deo (ps:=["value", "held"]) X G D6 fun F=>F.binds (ps:=["value", "held"]) fun _ _ _ _ _ _ us hl=>by obtain⟨_,_,rfl⟩:=QB hl;rfl),
  Classical.choice (deo (ps:=["value"]) X G D7 fun F=>F.binds (ps:=["value"]) fun _ _ _ _ _ _ us hl=>by obtain⟨_,rfl⟩:=zBE hl;rfl),
  Classical.choice (deo (ps:=["expression", "name", "number"]) X G D8 fun F=>F.binds (ps:=["expression", "name", "number"]) fun _ _ _ _ _ _ us hl=>by obtain⟨_,_,_,rfl⟩:=zDD hl;rfl),
  Classical.choice (deo (ps:=["_law_script", "_law_k"]) X G D9 fun F=>F.binds (ps:=["_law_script", "_law_k"]) fun _ _ _ _ _ _ us hl=>by obtain⟨_,_,rfl⟩:=QB hl;rfl),
  Classical.choice (deo (ps:=["_law_cell_here", "_law_k"]) X G D10 fun F=>F.binds (ps:=["_law_cell_here", "_law_k"]) fun _ _ _ _ _ _ us hl=>by obtain⟨_,_,rfl⟩:=QB hl;rfl),
  Classical.choice (deo (ps:=["_law_found"]) X G D11 fun F=>F.binds (ps:=["_law_found"]) fun _ _ _ _ _ _ us hl=>by obtain⟨_,rfl⟩:=zBE hl;rfl),
  Classical.choice (deo (ps:=["_law_word", "_law_one", "_law_other"]) X G D12 fun F=>F.binds (ps:=["_law_word", "_law_one", "_law_other"]) fun _ _ _ _ _ _ us hl=>by obtain⟨_,_,_,rfl⟩:=zDD hl;rfl),
  Classical.choice (deo (ps:=["_law_cell_here", "_law_number"]) X G D13 fun F=>F.binds (ps:=["_law_cell_here", "_law_number"]) fun _ _ _ _ _ _ us hl=>by obtain⟨_,_,rfl⟩:=QB hl;rfl),
  Classical.choice (deo (ps:=["_law_pile", "_law_cell_here", "_law_k"]) X G D14 fun F=>F.binds (ps:=["_law_pile", "_law_cell_here", "_law_k"]) fun _ _ _ _ _ _ us hl=>by obtain⟨_,_,_,rfl⟩:=zDD hl;rfl),
  Classical.choice (deo (ps:=["_law_pile", "_law_cell_here"]) X G D15 fun F=>F.binds (ps:=["_law_pile", "_law_cell_here"]) fun _ _ _ _ _ _ us hl=>by obtain⟨_,_,rfl⟩:=QB hl;rfl),
  Classical.choice (deo (ps:=["_law_cell_here", "_law_many"]) X G D16 fun F=>F.binds (ps:=["_law_cell_here", "_law_many"]) fun _ _ _ _ _ _ us hl=>by obtain⟨_,_,rfl⟩:=QB hl;rfl),
  ⟨_,_,F17,PySem.W.mg_of X G a17,b17⟩,
  C,
  B,
  PySem.W.mg_of X G aC,
  PySem.W.mg_of X G aB,
  ⟨pg,hd,po,sa⟩,
  n_most,
  n_steps,
  n_waiting,
  n_come,
  n_ended,
  n_defs,
  m_rinit,
  m_pinit,
  m_begin,
  m_tell,
  m_step,
  m_run_on,
  m_begin_parts,
  m_parts_come,
  m_go_on,
  ⟨a_begin,i_begin,k_begin⟩,
  ⟨a_tell,i_tell,k_tell⟩,
  ⟨a_step,i_step,k_step⟩,
  ⟨a_run_on,i_run_on,k_run_on⟩,
  ⟨a_begin_parts,i_begin_parts,k_begin_parts⟩,
  ⟨a_parts_come,i_parts_come,k_parts_come⟩,
  ⟨a_go_on,i_go_on,k_go_on⟩,
  ⟨mk,a_pinit,i_pinit,kc⟩,
  ⟨cga,crd,fc,chh,k_rinit⟩,
  d_run,
  d_of_num,
  d_of_name,
  d_of_if,
  d_of_working,
  _,
  ⟨_,_,_,PySem.W.mg_of X G c_WAYS,y_WAYS,l_WAYS,k_WAYS,e_WAYS⟩,
  ⟨_,⟨_,_,_,PySem.W.mg_of X G c_AHEAD,y_AHEAD,l_AHEAD,k_AHEAD,e_AHEAD⟩,⟨_,_,rfl,j_0,⟨_,_,rfl,j_1,⟨_,_,rfl,j_2,⟨_,_,rfl,j_3,⟨_,_,rfl,j_4,⟨_,_,rfl,j_5,⟨_,_,rfl,j_6,⟨_,_,rfl,j_7,⟨_,_,rfl,j_8,⟨_,_,rfl,j_9,⟨_,_,rfl,j_10,⟨_,_,rfl,j_11,⟨_,_,rfl,j_12,⟨_,_,rfl,j_13,rfl⟩⟩⟩⟩⟩⟩⟩⟩⟩⟩⟩⟩⟩⟩⟩,
  rfl,
  rfl,
  rfl,
  rfl,
  rfl,
  rfl,
  rfl,PySem.W.mg_none_of X G z_bool,PySem.W.mg_none_of X G z_dict,PySem.W.mg_none_of X G z_int,PySem.W.mg_none_of X G z_isinstance,PySem.W.mg_none_of X G z_len,PySem.W.mg_none_of X G z_max,PySem.W.mg_none_of X G z_range,PySem.W.mg_none_of X G z_repr,PySem.W.mg_none_of X G z_reversed,PySem.W.mg_none_of X G z_tuple,⟨_,PySem.W.mg_of X G c_END_OF_NUMBERS⟩,⟨_,PySem.W.mg_of X G c_MOST_PARTS⟩⟩⟩
theorem walk{l:PySem.W.OpenLaw}{q:Program}{loose:List Str}{XP:(Str->Option Value)->Heap->Prop}{YP:World->Heap->Prop}{d:DefRec}{K:Params->Fg}(hm:∀ns:List Int,ns.length<=63->∃as,oW [.v (.lst (ns.map .int))]=some (.v (.bl true),as))(hn:l.most=some 63)(hdf:d.params.defaults=[])(hY:∀(w:World) (h:Heap),YP w h->(K w.params).In h)(F:∀(w:World) (mg:Str->Option Value) (fa:Addr) (h:Heap),(K w.params).In h->h.Ns mainGlobals mg->mg d.name=some (.ref fa) ->
   ∃fd:FuncData,(∀(s:Shared) (u:Value),BindsTo s fd ⟨[u],[]⟩ [("_law_script",u)])/\∀base:Heap,(K w.params).In base->base.Ns mainGlobals mg->FnOk l.prog w (K w.params) mg base CX0 47 fa fd ["_law_script"] (spD (K w.params) 1 oW)):PySem.W.WalkO q loose XP YP l.row.toRowW d [] (fun f vs=>PySem.call f vs):=
 L2.walk_ofK (n:=63) (k:=47) (x:="_law_script") (CX:=CX0) (sp:=fun K=>spD K 1 oW) hn (by decide) hdf ⟨rfl,by decide,by decide,rfl⟩ hY F (fun K H a ns hl _ hS=>zE3 hm H a ns hl hS) fun _ _ _ _ z=>z
end K41
/-! twins that no proof needs: where a constant of such a name stands, the head lays none -/
namespace PySem.W.Fast
noncomputable def tw14399410510905485660 : Nat := 0
noncomputable def tw14010627389323444788 : Nat := 0
noncomputable def tw3908153221697146235 : Nat := 0
noncomputable def tw14967644431012532120 : Nat := 0
noncomputable def tw7873112971758587775 : Nat := 0
noncomputable def tw11156835868089904540 : Nat := 0
noncomputable def tw6629743802691034489 : Nat := 0
noncomputable def tw16642684204936113924 : PySem.Program := PySem.Challenge.pw_fieldrows_k41_reckons
theorem te16642684204936113924 : PySem.Challenge.pw_fieldrows_k41_reckons = tw16642684204936113924 := rfl
noncomputable def tw15270354655325092035 : Nat := 0
noncomputable def tw10743941858143495691 : Nat := 0
noncomputable def tw10306579862952528146 : Nat := 0
noncomputable def tw11082965540369154954 : Nat := 0
noncomputable def tw16051122753455643980 : Nat := 0
noncomputable def tw4884262099120123418 : Nat := 0
noncomputable def tw3712484465482708839 : Nat := 0
noncomputable def tw9389912490097803363 : Nat := 0
noncomputable def tw1991676960188722805 : Nat := 0
noncomputable def tw3181946472736453539 : Nat := 0
noncomputable def tw1246550575037294054 : Nat := 0
end PySem.W.Fast
open PyProof.Rows PySem PySem.W
set_option maxRecDepth 100000 in
set_option maxHeartbeats 0 in
theorem PySem.Challenge.cw_fieldrows_k41_reckons_holds : PySem.Challenge.rw_fieldrows_k41_reckons.Holds := by
  w_on; o_law; k_head; (case hw => w_witness2)
  k_fill
  refine K41.walk (l := PySem.Challenge.rw_fieldrows_k41_reckons) K41.law_math rfl rfl (fun w h Y => PySem.W.kIn_of Y) ?F
  case F =>
    intro w mg fa h KX G hmg
    refine' K41.all_mk KX G hmg (K41.dfo ?a0 ?l0 ?c0 ?k0) (K41.dfo ?a1 ?l1 ?c1 ?k1) (K41.dfo ?a2 ?l2 ?c2 ?k2) (K41.dfo ?a3 ?l3 ?c3 ?k3) (K41.dfo ?a4 ?l4 ?c4 ?k4) (K41.dfo ?a5 ?l5 ?c5 ?k5) (K41.dfo ?a6 ?l6 ?c6 ?k6) (K41.dfo ?a7 ?l7 ?c7 ?k7) (K41.dfo ?a8 ?l8 ?c8 ?k8) (K41.dfo ?a9 ?l9 ?c9 ?k9) (K41.dfo ?a10 ?l10 ?c10 ?k10) (K41.dfo ?a11 ?l11 ?c11 ?k11) (K41.dfo ?a12 ?l12 ?c12 ?k12) (K41.dfo ?a13 ?l13 ?c13 ?k13) (K41.dfo ?a14 ?l14 ?c14 ?k14) (K41.dfo ?a15 ?l15 ?c15 ?k15) (K41.dfo ?a16 ?l16 ?c16 ?k16) (K41.dfo ?a17 ?l17 ?c17 ?k17) ?aC ?aB ?pg ?hd ?po ?sa ?mk ?kc ?n_most ?n_steps ?n_waiting ?n_come ?n_ended ?n_defs ?fc ?cga ?crd ?chh (K41.fnk ?l_rinit ?c_rinit ?k_rinit) ?a_pinit ?i_pinit (K41.fnk ?l_pinit ?c_pinit ?k_pinit) ?a_begin ?i_begin (K41.fnk ?l_begin ?c_begin ?k_begin) ?a_tell ?i_tell (K41.fnk ?l_tell ?c_tell ?k_tell) ?a_step ?i_step (K41.fnk ?l_step ?c_step ?k_step) ?a_run_on ?i_run_on (K41.fnk ?l_run_on ?c_run_on ?k_run_on) ?a_begin_parts ?i_begin_parts (K41.fnk ?l_begin_parts ?c_begin_parts ?k_begin_parts) ?a_parts_come ?i_parts_come (K41.fnk ?l_parts_come ?c_parts_come ?k_parts_come) ?a_go_on ?i_go_on (K41.fnk ?l_go_on ?c_go_on ?k_go_on) ?a_run (K41.fnk ?l_run ?c_run ?k_run) ?a_of_num (K41.fnk ?l_of_num ?c_of_num ?k_of_num) ?a_of_name (K41.fnk ?l_of_name ?c_of_name ?k_of_name) ?a_of_if (K41.fnk ?l_of_if ?c_of_if ?k_of_if) ?a_of_working (K41.fnk ?l_of_working ?c_of_working ?k_of_working) ?c_WAYS ?l_WAYS ?y_WAYS ?k_WAYS ?e_WAYS ?c_AHEAD ?l_AHEAD ?y_AHEAD ?k_AHEAD ?e_AHEAD (K41.itup_mk ?jl_0 ?js_0 ?jv_0) (K41.itup_mk ?jl_1 ?js_1 ?jv_1) (K41.itup_mk ?jl_2 ?js_2 ?jv_2) (K41.itup_mk ?jl_3 ?js_3 ?jv_3) (K41.itup_mk ?jl_4 ?js_4 ?jv_4) (K41.itup_mk ?jl_5 ?js_5 ?jv_5) (K41.itup_mk ?jl_6 ?js_6 ?jv_6) (K41.itup_mk ?jl_7 ?js_7 ?jv_7) (K41.itup_mk ?jl_8 ?js_8 ?jv_8) (K41.itup_mk ?jl_9 ?js_9 ?jv_9) (K41.itup_mk ?jl_10 ?js_10 ?jv_10) (K41.itup_mk ?jl_11 ?js_11 ?jv_11) (K41.itup_mk ?jl_12 ?js_12 ?jv_12) (K41.itup_mk ?jl_13 ?js_13 ?jv_13) ?z_bool ?z_dict ?z_int ?z_isinstance ?z_len ?z_max ?z_range ?z_repr ?z_reversed ?z_tuple ?c_END_OF_NUMBERS ?c_MOST_PARTS
    (case a0 => k_is)
    (case l0 => k_is)
    (case c0 => k_is)
    (case k0 => k_is)
    (case a1 => k_is)
    (case l1 => k_is)
    (case c1 => k_is)
    (case k1 => k_is)
    (case a2 => k_is)
    (case l2 => k_is)
    (case c2 => k_is)
    (case k2 => k_is)
    (case a3 => k_is)
    (case l3 => k_is)
    (case c3 => k_is)
    (case k3 => k_is)
    (case a4 => k_is)
    (case l4 => k_is)
    (case c4 => k_is)
    (case k4 => k_is)
    (case a5 => k_is)
    (case l5 => k_is)
    (case c5 => k_is)
    (case k5 => k_is)
    (case a6 => k_is)
    (case l6 => k_is)
    (case c6 => k_is)
    (case k6 => k_is)
    (case a7 => k_is)
    (case l7 => k_is)
    (case c7 => k_is)
    (case k7 => k_is)
    (case a8 => k_is)
    (case l8 => k_is)
    (case c8 => k_is)
    (case k8 => k_is)
    (case a9 => k_is)
    (case l9 => k_is)
    (case c9 => k_is)
    (case k9 => k_is)
    (case a10 => k_is)
    (case l10 => k_is)
    (case c10 => k_is)
    (case k10 => k_is)
    (case a11 => k_is)
    (case l11 => k_is)
    (case c11 => k_is)
    (case k11 => k_is)
    (case a12 => k_is)
    (case l12 => k_is)
    (case c12 => k_is)
    (case k12 => k_is)
    (case a13 => k_is)
    (case l13 => k_is)
    (case c13 => k_is)
    (case k13 => k_is)
    (case a14 => k_is)
    (case l14 => k_is)
    (case c14 => k_is)
    (case k14 => k_is)
    (case a15 => k_is)
    (case l15 => k_is)
    (case c15 => k_is)
    (case k15 => k_is)
    (case a16 => k_is)
    (case l16 => k_is)
    (case c16 => k_is)
    (case k16 => k_is)
    (case a17 => k_is)
    (case l17 => k_is)
    (case c17 => k_is)
    (case k17 => k_is)
    (case aC => k_is)
    (case aB => k_is)
    (case pg => k_is)
    (case hd => k_is)
    (case po => k_is)
    (case sa => k_is)
    (case mk => k_is)
    (case kc => k_is)
    (case n_most => k_is)
    (case n_steps => k_is)
    (case n_waiting => k_is)
    (case n_come => k_is)
    (case n_ended => k_is)
    (case n_defs => k_is)
    (case fc => k_is)
    (case cga => k_is)
    (case crd => k_is)
    (case chh => rfl)
    (case l_rinit => k_is)
    (case c_rinit => k_is)
    (case k_rinit => k_is)
    (case a_pinit => k_is)
    (case i_pinit => k_is)
    (case l_pinit => k_is)
    (case c_pinit => k_is)
    (case k_pinit => k_is)
    (case a_begin => k_is)
    (case i_begin => k_is)
    (case l_begin => k_is)
    (case c_begin => k_is)
    (case k_begin => k_is)
    (case a_tell => k_is)
    (case i_tell => k_is)
    (case l_tell => k_is)
    (case c_tell => k_is)
    (case k_tell => k_is)
    (case a_step => k_is)
    (case i_step => k_is)
    (case l_step => k_is)
    (case c_step => k_is)
    (case k_step => k_is)
    (case a_run_on => k_is)
    (case i_run_on => k_is)
    (case l_run_on => k_is)
    (case c_run_on => k_is)
    (case k_run_on => k_is)
    (case a_begin_parts => k_is)
    (case i_begin_parts => k_is)
    (case l_begin_parts => k_is)
    (case c_begin_parts => k_is)
    (case k_begin_parts => k_is)
    (case a_parts_come => k_is)
    (case i_parts_come => k_is)
    (case l_parts_come => k_is)
    (case c_parts_come => k_is)
    (case k_parts_come => k_is)
    (case a_go_on => k_is)
    (case i_go_on => k_is)
    (case l_go_on => k_is)
    (case c_go_on => k_is)
    (case k_go_on => k_is)
    (case a_run => k_is)
    (case l_run => k_is)
    (case c_run => k_is)
    (case k_run => k_is)
    (case a_of_num => k_is)
    (case l_of_num => k_is)
    (case c_of_num => k_is)
    (case k_of_num => k_is)
    (case a_of_name => k_is)
    (case l_of_name => k_is)
    (case c_of_name => k_is)
    (case k_of_name => k_is)
    (case a_of_if => k_is)
    (case l_of_if => k_is)
    (case c_of_if => k_is)
    (case k_of_if => k_is)
    (case a_of_working => k_is)
    (case l_of_working => k_is)
    (case c_of_working => k_is)
    (case k_of_working => k_is)
    (case c_WAYS => k_is)
    (case l_WAYS => k_is)
    (case y_WAYS => decide)
    (case k_WAYS => repeat (first | exact trivial | refine ⟨⟨_, _, rfl, rfl⟩, ?_⟩))
    (case e_WAYS => repeat (first | exact rfl | refine ⟨_, _, rfl, ⟨_, rfl, rfl⟩, ?_⟩))
    (case c_AHEAD => k_is)
    (case l_AHEAD => k_is)
    (case y_AHEAD => decide)
    (case k_AHEAD => repeat (first | exact trivial | refine ⟨⟨_, _, rfl, rfl⟩, ?_⟩))
    (case e_AHEAD => repeat (first | exact rfl | refine ⟨_, _, rfl, ⟨_, rfl, rfl⟩, ?_⟩))
    (case jl_0 => k_is)
    (case js_0 => decide)
    (case jv_0 => repeat (first | exact .nil | refine .cons ⟨_, rfl⟩ ?_))
    (case jl_1 => k_is)
    (case js_1 => decide)
    (case jv_1 => repeat (first | exact .nil | refine .cons ⟨_, rfl⟩ ?_))
    (case jl_2 => k_is)
    (case js_2 => decide)
    (case jv_2 => repeat (first | exact .nil | refine .cons ⟨_, rfl⟩ ?_))
    (case jl_3 => k_is)
    (case js_3 => decide)
    (case jv_3 => repeat (first | exact .nil | refine .cons ⟨_, rfl⟩ ?_))
    (case jl_4 => k_is)
    (case js_4 => decide)
    (case jv_4 => repeat (first | exact .nil | refine .cons ⟨_, rfl⟩ ?_))
    (case jl_5 => k_is)
    (case js_5 => decide)
    (case jv_5 => repeat (first | exact .nil | refine .cons ⟨_, rfl⟩ ?_))
    (case jl_6 => k_is)
    (case js_6 => decide)
    (case jv_6 => repeat (first | exact .nil | refine .cons ⟨_, rfl⟩ ?_))
    (case jl_7 => k_is)
    (case js_7 => decide)
    (case jv_7 => repeat (first | exact .nil | refine .cons ⟨_, rfl⟩ ?_))
    (case jl_8 => k_is)
    (case js_8 => decide)
    (case jv_8 => repeat (first | exact .nil | refine .cons ⟨_, rfl⟩ ?_))
    (case jl_9 => k_is)
    (case js_9 => decide)
    (case jv_9 => repeat (first | exact .nil | refine .cons ⟨_, rfl⟩ ?_))
    (case jl_10 => k_is)
    (case js_10 => decide)
    (case jv_10 => repeat (first | exact .nil | refine .cons ⟨_, rfl⟩ ?_))
    (case jl_11 => k_is)
    (case js_11 => decide)
    (case jv_11 => repeat (first | exact .nil | refine .cons ⟨_, rfl⟩ ?_))
    (case jl_12 => k_is)
    (case js_12 => decide)
    (case jv_12 => repeat (first | exact .nil | refine .cons ⟨_, rfl⟩ ?_))
    (case jl_13 => k_is)
    (case js_13 => decide)
    (case jv_13 => repeat (first | exact .nil | refine .cons ⟨_, rfl⟩ ?_))
    (case z_bool => k_is)
    (case z_dict => k_is)
    (case z_int => k_is)
    (case z_isinstance => k_is)
    (case z_len => k_is)
    (case z_max => k_is)
    (case z_range => k_is)
    (case z_repr => k_is)
    (case z_reversed => k_is)
    (case z_tuple => k_is)
    (case c_END_OF_NUMBERS => k_is)
    (case c_MOST_PARTS => k_is)
