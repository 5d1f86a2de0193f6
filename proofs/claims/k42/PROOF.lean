import PyProof.Rows.All
import Wide.All
import OpenK.AllK
import Wide.FinOn
import PySem.Challenge.RW_fieldrows_k42_functions
import Lean
set_option Elab.async false
set_option linter.all false
set_option maxRecDepth 100000
set_option maxHeartbeats 4100000
noncomputable abbrev Fg:=PySem.W.Frag
namespace L2
open PySem PySem.Spec PyProof.Rows
noncomputable abbrev Key:=Sum Int Str
noncomputable def dA:Key->Value->Bool
 |.inl k,v=>Value.isInt k v
 |.inr x,v=>Value.isStrOf x v
noncomputable def zLB(w:World):Key->Int
 |.inl k=>hashInt k
 |.inr x=>hashStr w x
theorem yN:∀{k:Key} {v:Value},dA k v=true->(∃i t,k=Sum.inl i/\v=Value.int i t)\/(∃x t,k=Sum.inr x/\v=Value.str x t)
 |.inl i,v,h=>by
  obtain⟨t,e⟩:=Value.isInt_shape (k:=i) (v:=v) h
  exact .inl ⟨i,t,rfl,e⟩
 |.inr x,v,h=>by
  obtain⟨t,e⟩:=Value.isStrOf_shape (x:=x) (v:=v) h
  exact .inr ⟨x,t,rfl,e⟩
theorem ZD(i:Int)(t:Tok):dA (.inl i) (.int i t)=true:=by simp[dA,Value.isInt]
theorem ZC(x:Str)(t:Tok):dA (.inr x) (.str x t)=true:=by simp[dA,Value.isStrOf]
theorem zG1(a b:Int):decide ((Sum.inl a:Key)=Sum.inl b)=(a == b):=by
 by_cases e:a=b
 ·subst e;simp
 ·have h:¬(Sum.inl a:Key)=Sum.inl b:=fun q=>e (Sum.inl.inj q)
  rw[decide_eq_false h]
  exact(beq_eq_false_iff_ne.mpr e).symm
theorem zGY(a b:Str):decide ((Sum.inr a:Key)=Sum.inr b)=decide (a=b):=by
 by_cases e:a=b
 ·subst e;simp
 ·have h:¬(Sum.inr a:Key)=Sum.inr b:=fun q=>e (Sum.inr.inj q)
  rw[decide_eq_false h,decide_eq_false e]
theorem zG0(a:Int)(b:Str):decide ((Sum.inl a:Key)=Sum.inr b)=false:=decide_eq_false (fun q=>nomatch q)
theorem zGZ(a:Str)(b:Int):decide ((Sum.inr a:Key)=Sum.inl b)=false:=decide_eq_false (fun q=>nomatch q)
noncomputable def yL(prog:Program)(w:World):PySem.KeyKind prog w Key where
 is:=dA
 hash:=zLB w
 inj:=fun v a b ha hb=>by
  rcases yN ha with⟨i,t,rfl,rfl⟩|⟨x,t,rfl,rfl⟩
  ·rcases yN hb with⟨j,u,rfl,e⟩|⟨y,u,rfl,e⟩
   ·injection e with e1 _;rw[e1]
   ·exact nomatch e
  ·rcases yN hb with⟨j,u,rfl,e⟩|⟨y,u,rfl,e⟩
   ·exact nomatch e
   ·injection e with e1 _;rw[e1]
 byValue:=fun k v h=>by
  rcases yN h with⟨i,t,rfl,rfl⟩|⟨x,t,rfl,rfl⟩<;>rfl
 pyHash:=fun hv h=>by
  rcases yN hv with⟨i,t,rfl,rfl⟩|⟨x,t,rfl,rfl⟩
  ·exact wpAny_pyHash_int h
  ·exact wpAny_pyHash_str h
 eqBool:=fun hu hv h=>by
  rcases yN hu with⟨i,t,rfl,rfl⟩|⟨x,t,rfl,rfl⟩
  ·rcases yN hv with⟨j,u,rfl,rfl⟩|⟨y,u,rfl,rfl⟩
   ·rw[zG1] at h;exact wpAny_eqBool_int h
   ·rw[zG0] at h;exact SeqAt.EqAt.int_str i t y u _ _ _ _ h
  ·rcases yN hv with⟨j,u,rfl,rfl⟩|⟨y,u,rfl,rfl⟩
   ·rw[zGZ] at h;exact SeqAt.EqAt.str_int x t j u _ _ _ _ h
   ·rw[zGY] at h;exact wpAny_eqBool_str h
 «strs»:=fun k x t v h=>by
  rcases yN h with⟨i,u,rfl,e⟩|⟨y,u,rfl,e⟩
  ·exact nomatch e
  ·injection e with e1 _
   subst e1
   cases v<;>rfl
theorem gX(prog:Program)(w:World)(i:Int)(t:Tok):(yL prog w).is (.inl i) (.int i t)=true:=ZD i t
theorem gW(prog:Program)(w:World)(x:Str)(t:Tok):(yL prog w).is (.inr x) (.str x t)=true:=ZC x t
end L2
namespace L2
open PySem PySem.Spec PyProof.Rows
inductive V where
 |non|bl (b:Bool)|int (i:Int)|str (x:Str)|byt (b:Array UInt8)|flt (b:UInt64)|ref (a:Addr)|ty (n:String)
 deriving DecidableEq
noncomputable def RelV:V->Value->Prop
 |.non,u=>u=Value.none
 |.bl b,u=>u=Value.bool b
 |.int i,u=>∃t,u=Value.int i t
 |.str x,u=>∃t,u=Value.str x t
 |.byt b,u=>∃t,u=Value.bytes b t
 |.flt b,u=>∃t,u=Value.float b t
 |.ref a,u=>u=Value.ref a
 |.ty n,u=>u=Value.type n
noncomputable abbrev Vals:List V->List Value->Prop:=Paired RelV
theorem Vals.length{xs:List V}{us:List Value}(r:Vals xs us):xs.length=us.length:=Paired.length r
theorem Vals.get:∀{xs:List V} {us:List Value} {i:Nat} {x:V},Vals xs us->xs[i]?=some x->∃u,us[i]?=some u/\RelV x u
 |_,_,_,_,.nil,e=>by simp at e
 |_,_,0,_,.cons r _,e=>by simp at e;subst e;exact⟨_,rfl,r⟩
 |_,_,i+1,x,.cons _ t,e=>by
  obtain⟨u,h1,h2⟩:=Vals.get (i:=i) (x:=x) t (by simpa using e)
  exact⟨u,by simpa using h1,h2⟩
theorem Vals.append:∀{xs ys:List V} {us ws:List Value},Vals xs us->Vals ys ws->Vals (xs++ys) (us++ws)
 |_,_,_,_,.nil,s=>s
 |_,_,_,_,.cons r t,s=>.cons r (Vals.append t s)
theorem Vals.take:∀{xs:List V} {us:List Value} (n:Nat),Vals xs us->Vals (xs.take n) (us.take n)
 |_,_,0,_=>.nil
 |_,_,_+1,.nil=>.nil
 |_,_,n+1,.cons r t=>.cons r (Vals.take n t)
theorem Vals.drop:∀{xs:List V} {us:List Value} (n:Nat),Vals xs us->Vals (xs.drop n) (us.drop n)
 |_,_,0,r=>r
 |_,_,_+1,.nil=>.nil
 |_,_,n+1,.cons _ t=>Vals.drop n t
noncomputable def RelO:Option V->Option Value->Prop
 |some v,some u=>RelV v u
 |none,none=>True
 |_,_=>False
noncomputable def KV{κ:Type}:List (κ×V)->List (κ×Value)->Prop:=Paired fun(p:κ×V) (q:κ×Value)=>p.1=q.1/\RelV p.2 q.2
noncomputable def kV:Key->V
 |.inl i=>.int i
 |.inr x=>.str x
inductive HO where
 |lst (xs:List V)
 |tup (xs:List V)
 |dK (kvs:List (Key×V))|dT (kvs:List (List Key×V))
 |set (S:Int->Bool) (n:Nat)
 |ins (C dx:Addr) (fs:List (Str×V))
 |own (x:Addr)
 |xd (fs:List (Str×V))
 |met (f x:Addr)
 |rng (lo hi:Int)
 |frz (o:Obj) (u:HO)
 |tbl (ps:Array Value)
 |ext (φ:Heap->Prop)
noncomputable abbrev Hp:=Addr->Option HO
noncomputable def upd(H:Hp)(a:Addr)(o:HO):Hp:=fun b=>if b=a then some o else H b
theorem zN{H:Hp}{a:Addr}{o:HO}:upd H a o a=some o:=by unfold upd;rw[if_pos rfl]
theorem zM{H:Hp}{a b:Addr}{o:HO}(h:b≠a):upd H a o b=H b:=by unfold upd;rw[if_neg h]
theorem zE3{H:Hp}{a b:Addr}{o u:HO}(h:H a=some o)(h':H b=some u)(d:o≠u):a≠b:=by
 intro e;subst e;rw[h] at h';exact d (Option.some.inj h')
theorem xW{H:Hp}{a b:Addr}{o:HO}(h:H a=some o)(h':H b=none):a≠b:=by
 intro e;subst e;rw[h] at h';cases h'
noncomputable def qOf(ps:Array Value):Str:=match (ps[0]?:Option Value) with
 |some (.str q _)=>q
 |_=>""
noncomputable def zL8(q:Str)(o:Obj):Prop:=∃vs t,o.data=.fields vs/\vs[1]?=some (.str q t)
noncomputable def zJ8(H:Hp)(h:Heap)(a:Addr)(q:Str):Prop:=∃ts:Array Value,h.get? a=some (PySem.W.tabObj ts)/\TriplesOk ts.toList/\∀pos cv,codeAmong pos ts.toList=some cv->∃c oc u,cv=.ref c/\H c=some (.frz oc u)/\zL8 q oc
section
variable(P:Program)(w:World)
noncomputable def ObjOk(H:Hp)(h:Heap)(a:Addr):HO->Prop
 |.lst xs=>xs.length<=sizeLine/\∃(its:List Value) (n:Nat),Vals xs its/\h.get? a=some { cls:=.type "list",data:=.seq its.toArray n }
 |.tup xs=>xs.length<=sizeLine/\∃its:List Value,Vals xs its/\IsTup h a its.toArray
 |.dK kvs=>kvs.length<=sizeLine/\(a == sysModules)=false/\∃vs,KV kvs vs/\h.DictOf (yL P w) a vs
 |.dT kvs=>kvs.length<=sizeLine/\(a == sysModules)=false/\∃xs:List (List Key×Addr×Value),
   Paired (fun(p:List Key×V) (q:List Key×Addr×Value)=>p.1=q.1/\H q.2.1=some (.tup (p.1.map kV))/\RelV p.2 q.2.2) kvs xs /\
   ∃o es ep,h.get? a=some o/\o.ExactDict/\o.data=.dict es ep/\es.toList=xs.map (entryOfKey (tupleKind (yL P w)))/\(xs.map (·.1)).Nodup
 |.set S n=>h.SetOf (intKind P w) a S n
 |.ins C dx fs=>H dx=some (.own a)/\fs.length<=1000/\dx≠a/\h.get? a=some (PySem.W.instObj C dx) /\
   ∃mA,h.Ns1 dx mA/\(∀f,RelO (fs.lookup f) (mA f))/\PySem.Within mA (fs.map (·.1))
 |.own _=>∃o,h.get? a=some o
 |.xd fs=>∃mA,h.Ns1 a mA/\∀f,RelO (fs.lookup f) (mA f)
 |.rng lo hi=>∃t u v,h.get? a=some { cls:=.type "range",data:=.fields #[.int lo t,.int hi u,.int 1 v] }
 |.frz o u=>h.get? a=some o/\ObjOk H h a u
 |.tbl ps=>zJ8 H h a (qOf ps)
 |.met f x=>h.get? a=some (PySem.W.methodObj (.ref f) (.ref x))
 |.ext φ=>φ h/\(∃o,h.get? a=some o)/\∀h1 h2:Heap,φ h1->(∀o,h1.get? a=some o->h2.get? a=some o)->φ h2
noncomputable def HOk(H:Hp)(h:Heap):Prop:=∀a o,H a=some o->ObjOk P w H h a o
end
section
variable{P:Program}{w:World}{H H':Hp}{h h':Heap}{a:Addr}{o:HO}
theorem ObjOk.lt(x:ObjOk P w H h a o):a<h.objs.size:=by
 cases o with
 |lst xs=>obtain⟨_,_,_,_,e⟩:=x;exact Heap.lt_size e
 |tup xs=>obtain⟨_,_,_,p⟩:=x;exact p.lt
 |dK kvs=>obtain⟨_,_,_,_,o,_,_,e,_⟩:=x;exact Heap.lt_size e
 |dT kvs=>obtain⟨_,_,_,_,o,_,_,e,_⟩:=x;exact Heap.lt_size e
 |set S n=>obtain⟨o,_,_,_,e,_⟩:=x;exact Heap.lt_size e
 |ins C dx fs=>obtain⟨_,_,_,e,_⟩:=x;exact Heap.lt_size e
 |own y=>obtain⟨_,e⟩:=x;exact Heap.lt_size e
 |xd fs=>obtain⟨_,⟨_,_,_,e,_⟩,_⟩:=x;exact Heap.lt_size e
 |rng lo hi=>obtain⟨_,_,_,e⟩:=x;exact Heap.lt_size e
 |frz ob u=>obtain⟨e,_⟩:=x;exact Heap.lt_size e
 |tbl ps=>obtain⟨_,e,_⟩:=x;exact Heap.lt_size e
 |met f y=>exact Heap.lt_size (show h.get? a=some _ from x)
 |ext φ=>obtain⟨_,⟨_,e⟩,_⟩:=x;exact Heap.lt_size e
theorem Paired.mapP{α β:Type}{F G:α->β->Prop}:∀{l₁:List α} {l₂:List β},Paired F l₁ l₂->(∀a b,F a b->G a b)->Paired G l₁ l₂
 |_,_,.nil,_=>.nil
 |_,_,.cons r t,f=>.cons (f _ _ r) (Paired.mapP t f)
theorem ObjOk.stay(x:ObjOk P w H h a o)(k:∀b u,(b=a\/H b=some (.own a))->h.get? b=some u->h'.get? b=some u)(ho:∀b,H b=some (.own a)->H' b=some (.own a))(ht:∀b xs,H b=some (.tup xs)->H' b=some (.tup xs))(hf:∀b o u,H b=some (.frz o u)->H' b=some (.frz o u)):ObjOk P w H' h' a o:=by
 induction o with
 |lst xs=>obtain⟨z,its,n,r,e⟩:=x;exact⟨z,its,n,r,k _ _ (.inl rfl) e⟩
 |tup xs=>obtain⟨z,its,r,ob,e,c⟩:=x;exact⟨z,its,r,ob,k _ _ (.inl rfl) e,c⟩
 |dK kvs=>obtain⟨z,y,vs,r,ob,es,ep,e,c⟩:=x;exact⟨z,y,vs,r,ob,es,ep,k _ _ (.inl rfl) e,c⟩
 |dT kvs=>
  obtain⟨z,y,xs,r,ob,es,ep,e,c⟩:=x
  exact⟨z,y,xs,Paired.mapP r fun p q z=>⟨z.1,ht _ _ z.2.1,z.2.2⟩,ob,es,ep,k _ _ (.inl rfl) e,c⟩
 |set S n=>obtain⟨ob,es,ep,t,e,c⟩:=x;exact⟨ob,es,ep,t,k _ _ (.inl rfl) e,c⟩
 |ins C dx fs=>
  obtain⟨d,z,ne,e,mA,⟨od,es,ep,e2,c⟩,r⟩:=x
  exact⟨ho _ d,z,ne,k _ _ (.inl rfl) e,mA,⟨od,es,ep,k _ _ (.inr d) e2,c⟩,r⟩
 |own y=>obtain⟨ob,e⟩:=x;exact⟨ob,k _ _ (.inl rfl) e⟩
 |xd fs=>obtain⟨mA,⟨od,es,ep,e,c⟩,r⟩:=x;exact⟨mA,⟨od,es,ep,k _ _ (.inl rfl) e,c⟩,r⟩
 |rng lo hi=>obtain⟨t,u,v,e⟩:=x;exact⟨t,u,v,k _ _ (.inl rfl) e⟩
 |frz ob u ih=>obtain⟨e,q⟩:=x;exact⟨k _ _ (.inl rfl) e,ih q⟩
 |tbl ps=>obtain⟨ts,e,z,r⟩:=x;exact⟨ts,k _ _ (.inl rfl) e,z,fun p v q=>let ⟨c,oc,u,e1,e2,e3⟩:=r p v q;⟨c,oc,u,e1,hf _ _ _ e2,e3⟩⟩
 |met f y=>
  have e:h.get? a=some (PySem.W.methodObj (.ref f) (.ref y)):=x
  show h'.get? a=some (PySem.W.methodObj (.ref f) (.ref y))
  exact k a _ (.inl rfl) e
 |ext φ=>obtain⟨p,⟨o,e⟩,st⟩:=x;exact⟨st _ _ p fun o q=>k _ _ (.inl rfl) q,⟨o,k _ _ (.inl rfl) e⟩,st⟩
theorem HOk.lt(x:HOk P w H h)(e:H a=some o):a<h.objs.size:=(x a o e).lt
theorem HOk.fresh(x:HOk P w H h)(e:h.objs.size<=a):H a=none:=by
 cases q:H a with
 |none=>rfl
 |some u=>exact absurd (Nat.lt_of_lt_of_le (x.lt q) e) (Nat.lt_irrefl _)
theorem HOk.kept(x:HOk P w H h)(k:∀b u,h.get? b=some u->h'.get? b=some u):HOk P w H h':=fun a o e=>
 (x a o e).stay (fun b u _ q=>k b u q) (fun _ q=>q) (fun _ _ q=>q) fun _ _ _ q=>q
theorem HOk.laid(x:HOk P w H h)(k:∀b u,h.get? b=some u->h'.get? b=some u)(hp:h.objs.size<=a)(new:ObjOk P w (upd H a o) h' a o):HOk P w (upd H a o) h':=fun b u e=>by
 have hn:=x.fresh hp
 by_cases hb:b=a
 ·subst hb;rw[zN] at e;cases e;exact new
 ·rw[zM hb] at e
  exact(x b u e).stay (fun c v _ q=>k c v q) (fun c q=>by rw[zM (xW q hn)];exact q) (fun c xs q=>by rw[zM (xW q hn)];exact q) fun c o u q=>by rw[zM (xW q hn)];exact q
end
noncomputable def Rd(H:Hp)(a:Addr)(u:HO):Prop:=H a=some u\/∃o,H a=some (.frz o u)
theorem Rd.ok{P:Program}{w:World}{H:Hp}{h:Heap}{a:Addr}{u:HO}(r:Rd H a u)(x:HOk P w H h):ObjOk P w H h a u:=by
 rcases r with r|⟨o,r⟩
 ·exact x a u r
 ·obtain⟨_,q⟩:=x a _ r
  exact q
noncomputable def Mut:Option HO->Prop
 |some (.lst _)=>True
 |some (.dK _)=>True
 |some (.dT _)=>True
 |some (.set _ _)=>True
 |some (.ins _ _ _)=>True
 |some (.ext _)=>True
 |_=>False
section
variable{P:Program}{w:World}{H:Hp}{h h':Heap}{x e:Addr}{o':HO}
theorem HOk.write(ok:HOk P w H h)(mu:Mut (H x))(he:e=x\/H e=some (.own x))(k:∀b u,b≠e->h.get? b=some u->h'.get? b=some u)(heo:∃u,h'.get? e=some u)(new:ObjOk P w (upd H x o') h' x o'):HOk P w (upd H x o') h':=fun b u q=>by
 have nown:∀c y,H c=some (.own y)->c≠x:=fun c y r z=>by subst z;rw[r] at mu;exact mu
 have ntup:∀c xs,H c=some (.tup xs)->c≠x:=fun c xs r z=>by subst z;rw[r] at mu;exact mu
 by_cases hb:b=x
 ·subst hb;rw[zN] at q;cases q;exact new
 ·rw[zM hb] at q
  by_cases hbe:b=e
  ·have q':H b=some (.own x):=by
    rcases he with z|z
    ·exact absurd (hbe.trans z) hb
    ·rw[hbe];exact z
   rw[q] at q';cases q'
   obtain⟨v,hv⟩:=heo
   exact⟨v,by rw[hbe];exact hv⟩
  ·refine(ok b u q).stay (fun c v hc r=>k c v ?_ r) (fun c r=>by rw[zM (nown c b r)];exact r) (fun c xs r=>by rw[zM (ntup c xs r)];exact r) fun c o u r=>by rw[zM (fun z=>by subst z;rw[r] at mu;exact mu)];exact r
   rcases hc with rfl|hc
   ·exact hbe
   ·rintro rfl
    rcases he with z|z
    ·exact nown c b hc z
    ·rw[hc] at z;cases z;exact hb rfl
end
structure Un(fs ex:List Addr)(H H':Hp)(h h':Heap):Prop where
 keep:∀b o,h.get? b=some o->H b=none->b∉fs->b∉ex->h'.get? b=some o
 slot:∀b o,h.get? b=some o->H b=none->b∈fs->b∉ex->∃sl,h'.get? b=some { o with slots:=sl }
 free:∀b o,h.get? b=some o->H b=none->b∉ex->H' b=none
 there:∀b o,h.get? b=some o->b∉ex->∃o',h'.get? b=some o'
 tups:∀b xs,H b=some (.tup xs)->H' b=some (.tup xs)
 frzs:∀b o u,H b=some (.frz o u)->H' b=some (.frz o u)
 tbls:∀b ps,H b=some (.tbl ps)->∃more,H' b=some (.tbl (ps++more))
section
variable{fs fs' ex ex':List Addr}{H H1 H2:Hp}{h h1 h2 h':Heap}{a x e:Addr}{o:HO}
theorem Un.any(u:Un fs ex H H1 h h1){b:Addr}{ob:Obj}(q:h.get? b=some ob)(n:H b=none)(hx:b∉ex):∃sl,h1.get? b=some { ob with slots:=sl }:=by
 by_cases hb:b∈fs
 ·exact u.slot b ob q n hb hx
 ·exact⟨ob.slots,u.keep b ob q n hb hx⟩
theorem Un.kept(k:∀b u,h.get? b=some u->h'.get? b=some u):Un fs ex H H h h':=
 ⟨fun b ob q _ _ _=>k b ob q,fun b ob q _ _ _=>⟨ob.slots,k b ob q⟩,fun _ _ _ n _=>n,fun b ob q _=>⟨ob,k b ob q⟩,fun _ _ q=>q,fun _ _ _ q=>q,fun _ ps q=>⟨#[],by rw[q];simp⟩⟩
theorem Un.refl:Un fs ex H H h h:=Un.kept fun _ _ q=>q
theorem Un.laid(k:∀b u,h.get? b=some u->h'.get? b=some u)(hp:h.objs.size<=a)(hn:H a=none):Un fs ex H (upd H a o) h h' where
 keep:=fun b u q _ _ _=>k b u q
 slot:=fun b u q _ _ _=>⟨u.slots,k b u q⟩
 free:=fun b u q n _=>by rw[zM (Nat.ne_of_lt (Nat.lt_of_lt_of_le (Heap.lt_size q) hp))];exact n
 there:=fun b u q _=>⟨u,k b u q⟩
 tups:=fun b xs q=>by rw[zM (xW q hn)];exact q
 frzs:=fun b u xs q=>by rw[zM (xW q hn)];exact q
 tbls:=fun b ps q=>⟨#[],by rw[zM (xW q hn),q];simp⟩
theorem Un.write(mu:Mut (H x))(he:e=x\/H e=some (.own x))(k:∀b u,b≠e->h.get? b=some u->h'.get? b=some u)(heo:∃u,h'.get? e=some u):Un fs ex H (upd H x o) h h':=by
 have hx:∀b,H b=none->b≠x:=fun b n z=>by subst z;rw[n] at mu;exact mu
 have hb:∀b,H b=none->b≠e:=fun b n z=>by
  subst z
  rcases he with r|r
  ·exact hx b n r
  ·rw[n] at r;cases r
 have hm:∀b u,H b=some u->¬Mut (some u)->b≠x:=fun b u q nm z=>by subst z;rw[q] at mu;exact nm mu
 refine⟨fun b u q n _ _=>k b u (hb b n) q,fun b u q n _ _=>⟨u.slots,k b u (hb b n) q⟩,fun b u q n _=>by rw[zM (hx b n)];exact n,fun b u q _=>?_,
  fun b xs q=>by rw[zM (hm b _ q fun z=>z)];exact q,fun b u xs q=>by rw[zM (hm b _ q fun z=>z)];exact q,fun b ps q=>⟨#[],by rw[zM (hm b _ q fun z=>z),q];simp⟩⟩
 by_cases hbe:b=e
 ·subst hbe;exact heo
 ·exact⟨u,k b u hbe q⟩
end
noncomputable def trk(h:Heap)(H:Hp):List Addr:=(List.range h.objs.size).filter fun a=>(H a).isSome
noncomputable def zEQ(h:Heap)(H:Hp):Heap:=PySem.W.hideAll h (trk h H)
theorem ZJ(h:Heap)(H:Hp):(zEQ h H).objs.size=h.objs.size:=PySem.W.hideAll_size _ _
theorem JC{h:Heap}{H:Hp}{b:Addr}{o:Obj}(e:h.get? b=some o)(n:H b=none):(zEQ h H).get? b=some o:=
 PySem.W.hideAll_get _ e fun hm=>by
  have q:(H b).isSome=true:=(List.mem_filter.mp hm).2
  rw[n] at q;simp at q
theorem zCE{h:Heap}{H:Hp}{b:Addr}{o:Obj}(e:(zEQ h H).get? b=some o):h.get? b=some o/\H b=none:=by
 have e':h.get? b=some o:=PySem.W.of_hideAll (trk h H) e
 refine⟨e',?_⟩
 cases q:H b with
 |none=>rfl
 |some x=>
  have hm:b∈trk h H:=List.mem_filter.mpr ⟨List.mem_range.mpr (Heap.lt_size e'),by simp[q]⟩
  have z:(zEQ h H).get? b=none:=PySem.W.hideAll_none (trk h H) hm
  rw[z] at e;cases e
end L2
namespace L2
open PySem PySem.Spec PyProof.Rows
structure Mod(K:Fg)(mg:Str->Option Value)(base:Heap):Prop where
 kin:K.In base
 glob:base.Ns mainGlobals mg
 blt:∃mb,base.Ns builtinsNs mb/\∀x:Str,x ≠ "__name__" -> mb x=bootBuiltins x
 nolimit:base.NoLimit
structure Cx where
 prog:Program
 w:World
 K:Fg
 mg:Str->Option Value
 base:Heap
 A:Around
 N:List Str
 s₀:Shared
 H₀:Hp
 env:Env
 outer:List Env
 stack:List Env
 ex:List Addr
 fn:Str->Bool
 calm:Bool
 pn:List (Addr×Obj)
 xe:Value->Shared->Prop
noncomputable def frs(l:List Env):List Addr:=l.filterMap (·.frame)
noncomputable abbrev Cx.fs(X:Cx):List Addr:=frs X.outer
noncomputable def Vis(sc:Scope)(x:Str):Prop:=sc.names.lookup x=some .local\/sc.names.lookup x=some .cell\/sc.names.lookup x=some .free
noncomputable def Loc(sc:Scope)(x:Str):Prop:=sc.names.lookup x=some .local\/sc.names.lookup x=some .cell
noncomputable def zL7(env:Env)(h:Heap)(m:Str->Option Value)(x:Str)(u:Value):Prop:=
 (env.kindOf x=some .local/\m x=some u)\/((env.kindOf x=some .cell\/env.kindOf x=some .free)/\∃c,env.cells.lookup x=some c/\h.IsCell c (some u))
noncomputable def zIG(K:Fg)(H:Hp):Prop:=True
structure FrF(K:Fg)(l:List Env)(H:Hp):Prop where
 fr:∀b∈frs l,H b=none
 tb:zIG K H
structure Cx.Ok(X:Cx):Prop where
 mod:Mod X.K X.mg X.base
 kind:X.env.scope.kind=.function
 glob:X.env.globals=mainGlobals
 blt:X.env.builtins=builtinsNs
 above:X.s₀.heap.objs.size<=X.env.locals
 inj:∀x y c,X.env.cells.lookup x=some c->X.env.cells.lookup y=some c->x=y
 has:∀x,(X.env.kindOf x=some .cell\/X.env.kindOf x=some .free)->∃c,X.env.cells.lookup x=some c
 cab:∀x c,X.fn x=true->X.env.cells.lookup x=some c->X.s₀.heap.objs.size<=c
 hd:X.calm=true->X.A.handled=none
 frames:X.A.frames=some X.stack
 stk:X.stack=X.outer\/(X.stack=X.env::X.outer/\X.env.frame=some X.env.locals)
 exf:∀b∈X.ex,b≠X.env.locals/\∀x c,X.env.cells.lookup x=some c->c≠b
 bs:∀b o,X.base.get? b=some o->X.s₀.heap.get? b=some o/\X.H₀ b=none
 bsz:X.base.objs.size<=X.s₀.heap.objs.size
 noex:∀b o,X.base.get? b=some o->b∉X.ex
 exfs:∀b∈X.ex,b∉X.fs
 funs:X.s₀.heap.FunFrames X.base X.outer
 frf:FrF X.K X.outer X.H₀
structure Inv(X:Cx)(pins:List (Addr×Obj))(σ:List (Option V))(H:Hp)(s:Shared):Prop where
 ok:X.Ok
 os:s.os=X.s₀.os
 bare:AllBare s.gens
 base:Un X.fs X.ex X.H₀ H X.s₀.heap s.heap
 loc:∃m,s.heap.Ns X.env.locals m/\∀(i:Nat) (x:Str) (v:V),X.N[i]?=some x->σ[i]?=some (some v)->Vis X.env.scope x->∃u,RelV v u/\zL7 X.env s.heap m x u
 cell:∀x c,X.env.cells.lookup x=some c->∃v,s.heap.IsCell c v
 free:H X.env.locals=none
 freeC:∀x c,X.env.cells.lookup x=some c->H c=none
 pin:∀p∈X.pn++pins,s.heap.get? p.1=some p.2/\H p.1=none/\p.1≠X.env.locals/\p.1∉X.fs/\∀v,p.2.data≠.cell v
 hok:HOk X.prog X.w H s.heap
 len:σ.length=X.N.length
section
variable{X:Cx}{pins:List (Addr×Obj)}{σ:List (Option V)}{H H':Hp}{s:Shared}{h':Heap}
theorem Cx.Ok.nofr(ok:X.Ok){b:Addr}{o:Obj}(e:X.base.get? b=some o):b∉X.fs:=fun hb=>by
 have:=(ok.funs.mem hb).1
 rw[e] at this;cases this
theorem Inv.bs(I:Inv X pins σ H s):∀b o,X.base.get? b=some o->s.heap.get? b=some o/\H b=none:=fun b o e=>
 ⟨I.base.keep b o (I.ok.bs b o e).1 (I.ok.bs b o e).2 (I.ok.nofr e) (I.ok.noex b o e),I.base.free b o (I.ok.bs b o e).1 (I.ok.bs b o e).2 (I.ok.noex b o e)⟩
theorem Inv.bk(I:Inv X pins σ H s):∀b o,X.base.get? b=some o->s.heap.get? b=some o:=fun b o e=>(I.bs b o e).1
theorem Inv.mod(I:Inv X pins σ H s):Mod X.K X.mg X.base:=I.ok.mod
theorem Inv.kIn(I:Inv X pins σ H s):X.K.In s.heap:=I.ok.mod.kin.keeps I.bk
theorem Inv.lt(I:Inv X pins σ H s):X.env.locals<s.heap.objs.size:=let ⟨_,hn,_⟩:=I.loc;hn.lt
theorem Inv.sz(I:Inv X pins σ H s):X.s₀.heap.objs.size<=s.heap.objs.size:=Nat.le_trans I.ok.above (Nat.le_of_lt I.lt)
theorem Inv.nofs(I:Inv X pins σ H s){a:Addr}(h:s.heap.objs.size<=a):a∉X.fs:=fun hb=>by
 obtain⟨_,o,ho,_⟩:=I.ok.funs.mem hb
 exact absurd (Nat.lt_of_lt_of_le (Heap.lt_size ho) (Nat.le_trans I.sz h)) (Nat.lt_irrefl _)
theorem Inv.cne(I:Inv X pins σ H s):∀x c,X.env.cells.lookup x=some c->c≠X.env.locals:=fun x c e z=>by
 obtain⟨v,o,ho,hd⟩:=I.cell x c e
 obtain⟨m,⟨o',es,ep,ho',hd',_⟩,_⟩:=I.loc
 rw[z,ho'] at ho;cases ho;rw[hd'] at hd;cases hd
theorem Inv.funs(I:Inv X pins σ H s):s.heap.FunFrames X.base X.outer:=by
 have all:∀(l:List Env),(∀b∈frs l,b∈X.fs)->X.s₀.heap.FunFrames X.base l->s.heap.FunFrames X.base l:=by
  intro l
  induction l with
  |nil=>intro _ _;trivial
  |cons env r ih=>
   intro hs hl
   obtain⟨hk,⟨L,o,hf,hn,ho,hd⟩,hr⟩:=hl
   have hL:L∈X.fs:=hs L (by unfold frs;rw[List.filterMap_cons,hf];exact List.mem_cons_self)
   obtain⟨sl,e⟩:=I.base.slot L o ho (I.ok.frf.fr L hL) hL fun z=>I.ok.exfs L z hL
   exact⟨hk,⟨L,_,hf,hn,e,hd⟩,ih (fun b hb=>hs b (by unfold frs;rw[List.filterMap_cons,hf];exact List.mem_cons_of_mem _ hb)) hr⟩
 exact all X.outer (fun _ hb=>hb) I.ok.funs
theorem Inv.stack(I:Inv X pins σ H s):s.heap.FunFrames X.base X.stack:=by
 rcases I.ok.stk with e|⟨e,hf⟩
 ·rw[e];exact I.funs
 ·rw[e]
  obtain⟨m,hn,_⟩:=I.loc
  refine .cons (by rw[I.ok.kind];decide) hf hn ?_ I.funs
  exact Heap.get?_none_of_le (Nat.le_trans I.ok.bsz I.ok.above)
theorem Inv.stkSub(I:Inv X pins σ H s):∀b∈frs X.stack,b∈X.env.locals::X.fs:=fun b hb=>by
 rcases I.ok.stk with e|⟨e,hf⟩
 ·rw[e] at hb;exact List.mem_cons_of_mem _ hb
 ·rw[e] at hb
  unfold frs at hb
  rw[List.filterMap_cons,hf] at hb
  exact hb
theorem Inv.stkFree(I:Inv X pins σ H s):∀b∈frs X.stack,H b=none:=fun b hb=>by
 rcases List.mem_cons.mp (I.stkSub b hb) with e|hb
 ·rw[e];exact I.free
 ·obtain⟨_,o,ho,_⟩:=I.ok.funs.mem hb
  exact I.base.free b o ho (I.ok.frf.fr b hb) fun z=>I.ok.exfs b z hb
theorem Inv.tabIn(I:Inv X pins σ H s):zIG X.K H:=
 trivial
theorem Inv.step{g':Array GenState}{t':Nat}{d':Drawn}{ch:List Addr}(I:Inv X pins σ H s)(hch:∀b∈ch,(b∈X.ex\/X.s₀.heap.objs.size<=b)/\b≠X.env.locals/\(∀x c,X.env.cells.lookup x=some c->c≠b)/\∀p∈X.pn++pins,p.1≠b)(keep:∀b o,b≠X.env.locals->b∉X.fs->b∉ch->s.heap.get? b=some o->H b=none->h'.get? b=some o)(slot:∀b o,b≠X.env.locals->b∈X.fs->b∉ch->s.heap.get? b=some o->H b=none->∃sl,h'.get? b=some { o with slots:=sl })(free:∀b o,b∉ch->s.heap.get? b=some o->H b=none->H' b=none)(there:∀b o,b∉ch->s.heap.get? b=some o->∃o',h'.get? b=some o')(tups:∀b xs,H b=some (.tup xs)->H' b=some (.tup xs))(frzs:∀b o u,H b=some (.frz o u)->H' b=some (.frz o u))(tbls:∀b ps,H b=some (.tbl ps)->∃more,H' b=some (.tbl (ps++more)))(ns:∀m,s.heap.Ns X.env.locals m->h'.Ns X.env.locals m)(hok:HOk X.prog X.w H' h')(hg:AllBare g'):Inv X pins σ H' { s with heap:=h',gens:=g',drawn:=d',toks:=t' }:=by
 have neL:∀b o,X.s₀.heap.get? b=some o->b≠X.env.locals:=fun b o e=>Nat.ne_of_lt (Nat.lt_of_lt_of_le (Heap.lt_size e) I.ok.above)
 have neC:∀b o,X.s₀.heap.get? b=some o->b∉X.ex->b∉ch:=fun b o e hx hb=>by
  rcases(hch b hb).1 with z|z
  ·exact hx z
  ·exact absurd (Nat.lt_of_lt_of_le (Heap.lt_size e) z) (Nat.lt_irrefl _)
 have cellK:∀x c,X.env.cells.lookup x=some c->∀v,s.heap.IsCell c v->h'.IsCell c v:=fun x c e v ⟨o,ho,hd⟩=>by
  have nch:c∉ch:=fun z=>(hch c z).2.2.1 x c e rfl
  by_cases hc:c∈X.fs
  ·obtain⟨sl,q⟩:=slot c o (I.cne x c e) hc nch ho (I.freeC x c e)
   exact⟨_,q,hd⟩
  ·exact⟨o,keep c o (I.cne x c e) hc nch ho (I.freeC x c e),hd⟩
 refine⟨I.ok,I.os,hg,⟨fun b o e n hb hx=>?_,fun b o e n hb hx=>?_,fun b o e n hx=>?_,fun b o e hx=>?_,fun b xs e=>tups b xs (I.base.tups b xs e),fun b o xs e=>frzs b o xs (I.base.frzs b o xs e),fun b ps e=>?_⟩,?_,fun x c e=>?_,?_,fun x c e=>?_,fun p hp=>?_,hok,I.len⟩
 ·exact keep b o (neL b o e) hb (neC b o e hx) (I.base.keep b o e n hb hx) (I.base.free b o e n hx)
 ·obtain⟨sl,e1⟩:=I.base.slot b o e n hb hx
  obtain⟨sl',e2⟩:=slot b _ (neL b o e) hb (neC b o e hx) e1 (I.base.free b o e n hx)
  exact⟨sl',e2⟩
 ·obtain⟨o',e1⟩:=I.base.there b o e hx
  exact free b o' (neC b o e hx) e1 (I.base.free b o e n hx)
 ·obtain⟨o',e1⟩:=I.base.there b o e hx
  exact there b o' (neC b o e hx) e1
 ·obtain⟨m1,e1⟩:=I.base.tbls b ps e
  obtain⟨m2,e2⟩:=tbls b _ e1
  exact⟨m1++m2,by rw[e2,Array.append_assoc]⟩
 ·obtain⟨m,hn,hl⟩:=I.loc
  refine⟨m,ns m hn,fun i x v e1 e2 e3=>?_⟩
  obtain⟨u,r,l⟩:=hl i x v e1 e2 e3
  refine⟨u,r,?_⟩
  rcases l with l|⟨k,c,e,z⟩
  ·exact .inl l
  ·exact .inr ⟨k,c,e,cellK x c e _ z⟩
 ·obtain⟨v,z⟩:=I.cell x c e
  exact⟨v,cellK x c e v z⟩
 ·obtain⟨m,⟨o,_,_,ho,_⟩,_⟩:=I.loc
  exact free _ o (fun z=>(hch _ z).2.1 rfl) ho I.free
 ·obtain⟨v,o,ho,hd⟩:=I.cell x c e
  exact free c o (fun z=>(hch c z).2.2.1 x c e rfl) ho (I.freeC x c e)
 ·obtain⟨e,n,ne,nf,d⟩:=I.pin p hp
  have nch:p.1∉ch:=fun z=>(hch p.1 z).2.2.2 p hp rfl
  exact⟨keep p.1 p.2 ne nf nch e n,free p.1 p.2 nch e n,ne,nf,d⟩
theorem Inv.un{t':Nat}(I:Inv X pins σ H s)(u:Un X.fs [] H H' s.heap h')(hok:HOk X.prog X.w H' h'):Inv X pins σ H' { s with heap:=h',toks:=t' }:=by
 obtain⟨m,⟨o,es,ep,ho,r⟩,_⟩:=id I.loc
 obtain⟨sl,hL⟩:=u.any ho I.free (by simp)
 exact I.step (g':=s.gens) (d':=s.drawn) (ch:=[]) (fun _ z=>nomatch z) (fun b o _ hb _ e n=>u.keep b o e n hb (by simp)) (fun b o _ hb _ e n=>u.slot b o e n hb (by simp)) (fun b o _ e n=>u.free b o e n (by simp)) (fun b o _ e=>u.there b o e (by simp)) u.tups u.frzs u.tbls (fun m' hm=>by
  obtain⟨o',es',ep',ho',r'⟩:=hm
  rw[ho] at ho';cases ho'
  exact⟨_,es',ep',hL,r'⟩) hok I.bare
theorem Inv.call{g':Array GenState}{t':Nat}{d':Drawn}{ch:List Addr}(I:Inv X pins σ H s)(u:Un (frs X.stack) ch H H' s.heap h')(hok:HOk X.prog X.w H' h')(hg:AllBare g')(hch:∀b∈ch,(b∈X.ex\/X.s₀.heap.objs.size<=b)/\b≠X.env.locals/\(∀x c,X.env.cells.lookup x=some c->c≠b)/\∀p∈X.pn++pins,p.1≠b):Inv X pins σ H' { s with heap:=h',gens:=g',drawn:=d',toks:=t' }:=by
 obtain⟨m,⟨o,es,ep,ho,r⟩,_⟩:=id I.loc
 obtain⟨sl,hL⟩:=u.any ho I.free fun z=>(hch _ z).2.1 rfl
 exact I.step (ch:=ch) hch (fun b o hL hb hc e n=>u.keep b o e n (fun z=>(List.mem_cons.mp (I.stkSub b z)).elim hL hb) hc) (fun b o _ _ hc e n=>u.any e n hc) (fun b o hc e n=>u.free b o e n hc) (fun b o hc e=>u.there b o e hc) u.tups u.frzs u.tbls (fun m' hm=>by
  obtain⟨o',es',ep',ho',r'⟩:=hm
  rw[ho] at ho';cases ho'
  exact⟨_,es',ep',hL,r'⟩) hok hg
theorem Inv.turned{t':Nat}{it:Addr}(I:Inv X pins σ H s)(k:∀b o,b≠it->s.heap.get? b=some o->h'.get? b=some o)(hn:H it=none)(hL:it≠X.env.locals)(h1:it∈X.ex\/X.s₀.heap.objs.size<=it)(h2:∀x c,X.env.cells.lookup x=some c->c≠it)(h3:∀p∈X.pn++pins,p.1≠it):Inv X pins σ H { s with heap:=h',toks:=t' }:=by
 have nit:∀b u,H b=some u->b≠it:=fun b u e z=>by rw[z,hn] at e;cases e
 refine I.step (g':=s.gens) (d':=s.drawn) (ch:=[it]) (fun b hb=>?_) (fun b o _ _ hc e _=>k b o (fun z=>hc (by simp[z])) e) (fun b o _ _ hc e _=>⟨o.slots,k b o (fun z=>hc (by simp[z])) e⟩) (fun _ _ _ _ n=>n)
  (fun b o hc e=>⟨o,k b o (fun z=>hc (by simp[z])) e⟩) (fun _ _ e=>e) (fun _ _ _ e=>e) (fun b ps e=>⟨#[],by rw[e];simp⟩) (fun m hm=>?_) (fun b u e=>?_) I.bare
 ·have e:b=it:=by simpa using hb
  subst e
  exact⟨h1,hL,h2,h3⟩
 ·obtain⟨o,es,ep,ho,r⟩:=hm
  exact⟨o,es,ep,k _ o (Ne.symm hL) ho,r⟩
 ·refine(I.hok b u e).stay (fun c v hc q=>k c v ?_ q) (fun _ q=>q) (fun _ _ q=>q) fun _ _ _ q=>q
  rcases hc with z|z
  ·rw[z];exact nit b u e
  ·exact nit c _ z
theorem Inv.tok(I:Inv X pins σ H s)(t:Nat):Inv X pins σ H { s with toks:=t }:=I.un (h':=s.heap) (t':=t) Un.refl I.hok
theorem Inv.kept{t':Nat}(I:Inv X pins σ H s)(k:∀b u,s.heap.get? b=some u->h'.get? b=some u):Inv X pins σ H { s with heap:=h',toks:=t' }:=I.un (Un.kept k) (I.hok.kept k)
theorem Inv.laid{a:Addr}{o:HO}{t':Nat}(I:Inv X pins σ H s)(k:∀b u,s.heap.get? b=some u->h'.get? b=some u)(hp:s.heap.objs.size<=a)(new:ObjOk X.prog X.w (upd H a o) h' a o):Inv X pins σ (upd H a o) { s with heap:=h',toks:=t' }:=I.un (Un.laid k hp (I.hok.fresh hp)) (I.hok.laid k hp new)
theorem Inv.write{x e:Addr}{o:HO}{t':Nat}(I:Inv X pins σ H s)(mu:Mut (H x))(he:e=x\/H e=some (.own x))(k:∀b u,b≠e->s.heap.get? b=some u->h'.get? b=some u)(heo:∃u,h'.get? e=some u)(new:ObjOk X.prog X.w (upd H x o) h' x o):Inv X pins σ (upd H x o) { s with heap:=h',toks:=t' }:=I.un (Un.write mu he k heo) (I.hok.write mu he k heo new)
theorem Inv.pins_of{pins':List (Addr×Obj)}(I:Inv X pins σ H s)(h:∀p∈pins',s.heap.get? p.1=some p.2/\H p.1=none/\p.1≠X.env.locals/\p.1∉X.fs/\∀v,p.2.data≠.cell v):Inv X pins' σ H s:=
 ⟨I.ok,I.os,I.bare,I.base,I.loc,I.cell,I.free,I.freeC,fun p hp=>(List.mem_append.mp hp).elim (fun z=>I.pin p (List.mem_append_left _ z)) (h p),I.hok,I.len⟩
theorem pH{N:List Str}(hN:N.Nodup){i j:Nat}{x:Str}(a:N[i]?=some x)(b:N[j]?=some x):i=j:=by
 obtain⟨h1,e1⟩:=List.getElem?_eq_some_iff.mp a
 obtain⟨h2,e2⟩:=List.getElem?_eq_some_iff.mp b
 exact(List.getElem_inj hN).mp (e1.trans e2.symm)
theorem gA{M:Model}{A:Around}{E:Value->Shared->Prop}{i:Nat}{x:Str}{v:V}{u:Value}{Q:Unit->Shared->Prop}(I:Inv X pins σ H s)(hN:X.N.Nodup)(hi:X.N[i]?=some x)(hx:Loc X.env.scope x)(r:RelV v u)(h:∀s',Inv X pins (σ.set i (some v)) H s'->(∃a,Heap.SameBut a s.heap s'.heap/\(a=X.env.locals\/X.env.cells.lookup x=some a))->Q () s')(hf:X.fn x=true\/X.env.scope.names.lookup x=some .local:=by first|exact .inl rfl|exact .inr rfl|assumption):wpAny M A (storeName X.env x u) Q E s:=by
 obtain⟨m,hn,hl⟩:=id I.loc
 have hcls:(X.env.scope.kind == .class || (X.env.scope.kind == .module && X.env.locals != X.env.globals))=false:=by rw[I.ok.kind];rfl
 have hiσ:i<σ.length:=by rw[I.len];exact(List.getElem?_eq_some_iff.mp hi).1
 have cne:=I.cne
 have tracked:∀{a:Addr} {h':Heap},(∃o,s.heap.get? a=some o/\H a=none)->Heap.SameBut a s.heap h'->HOk X.prog X.w H h':=fun {a h'} ha hs b ob e=>by
  obtain⟨_,_,hfree⟩:=ha
  refine(I.hok b ob e).stay (fun c w' hc q=>(hs.2 c ?_).trans q) (fun _ q=>q) (fun _ _ q=>q) fun _ _ _ q=>q
  rintro rfl
  rcases hc with rfl|hc
  ·rw[hfree] at e;cases e
  ·rw[hfree] at hc;cases hc
 rcases hx with hk|hk
 ·refine wpAny_storeName_local hk hn (fun h' hn' hs=>?_) hcls
  obtain⟨oL,_,_,hoL,_⟩:=id hn
  refine h _ ⟨I.ok,I.os,I.bare,⟨fun b o e n hb hx=>?_,fun b o e n hb hx=>?_,I.base.free,fun b o e hx=>?_,I.base.tups,I.base.frzs,I.base.tbls⟩,⟨_,hn',fun j y v' e1 e2 e3=>?_⟩,fun y c e=>?_,I.free,I.freeC,fun p hp=>?_,tracked ⟨oL,hoL,I.free⟩ hs,by simpa using I.len⟩ ⟨_,hs,.inl rfl⟩
  ·exact(hs.2 b (Nat.ne_of_lt (Nat.lt_of_lt_of_le (Heap.lt_size e) I.ok.above))).trans (I.base.keep b o e n hb hx)
  ·obtain⟨sl,e1⟩:=I.base.slot b o e n hb hx
   exact⟨sl,(hs.2 b (Nat.ne_of_lt (Nat.lt_of_lt_of_le (Heap.lt_size e) I.ok.above))).trans e1⟩
  ·obtain⟨o',e1⟩:=I.base.there b o e hx
   exact⟨o',(hs.2 b (Nat.ne_of_lt (Nat.lt_of_lt_of_le (Heap.lt_size e) I.ok.above))).trans e1⟩
  ·by_cases hj:j=i
   ·subst hj
    rw[hi] at e1;cases e1
    rw[List.getElem?_set_self hiσ] at e2
    cases e2
    exact⟨u,r,.inl ⟨hk,by simp⟩⟩
   ·rw[List.getElem?_set_ne (Ne.symm hj)] at e2
    obtain⟨u',r',q⟩:=hl j y v' e1 e2 e3
    refine⟨u',r',?_⟩
    rcases q with⟨k,e⟩|⟨k,c,e,z⟩
    ·refine .inl ⟨k,?_⟩
     have:y≠x:=fun e=>hj (pH hN e1 (e ▸ hi))
     simp[this,e]
    ·exact .inr ⟨k,c,e,z.sameBut hs (cne y c e)⟩
  ·obtain⟨w',z⟩:=I.cell y c e
   exact⟨w',z.sameBut hs (cne y c e)⟩
  ·obtain⟨e,n,ne,nf,d⟩:=I.pin p hp
   exact⟨(hs.2 p.1 ne).trans e,n,ne,nf,d⟩
 ·have hfn:X.fn x=true:=by
   rcases hf with z|z
   ·exact z
   ·rw[z] at hk;cases hk
  obtain⟨c,hc⟩:=I.ok.has x (.inl hk)
  obtain⟨w',z⟩:=I.cell x c hc
  refine wpAny_storeName_cell I.ok.kind hk hc z (fun h' hc' hs=>?_)
  obtain⟨oc,hoc,hocd⟩:=id z
  refine h { s with heap:=h' } ⟨I.ok,I.os,I.bare,⟨fun b o e n hb hx=>?_,fun b o e n hb hx=>?_,I.base.free,fun b o e hx=>?_,I.base.tups,I.base.frzs,I.base.tbls⟩,⟨m,hn.sameBut hs (Ne.symm (cne x c hc)),fun j y v' e1 e2 e3=>?_⟩,fun y c' e=>?_,I.free,I.freeC,fun p hp=>?_,tracked ⟨oc,hoc,I.freeC x c hc⟩ hs,by simpa using I.len⟩ ⟨c,hs,.inr hc⟩
  ·exact(hs.2 b (Nat.ne_of_lt (Nat.lt_of_lt_of_le (Heap.lt_size e) (I.ok.cab x c hfn hc)))).trans (I.base.keep b o e n hb hx)
  ·obtain⟨sl,e1⟩:=I.base.slot b o e n hb hx
   exact⟨sl,(hs.2 b (Nat.ne_of_lt (Nat.lt_of_lt_of_le (Heap.lt_size e) (I.ok.cab x c hfn hc)))).trans e1⟩
  ·obtain⟨o',e1⟩:=I.base.there b o e hx
   exact⟨o',(hs.2 b (Nat.ne_of_lt (Nat.lt_of_lt_of_le (Heap.lt_size e) (I.ok.cab x c hfn hc)))).trans e1⟩
  ·by_cases hj:j=i
   ·subst hj
    rw[hi] at e1;cases e1
    rw[List.getElem?_set_self hiσ] at e2
    cases e2
    exact⟨u,r,.inr ⟨.inl hk,c,hc,hc'⟩⟩
   ·rw[List.getElem?_set_ne (Ne.symm hj)] at e2
    obtain⟨u',r',q⟩:=hl j y v' e1 e2 e3
    refine⟨u',r',?_⟩
    rcases q with q|⟨k,c',e,z'⟩
    ·exact .inl q
    ·refine .inr ⟨k,c',e,z'.sameBut hs ?_⟩
     rintro rfl
     exact hj (pH hN e1 (I.ok.inj _ _ _ e hc ▸ hi))
  ·by_cases hcc:c'=c
   ·subst hcc;exact⟨_,hc'⟩
   ·obtain⟨w2,z2⟩:=I.cell y c' e
    exact⟨w2,z2.sameBut hs hcc⟩
  ·obtain⟨e,n,ne,nf,d⟩:=I.pin p hp
   refine⟨(hs.2 p.1 ?_).trans e,n,ne,nf,d⟩
   intro q
   rw[q,hoc] at e
   have q':oc=p.2:=Option.some.inj e
   exact d w' (by rw[<-q'];exact hocd)
theorem dD{M:Model}{A:Around}{E:Value->Shared->Prop}{i:Nat}{x:Str}{v:V}{u:Value}{Q:Unit->Shared->Prop}(I:Inv X pins σ H s)(hN:X.N.Nodup)(hi:X.N[i]?=some x)(hx:Loc X.env.scope x)(r:RelV v u)(h:∀s',Inv X pins (σ.set i (some v)) H s'->Q () s')(hf:X.fn x=true\/X.env.scope.names.lookup x=some .local:=by first|exact .inl rfl|exact .inr rfl|assumption):wpAny M A (storeName X.env x u) Q E s:=
 gA I hN hi hx r (fun s' I' _=>h s' I') hf
theorem Inv.call'{s':Shared}{ch:List Addr}(I:Inv X pins σ H s)(ho:s'.os=s.os)(u:Un (frs X.stack) ch H H' s.heap s'.heap)(hok:HOk X.prog X.w H' s'.heap)(hg:AllBare s'.gens)(hch:∀b∈ch,(b∈X.ex\/X.s₀.heap.objs.size<=b)/\b≠X.env.locals/\(∀x c,X.env.cells.lookup x=some c->c≠b)/\∀p∈X.pn++pins,p.1≠b):Inv X pins σ H' s':=by
 obtain⟨h',g',d',t',o'⟩:=s'
 have e:o'=s.os:=ho
 subst e
 exact I.call (g':=g') (t':=t') (d':=d') u hok hg hch
end
noncomputable abbrev XK:=Value->Option Addr->Hp->Prop
noncomputable abbrev St:=List (Option V)
noncomputable abbrev VK:=V->Hp->Prop
noncomputable abbrev TE:=St->Hp->VK->Prop
noncomputable abbrev TT:=St->Hp->(Bool->Hp->Prop)->Prop
noncomputable abbrev TA:=St->Hp->(List V->Hp->Prop)->Prop
structure Ends where
 nx:St->Hp->Prop
 rt:VK
 bk:St->Hp->Prop:=fun _ _=>False
 ct:St->Hp->Prop:=fun _ _=>False
noncomputable abbrev TS:=Ends->St->Hp->Prop
noncomputable def EP(X:Cx)(pins:List (Addr×Obj))(σ:St)(Q:VK)(u:Value)(s':Shared):Prop:=∃v H',Inv X pins σ H' s'/\RelV v u/\Q v H'
noncomputable def TP(X:Cx)(pins:List (Addr×Obj))(σ:St)(Q:Bool->Hp->Prop)(b:Bool)(s':Shared):Prop:=∃H',Inv X pins σ H' s'/\Q b H'
noncomputable def AP(X:Cx)(pins:List (Addr×Obj))(σ:St)(Q:List V->Hp->Prop)(us:List Value)(s':Shared):Prop:=∃vs H',Inv X pins σ H' s'/\Vals vs us/\Q vs H'
noncomputable def SP(X:Cx)(pins:List (Addr×Obj))(D:Ends)(f:Flow)(s':Shared):Prop:=
 match f with
 |.next=>∃σ' H',Inv X pins σ' H' s'/\D.nx σ' H'
 |.brk=>∃σ' H',Inv X pins σ' H' s'/\D.bk σ' H'
 |.cont=>∃σ' H',Inv X pins σ' H' s'/\D.ct σ' H'
 |.ret u=>∃v σ' H',Inv X pins σ' H' s'/\RelV v u/\D.rt v H'
noncomputable def PE(X:Cx)(e:Expr)(t:TE):Prop:=
 ∀(pins:List (Addr×Obj)) (s:Shared) (σ:St) (H:Hp) (Q:VK),Inv X pins σ H s->t σ H Q->wpAny (model X.prog X.w) X.A (eval e X.env) (EP X pins σ Q) X.xe s
noncomputable def PT(X:Cx)(e:Expr)(t:TT):Prop:=
 ∀(pins:List (Addr×Obj)) (s:Shared) (σ:St) (H:Hp) (Q:Bool->Hp->Prop),Inv X pins σ H s->t σ H Q->wpAny (model X.prog X.w) X.A (isTrue e X.env (eval e X.env)) (TP X pins σ Q) X.xe s
noncomputable def PW(X:Cx)(e:Expr)(t:TT):Prop:=
 ∀(whole:Sem Value) (pins:List (Addr×Obj)) (s:Shared) (σ:St) (H:Hp) (Q:Bool->Hp->Prop),Inv X pins σ H s->t σ H Q->wpAny (model X.prog X.w) X.A (isTrue e X.env whole) (TP X pins σ Q) X.xe s
theorem PW.pt{X:Cx}{e:Expr}{t:TT}(h:PW X e t):PT X e t:=h _
noncomputable def PA(X:Cx)(es:List Expr)(t:TA):Prop:=
 ∀(pos:Pos) (pins:List (Addr×Obj)) (s:Shared) (σ:St) (H:Hp) (Q:List V->Hp->Prop),Inv X pins σ H s->t σ H Q->wpAny (model X.prog X.w) X.A (spliced (backTo pos (starEach es X.env))) (AP X pins σ Q) X.xe s
noncomputable def PS(X:Cx)(st:Stmt)(t:TS):Prop:=
 ∀(pins:List (Addr×Obj)) (s:Shared) (σ:St) (H:Hp) (D:Ends),Inv X pins σ H s->t D σ H->wpAny (model X.prog X.w) X.A (exec st X.env) (SP X pins D) X.xe s
noncomputable def PSs(X:Cx)(st:List Stmt)(t:TS):Prop:=
 ∀(pins:List (Addr×Obj)) (s:Shared) (σ:St) (H:Hp) (D:Ends),Inv X pins σ H s->t D σ H->wpAny (model X.prog X.w) X.A (execs st X.env) (SP X pins D) X.xe s
theorem thn{α:Type}{t:Sem α}{Q Q':α->Shared->Prop}{M:Model}{A:Around}{E:Value->Shared->Prop}{s:Shared}(h:wpAny M A t Q E s)(hQ:∀a s,Q a s->Q' a s):wpAny M A t Q' E s:=wpAny_mono h hQ fun _ _ x=>x
end L2
namespace L2
open PySem PySem.Spec PyProof.Rows
section
variable{X:Cx}
noncomputable def jY(i:Nat):TE:=fun σ H Q=>∃v,σ[i]?=some (some v)/\Q v H
noncomputable def tC(v:V):TE:=fun _ H Q=>Q v H
theorem zGA{i:Nat}{x:Str}{pos:Pos}(hN:X.N[i]?=some x)(hv:Vis X.env.scope x)(hd:(x == ("__debug__" : Str))=false:=by decide)(hcd:(x == ("__classdict__" : Str))=false:=by decide):PE X (.Name x pos) (jY i):=by
 intro pins s σ H Q I h
 obtain⟨v,e,h⟩:=h
 obtain⟨m,hn,hl⟩:=I.loc
 obtain⟨u,r,l⟩:=hl i x v hN e hv
 have fin:EP X pins σ Q u s:=⟨v,H,I,r,h⟩
 rcases l with⟨hk,hm⟩|⟨hk,c,hc,hcell⟩
 ·exact wpAny_Name (wpAny_loadName_local I.ok.kind hk hn hm fin) hd
 ·rcases hk with hk|hk
  ·exact wpAny_Name (wpAny_loadName_cell I.ok.kind hk hc hcell fin) hd
  ·exact wpAny_Name (wpAny_loadName_free I.ok.kind hk hc hcell fin hcd) hd
theorem nJ{i j pos}:PE X (.Constant (.int i) j pos) (tC (.int i)):=fun _ _ _ H _ I h=>wpAny_Constant_int ⟨.int i,H,I.tok _,⟨_,rfl⟩,h⟩
theorem zJE{b j pos}:PE X (.Constant (.bool b) j pos) (tC (.bl b)):=fun _ _ _ H _ I h=>Constant_bool ⟨.bl b,H,I,rfl,h⟩
theorem zB4{j pos}:PE X (.Constant .none j pos) (tC .non):=fun _ _ _ H _ I h=>Constant_none ⟨.non,H,I,rfl,h⟩
theorem zGB{x j pos}:PE X (.Constant (.str x) j pos) (tC (.str x)):=fun _ _ _ H _ I h=>Calls.Constant_str ⟨.str x,H,I.tok _,⟨_,rfl⟩,h⟩
noncomputable def Gl(X:Cx)(x:Str):Prop:=X.env.kindOf x=some .globalImplicit
theorem hE{E:Value->Shared->Prop}{pins:List (Addr×Obj)}{s:Shared}{σ:St}{H:Hp}{x:Str}{u:Value}{pos:Pos}{Q:Value->Shared->Prop}(I:Inv X pins σ H s)(hg:Gl X x)(hm:X.mg x=some u)(h:Q u s)(hd:(x == ("__debug__" : Str))=false:=by decide):wpAny (model X.prog X.w) X.A (eval (.Name x pos) X.env) Q E s:=
 Calls.Name_function_global I.ok.kind hg (Calls.loadGlobal_global (by rw[I.ok.glob];exact I.mod.glob.keeps I.bk) hm h) hd
theorem cT{E:Value->Shared->Prop}{pins:List (Addr×Obj)}{s:Shared}{σ:St}{H:Hp}{x:Str}{u:Value}{pos:Pos}{Q:Value->Shared->Prop}(I:Inv X pins σ H s)(hg:Gl X x)(hm:X.mg x=none)(hv:bootBuiltins x=some u)(h:Q u s)(hn:x ≠ "__name__" := by decide)(hd:(x == ("__debug__" : Str))=false:=by decide):wpAny (model X.prog X.w) X.A (eval (.Name x pos) X.env) Q E s:=by
 obtain⟨mb,h1,h2⟩:=I.mod.blt
 exact Calls.Name_function_global I.ok.kind hg (Calls.loadGlobal_builtin (by rw[I.ok.glob];exact I.mod.glob.keeps I.bk) hm (by rw[I.ok.blt];exact h1.keeps I.bk) ((h2 x hn).trans hv) h) hd
theorem YN{x:Str}{v:V}{u:Value}{pos:Pos}(hg:Gl X x)(hm:X.mg x=some u)(r:RelV v u)(hd:(x == ("__debug__" : Str))=false:=by decide):PE X (.Name x pos) (tC v):=
 fun _ _ _ H _ I h=>hE I hg hm ⟨v,H,I,r,h⟩ hd
theorem bS{x:Str}{v:V}{u:Value}{pos:Pos}(hg:Gl X x)(hm:X.mg x=none)(hv:bootBuiltins x=some u)(r:RelV v u)(hn:x ≠ "__name__" := by decide)(hd:(x == ("__debug__" : Str))=false:=by decide):PE X (.Name x pos) (tC v):=
 fun _ _ _ H _ I h=>cT I hg hm hv ⟨v,H,I,r,h⟩ hn hd
variable{a b:Expr}{ta tb:TE}{pos:Pos}
noncomputable def PC(X:Cx)(op:CmpOp)(a b:Expr)(t:TE):Prop:=
 ∀(pins:List (Addr×Obj)) (s:Shared) (σ:St) (H:Hp) (Q:VK),Inv X pins σ H s->t σ H Q ->
  wpAny (model X.prog X.w) X.A (eval a X.env) (fun v s₁=>wpAny (model X.prog X.w) X.A (eval b X.env) (fun u s₂=>wpAny (model X.prog X.w) X.A (compareOp op v u) (EP X pins σ Q) X.xe s₂) X.xe s₁) X.xe s
theorem QS(b:Expr){op:CmpOp}(h:op≠.In)(h2:op≠.NotIn):behindInMarks op b=false:=by
 have e1:(op == CmpOp.In)=false:=by cases op<;>first|rfl|exact absurd rfl h
 have e2:(op == CmpOp.NotIn)=false:=by cases op<;>first|rfl|exact absurd rfl h2
 cases b<;>simp[behindInMarks,e1,e2]
noncomputable def zLO(ta:TE):TE:=fun σ H Q=>ta σ H fun x H1=>Q (.bl (decide (x=.non))) H1
theorem RelV.none_iff{x:V}{v:Value}(r:RelV x v):(v == Value.none)=decide (x=.non):=by
 cases x with
 |non=>cases r;rfl
 |bl _=>cases r;rfl
 |int _=>obtain⟨t,rfl⟩:=r;rfl
 |str _=>obtain⟨t,rfl⟩:=r;rfl
 |byt _=>obtain⟨t,rfl⟩:=r;rfl
 |flt _=>obtain⟨t,rfl⟩:=r;rfl
 |ref _=>cases r;rfl
 |ty _=>cases r;rfl
theorem zGF{j pos'}(ha:PE X a ta):PC X .Is a (.Constant .none j pos') (zLO ta):=by
 intro pins s σ H Q I h
 refine thn (ha pins s σ H _ I h) fun v s1 ⟨x,H1,I1,r1,q1⟩=>?_
 exact Constant_none (is_none_gen ⟨.bl _,H1,I1,by rw[r1.none_iff];rfl,q1⟩)
noncomputable def tB(t:TE):TT:=fun σ H Q=>t σ H fun x H1=>∃c,x=.bl c/\Q c H1
theorem zBR{op:CmpOp}{t:TE}(h:PC X op a b t)(h1:behindInMarks op b=false:=by first|exact QS _ (by decide) (by decide)|rfl):PT X (.Compare a [op] [b] pos) (tB t):=by
 intro pins s σ H Q I hw
 refine wpAny_isTrue_Compare1 (thn (h pins s σ H _ I hw) fun v s1 h1=>thn h1 fun u s2 h2=>thn h2 fun c s3 ⟨x,H1,I1,r1,q1⟩=>?_) h1
 obtain⟨d,rfl,q⟩:=q1
 cases r1
 exact wpAny_truthy_bool ⟨H1,I1,q⟩
theorem zF3{e:Expr}{t:TE}(h:PE X e t)(he:∀whole,isTrue e X.env whole=(do let v <- whole;standAt e.pos;holding [v] (truthy v)):=by intro _;rfl):PT X e (tB t):=by
 intro pins s σ H Q I hw
 refine isTrue_plain (thn (h pins s σ H _ I hw) fun v s1 ⟨x,H1,I1,r1,q1⟩=>?_) (he _)
 obtain⟨d,rfl,q⟩:=q1
 cases r1
 exact wpAny_truthy_bool ⟨H1,I1,q⟩
variable{tA tB':TT}{rest:List Expr}
noncomputable def zLS(t u:TT):TT:=fun σ H Q=>t σ H fun c H1=>if c=true then u σ H1 Q else Q false H1
noncomputable def tOr(t u:TT):TT:=fun σ H Q=>t σ H fun c H1=>if c=true then Q true H1 else u σ H1 Q
noncomputable def zLN(t:TT):TT:=fun σ H Q=>t σ H fun c H1=>Q (!c) H1
theorem YI(ha:PT X a tA):PW X (.BoolOp .And [a] pos) tA:=by
 intro wh pins s σ H Q I h
 refine isTrue_and (thn (ha pins s σ H Q I h) fun c s1 e=>?_)
 cases c with
 |true=>exact isTrue_and_nil e
 |false=>exact e
theorem zF1(ha:PT X a tA):PW X (.BoolOp .Or [a] pos) tA:=by
 intro wh pins s σ H Q I h
 refine isTrue_or (thn (ha pins s σ H Q I h) fun c s1 e=>?_)
 cases c with
 |false=>exact isTrue_or_nil e
 |true=>exact e
theorem zBO(ha:PT X a tA)(hb:PW X (.BoolOp .And (b::rest) pos) tB'):PW X (.BoolOp .And (a::b::rest) pos) (zLS tA tB'):=by
 intro wh pins s σ H Q I h
 refine isTrue_and (thn (ha pins s σ H _ I h) fun c s1 ⟨H1,I1,q1⟩=>?_)
 cases c with
 |true=>exact hb wh pins s1 σ H1 Q I1 q1
 |false=>exact⟨H1,I1,q1⟩
theorem zJA(ha:PT X a tA)(hb:PW X (.BoolOp .Or (b::rest) pos) tB'):PW X (.BoolOp .Or (a::b::rest) pos) (tOr tA tB'):=by
 intro wh pins s σ H Q I h
 refine isTrue_or (thn (ha pins s σ H _ I h) fun c s1 ⟨H1,I1,q1⟩=>?_)
 cases c with
 |true=>exact⟨H1,I1,q1⟩
 |false=>exact hb wh pins s1 σ H1 Q I1 q1
theorem zF4(ha:PT X a tA):PT X (.UnaryOp .Not a pos) (zLN tA):=by
 intro pins s σ H Q I h
 exact isTrue_not (ha pins s σ H (fun c H1=>Q (!c) H1) I h)
noncomputable def zI3(ta tb:TE):TE:=fun σ H Q=>ta σ H fun x H1=>∃c,x=.bl c/\if c=true then tb σ H1 Q else Q (.bl false) H1
noncomputable def zIZ(ta:TE):TE:=fun σ H Q=>ta σ H fun x H1=>∃c,x=.bl c/\Q (.bl (!c)) H1
theorem zGC{op}{t:TE}(h:PE X a t):PE X (.BoolOp op [a] pos) t:=fun pins s σ H Q I hw=>BoolOp_one (h pins s σ H Q I hw)
theorem zGE(ha:PE X a ta)(hb:PE X (.BoolOp .And (b::rest) pos) tb):PE X (.BoolOp .And (a::b::rest) pos) (zI3 ta tb):=by
 intro pins s σ H Q I h
 refine BoolOp_and (thn (ha pins s σ H _ I h) fun v s1 ⟨x,H1,I1,r1,q1⟩=>?_)
 obtain⟨c,rfl,q1⟩:=q1
 cases r1
 refine wpAny_truthy_bool ?_
 cases c with
 |true=>exact hb pins s1 σ H1 Q I1 q1
 |false=>exact⟨.bl false,H1,I1,rfl,q1⟩
theorem zGD(ha:PE X a ta):PE X (.UnaryOp .Not a pos) (zIZ ta):=by
 intro pins s σ H Q I h
 refine UnaryOp_ (thn (ha pins s σ H _ I h) fun v s1 ⟨x,H1,I1,r1,q1⟩=>?_)
 obtain⟨c,rfl,q1⟩:=q1
 cases r1
 exact not_of (wpAny_truthy_bool ⟨.bl (!c),H1,I1,rfl,q1⟩)
noncomputable def tIf(t:TT)(ta tb:TE):TE:=fun σ H Q=>t σ H fun c H1=>if c=true then ta σ H1 Q else tb σ H1 Q
theorem QB{c:Expr}(hc:PT X c tA)(ha:PE X a ta)(hb:PE X b tb):PE X (.IfExp c a b pos) (tIf tA ta tb):=by
 intro pins s σ H Q I h
 refine wpAny_IfExp (thn (hc pins s σ H _ I h) fun d s1 ⟨H1,I1,q1⟩=>?_)
 cases d with
 |true=>exact ha pins s1 σ H1 Q I1 q1
 |false=>exact hb pins s1 σ H1 Q I1 q1
end
end L2
namespace L2
open PySem PySem.Spec PyProof.Rows
noncomputable def SqL(K:Fg)(H:Hp)(a:Addr)(xs:List V):Prop:=
 Rd H a (.lst xs) \/
  ∃(o:Obj) (its:Array Value) (n:Nat),K.lookup a=some o/\o.cls=.type "list" /\ o.dict=none/\o.data=.seq its n/\its.size<=sizeLine/\Vals xs its.toList
noncomputable def SqT(K:Fg)(H:Hp)(a:Addr)(xs:List V):Prop:=
 Rd H a (.tup xs) \/
  ∃(o:Obj) (its:Array Value) (n:Nat),K.lookup a=some o/\o.cls=.type "tuple" /\ o.data=.seq its n/\its.size<=sizeLine/\Vals xs its.toList
noncomputable def zL5:Value->Option V
 |.none=>some .non
 |.bool b=>some (.bl b)
 |.int i _=>some (.int i)
 |.str x _=>some (.str x)
 |.bytes b _=>some (.byt b)
 |.float b _=>some (.flt b)
 |.ref a=>some (.ref a)
 |.type n=>some (.ty n)
 |_=>none
theorem RelV.abs{x:V}{u:Value}(r:RelV x u):zL5 u=some x:=by
 cases x with
 |non=>cases r;rfl
 |bl _=>cases r;rfl
 |int _=>obtain⟨t,rfl⟩:=r;rfl
 |str _=>obtain⟨t,rfl⟩:=r;rfl
 |byt _=>obtain⟨t,rfl⟩:=r;rfl
 |flt _=>obtain⟨t,rfl⟩:=r;rfl
 |ref _=>cases r;rfl
 |ty _=>cases r;rfl
theorem RelV.inj{x y:V}{u:Value}(r:RelV x u)(q:RelV y u):x=y:=Option.some.inj (r.abs.symm.trans q.abs)
theorem Vals.inj:∀{xs ys:List V} {us:List Value},Vals xs us->Vals ys us->xs=ys
 |_,_,_,.nil,.nil=>rfl
 |_,_,_,.cons r t,.cons r' t'=>by rw[r.inj r',Vals.inj t t']
section
variable{X:Cx}{pins:List (Addr×Obj)}{σ:St}{H:Hp}{s:Shared}{a:Addr}{xs ys:List V}
theorem SqL.of{K:Fg}(h:H a=some (.lst xs)):SqL K H a xs:=.inl (.inl h)
theorem SqT.of{K:Fg}(h:H a=some (.tup xs)):SqT K H a xs:=.inl (.inl h)
theorem Inv.list(I:Inv X pins σ H s)(h:SqL X.K H a xs):∃its:List Value,Vals xs its/\PlainL s.heap a its.toArray/\xs.length<=sizeLine:=by
 rcases h with h|⟨o,its,n,hk,hc,hd,hs,hz,r⟩
 ·obtain⟨z,its,n,r,e⟩:=h.ok I.hok
  exact⟨its,r,⟨_,n,e,rfl,rfl,rfl⟩,z⟩
 ·refine⟨its.toList,r,⟨o,n,I.kIn a o hk,hc,hd,by simpa using hs⟩,?_⟩
  have e:=r.length
  simp only[Array.length_toList] at e
  omega
theorem Inv.tuple(I:Inv X pins σ H s)(h:SqT X.K H a xs):∃its:List Value,Vals xs its/\IsTup s.heap a its.toArray/\xs.length<=sizeLine:=by
 rcases h with h|⟨o,its,n,hk,hc,hs,hz,r⟩
 ·obtain⟨z,its,r,p⟩:=h.ok I.hok
  exact⟨its,r,p,z⟩
 ·refine⟨its.toList,r,⟨o,I.kIn a o hk,hc,n,by simpa using hs⟩,?_⟩
  have e:=r.length
  simp only[Array.length_toList] at e
  omega
theorem Inv.list_inj(I:Inv X pins σ H s)(h:SqL X.K H a xs)(h':SqL X.K H a ys):xs=ys:=by
 obtain⟨its,r,⟨o,n,e,_,_,d⟩,_⟩:=I.list h
 obtain⟨its',r',⟨o',n',e',_,_,d'⟩,_⟩:=I.list h'
 rw[e] at e';cases e'
 rw[d] at d'
 injection d' with d1 _
 have:its=its':=by simpa using congrArg Array.toList d1
 subst this
 exact r.inj r'
theorem Inv.tuple_inj(I:Inv X pins σ H s)(h:SqT X.K H a xs)(h':SqT X.K H a ys):xs=ys:=by
 obtain⟨its,r,⟨o,e,_,n,d⟩,_⟩:=I.tuple h
 obtain⟨its',r',⟨o',e',_,n',d'⟩,_⟩:=I.tuple h'
 rw[e] at e';cases e'
 rw[d] at d'
 injection d' with d1 _
 have:its=its':=by simpa using congrArg Array.toList d1
 subst this
 exact r.inj r'
end
noncomputable abbrev Cx.wish(X:Cx)(E:Value->Shared->Prop):Cx:={ X with xe:=E }
noncomputable abbrev Cx.nox(X:Cx):Cx:=X.wish fun _ _=>False
theorem Cx.Ok.wish{X:Cx}(ok:X.Ok)(E:Value->Shared->Prop):(X.wish E).Ok:=
 ⟨ok.mod,ok.kind,ok.glob,ok.blt,ok.above,ok.inj,ok.has,ok.cab,ok.hd,ok.frames,ok.stk,ok.exf,ok.bs,ok.bsz,ok.noex,ok.exfs,ok.funs,ok.frf⟩
theorem Cx.Ok.unwish{X:Cx}{E:Value->Shared->Prop}(ok:(X.wish E).Ok):X.Ok:=
 ⟨ok.mod,ok.kind,ok.glob,ok.blt,ok.above,ok.inj,ok.has,ok.cab,ok.hd,ok.frames,ok.stk,ok.exf,ok.bs,ok.bsz,ok.noex,ok.exfs,ok.funs,ok.frf⟩
section
variable{X:Cx}{pins:List (Addr×Obj)}{σ:St}{H:Hp}{s:Shared}{E:Value->Shared->Prop}
theorem Inv.wish(I:Inv X pins σ H s)(E:Value->Shared->Prop):Inv (X.wish E) pins σ H s:=⟨I.ok.wish E,I.os,I.bare,I.base,I.loc,I.cell,I.free,I.freeC,I.pin,I.hok,I.len⟩
theorem Inv.unwish(I:Inv (X.wish E) pins σ H s):Inv X pins σ H s:=⟨I.ok.unwish,I.os,I.bare,I.base,I.loc,I.cell,I.free,I.freeC,I.pin,I.hok,I.len⟩
theorem SP.unwish{D:Ends}{f:Flow}{s':Shared}(h:SP (X.wish E) pins D f s'):SP X pins D f s':=by
 cases f with
 |next=>obtain⟨σ',H',I,q⟩:=h;exact⟨σ',H',I.unwish,q⟩
 |brk=>obtain⟨σ',H',I,q⟩:=h;exact⟨σ',H',I.unwish,q⟩
 |cont=>obtain⟨σ',H',I,q⟩:=h;exact⟨σ',H',I.unwish,q⟩
 |ret u=>obtain⟨v,σ',H',I,r,q⟩:=h;exact⟨v,σ',H',I.unwish,r,q⟩
theorem PSs.nox{st:List Stmt}{t:TS}(h:PSs X.nox st t):PSs X st t:=fun pins s σ H D I hw=>
 wpAny_mono (h pins s σ H D (I.wish _) hw) (fun _ _ q=>q.unwish) fun _ _ z=>False.elim z
end
section
variable{X:Cx}{st:Stmt}{rest:List Stmt}{t u:TS}{e:Expr}{te:TE}{pos:Pos}
noncomputable def zI0:TS:=fun D σ H=>D.nx σ H
noncomputable def zHM(t u:TS):TS:=fun D σ H=>t { D with nx:=u D } σ H
theorem YM:PSs X [] zI0:=fun _ _ σ H _ I h=>wpAny_execs_nil ⟨σ,H,I,h⟩
theorem qM(h1:PS X st t)(h2:PSs X rest u):PSs X (st::rest) (zHM t u):=by
 intro pins s σ H D I h
 refine wpAny_execs_cons (thn (h1 pins s σ H { D with nx:=u D } I h) fun f s1 q=>?_)
 cases f with
 |next=>
  obtain⟨σ',H',I',q⟩:=q
  exact h2 pins s1 σ' H' D I' q
 |ret v=>exact q
 |brk=>exact q
 |cont=>exact q
theorem gI(h1:PS X st t):PSs X [st] t:=by
 intro pins s σ H D I h
 refine wpAny_execs_cons (thn (h1 pins s σ H D I h) fun f s1 q=>?_)
 cases f with
 |next=>exact wpAny_execs_nil q
 |ret v=>exact q
 |brk=>exact q
 |cont=>exact q
theorem Inv.quiet{pins:List (Addr×Obj)}{σ:St}{H:Hp}{s:Shared}(I:Inv X pins σ H s):interactive X.env=false:=by simp[interactive,I.ok.kind]
noncomputable def zHO(te:TE):TS:=fun D σ H=>te σ H fun _ H1=>D.nx σ H1
theorem pD(he:PE X e te)(hs:swapsWith e none pos.line X.env=pure false:=by rfl):PS X (.Expr e pos) (zHO te):=by
 intro pins s σ H D I h
 exact wpAny_Expr_any (thn (he pins s σ H _ I h) fun v s1 ⟨x,H1,I1,r1,q1⟩=>⟨σ,H1,I1,q1⟩) I.quiet hs
noncomputable def zLM(te:TE):TS:=fun D σ H=>te σ H D.rt
theorem tI(he:PE X e te):PS X (.Return (some e) pos) (zLM te):=by
 intro pins s σ H D I h
 exact wpAny_Return_some (thn (he pins s σ H _ I h) fun v s1 ⟨x,H1,I1,r1,q1⟩=>⟨x,σ,H1,I1,r1,q1⟩)
noncomputable def zLP(c:TT)(t u:TS):TS:=fun D σ H=>c σ H fun b H1=>if b=true then t D σ H1 else u D σ H1
theorem zHU{c:Expr}{a b:List Stmt}{tc:TT}(hc:PT X c tc)(ha:PSs X a t)(hb:PSs X b u):PS X (.If c a b pos) (zLP tc t u):=by
 intro pins s σ H D I h
 refine wpAny_If (thn (hc pins s σ H _ I h) fun d s1 ⟨H1,I1,q1⟩=>?_)
 cases d with
 |true=>exact ha pins s1 σ H1 D I1 q1
 |false=>exact hb pins s1 σ H1 D I1 q1
end
noncomputable abbrev TG:=V->St->Hp->(St->Hp->Prop)->Prop
noncomputable abbrev TGs:=List V->St->Hp->(St->Hp->Prop)->Prop
noncomputable def PG(X:Cx)(target:Expr)(t:TG):Prop:=
 ∀(pins:List (Addr×Obj)) (s:Shared) (σ:St) (H:Hp) (v:V) (u:Value) (Q:St->Hp->Prop),Inv X pins σ H s->RelV v u->t v σ H Q ->
  wpAny (model X.prog X.w) X.A (assign target X.env u) (fun _ s'=>∃σ' H',Inv X pins σ' H' s'/\Q σ' H') X.xe s
noncomputable def PGs(X:Cx)(ts:List Expr)(t:TGs):Prop:=
 ∀(pins:List (Addr×Obj)) (s:Shared) (σ:St) (H:Hp) (vs:List V) (us:List Value) (Q:St->Hp->Prop),Inv X pins σ H s->Vals vs us->t vs σ H Q ->
  wpAny (model X.prog X.w) X.A (assignInOrder ((assignEach ts X.env).map (·.2)) us) (fun _ s'=>∃σ' H',Inv X pins σ' H' s'/\Q σ' H') X.xe s
noncomputable abbrev TIp:=V->V->Hp->VK->Prop
noncomputable def PIp(X:Cx)(op:Operator)(t:TIp):Prop:=
 ∀(pins:List (Addr×Obj)) (s:Shared) (σ:St) (H:Hp) (x y:V) (v u:Value) (Q:VK),Inv X pins σ H s->RelV x v->RelV y u->t x y H Q ->
  wpAny (model X.prog X.w) X.A (inplaceOp op v u) (EP X pins σ Q) X.xe s
section
variable{X:Cx}{pos:Pos}
noncomputable def ZL(i:Nat):TG:=fun v σ H Q=>Q (σ.set i (some v)) H
theorem pE{i:Nat}{x:Str}(hN:X.N.Nodup)(hi:X.N[i]?=some x)(hx:Loc X.env.scope x)(hf:X.fn x=true\/X.env.scope.names.lookup x=some .local:=by first|exact .inl rfl|exact .inr rfl|assumption):PG X (.Name x pos) (ZL i):=by
 intro pins s σ H v u Q I r h
 exact wpAny_assign_Name (dD I hN hi hx r (fun s' I'=>⟨_,H,I',h⟩) hf)
noncomputable def zL0:TGs:=fun vs σ H Q=>vs=[]/\Q σ H
noncomputable def zJV(t:TG)(u:TGs):TGs:=fun vs σ H Q=>∃v r,vs=v::r/\t v σ H fun σ' H'=>u r σ' H' Q
theorem zB0:PGs X [] zL0:=by
 intro pins s σ H vs us Q I r h
 obtain⟨e,h⟩:=h
 subst e
 cases r
 exact assignInOrder_nil ⟨σ,H,I,h⟩
theorem W7{e:Expr}{es:List Expr}{t:TG}{u:TGs}(h1:PG X e t)(h2:PGs X es u)(hs:(assignEach (e::es) X.env).map (·.2)=assign e X.env::(assignEach es X.env).map (·.2):=by rfl):PGs X (e::es) (zJV t u):=by
 intro pins s σ H vs us Q I r h
 obtain⟨v,vr,e1,h⟩:=h
 subst e1
 cases r with
 |cons r rr=>
  rw[hs]
  refine assignInOrder_cons (thn (h1 pins s σ H _ _ _ I r h) fun _ s1 ⟨σ1,H1,I1,q1⟩=>?_)
  exact h2 pins s1 σ1 H1 _ _ Q I1 rr q1
noncomputable def zLZ(K:Fg)(n:Nat)(t:TGs):TG:=fun v σ H Q=>∃a xs,v=.ref a/\SqT K H a xs/\xs.length=n/\t xs σ H Q
theorem zF8{es:List Expr}{k:Nat}{t:TGs}{n:Nat}(hc:X.calm=true)(h:PGs X es t)(hn:(assignEach es X.env).length=n:=by rfl)(hst:(assignEach es X.env).findIdx? (·.1)=none:=by rfl):PG X (.Tuple es k pos) (zLZ X.K n t):=by
 intro pins s σ H v u Q I r hw
 obtain⟨a,xs,e1,hq,hl,hw⟩:=hw
 subst e1
 cases r
 obtain⟨its,rv,ht,hz⟩:=I.tuple hq
 refine assign_Tuple_tuple (I.ok.hd hc) ht (by simp[hn,<-hl,rv.length]) hst fun h' hx=>?_
 have I1:Inv X pins σ H { s with heap:=h' }:=I.kept (t':=s.toks) fun b o e=>hx b o (Nat.ne_of_lt (Heap.lt_size e)) e
 exact h pins _ σ H xs _ Q I1 (by simpa using rv) hw
noncomputable def zKG(te:TE)(g:TG):TS:=fun D σ H=>te σ H fun x H1=>g x σ H1 D.nx
theorem zF6{tg e:Expr}{te:TE}{g:TG}(he:PE X e te)(hg:PG X tg g)(hs:swapsWithSole [tg] e pos.line X.env=pure false:=by rfl)(hw:swappedStores [tg] e X.env=pure none:=by rfl)(h1:(assignEach [tg] X.env).map (·.2)=[assign tg X.env]:=by rfl):PS X (.Assign [tg] e pos) (zKG te g):=by
 intro pins s σ H D I h
 refine wpAny_Assign_stores (thn (he pins s σ H _ I h) fun v s1 ⟨x,H1,I1,r1,q1⟩=>?_) hs hw
 rw[h1]
 exact thn (hg pins s1 σ H1 x v _ I1 r1 q1) fun _ s2 q=>q
theorem gJ{i:Nat}{x:Str}{e:Expr}{te:TE}{pos':Pos}(hN:X.N.Nodup)(hi:X.N[i]?=some x)(hx:Loc X.env.scope x)(he:PE X e te)(hs:swapsWith e (some (.Name x pos')) pos.line X.env=pure false:=by rfl)(hf:X.fn x=true\/X.env.scope.names.lookup x=some .local:=by first|exact .inl rfl|exact .inr rfl|assumption):PS X (.Assign [.Name x pos'] e pos) (zKG te (ZL i)):=by
 intro pins s σ H D I h
 refine wpAny_Assign_Name (thn (he pins s σ H _ I h) fun v s1 ⟨y,H1,I1,r1,q1⟩=>?_) hs
 exact dD I1 hN hi hx r1 (fun s2 I2=>⟨_,H1,I2,q1⟩) hf
noncomputable def zLR(i:Nat)(te:TE)(ti:TIp):TS:=fun D σ H=>∃x,σ[i]?=some (some x)/\te σ H fun y H1=>ti x y H1 fun z H2=>D.nx (σ.set i (some z)) H2
theorem zF5{i:Nat}{x:Str}{e:Expr}{te:TE}{op:Operator}{ti:TIp}{pos':Pos}(hN:X.N.Nodup)(hi:X.N[i]?=some x)(hx:Loc X.env.scope x)(he:PE X e te)(ho:PIp X op ti)(hf:X.fn x=true\/X.env.scope.names.lookup x=some .local:=by first|exact .inl rfl|exact .inr rfl|assumption):PS X (.AugAssign (.Name x pos') op e pos) (zLR i te ti):=by
 intro pins s σ H D I h
 obtain⟨v,e1,h⟩:=h
 obtain⟨m,hn,hl⟩:=I.loc
 have vis:Vis X.env.scope x:=by rcases hx with k|k;exact .inl k;exact .inr (.inl k)
 obtain⟨u,r,l⟩:=hl i x v hi e1 vis
 refine wpAny_AugAssign_Name ?_
 have go:wpAny (model X.prog X.w) X.A (eval e X.env) (fun w s₂=>wpAny (model X.prog X.w) X.A (inplaceOp op u w) (fun r s₃=>wpAny (model X.prog X.w) X.A (storeName X.env x r) (fun _=>SP X pins D .next) X.xe s₃) X.xe s₂) X.xe s:=by
  refine thn (he pins s σ H _ I h) fun w s1 ⟨y,H1,I1,r1,q1⟩=>?_
  refine thn (ho pins s1 σ H1 v y u w _ I1 r r1 q1) fun z s2 ⟨zv,H2,I2,r2,q2⟩=>?_
  exact dD I2 hN hi hx r2 (fun s3 I3=>⟨_,H2,I3,q2⟩) hf
 rcases l with⟨hk,hm⟩|⟨hk,c,hc,hcell⟩
 ·exact wpAny_loadName_local I.ok.kind hk hn hm go
 ·rcases hk with hk|hk
  ·exact wpAny_loadName_cell I.ok.kind hk hc hcell go
  ·rcases hx with k|k
   ·have:X.env.scope.names.lookup x=some .free:=hk
    rw[k] at this;cases this
   ·have:X.env.scope.names.lookup x=some .free:=hk
    rw[k] at this;cases this
noncomputable def ipI(f:Int->Int->Int):TIp:=fun x y H Q=>∃i j,x=.int i/\y=.int j/\Q (.int (f i j)) H
theorem zG5:PIp X .Add (ipI fun i j=>i+j):=by
 intro pins s σ H x y v u Q I r1 r2 h
 obtain⟨i,j,e1,e2,q⟩:=h
 subst e1;subst e2
 obtain⟨t,rfl⟩:=r1
 obtain⟨t',rfl⟩:=r2
 exact iadd_int ⟨.int _,H,I.tok _,⟨_,rfl⟩,q⟩
end
section
variable{X:Cx}{pos:Pos}
noncomputable def zFO(c:TT)(tb:TS):TS:=fun D σ H=>∃W:Nat->St->Hp->Prop,(∃m,W m σ H)/\∀m σ H,W m σ H ->
 c σ H fun b H1=>if b=true then ∃N:St->Hp->Prop,(∀σ' H',N σ' H'->∃m',m'<m/\W m' σ' H')/\tb { D with nx:=N,ct:=N,bk:=D.nx } σ H1 else D.nx σ H1
theorem pC{c:Expr}{body:List Stmt}{tc:TT}{tb:TS}(hp:PassesOwn (model X.prog X.w) X.A X.env X.xe)(hc:PT X c tc)(hb:PSs X body tb):PS X (.While c body [] pos) (zFO tc tb):=by
 intro pins s σ H D I h
 obtain⟨W,⟨m0,w0⟩,turn⟩:=h
 refine wpAny_While (codeAny_whileLoop (fun n s'=>∃σ' H',Inv X pins σ' H' s'/\W n σ' H') ?_ m0 ⟨σ,H,I,w0⟩)
 rintro n s1 ⟨σ1,H1,I1,w1⟩
 refine wpAny_passesOwn hp (thn (hc pins s1 σ1 H1 _ I1 (turn n σ1 H1 w1)) fun b s2 ⟨H2,I2,q2⟩=>?_)
 cases b with
 |true=>
  obtain⟨N,hN,q2⟩:=q2
  rw[if_pos rfl]
  refine wpAny_passesOwn hp (thn (hb pins s2 σ1 H2 _ I2 q2) fun f s3 q3=>?_)
  cases f with
  |next=>
   obtain⟨σ3,H3,I3,n3⟩:=q3
   obtain⟨m',hm,w3⟩:=hN σ3 H3 n3
   exact⟨m',hm,σ3,H3,I3,w3⟩
  |cont=>
   obtain⟨σ3,H3,I3,n3⟩:=q3
   obtain⟨m',hm,w3⟩:=hN σ3 H3 n3
   exact⟨m',hm,σ3,H3,I3,w3⟩
  |brk=>exact q3
  |ret v=>exact q3
 |false=>
  rw[if_neg Bool.false_ne_true]
  exact wpAny_execs_nil ⟨σ1,H2,I2,q2⟩
end
structure It where
 go:Nat->Hp->Prop
 yld:Nat->Hp->V->Hp->Prop
 stop:Nat->Hp->Prop
noncomputable def Z5(X:Cx)(pins:List (Addr×Obj))(H:Hp)(b:Addr):Prop:=
 H b=none/\b≠X.env.locals/\b∉X.fs/\(b∈X.ex\/X.s₀.heap.objs.size<=b)/\(∀x c,X.env.cells.lookup x=some c->c≠b)/\∀p∈X.pn++pins,p.1≠b
theorem Inv.fpOk{X:Cx}{pins:List (Addr×Obj)}{σ:St}{H H':Hp}{s:Shared}{b:Addr}(I:Inv X pins σ H s)(hb:s.heap.objs.size<=b)(hn:H' b=none):Z5 X pins H' b:=by
 refine⟨hn,Nat.ne_of_gt (Nat.lt_of_lt_of_le I.lt hb),I.nofs hb,.inr (Nat.le_trans I.sz hb),fun x c e z=>?_,fun p hp z=>?_⟩
 ·obtain⟨v,q⟩:=I.cell x c e
  exact absurd (Nat.lt_of_lt_of_le q.lt (by rw[z];exact hb)) (Nat.lt_irrefl _)
 ·exact absurd (Nat.lt_of_lt_of_le (Heap.lt_size (I.pin p hp).1) (by rw[z];exact hb)) (Nat.lt_irrefl _)
structure Turn(P:Program)(w:World)(K:Fg)(tg:Expr)(J:It)(fp:List Addr)(it:Addr)(tn:Nat->Heap->Prop):Prop where
 mem:it∈fp
 obj:∀i h,tn i h->∀b∈fp,∃o,h.get? b=some o/\∀v,o.data≠.cell v
 keep:∀i h h',tn i h->(∀b∈fp,∀o,h.get? b=some o->h'.get? b=some o)->tn i h'
 item:∀(X:Cx),X.prog=P->X.w=w->X.K=K->X.calm=true->∀(i:Nat) (pins:List (Addr×Obj)) (s:Shared) (σ:St) (H:Hp) (E:Value->Shared->Prop),Inv X pins σ H s->(∀b∈fp,Z5 X pins H b)->tn i s.heap->J.go i H ->
  wpAny (model P w) X.A (pyNext (.ref it)) (fun r s1=>∃u,r=some u /\
   wpAny (model P w) X.A (letOwnedTupleGo tg (.ref it) u) (fun _ s2=>∃x H',Inv X pins σ H' s2/\RelV x u/\J.yld i H x H'/\tn (i+1) s2.heap/\∀b∈fp,H' b=none) E s1) E s
 done:∀(X:Cx),X.prog=P->X.w=w->X.K=K->X.calm=true->∀(i:Nat) (pins:List (Addr×Obj)) (s:Shared) (σ:St) (H:Hp) (E:Value->Shared->Prop),Inv X pins σ H s->(∀b∈fp,Z5 X pins H b)->tn i s.heap->J.stop i H ->
  wpAny (model P w) X.A (pyNext (.ref it)) (fun r s1=>r=none/\Inv X pins σ H s1) E s
 self:∀(A:Around) (i:Nat) (s:Shared) (Q:Value->Shared->Prop) (E:Value->Shared->Prop),tn i s.heap->Q (.ref it) s->wpAny (model P w) A (pyIter (.ref it)) Q E s
noncomputable abbrev TI:=St->Hp->(It->Hp->Prop)->Prop
noncomputable def PIE(X:Cx)(pins:List (Addr×Obj))(σ:St)(tg:Expr)(R:It->Hp->Prop)(itv:Value)(s2:Shared):Prop:=
 ∃(it:Addr) (fp:List Addr) (tn:Nat->Heap->Prop) (J:It) (H':Hp),itv=.ref it/\Inv X pins σ H' s2/\Turn X.prog X.w X.K tg J fp it tn/\tn 0 s2.heap/\(∀b∈fp,Z5 X pins H' b)/\R J H'
noncomputable def PI(X:Cx)(tg iter:Expr)(wi:TI):Prop:=
 ∀(pins:List (Addr×Obj)) (s:Shared) (σ:St) (H:Hp) (R:It->Hp->Prop),Inv X pins σ H s->wi σ H R ->
  wpAny (model X.prog X.w) X.A (eval iter X.env) (fun v s1=>wpAny (model X.prog X.w) X.A (pyIter v) (PIE X pins σ tg R) X.xe s1) X.xe s
theorem J6{M:Model}{A:Around}{E:Value->Shared->Prop}{s:Shared}{tg:Expr}{it:Addr}{u:Value}{o:Obj}{n:String}{vs:Array Value}{Q:Unit->Shared->Prop}(ho:s.heap.get? it=some o)(hc:o.cls=.type n)(hd:o.data=.fields vs)(hn:["enumerate", "zip", "dict_itemiterator", "dict_reverseitemiterator", "odict_iterator", "itertools.zip_longest", "itertools.pairwise"].contains n=false)(hQ:Q () s):wpAny M A (letOwnedTupleGo tg (.ref it) u) Q E s:=by
 unfold letOwnedTupleGo
 cases tg<;>first
  |exact wpAny_pure hQ
  |(cases u<;>first
    |exact wpAny_pure hQ
    |(refine wpAny_bind (wpAny_load ho ?_)
      rw[hc,hd]
      show wpAny M A (if (["enumerate", "zip", "dict_itemiterator", "dict_reverseitemiterator", "odict_iterator", "itertools.zip_longest", "itertools.pairwise"].contains n && vs[0]? == some (rawInt _))=true then _ else _) Q E s
      rw[if_neg (by intro h;rw[hn,Bool.false_and] at h;cases h)]
      exact wpAny_pure hQ))
noncomputable def Itl(K:Fg)(a:Addr):It:=
 ⟨fun i H=>∃xs x,SqL K H a xs/\xs[i]?=some x,fun i H x H'=>H'=H/\∀xs,SqL K H a xs->xs[i]?=some x,fun i H=>∃xs,SqL K H a xs/\xs.length<=i⟩
noncomputable def Itt(K:Fg)(a:Addr):It:=
 ⟨fun i H=>∃xs x,SqT K H a xs/\xs[i]?=some x,fun i H x H'=>H'=H/\∀xs,SqT K H a xs->xs[i]?=some x,fun i H=>∃xs,SqT K H a xs/\xs.length<=i⟩
noncomputable def Itr(lo:Int)(n:Nat):It:=⟨fun i _=>i<n,fun i H x H'=>H'=H/\x=.int (lo+i),fun i _=>n<=i⟩
theorem rV{P:Program}{w:World}{K:Fg}{tg:Expr}(a it:Addr):Turn P w K tg (Itl K a) [it] it (fun i h=>h.IsListIter it a i) where
 mem:=by simp
 obj:=fun i h st b hb=>by
  have e:b=it:=by simpa using hb
  subst e
  obtain⟨o,e,c,d⟩:=st
  exact⟨o,e,fun v z=>by rw[d] at z;cases z⟩
 keep:=fun i h h' st k=>st.at fun o e=>k it (by simp) o e
 item:=by
  intro X hP hw hK hc i pins s σ H E I hf st hg
  subst hP hw hK
  obtain⟨xs,x,hq,hx⟩:=hg
  obtain⟨its,rv,p,hz⟩:=I.list hq
  obtain⟨u,hu,ru⟩:=rv.get hx
  obtain⟨f0,f1,f2,f3,f4,f5⟩:=hf it (by simp)
  refine wpAny_pyNext_list_item st p.isList (x:=u) (by simpa using hu) fun h' st' sb=>?_
  have I1:Inv X pins σ H { s with heap:=h' }:=I.turned (t':=s.toks) (fun b o hb e=>(sb.2 b hb).trans e) f0 f1 f3 f4 f5
  obtain⟨o,e,c,d⟩:=id st'
  exact⟨u,rfl,J6 (s:={ s with heap:=h' }) e c d (by decide) ⟨x,H,I1,ru,⟨rfl,fun ys hy=>by rw[I.list_inj hy hq];exact hx⟩,st',fun b hb=>(hf b hb).1⟩⟩
 done:=by
  intro X hP hw hK hc i pins s σ H E I hf st hg
  subst hP hw hK
  obtain⟨xs,hq,hx⟩:=hg
  obtain⟨its,rv,p,hz⟩:=I.list hq
  obtain⟨f0,f1,f2,f3,f4,f5⟩:=hf it (by simp)
  have hl:=rv.length
  exact wpAny_pyNext_list_end (I.ok.hd hc) st p.isList (by simp;omega) fun h' eb=>⟨rfl,I.turned (t':=s.toks) (fun b o hb e=>eb b o hb e) f0 f1 f3 f4 f5⟩
 self:=fun _ _ _ _ _ st h=>wpAny_pyIter_listiter st h
theorem m9{P:Program}{w:World}{K:Fg}{tg:Expr}(a it:Addr):Turn P w K tg (Itt K a) [it] it (fun i h=>h.IsTupleIter it a i) where
 mem:=by simp
 obj:=fun i h st b hb=>by
  have e:b=it:=by simpa using hb
  subst e
  obtain⟨o,e,c,d⟩:=st
  exact⟨o,e,fun v z=>by rw[d] at z;cases z⟩
 keep:=fun i h h' st k=>st.at fun o e=>k it (by simp) o e
 item:=by
  intro X hP hw hK hc i pins s σ H E I hf st hg
  subst hP hw hK
  obtain⟨xs,x,hq,hx⟩:=hg
  obtain⟨its,rv,p,hz⟩:=I.tuple hq
  obtain⟨u,hu,ru⟩:=rv.get hx
  obtain⟨f0,f1,f2,f3,f4,f5⟩:=hf it (by simp)
  refine wpAny_pyNext_tuple_item st (show s.heap.IsTuple a its.toArray from p) (x:=u) (by simpa using hu) fun h' st' sb=>?_
  have I1:Inv X pins σ H { s with heap:=h' }:=I.turned (t':=s.toks) (fun b o hb e=>(sb.2 b hb).trans e) f0 f1 f3 f4 f5
  obtain⟨o,e,c,d⟩:=id st'
  exact⟨u,rfl,J6 (s:={ s with heap:=h' }) e c d (by decide) ⟨x,H,I1,ru,⟨rfl,fun ys hy=>by rw[I.tuple_inj hy hq];exact hx⟩,st',fun b hb=>(hf b hb).1⟩⟩
 done:=by
  intro X hP hw hK hc i pins s σ H E I hf st hg
  subst hP hw hK
  obtain⟨xs,hq,hx⟩:=hg
  obtain⟨its,rv,p,hz⟩:=I.tuple hq
  obtain⟨f0,f1,f2,f3,f4,f5⟩:=hf it (by simp)
  have hl:=rv.length
  exact wpAny_pyNext_tuple_end (I.ok.hd hc) st (show s.heap.IsTuple a its.toArray from p) (by simp;omega) fun h' eb=>⟨rfl,I.turned (t':=s.toks) (fun b o hb e=>eb b o hb e) f0 f1 f3 f4 f5⟩
 self:=fun _ _ _ _ _ st h=>wpAny_pyIter_tupleiter st h
theorem nA{P:Program}{w:World}{K:Fg}{tg:Expr}(it:Addr)(lo:Int)(n:Nat):Turn P w K tg (Itr lo n) [it] it (fun i h=>IsRangeIter h it (lo+(i:Nat)*1) ((n:Int)-(i:Nat)) 1) where
 mem:=by simp
 obj:=fun i h st b hb=>by
  have e:b=it:=by simpa using hb
  subst e
  exact⟨_,st,fun v z=>by
   have z':Data.fields _=Data.cell v:=z
   cases z'⟩
 keep:=fun i h h' st k=>k it (by simp) _ st
 item:=by
  intro X hP hw hK hc i pins s σ H E I hf st hg
  subst hP hw hK
  obtain⟨f0,f1,f2,f3,f4,f5⟩:=hf it (by simp)
  have W:=Walks.range (prog:=X.prog) (w:=X.w) (I.ok.hd hc) it lo 1 n
  refine W.item i s _ _ hg st fun v h' tk hv st' kk=>?_
  obtain⟨t,rfl⟩:=hv
  have I1:Inv X pins σ H { s with heap:=h',toks:=tk }:=I.turned (fun b o hb e=>kk b o (by simpa using hb) e) f0 f1 f3 f4 f5
  refine⟨_,rfl,J6 (s:={ s with heap:=h',toks:=tk }) (n:="range_iterator") st' rfl rfl (by decide) ⟨.int (lo+i),H,I1,⟨t,?_⟩,⟨rfl,rfl⟩,st',fun b hb=>(hf b hb).1⟩⟩
  rw[Int.mul_one]
 done:=by
  intro X hP hw hK hc i pins s σ H E I hf st hg
  subst hP hw hK
  obtain⟨f0,f1,f2,f3,f4,f5⟩:=hf it (by simp)
  exact wpAny_pyNext_range_end (I.ok.hd hc) st (by have:n<=i:=hg;omega) fun h' eb=>⟨rfl,I.turned (t':=s.toks) (fun b o hb e=>eb b o hb e) f0 f1 f3 f4 f5⟩
 self:=fun _ _ _ _ _ st h=>wpAny_pyIter_rangeiter st h
end L2
namespace L2
open PySem PySem.Spec PyProof.Rows
section
variable{X:Cx}{tg:Expr}
theorem WY{pins:List (Addr×Obj)}{σ:St}{H:Hp}{s:Shared}{R:It->Hp->Prop}{E:Value->Shared->Prop}{lo hi:Int}{t u v:Tok}{tk:Nat}(I:Inv X pins σ H s)(h1 : -(2 ^ 62)<=lo)(h2:lo<2 ^ 62)(h3 : -(2 ^ 62)<=hi)(h4:hi<2 ^ 62)(q:R (Itr lo (hi-lo).toNat) H):wpAny (model X.prog X.w) X.A (pyIter (.ref s.heap.objs.size)) (PIE X pins σ tg R) E { s with heap:=s.heap.push { cls:=.type "range",data:=.fields #[.int lo t,.int hi u,.int 1 v] },toks:=tk }:=by
 refine wpAny_pyIter_range (IsRange.new ..) (small_one h1 h2 h3 h4) ?_
 have I1:Inv X pins σ H { s with heap:=s.heap.push { cls:=.type "range",data:=.fields #[.int lo t,.int hi u,.int 1 v] },toks:=tk }:=I.kept fun b o e=>Heap.get?_push_of_some _ e
 refine⟨(s.heap.push { cls:=.type "range",data:=.fields #[.int lo t,.int hi u,.int 1 v] }).objs.size,[(s.heap.push { cls:=.type "range",data:=.fields #[.int lo t,.int hi u,.int 1 v] }).objs.size],_,_,H,rfl,
  I1.kept (t':=tk) fun b o e=>Heap.get?_push_of_some _ e,nA _ lo (hi-lo).toNat,?_,fun b hb=>?_,q⟩
 ·have e1:lo+((0:Nat):Int)*1=lo:=by simp
  have e2:(((hi-lo).toNat:Nat):Int)-((0:Nat):Int)=Builtin.Range.rangeSize lo hi 1:=by rw[rangeSize_one];split<;>omega
  show IsRangeIter _ _ (lo+((0:Nat):Int)*1) ((((hi-lo).toNat:Nat):Int)-((0:Nat):Int)) 1
  rw[e1,e2]
  exact Heap.get?_push_size _ rfl
 ·have e:b=(s.heap.push { cls:=.type "range",data:=.fields #[.int lo t,.int hi u,.int 1 v] }).objs.size:=by simpa using hb
  subst e
  exact I1.fpOk (Nat.le_refl _) (I1.hok.fresh (Nat.le_refl _))
noncomputable def zJU(ta:TA):TI:=fun σ H R=>ta σ H fun vs H1=>∃j:Int,vs=[.int j]/\-(2 ^ 62)<=j/\j<2 ^ 62/\R (Itr 0 j.toNat) H1
theorem tM{a:Expr}{ta:TA}{p pos:Pos}(hg:Gl X "range")(hm:X.mg "range" = none)(ha:PA X [a] ta)(hs:starEach [a] X.env=[(false,eval a X.env)]:=by rfl):PI X tg (.Call (.Name "range" p) [a] [] pos) (zJU ta):=by
 intro pins s σ H R I h
 refine Call_ (cT I hg hm boot_range (PyProof.Rows.callWith_type1 (thn (ha pos pins s σ H _ I h) fun us s1 ⟨vs,H1,I1,r1,q1⟩=>?_) hs rfl))
 obtain⟨j,e,q1,q2,q⟩:=q1
 subst e
 cases r1 with
 |cons r rr=>
  cases rr
  obtain⟨t,rfl⟩:=r
  exact call_range_1 (WY I1 (by omega) (by omega) q1 q2 (by simpa using q))
noncomputable def zLQ(wi:TI)(g:TG)(tb:TS):TS:=fun D σ H=>wi σ H fun J H1=>∃W:Nat->Nat->St->Hp->Prop,(∃m,W 0 m σ H1)/\∀i m σ H,W i m σ H ->
 (J.stop i H/\D.nx σ H)\/(J.go i H/\∃N:St->Hp->Prop,(∀σ' H',N σ' H'->∃m',m'<m/\W (i+1) m' σ' H')/\∀x H',J.yld i H x H'->g x σ H' fun σ2 H2=>tb { D with nx:=N,ct:=N,bk:=D.nx } σ2 H2)
noncomputable def gK(fp:List Addr)(h:Heap):List (Addr×Obj):=fp.filterMap fun b=>(h.get? b).map fun o=>(b,o)
theorem jF{fp:List Addr}{h:Heap}{b:Addr}{o:Obj}(hb:b∈fp)(e:h.get? b=some o):(b,o)∈gK fp h:=List.mem_filterMap.mpr ⟨b,hb,by rw[e];rfl⟩
theorem tU{fp:List Addr}{h:Heap}{p:Addr×Obj}(hp:p∈gK fp h):p.1∈fp/\h.get? p.1=some p.2:=by
 obtain⟨b,hb,e⟩:=List.mem_filterMap.mp hp
 cases q:h.get? b with
 |none=>rw[q] at e;cases e
 |some o=>
  rw[q] at e
  have e':(b,o)=p:=Option.some.inj e
  subst e'
  exact⟨hb,q⟩
theorem Inv.pinned{pins:List (Addr×Obj)}{σ:St}{H:Hp}{s:Shared}{fp:List Addr}(I:Inv X pins σ H s)(hf:∀b∈fp,Z5 X pins H b)(ho:∀b∈fp,∃o,s.heap.get? b=some o/\∀v,o.data≠.cell v):Inv X (pins++gK fp s.heap) σ H s:=
 I.pins_of fun p hp=>(List.mem_append.mp hp).elim (fun z=>I.pin p (List.mem_append_right _ z)) fun z=>by
  obtain⟨hb,e⟩:=tU z
  obtain⟨f0,f1,f2,_⟩:=hf p.1 hb
  obtain⟨o,e',d⟩:=ho p.1 hb
  rw[e] at e';cases e'
  exact⟨e,f0,f1,f2,d⟩
theorem Inv.unpinned{pins pl:List (Addr×Obj)}{σ:St}{H:Hp}{s:Shared}(I:Inv X (pins++pl) σ H s):Inv X pins σ H s:=I.pins_of fun p hp=>I.pin p (List.mem_append_right _ (List.mem_append_left _ hp))
theorem zBS{iter:Expr}{body:List Stmt}{wi:TI}{g:TG}{tb:TS}{pos:Pos}(hp:PassesOwn (model X.prog X.w) X.A X.env X.xe)(hc:X.calm=true)(hi:PI X tg iter wi)(hg:PG X tg g)(hb:PSs X body tb)(hs:∀x,foldedSetIterable iter X.env x=pure x:=by intro _;rfl):PS X (.For tg iter body [] pos) (zLQ wi g tb):=by
 intro pins s σ H D I h
 refine wpAny_For (thn (hi pins s σ H _ I h) fun v s1 h1=>thn h1 fun itv s2 h2=>?_) hs
 obtain⟨it,fp,tn,J,H2,e,I2,T,st2,f2,W,⟨m0,w0⟩,turn⟩:=h2
 subst e
 have stat:∀{H':Hp},(∀b∈fp,H' b=none)->∀b∈fp,Z5 X pins H' b:=fun hn b hb=>⟨hn b hb,(f2 b hb).2⟩
 refine codeAny_forLoop_any (fun n s'=>∃i σ' H',Inv X pins σ' H' s'/\tn i s'.heap/\(∀b∈fp,H' b=none)/\W i n σ' H') ?_ m0 ⟨0,σ,H2,I2,st2,fun b hb=>(f2 b hb).1,w0⟩
 rintro n s3 ⟨i,σ3,H3,I3,st3,fr3,w3⟩
 rcases turn i n σ3 H3 w3 with⟨stop,qn⟩|⟨go,N,hN,step⟩
 ·refine wpAny_passesOwn hp (thn (T.done X rfl rfl rfl hc i pins s3 σ3 H3 X.xe I3 (stat fr3) st3 stop) fun r s4 ⟨hr,I4⟩=>?_)
  subst hr
  exact wpAny_execs_nil ⟨σ3,H3,I4,qn⟩
 ·refine wpAny_passesOwn hp (thn (T.item X rfl rfl rfl hc i pins s3 σ3 H3 X.xe I3 (stat fr3) st3 go) fun r s4 ⟨u,hr,h4⟩=>?_)
  subst hr
  refine wpAny_passesOwn hp (thn h4 fun _ s5 ⟨x,H5,I5,r5,y5,st5,fr5⟩=>?_)
  have I5':=I5.pinned (stat fr5) (T.obj _ _ st5)
  refine wpAny_passesOwn hp (thn (hg _ s5 σ3 H5 x u _ I5' r5 (step x H5 y5)) fun _ s6 ⟨σ6,H6,I6,q6⟩=>?_)
  refine wpAny_passesOwn hp (thn (hb _ s6 σ6 H6 _ I6 q6) fun f s7 q7=>?_)
  have again:∀{σ7:St} {H7:Hp},Inv X (pins++gK fp s5.heap) σ7 H7 s7->N σ7 H7->∃m,m<n/\∃i σ' H',Inv X pins σ' H' s7/\tn i s7.heap/\(∀b∈fp,H' b=none)/\W i m σ' H':=fun {σ7 H7} I7 n7=>by
   obtain⟨m',hm,w7⟩:=hN σ7 H7 n7
   refine⟨m',hm,i+1,σ7,H7,I7.unpinned,T.keep _ _ _ st5 fun b hb o e=>(I7.pin (b,o) (List.mem_append_right _ (List.mem_append_right _ (jF hb e)))).1,fun b hb=>?_,w7⟩
   obtain⟨o,e,d⟩:=T.obj _ _ st5 b hb
   exact(I7.pin (b,o) (List.mem_append_right _ (List.mem_append_right _ (jF hb e)))).2.1
  cases f with
  |next=>obtain⟨σ7,H7,I7,n7⟩:=q7;exact again I7 n7
  |cont=>obtain⟨σ7,H7,I7,n7⟩:=q7;exact again I7 n7
  |brk=>obtain⟨σ7,H7,I7,q7⟩:=q7;exact⟨σ7,H7,I7.unpinned,q7⟩
  |ret v=>obtain⟨x7,σ7,H7,I7,r7,q7⟩:=q7;exact⟨x7,σ7,H7,I7.unpinned,r7,q7⟩
end
end L2
namespace L2
open PySem PySem.Spec PyProof.Rows
noncomputable abbrev R2:=V->V->Hp->VK->Prop
noncomputable def OpR(X:Cx)(f:Value->Value->Sem Value)(r:R2):Prop:=
 ∀(pins:List (Addr×Obj)) (s:Shared) (σ:St) (H:Hp) (x y:V) (v u:Value) (Q:VK),Inv X pins σ H s->RelV x v->RelV y u->r x y H Q ->
  wpAny (model X.prog X.w) X.A (f v u) (EP X pins σ Q) X.xe s
noncomputable def UnR(X:Cx)(f:Value->Sem Value)(r:V->Hp->VK->Prop):Prop:=
 ∀(pins:List (Addr×Obj)) (s:Shared) (σ:St) (H:Hp) (x:V) (v:Value) (Q:VK),Inv X pins σ H s->RelV x v->r x H Q ->
  wpAny (model X.prog X.w) X.A (f v) (EP X pins σ Q) X.xe s
noncomputable def CallR(X:Cx)(f:Value)(r:List V->Hp->VK->Prop):Prop:=
 ∀(pins:List (Addr×Obj)) (s:Shared) (σ:St) (H:Hp) (xs:List V) (us:List Value) (Q:VK),Inv X pins σ H s->Vals xs us->r xs H Q ->
  wpAny (model X.prog X.w) X.A (call f us) (EP X pins σ Q) X.xe s
noncomputable def zL6(X:Cx)(r:V->Hp->(Bool->Hp->Prop)->Prop):Prop:=
 ∀(pins:List (Addr×Obj)) (s:Shared) (σ:St) (H:Hp) (x:V) (v:Value) (Q:Bool->Hp->Prop),Inv X pins σ H s->RelV x v->r x H Q ->
  wpAny (model X.prog X.w) X.A (truthy v) (TP X pins σ Q) X.xe s
noncomputable def tOp(r:R2)(ta tb:TE):TE:=fun σ H Q=>ta σ H fun x H1=>tb σ H1 fun y H2=>r x y H2 Q
noncomputable def tUn(r:V->Hp->VK->Prop)(ta:TE):TE:=fun σ H Q=>ta σ H fun x H1=>r x H1 Q
noncomputable def rI(C:Int->Int->Prop)(g:Int->Int->V):R2:=fun x y H Q=>∃i j,x=.int i/\y=.int j/\C i j/\Q (g i j) H
noncomputable def rI0(g:Int->Int->V):R2:=fun x y H Q=>∃i j,x=.int i/\y=.int j/\Q (g i j) H
noncomputable def rU(g:Int->V):V->Hp->VK->Prop:=fun x H Q=>∃i,x=.int i/\Q (g i) H
section
variable{X:Cx}{a b c:Expr}{ta tb tc:TE}{pos:Pos}
theorem zKS(ha:PE X a ta)(hb:PE X b tb){pins:List (Addr×Obj)}{s:Shared}{σ:St}{H:Hp}{R:V->V->Hp->Prop}(I:Inv X pins σ H s)(h:ta σ H fun x H1=>tb σ H1 fun y H2=>R x y H2){Q:Value->Shared->Prop}{f:Value->Value->Sem Value}(hf:∀v u s2 x y H2,Inv X pins σ H2 s2->RelV x v->RelV y u->R x y H2->wpAny (model X.prog X.w) X.A (f v u) Q X.xe s2):wpAny (model X.prog X.w) X.A (eval a X.env) (fun v s₁=>wpAny (model X.prog X.w) X.A (eval b X.env) (fun u s₂=>wpAny (model X.prog X.w) X.A (f v u) Q X.xe s₂) X.xe s₁) X.xe s:=by
 refine thn (ha pins s σ H _ I h) fun v s1 ⟨x,H1,I1,r1,q1⟩=>?_
 refine thn (hb pins s1 σ H1 _ I1 q1) fun u s2 ⟨y,H2,I2,r2,q2⟩=>?_
 exact hf v u s2 x y H2 I2 r1 r2 q2
theorem zHY{op:Operator}{r:R2}(ho:OpR X (binaryOp op) r)(ha:PE X a ta)(hb:PE X b tb):PE X (.BinOp a op b pos) (tOp r ta tb):=by
 intro pins s σ H Q I h
 exact wpAny_BinOp (zKS ha hb I h fun v u s2 x y H2 I2 rx ry q=>ho pins s2 σ H2 x y v u Q I2 rx ry q)
theorem zHX{op:UnaryOp}{r:V->Hp->VK->Prop}(ho:UnR X (unaryOp op) r)(ha:PE X a ta):PE X (.UnaryOp op a pos) (tUn r ta):=by
 intro pins s σ H Q I h
 exact UnaryOp_ (thn (ha pins s σ H _ I h) fun v s1 ⟨x,H1,I1,r1,q1⟩=>ho pins s1 σ H1 x v Q I1 r1 q1)
theorem opI{f:Value->Value->Sem Value}{C:Int->Int->Prop}{g:Int->Int->Int}(rule:∀(i j:Int) (t u:Tok) (s:Shared) (Q:Value->Shared->Prop) (E:Value->Shared->Prop),C i j->Q (.int (g i j) s.toks) { s with toks:=s.toks+1 }->wpAny (model X.prog X.w) X.A (f (.int i t) (.int j u)) Q E s):OpR X f (rI C fun i j=>.int (g i j)):=by
 intro pins s σ H x y v u Q I rx ry h
 obtain⟨i,j,rfl,rfl,hc,q⟩:=h
 obtain⟨t,rfl⟩:=rx
 obtain⟨t',rfl⟩:=ry
 exact rule i j t t' s _ _ hc ⟨.int (g i j),H,I.tok _,⟨_,rfl⟩,q⟩
theorem zK7{f:Value->Value->Sem Value}{g:Int->Int->Int}(rule:∀(i j:Int) (t u:Tok) (s:Shared) (Q:Value->Shared->Prop) (E:Value->Shared->Prop),Q (.int (g i j) s.toks) { s with toks:=s.toks+1 }->wpAny (model X.prog X.w) X.A (f (.int i t) (.int j u)) Q E s):OpR X f (rI0 fun i j=>.int (g i j)):=by
 intro pins s σ H x y v u Q I rx ry h
 obtain⟨i,j,rfl,rfl,q⟩:=h
 obtain⟨t,rfl⟩:=rx
 obtain⟨t',rfl⟩:=ry
 exact rule i j t t' s _ _ ⟨.int (g i j),H,I.tok _,⟨_,rfl⟩,q⟩
theorem zKO{f:Value->Value->Sem Value}{g:Int->Int->Bool}(rule:∀(i j:Int) (t u:Tok) (s:Shared) (Q:Value->Shared->Prop) (E:Value->Shared->Prop),Q (.bool (g i j)) s->wpAny (model X.prog X.w) X.A (f (.int i t) (.int j u)) Q E s):OpR X f (rI0 fun i j=>.bl (g i j)):=by
 intro pins s σ H x y v u Q I rx ry h
 obtain⟨i,j,rfl,rfl,q⟩:=h
 obtain⟨t,rfl⟩:=rx
 obtain⟨t',rfl⟩:=ry
 exact rule i j t t' s _ _ ⟨.bl (g i j),H,I,rfl,q⟩
noncomputable def zLJ(i j:Int):Prop:=0<j/\j<1073741824
noncomputable def zLI(i j:Int):Prop:=0<=j/\j<=1000000/\i.natAbs<2 ^ 64
noncomputable def CMul(i j:Int):Prop:=(-(2 ^ 64)<i/\i<2 ^ 64)\/(-(2 ^ 64)<j/\j<2 ^ 64)
theorem CMul.ok{i j:Int}(h:CMul i j):IntMulOk i j:=by
 rcases h with⟨h1,h2⟩|⟨h1,h2⟩
 ·exact .of_left (intBits_le_64 h1 h2)
 ·exact .of_right (intBits_le_64 h1 h2)
theorem op_add:OpR X (binaryOp .Add) (rI0 fun i j=>.int (i+j)):=zK7 fun _ _ _ _ _ _ _ q=>add_int q
theorem nL:OpR X (binaryOp .Sub) (rI0 fun i j=>.int (i-j)):=zK7 fun _ _ _ _ _ _ _ q=>sub_int q
theorem j5:OpR X (binaryOp .Mult) (rI CMul fun i j=>.int (i*j)):=opI fun _ _ _ _ _ _ _ hc q=>mul_int q hc.ok
theorem wF:OpR X (binaryOp .FloorDiv) (rI zLJ fun i j=>.int (i / j)):=opI fun i j _ _ _ _ _ hc q=>by
 have h1:(0:Int)<j:=hc.1
 have h2:j<1073741824:=hc.2
 exact floordiv_int (by omega) (by rw[Int.fdiv_eq_ediv_of_nonneg i (by omega)];exact q) (.inl (PyProof.noPylong_small (by omega)))
theorem yY:OpR X (binaryOp .Mod) (rI (fun _ j=>0<j) fun i j=>.int (i % j)):=opI fun i j _ _ _ _ _ hc q=>by
 have h1:(0:Int)<j:=hc
 exact mod_int' (by omega) (by rw[Int.fmod_eq_emod_of_nonneg i (by omega)];exact q)
theorem QF:OpR X (binaryOp .Pow) (rI zLI fun i j=>.int (i ^ j.toNat)):=opI fun _ _ _ _ _ _ _ hc q=>pow_int_small hc.1 hc.2.1 hc.2.2 q
theorem unI{f:Value->Sem Value}{g:Int->Int}(rule:∀(i:Int) (t:Tok) (s:Shared) (Q:Value->Shared->Prop) (E:Value->Shared->Prop),Q (.int (g i) s.toks) { s with toks:=s.toks+1 }->wpAny (model X.prog X.w) X.A (f (.int i t)) Q E s):UnR X f (rU fun i=>.int (g i)):=by
 intro pins s σ H x v Q I rx h
 obtain⟨i,rfl,q⟩:=h
 obtain⟨t,rfl⟩:=rx
 exact rule i t s _ _ ⟨.int (g i),H,I.tok _,⟨_,rfl⟩,q⟩
theorem zAW:UnR X (unaryOp .USub) (rU fun i=>.int (-i)):=unI fun _ _ _ _ _ q=>neg_int q
end
noncomputable def zKL:V->V->Bool
 |.non,.non=>true | .non,.int _=>true | .int _,.non=>true | .non,.bl _=>true | .bl _,.non=>true | .non,.str _=>true | .str _,.non=>true
 |.int _,.int _=>true | .bl _,.bl _=>true | .str _,.str _=>true | .byt _,.byt _=>true
 |.int _,.str _=>true | .str _,.int _=>true | .bl _,.str _=>true | .str _,.bl _=>true
 |_,_=>false
noncomputable def rEq:R2:=fun x y H Q=>zKL x y=true/\Q (.bl (decide (x=y))) H
noncomputable def rNe:R2:=fun x y H Q=>zKL x y=true/\Q (.bl (!decide (x=y))) H
theorem XS{i j:Int}:decide (V.int i=V.int j)=(i == j):=by
 rw[Bool.eq_iff_iff]
 simp
theorem zD7{i j:Bool}:decide (V.bl i=V.bl j)=(i == j):=by
 rw[Bool.eq_iff_iff]
 simp
theorem XR{i j:Str}:decide (V.str i=V.str j)=(i == j):=by
 rw[Bool.eq_iff_iff]
 simp
theorem XT{i j:Array UInt8}:decide (V.byt i=V.byt j)=(i.toList == j.toList):=by
 rw[Bool.eq_iff_iff]
 cases i
 cases j
 simp
section
variable{X:Cx}{a b c:Expr}{ta tb tc:TE}{pos:Pos}
theorem yP{pins:List (Addr×Obj)}{σ:St}{H:Hp}{s:Shared}{Q:VK}{k k':Bool}(I:Inv X pins σ H s)(q:Q (.bl k) H)(e:k=k'):EP X pins σ Q (.bool k') s:=by
 subst e
 exact⟨.bl k,H,I,rfl,q⟩
theorem zJH:OpR X (compareOp .Eq) rEq:=by
 intro pins s σ H x y v u Q I rx ry h
 obtain⟨hs,q⟩:=h
 cases x with
 |non=>
  cases rx
  cases y with
  |non=>cases ry;exact PySem.EqNone.eq_none_none (yP I q (by simp))
  |bl j=>cases ry;exact PySem.EqNone.eq_none_bool (yP I q (by simp))
  |int j=>obtain⟨t',rfl⟩:=ry;exact PySem.EqNone.eq_none_int (yP I q (by simp))
  |str j=>obtain⟨t',rfl⟩:=ry;exact PySem.EqNone.eq_none_str (yP I q (by simp))
  |_=>exact absurd (show false=true from hs) Bool.false_ne_true
 |bl i=>
  cases rx
  cases y with
  |non=>cases ry;exact PySem.EqNone.eq_bool_none (yP I q (by simp))
  |bl j=>cases ry;exact eq_bool (yP I q zD7)
  |str j=>obtain⟨t',rfl⟩:=ry;exact PySem.EqMixed.eq_bool_str (yP I q (by simp))
  |_=>exact absurd (show false=true from hs) Bool.false_ne_true
 |int i=>
  obtain⟨t,rfl⟩:=rx
  cases y with
  |non=>cases ry;exact PySem.EqNone.eq_int_none (yP I q (by simp))
  |int j=>obtain⟨t',rfl⟩:=ry;exact eq_int (yP I q XS)
  |str j=>obtain⟨t',rfl⟩:=ry;exact PySem.EqMixed.eq_int_str (yP I q (by simp))
  |_=>exact absurd (show false=true from hs) Bool.false_ne_true
 |str i=>
  obtain⟨t,rfl⟩:=rx
  cases y with
  |non=>cases ry;exact PySem.EqNone.eq_str_none (yP I q (by simp))
  |bl j=>cases ry;exact PySem.EqMixed.eq_str_bool (yP I q (by simp))
  |int j=>obtain⟨t',rfl⟩:=ry;exact PySem.EqMixed.eq_str_int (yP I q (by simp))
  |str j=>obtain⟨t',rfl⟩:=ry;exact eq_str (yP I q XR)
  |_=>exact absurd (show false=true from hs) Bool.false_ne_true
 |byt i=>
  obtain⟨t,rfl⟩:=rx
  cases y with
  |byt j=>obtain⟨t',rfl⟩:=ry;exact PySem.W.eq_bytes (yP I q XT)
  |_=>exact absurd (show false=true from hs) Bool.false_ne_true
 |_=>cases y<;>exact absurd (show false=true from hs) Bool.false_ne_true
theorem zJF:OpR X (compareOp .NotEq) rNe:=by
 intro pins s σ H x y v u Q I rx ry h
 obtain⟨hs,q⟩:=h
 cases x with
 |non=>
  cases rx
  cases y with
  |non=>cases ry;exact PySem.EqNone.ne_none_none (yP I q (by simp))
  |bl j=>cases ry;exact PySem.EqNone.ne_none_bool (yP I q (by simp))
  |int j=>obtain⟨t',rfl⟩:=ry;exact PySem.EqNone.ne_none_int (yP I q (by simp))
  |str j=>obtain⟨t',rfl⟩:=ry;exact PySem.EqNone.ne_none_str (yP I q (by simp))
  |_=>exact absurd (show false=true from hs) Bool.false_ne_true
 |bl i=>
  cases rx
  cases y with
  |non=>cases ry;exact PySem.EqNone.ne_bool_none (yP I q (by simp))
  |bl j=>cases ry;exact ne_bool (yP I q (congrArg not zD7))
  |str j=>obtain⟨t',rfl⟩:=ry;exact PySem.EqMixed.ne_bool_str (yP I q (by simp))
  |_=>exact absurd (show false=true from hs) Bool.false_ne_true
 |int i=>
  obtain⟨t,rfl⟩:=rx
  cases y with
  |non=>cases ry;exact PySem.EqNone.ne_int_none (yP I q (by simp))
  |int j=>obtain⟨t',rfl⟩:=ry;exact ne_int (yP I q (congrArg not XS))
  |str j=>obtain⟨t',rfl⟩:=ry;exact PySem.EqMixed.ne_int_str (yP I q (by simp))
  |_=>exact absurd (show false=true from hs) Bool.false_ne_true
 |str i=>
  obtain⟨t,rfl⟩:=rx
  cases y with
  |non=>cases ry;exact PySem.EqNone.ne_str_none (yP I q (by simp))
  |bl j=>cases ry;exact PySem.EqMixed.ne_str_bool (yP I q (by simp))
  |int j=>obtain⟨t',rfl⟩:=ry;exact PySem.EqMixed.ne_str_int (yP I q (by simp))
  |str j=>obtain⟨t',rfl⟩:=ry;exact ne_str (yP I q (congrArg not XR))
  |_=>exact absurd (show false=true from hs) Bool.false_ne_true
 |byt i=>
  obtain⟨t,rfl⟩:=rx
  cases y with
  |byt j=>obtain⟨t',rfl⟩:=ry;exact PySem.W.ne_bytes (yP I q (congrArg not XT))
  |_=>exact absurd (show false=true from hs) Bool.false_ne_true
 |_=>cases y<;>exact absurd (show false=true from hs) Bool.false_ne_true
theorem op_lt:OpR X (compareOp .Lt) (rI0 fun i j=>.bl (decide (i<j))):=zKO fun _ _ _ _ _ _ _ q=>lt_int q
theorem zE0:OpR X (compareOp .Gt) (rI0 fun i j=>.bl (decide (j<i))):=zKO fun _ _ _ _ _ _ _ q=>gt_int q
theorem zJG:OpR X (compareOp .GtE) (rI0 fun i j=>.bl (decide (j<=i))):=zKO fun _ _ _ _ _ _ _ q=>ge_int q
theorem zCA:OpR X (compareOp .IsNot) (fun x y H Q=>y=.non/\Q (.bl (!decide (x=.non))) H):=by
 intro pins s σ H x y v u Q I rx ry h
 obtain⟨rfl,q⟩:=h
 cases ry
 refine isnot_none_gen (yP I q ?_)
 cases x<;>first
  |(cases rx;rfl)
  |(obtain⟨t,rfl⟩:=rx;rfl)
theorem OpR.or{f:Value->Value->Sem Value}{r r':R2}(h:OpR X f r)(h':OpR X f r'):OpR X f (fun x y H Q=>r x y H Q\/r' x y H Q):=by
 intro pins s σ H x y v u Q I rx ry q
 rcases q with q|q
 ·exact h pins s σ H x y v u Q I rx ry q
 ·exact h' pins s σ H x y v u Q I rx ry q
theorem yO(b:Expr){op:CmpOp}(h:op≠.In:=by decide)(h2:op≠.NotIn:=by decide):behindInMarks op b=false:=by
 have e1:(op == CmpOp.In)=false:=by cases op<;>first|rfl|exact absurd rfl h
 have e2:(op == CmpOp.NotIn)=false:=by cases op<;>first|rfl|exact absurd rfl h2
 cases b<;>simp[behindInMarks,e1,e2]
theorem zB8{op:CmpOp}{r:R2}(ho:OpR X (compareOp op) r)(ha:PE X a ta)(hb:PE X b tb)(hm:behindInMarks op b=false):PE X (.Compare a [op] [b] pos) (tOp r ta tb):=by
 intro pins s σ H Q I h
 exact wpAny_Compare1 (zKS ha hb I h fun v u s2 x y H2 I2 rx ry q=>ho pins s2 σ H2 x y v u Q I2 rx ry q) hm
noncomputable def zIX(t:TE):TT:=fun σ H Q=>t σ H fun x H'=>∃k,x=.bl k/\Q k H'
theorem YL{op:CmpOp}{r:R2}(ho:OpR X (compareOp op) r)(ha:PE X a ta)(hb:PE X b tb)(hm:behindInMarks op b=false):PT X (.Compare a [op] [b] pos) (zIX (tOp r ta tb)):=by
 intro pins s σ H Q I h
 refine wpAny_isTrue_Compare1 (thn (ha pins s σ H _ I h) fun v s1 ⟨x,H1,I1,r1,q1⟩=>thn (hb pins s1 σ H1 _ I1 q1) fun u s2 ⟨y,H2,I2,r2,q2⟩=>
  thn (ho pins s2 σ H2 x y v u _ I2 r1 r2 q2) fun c s3 ⟨z,H3,I3,r3,k,e,q3⟩=>?_) hm
 subst e
 cases r3
 exact wpAny_truthy_bool ⟨H3,I3,q3⟩
noncomputable def zKT(K:Fg)(x:V)(H:Hp)(k:Bool):Prop:=
 match x with
 |.non=>k=false
 |.bl b=>k=b
 |.int i=>k=(i != 0)
 |.str y=>y.length<=sizeLine/\k=((y.length:Int) != 0)
 |.byt y=>y.size<=sizeLine/\k=((y.size:Int) != 0)
 |.ref p=>(∃xs,SqL K H p xs/\k = !xs.isEmpty)\/(∃xs,SqT K H p xs/\k = !xs.isEmpty)\/∃kvs,H p=some (.dK kvs)/\k = !kvs.isEmpty
 |_=>False
theorem oA{κ:Type}{kvs:List (κ×V)}{vs:List (κ×Value)}(r:KV kvs vs):(!vs.isEmpty) = !kvs.isEmpty:=by
 cases r<;>rfl
theorem bY{xs:List V}{its:List Value}(r:Vals xs its):(!its.toArray.isEmpty) = !xs.isEmpty:=by
 cases r<;>simp
theorem g9:(sizeLine:Nat)<2 ^ 63:=by rw[sizeLine_eq];decide
theorem zFL:zL6 X (fun x H Q=>∃k,zKT X.K x H k/\Q k H):=by
 intro pins s σ H x v Q I rx h
 obtain⟨k,e,q⟩:=h
 have hl:=g9
 have hs:sizeLine=16777216:=sizeLine_eq
 cases x with
 |non=>
  cases rx
  have e':k=false:=e
  subst e'
  exact truthy_none ⟨H,I,q⟩
 |bl b=>
  cases rx
  have e':k=b:=e
  subst e'
  exact wpAny_truthy_bool ⟨H,I,q⟩
 |int i=>
  obtain⟨t,rfl⟩:=rx
  have e':k=(i != 0):=e
  subst e'
  exact PySem.P.truthy_int ⟨H,I,q⟩
 |str y=>
  obtain⟨t,rfl⟩:=rx
  obtain⟨hy,e'⟩:y.length<=sizeLine/\k=((y.length:Int) != 0):=e
  subst e'
  exact PySem.P.truthy_str (by omega) ⟨H,I.tok _,q⟩
 |byt y=>
  obtain⟨t,rfl⟩:=rx
  obtain⟨hy,e'⟩:y.size<=sizeLine/\k=((y.size:Int) != 0):=e
  subst e'
  exact PySem.W.truthy_bytes (by omega) ⟨H,I.tok _,q⟩
 |ref p=>
  cases rx
  have e':(∃xs,SqL X.K H p xs/\k = !xs.isEmpty)\/(∃xs,SqT X.K H p xs/\k = !xs.isEmpty)\/∃kvs,H p=some (.dK kvs)/\k = !kvs.isEmpty:=e
  rcases e' with⟨xs,hx,e'⟩|⟨xs,hx,e'⟩|⟨kvs,hx,e'⟩
  ·subst e'
   obtain⟨its,r,pl,hz⟩:=I.list hx
   have hlen:=r.length
   exact wpAny_truthy_list pl.isList (by simp only[List.size_toArray];omega) ⟨H,I.tok _,by rw[bY r];exact q⟩
  ·subst e'
   obtain⟨its,r,pl,hz⟩:=I.tuple hx
   have hlen:=r.length
   exact truthy_tuple pl (by simp only[List.size_toArray];omega) ⟨H,I.tok _,by rw[bY r];exact q⟩
  ·subst e'
   obtain⟨hz,hS,vs,r,m⟩:kvs.length<=sizeLine/\(p == sysModules)=false/\∃vs,KV kvs vs/\s.heap.DictOf (yL X.prog X.w) p vs:=I.hok p _ hx
   have hlen:kvs.length=vs.length:=Paired.length r
   exact wpAny_truthy_dict hS m (by omega) ⟨H,I.tok _,by rw[oA r];exact q⟩
 |_=>exact(show False from e).elim
theorem dF(ha:PE X a ta)(he:∀whole,isTrue a X.env whole=(do let v <- whole;standAt a.pos;holding [v] (truthy v))):PT X a (fun σ H Q=>ta σ H fun x H'=>∃k,zKT X.K x H' k/\Q k H'):=by
 intro pins s σ H Q I h
 exact isTrue_plain (thn (ha pins s σ H _ I h) fun v s1 ⟨x,H1,I1,r1,q1⟩=>zFL pins s1 σ H1 x v Q I1 r1 q1) (he _)
theorem op_add_str:OpR X (binaryOp .Add) (fun x y H Q=>∃i j,x=.str i/\y=.str j/\i.length+j.length<=sizeLine/\Q (.str (i++j)) H):=by
 intro pins s σ H x y v u Q I rx ry h
 obtain⟨i,j,rfl,rfl,hz,q⟩:=h
 obtain⟨t,rfl⟩:=rx
 obtain⟨t',rfl⟩:=ry
 exact add_str (fun t' tk=>⟨.str (i++j),H,I.tok _,⟨_,rfl⟩,q⟩) hz
theorem rS{x:V}{us:List Value}(r:Vals [x] us):∃u,us=[u]/\RelV x u:=by
 cases r with
 |cons r1 r2=>cases r2;exact⟨_,rfl,r1⟩
theorem zIS{x y:V}{us:List Value}(r:Vals [x,y] us):∃u w',us=[u,w']/\RelV x u/\RelV y w':=by
 cases r with
 |cons r1 r2=>
  cases r2 with
  |cons r3 r4=>cases r4;exact⟨_,_,rfl,r1,r3⟩
theorem ZY(hc:X.calm=true):CallR X (.builtin "max") (fun xs H Q=>∃i j,xs=[.int i,.int j]/\Q (.int (if j > i then j else i)) H):=by
 intro pins s σ H xs us Q I r h
 obtain⟨i,j,rfl,q⟩:=h
 obtain⟨u,w',rfl,⟨t,rfl⟩,⟨t',rfl⟩⟩:=zIS r
 refine max_two_ints (I.ok.hd hc) fun h' tk k=>⟨_,H,I.kept k,?_,q⟩
 by_cases hj:j > i
 ·rw[if_pos hj,if_pos hj];exact⟨_,rfl⟩
 ·rw[if_neg hj,if_neg hj];exact⟨_,rfl⟩
end
end L2
namespace L2
open PySem PySem.Spec PyProof.Rows
structure ObjM(h:Heap)(x dx C:Addr)(mA:Str->Option Value):Prop where
 obj:h.get? x=some (PySem.W.instObj C dx)
 ns:h.Ns1 dx mA
 ne:dx≠x
theorem t9{h:Heap}{dx:Addr}{mA:Str->Option Value}(n:h.Ns1 dx mA):∃od,h.get? dx=some od/\∀name,PySem.W.lookIn name od=some (mA name):=by
 obtain⟨o,es,ep,ho,hd,hk,_,hm⟩:=n
 refine⟨o,ho,fun name=>?_⟩
 have e:=hm name
 unfold nsFind findBy at e
 rw[<-Array.find?_toList] at e
 unfold PySem.W.lookIn
 rw[hd]
 dsimp only
 split
 ·rename_i y q
  rw[q] at e
  exact congrArg some e
 ·rename_i q
  rw[q] at e
  have a:es.toList.any (·.refKey)=false:=by
   rw[List.any_eq_false]
   intro y hy
   obtain⟨z,t,hkey⟩:=hk y (Array.mem_toList_iff.mp hy)
   simp[DictEntry.refKey,hkey]
  have a':¬es.toList.any (·.refKey)=true:=by rw[a];exact Bool.false_ne_true
  rw[if_neg a']
  exact congrArg some e
theorem ObjM.look{h:Heap}{x dx C:Addr}{mA:Str->Option Value}(I:ObjM h x dx C mA):∃od,PySem.W.InstAt h x (PySem.W.instObj C dx) C (some od)/\∀name,PySem.W.lookIn name od=some (mA name):=
 let ⟨od,ho,hl⟩:=t9 I.ns
 ⟨od,⟨I.obj,rfl,rfl,ho⟩,hl⟩
section
variable{prog:Program}{w:World}{A:Around}{E:Value->Shared->Prop}{s:Shared}{K:Fg}{x dx C f:Addr}{mA:Str->Option Value}{name:Str}{v:Value}
theorem zDG{expr:Bool}{Q:Value->Shared->Prop}(X:K.In s.heap)(I:ObjM s.heap x dx C mA)(hg:PySem.W.plainGet K C name=true)(hh:PySem.W.hasDictIn K C=true)(ha:PySem.W.findIn K (.ref C) name=some none)(hv:mA name=some v)(hv':PySem.W.handedIn v=true)(h:Q v { s with toks:=s.toks+1 }):wpAny (model prog w) A (getAttr (.ref x) name expr) Q E s:=by
 obtain⟨od,J,hl⟩:=I.look
 exact PySem.W.get_value X J (PySem.W.plainGet_of hg).1 (PySem.W.findObj_own hh ha rfl (by rw[hl,hv])) hv' h
theorem JD{pl:Sem Bool}{Q:Value×List Value->Shared->Prop}(X:K.In s.heap)(I:ObjM s.heap x dx C mA)(hg:PySem.W.plainGet K C name=true)(hf:PySem.W.findIn K (.ref C) name=some (some (.ref f)))(ht:PySem.W.isFn K (.ref f)=true)(hv:mA name=none)(h:Q (.ref f,[.ref x]) s):wpAny (model prog w) A (getMethod (.ref x) name pl) Q E s:=by
 obtain⟨od,J,hl⟩:=I.look
 exact PySem.W.method_fn X J (PySem.W.plainGet_of hg).1 (PySem.W.plainGet_of hg).2 hf (beq_iff_eq.mp ht) (by show(PySem.W.lookIn name od).map (·.isSome)=some false;rw[hl,hv];rfl) h
theorem zBD{ns:List Str}{Q:Unit->Shared->Prop}(X:K.In s.heap)(I:ObjM s.heap x dx C mA)(hs:PySem.W.findIn K (.ref C) "__setattr__" = some (some (.builtin "object.__setattr__")))(hp:PySem.W.plainOver K C=true)(ht:PySem.W.takerIn K C name=some none)(hh:PySem.W.hasDictIn K C=true)(hw:PySem.Within mA ns)(hsz:ns.length<=sizeLine)(h:∀h',ObjM h' x dx C (fun y=>if y=name then some v else mA y)->Heap.SameBut dx s.heap h'->Q () { s with heap:=h',toks:=s.toks+2 }):wpAny (model prog w) A (setAttr (.ref x) name v) Q E s:=by
 obtain⟨od,J,hl⟩:=I.look
 refine PySem.W.set_plain X J hs (PySem.W.osa_open (s:={ s with toks:=s.toks+1 }) (r:=none) X J hp ht fun b=>?_)
 obtain⟨cd,hc,hd'⟩:=PySem.W.any_some hh
 have hx:s.heap.get? x=some ⟨.ref C,some dx,.plain,#[]⟩:=I.obj
 refine wpAny_bind (wpAny_pure (wpAny_bind (wpAny_bind (wpAny_loadPart hx (wpAny_bind (PySem.W.Looks.here (s:={ s with toks:=s.toks+1 }) (PySem.W.looks_clsIn X hc) ?_))))))
 rw[hd']
 refine wpAny_pure (a:=some dx) (wpAny_bind (wpAny_pure (wpAny_bind ?_)))
 refine wpAny_nsSet1 (s:={ s with toks:=s.toks+1 }) I.ns fun h' hn2 hs2=>?_
 obtain⟨oD,esD,epD,hoD,hdD,hcD⟩:=hn2.count (PySem.Within.cons name v hw)
 refine wpAny_bind (wpAny_lookBehind hoD (by rw[hdD];exact pastItsLine_dict (Nat.le_trans hcD (by rw[List.length_cons];omega))) ?_)
 exact wpAny_pure (h _ ⟨(hs2.2 _ (Ne.symm I.ne)).trans I.obj,hn2,I.ne⟩ hs2)
theorem Q0{R:Result->Shared->Prop}{vs:List Value}{kw:List (Str×Value)}(X:K.In s.heap)(hm:PySem.W.makesIn K C=true)(hi:PySem.W.findIn K (.ref C) "__init__" = some (some (.ref f)))(hf:PySem.W.typeIn K (.ref f)=some (.type "function"))(h:codeAny (model prog w) (A.under (.builtin "type.__call__" ⟨.ref C::vs,kw⟩)) (.call (.ref f) ⟨.ref (s.heap.objs.size+1)::vs,kw⟩) (PySem.W.InitBack (s.heap.objs.size+1) R)
   { s with heap:=(s.heap.push PySem.W.emptyDict).push (PySem.W.instObj C s.heap.objs.size) }):codeAny (model prog w) A (.call (.ref C) ⟨vs,kw⟩) R s:=by
 obtain⟨hh,g,d,t,os⟩:=s
 exact PySem.W.make_core (PySem.W.makes_of X hm) (PySem.W.looks_findIn X hi) (fun self=>PySem.W.bind_fn X self hf) (.inl rfl) h
end
noncomputable def rJ(f:Str)(v:V):List (Str×V)->List (Str×V)
 |[]=>[(f,v)]
 |(g,x)::r=>if g=f then (g,v)::r else (g,x)::rJ f v r
theorem vT(f g:Str)(v:V):∀fs:List (Str×V),(rJ f v fs).lookup g=if g=f then some v else fs.lookup g
 |[]=>by
  show List.lookup g [(f,v)]=_
  by_cases h:g=f
  ·have hb:(g == f)=true:=beq_iff_eq.mpr h
   simp only[List.lookup,hb,if_pos h]
  ·have hb:(g == f)=false:=beq_eq_false_iff_ne.mpr h
   simp only[List.lookup,hb,if_neg h]
 |(k,x)::r=>by
  have ih:=vT f g v r
  rw[show rJ f v ((k,x)::r)=(if k=f then (k,v)::r else (k,x)::rJ f v r) from rfl]
  by_cases hk:k=f
  ·rw[if_pos hk]
   by_cases h:g=k
   ·have hb:(g == k)=true:=beq_iff_eq.mpr h
    simp only[List.lookup,hb,if_pos (h.trans hk)]
   ·have hb:(g == k)=false:=beq_eq_false_iff_ne.mpr h
    simp only[List.lookup,hb,if_neg (fun e:g=f=>h (e.trans hk.symm))]
  ·rw[if_neg hk]
   by_cases h:g=k
   ·have hb:(g == k)=true:=beq_iff_eq.mpr h
    simp only[List.lookup,hb,if_neg (fun e:g=f=>hk (h.symm.trans e))]
   ·have hb:(g == k)=false:=beq_eq_false_iff_ne.mpr h
    simp only[List.lookup,hb]
    exact ih
theorem uW(f:Str)(v:V):∀fs:List (Str×V),f∈(rJ f v fs).map (·.1)/\∀g,g∈fs.map (·.1)->g∈(rJ f v fs).map (·.1)
 |[]=>⟨by simp[rJ],fun g h=>by simp at h⟩
 |(k,x)::r=>by
  obtain⟨i1,i2⟩:=uW f v r
  rw[show rJ f v ((k,x)::r)=(if k=f then (k,v)::r else (k,x)::rJ f v r) from rfl]
  by_cases hk:k=f
  ·rw[if_pos hk]
   subst hk
   exact⟨by simp,fun g h=>by simpa using h⟩
  ·rw[if_neg hk]
   refine⟨?_,fun g h=>?_⟩
   ·rw[List.map_cons]
    exact List.mem_cons_of_mem _ i1
   ·rw[List.map_cons] at h ⊢
    rcases List.mem_cons.mp h with e|e
    ·exact List.mem_cons.mpr (.inl e)
    ·exact List.mem_cons_of_mem _ (i2 g e)
theorem vV(f:Str)(v:V):∀fs:List (Str×V),(rJ f v fs).length<=fs.length+1
 |[]=>by simp[rJ]
 |(k,x)::r=>by
  have ih:=vV f v r
  rw[show rJ f v ((k,x)::r)=(if k=f then (k,v)::r else (k,x)::rJ f v r) from rfl]
  by_cases hk:k=f
  ·rw[if_pos hk,List.length_cons,List.length_cons];omega
  ·rw[if_neg hk,List.length_cons,List.length_cons];omega
theorem RelO.some_of{v:V}{o:Option Value}(r:RelO (some v) o):∃u,o=some u/\RelV v u:=by
 cases o with
 |none=>exact(show False from r).elim
 |some u=>exact⟨u,rfl,r⟩
theorem RelO.none_of{o:Option Value}(r:RelO none o):o=none:=by
 cases o with
 |none=>rfl
 |some u=>exact(show False from r).elim
theorem ZK{v:V}{u:Value}(r:RelV v u):PySem.W.handedIn u=true:=by
 cases v with
 |non=>cases (show u=Value.none from r);rfl
 |bl b=>cases (show u=Value.bool b from r);rfl
 |int i=>obtain⟨t,e⟩:=(show ∃t,u=Value.int i t from r);cases e;rfl
 |str x=>obtain⟨t,e⟩:=(show ∃t,u=Value.str x t from r);cases e;rfl
 |byt b=>obtain⟨t,e⟩:=(show ∃t,u=Value.bytes b t from r);cases e;rfl
 |flt b=>obtain⟨t,e⟩:=(show ∃t,u=Value.float b t from r);cases e;rfl
 |ref a=>cases (show u=Value.ref a from r);rfl
 |ty n=>cases (show u=Value.type n from r);rfl
section
variable{P:Program}{w:World}{H H':Hp}{h h':Heap}{a C dx:Addr}{fs fs':List (Str×V)}
theorem hJ(hok:HOk P w H h)(e:H a=some (.ins C dx fs)):∃mA,ObjM h a dx C mA/\(∀f,RelO (fs.lookup f) (mA f))/\PySem.Within mA (fs.map (·.1))/\fs.length<=1000/\H dx=some (.own a):=by
 obtain⟨d,z,ne,ob,mA,n,r,q⟩:=(show ObjOk P w H h a (.ins C dx fs) from hok a _ e)
 exact⟨mA,⟨ob,n,ne⟩,r,q,z,d⟩
end
structure Cls(K:Fg)(C:Addr):Prop where
 pg:PySem.W.plainGet K C Str.empty=true
 hd:PySem.W.hasDictIn K C=true
 po:PySem.W.plainOver K C=true
 sa:PySem.W.findIn K (.ref C) "__setattr__" = some (some (.builtin "object.__setattr__"))
theorem Cls.get{K:Fg}{C:Addr}(c:Cls K C)(f:Str):PySem.W.plainGet K C f=true:=c.pg
noncomputable def NoAttr(K:Fg)(C:Addr)(f:Str):Prop:=PySem.W.findIn K (.ref C) f=some none
theorem NoAttr.taker{K:Fg}{C:Addr}{f:Str}(n:NoAttr K C f):PySem.W.takerIn K C f=some none:=by
 unfold PySem.W.takerIn
 rw[show PySem.W.findIn K (.ref C) f=some none from n]
 rfl
structure Meth(K:Fg)(C:Addr)(m:Str)(f:Addr):Prop where
 at_:PySem.W.findIn K (.ref C) m=some (some (.ref f))
 fn:PySem.W.isFn K (.ref f)=true
 kp:PySem.W.keepIn K (.ref f)=true
section
variable{X:Cx}{pins:List (Addr×Obj)}{σ:St}{H:Hp}{s:Shared}{a C dx:Addr}{fs:List (Str×V)}{f:Str}{v:V}{A:Around}{E:Value->Shared->Prop}
theorem b3{b:Bool}{Q:Value->Shared->Prop}(I:Inv X pins σ H s)(e:H a=some (.ins C dx fs))(c:Cls X.K C)(n:NoAttr X.K C f)(l:fs.lookup f=some v)(h:∀u s',Inv X pins σ H s'->RelV v u->Q u s'):wpAny (model X.prog X.w) A (getAttr (.ref a) f b) Q E s:=by
 obtain⟨mA,O,r,_,_,_⟩:=hJ I.hok e
 obtain⟨u,hu,ru⟩:=RelO.some_of (v:=v) (o:=mA f) (by rw[<-l];exact r f)
 exact zDG I.kIn O (c.get f) c.hd n hu (ZK ru) (h u _ (I.tok _) ru)
theorem b0{m:Str}{g:Addr}{pl:Sem Bool}{Q:Value×List Value->Shared->Prop}(I:Inv X pins σ H s)(e:H a=some (.ins C dx fs))(c:Cls X.K C)(k:Meth X.K C m g)(l:fs.lookup m=none)(h:Q (.ref g,[.ref a]) s):wpAny (model X.prog X.w) A (getMethod (.ref a) m pl) Q E s:=by
 obtain⟨mA,O,r,_,_,_⟩:=hJ I.hok e
 have hn:mA m=none:=RelO.none_of (by rw[<-l];exact r m)
 exact JD I.kIn O (c.get m) k.at_ k.fn hn h
theorem bP{y:V}{u:Value}{Q:Unit->Shared->Prop}(I:Inv X pins σ H s)(e:H a=some (.ins C dx fs))(c:Cls X.K C)(n:NoAttr X.K C f)(hl:fs.length<1000)(ry:RelV y u)(h:∀s',Inv X pins σ (upd H a (.ins C dx (rJ f y fs))) s'->Q () s'):wpAny (model X.prog X.w) A (setAttr (.ref a) f u) Q E s:=by
 obtain⟨mA,O,r,wi,_,ho⟩:=hJ I.hok e
 have hz:(fs.map (·.1)).length<=sizeLine:=by rw[List.length_map,sizeLine_eq];omega
 refine zBD I.kIn O c.sa c.po n.taker c.hd wi hz fun h' O' sb=>h _ ?_
 have hd:∃o,h'.get? dx=some o:=let ⟨o,_,_,e',_⟩:=O'.ns;⟨o,e'⟩
 refine I.write (x:=a) (e:=dx) (by rw[e];exact True.intro) (.inr ho) (fun b q hb z=>(sb.2 b hb).trans z) hd ?_
 refine⟨by rw[zM O.ne];exact ho,?_,O.ne,O'.obj,_,O'.ns,fun g=>?_,fun g hg=>?_⟩
 ·have:=vV f y fs;omega
 ·show RelO ((rJ f y fs).lookup g) (if g=f then some u else mA g)
  rw[vT]
  by_cases q:g=f
  ·rw[if_pos q,if_pos q];exact ry
  ·rw[if_neg q,if_neg q];exact r g
 ·by_cases q:g=f
  ·rw[q];exact(uW f y fs).1
  ·refine(uW f y fs).2 g (wi g fun z=>hg ?_)
   show(if g=f then some u else mA g)=none
   rw[if_neg q];exact z
theorem Inv.made(I:Inv X pins σ H s):Inv X pins σ (upd (upd H s.heap.objs.size (.own (s.heap.objs.size+1))) (s.heap.objs.size+1) (.ins C s.heap.objs.size []))
  { s with heap:=(s.heap.push PySem.W.emptyDict).push (PySem.W.instObj C s.heap.objs.size) }:=by
 have e1:(s.heap.push PySem.W.emptyDict).get? s.heap.objs.size=some PySem.W.emptyDict:=Heap.get?_push_size s.heap rfl
 have e2:((s.heap.push PySem.W.emptyDict).push (PySem.W.instObj C s.heap.objs.size)).get? (s.heap.objs.size+1)=some (PySem.W.instObj C s.heap.objs.size):=by
  have:=Heap.get?_push_size (s.heap.push PySem.W.emptyDict) (o:=PySem.W.instObj C s.heap.objs.size) rfl
  rwa [Heap.size_push] at this
 have e3:(s.heap.push PySem.W.emptyDict).Ns s.heap.objs.size (fun _=>none):=⟨PySem.W.emptyDict,#[],_,e1,rfl,(fun e he=>absurd he (by simp)),fun _=>rfl⟩
 have I1:=I.laid (a:=s.heap.objs.size) (o:=.own (s.heap.objs.size+1)) (h':=s.heap.push PySem.W.emptyDict) (t':=s.toks) (fun b u q=>Heap.get?_push_of_some _ q) (Nat.le_refl _) ⟨_,e1⟩
 refine I1.laid (a:=s.heap.objs.size+1) (o:=.ins C s.heap.objs.size []) (t':=s.toks) (fun b u q=>Heap.get?_push_of_some _ q) (Nat.le_of_eq (Heap.size_push _ _)) ?_
 have ne:s.heap.objs.size≠s.heap.objs.size+1:=Nat.ne_of_lt (Nat.lt_succ_self _)
 refine⟨by rw[zM ne,zN],Nat.zero_le _,ne,e2,fun _=>none,(Heap.Ns1.of_empty e3).at fun o q=>Heap.get?_push_of_some _ q,fun _=>True.intro,fun y hy=>absurd rfl hy⟩
theorem zEK{prog:Program}{w:World}{env:Env}{e:Expr}{f:Str}{pos:Pos}{s:Shared}{Q:Value->Shared->Prop}(hb:attributeBase e f env (eval e env)=eval e env)(h:wpAny (model prog w) A (eval e env) (fun o s₁=>wpAny (model prog w) A (getAttr o f true) Q E s₁) E s):wpAny (model prog w) A (eval (.Attribute e f pos) env) Q E s:=
 Attribute_any_ h (by rw[arm_eval_Attribute,hb])
end
noncomputable def zKV(K:Fg)(ta:TE)(f:Str):TE:=fun σ H Q=>ta σ H fun x H1=>∃a C dx fs v,x=.ref a/\H1 a=some (.ins C dx fs)/\Cls K C/\NoAttr K C f/\fs.lookup f=some v/\Q v H1
noncomputable def zFT(K:Fg)(ta tv:TE)(f:Str):TS:=fun D σ H=>tv σ H fun y H1=>ta σ H1 fun x H2=>∃a C dx fs,x=.ref a/\H2 a=some (.ins C dx fs)/\Cls K C/\NoAttr K C f/\fs.length<1000 /\
 D.nx σ (upd H2 a (.ins C dx (rJ f y fs)))
noncomputable def zLH(X:Cx)(op:Operator)(rd:V->V->Hp->VK->Prop):Prop:=
 ∀(pins:List (Addr×Obj)) (s:Shared) (σ:St) (H:Hp) (x y:V) (u v:Value) (Q:VK),Inv X pins σ H s->RelV x u->RelV y v->rd x y H Q->wpAny (model X.prog X.w) X.A (inplaceOp op u v) (EP X pins σ Q) X.xe s
noncomputable def zBH(K:Fg)(ta tv:TE)(rd:V->V->Hp->VK->Prop)(f:Str):TS:=fun D σ H=>ta σ H fun x H1=>∃a C dx fs v,x=.ref a/\H1 a=some (.ins C dx fs)/\Cls K C/\NoAttr K C f/\fs.lookup f=some v /\
 tv σ H1 fun y H2=>rd v y H2 fun z H3=>∃dx' fs',H3 a=some (.ins C dx' fs')/\fs'.length<1000/\D.nx σ (upd H3 a (.ins C dx' (rJ f z fs')))
section
variable{X:Cx}{o e value:Expr}{f:Str}{pos pos' tpos:Pos}{ta tv:TE}
theorem uK(he:PE X e ta)(hb:attributeBase e f X.env (eval e X.env)=eval e X.env):PE X (.Attribute e f pos) (zKV X.K ta f):=by
 intro pins s σ H Q I h
 refine zEK hb (thn (he pins s σ H _ I h) fun u s1 ⟨x,H1,I1,rx,a,C,dx,fs,v,ex,ea,c,n,l,q⟩=>?_)
 subst ex
 obtain rfl:u=Value.ref a:=rx
 exact b3 I1 ea c n l fun u' s2 I2 ru=>⟨v,H1,I2,ru,q⟩
theorem cK(ha:PE X o ta)(hv:PE X value tv)(hs:swapsWith value (some (.Attribute o f pos')) pos.line X.env=pure false):PS X (.Assign [.Attribute o f pos'] value pos) (zFT X.K ta tv f):=by
 intro pins s σ H D I h
 refine plainObj_wpAny_Assign_Attribute (thn (hv pins s σ H _ I h) fun u s1 ⟨y,H1,I1,ry,q⟩=>thn (ha pins s1 σ H1 _ I1 q) fun ov s2 ⟨x,H2,I2,rx,a,C,dx,fs,ex,ea,c,n,l,q2⟩=>?_) hs
 subst ex
 obtain rfl:ov=Value.ref a:=rx
 exact bP I2 ea c n l ry fun s3 I3=>⟨σ,_,I3,q2⟩
theorem tJ{op:Operator}{rd:V->V->Hp->VK->Prop}(ha:PE X o ta)(hv:PE X value tv)(hop:zLH X op rd):PS X (.AugAssign (.Attribute o f tpos) op value pos) (zBH X.K ta tv rd f):=by
 intro pins s σ H D I h
 refine wpAny_AugAssign_AttributeAny (thn (ha pins s σ H _ I h) fun ov s1 ⟨x,H1,I1,rx,a,C,dx,fs,v,ex,ea,c,n,l,q⟩=>?_)
 subst ex
 obtain rfl:ov=Value.ref a:=rx
 refine b3 I1 ea c n l fun u s2 I2 ru=>thn (hv pins s2 σ H1 _ I2 q) fun w3 s3 ⟨y,H2,I3,ry,q3⟩=>thn (hop pins s3 σ H2 v y u w3 _ I3 ru ry q3) fun w4 s4 ⟨z,H3,I4,rz,dx',fs',ea',l',q4⟩=>?_
 exact bP I4 ea' c n l' rz fun s5 I5=>⟨σ,_,I5,q4⟩
noncomputable def zLV:V->V->Hp->VK->Prop:=fun x y H Q=>∃i j,x=.int i/\y=.int j/\Q (.int (i+j)) H
theorem zG6:zLH X .Add zLV:=by
 rintro pins s σ H x y u v Q I rx ry ⟨i,j,rfl,rfl,q⟩
 obtain⟨t,rfl⟩:=(show ∃t,u=Value.int i t from rx)
 obtain⟨t',rfl⟩:=(show ∃t',v=Value.int j t' from ry)
 exact PyProof.Rows.iadd_int ⟨.int (i+j),H,I.tok _,⟨_,rfl⟩,q⟩
end
section
variable{X:Cx}{pins:List (Addr×Obj)}{σ:St}{H:Hp}{s:Shared}{A:Around}{E:Value->Shared->Prop}{Q:Value->Shared->Prop}{c:Value}{b:Bool}
inductive TyOf (K:Fg) (H:Hp):V->Value->Prop where
 |non:TyOf K H .non (.type "NoneType")
 |bl (x:Bool):TyOf K H (.bl x) (.type "bool")
 |int (i:Int):TyOf K H (.int i) (.type "int")
 |str (x:Str):TyOf K H (.str x) (.type "str")
 |flt (x:UInt64):TyOf K H (.flt x) (.type "float")
 |lst {a:Addr} {xs:List V} (e:H a=some (.lst xs)):TyOf K H (.ref a) (.type "list")
 |frz {a:Addr} {o:Obj} {xs:List V} (e:H a=some (.frz o (.lst xs))):TyOf K H (.ref a) (.type "list")
 |tup {a:Addr} {xs:List V} (e:H a=some (.tup xs)):TyOf K H (.ref a) (.type "tuple")
 |dK {a:Addr} {kvs:List (Key×V)} (e:H a=some (.dK kvs)):TyOf K H (.ref a) (.type "dict")
 |dT {a:Addr} {kvs:List (List Key×V)} (e:H a=some (.dT kvs)):TyOf K H (.ref a) (.type "dict")
 |ins {a C dx:Addr} {fs:List (Str×V)} (e:H a=some (.ins C dx fs)) (cl:Cls K C) (ha:PySem.W.findIn K (.ref C) "__class__" = some (some (.builtin "object.__class__")))
   (hn:PySem.W.specialIn K (.builtin "object.__class__") "__get__" = some (some (.builtin "getset_descriptor.__get__"))) (htk:PySem.W.takesIn K (.builtin "object.__class__")=some true)
   (hm:PySem.W.mroIn K C (.type "object")=some true):TyOf K H (.ref a) (.ref C)
theorem kP{x:V}{u t:Value}(I:Inv X pins σ H s)(rx:RelV x u)(ty:TyOf X.K H x t)(e:PySem.W.kitOne X.K t c=some b)(h:∀tk,Q (.bool b) { s with toks:=tk }):wpAny (model X.prog X.w) A (call (.builtin "isinstance") [u,c]) Q E s:=by
 cases ty with
 |non=>cases (show u=Value.none from rx);exact PySem.W.kia_one PySem.W.kitx_none I.kIn True.intro e (fun z=>nomatch z) h
 |bl y=>cases (show u=Value.bool y from rx);exact PySem.W.kia_one PySem.W.kitx_bool I.kIn True.intro e (fun z=>nomatch z) h
 |int i=>obtain⟨t,q⟩:=(show ∃t,u=Value.int i t from rx);cases q;exact PySem.W.kia_one PySem.W.kitx_int I.kIn True.intro e (fun z=>nomatch z) h
 |str y=>obtain⟨t,q⟩:=(show ∃t,u=Value.str y t from rx);cases q;exact PySem.W.kia_one PySem.W.kitx_str I.kIn True.intro e (fun z=>nomatch z) h
 |flt y=>obtain⟨t,q⟩:=(show ∃t,u=Value.float y t from rx);cases q;exact PySem.W.kia_one PySem.W.kitx_float I.kIn True.intro e (fun z=>nomatch z) h
 |@lst a xs ea=>
  cases (show u=Value.ref a from rx)
  obtain⟨_,_,n,_,h1⟩:=(show ObjOk X.prog X.w H s.heap a (.lst xs) from I.hok a _ ea)
  exact PySem.W.kia_one PySem.W.kitx_list I.kIn ⟨_,h1,rfl⟩ e (fun z=>nomatch z) h
 |@frz a ob xs ea=>
  cases (show u=Value.ref a from rx)
  obtain⟨_,_,_,n,_,h1⟩:=(show ObjOk X.prog X.w H s.heap a (.frz ob (.lst xs)) from I.hok a _ ea)
  exact PySem.W.kia_one PySem.W.kitx_list I.kIn ⟨_,h1,rfl⟩ e (fun z=>nomatch z) h
 |@tup a xs ea=>
  cases (show u=Value.ref a from rx)
  obtain⟨_,_,_,p⟩:=(show ObjOk X.prog X.w H s.heap a (.tup xs) from I.hok a _ ea)
  obtain⟨o,h1,h2,_⟩:=p
  exact PySem.W.kia_one PySem.W.kitx_tuple I.kIn ⟨o,h1,h2⟩ e (fun z=>nomatch z) h
 |@dK a kvs ea=>
  cases (show u=Value.ref a from rx)
  obtain⟨_,_,vs,_,p⟩:=(show ObjOk X.prog X.w H s.heap a (.dK kvs) from I.hok a _ ea)
  obtain⟨o,es,ep,h1,h2,_⟩:=p
  exact PySem.W.kia_one PySem.W.kitx_dict I.kIn ⟨o,h1,h2.1⟩ e (fun z=>nomatch z) h
 |@dT a kvs ea=>
  cases (show u=Value.ref a from rx)
  obtain⟨_,_,xs,_,o,es,ep,h1,h2,_⟩:=(show ObjOk X.prog X.w H s.heap a (.dT kvs) from I.hok a _ ea)
  exact PySem.W.kia_one PySem.W.kitx_dict I.kIn ⟨o,h1,h2.1⟩ e (fun z=>nomatch z) h
 |@ins a C dx fs ea cl ha hn htk hm=>
  cases (show u=Value.ref a from rx)
  obtain⟨mA,O,_⟩:=hJ I.hok ea
  obtain⟨od,J,_⟩:=O.look
  exact PySem.W.kia_one (PySem.W.kitx_own (cl.get _) cl.hd ha hn htk hm) I.kIn J e (fun z=>nomatch z) h
end
end L2
namespace L2
open PySem PySem.Spec PyProof.Rows
structure Room(k:Nat)(A:Around):Prop where
 hd:A.handled=none
 dp:A.depth+3*k+5<recursionLimit
 un:A.units+16*k+200<cLine
 gd:A.guards=some []
theorem Room.mono{j k:Nat}{A:Around}(r:Room k A)(h:j<=k):Room j A:=⟨r.hd,by have:=r.dp;omega,by have:=r.un;omega,r.gd⟩
theorem Room.deeper{k:Nat}{A:Around}(r:Room (k+1) A)(env:Env):Room k (A.deeper env):=
 ⟨r.hd,by have:=r.dp;show A.depth+1+3*k+5<_;omega,by have:=r.un;show A.units+3+16*k+200<_;omega,r.gd⟩
theorem nV{A:Around}{C:Addr}{us:List Value}{kw:List (Str×Value)}:(A.under (.builtin "type.__call__" ⟨.ref C::us,kw⟩)).depth=A.depth+1:=by
 first|rfl|simp[Around.under,Code.weight,Code.isCreation,Code.isGuard,Code.isCaller,Code.frames,Code.isFrame,guardIds]
theorem nU{A:Around}{C:Addr}{us:List Value}{kw:List (Str×Value)}:(A.under (.builtin "type.__call__" ⟨.ref C::us,kw⟩)).units=A.units+1:=by
 first|rfl|simp[Around.under,Code.cUnits,Code.frames,Code.isFrame]
theorem Room.make{k:Nat}{A:Around}(r:Room (k+1) A)(C:Addr)(us:List Value)(kw:List (Str×Value)):Room k (A.under (.builtin "type.__call__" ⟨.ref C::us,kw⟩)):=
 ⟨r.hd,by have:=r.dp;rw[nV];omega,by have:=r.un;rw[nU];omega,by first|exact r.gd|(show PySem.pushGuards _ A.guards=_;rw[r.gd];rfl)⟩
theorem Room.depth{k:Nat}{A:Around}(r:Room k A):A.depth<recursionLimit:=by have:=r.dp;omega
theorem Room.units0{k:Nat}{A:Around}(r:Room k A):A.units<cLine:=by have:=r.un;omega
noncomputable def zEU:TA:=fun _ H Q=>Q [] H
noncomputable def Z8(ta:TE)(tr:TA):TA:=fun σ H Q=>ta σ H fun x H1=>tr σ H1 fun xs H2=>Q (x::xs) H2
section
variable{X:Cx}{e:Expr}{es:List Expr}{te:TE}{t:TA}{pos:Pos}
theorem xH:PA X [] zEU:=fun _ _ _ _ H Q I h=>Calls.spliced_nil ⟨[],H,I,.nil,h⟩
theorem yD(ha:PE X e te)(hr:PA X es t)(hs:starEach (e::es) X.env=(false,eval e X.env)::starEach es X.env:=by rfl):PA X (e::es) (Z8 te t):=by
 intro pos pins s σ H Q I h
 rw[hs]
 show wpAny _ _ (spliced ((false,eval e X.env)::backTo pos (starEach es X.env))) _ _ s
 refine Calls.spliced_cons (thn (ha pins s σ H _ I h) fun u s1 ⟨x,H1,I1,r1,q1⟩=>?_)
 exact thn (hr pos pins s1 σ H1 _ I1 q1) fun us s2 ⟨xs,H2,I2,r2,q2⟩=>⟨x::xs,H2,I2,.cons r1 r2,q2⟩
noncomputable def zLK(t:TA):TE:=fun σ H Q=>t σ H fun xs H1=>xs.length<=sizeLine/\∀p,H1 p=none->Q (.ref p) (upd H1 p (.tup xs))
noncomputable def zKF(t:TA):TE:=fun σ H Q=>t σ H fun xs H1=>xs.length<=sizeLine/\∀p,H1 p=none->Q (.ref p) (upd H1 p (.lst xs))
theorem zB2{x1}(h:PA X es t):PE X (.Tuple es x1 pos) (zLK t):=by
 intro pins s σ H Q I hq
 refine wpAny_Tuple_spliced (thn (h pos pins s σ H _ I hq) fun us s1 ⟨xs,H1,I1,r,z,q⟩=>⟨by rw[<-r.length];exact z,?_⟩)
 have hf:H1 s1.heap.objs.size=none:=I1.hok.fresh (Nat.le_refl _)
 refine⟨.ref s1.heap.objs.size,upd H1 s1.heap.objs.size (.tup xs),I1.laid (t':=s1.toks) (fun b u e=>Heap.get?_push_of_some _ e) (Nat.le_refl _) ?_,rfl,q _ hf⟩
 exact⟨z,us,r,⟨_,Heap.get?_push_size _ rfl,rfl,_,rfl⟩⟩
theorem QA(h:PA X es t):PE X (.List es pos) (zKF t):=by
 intro pins s σ H Q I hq
 refine wpAny_List_spliced (thn (h pos pins s σ H _ I hq) fun us s1 ⟨xs,H1,I1,r,z,q⟩=>⟨by rw[<-r.length];exact z,?_⟩)
 have hf:H1 s1.heap.objs.size=none:=I1.hok.fresh (Nat.le_refl _)
 refine⟨.ref s1.heap.objs.size,upd H1 s1.heap.objs.size (.lst xs),I1.laid (t':=s1.toks) (fun b u e=>Heap.get?_push_of_some _ e) (Nat.le_refl _) ?_,rfl,q _ hf⟩
 exact⟨z,us,0,r,Heap.get?_push_size _ rfl⟩
end
noncomputable abbrev Sp:=List V->Hp->VK->XK->Prop
noncomputable abbrev CXT:=List Env->Hp->Shared->XK->Value->Shared->Prop
structure Env0(P:Program)(w:World)(K:Fg)(mg:Str->Option Value)(base:Heap)(A:Around)(outer:List Env)(s:Shared)(H:Hp):Prop where
 frames:A.frames=some outer
 mod:Mod K mg base
 bs:∀b o,base.get? b=some o->s.heap.get? b=some o/\H b=none
 bsz:base.objs.size<=s.heap.objs.size
 funs:s.heap.FunFrames base outer
 frf:FrF K outer H
 hok:HOk P w H s.heap
 bare:AllBare s.gens
noncomputable def CE(outer:List Env)(P:Program)(w:World)(H:Hp)(s:Shared)(Q:VK)(u:Value)(s':Shared):Prop:=
 ∃v H',s'.os=s.os/\AllBare s'.gens/\Un (frs outer) [] H H' s.heap s'.heap/\HOk P w H' s'.heap/\RelV v u/\Q v H'
noncomputable def CR(CX:CXT)(outer:List Env)(P:Program)(w:World)(H:Hp)(s:Shared)(Q:VK)(E:XK)(r:Result)(s':Shared):Prop:=
 match r with
 |.ok (.ret u)=>CE outer P w H s Q u s'
 |.ok _=>False
 |.error e=>CX outer H s E e s'
structure FnOk(P:Program)(w:World)(K:Fg)(mg:Str->Option Value)(base:Heap)(CX:CXT)(k:Nat)(f:Addr)(fd:FuncData)(ps:List Str)(sp:Sp):Prop where
 len:∀vs H Q E,sp vs H Q E->vs.length=ps.length
 run:∀(A:Around) (outer:List Env) (s:Shared) (H:Hp) (args:Args) (us:List Value) (vs:List V) (Q:VK) (E:XK),Room k A->Env0 P w K mg base A outer s H->BindsTo s fd args (ps.zip us)->Vals vs us->sp vs H Q E ->
  codeAny (model P w) A (.call (.ref f) args) (CR CX outer P w H s Q E) s
theorem FnOk.imp{P:Program}{w:World}{K:Fg}{mg:Str->Option Value}{base:Heap}{CX:CXT}{k:Nat}{f:Addr}{fd:FuncData}{ps:List Str}{sp sp':Sp}(F:FnOk P w K mg base CX k f fd ps sp)(h:∀vs H Q E,sp' vs H Q E->sp vs H Q E):FnOk P w K mg base CX k f fd ps sp':=
 ⟨fun vs H Q E q=>F.len vs H Q E (h _ _ _ _ q),fun A outer s H args us vs Q E hr he hb hv hs=>F.run A outer s H args us vs Q E hr he hb hv (h _ _ _ _ hs)⟩
theorem Env0.make{P:Program}{w:World}{K:Fg}{mg:Str->Option Value}{base:Heap}{A:Around}{outer:List Env}{s:Shared}{H:Hp}(e:Env0 P w K mg base A outer s H)(C:Addr)(us:List Value)(kw:List (Str×Value)):Env0 P w K mg base (A.under (.builtin "type.__call__" ⟨.ref C::us,kw⟩)) outer s H:=⟨by first|exact e.frames|(simpa [Around.under,Code.envs,Code.isFrame,pushEnvs] using e.frames),e.mod,e.bs,e.bsz,e.funs,e.frf,e.hok,e.bare⟩
section
variable{X:Cx}{pins:List (Addr×Obj)}{σ:St}{H:Hp}{s s':Shared}
theorem Inv.env0(I:Inv X pins σ H s):Env0 X.prog X.w X.K X.mg X.base X.A X.stack s H:=
 ⟨I.ok.frames,I.ok.mod,I.bs,Nat.le_trans I.ok.bsz I.sz,I.stack,⟨I.stkFree,I.tabIn⟩,I.hok,I.bare⟩
theorem Inv.after{Q:VK}{u:Value}(I:Inv X pins σ H s)(h:CE X.stack X.prog X.w H s Q u s'):EP X pins σ Q u s':=by
 obtain⟨v,H',os,bare,un,hok,r,q⟩:=h
 obtain⟨hh,g,d,t,os'⟩:=s'
 obtain rfl:os'=s.os:=os
 exact⟨v,H',I.call (h':=hh) (g':=g) (d':=d) (t':=t) (ch:=[]) un hok bare (fun b z=>absurd z (by simp)),r,q⟩
end
noncomputable def zEV(sp:Sp)(dvs:List V)(E:XK)(t:TA):TE:=fun σ H Q=>t σ H fun vs H1=>sp (vs++dvs) H1 Q E
noncomputable def zHN(C:Addr)(m:Str)(sp:Sp)(dvs:List V)(E:XK)(ta:TE)(t:TA):TE:=fun σ H Q=>ta σ H fun x H1=>∃a dx fs,x=.ref a/\H1 a=some (.ins C dx fs)/\fs.lookup m=none /\
 t σ H1 fun vs H2=>sp (x::(vs++dvs)) H2 Q E
noncomputable def zI1(C:Addr)(sp:Sp)(dvs:List V)(E:XK)(t:TA):TE:=fun σ H Q=>t σ H fun vs H1=>∀x dx,H1 x=none->H1 dx=none->dx≠x ->
 sp (.ref x::(vs++dvs)) (upd (upd H1 dx (.own x)) x (.ins C dx [])) (fun v H2=>v=.non/\Q (.ref x) H2) E
noncomputable def Binds(K:Fg)(fd:FuncData)(ps:List Str)(ds:List Value):Prop:=
 ∀(s:Shared) (us:List Value),K.In s.heap->(us++ds).length=ps.length->BindsTo s fd ⟨us,[]⟩ (ps.zip (us++ds))
theorem Binds.all{K:Fg}{fd:FuncData}{ps:List Str}(h:∀us:List Value,us.length=ps.length->bindArgs fd ⟨us,[]⟩=pure (ps.zip us)):Binds K fd ps []:=fun s us _ hl=>by
 rw[List.append_nil] at hl ⊢
 exact .of_eq (h us hl)
noncomputable def bC(CX:CXT)(X:Cx)(E:XK):Prop:=∀(pins:List (Addr×Obj)) (σ:St) (H:Hp) (s:Shared) (e:Value) (s':Shared),Inv X pins σ H s->CX X.stack H s E e s'->X.xe e s'
section
variable{X:Cx}{CX:CXT}{k:Nat}{f C:Addr}{fd:FuncData}{ps:List Str}{sp:Sp}{dvs:List V}{ds:List Value}{E:XK}{x m:Str}{p pos apos:Pos}{e o:Expr}{es:List Expr}{ta:TE}{t:TA}
theorem nH{pins:List (Addr×Obj)}{σ:St}{H:Hp}{s:Shared}{Q:VK}{us:List Value}{vs:List V}(F:FnOk X.prog X.w X.K X.mg X.base CX k f fd ps sp)(hr:Room k X.A)(hb:Binds X.K fd ps ds)(hd:Vals dvs ds)(hx:bC CX X E)(I:Inv X pins σ H s)(r:Vals vs us)(h:sp (vs++dvs) H Q E):wpAny (model X.prog X.w) X.A (call (.ref f) us) (EP X pins σ Q) X.xe s:=by
 have r2:Vals (vs++dvs) (us++ds):=r.append hd
 have hl:(us++ds).length=ps.length:=by rw[<-r2.length];exact F.len _ _ _ _ h
 refine wpAny_call (codeAny_mono (F.run X.A X.stack s H ⟨us,[]⟩ (us++ds) (vs++dvs) Q E hr I.env0 (hb s us I.kIn hl) r2 h) fun r s' hq=>?_)
 cases r with
 |error e=>exact hx pins σ H s e s' I hq
 |ok fl=>
  cases fl with
  |ret u=>exact I.after hq
  |next=>exact False.elim hq
  |brk=>exact False.elim hq
  |cont=>exact False.elim hq
theorem vR(F:FnOk X.prog X.w X.K X.mg X.base CX k f fd ps sp)(hr:Room k X.A)(hg:Gl X x)(hm:X.mg x=some (.ref f))(hk:PySem.W.keepIn X.K (.ref f)=true)(hb:Binds X.K fd ps ds)(hd:Vals dvs ds)(hx:bC CX X E)(ha:PA X (e::es) t)(hdb:(x == ("__debug__" : Str))=false:=by decide)(he:starEach (e::es) X.env=(false,eval e X.env)::starEach es X.env:=by rfl)(hpl:(backTo pos (starEach es X.env)).any (·.1)=false:=by rfl):PE X (.Call (.Name x p) (e::es) [] pos) (zEV sp dvs E t):=by
 intro pins s σ H Q I h
 refine wpAny_Call_Name_kw (hE I hg hm ?_ hdb)
 refine PySem.W.callWith_K (h₀:=X.base) I.ok.mod.kin hk (thn (ha pos pins s σ H _ I h) fun us s1 ⟨vs,H1,I1,r,q⟩=>⟨I1.kIn,?_⟩) he hpl
 exact nH F hr hb hd hx I1 r q
theorem zB5{pl:Sem Bool}(he:PE X o ta)(c:Cls X.K C)(hm:Meth X.K C m f)(F:FnOk X.prog X.w X.K X.mg X.base CX k f fd ps sp)(hr:Room k X.A)(hb:Binds X.K fd ps ds)(hd:Vals dvs ds)(hx:bC CX X E)(ha:PA X (e::es) t)(hst:starEach (e::es) X.env=(false,eval e X.env)::starEach es X.env:=by rfl)(hpl:(backTo pos (starEach es X.env)).any (·.1)=false:=by rfl)(ht:eval (.Call (.Attribute o m apos) (e::es) [] pos) X.env=(do
   let ov <- eval o X.env
   standAt apos.atName
   let (f,first) <- holding [ov] (getMethod ov m pl)
   callWith pos f first (backTo pos (starEach (e::es) X.env)) (backToKw pos (keywordEach [] X.env))):=by rfl):PE X (.Call (.Attribute o m apos) (e::es) [] pos) (zHN C m sp dvs E ta t):=by
 intro pins s σ H Q I h
 refine PySem.W.methodCall_KW (pl:=pl) (thn (he pins s σ H _ I h) fun u s1 ⟨x,H1,I1,rx,a,dx,fs,ex,ea,l,q⟩=>?_) ht
 subst ex
 obtain rfl:u=Value.ref a:=rx
 refine b0 I1 ea c hm l ?_
 refine PySem.W.callWith_K (first:=[.ref a]) (h₀:=X.base) I.ok.mod.kin hm.kp (thn (ha pos pins s1 σ H1 _ I1 q) fun us s2 ⟨vs,H2,I2,r,q2⟩=>⟨I2.kIn,?_⟩) hst hpl
 exact nH (us:=.ref a::us) (vs:=.ref a::vs) F hr hb hd hx I2 (.cons rfl r) q2
theorem W9{pl:Sem Bool}(he:PE X o ta)(c:Cls X.K C)(hm:Meth X.K C m f)(F:FnOk X.prog X.w X.K X.mg X.base CX k f fd ps sp)(hr:Room k X.A)(hb:Binds X.K fd ps ds)(hd:Vals dvs ds)(hx:bC CX X E)(ht:eval (.Call (.Attribute o m apos) [] [] pos) X.env=(do
   let ov <- eval o X.env
   standAt apos.atName
   let (f,first) <- holding [ov] (getMethod ov m pl)
   callWith pos f first (backTo pos (starEach [] X.env)) (backToKw pos (keywordEach [] X.env))):=by rfl):PE X (.Call (.Attribute o m apos) [] [] pos) (zHN C m sp dvs E ta zEU):=by
 intro pins s σ H Q I h
 refine PySem.W.methodCall_KW (pl:=pl) (thn (he pins s σ H _ I h) fun u s1 ⟨x,H1,I1,rx,a,dx,fs,ex,ea,l,q⟩=>?_) ht
 subst ex
 obtain rfl:u=Value.ref a:=rx
 refine b0 I1 ea c hm l ?_
 exact PySem.W.callWith_K0 (first:=[.ref a]) I1.kIn hm.kp (nH (us:=[.ref a]) (vs:=[.ref a]) F hr hb hd hx I1 (.cons rfl .nil) q)
structure Mk(K:Fg)(C f:Addr):Prop where
 makes:PySem.W.makesIn K C=true
 init:PySem.W.findIn K (.ref C) "__init__" = some (some (.ref f))
 fn:PySem.W.isFn K (.ref f)=true
 kp:PySem.W.keepIn K (.ref C)=true
theorem WT{pins:List (Addr×Obj)}{σ:St}{H:Hp}{s:Shared}{Q:VK}{us:List Value}{vs:List V}(M:Mk X.K C f)(F:FnOk X.prog X.w X.K X.mg X.base CX k f fd ps sp)(hr:Room (k+1) X.A)(hb:Binds X.K fd ps ds)(hd:Vals dvs ds)(hx:bC CX X E)(I:Inv X pins σ H s)(r:Vals vs us)(h:∀x dx,H x=none->H dx=none->dx≠x->sp (.ref x::(vs++dvs)) (upd (upd H dx (.own x)) x (.ins C dx [])) (fun v H2=>v=.non/\Q (.ref x) H2) E):wpAny (model X.prog X.w) X.A (call (.ref C) us) (EP X pins σ Q) X.xe s:=by
 have hq:=h (s.heap.objs.size+1) s.heap.objs.size (I.hok.fresh (Nat.le_succ _)) (I.hok.fresh (Nat.le_refl _)) (Nat.ne_of_lt (Nat.lt_succ_self _))
 have I2:=Inv.made (C:=C) I
 have r2:Vals (V.ref (s.heap.objs.size+1)::(vs++dvs)) (Value.ref (s.heap.objs.size+1)::(us++ds)):=.cons rfl (r.append hd)
 have hl:(Value.ref (s.heap.objs.size+1)::us++ds).length=ps.length:=by
  have e:=r2.length
  rw[F.len _ _ _ _ hq] at e
  exact e.symm
 refine wpAny_call (Q0 (f:=f) I.kIn M.makes M.init (beq_iff_eq.mp M.fn) (codeAny_mono (F.run _ X.stack _ _ ⟨Value.ref (s.heap.objs.size+1)::us,[]⟩ (Value.ref (s.heap.objs.size+1)::(us++ds)) _ _ E (hr.make C us [])
  (I2.env0.make C us []) (hb _ (Value.ref (s.heap.objs.size+1)::us) I2.kIn hl) r2 hq) fun r s' hq'=>?_))
 cases r with
 |error e=>exact hx pins σ _ _ e s' I2 hq'
 |ok fl=>
  cases fl with
  |ret u=>
   obtain⟨v,H',I3,rv,ev,q3⟩:=I2.after hq'
   subst ev
   exact⟨rv,⟨V.ref (s.heap.objs.size+1),H',I3,rfl,q3⟩⟩
  |next=>exact False.elim hq'
  |brk=>exact False.elim hq'
  |cont=>exact False.elim hq'
theorem zB6(M:Mk X.K C f)(F:FnOk X.prog X.w X.K X.mg X.base CX k f fd ps sp)(hr:Room (k+1) X.A)(hg:Gl X x)(hm:X.mg x=some (.ref C))(hb:Binds X.K fd ps ds)(hd:Vals dvs ds)(hx:bC CX X E)(ha:PA X (e::es) t)(hdb:(x == ("__debug__" : Str))=false:=by decide)(he:starEach (e::es) X.env=(false,eval e X.env)::starEach es X.env:=by rfl)(hpl:(backTo pos (starEach es X.env)).any (·.1)=false:=by rfl):PE X (.Call (.Name x p) (e::es) [] pos) (zI1 C sp dvs E t):=by
 intro pins s σ H Q I h
 refine wpAny_Call_Name_kw (hE I hg hm ?_ hdb)
 refine PySem.W.callWith_K (h₀:=X.base) I.ok.mod.kin M.kp (thn (ha pos pins s σ H _ I h) fun us s1 ⟨vs,H1,I1,r,q⟩=>⟨I1.kIn,?_⟩) he hpl
 exact WT M F hr hb hd hx I1 r q
end
section
variable{X:Cx}{CX:CXT}{k:Nat}{f C:Addr}{fd:FuncData}{ps ks:List Str}{sp:Sp}{E:XK}{x m:Str}{p pos apos kpos:Pos}{e o:Expr}{es:List Expr}{kws:List Keyword}{te ta:TE}{t tk:TA}{nm:Option Str}
variable{g:List Value->List Value->List Value}{gV:List V->List V->List V}
end
structure FnScope(N P:List Str)(sc:Scope):Prop where
 kind:sc.kind=.function
 co:sc.isCoroutine=false
 gen:sc.isGenerator=false
 nd:N.Nodup
 pre:N.take P.length=P
 par:∀x∈P,sc.names.lookup x=some .local\/sc.names.lookup x=some .cell
 nofree:∀y∈sc.names,y.2≠.free
theorem mP{kindOf:Str->Option NameKind}{x:Str}:∀{binds:List (Str×Value)} {m:Str->Option Value},(∀v,(x,v)∉binds)->bindL kindOf binds m x=m x
 |[],_,_=>rfl
 |(n,v)::r,m,h=>by
  unfold bindL
  rw[mP fun w hw=>h w (List.mem_cons_of_mem _ hw)]
  split
  ·have:x≠n:=by rintro rfl;exact h v List.mem_cons_self
   simp[this]
  ·rfl
theorem mR{kindOf:Str->Option NameKind}{x:Str}:∀{binds:List (Str×Value)} {m:Str->Option Value},(∀v,(x,v)∉binds)->bindC kindOf binds m x=m x
 |[],_,_=>rfl
 |(n,v)::r,m,h=>by
  unfold bindC
  rw[mR fun w hw=>h w (List.mem_cons_of_mem _ hw)]
  split
  ·rfl
  ·have:x≠n:=by rintro rfl;exact h v List.mem_cons_self
   simp[this]
theorem mQ{kindOf:Str->Option NameKind}{x:Str}{v:Value}:∀{P:List Str} {vs:List Value} {i:Nat} {m:Str->Option Value},P.Nodup->P[i]?=some x->vs[i]?=some v->kindOf x=some .local ->
  bindL kindOf (P.zip vs) m x=some v
 |[],_,_,_,_,h,_,_=>by simp at h
 |_::_,[],_,_,_,_,h,_=>by simp at h
 |p::P,w::vs,0,m,nd,h1,h2,hk=>by
  simp at h1 h2;subst h1;subst h2
  show bindL kindOf ((p,w)::P.zip vs) m p=_
  unfold bindL
  rw[mP fun v hv=>(List.nodup_cons.mp nd).1 (List.of_mem_zip hv).1,if_pos hk]
  simp
 |p::P,w::vs,i+1,m,nd,h1,h2,hk=>by
  show bindL kindOf ((p,w)::P.zip vs) m x=_
  unfold bindL
  exact mQ (i:=i) (List.nodup_cons.mp nd).2 (by simpa using h1) (by simpa using h2) hk
theorem mS{kindOf:Str->Option NameKind}{x:Str}{v:Value}:∀{P:List Str} {vs:List Value} {i:Nat} {m:Str->Option Value},P.Nodup->P[i]?=some x->vs[i]?=some v->kindOf x≠some .local ->
  bindC kindOf (P.zip vs) m x=some v
 |[],_,_,_,_,h,_,_=>by simp at h
 |_::_,[],_,_,_,_,h,_=>by simp at h
 |p::P,w::vs,0,m,nd,h1,h2,hk=>by
  simp at h1 h2;subst h1;subst h2
  show bindC kindOf ((p,w)::P.zip vs) m p=_
  unfold bindC
  rw[mR fun v hv=>(List.nodup_cons.mp nd).1 (List.of_mem_zip hv).1,if_neg hk]
  simp
 |p::P,w::vs,i+1,m,nd,h1,h2,hk=>by
  show bindC kindOf ((p,w)::P.zip vs) m x=_
  unfold bindC
  exact mS (i:=i) (List.nodup_cons.mp nd).2 (by simpa using h1) (by simpa using h2) hk
noncomputable def start(N:List Str)(vs:List V):St:=vs.map some++List.replicate (N.length-vs.length) none
noncomputable def zER(CX:CXT)(P:Program)(w:World)(K:Fg)(mg:Str->Option Value)(base:Heap)(N:List Str)(qual:Str)(scope:Scope)(f:Addr)(cd:Value)(A:Around)(outer:List Env)(s:Shared)(H:Hp)(E:XK):Cx where
 prog:=P
 w:=w
 K:=K
 mg:=mg
 base:=base
 A:=A.deeper (envOfC qual scope s.heap.objs.size f cd)
 N:=N
 s₀:=s
 H₀:=H
 env:=envOfC qual scope s.heap.objs.size f cd
 outer:=outer
 stack:=envOfC qual scope s.heap.objs.size f cd::outer
 ex:=[]
 calm:=true
 fn:=fun _=>true
 pn:=[]
 xe:=fun e s'=>wpAny (model P w) (A.deeper (envOfC qual scope s.heap.objs.size f cd)) (leaving (envOfC qual scope s.heap.objs.size f cd) e) (fun _ s''=>CX outer H s E e s'') (fun e' s''=>CX outer H s E e' s'') s'
theorem rA{sc:Scope}{n:Nat}{x:Str}(h:sc.names.lookup x=some .cell):∃c,(cellsFrom n sc.names []).lookup x=some c:=by
 have q:=PySem.W.cellsFrom_some sc.names n [] (.inl h)
 exact Option.isSome_iff_exists.mp q
theorem ZI{CX:CXT}{P:Program}{w:World}{K:Fg}{mg:Str->Option Value}{base:Heap}{N ps:List Str}{qual:Str}{scope:Scope}{f:Addr}{cd:Value}{A:Around}{outer:List Env}{s s1:Shared}{H:Hp}{E:XK}{us:List Value}{vs:List V}(S:FnScope N ps scope)(hd:A.handled=none)(e0:Env0 P w K mg base A outer s H)(hl:vs.length=ps.length)(r:Vals vs us)(x:InCallC s s.heap.objs.size (bindL (envOfC qual scope s.heap.objs.size f cd).kindOf (ps.zip us) fun _=>none) (cellsFrom (s.heap.objs.size+1) scope.names []) (bindC (envOfC qual scope s.heap.objs.size f cd).kindOf (ps.zip us) fun _=>none) s1):Inv (zER CX P w K mg base N qual scope f cd A outer s H E) [] (start N vs) H s1:=by
 have hpl:ps.length<=N.length:=by have:=congrArg List.length S.pre;rw[List.length_take] at this;omega
 obtain⟨h1,tk,rfl,hk⟩:=x.done
 have noA:∀b:Addr,b∉(zER CX P w K mg base N qual scope f cd A outer s H E).ex:=fun b z=>absurd (show b∈([]:List Addr) from z) (by simp)
 refine⟨⟨e0.mod,S.kind,rfl,rfl,Nat.le_refl _,fun y z c h1 h2=>?_,fun y hy=>?_,fun y c _ h=>?_,fun _=>hd,Around.frames_deeper e0.frames,.inr ⟨rfl,rfl⟩,fun b z=>absurd z (noA b),e0.bs,e0.bsz,fun b _ _=>noA b,fun b z=>absurd z (noA b),e0.funs,e0.frf⟩,
  rfl,e0.bare,Un.kept hk,⟨_,x.toInCall.ns,fun i y v h1 h2 h3=>?_⟩,fun y c h=>⟨_,x.cell y c h⟩,e0.hok.fresh (Nat.le_refl _),fun y c h=>?_,fun p hp=>absurd (show p∈([]:List (Addr×Obj)) from hp) (by simp),e0.hok.kept hk,?_⟩
 ·exact name_of_addr x.apart (PySem.mem_of_lookup h1) (PySem.mem_of_lookup h2)
 ·have hy:scope.names.lookup y=some .cell\/scope.names.lookup y=some .free:=hy
  rcases hy with hy|hy
  ·exact rA hy
  ·exact absurd rfl (S.nofree _ (PySem.mem_of_lookup hy))
 ·exact Nat.le_of_lt (x.above y c (PySem.mem_of_lookup h))
 ·have hi:i<vs.length:=by
   unfold start at h2
   by_cases hi:i<vs.length
   ·exact hi
   ·rw[List.getElem?_append_right (by simpa using hi)] at h2
    rw[List.getElem?_replicate] at h2
    split at h2<;>cases h2
  have ha:vs[i]?=some v:=by
   unfold start at h2
   rw[List.getElem?_append_left (by simpa using hi),List.getElem?_map] at h2
   cases e:vs[i]? with
   |none=>rw[e] at h2;cases h2
   |some a=>rw[e] at h2;cases h2;rfl
  obtain⟨u,hu,rv⟩:=r.get ha
  have hp:ps[i]?=some y:=by
   rw[<-S.pre,List.getElem?_take_of_lt (by omega)];exact h1
  have ndP:ps.Nodup:=by rw[<-S.pre];exact S.nd.sublist (List.take_sublist _ _)
  refine⟨u,rv,?_⟩
  rcases S.par y (List.mem_of_getElem? hp) with k|k
  ·exact .inl ⟨k,mQ ndP hp hu k⟩
  ·obtain⟨c,e⟩:=rA (n:=s.heap.objs.size+1) k
   refine .inr ⟨.inl k,c,e,?_⟩
   have q:=x.cell y c e
   rw[mS ndP hp hu (by show scope.names.lookup y≠_;rw[k];decide)] at q
   exact q
 ·exact e0.hok.fresh (Nat.le_of_lt (x.above y c (PySem.mem_of_lookup h)))
 ·unfold start
  show _=N.length
  rw[List.length_append,List.length_map,List.length_replicate]
  omega
theorem zH8{CX:CXT}{P:Program}{w:World}{K:Fg}{mg:Str->Option Value}{base:Heap}{k:Nat}{f:Addr}{name qual:Str}{params:Arguments}{body:List Stmt}{scope:Scope}{dV kV doc pm cdv ct oc:Value}{an od:Option Addr}{osl:Array (Option Value)}{N ps:List Str}{sp:Sp}(lk:K.lookup f=some ⟨oc,od,.func (PySem.W.fnOf name qual params body scope dV kV doc pm an cdv ct),osl⟩)(hcd:PySem.W.codeIn K cdv qual=true)(S:FnScope N ps scope)(len:∀vs H Q E,sp vs H Q E->vs.length=ps.length)(hbody:∀(A:Around) (outer:List Env) (s:Shared) (H:Hp) (vs:List V) (Q:VK) (E:XK),Room k (A.deeper (envOfC qual scope s.heap.objs.size f cdv))->sp vs H Q E ->
   ∃t,PSs (zER CX P w K mg base N qual scope f cdv A outer s H E) body t/\t { nx:=fun _ H'=>Q .non H',rt:=Q } (start N vs) H):FnOk P w K mg base CX (k+1) f (PySem.W.fnOf name qual params body scope dV kV doc pm an cdv ct) ps sp:=by
 refine⟨len,fun A outer s H args us vs Q E hr e0 hb r hsp=>?_⟩
 have hl:=len _ _ _ _ hsp
 have KX:K.In s.heap:=e0.mod.kin.keeps fun b o e=>(e0.bs b o e).1
 have lim:s.heap.NoLimit:=e0.mod.nolimit.keeps fun b o e=>(e0.bs b o e).1
 have hkind:∀y∈ps.zip us,scope.names.lookup y.1=some .local\/(scope.names.lookup y.1=some .cell/\((cellsFrom (s.heap.objs.size+1) scope.names []).lookup y.1).isSome=true):=fun⟨n,v⟩ hy=>by
  rcases S.par n (List.of_mem_zip hy).1 with q|q
  ·exact .inl q
  ·exact .inr ⟨q,PySem.W.cellsFrom_some _ _ _ (.inl q)⟩
 refine codeAny_call_function hr.depth (KX _ _ lk) rfl S.co S.gen rfl (PySem.W.codeRec_of KX hcd) (hb _ _ _ _ ?_)
 refine wpAny_newFunctionEnv_cells S.kind hkind fun env he s1 x=>?_
 subst he
 refine⟨lim.keeps x.toInCall.keep,codeAny_func ?_⟩
 obtain⟨t,ht,hq⟩:=hbody A outer s H vs Q E (hr.deeper _) hsp
 have I:Inv (zER CX P w K mg base N qual scope f cdv A outer s H E) [] (start N vs) H s1:=ZI S hr.hd e0 hl r x
 refine wpAny_mono (ht [] s1 (start N vs) H _ I hq) (fun fl s' hs=>?_) fun e s' hs=>hs
 have fin:∀{σ':St} {H':Hp} {v:V} {u:Value},Inv (zER CX P w K mg base N qual scope f cdv A outer s H E) [] σ' H' s'->RelV v u->Q v H'->CE outer P w H s Q u s':=
  fun {σ' H' v u} J rv q=>⟨v,H',J.os,J.bare,J.base,J.hok,rv,q⟩
 cases fl with
 |ret u=>
  obtain⟨v,σ',H',J,rv,q⟩:=hs
  exact fin J rv q
 |next=>
  obtain⟨σ',H',J,q⟩:=hs
  exact fin (v:=V.non) (u:=Value.none) J rfl q
 |brk=>
  obtain⟨_,_,_,q⟩:=hs
  exact False.elim q
 |cont=>
  obtain⟨_,_,_,q⟩:=hs
  exact False.elim q
end L2
namespace L2
open PySem PySem.Spec PyProof.Rows
section
variable{X:Cx}{x:Str}{p pos:Pos}{e:Expr}{es:List Expr}{t:TA}{id T:String}{r:List V->Hp->VK->Prop}
noncomputable def tCB(r:List V->Hp->VK->Prop)(t:TA):TE:=fun σ H Q=>t σ H fun vs H1=>r vs H1 Q
theorem jN(hc:CallR X (.builtin id) r)(hg:Gl X x)(hm:X.mg x=none)(hv:bootBuiltins x=some (.builtin id))(ha:PA X (e::es) t)(hn:x ≠ "__name__" := by decide)(hdb:(x == ("__debug__" : Str))=false:=by decide)(he:starEach (e::es) X.env=(false,eval e X.env)::starEach es X.env:=by rfl)(hpl:(backTo pos (starEach es X.env)).any (·.1)=false:=by rfl):PE X (.Call (.Name x p) (e::es) [] pos) (tCB r t):=by
 intro pins s σ H Q I h
 refine wpAny_Call_Name_kw (cT I hg hm hv ?_ hn hdb)
 exact PyProof.Rows.callWith_builtin1 (thn (ha pos pins s σ H _ I h) fun us s1 ⟨vs,H1,I1,r1,q1⟩=>hc pins s1 σ H1 vs us Q I1 r1 q1) he hpl
theorem kI(hc:CallR X (.type T) r)(hg:Gl X x)(hm:X.mg x=none)(hv:bootBuiltins x=some (.type T))(ha:PA X (e::es) t)(hn:x ≠ "__name__" := by decide)(hdb:(x == ("__debug__" : Str))=false:=by decide)(he:starEach (e::es) X.env=(false,eval e X.env)::starEach es X.env:=by rfl)(hpl:(backTo pos (starEach es X.env)).any (·.1)=false:=by rfl):PE X (.Call (.Name x p) (e::es) [] pos) (tCB r t):=by
 intro pins s σ H Q I h
 refine wpAny_Call_Name_kw (cT I hg hm hv ?_ hn hdb)
 exact PyProof.Rows.callWith_type1 (thn (ha pos pins s σ H _ I h) fun us s1 ⟨vs,H1,I1,r1,q1⟩=>hc pins s1 σ H1 vs us Q I1 r1 q1) he hpl
end
end L2
namespace HT
open PySem PyProof.Rows
section
open PySem.SeqAt
open PySem.AutoSeq1 (wpAny_loadPart')
open PySem.MeetsSeq PySem.MeetsSeq2 PySem.MeetsSeq3
end
section
variable{prog:Program}{w:World}{A:Around}{E:Value->Shared->Prop}{s:Shared}
theorem cat_tup{t b:Addr}{vs ws:List Value}{Q:Value->Shared->Prop}(ht:IsTup s.heap t vs.toArray)(hb:IsTup s.heap b ws.toArray)(hv:vs≠[])(h1:ws=[]->Q (.ref t) s)(h2:ws≠[]->Q (.ref s.heap.objs.size) { s with heap:=s.heap.push { cls:=.type "tuple",data:=.seq (vs++ws).toArray } })(hsz:vs.length+ws.length<=sizeLine):wpAny (model prog w) A (binaryOp .Add (.ref t) (.ref b)) Q E s:=by
 obtain⟨⟨cls,dd,data,sl⟩,ho,hc,n,hd⟩:=id ht
 obtain⟨⟨cls2,dd2,data2,sl2⟩,ho2,hc2,n2,hd2⟩:=id hb
 simp only at hc hd hc2 hd2
 subst hc hd hc2 hd2
 have e:vs.toArray++ws.toArray=(vs++ws).toArray:=by simp
 by_cases hw:ws=[]
 ·exact concat_meets ⟨_,ho,rfl⟩ ⟨_,ho2,rfl⟩ noFill_tuple_add seq_tuple_add PySem.F.slot_tuple_add PySem.F.entry_tuple_add (PySem.F.args_tuple_add_2 _ _)
   (tuple_addW1 t b vs.toArray ws.toArray n n2 dd dd2 sl sl2 (by simpa using hv) (by simp[hw])) ⟨ho,ho2,h1 hw⟩
 ·refine concat_meets ⟨_,ho,rfl⟩ ⟨_,ho2,rfl⟩ noFill_tuple_add seq_tuple_add PySem.F.slot_tuple_add PySem.F.entry_tuple_add (PySem.F.args_tuple_add_2 _ _)
   (tuple_addW2 t b vs.toArray ws.toArray n n2 dd dd2 sl sl2 (by simpa using hv) (by simpa using hw) (by rw[List.size_toArray,List.size_toArray];exact hsz)) ⟨ho,ho2,?_⟩
  rw[e]
  exact h2 hw
noncomputable def sIx(n d:Nat):Option Int->Nat
 |none=>d
 |some v=>if v<0 then (v+(n:Int)).toNat else min v.toNat n
theorem sIx_none(n d:Nat):sIx n d none=d:=rfl
theorem sIx_nat(n d k:Nat):sIx n d (some (k:Int))=min k n:=by
 show(if (k:Int)<0 then ((k:Int)+(n:Int)).toNat else min (k:Int).toNat n)=min k n
 rw[if_neg (by omega),Int.toNat_natCast]
theorem sIx_le(n d:Nat)(hd:d<=n)(o:Option Int):sIx n d o<=n:=by
 cases o with
 |none=>exact hd
 |some v=>
  show(if v<0 then (v+(n:Int)).toNat else min v.toNat n)<=n
  by_cases hv:v<0
  ·rw[if_pos hv];omega
  ·rw[if_neg hv];exact Nat.min_le_right _ _
theorem X2(v:Int)(n d:Nat):(if v<0 then max (v+(n:Int)) 0 else min v (n:Int))=((sIx n d (some v):Nat):Int):=by
 show(if v<0 then max (v+(n:Int)) 0 else min v (n:Int))=(((if v<0 then (v+(n:Int)).toNat else min v.toNat n):Nat):Int)
 by_cases hv:v<0
 ·simp only[if_pos hv];omega
 ·simp only[if_neg hv];omega
theorem oN(lo hi:Option Int)(n:Nat):Builtin.Slice.sliceAdjust lo hi 1 (n:Int)=(((sIx n 0 lo:Nat):Int),((sIx n n hi:Nat):Int)):=by
 have h1:¬((1:Int)<0):=by omega
 unfold Builtin.Slice.sliceAdjust
 simp only[h1,if_false]
 refine Prod.ext ?_ ?_
 ·cases lo with
  |none=>rfl
  |some v=>exact X2 v n 0
 ·cases hi with
  |none=>rfl
  |some v=>exact X2 v n n
theorem nI(i j:Nat):Builtin.Slice.slicePlaces (i:Int) (j:Int) 1=j-i:=by
 unfold Builtin.Slice.slicePlaces
 have h1:(1:Int) > 0:=by omega
 simp only[h1,if_true,Int.ediv_one]
 split<;>omega
theorem bO{v:Value}{o:Option Int}{Q:Option Int->Shared->Prop}(p:IsPart v o)(h:Q o s):wpAny (model prog w) A (Builtin.Slice.slicePartIndex v) Q E s:=by
 cases p with
 |none=>exact slicePart_none h
 |int i t=>exact slicePart_int h
theorem jZ{sl:Addr}{vl vu:Value}{lo hi:Option Int}{n:Nat}{Q:Int×Int×Nat->Shared->Prop}(hs:s.heap.IsSliceOf sl vl vu .none)(pl:IsPart vl lo)(pu:IsPart vu hi)(h:Q (((sIx n 0 lo:Nat):Int),1,sIx n n hi-sIx n 0 lo) s):wpAny (model prog w) A (Builtin.Slice.sliceApplied (.ref sl) (pure (n:Int))) Q E s:=by
 obtain⟨os,hos,hcs,hds⟩:=id hs
 unfold Builtin.Slice.sliceApplied Builtin.Slice.sliceFields
 refine wpAny_bind (wpAny_bind (wpAny_field hos hds (x:=vl) rfl (wpAny_bind (wpAny_field hos hds (x:=vu) rfl (wpAny_bind (wpAny_field hos hds (x:=.none) rfl (wpAny_pure ?_)))))))
 refine wpAny_bind (slicePart_none ?_)
 show wpAny _ _ (if ((1:Int) == 0)=true then _ else _) _ _ s
 rw[if_neg (by decide)]
 refine wpAny_bind (bO pl (wpAny_bind (bO pu (wpAny_bind (wpAny_pure ?_)))))
 show wpAny _ _ (match Builtin.Slice.sliceAdjust lo hi 1 (n:Int) with|(lo,hi)=>pure (lo,(1:Int),Builtin.Slice.slicePlaces lo hi 1)) _ _ s
 rw[oN lo hi n]
 show wpAny _ _ (pure (((sIx n 0 lo:Nat):Int),(1:Int),Builtin.Slice.slicePlaces ((sIx n 0 lo:Nat):Int) ((sIx n n hi:Nat):Int) 1)) _ _ s
 rw[nI]
 exact wpAny_pure h
theorem W6(xs:Array Value)(i k:Nat):((List.range k).filterMap fun(m:Nat)=>xs[((i:Int)+(m:Int)*1).toNat]?).toArray=((xs.toList.drop i).take k).toArray:=by
 have e:(fun(m:Nat)=>xs[((i:Int)+(m:Int)*1).toNat]?)=fun m=>xs[i+m]?:=by
  funext m
  have:((i:Int)+(m:Int)*1).toNat=i+m:=by omega
  rw[this]
 rw[e]
 have:=pick_run xs i k
 rw[List.filterMap_map] at this
 have e2:((fun x=>xs[x]?) ∘ fun x=>i+x)=fun m=>xs[i+m]?:=rfl
 rw[e2] at this
 rw[this]
theorem getItem_tuple_cut{t sl:Addr}{items:Array Value}{vl vu:Value}{lo hi:Option Int}{Q:Value->Shared->Prop}(ht:IsTup s.heap t items)(hs:s.heap.IsSliceOf sl vl vu .none)(pl:IsPart vl lo)(pu:IsPart vu hi)(hw:¬(sIx items.size 0 lo=0/\sIx items.size items.size hi=items.size))(h:Q (.ref s.heap.objs.size) { s with heap:=s.heap.push { cls:=.type "tuple",data:=.seq ((items.toList.drop (sIx items.size 0 lo)).take (sIx items.size items.size hi-sIx items.size 0 lo)).toArray } })(hsz:items.size<=sizeLine):wpAny (model prog w) A (getItem (.ref t) (.ref sl)) Q E s:=by
 have htake:sizeOk (.seq ((items.toList.drop (sIx items.size 0 lo)).take (sIx items.size items.size hi-sIx items.size 0 lo)).toArray):=by
  show((items.toList.drop (sIx items.size 0 lo)).take (sIx items.size items.size hi-sIx items.size 0 lo)).toArray.size<=sizeLine
  rw[List.size_toArray,List.length_take,List.length_drop,Array.length_toList]
  omega
 have hj:sIx items.size items.size hi<=items.size:=sIx_le _ _ (Nat.le_refl _) hi
 obtain⟨os,hos,hcs,hds⟩:=id hs
 have hTs:s.TypeIs (.ref sl) "slice" := ⟨os,hos,hcs⟩
 unfold getItem
 try with_reducible refine wpAny_holding ?_
 first|refine wpAny_bind (wpAny_pure ?_)|skip
 refine wpAny_bind (wpAny_sequenceKey ht.typeIs (by decide) ?_)
 refine wpAny_bind (wpAny_callSpecial?_slot (name:=Str.ofString "__getitem__") ht.typeIs PyProof.Rows.slot_tuple_getitem
  (wpAny_call_entry PyProof.Rows.slot_tuple_getitem ht.typeIs entry_tuple_getitem ?_ (args_tuple_getitem _ _)))
 show wpAny _ _ (Builtin.Tuple.tupleItemsOf (.ref t) >>= _) _ _ s
 refine wpAny_bind (tupleItemsOf_ ht ?_)
 refine wpAny_bind (wpAny_typeOf hTs ?_)
 rw[if_pos (by decide)]
 refine wpAny_bind (jZ hs pl pu ?_)
 have hno:¬((((sIx items.size 0 lo:Nat):Int) == 0 && (1:Int) == 1 && (sIx items.size items.size hi-sIx items.size 0 lo) == items.size)=true):=by
  intro q
  rw[Bool.and_eq_true,Bool.and_eq_true] at q
  have q1:((sIx items.size 0 lo:Nat):Int)=0:=eq_of_beq q.1.1
  have q2:sIx items.size items.size hi-sIx items.size 0 lo=items.size:=eq_of_beq q.2
  exact hw ⟨by omega,by omega⟩
 show wpAny _ _ (if (((sIx items.size 0 lo:Nat):Int) == 0 && (1:Int) == 1 && (sIx items.size items.size hi-sIx items.size 0 lo) == items.size)=true then _ else _) _ _ s
 rw[if_neg hno,W6]
 first
  |exact wpAny_bind (m:=Builtin.Tuple.tupleExact _) (wpAny_newObj_type (wpAny_pure ⟨_,rfl,wpAny_pure h⟩) htake)
  |exact wpAny_bind (m:=Builtin.Tuple.tupleExact _) (wpAny_newObj_type (wpAny_bind (wpAny_pure (wpAny_pure ⟨_,rfl,wpAny_pure h⟩))) htake)
  |exact wpAny_bind (wpAny_bind (m:=Builtin.Tuple.tupleExact _) (wpAny_newObj_type (wpAny_pure (wpAny_pure ⟨_,rfl,wpAny_pure h⟩)) htake))
  |exact wpAny_bind (wpAny_bind (m:=Builtin.Tuple.tupleExact _) (wpAny_newObj_type (wpAny_pure ⟨_,rfl,wpAny_pure h⟩) htake))
end
end HT
namespace L2
open PySem PySem.Spec PyProof.Rows
noncomputable abbrev TO:=St->Hp->(Option Int->Hp->Prop)->Prop
noncomputable def PO(X:Cx)(e:Option Expr)(t:TO):Prop:=
 ∀(pins:List (Addr×Obj)) (s:Shared) (σ:St) (H:Hp) (Q:Option Int->Hp->Prop),Inv X pins σ H s->t σ H Q ->
  wpAny (model X.prog X.w) X.A (evalPart e X.env) (fun u s'=>∃o H',Inv X pins σ H' s'/\IsPart u o/\Q o H') X.xe s
noncomputable def zA6:TO:=fun _ H Q=>Q none H
noncomputable def zIY(t:TE):TO:=fun σ H Q=>t σ H fun x H1=>∃i,x=.int i/\Q (some i) H1
section
variable{X:Cx}{e:Expr}{te:TE}{lo hi:Option Expr}{tl th:TO}{pos p2:Pos}
theorem zBW:PO X none zA6:=by
 intro pins s σ H Q I h
 rw[evalPart_none]
 exact wpAny_pure ⟨none,H,I,.none,h⟩
theorem zBV(h:PE X e te):PO X (some e) (zIY te):=by
 intro pins s σ H Q I hw
 rw[evalPart_some]
 refine thn (h pins s σ H _ I hw) fun u s1 ⟨x,H1,I1,r1,q1⟩=>?_
 obtain⟨i,rfl,q⟩:=q1
 obtain⟨t,rfl⟩:=r1
 exact⟨some i,H1,I1,.int i t,q⟩
noncomputable def SlR(X:Cx)(r:V->Option Int->Option Int->Hp->VK->Prop):Prop:=
 ∀(pins:List (Addr×Obj)) (s:Shared) (σ:St) (H:Hp) (x:V) (v vl vu:Value) (lo hi:Option Int) (sl:Addr) (Q:VK),Inv X pins σ H s->RelV x v->s.heap.IsSliceOf sl vl vu .none->IsPart vl lo->IsPart vu hi->r x lo hi H Q ->
  ∃T id,typeLookup (.type T) "__getitem__" = pure (some (.builtin id))/\s.TypeIs v T/\wpAny (model X.prog X.w) X.A (getItem v (.ref sl)) (EP X pins σ Q) X.xe s
theorem SlR.or{r r':V->Option Int->Option Int->Hp->VK->Prop}(h:SlR X r)(h':SlR X r'):SlR X (fun x lo hi H Q=>r x lo hi H Q\/r' x lo hi H Q):=by
 intro pins s σ H x v vl vu lo hi sl Q I rx hs pl pu q
 rcases q with q|q
 ·exact h pins s σ H x v vl vu lo hi sl Q I rx hs pl pu q
 ·exact h' pins s σ H x v vl vu lo hi sl Q I rx hs pl pu q
noncomputable def tSl(r:V->Option Int->Option Int->Hp->VK->Prop)(te:TE)(tl th:TO):TE:=fun σ H Q=>te σ H fun x H1=>tl σ H1 fun l H2=>th σ H2 fun u H3=>r x l u H3 Q
theorem W8{r:V->Option Int->Option Int->Hp->VK->Prop}(hr:SlR X r)(he:PE X e te)(hl:PO X lo tl)(hu:PO X hi th):PE X (.Subscript e (.Slice lo hi none p2) pos) (tSl r te tl th):=by
 intro pins s σ H Q I h
 refine Subscript_ (thn (he pins s σ H _ I h) fun v s1 ⟨x,H1,I1,r1,q1⟩=>?_)
 refine wpAny_Slice (thn (hl pins s1 σ H1 _ I1 q1) fun vl s2 ⟨l,H2,I2,pl,q2⟩=>thn (hu pins s2 σ H2 _ I2 q2) fun vu s3 ⟨u,H3,I3,pu,q3⟩=>?_)
 rw[evalPart_none]
 refine wpAny_pure ?_
 have I4:Inv X pins σ H3 { s3 with heap:=s3.heap.push { cls:=.type "slice",data:=.fields #[vl,vu,.none] } }:=I3.kept (t':=s3.toks) fun b ob q=>Heap.get?_push_of_some _ q
 obtain⟨T,id,hT,ht,hg⟩:=hr pins { s3 with heap:=s3.heap.push { cls:=.type "slice",data:=.fields #[vl,vu,.none] } } σ H3 x v vl vu l u s3.heap.objs.size Q I4 r1 (Heap.IsSliceOf.new ..) pl pu q3
 show wpAny (model X.prog X.w) X.A (subscriptTail e (.Slice lo hi none p2) v (.ref s3.heap.objs.size)) (EP X pins σ Q) X.xe { s3 with heap:=s3.heap.push { cls:=.type "slice",data:=.fields #[vl,vu,.none] } }
 exact tail_any (ops:=[.ref s3.heap.objs.size,v]) ht hT hg (by with_unfolding_all rfl)
noncomputable def zFA(xs:List V)(lo hi:Option Int):List V:=(xs.drop (HT.sIx xs.length 0 lo)).take (HT.sIx xs.length xs.length hi-HT.sIx xs.length 0 lo)
theorem vY(xs:List V)(lo hi:Option Int):(zFA xs lo hi).length<=xs.length:=by
 unfold zFA
 rw[List.length_take,List.length_drop]
 omega
noncomputable def zKX(K:Fg):V->Option Int->Option Int->Hp->VK->Prop:=fun x lo hi H Q=>∃a xs,x=.ref a/\SqT K H a xs /\
 ¬(HT.sIx xs.length 0 lo=0/\HT.sIx xs.length xs.length hi=xs.length)/\∀p,H p=none->Q (.ref p) (upd H p (.tup (zFA xs lo hi)))
theorem sl_tup:SlR X (zKX X.K):=by
 intro pins s σ H x v vl vu lo hi sl Q I rx hs pl pu h
 obtain⟨a,xs,rfl,hx,hw,q⟩:=h
 cases rx
 obtain⟨its,r,ht,hz⟩:=I.tuple hx
 have hlen:its.toArray.size=xs.length:=by rw[List.size_toArray];exact r.length.symm
 refine⟨"tuple",_,PyProof.Rows.slot_tuple_getitem.lookup,ht.typeIs,?_⟩
 refine HT.getItem_tuple_cut ht hs pl pu (by rw[hlen];exact hw) ?_ (by rw[hlen];exact hz)
 rw[hlen]
 refine⟨.ref s.heap.objs.size,_,I.laid (t':=s.toks) (o:=.tup (zFA xs lo hi)) (fun b ob q=>Heap.get?_push_of_some _ q) (Nat.le_refl _) ?_,rfl,q _ (I.hok.fresh (Nat.le_refl _))⟩
 exact⟨Nat.le_trans (vY xs lo hi) hz,_,(r.drop (HT.sIx xs.length 0 lo)).take (HT.sIx xs.length xs.length hi-HT.sIx xs.length 0 lo),IsTup.new _ _⟩
noncomputable def zHS(K:Fg):R2:=fun x y H Q=>∃a b xs ys,x=.ref a/\y=.ref b/\SqT K H a xs/\SqT K H b ys/\xs≠[]/\xs.length+ys.length<=sizeLine /\
 (ys=[]->Q (.ref a) H)/\(ys≠[]->∀p,H p=none->Q (.ref p) (upd H p (.tup (xs++ys))))
theorem Vals.nil_iff{xs:List V}{us:List Value}(r:Vals xs us):us=[]↔xs=[]:=by
 cases r with
 |nil=>simp
 |cons _ _=>simp
theorem zCB:OpR X (binaryOp .Add) (zHS X.K):=by
 intro pins s σ H x y v u Q I rx ry h
 obtain⟨a,b,xs,ys,rfl,rfl,ha,hb,hx,hz,q1,q2⟩:=h
 cases rx
 cases ry
 obtain⟨its,r1,p1,_⟩:=I.tuple ha
 obtain⟨its2,r2,p2,_⟩:=I.tuple hb
 refine HT.cat_tup p1 p2 (fun z=>hx (r1.nil_iff.mp z)) (fun z=>⟨.ref a,H,I,rfl,q1 (r2.nil_iff.mp z)⟩) (fun z=>?_) (by rw[<-r1.length,<-r2.length];exact hz)
 refine⟨.ref s.heap.objs.size,_,I.laid (t':=s.toks) (o:=.tup (xs++ys)) (fun b ob q=>Heap.get?_push_of_some _ q) (Nat.le_refl _) ?_,rfl,q2 (fun w=>z (r2.nil_iff.mpr w)) _ (I.hok.fresh (Nat.le_refl _))⟩
 exact⟨by rw[List.length_append];exact hz,_,r1.append r2,IsTup.new _ _⟩
end
end L2
namespace L2
open PySem PySem.Spec PyProof.Rows
noncomputable def ixN(n:Nat)(i:Int):Option Nat:=if 0<=i then (if i<n then some i.toNat else none) else if -(n:Int)<=i then some (i+n).toNat else none
noncomputable def atI{α:Type}(xs:List α)(i:Int):Option α:=(ixN xs.length i).bind fun j=>xs[j]?
theorem zDD{n:Nat}{i:Int}{j:Nat}(h:ixN n i=some j):seqIndex? i n=some j/\j<n/\-(n:Int)<=i/\i<n:=by
 unfold ixN at h
 by_cases h0:0<=i
 ·rw[if_pos h0] at h
  by_cases h1:i<n
  ·rw[if_pos h1] at h
   have e:i.toNat=j:=Option.some.inj h
   exact⟨by rw[seqIndex_of h0 h1,e],by omega,by omega,h1⟩
  ·rw[if_neg h1] at h;cases h
 ·rw[if_neg h0] at h
  by_cases h1 : -(n:Int)<=i
  ·rw[if_pos h1] at h
   have e:(i+n).toNat=j:=Option.some.inj h
   exact⟨by rw[seqIndex_neg (by omega) h1,e],by omega,h1,by omega⟩
  ·rw[if_neg h1] at h;cases h
theorem rC{α:Type}{xs:List α}{i:Int}{v:α}(h:atI xs i=some v):∃j,seqIndex? i xs.length=some j/\xs[j]?=some v/\j<xs.length/\-(xs.length:Int)<=i/\i<xs.length:=by
 unfold atI at h
 cases e:ixN xs.length i with
 |none=>rw[e] at h;cases h
 |some j=>
  rw[e] at h
  obtain⟨h1,h2,h3,h4⟩:=zDD e
  exact⟨j,h1,h,h2,h3,h4⟩
theorem xG{α:Type}{xs:List α}{j:Nat}{v:α}(h:xs[j]?=some v):atI xs (j:Int)=some v:=by
 have hj:j<xs.length:=(List.getElem?_eq_some_iff.mp h).1
 have e:ixN xs.length (j:Int)=some j:=by
  unfold ixN
  rw[if_pos (by omega),if_pos (by omega)];simp
 unfold atI;rw[e];exact h
noncomputable def v4(b:Expr):Prop:=∀o i,subscripted b false o i=operate [o,i] (getItem o i)
noncomputable def IxR(X:Cx)(r:R2):Prop:=
 ∀(value slice:Expr) (pins:List (Addr×Obj)) (s:Shared) (σ:St) (H:Hp) (x y:V) (v u:Value) (Q:VK),Inv X pins σ H s->RelV x v->RelV y u->r x y H Q ->
  subscripted slice false v u=operate [v,u] (getItem v u)->wpAny (model X.prog X.w) X.A (subscriptTail value slice v u) (EP X pins σ Q) X.xe s
noncomputable def MtR(X:Cx)(id:String)(r:V->List V->Hp->VK->Prop):Prop:=
 ∀(pins:List (Addr×Obj)) (s:Shared) (σ:St) (H:Hp) (x:V) (xs:List V) (v:Value) (us:List Value) (Q:VK),Inv X pins σ H s->RelV x v->Vals xs us->r x xs H Q ->
  wpAny (model X.prog X.w) X.A (call (.builtin id) (v::us)) (EP X pins σ Q) X.xe s
section
variable{X:Cx}{a b:Expr}{ta tb:TE}{pos:Pos}
theorem IxR.or{r r':R2}(h:IxR X r)(h':IxR X r'):IxR X (fun x y H Q=>r x y H Q\/r' x y H Q):=by
 intro value slice pins s σ H x y v u Q I rx ry q hs
 rcases q with q|q
 ·exact h value slice pins s σ H x y v u Q I rx ry q hs
 ·exact h' value slice pins s σ H x y v u Q I rx ry q hs
theorem zB7{r:R2}(hr:IxR X r)(ha:PE X a ta)(hb:PE X b tb)(hs:v4 b):PE X (.Subscript a b pos) (tOp r ta tb):=by
 intro pins s σ H Q I h
 exact Subscript_ (zKS ha hb I h fun v u s2 x y H2 I2 rx ry q=>hr a b pins s2 σ H2 x y v u Q I2 rx ry q (hs _ _))
noncomputable def zK5(K:Fg):R2:=fun x y H Q=>∃p xs i v,x=.ref p/\y=.int i/\SqL K H p xs/\atI xs i=some v/\Q v H
noncomputable def zK3(K:Fg):R2:=fun x y H Q=>∃p xs i v,x=.ref p/\y=.int i/\SqT K H p xs/\atI xs i=some v/\Q v H
noncomputable def zK4:R2:=fun x y H Q=>∃z i c,x=.str z/\y=.int i/\z.length<=sizeLine/\atI z.cps.toList i=some c/\Q (.str ⟨#[c]⟩) H
theorem ix_list:IxR X (zK5 X.K):=by
 intro value slice pins s σ H x y v u Q I rx ry h hs
 obtain⟨p,xs,i,z,rfl,rfl,hq,he,q⟩:=h
 cases rx
 obtain⟨t,rfl⟩:=ry
 obtain⟨its,r,pl,hz⟩:=I.list hq
 obtain⟨j,h1,h2,h3,h4,h5⟩:=rC he
 obtain⟨w,ew,rw'⟩:=r.get h2
 have hl:=r.length
 have hn:=g9
 have fin:EP X pins σ Q w s:=⟨z,H,I,rw',q⟩
 by_cases h0:0<=i
 ·have hj:i.toNat=j:=by
   rw[seqIndex_of h0 h5] at h1
   exact Option.some.inj h1
  exact item_listR pl.isList h0 (by omega) (by rw[hj];simpa using ew) fin hs
 ·have hj:(i+(its.toArray.size:Int)).toNat=j:=by
   rw[seqIndex_neg (by omega) h4] at h1
   rw[List.size_toArray,<-hl]
   exact Option.some.inj h1
  exact subscriptTail_builtinR (x:=w) pl.isList.typeIs slot_list_getitem.lookup
   (wpAny_getItem_list_neg (Q:=fun r s'=>r=w/\EP X pins σ Q r s') pl.isList (by omega) (by rw[List.size_toArray]<;>omega) (by omega) (by rw[hj];simpa using ew) ⟨rfl,fin⟩) hs
theorem ix_tup:IxR X (zK3 X.K):=by
 intro value slice pins s σ H x y v u Q I rx ry h hs
 obtain⟨p,xs,i,z,rfl,rfl,hq,he,q⟩:=h
 cases rx
 obtain⟨t,rfl⟩:=ry
 obtain⟨its,r,pl,hz⟩:=I.tuple hq
 obtain⟨j,h1,h2,h3,h4,h5⟩:=rC he
 obtain⟨w,ew,rw'⟩:=r.get h2
 have hl:=r.length
 have hn:=g9
 have fin:EP X pins σ Q w s:=⟨z,H,I,rw',q⟩
 exact subscriptTail_builtinR (x:=w) pl.typeIs slot_tuple_getitem.lookup
  (getItem_tuple (j:=j) (Q:=fun r s'=>r=w/\EP X pins σ Q r s') pl (by omega) (by omega) (by rw[List.size_toArray,<-hl];exact h1) (by simpa using ew) ⟨rfl,fin⟩) hs
theorem zG2:IxR X zK4:=by
 intro value slice pins s σ H x y v u Q I rx ry h hs
 obtain⟨z,i,c,rfl,rfl,hz,he,q⟩:=h
 obtain⟨t,rfl⟩:=rx
 obtain⟨t',rfl⟩:=ry
 obtain⟨j,h1,h2,h3,h4,h5⟩:=rC he
 have hl:z.cps.toList.length=z.length:=by simp[Str.length]
 rw[hl] at h1 h4 h5
 have hn:=g9
 exact tail_any (typeIs_str s z t) slot_str_getitem.lookup (getItem_str (c:=c) (by
  have e1:decide (i < -(2 ^ 63:Int))=false:=decide_eq_false (by omega)
  have e2:decide (i ≥ 2 ^ 63)=false:=decide_eq_false (by omega)
  rw[e1,e2,Bool.or_false]) (by rw[h1];simpa using h2) ⟨.str ⟨#[c]⟩,H,I.tok _,⟨_,rfl⟩,q⟩) hs
noncomputable def rIx(K:Fg):R2:=fun x y H Q=>zK5 K x y H Q\/zK3 K x y H Q\/zK4 x y H Q
theorem zDC:IxR X (rIx X.K):=ix_list.or (ix_tup.or zG2)
theorem cG(lo hi:Option Int)(n:Nat):(sliceBounds lo hi none n).1=((HT.sIx n 0 lo:Nat):Int)/\(sliceBounds lo hi none n).2.1=((HT.sIx n n hi:Nat):Int)/\(sliceBounds lo hi none n).2.2=1:=by
 refine⟨?_,?_,rfl⟩
 ·cases lo with
  |none=>simp[sliceBounds,HT.sIx]
  |some i=>
   simp only[sliceBounds,HT.sIx,Option.getD_none,show(1:Int) > 0 by decide,if_true]
   by_cases h:i<0
   ·simp only[h,if_true]<;>omega
   ·simp only[h,if_false]<;>omega
 ·cases hi with
  |none=>simp[sliceBounds,HT.sIx]
  |some i=>
   simp only[sliceBounds,HT.sIx,Option.getD_none,show(1:Int) > 0 by decide,if_true]
   by_cases h:i<0
   ·simp only[h,if_true]<;>omega
   ·simp only[h,if_false]<;>omega
theorem uC(its:List Value)(lo hi:Option Int):slicePick its.toArray lo hi none=((its.drop (HT.sIx its.length 0 lo)).take (HT.sIx its.length its.length hi-HT.sIx its.length 0 lo)).toArray:=by
 obtain⟨h1,h2,h3⟩:=cG lo hi its.toArray.size
 unfold slicePick
 rw[h1,h2,h3]
 simp only[sliceRange_one,pick_run,List.size_toArray]<;>rfl
noncomputable def zKZ(K:Fg):V->Option Int->Option Int->Hp->VK->Prop:=fun x lo hi H Q=>∃a xs,x=.ref a/\SqL K H a xs/\∀p,H p=none->Q (.ref p) (upd H p (.lst (zFA xs lo hi)))
theorem sl_list:SlR X (zKZ X.K):=by
 intro pins s σ H x v vl vu lo hi sl Q I rx hs pl pu h
 obtain⟨a,xs,rfl,hx,q⟩:=h
 cases rx
 obtain⟨its,r,ht,hz⟩:=I.list hx
 have hlen:=r.length
 refine⟨"list",_,slot_list_getitem.lookup,ht.isList.typeIs,?_⟩
 refine wpAny_getItem_list_slice ht.isList hs pl pu .none (by simp) ?_ (by rw[List.size_toArray]<;>omega)
 rw[uC,<-hlen]
 refine⟨.ref s.heap.objs.size,_,I.laid (t':=s.toks) (o:=.lst (zFA xs lo hi)) (fun b ob q=>Heap.get?_push_of_some _ q) (Nat.le_refl _) ?_,rfl,q _ (I.hok.fresh (Nat.le_refl _))⟩
 exact⟨Nat.le_trans (vY xs lo hi) hz,_,0,(r.drop (HT.sIx xs.length 0 lo)).take (HT.sIx xs.length xs.length hi-HT.sIx xs.length 0 lo),Heap.get?_push_size _ rfl⟩
noncomputable def b5:V->Bool
 |.non=>true
 |.bl _=>true
 |.int _=>true
 |.str _=>true
 |_=>false
noncomputable def eqV:V->V->Bool
 |.non,.non=>true
 |.bl a,.bl b=>a == b
 |.bl a,.int b=>(if a then 1 else 0) == b
 |.int a,.bl b=>a == (if b then 1 else 0)
 |.int a,.int b=>a == b
 |.str a,.str b=>a == b
 |_,_=>false
theorem zHA{A:Around}{s:Shared}{y x:V}{u v:Value}(ry:RelV y u)(rx:RelV x v)(fy:b5 y=true)(fx:b5 x=true):SeqAt.EqAt A s u v (eqV y x):=by
 cases y with
 |non=>
  cases ry
  cases x with
  |non=>cases rx;exact SeqAt.EqAt.same _
  |bl b=>cases rx;exact SeqAt.EqAt.none_bool b
  |int b=>obtain⟨t,rfl⟩:=rx;exact SeqAt.EqAt.none_int b t
  |str b=>obtain⟨t,rfl⟩:=rx;exact SeqAt.EqAt.none_str b t
  |_=>exact absurd (show false=true from fx) Bool.false_ne_true
 |bl a=>
  cases ry
  cases x with
  |non=>cases rx;exact SeqAt.EqAt.bool_none a
  |bl b=>cases rx;exact SeqAt.EqAt.bool_bool a b
  |int b=>obtain⟨t,rfl⟩:=rx;exact SeqAt.EqAt.bool_int a b t
  |str b=>obtain⟨t,rfl⟩:=rx;exact SeqAt.EqAt.bool_str a b t
  |_=>exact absurd (show false=true from fx) Bool.false_ne_true
 |int a=>
  obtain⟨t',rfl⟩:=ry
  cases x with
  |non=>cases rx;exact SeqAt.EqAt.int_none a t'
  |bl b=>cases rx;exact SeqAt.EqAt.int_bool a t' b
  |int b=>obtain⟨t,rfl⟩:=rx;exact SeqAt.EqAt.int_int a t' b t
  |str b=>obtain⟨t,rfl⟩:=rx;exact SeqAt.EqAt.int_str a t' b t
  |_=>exact absurd (show false=true from fx) Bool.false_ne_true
 |str a=>
  obtain⟨t',rfl⟩:=ry
  cases x with
  |non=>cases rx;exact SeqAt.EqAt.str_none a t'
  |bl b=>cases rx;exact SeqAt.EqAt.str_bool a t' b
  |int b=>obtain⟨t,rfl⟩:=rx;exact SeqAt.EqAt.str_int a t' b t
  |str b=>obtain⟨t,rfl⟩:=rx;exact SeqAt.EqAt.str_str a t' b t
  |_=>exact absurd (show false=true from fx) Bool.false_ne_true
 |_=>exact absurd (show false=true from fy) Bool.false_ne_true
theorem call_len_seq:CallR X (.builtin "len") (fun xs H Q=>∃p ys,xs=[.ref p]/\(SqL X.K H p ys\/SqT X.K H p ys)/\Q (.int ys.length) H):=by
 intro pins s σ H xs us Q I r h
 obtain⟨p,ys,rfl,hq,q⟩:=h
 obtain⟨u,rfl,rx⟩:=rS r
 cases rx
 have hn:=g9
 rcases hq with hq|hq
 ·obtain⟨its,r',pl,hz⟩:=I.list hq
  have hlen:=r'.length
  exact Calls.call_len_list pl.isList (by simp only[List.size_toArray]<;>omega) ⟨.int ys.length,H,I.tok _,⟨s.toks+1,by rw[List.size_toArray,hlen]⟩,q⟩
 ·obtain⟨its,r',pl,hz⟩:=I.tuple hq
  have hlen:=r'.length
  exact len_tuple pl (by simp only[List.size_toArray]<;>omega) ⟨.int ys.length,H,I.tok _,⟨s.toks+1,by rw[List.size_toArray,hlen]⟩,q⟩
theorem cW:CallR X (.builtin "len") (fun xs H Q=>∃z,xs=[.str z]/\z.length<=sizeLine/\Q (.int z.length) H):=by
 intro pins s σ H xs us Q I r h
 obtain⟨z,rfl,hz,q⟩:=h
 obtain⟨u,rfl,t,rfl⟩:=rS r
 have hn:=g9
 exact len_str (by omega) ⟨.int z.length,H,I.tok _,⟨_,rfl⟩,q⟩
theorem CallR.or{f:Value}{r r':List V->Hp->VK->Prop}(h:CallR X f r)(h':CallR X f r'):CallR X f (fun xs H Q=>r xs H Q\/r' xs H Q):=by
 intro pins s σ H xs us Q I rs q
 rcases q with q|q
 ·exact h pins s σ H xs us Q I rs q
 ·exact h' pins s σ H xs us Q I rs q
theorem bA:CallR X (.type "tuple") (fun xs H Q=>∃p ys,xs=[.ref p]/\((SqL X.K H p ys/\∀l,H l=none->Q (.ref l) (upd H l (.tup ys)))\/(SqT X.K H p ys/\Q (.ref p) H))):=by
 intro pins s σ H xs us Q I r h
 obtain⟨p,ys,rfl,h⟩:=h
 obtain⟨u,rfl,rx⟩:=rS r
 cases rx
 rcases h with⟨hq,q⟩|⟨hq,q⟩
 ·obtain⟨its,r',pl,hz⟩:=I.list hq
  have hlen:=r'.length
  refine call_tuple_list pl.isList (fun h' kp=>?_) (by simp only[List.size_toArray]<;>omega)
  have I1:Inv X pins σ H { s with heap:=h' }:=I.kept (t':=s.toks) kp
  have I2:Inv X pins σ (upd H h'.objs.size (.tup ys)) { s with heap:=h'.push { cls:=.type "tuple",data:=.seq its.toArray } }:=
   I1.laid (t':=s.toks) (fun b o e=>Heap.get?_push_of_some _ e) (Nat.le_refl _) (show ObjOk X.prog X.w _ _ _ (.tup ys) from⟨hz,its,r',IsTup.new _ _⟩)
  exact⟨.ref h'.objs.size,_,I2,rfl,q _ (I1.hok.fresh (Nat.le_refl _))⟩
 ·obtain⟨its,r',pl,hz⟩:=I.tuple hq
  exact call_tuple_same pl ⟨.ref p,H,I,rfl,q⟩
noncomputable def tyV(K:Fg)(T:String)(x:V)(H:Hp):Prop:=match x with
 |.str _=>T = "str"
 |.int _=>T = "int"
 |.ref p=>(T = "list" /\ ∃xs,SqL K H p xs)\/(T = "tuple" /\ ∃o,K.lookup p=some o/\o.cls=.type "tuple" /\ o.dict=none) \/
   (T = "dict" /\ ((∃kvs,H p=some (.dK kvs))\/∃kvs,H p=some (.dT kvs)))\/(T = "set" /\ ∃S n,H p=some (.set S n))
 |_=>False
theorem zA1{pins:List (Addr×Obj)}{σ:St}{H:Hp}{s:Shared}{T:String}{x:V}{v:Value}(I:Inv X pins σ H s)(r:RelV x v)(ty:tyV X.K T x H):s.TypeIs v T/\∀a,v=.ref a->∃ob,s.heap.get? a=some ob/\ob.dict=none:=by
 cases x with
 |str z=>
  obtain⟨t,rfl⟩:=r
  cases (show T = "str" from ty)
  exact⟨typeIs_str s z t,fun _ e=>nomatch e⟩
 |int i=>
  obtain⟨t,rfl⟩:=r
  cases (show T = "int" from ty)
  exact⟨typeIs_int s i t,fun _ e=>nomatch e⟩
 |ref p=>
  cases r
  rcases ty with⟨rfl,xs,hq⟩|⟨rfl,o,hk,hc,hd⟩|⟨rfl,hk⟩|⟨rfl,S,n,hk⟩
  ·obtain⟨its,_,pl,_⟩:=I.list hq
   refine⟨pl.isList.typeIs,fun a e=>?_⟩
   cases e
   obtain⟨o,n,e,c,hd,_⟩:=pl
   exact⟨o,e,hd⟩
  ·refine⟨⟨o,I.kIn p o hk,hc⟩,fun a e=>?_⟩
   cases e
   exact⟨o,I.kIn _ o hk,hd⟩
  ·have z:∃o,s.heap.get? p=some o/\o.ExactDict:=by
    rcases hk with⟨kvs,hk⟩|⟨kvs,hk⟩
    ·obtain⟨_,_,_,_,o,_,_,e,ex,_⟩:=I.hok p _ hk
     exact⟨o,e,ex⟩
    ·obtain⟨_,_,_,_,o,_,_,e,ex,_⟩:=I.hok p _ hk
     exact⟨o,e,ex⟩
   obtain⟨o,e,ex⟩:=z
   refine⟨⟨o,e,ex.1⟩,fun a e2=>?_⟩
   cases e2
   exact⟨o,e,ex.2.1⟩
  ·obtain⟨o,_,_,_,e,ex,_⟩:=I.hok p _ hk
   refine⟨⟨o,e,ex.1⟩,fun a e2=>?_⟩
   cases e2
   exact⟨o,e,ex.2.1⟩
 |_=>exact False.elim ty
noncomputable def zKW(K:Fg)(T:String)(r:V->List V->Hp->VK->Prop)(to:TE):TE:=fun σ H Q=>to σ H fun x H1=>tyV K T x H1/\r x [] H1 Q
noncomputable def tBM(K:Fg)(T:String)(r:V->List V->Hp->VK->Prop)(to:TE)(t:TA):TE:=fun σ H Q=>to σ H fun x H1=>tyV K T x H1/\t σ H1 fun xs H2=>r x xs H2 Q
variable{o e:Expr}{es:List Expr}{to:TE}{t:TA}{name:Str}{apos cpos:Pos}{T id:String}{r:V->List V->Hp->VK->Prop}
theorem tN(pa:PlainAttrs T)(slot:Slot T name id)(hty:typeOf (.builtin id)=pure (.type "method_descriptor"))(hm:MtR X id r)(ho:PE X o to)(hbase:attributeBase o name X.env (eval o X.env)=eval o X.env:=by rfl)(hline:(apos.endLine == cpos.line)=true:=by rfl):PE X (.Call (.Attribute o name apos) [] [] cpos) (zKW X.K T r to):=by
 intro pins s σ H Q I h
 refine wpAny_Call_method0_late hbase hline (thn (ho pins s σ H _ I h) fun v s1 ⟨x,H1,I1,r1,ty,q1⟩=>?_)
 obtain⟨h1,h2⟩:=zA1 I1 r1 ty
 exact⟨T,id,pa,slot,hty,h1,h2,Calls.callWith_builtin rfl (PySem.evalArgs_none (hm pins s1 σ H1 x [] v [] Q I1 r1 .nil q1))⟩
theorem tO(pa:PlainAttrs T)(slot:Slot T name id)(hty:typeOf (.builtin id)=pure (.type "method_descriptor"))(hm:MtR X id r)(ho:PE X o to)(ha:PA X (e::es) t)(hbase:attributeBase o name X.env (eval o X.env)=eval o X.env:=by rfl)(hfew:((backTo cpos (starEach (e::es) X.env)).all (fun x=>!x.1) && (backToKw cpos (keywordEach [] X.env)).all (fun x=>x.1.isSome)
   && decide ((e::es).length+([]:List Keyword).length+(if ([]:List Keyword).isEmpty then 0 else 1)<30))=true:=by rfl)(hline:(apos.endLine == cpos.line)=true:=by rfl)(hs:starEach (e::es) X.env=(false,eval e X.env)::starEach es X.env:=by rfl)(hplain:(backTo cpos (starEach es X.env)).any (·.1)=false:=by rfl):PE X (.Call (.Attribute o name apos) (e::es) [] cpos) (tBM X.K T r to t):=by
 intro pins s σ H Q I h
 refine wpAny_Call_method_late hbase hfew hline rfl (thn (ho pins s σ H _ I h) fun v s1 ⟨x,H1,I1,r1,ty,q1⟩=>?_)
 obtain⟨h1,h2⟩:=zA1 I1 r1 ty
 refine⟨T,id,pa,slot,hty,h1,h2,?_⟩
 have hA:=ha cpos pins s1 σ H1 _ I1 q1
 rw[hs] at hA ⊢
 refine Calls.callWith_builtin (by show(false || (backTo cpos (starEach es X.env)).any (·.1))=false;rw[hplain]<;>rfl) (Calls.evalArgs_plain ?_)
 exact thn hA fun us s2 ⟨vs,H2,I2,r2,q2⟩=>hm pins s2 σ H2 x vs v us Q I2 r1 r2 q2
end
end L2
namespace L2
open PySem PySem.Spec PyProof.Rows
noncomputable def MtM(X:Cx)(id:String)(r:V->List V->Hp->VK->Prop):Prop:=
 ∀(pins:List (Addr×Obj)) (s:Shared) (σ:St) (H:Hp) (x:V) (xs:List V) (v:Value) (us:List Value) (Q:VK),Inv X pins σ H s->RelV x v->Vals xs us->r x xs H Q ->
  wpAny (model X.prog X.w) X.A (call (.builtin id) (v::us)) (EP X pins σ Q) X.xe s
theorem Vals.one:∀{x:V} {us:List Value},Vals [x] us->∃u,us=[u]/\RelV x u
 |_,_,.cons r .nil=>⟨_,rfl,r⟩
theorem Vals.two:∀{x y:V} {us:List Value},Vals [x,y] us->∃u v,us=[u,v]/\RelV x u/\RelV y v
 |_,_,_,.cons r (.cons q .nil)=>⟨_,_,rfl,r,q⟩
theorem Vals.zero:∀{us:List Value},Vals [] us->us=[]
 |_,.nil=>rfl
theorem Vals.dropLast{xs:List V}{us:List Value}(h:Vals xs us):Vals xs.dropLast us.dropLast:=by
 induction h with
 |nil=>exact .nil
 |cons r t ih=>
  cases t with
  |nil=>exact .nil
  |cons q t'=>exact .cons r ih
theorem Vals.eraseIdx:∀{xs:List V} {us:List Value} (i:Nat),Vals xs us->Vals (xs.eraseIdx i) (us.eraseIdx i)
 |_,_,_,.nil=>.nil
 |_,_,0,.cons _ t=>t
 |_,_,i+1,.cons r t=>.cons r (Vals.eraseIdx i t)
theorem Vals.reverse{xs:List V}{us:List Value}(h:Vals xs us):Vals xs.reverse us.reverse:=by
 induction h with
 |nil=>exact .nil
 |cons r t ih=>rw[List.reverse_cons,List.reverse_cons];exact Vals.append ih (.cons r .nil)
theorem oE{α:Type}(l:List α):l.eraseIdx (l.length-1)=l.dropLast:=by
 induction l with
 |nil=>rfl
 |cons a r ih=>
  cases r with
  |nil=>rfl
  |cons b r=>
   have e:(a::b::r).length-1=((b::r).length-1)+1:=by
    have h1:(a::b::r).length=r.length+2:=rfl
    have h2:(b::r).length=r.length+1:=rfl
    omega
   rw[e,List.eraseIdx_cons_succ,ih]
   all_goals rfl
theorem hC{α:Type}:∀(l:List α) (i:Nat),(l.eraseIdx i).length<=l.length
 |[],_=>Nat.le_refl _
 |_::_,0=>Nat.le_succ _
 |_::r,i+1=>Nat.succ_le_succ (hC r i)
section
variable{X:Cx}{pins:List (Addr×Obj)}{σ:St}{H:Hp}{s:Shared}{l b:Addr}{xs ys zs:List V}
theorem Inv.lset{its its':List Value}{n:Nat}{f:Array Value->Array Value}{t':Nat}(I:Inv X pins σ H s)(hH:H l=some (.lst xs))(e:s.heap.get? l=some { cls:=.type "list",data:=.seq its.toArray n })(hf:f its.toArray=its'.toArray)(hv:Vals ys its')(hz:ys.length<=sizeLine):Inv X pins σ (upd H l (.lst ys)) { s with heap:=s.heap.update l (Obj.mapSeq f),toks:=t' }:=by
 have q:=PySem.IsL.update e f
 rw[hf] at q
 refine I.write (x:=l) (e:=l) (by rw[hH];exact trivial) (.inl rfl) (fun b' u hb hu=>(Heap.get?_update_other s.heap (Obj.mapSeq f) (Ne.symm hb)).trans hu) ⟨_,q⟩ ?_
 exact⟨hz,its',_,hv,q⟩
theorem Inv.lnew{its:List Value}{t':Nat}(I:Inv X pins σ H s)(hv:Vals ys its)(hz:ys.length<=sizeLine):Inv X pins σ (upd H s.heap.objs.size (.lst ys)) { s with heap:=s.heap.push { cls:=.type "list",data:=.seq its.toArray },toks:=t' }:=
 I.laid (fun _ _ q=>Heap.get?_push_of_some _ q) (Nat.le_refl _) ⟨hz,its,0,hv,Heap.get?_push_size _ rfl⟩
theorem Inv.fresh(I:Inv X pins σ H s):H s.heap.objs.size=none:=I.hok.fresh (Nat.le_refl _)
theorem Inv.lstM(I:Inv X pins σ H s)(hH:H l=some (.lst xs)):xs.length<=sizeLine/\∃(its:List Value) (n:Nat),Vals xs its/\xs.length=its.length/\s.heap.get? l=some { cls:=.type "list",data:=.seq its.toArray n }:=by
 obtain⟨z,its,n,r,e⟩:=I.hok l _ hH
 exact⟨z,its,n,r,r.length,e⟩
theorem QP{n:Nat}(h:n<=sizeLine):Builtin.List.listTooLong n=false:=by
 unfold Builtin.List.listTooLong
 exact decide_eq_false (by omega)
end
section
variable{X:Cx}
noncomputable def zBN:V->List V->Hp->VK->Prop:=fun x vs H Q=>∃l xs y,x=.ref l/\vs=[y]/\H l=some (.lst xs)/\xs.length<sizeLine/\Q .non (upd H l (.lst (xs++[y])))
theorem jE:MtM X "list.append" zBN:=by
 intro pins s σ H x vs v us Q I rx rv h
 obtain⟨l,xs,y,rfl,rfl,hH,hz,q⟩:=h
 cases rx
 obtain⟨u,rfl,ru⟩:=rv.one
 obtain⟨z,its,n,r,hl,e⟩:=I.lstM hH
 refine call_meets F.slot_list_append ⟨_,e,rfl⟩ F.entry_list_append (F.args_list_append_2 _ _) (PySem.list_append l its.toArray n u (by rw[List.size_toArray];omega)) ⟨e,?_⟩
 refine⟨.non,_,I.lset (its':=its++[u]) hH e (by simp) (r.append (.cons ru .nil)) ?_,rfl,q⟩
 rw[List.length_append,List.length_singleton]
 omega
noncomputable def zK0:V->List V->Hp->VK->Prop:=fun x vs H Q=>∃l xs y,x=.ref l/\vs=[]/\H l=some (.lst xs)/\xs[xs.length-1]?=some y/\Q y (upd H l (.lst xs.dropLast))
theorem tX:MtM X "list.pop" zK0:=by
 intro pins s σ H x vs v us Q I rx rv h
 obtain⟨l,xs,y,rfl,rfl,hH,hy,q⟩:=h
 cases rx
 have hus:=rv.zero
 subst hus
 obtain⟨z,its,n,r,hl,e⟩:=I.lstM hH
 obtain⟨u,hu,ru⟩:=r.get hy
 have hy':its.toArray[its.toArray.size-1]?=some u:=by
  show its.toArray[its.length-1]?=some u
  rw[<-Array.getElem?_toList,<-hl]
  exact hu
 refine call_meets F.slot_list_pop ⟨_,e,rfl⟩ F.entry_list_pop (F.args_list_pop_1 _) (MeetsSeq.list_pop_last l its.toArray n u hy' (by rw[List.size_toArray];omega)) ⟨e,?_⟩
 refine⟨y,_,I.lset (its':=its.dropLast) hH e ?_ r.dropLast ?_,ru,q⟩
 ·show its.toArray.eraseIdxIfInBounds (its.toArray.size-1)=its.dropLast.toArray
  rw[List.size_toArray,List.eraseIdxIfInBounds_toArray,oE]
 ·rw[List.length_dropLast]
  omega
noncomputable def zF0:V->List V->Hp->VK->Prop:=fun x vs H Q=>∃l xs i k y,x=.ref l/\vs=[.int i]/\H l=some (.lst xs)/\-(2 ^ 63)<=i/\i<2 ^ 63/\seqIndex? i xs.length=some k/\xs[k]?=some y/\Q y (upd H l (.lst (xs.eraseIdx k)))
theorem QX:MtM X "list.pop" zF0:=by
 intro pins s σ H x vs v us Q I rx rv h
 obtain⟨l,xs,i,k,y,rfl,rfl,hH,h1,h2,hk,hy,q⟩:=h
 cases rx
 obtain⟨u,rfl,ru⟩:=rv.one
 obtain⟨t,rfl⟩:=ru
 obtain⟨z,its,n,r,hl,e⟩:=I.lstM hH
 obtain⟨w,hw,rw'⟩:=r.get hy
 refine call_meets F.slot_list_pop ⟨_,e,rfl⟩ F.entry_list_pop (F.args_list_pop_2 _ _)
  (MeetsSeq.list_pop_at l its.toArray n i t k w (fitsIndex_both h1 h2) (by rw[List.size_toArray,<-hl];exact hk) (by rw[<-Array.getElem?_toList];exact hw) (by rw[List.size_toArray];omega)) ⟨e,?_⟩
 refine⟨y,_,I.lset (its':=its.eraseIdx k) hH e ?_ (r.eraseIdx k) ?_,rw',q⟩
 ·show its.toArray.eraseIdxIfInBounds k=(its.eraseIdx k).toArray
  rw[List.eraseIdxIfInBounds_toArray]
 ·have:=hC xs k
  omega
end
end L2
namespace Att
open PySem PySem.W PySem.Calls PyProof.Rows
theorem kR{P:Params}{h:Heap}:∀(ns:List Int) (vs:List Value),WellAll P h vs (ns.map WData.int)->IntsAre vs ns:=by
 intro ns
 induction ns with
 |nil=>
  intro vs w
  rw[List.map_nil] at w
  cases w
  exact .nil
 |cons n ns ih=>
  intro vs w
  rw[List.map_cons] at w
  cases w with
  |cons a b=>
   cases a
   exact .cons _ _ (ih _ b)
theorem r8{l:OpenLaw}{n:Nat}(hn:l.most=some n){P:Params}{h:Heap}{args:List WData}{vals:List Value}(hpre:l.row.toRowW.claim.pre args=true)(hwl:WellAll P h vals args):∃a vs ns,vals=[Value.ref a]/\args=[WData.list (ns.map WData.int)]/\h.get? a=some { cls:=.type "list",data:=.seq vs.toArray }/\IntsAre vs ns/\ns.length<=n:=by
 have hsh:WShape.hasAll [] args [.list .int]=true:=(pre_splitW hpre).1
 have hc:l.pre.holds [] { args:=args } = true:=(pre_splitW hpre).2
 obtain⟨d,r,rfl,h1,h2⟩:=hasAllW_cons hsh
 obtain rfl:=hasAllW_nil h2
 obtain⟨xs,rfl,h3⟩:=hasW_list h1
 obtain⟨ns,rfl⟩:=items_int h3
 have hlen:ns.length<=n:=by
  unfold OpenLaw.pre at hc
  have h4:(WTm.not (.lt (.lit (.int (n:Int))) (.len (.arg 0)))).holds [] { args:=[.list (ns.map .int)] } = true:=by
   have h4:=(holds_andW hc).1
   rw[hn] at h4
   exact h4
  have h5:=condW_of h4 (w_not (w_lt w_lit (w_len_list (w_arg rfl))))
  rw[List.length_map] at h5
  refine Nat.le_of_not_lt fun q=>?_
  have q':(n:Int)<((ns.length:Nat):Int):=by omega
  first
   |(rw[decide_eq_true q'] at h5;exact absurd h5 (by decide))
   |(simp at h5;omega)
 cases hwl with
 |cons w1 w2=>
  cases w2
  cases w1 with
  |list ho hall=>exact⟨_,_,ns,rfl,rfl,ho,kR ns _ hall,hlen⟩
theorem tK(l:OpenLaw)(args:List WData):l.row.toRowW.claim.post args (.bool true) args=true:=
 postW_of (r:=l.row.toRowW) (X:=(true == true))
  (show WShape.has [] (.bool true) .bool=true by first|rfl|decide|simp[WShape.has,WShape.arms,WShape.armsAll])
  (show(WTm.eq .res (.lit (.bool true))).value [] { args:=args,res:=some (.bool true),after:=args } = some (.bool (true == true)) from w_eq_bool (w_res rfl) w_lit) rfl
theorem attach_call{l:OpenLaw}{n:Nat}{q:Program}{loose:List Str}{XP:(Str->Option Value)->Heap->Prop}{YP:World->Heap->Prop}{d:DefRec}(hn:l.most=some n)(hdf:d.params.defaults=[])(call:∀(w:World) (s₀ s₁:Shared) (mg mb:Str->Option Value) (fa:Addr) (o:Obj) (pm cd doc:Value) (a:Addr) (vs:List Value) (ns:List Int),
   Ground q loose [] XP w s₀ mg mb s₁.heap->YP w s₁.heap ->
   s₁.heap.get? fa=some o->o.data=.func (docDef d.name d.params d.body d.scope pm cd doc)->s₁.heap.CodeRec cd d.name->mg d.name=some (.ref fa) ->
   s₁.heap.get? a=some { cls:=.type "list",data:=.seq vs.toArray }->IntsAre vs ns->ns.length<=n->s₁.gens = #[] ->
   codeAny (model l.prog w) callerA (.call (.ref fa) ⟨[.ref a],[]⟩) (fun r s'=>r=.ok (.ret (.bool true))/\OldK s₁.heap s'.heap/\s'.os=s₁.os/\AllBare s'.gens) s₁):WalkO q loose XP YP l.row.toRowW d [] (fun f vs=>PySem.call f vs):=by
 intro w s₀ s₁ mg mb G Y fa o pm cd doc dV kV ho hd hcd hD hmg hg args vals as hpre hlay hrd hwl hlo
 obtain rfl:dV=.none:=Dflts.none hD hdf
 obtain rfl:kV=.none:=Dflts.noKw hD
 obtain⟨a,vs,ns,rfl,rfl,hobj,hints,hlen⟩:=r8 hn hpre hwl
 refine enter_call (codeAny_mono (call w s₀ s₁ mg mb fa o pm cd doc a vs ns G Y ho (fd_plain hd) hcd hmg hobj hints hlen hg) fun r s' hq=>?_)
 obtain⟨rfl,h2,h3,h4⟩:=hq
 exact⟨.inl ⟨.bool true,.bool true,[],rfl,fun _=>rfl,.bool true,tK l _,fun _=>⟨List.Pairwise.nil,fun _ hm=>(nomatch hm)⟩⟩,h2,h3,h4⟩
end Att
namespace L2
open PySem PySem.Spec PyProof.Rows
theorem dY:∀{vs:List Value} {ns:List Int},IntsAre vs ns->Vals (ns.map V.int) vs
 |_,_,.nil=>.nil
 |_,_,.cons n t h=>.cons ⟨t,rfl⟩ (dY h)
noncomputable def zKA(H:Hp):Prop:=∀b,H b=none\/∃o xs,H b=some (.frz o (.lst xs))
theorem Q5{P:Program}{w:World}{K:Fg}{mg mb:Str->Option Value}{CX:CXT}{k:Nat}{fa a:Addr}{fd:FuncData}{x:Str}{sp:Sp}{s₁:Shared}{vs:List Value}{ns:List Int}(KX:K.In s₁.heap)(hns:s₁.heap.Ns mainGlobals mg)(hb:s₁.heap.Ns builtinsNs mb)(hbb:∀x:Str,x ≠ "__name__" -> mb x=bootBuiltins x)(hlim:s₁.heap.NoLimit)(hg:s₁.gens = #[])(ha:s₁.heap.get? a=some { cls:=.type "list",data:=.seq vs.toArray })(hi:IntsAre vs ns)(hl:ns.length<=sizeLine)(hr:Room k callerA)(F:∀base:Heap,K.In base->base.Ns mainGlobals mg->FnOk P w K mg base CX k fa fd [x] sp)(hbind:∀(s:Shared) (u:Value),BindsTo s fd ⟨[u],[]⟩ [(x,u)])(hsp:∀H:Hp,zKA H->SqL K H a (ns.map V.int)->sp [.ref a] H (fun v _=>v=.bl true) fun _ _ _=>False)(hCX:∀H e s',CX [] H s₁ (fun _ _ _=>False) e s'->False):codeAny (model P w) callerA (.call (.ref fa) ⟨[.ref a],[]⟩) (fun r s'=>r=.ok (.ret (.bool true))/\OldK s₁.heap s'.heap/\s'.os=s₁.os/\AllBare s'.gens) s₁:=by
 have rv:=dY hi
 have lenV:=hi.length
 have core:∀H:Hp,zKA H->SqL K H a (ns.map V.int)->HOk P w H s₁.heap->(∀b,H b≠none->b=a)->(H a≠none->K.lookup a=none) ->
   codeAny (model P w) callerA (.call (.ref fa) ⟨[.ref a],[]⟩) (fun r s'=>r=.ok (.ret (.bool true))/\OldK s₁.heap s'.heap/\s'.os=s₁.os/\AllBare s'.gens) s₁:=by
  intro H hO hS hok hA hK
  have base_of:∀{b:Addr} {o:Obj},s₁.heap.get? b=some o->H b=none->(zEQ s₁.heap H).get? b=some o:=fun e n=>JC e n
  have noA:∀{b:Addr} {o:Obj} {es:Array DictEntry} {ep:Nat},s₁.heap.get? b=some o->o.data=.dict es ep->H b=none:=fun {b o es ep} e d=>by
   cases q:H b with
   |none=>rfl
   |some u=>
    have e':b=a:=hA b (by rw[q];simp)
    subst e'
    rw[ha] at e;cases e
    have d':Data.seq vs.toArray _=Data.dict es ep:=d
    cases d'
  have nsK:∀{b:Addr} {m:Str->Option Value},s₁.heap.Ns b m->(zEQ s₁.heap H).Ns b m:=fun {b m} ⟨o,es,ep,e,d,r⟩=>⟨o,es,ep,base_of e (noA e d),d,r⟩
  have hKb:K.In (zEQ s₁.heap H):=fun b o e=>base_of (KX b o e) (by
   cases q:H b with
   |none=>rfl
   |some u=>
    have e':b=a:=hA b (by rw[q];simp)
    subst e'
    rw[hK (by rw[q];simp)] at e;cases e)
  have hM:Mod K mg (zEQ s₁.heap H):=⟨hKb,nsK hns,⟨mb,nsK hb,hbb⟩,let ⟨mc,h1,h2⟩:=hlim;⟨mc,nsK h1,h2⟩⟩
  have e0:Env0 P w K mg (zEQ s₁.heap H) callerA [] s₁ H:=⟨rfl,hM,fun b o e=>zCE e,Nat.le_of_eq (ZJ _ _),trivial,⟨fun b hb=>absurd (show b∈([]:List Addr) from hb) (by simp),trivial⟩,hok,.of_eq hg⟩
  refine codeAny_mono ((F _ hKb (nsK hns)).run callerA [] s₁ H ⟨[.ref a],[]⟩ [.ref a] [.ref a] _ _ hr e0 (hbind s₁ (.ref a)) (.cons rfl .nil) (hsp H hO hS)) fun r s' h=>?_
  cases r with
  |error e=>exact(hCX H e s' h).elim
  |ok fl=>
   cases fl with
   |next=>exact False.elim h
   |brk=>exact False.elim h
   |cont=>exact False.elim h
   |ret u=>
    obtain⟨v,H',os,bare,un,hok',r',q⟩:=h
    have q':v=.bl true:=q
    subst q'
    obtain rfl:u=Value.bool true:=r'
    refine⟨rfl,OldK.of_keep fun b o e=>?_,os,bare⟩
    cases q:H b with
    |none=>exact un.keep b o e q (by intro z;exact absurd (show b∈([]:List Addr) from z) (by simp)) (by simp)
    |some u=>
     rcases hO b with z|⟨ob,xs,z⟩
     ·rw[q] at z;cases z
     ·have z2:=un.frzs b ob _ z
      obtain⟨e1,_⟩:=hok b _ z
      obtain⟨e2,_⟩:=hok' b _ z2
      rw[e] at e1;cases e1
      exact e2
 cases hk:K.lookup a with
 |some o=>
  have e:=KX a o hk
  rw[ha] at e
  cases e
  refine core (fun _=>none) (fun _=>.inl rfl) (.inr ⟨_,vs.toArray,_,hk,rfl,rfl,rfl,by rw[List.size_toArray,lenV];exact hl,by simpa using rv⟩) (fun b u z=>by have z':(none:Option HO)=some u:=z;cases z') (fun b z=>absurd rfl z) fun z=>absurd rfl z
 |none=>
  refine core (fun b=>if b=a then some (.frz { cls:=.type "list",data:=.seq vs.toArray } (.lst (ns.map V.int))) else none) (fun b=>?_) (.inl (.inr ⟨{ cls:=.type "list",data:=.seq vs.toArray },if_pos rfl⟩)) (fun b u z=>?_) (fun b z=>?_) fun _=>hk
  ·by_cases hb:b=a
   ·exact .inr ⟨_,_,if_pos hb⟩
   ·exact .inl (if_neg hb)
  ·by_cases hb:b=a
   ·have z':=(if_pos hb).symm.trans z
    cases z'
    subst hb
    exact⟨ha,by rw[List.length_map];exact hl,vs,_,rv,ha⟩
   ·have z':=(if_neg hb).symm.trans z
    cases z'
  ·by_cases hb:b=a
   ·exact hb
   ·exact absurd (if_neg hb) z
end L2
namespace L2
open PySem PySem.Spec PyProof.Rows
theorem zAP{l:PySem.W.OpenLaw}{n k:Nat}{q:Program}{loose:List Str}{XP:(Str->Option Value)->Heap->Prop}{YP:World->Heap->Prop}{d:DefRec}{K:Params->Fg}{CX:World->CXT}{sp:World->Sp}{x:Str}(hn:l.most=some n)(hn2:n<=sizeLine)(hdf:d.params.defaults=[])(hr:Room k callerA)(hY:∀(w:World) (h:Heap),YP w h->(K w.params).In h)(F:∀(w:World) (mg:Str->Option Value) (fa:Addr) (h:Heap),(K w.params).In h->h.Ns mainGlobals mg->mg d.name=some (.ref fa) ->
   ∃fd:FuncData,(∀(s:Shared) (u:Value),BindsTo s fd ⟨[u],[]⟩ [(x,u)]) /\
    ∀base:Heap,(K w.params).In base->base.Ns mainGlobals mg->FnOk l.prog w (K w.params) mg base (CX w) k fa fd [x] (sp w))(hsp:∀(w:World) (H:Hp) (a:Addr) (ns:List Int),ns.length<=n->zKA H->SqL (K w.params) H a (ns.map V.int)->sp w [.ref a] H (fun v _=>v=.bl true) fun _ _ _=>False)(hCX:∀(w:World) (H:Hp) (s:Shared) (e:Value) (s':Shared),CX w [] H s (fun _ _ _=>False) e s'->False):PySem.W.WalkO q loose XP YP l.row.toRowW d [] (fun f vs=>PySem.call f vs):=by
 refine Att.attach_call hn hdf fun w s₀ s₁ mg mb fa o pm cd doc a vs ns G Y ho hd hcd hmg hobj hints hlen hg=>?_
 have KX:=hY w _ Y
 obtain⟨fd,hb,hF⟩:=F w mg fa _ KX G.T.g hmg
 exact Q5 KX G.T.g G.T.b G.T.builtins G.T.nolimit hg hobj hints (Nat.le_trans hlen hn2) hr hF hb (fun H hO hS=>hsp w H a ns hlen hO hS) fun H e s'=>hCX w H s₁ e s'
theorem walk_ofK{l:PySem.W.OpenLaw}{n k:Nat}{q:Program}{loose:List Str}{XP:(Str->Option Value)->Heap->Prop}{YP:World->Heap->Prop}{d:DefRec}{K:Params->Fg}{CX:CXT}{sp:Fg->Sp}{x:Str}(hn:l.most=some n)(hn2:n<=sizeLine)(hdf:d.params.defaults=[])(hr:Room k callerA)(hY:∀(w:World) (h:Heap),YP w h->(K w.params).In h)(F:∀(w:World) (mg:Str->Option Value) (fa:Addr) (h:Heap),(K w.params).In h->h.Ns mainGlobals mg->mg d.name=some (.ref fa) ->
   ∃fd:FuncData,(∀(s:Shared) (u:Value),BindsTo s fd ⟨[u],[]⟩ [(x,u)]) /\
    ∀base:Heap,(K w.params).In base->base.Ns mainGlobals mg->FnOk l.prog w (K w.params) mg base CX k fa fd [x] (sp (K w.params)))(hsp:∀(K:Fg) (H:Hp) (a:Addr) (ns:List Int),ns.length<=n->zKA H->SqL K H a (ns.map V.int)->sp K [.ref a] H (fun v _=>v=.bl true) fun _ _ _=>False)(hCX:∀(H:Hp) (s:Shared) (e:Value) (s':Shared),CX [] H s (fun _ _ _=>False) e s'->False):PySem.W.WalkO q loose XP YP l.row.toRowW d [] (fun f vs=>PySem.call f vs):=
 zAP (K:=K) (CX:=fun _=>CX) (sp:=fun w=>sp (K w.params)) hn hn2 hdf hr hY F (fun w H a ns h1 h2 h3=>hsp (K w.params) H a ns h1 h2 h3) fun _ H s e s'=>hCX H s e s'
end L2
namespace L2
open PySem PySem.Spec PyProof.Rows
noncomputable def jT(s:Stmt):Arguments:=match s with
 |.FunctionDef _ a _ _ _ _ _ _ _ _=>a
 |_=>{ posonlyargs:=[],args:=[],vararg:=none,kwonlyargs:=[],kw_defaults:=[],kwarg:=none,defaults:=[] }
noncomputable def qE(s:Stmt):List Stmt:=match s with
 |.FunctionDef _ _ b _ _ _ _ _ _ _=>b
 |_=>[]
noncomputable def zP(s:Stmt):Scope:=match s with
 |.FunctionDef _ _ _ _ _ _ sc _ _ _=>sc
 |_=>{ kind:=.function,names:=[],isGenerator:=false,isCoroutine:=false }
noncomputable abbrev CX0:CXT:=fun _ _ _ _ _ _=>False
noncomputable abbrev E0:XK:=fun _ _ _=>False
theorem cZ{X:Cx}:bC CX0 X E0:=fun _ _ _ _ _ _ _ h=>h.elim
structure Fun(K:Fg)(x qual:Str)(st:Stmt)(f:Addr)(fd:FuncData):Prop where
 ex:∃(oc:Value) (od:Option Addr) (kV doc pm:Value) (an:Option Addr) (cdv ct:Value) (osl:Array (Option Value)),
  fd=PySem.W.fnOf x qual (jT st) (qE st) (zP st) .none kV doc pm an cdv ct/\K.lookup f=some ⟨oc,od,.func fd,osl⟩/\PySem.W.codeIn K cdv qual=true
 kp:PySem.W.keepIn K (.ref f)=true
section
variable{P:Program}{w:World}{K:Fg}{mg:Str->Option Value}{base:Heap}
theorem Fun.ok{x qual:Str}{st:Stmt}{f:Addr}{fd:FuncData}{N ps:List Str}{k:Nat}{sp:Sp}(F:Fun K x qual st f fd)(S:FnScope N ps (zP st))(len:∀vs H Q E,sp vs H Q E->vs.length=ps.length)(hbody:∀(cdv:Value) (A:Around) (outer:List Env) (s:Shared) (H:Hp) (vs:List V) (Q:VK) (E:XK),Room k (A.deeper (envOfC qual (zP st) s.heap.objs.size f cdv))->sp vs H Q E ->
   ∃t,PSs (zER CX0 P w K mg base N qual (zP st) f cdv A outer s H E).nox (qE st) t/\t { nx:=fun _ H'=>Q .non H',rt:=Q } (start N vs) H):FnOk P w K mg base CX0 (k+1) f fd ps sp:=by
 obtain⟨oc,od,kV,doc,pm,an,cdv,ct,osl,rfl,lk,hcd⟩:=F.ex
 refine zH8 lk hcd S len fun A outer s H vs Q E hr hsp=>?_
 obtain⟨t,h,q⟩:=hbody cdv A outer s H vs Q E hr hsp
 exact⟨t,h.nox,q⟩
theorem Fun.binds{x qual:Str}{st:Stmt}{f:Addr}{fd:FuncData}{ps:List Str}(F:Fun K x qual st f fd)(h:∀(kV doc pm:Value) (an:Option Addr) (cdv ct:Value) (us:List Value),us.length=ps.length->bindArgs (PySem.W.fnOf x qual (jT st) (qE st) (zP st) .none kV doc pm an cdv ct) ⟨us,[]⟩=pure (ps.zip us)):Binds K fd ps []:=by
 obtain⟨oc,od,kV,doc,pm,an,cdv,ct,osl,rfl,lk,hcd⟩:=F.ex
 exact .all (h kV doc pm an cdv ct)
theorem ZM{x qual:Str}{st:Stmt}{f:Addr}{oc:Value}{od an:Option Addr}{osl:Array (Option Value)}{kV doc pm cdv ct:Value}(l:K.lookup f=some ⟨oc,od,.func (PySem.W.fnOf x qual (jT st) (qE st) (zP st) .none kV doc pm an cdv ct),osl⟩)(c:PySem.W.codeIn K cdv qual=true)(k:PySem.W.keepIn K (.ref f)=true):Fun K x qual st f (PySem.W.fnOf x qual (jT st) (qE st) (zP st) .none kV doc pm an cdv ct):=⟨⟨oc,od,kV,doc,pm,an,cdv,ct,osl,rfl,l,c⟩,k⟩
end
section
variable{X:Cx}
theorem pv(i:Nat){x:Str}{pos:Pos}(hN:X.N[i]?=some x:=by rfl)(hv:Vis X.env.scope x:=by first|exact Or.inl rfl|exact Or.inr (Or.inl rfl)|exact Or.inr (Or.inr rfl))(hd:(x == ("__debug__" : Str))=false:=by decide)(hcd:(x == ("__classdict__" : Str))=false:=by decide):PE X (.Name x pos) (jY i):=zGA hN hv hd hcd
end
theorem zIL{A B:Prop}(h:B):if false=true then A else B:=by
 rw[if_neg Bool.false_ne_true]
 exact h
theorem zIK{A B:Prop}(h:A):if true=true then A else B:=by
 rw[if_pos rfl]
 exact h
noncomputable def Same(H H':Hp):Prop:=∀b o,H b=some o->H' b=some o
theorem Same.refl(H:Hp):Same H H:=fun _ _ h=>h
theorem Same.trans{H H1 H2:Hp}(a:Same H H1)(b:Same H1 H2):Same H H2:=fun c o h=>b c o (a c o h)
theorem Same.free{H H':Hp}(e:Same H H'){l:Addr}(h:H' l=Option.none):H l=Option.none:=by
 cases q:H l with
 |none=>rfl
 |some o=>
  rw[e l o q] at h
  cases h
theorem Same.seq{K:Fg}{H H':Hp}{a:Addr}{xs:List V}(e:Same H H')(h:SqL K H a xs):SqL K H' a xs:=by
 rcases h with(h|⟨o,h⟩)|h
 ·exact .inl (.inl (e _ _ h))
 ·exact .inl (.inr ⟨o,e _ _ h⟩)
 ·exact .inr h
end L2
namespace DD
open PySem PySem.Spec PyProof.Rows L2
noncomputable abbrev St:=L2.St
inductive D where
 |non|bl (b:Bool)|int (i:Int)|str (s:List Nat)|tup (l:List D)|lst (l:List D)|ty (n:String)|ref (a:Addr)|dct (ks:List Key) (l:List D)
noncomputable def LsAt(K:Fg)(O:Addr->Prop)(H:Hp)(a:Addr)(xs:List V):Prop:=
 (¬O a/\Rd H a (.lst xs))\/∃(o:Obj) (its:Array Value) (n:Nat),K.lookup a=some o/\o.cls=.type "list" /\ o.dict=none/\o.data=.seq its n/\its.size<=sizeLine/\Vals xs its.toList
theorem LsAt.sq{K:Fg}{O:Addr->Prop}{H:Hp}{a:Addr}{xs:List V}(h:LsAt K O H a xs):SqL K H a xs:=h.imp (·.2) id
mutual
noncomputable def Is(K:Fg)(O:Addr->Prop)(H:Hp):D->V->Prop
 |.non,v=>v=.non
 |.bl b,v=>v=.bl b
 |.int i,v=>v=.int i
 |.str s,v=>v=.str ⟨s.toArray⟩
 |.ty n,v=>v=.ty n
 |.ref a,v=>v=.ref a
 |.tup l,v=>∃a xs,v=.ref a/\SqT K H a xs/\IsL K O H l xs
 |.lst l,v=>∃a xs,v=.ref a/\LsAt K O H a xs/\IsL K O H l xs
 |.dct ks l,v=>∃a kvs,v=.ref a/\¬O a/\Rd H a (.dK kvs)/\kvs.map (·.1)=ks/\IsL K O H l (kvs.map (·.2))
noncomputable def IsL(K:Fg)(O:Addr->Prop)(H:Hp):List D->List V->Prop
 |[],vs=>vs=[]
 |d::l,vs=>∃v r,vs=v::r/\Is K O H d v/\IsL K O H l r
end
noncomputable def Mb:HO->Prop
 |.lst _=>True
 |.dK _=>True
 |.frz _ (.dK _)=>True
 |.ins _ _ _=>True
 |_=>False
noncomputable def qV(O:Addr->Prop)(H:Hp):Prop:=∀a,O a->∃o,H a=some o/\Mb o
noncomputable def dB(O:Addr->Prop)(H H':Hp):Prop:=∀b o,H b=some o->¬O b->H' b=some o
theorem Rd.some{H:Hp}{a:Addr}{u:HO}(h:Rd H a u):∃o,H a=some o:=by
 rcases h with h|⟨o,h⟩
 ·exact⟨_,h⟩
 ·exact⟨_,h⟩
theorem SqT.keep{K:Fg}{O:Addr->Prop}{H H':Hp}{a:Addr}{xs:List V}(k:dB O H H')(o:qV O H)(h:SqT K H a xs):SqT K H' a xs:=by
 rcases h with(h|⟨ob,h⟩)|h
 ·exact .inl (.inl (k _ _ h fun z=>by obtain⟨ys,q,m⟩:=o a z;rw[h] at q;cases q;exact m))
 ·exact .inl (.inr ⟨ob,k _ _ h fun z=>by obtain⟨ys,q,m⟩:=o a z;rw[h] at q;cases q;exact m⟩)
 ·exact .inr h
theorem Rd.keep{O:Addr->Prop}{H H':Hp}{a:Addr}{u:HO}(k:dB O H H')(n:¬O a)(h:Rd H a u):Rd H' a u:=by
 rcases h with h|⟨ob,h⟩
 ·exact .inl (k _ _ h n)
 ·exact .inr ⟨ob,k _ _ h n⟩
mutual
theorem Is.mono{K:Fg}{O O':Addr->Prop}{H H':Hp}(k:dB O H H')(ol:qV O H)(oo:∀a,O' a->H a≠none->O a):∀(d:D) (v:V),Is K O H d v->Is K O' H' d v
 |.non,v,h=>by unfold Is at h ⊢;exact h
 |.bl b,v,h=>by unfold Is at h ⊢;exact h
 |.int i,v,h=>by unfold Is at h ⊢;exact h
 |.str s,v,h=>by unfold Is at h ⊢;exact h
 |.ty n,v,h=>by unfold Is at h ⊢;exact h
 |.ref a,v,h=>by unfold Is at h ⊢;exact h
 |.tup l,v,h=>by
  unfold Is at h ⊢
  obtain⟨a,xs,e,q,r⟩:=h
  exact⟨a,xs,e,SqT.keep k ol q,IsL.mono k ol oo l xs r⟩
 |.lst l,v,h=>by
  unfold Is at h ⊢
  obtain⟨a,xs,e,nq,r⟩:=h
  refine⟨a,xs,e,?_,IsL.mono k ol oo l xs r⟩
  rcases nq with⟨n,q⟩|q
  ·exact .inl ⟨fun z=>n (oo a z (by obtain⟨o,q⟩:=Rd.some q;rw[q];simp)),Rd.keep k n q⟩
  ·exact .inr q
 |.dct ks l,v,h=>by
  unfold Is at h ⊢
  obtain⟨a,kvs,e,n,q,e2,r⟩:=h
  exact⟨a,kvs,e,fun z=>n (oo a z (by obtain⟨o,q⟩:=Rd.some q;rw[q];simp)),Rd.keep k n q,e2,IsL.mono k ol oo l _ r⟩
theorem IsL.mono{K:Fg}{O O':Addr->Prop}{H H':Hp}(k:dB O H H')(ol:qV O H)(oo:∀a,O' a->H a≠none->O a):∀(l:List D) (vs:List V),IsL K O H l vs->IsL K O' H' l vs
 |[],vs,h=>by unfold IsL at h ⊢;exact h
 |d::l,vs,h=>by
  unfold IsL at h ⊢
  obtain⟨v,r,e,h1,h2⟩:=h
  exact⟨v,r,e,Is.mono k ol oo d v h1,IsL.mono k ol oo l r h2⟩
end
theorem Same.kp{H H':Hp}(s:Same H H')(O:Addr->Prop):dB O H H':=fun b o e _=>s b o e
theorem Is.same{K:Fg}{O:Addr->Prop}{H H':Hp}{d:D}{v:V}(s:Same H H')(ol:qV O H)(h:Is K O H d v):Is K O H' d v:=Is.mono (Same.kp s O) ol (fun _ z _=>z) d v h
theorem IsL.same{K:Fg}{O:Addr->Prop}{H H':Hp}{l:List D}{vs:List V}(s:Same H H')(ol:qV O H)(h:IsL K O H l vs):IsL K O H' l vs:=IsL.mono (Same.kp s O) ol (fun _ z _=>z) l vs h
section
variable{K:Fg}{O:Addr->Prop}{H:Hp}
theorem IsL.length:∀{l:List D} {vs:List V},IsL K O H l vs->l.length=vs.length
 |[],vs,h=>by unfold IsL at h;subst h;rfl
 |d::l,vs,h=>by unfold IsL at h;obtain⟨v,r,rfl,_,h2⟩:=h;simp[IsL.length h2]
theorem IsL.get:∀{l:List D} {vs:List V} {i:Nat} {d:D},IsL K O H l vs->l[i]?=some d->∃v,vs[i]?=some v/\Is K O H d v
 |[],_,_,_,_,e=>by simp at e
 |d::l,vs,0,d',h,e=>by
  unfold IsL at h;obtain⟨v,r,rfl,h1,h2⟩:=h
  simp at e;subst e;exact⟨v,rfl,h1⟩
 |d::l,vs,i+1,d',h,e=>by
  unfold IsL at h;obtain⟨v,r,rfl,h1,h2⟩:=h
  obtain⟨u,q1,q2⟩:=IsL.get (i:=i) h2 (by simpa using e)
  exact⟨u,by simpa using q1,q2⟩
theorem IsL.nil:IsL K O H [] []:=by unfold IsL;rfl
theorem IsL.cons{d:D}{v:V}{l:List D}{vs:List V}(h:Is K O H d v)(t:IsL K O H l vs):IsL K O H (d::l) (v::vs):=by unfold IsL;exact⟨v,vs,rfl,h,t⟩
theorem IsL.append:∀{l m:List D} {vs us:List V},IsL K O H l vs->IsL K O H m us->IsL K O H (l++m) (vs++us)
 |[],_,_,_,h,t=>by unfold IsL at h;subst h;exact t
 |d::l,m,vs,us,h,t=>by unfold IsL at h;obtain⟨v,r,rfl,h1,h2⟩:=h;exact .cons h1 (IsL.append h2 t)
theorem IsL.take:∀{l:List D} {vs:List V} (n:Nat),IsL K O H l vs->IsL K O H (l.take n) (vs.take n)
 |_,_,0,_=>by simpa using IsL.nil
 |[],_,_+1,h=>by unfold IsL at h;subst h;simpa using IsL.nil
 |d::l,vs,n+1,h=>by unfold IsL at h;obtain⟨v,r,rfl,h1,h2⟩:=h;exact .cons h1 (IsL.take n h2)
theorem IsL.drop:∀{l:List D} {vs:List V} (n:Nat),IsL K O H l vs->IsL K O H (l.drop n) (vs.drop n)
 |_,_,0,h=>h
 |[],_,_+1,h=>by unfold IsL at h;subst h;simpa using IsL.nil
 |d::l,vs,n+1,h=>by unfold IsL at h;obtain⟨v,r,rfl,h1,h2⟩:=h;exact IsL.drop n h2
theorem IsL.reverse:∀{l:List D} {vs:List V},IsL K O H l vs->IsL K O H l.reverse vs.reverse
 |[],_,h=>by unfold IsL at h;subst h;exact IsL.nil
 |d::l,vs,h=>by
  unfold IsL at h;obtain⟨v,r,rfl,h1,h2⟩:=h
  rw[List.reverse_cons,List.reverse_cons];exact(IsL.reverse h2).append (.cons h1 .nil)
theorem IsL.inv1{d:D}{vs:List V}(h:IsL K O H [d] vs):∃v,vs=[v]/\Is K O H d v:=by
 unfold IsL at h
 obtain⟨v,r,rfl,h1,h2⟩:=h
 unfold IsL at h2;subst h2
 exact⟨v,rfl,h1⟩
theorem IsL.inv2{d e:D}{vs:List V}(h:IsL K O H [d,e] vs):∃v u,vs=[v,u]/\Is K O H d v/\Is K O H e u:=by
 unfold IsL at h
 obtain⟨v,r,rfl,h1,h2⟩:=h
 obtain⟨u,rfl,h3⟩:=h2.inv1
 exact⟨v,u,rfl,h1,h3⟩
theorem IsL.inv3{d e f:D}{vs:List V}(h:IsL K O H [d,e,f] vs):∃v u w,vs=[v,u,w]/\Is K O H d v/\Is K O H e u/\Is K O H f w:=by
 unfold IsL at h
 obtain⟨v,r,rfl,h1,h2⟩:=h
 obtain⟨u,w,rfl,h3,h4⟩:=h2.inv2
 exact⟨v,u,w,rfl,h1,h3,h4⟩
theorem Is.int_iff{i:Int}{v:V}:Is K O H (.int i) v↔v=.int i:=by unfold Is;exact Iff.rfl
theorem Is.bl_iff{b:Bool}{v:V}:Is K O H (.bl b) v↔v=.bl b:=by unfold Is;exact Iff.rfl
theorem Is.str_iff{s:List Nat}{v:V}:Is K O H (.str s) v↔v=.str ⟨s.toArray⟩:=by unfold Is;exact Iff.rfl
theorem Is.non_iff{v:V}:Is K O H .non v↔v=.non:=by unfold Is;exact Iff.rfl
theorem Is.ty_iff{n:String}{v:V}:Is K O H (.ty n) v↔v=.ty n:=by unfold Is;exact Iff.rfl
theorem Is.ref_iff{a:Addr}{v:V}:Is K O H (.ref a) v↔v=.ref a:=by unfold Is;exact Iff.rfl
theorem Is.tup_iff{l:List D}{v:V}:Is K O H (.tup l) v↔∃a xs,v=.ref a/\SqT K H a xs/\IsL K O H l xs:=by unfold Is;exact Iff.rfl
theorem Is.lst_iff{l:List D}{v:V}:Is K O H (.lst l) v↔∃a xs,v=.ref a/\LsAt K O H a xs/\IsL K O H l xs:=by unfold Is;exact Iff.rfl
theorem Is.dct_iff{ks:List Key}{l:List D}{v:V}:Is K O H (.dct ks l) v↔∃a kvs,v=.ref a/\¬O a/\Rd H a (.dK kvs)/\kvs.map (·.1)=ks/\IsL K O H l (kvs.map (·.2)):=by unfold Is;exact Iff.rfl
end
inductive Sl where
 |un|v (d:D)|o (l:List D)|p (l:List D)|z (l:List D)|d (ks:List Key) (l:List D)
noncomputable abbrev En:=List Sl
noncomputable def Sl.own:Sl->Option (List D)
 |.o l=>some l
 |.p l=>some l
 |.z l=>some l
 |.d _ l=>some l
 |_=>none
noncomputable def Sl.mt:Sl->Option (List D)
 |.o l=>some l
 |.p l=>some l
 |.d _ l=>some l
 |_=>none
noncomputable def Sl.ls:Sl->Option (List D)
 |.o l=>some l
 |.p l=>some l
 |.z l=>some l
 |_=>none
noncomputable def Sl.ml:Sl->Option (List D)
 |.o l=>some l
 |.p l=>some l
 |_=>none
theorem zCQ{x:Sl}{l:List D}(h:x.ml=some l):x.mt=some l/\x.ls=some l:=by
 cases x<;>first|(cases h;exact⟨rfl,rfl⟩)|cases h
theorem zGT{x:Option Sl}{l:List D}(h:x.bind Sl.ml=some l):x.bind Sl.mt=some l:=by
 cases x with
 |none=>cases h
 |some x=>exact(zCQ (x:=x) h).1
theorem zGU{x:Sl}{l:List D}(h:x.ls=some l):x.own=some l:=by
 cases x<;>first|(cases h;rfl)|cases h
theorem qT{x:Option Sl}{l:List D}(h:x.bind Sl.ls=some l):x.bind Sl.own=some l:=by
 cases x with
 |none=>cases h
 |some x=>exact zGU (x:=x) h
theorem zB9{x:Option Sl}{l:List D}(h:x.bind Sl.own=some l):x.bind Sl.ls=some l\/∃ks,x=some (.d ks l):=by
 cases x with
 |none=>cases h
 |some x=>cases x<;>first|(cases h;exact .inl rfl)|(cases h;exact .inr ⟨_,rfl⟩)|cases h
noncomputable def AtS(q:Sl->Option (List D))(r:En)(σ:St)(a:Addr):Prop:=∃(i:Nat) (l:List D),(r[i]?).bind q=some l/\σ[i]?=some (some (.ref a))
noncomputable abbrev wS:=AtS Sl.own
noncomputable abbrev MutAt:=AtS Sl.mt
theorem kL{x:Sl}{l:List D}(h:x.mt=some l):x.own=some l:=by
 cases x<;>first|(cases h;rfl)|cases h
theorem MutAt.own{r:En}{σ:St}{a:Addr}(h:MutAt r σ a):wS r σ a:=by
 obtain⟨i,l,e,q⟩:=h
 obtain⟨x,e1,e2⟩:=Option.bind_eq_some_iff.mp e
 exact⟨i,l,by rw[e1];exact kL e2,q⟩
noncomputable def Ow(O0:Addr->Prop)(r:En)(σ:St):Addr->Prop:=fun a=>O0 a\/wS r σ a
structure R(K:Fg)(O0:Addr->Prop)(H:Hp)(r:En)(σ:St):Prop where
 len:r.length=σ.length
 val:∀(i:Nat) (d:D),r[i]?=some (.v d)->∃v,σ[i]?=some (some v)/\Is K (Ow O0 r σ) H d v
 own:∀(i:Nat) (l:List D),(r[i]?).bind Sl.ls=some l->∃a xs,σ[i]?=some (some (.ref a))/\H a=some (.lst xs)/\IsL K (Ow O0 r σ) H l xs
 apart:∀(i j:Nat) (a:Addr) (l m:List D),(r[i]?).bind Sl.own=some l->(r[j]?).bind Sl.own=some m->σ[i]?=some (some (.ref a))->σ[j]?=some (some (.ref a))->i=j
 o0:qV O0 H
 loc:∀(i:Nat) (l:List D) (a:Addr),(r[i]?=some (.o l)\/r[i]?=some (.z l)\/∃ks,r[i]?=some (.d ks l))->σ[i]?=some (some (.ref a))->¬O0 a
 par:∀(i:Nat) (l:List D) (a:Addr),r[i]?=some (.p l)->σ[i]?=some (some (.ref a))->O0 a
 dct:∀(i:Nat) (ks:List Key) (l:List D),r[i]?=some (.d ks l)->∃a kvs,σ[i]?=some (some (.ref a))/\H a=some (.dK kvs)/\kvs.map (·.1)=ks/\IsL K (Ow O0 r σ) H l (kvs.map (·.2))
theorem R.obj{K:Fg}{O0:Addr->Prop}{H:Hp}{r:En}{σ:St}(h:R K O0 H r σ){j:Nat}{m:List D}(e:(r[j]?).bind Sl.own=some m):∃a o,σ[j]?=some (some (.ref a))/\H a=some o/\Mb o:=by
 rcases zB9 e with e|⟨ks,e⟩
 ·obtain⟨a,xs,e1,e2,_⟩:=h.own j m e
  exact⟨a,_,e1,e2,trivial⟩
 ·obtain⟨a,kvs,e1,e2,_⟩:=h.dct j ks m e
  exact⟨a,_,e1,e2,trivial⟩
theorem R.ol{K:Fg}{O0:Addr->Prop}{H:Hp}{r:En}{σ:St}(h:R K O0 H r σ):qV (Ow O0 r σ) H:=fun a z=>by
 rcases z with z|⟨i,l,e,q⟩
 ·exact h.o0 a z
 ·rcases zB9 e with e|⟨ks,e⟩
  ·obtain⟨b,xs,e1,e2,_⟩:=h.own i l e
   rw[q] at e1;cases e1
   exact⟨.lst xs,e2,trivial⟩
  ·obtain⟨b,kvs,e1,e2,_⟩:=h.dct i ks l e
   rw[q] at e1;cases e1
   exact⟨.dK kvs,e2,trivial⟩
theorem R.nofresh{K:Fg}{O0:Addr->Prop}{H:Hp}{r:En}{σ:St}(h:R K O0 H r σ){a:Addr}(n:H a=none):¬Ow O0 r σ a:=fun z=>by
 obtain⟨o,e,_⟩:=h.ol a z
 rw[n] at e;cases e
theorem R.same{K:Fg}{O0:Addr->Prop}{H H':Hp}{r:En}{σ:St}(h:R K O0 H r σ)(s:Same H H'):R K O0 H' r σ where
 len:=h.len
 val:=fun i d e=>by obtain⟨v,e1,q⟩:=h.val i d e;exact⟨v,e1,q.same s h.ol⟩
 own:=fun i l e=>by obtain⟨a,xs,e1,e2,q⟩:=h.own i l e;exact⟨a,xs,e1,s _ _ e2,q.same s h.ol⟩
 dct:=fun i ks l e=>by obtain⟨a,kvs,e1,e2,e3,q⟩:=h.dct i ks l e;exact⟨a,kvs,e1,s _ _ e2,e3,q.same s h.ol⟩
 apart:=h.apart
 o0:=fun a z=>by obtain⟨xs,e,m⟩:=h.o0 a z;exact⟨xs,s _ _ e,m⟩
 loc:=h.loc
 par:=h.par
structure Kp(H:Hp)(r:En)(σ:St)(H':Hp)(r':En)(σ':St):Prop where
 keep:dB (MutAt r σ) H H'
 live:∀b,H' b=none->H b=none
 lst:∀b o,H b=some o->Mb o->∃o',H' b=some o'/\Mb o'
 new:∀b,wS r' σ' b->wS r σ b\/H b=none
 mnew:∀b,MutAt r' σ' b->MutAt r σ b\/H b=none
 par:∀(i:Nat) (l:List D),r[i]?=some (.p l)->(∃l',r'[i]?=some (.p l'))/\σ'[i]?=σ[i]?
 fz:∀(i:Nat) (l:List D),r[i]?=some (.z l)->r'[i]?=some (.z l)/\σ'[i]?=σ[i]?
theorem Kp.of_same{H H':Hp}(r:En)(σ:St)(s:Same H H'):Kp H r σ H' r σ:=
 ⟨fun b o e _=>s b o e,fun b e=>s.free e,fun b o e m=>⟨o,s _ _ e,m⟩,fun b z=>.inl z,fun b z=>.inl z,fun i l e=>⟨⟨l,e⟩,rfl⟩,fun i l e=>⟨e,rfl⟩⟩
theorem Kp.refl(H:Hp)(r:En)(σ:St):Kp H r σ H r σ:=.of_same r σ (Same.refl H)
theorem Kp.trans{H H1 H2:Hp}{r r1 r2:En}{σ σ1 σ2:St}(a:Kp H r σ H1 r1 σ1)(b:Kp H1 r1 σ1 H2 r2 σ2):Kp H r σ H2 r2 σ2 where
 keep:=fun c o e n=>b.keep c o (a.keep c o e n) fun z=>(a.mnew c z).elim n fun q=>by rw[e] at q;cases q
 live:=fun c e=>a.live c (b.live c e)
 lst:=fun c o e m=>by obtain⟨o1,q,m1⟩:=a.lst c o e m;exact b.lst c o1 q m1
 new:=fun c z=>(b.new c z).elim (a.new c) fun q=>.inr (a.live c q)
 mnew:=fun c z=>(b.mnew c z).elim (a.mnew c) fun q=>.inr (a.live c q)
 par:=fun i l e=>by
  obtain⟨⟨l1,e1⟩,q1⟩:=a.par i l e
  obtain⟨⟨l2,e2⟩,q2⟩:=b.par i l1 e1
  exact⟨⟨l2,e2⟩,q2.trans q1⟩
 fz:=fun i l e=>by
  obtain⟨e1,q1⟩:=a.fz i l e
  obtain⟨e2,q2⟩:=b.fz i l e1
  exact⟨e2,q2.trans q1⟩
theorem PE.conseq{X:Cx}{e:Expr}{t t':TE}(h:PE X e t)(i:∀σ H Q,t' σ H Q->t σ H Q):PE X e t':=fun pins s σ H Q I q=>h pins s σ H Q I (i σ H Q q)
theorem PT.conseq{X:Cx}{e:Expr}{t t':TT}(h:PT X e t)(i:∀σ H Q,t' σ H Q->t σ H Q):PT X e t':=fun pins s σ H Q I q=>h pins s σ H Q I (i σ H Q q)
theorem PA.conseq{X:Cx}{e:List Expr}{t t':TA}(h:PA X e t)(i:∀σ H Q,t' σ H Q->t σ H Q):PA X e t':=fun pos pins s σ H Q I q=>h pos pins s σ H Q I (i σ H Q q)
theorem PS.conseq{X:Cx}{st:Stmt}{t t':TS}(h:PS X st t)(i:∀D σ H,t' D σ H->t D σ H):PS X st t':=fun pins s σ H D I q=>h pins s σ H D I (i D σ H q)
theorem PSs.conseq{X:Cx}{st:List Stmt}{t t':TS}(h:PSs X st t)(i:∀D σ H,t' D σ H->t D σ H):PSs X st t':=fun pins s σ H D I q=>h pins s σ H D I (i D σ H q)
noncomputable abbrev ME:=En->Option D
noncomputable abbrev ML:=En->Option (List D)
noncomputable abbrev MB:=En->Option Bool
noncomputable def lE(K:Fg)(f:ME):TE:=fun σ H Q=>∃O0 r d,R K O0 H r σ/\f r=some d/\∀v H',Same H H'->Is K (Ow O0 r σ) H' d v->Q v H'
noncomputable def lT(K:Fg)(f:MB):TT:=fun σ H Q=>∃O0 r b,R K O0 H r σ/\f r=some b/\∀H',Same H H'->Q b H'
noncomputable def lA(K:Fg)(f:ML):TA:=fun σ H Q=>∃O0 r l,R K O0 H r σ/\f r=some l/\∀vs H',Same H H'->IsL K (Ow O0 r σ) H' l vs->Q vs H'
noncomputable def lF(K:Fg)(f:ML):TE:=fun σ H Q=>∃O0 r l,R K O0 H r σ/\f r=some l/\∀a xs H',Same H H'->H a=none->H' a=some (.lst xs)->IsL K (fun b=>Ow O0 r σ b\/b=a) H' l xs->Q (.ref a) H'
noncomputable def lB(K:Fg)(f:ML):TE:=fun σ H Q=>∃O0 r l,R K O0 H r σ/\f r=some l/\∀a xs H',Same H H'->SqL K H' a xs->IsL K (Ow O0 r σ) H' l xs->Q (.ref a) H'
noncomputable def lX(K:Fg)(f:En->Option (D×En)):TE:=fun σ H Q=>∃O0 r d r',R K O0 H r σ/\f r=some (d,r')/\∀v H',R K O0 H' r' σ->Kp H r σ H' r' σ->Is K (Ow O0 r' σ) H' d v->Q v H'
noncomputable def DE(X:Cx)(e:Expr)(f:ME):Prop:=PE X e (lE X.K f)
noncomputable def DT(X:Cx)(e:Expr)(f:MB):Prop:=PT X e (lT X.K f)
noncomputable def DA(X:Cx)(es:List Expr)(f:ML):Prop:=PA X es (lA X.K f)
noncomputable def DF(X:Cx)(e:Expr)(f:ML):Prop:=PE X e (lF X.K f)
noncomputable def DB(X:Cx)(e:Expr)(f:ML):Prop:=PE X e (lB X.K f)
noncomputable def DX(X:Cx)(e:Expr)(f:En->Option (D×En)):Prop:=PE X e (lX X.K f)
inductive Fl where
 |nx (r:En)|bk (r:En)|ct (r:En)|rt (d:D) (r:En)|rf (l:List D) (r:En)|rg (ks:List Key) (l:List D) (r:En)
noncomputable abbrev MS:=En->Option Fl
noncomputable def FrA(H:Hp)(r:En)(σ:St)(a:Addr):Prop:=H a=none\/∃(i:Nat) (l:List D),(r[i]?=some (.o l)\/∃ks,r[i]?=some (.d ks l))/\σ[i]?=some (some (.ref a))
noncomputable def PostS(K:Fg)(O0:Addr->Prop)(H:Hp)(r:En)(σ:St)(Dn:Ends):Fl->Prop
 |.nx r'=>∀σ' H',R K O0 H' r' σ'->Kp H r σ H' r' σ'->Dn.nx σ' H'
 |.bk r'=>∀σ' H',R K O0 H' r' σ'->Kp H r σ H' r' σ'->Dn.bk σ' H'
 |.ct r'=>∀σ' H',R K O0 H' r' σ'->Kp H r σ H' r' σ'->Dn.ct σ' H'
 |.rt d r'=>∀v σ' H',R K O0 H' r' σ'->Kp H r σ H' r' σ'->Is K O0 H' d v->Dn.rt v H'
 |.rf l r'=>∀a xs σ' H',R K O0 H' r' σ'->Kp H r σ H' r' σ'->FrA H r σ a->¬O0 a->H' a=some (.lst xs)->IsL K (fun b=>O0 b\/b=a) H' l xs->Dn.rt (.ref a) H'
 |.rg ks l r'=>∀a kvs σ' H',R K O0 H' r' σ'->Kp H r σ H' r' σ'->FrA H r σ a->¬O0 a->H' a=some (.dK kvs)->kvs.map (·.1)=ks->IsL K (fun b=>O0 b\/b=a) H' l (kvs.map (·.2))->Dn.rt (.ref a) H'
noncomputable def lS(K:Fg)(g:MS):TS:=fun Dn σ H=>∃O0 r fl,R K O0 H r σ/\g r=some fl/\PostS K O0 H r σ Dn fl
noncomputable def DS(X:Cx)(st:Stmt)(g:MS):Prop:=PS X st (lS X.K g)
noncomputable def DSs(X:Cx)(st:List Stmt)(g:MS):Prop:=PSs X st (lS X.K g)
theorem PostS.before{K:Fg}{O0:Addr->Prop}{H H1:Hp}{r r1:En}{σ σ1:St}{Dn:Ends}{fl:Fl}(R1:R K O0 H1 r1 σ1)(k:Kp H r σ H1 r1 σ1)(h:PostS K O0 H r σ Dn fl):PostS K O0 H1 r1 σ1 Dn fl:=by
 have fra:∀a,FrA H1 r1 σ1 a->FrA H r σ a:=fun a z=>by
  rcases z with z|⟨i,l,e,q⟩
  ·exact .inl (k.live a z)
  ·have eo:(r1[i]?).bind Sl.own=some l:=by rcases e with e|⟨ks,e⟩<;>rw[e]<;>rfl
   have np:∀l2,r1[i]?≠some (.p l2):=fun l2 z=>by rcases e with e|⟨ks,e⟩<;>rw[e] at z<;>cases z
   have nz:∀l2,r1[i]?≠some (.z l2):=fun l2 z=>by rcases e with e|⟨ks,e⟩<;>rw[e] at z<;>cases z
   rcases k.new a ⟨i,l,eo,q⟩ with⟨j,m,e2,q2⟩|z
   ·cases ej:r[j]? with
    |none=>rw[ej] at e2;cases e2
    |some x=>
     rw[ej] at e2
     cases x with
     |un=>cases e2
     |v d=>cases e2
     |o l'=>exact .inr ⟨j,l',.inl ej,q2⟩
     |p l'=>
      obtain⟨⟨l2,e3⟩,q3⟩:=k.par j l' ej
      have:=R1.apart i j a l l2 eo (by rw[e3];rfl) q (q3.trans q2)
      subst this
      exact absurd e3 (np _)
     |z l'=>
      obtain⟨e3,q3⟩:=k.fz j l' ej
      have:=R1.apart i j a l l' eo (by rw[e3];rfl) q (q3.trans q2)
      subst this
      exact absurd e3 (nz _)
     |d ks l'=>exact .inr ⟨j,l',.inr ⟨ks,ej⟩,q2⟩
   ·exact .inl z
 cases fl with
 |nx r'=>exact fun σ' H' h1 h2=>h σ' H' h1 (k.trans h2)
 |bk r'=>exact fun σ' H' h1 h2=>h σ' H' h1 (k.trans h2)
 |ct r'=>exact fun σ' H' h1 h2=>h σ' H' h1 (k.trans h2)
 |rt d r'=>exact fun v σ' H' h1 h2 h3=>h v σ' H' h1 (k.trans h2) h3
 |rf l r'=>exact fun a xs σ' H' h1 h2 h3 h4 h5 h6=>h a xs σ' H' h1 (k.trans h2) (fra a h3) h4 h5 h6
 |rg ks l r'=>exact fun a xs σ' H' h1 h2 h3 h4 h5 h6 h7=>h a xs σ' H' h1 (k.trans h2) (fra a h3) h4 h5 h6 h7
noncomputable def mC(d:D):ME:=fun _=>some d
noncomputable def zD(i:Nat):ME:=fun r=>match r[i]? with
 |some (.v d)=>some d
 |_=>none
noncomputable def rK(i:Nat):ML:=fun r=>(r[i]?).bind Sl.ls
noncomputable def zG(m:D->D->Option D)(f g:ME):ME:=fun r=>(f r).bind fun x=>(g r).bind fun y=>m x y
noncomputable def mUn(m:D->Option D)(f:ME):ME:=fun r=>(f r).bind m
noncomputable def zQ:ML:=fun _=>some []
noncomputable def zA(f:ME)(g:ML):ML:=fun r=>(f r).bind fun x=>(g r).bind fun l=>some (x::l)
noncomputable def yW(f:ML):ME:=fun r=>(f r).bind fun l=>if l.length<=sizeLine then some (.tup l) else none
noncomputable def xB(f:ML):ML:=fun r=>(f r).bind fun l=>if l.length<=sizeLine then some l else none
noncomputable def qI(f:ML):ME:=fun r=>(f r).map .lst
noncomputable def zJQ(f g:ME):ME:=fun r=>(f r).bind fun d=>match d with
 |.bl true=>g r
 |.bl false=>some (.bl false)
 |_=>none
noncomputable def zK8:D->Option D
 |.bl b=>some (.bl !b)
 |_=>none
noncomputable def wM(f g:MB):MB:=fun r=>(f r).bind fun b=>if b=true then g r else some false
noncomputable def zJO(f g:MB):MB:=fun r=>(f r).bind fun b=>if b=true then some true else g r
noncomputable def YZ(f:MB):MB:=fun r=>(f r).map (!·)
noncomputable def mIf(c:MB)(f g:ME):ME:=fun r=>(c r).bind fun b=>if b=true then f r else g r
noncomputable def blD:D->Option Bool
 |.bl b=>some b
 |_=>none
noncomputable def mBl(f:ME):MB:=fun r=>(f r).bind blD
noncomputable def zKE:D->Option Bool
 |.non=>some false
 |.bl b=>some b
 |.int i=>some (i != 0)
 |.str s=>if s.length<=sizeLine then some (!s.isEmpty) else none
 |.tup l=>some (!l.isEmpty)
 |.lst l=>some (!l.isEmpty)
 |_=>none
noncomputable def YX(fl:ML):MB:=fun r=>(fl r).map fun l=>!l.isEmpty
noncomputable def gZ(f:ME):MB:=fun r=>(f r).bind zKE
section
variable{X:Cx}{pos:Pos}{a b c:Expr}{f g:ME}
theorem bind_some{α β:Type}{o:Option α}{h:α->Option β}{y:β}(e:o.bind h=some y):∃x,o=some x/\h x=some y:=by
 cases o with
 |none=>cases e
 |some x=>exact⟨x,rfl,e⟩
theorem zIC{t:TE}(h:PE X a t)(i:∀O0 σ H r d Q,R X.K O0 H r σ->f r=some d->(∀v H',Same H H'->Is X.K (Ow O0 r σ) H' d v->Q v H')->t σ H Q):DE X a f:=
 PE.conseq h fun σ H Q ⟨O0,r,d,hR,e,q⟩=>i O0 σ H r d Q hR e q
theorem zC(i:Nat){x:Str}(h:PE X (.Name x pos) (jY i)):DE X (.Name x pos) (zD i):=
 zIC h fun O0 σ H r d Q hR e q=>by
  unfold zD at e
  have e':r[i]?=some (.v d):=by
   split at e
   ·rename_i d' h;cases e;exact h
   ·cases e
  obtain⟨v,e1,q1⟩:=hR.val i d e'
  exact⟨v,e1,q v H (Same.refl H) q1⟩
theorem u5(i:Nat){x:Str}(h:PE X (.Name x pos) (jY i)):DB X (.Name x pos) (rK i):=
 PE.conseq h fun σ H Q ⟨O0,r,l,hR,e,q⟩=>by
  obtain⟨a,xs,e1,e2,q1⟩:=hR.own i l e
  exact⟨.ref a,e1,q a xs H (Same.refl H) (SqL.of e2) q1⟩
theorem mJ{v:V}{d:D}(h:PE X a (tC v))(hd:∀O H,Is X.K O H d v):DE X a (mC d):=
 zIC h fun O0 σ H r d' Q hR e q=>by
  unfold mC at e
  cases e
  exact q v H (Same.refl H) (hd _ _)
theorem zH{i j}:DE X (.Constant (.int i) j pos) (mC (.int i)):=mJ nJ fun O H=>by unfold Is;rfl
theorem ZQ{i j}:DE X (.Constant (.bool i) j pos) (mC (.bl i)):=mJ zJE fun O H=>by unfold Is;rfl
theorem ZO{j}:DE X (.Constant .none j pos) (mC .non):=mJ zB4 fun O H=>by unfold Is;rfl
theorem zU{x:Str}{s:List Nat}{j}(e:x.cps.toList=s:=by rfl):DE X (.Constant (.str x) j pos) (mC (.str s)):=mJ zGB fun O H=>by
 unfold Is;subst e;simp
noncomputable def OpD(K:Fg)(r2:R2)(m:D->D->Option D):Prop:=∀(O:Addr->Prop) (H:Hp) (dx dy d:D) (vx vy:V) (Q:VK),qV O H->Is K O H dx vx->Is K O H dy vy->m dx dy=some d->(∀v H',Same H H'->Is K O H' d v->Q v H')->r2 vx vy H Q
theorem two{ta tb:TE}{r2:R2}{m:D->D->Option D}(hd:OpD X.K r2 m){σ:St}{H:Hp}{Q:VK}(h:lE X.K (zG m f g) σ H Q):tOp r2 (lE X.K f) (lE X.K g) σ H Q:=by
 obtain⟨O0,r,d,hR,e,q⟩:=h
 obtain⟨x,e1,e⟩:=bind_some e
 obtain⟨y,e2,e⟩:=bind_some e
 refine⟨O0,r,x,hR,e1,fun v1 H1 s1 i1=>⟨O0,r,y,hR.same s1,e2,fun v2 H2 s2 i2=>?_⟩⟩
 exact hd (Ow O0 r σ) H2 x y d v1 v2 Q (hR.same (s1.trans s2)).ol (i1.same s2 (hR.same s1).ol) i2 e fun v H' s' i'=>q v H' ((s1.trans s2).trans s') i'
theorem zO{op:Operator}{r2:R2}{m:D->D->Option D}(ho:OpR X (binaryOp op) r2)(hd:OpD X.K r2 m)(ha:DE X a f)(hb:DE X b g):DE X (.BinOp a op b pos) (zG m f g):=
 PE.conseq (zHY ho ha hb) fun σ H Q h=>two (ta:=lE X.K f) (tb:=lE X.K g) hd h
theorem JN{op:CmpOp}{r2:R2}{m:D->D->Option D}(ho:OpR X (compareOp op) r2)(hd:OpD X.K r2 m)(ha:DE X a f)(hb:DE X b g)(hm:behindInMarks op b=false):DE X (.Compare a [op] [b] pos) (zG m f g):=
 PE.conseq (zB8 ho ha hb hm) fun σ H Q h=>two (ta:=lE X.K f) (tb:=lE X.K g) hd h
theorem yU{op:CmpOp}{r2:R2}{m:D->D->Option D}(ho:OpR X (compareOp op) r2)(hd:OpD X.K r2 m)(ha:DE X a f)(hb:DE X b g)(hm:behindInMarks op b=false):DT X (.Compare a [op] [b] pos) (mBl (zG m f g)):=by
 refine PT.conseq (YL ho ha hb hm) fun σ H Q h=>?_
 obtain⟨O0,r,k,hR,e,q⟩:=h
 obtain⟨d,e1,e⟩:=bind_some e
 refine two (ta:=lE X.K f) (tb:=lE X.K g) (m:=m) hd ⟨O0,r,d,hR,e1,fun v H' s' i'=>?_⟩
 cases d<;>first|cases e|skip
 rw[Is.bl_iff] at i'
 exact⟨_,i',q H' s'⟩
theorem zJ2{op:UnaryOp}{r1:V->Hp->VK->Prop}{m:D->Option D}(ho:UnR X (unaryOp op) r1)(hd:∀(O:Addr->Prop) (H:Hp) (dx d:D) (vx:V) (Q:VK),Is X.K O H dx vx->m dx=some d->(∀v,Is X.K O H d v->Q v H)->r1 vx H Q)(ha:DE X a f):DE X (.UnaryOp op a pos) (mUn m f):=by
 refine PE.conseq (zHX ho ha) fun σ H Q h=>?_
 obtain⟨O0,r,d,hR,e,q⟩:=h
 obtain⟨x,e1,e⟩:=bind_some e
 exact⟨O0,r,x,hR,e1,fun v1 H1 s1 i1=>hd _ H1 x d v1 Q i1 e fun v i=>q v H1 s1 i⟩
theorem zD9{op}(h:DE X a f):DE X (.BoolOp op [a] pos) f:=zGC h
theorem zEG{rest:List Expr}(ha:DE X a f)(hb:DE X (.BoolOp .And (b::rest) pos) g):DE X (.BoolOp .And (a::b::rest) pos) (zJQ f g):=by
 refine PE.conseq (zGE ha hb) fun σ H Q h=>?_
 obtain⟨O0,r,d,hR,e,q⟩:=h
 obtain⟨x,e1,e⟩:=bind_some e
 refine⟨O0,r,x,hR,e1,fun v1 H1 s1 i1=>?_⟩
 cases x with
 |bl k=>
  rw[Is.bl_iff] at i1
  refine⟨k,i1,?_⟩
  cases k with
  |true=>
   rw[if_pos rfl]
   exact⟨O0,r,d,hR.same s1,e,fun v H' s' i'=>q v H' (s1.trans s') i'⟩
  |false=>
   rw[if_neg Bool.false_ne_true]
   cases e
   exact q _ H1 s1 (by rw[Is.bl_iff])
 |_=>cases e
theorem zHG(ha:DE X a f):DE X (.UnaryOp .Not a pos) (mUn zK8 f):=by
 refine PE.conseq (zGD ha) fun σ H Q h=>?_
 obtain⟨O0,r,d,hR,e,q⟩:=h
 obtain⟨x,e1,e⟩:=bind_some e
 refine⟨O0,r,x,hR,e1,fun v1 H1 s1 i1=>?_⟩
 cases x with
 |bl k=>
  rw[Is.bl_iff] at i1
  cases e
  exact⟨k,i1,q _ H1 s1 (by rw[Is.bl_iff])⟩
 |_=>cases e
section
variable{tf tg:MB}
theorem vX(ha:DT X a tf):PW X (.BoolOp .And [a] pos) (lT X.K tf):=YI ha
theorem zHB(ha:DT X a tf):PW X (.BoolOp .Or [a] pos) (lT X.K tf):=zF1 ha
theorem PW.conseq{e:Expr}{t t':TT}(h:PW X e t)(i:∀σ H Q,t' σ H Q->t σ H Q):PW X e t':=fun wh pins s σ H Q I q=>h wh pins s σ H Q I (i σ H Q q)
theorem hZ{rest:List Expr}(ha:DT X a tf)(hb:PW X (.BoolOp .And (b::rest) pos) (lT X.K tg)):PW X (.BoolOp .And (a::b::rest) pos) (lT X.K (wM tf tg)):=by
 refine PW.conseq (zBO ha hb) fun σ H Q h=>?_
 obtain⟨O0,r,d,hR,e,q⟩:=h
 obtain⟨x,e1,e⟩:=bind_some e
 refine⟨O0,r,x,hR,e1,fun H1 s1=>?_⟩
 cases x with
 |true=>
  rw[if_pos rfl]
  exact⟨O0,r,d,hR.same s1,e,fun H' s'=>q H' (s1.trans s')⟩
 |false=>
  rw[if_neg Bool.false_ne_true]
  cases e
  exact q H1 s1
theorem zIA{rest:List Expr}(ha:DT X a tf)(hb:PW X (.BoolOp .Or (b::rest) pos) (lT X.K tg)):PW X (.BoolOp .Or (a::b::rest) pos) (lT X.K (zJO tf tg)):=by
 refine PW.conseq (zJA ha hb) fun σ H Q h=>?_
 obtain⟨O0,r,d,hR,e,q⟩:=h
 obtain⟨x,e1,e⟩:=bind_some e
 refine⟨O0,r,x,hR,e1,fun H1 s1=>?_⟩
 cases x with
 |true=>
  rw[if_pos rfl]
  cases e
  exact q H1 s1
 |false=>
  rw[if_neg Bool.false_ne_true]
  exact⟨O0,r,d,hR.same s1,e,fun H' s'=>q H' (s1.trans s')⟩
theorem zHC(h:PW X a (lT X.K tf)):DT X a tf:=h.pt
theorem zDW(ha:DT X a tf):DT X (.UnaryOp .Not a pos) (YZ tf):=by
 refine PT.conseq (zF4 ha) fun σ H Q h=>?_
 obtain⟨O0,r,d,hR,e,q⟩:=h
 unfold YZ at e
 cases e1:tf r with
 |none=>rw[e1] at e;cases e
 |some k=>
  rw[e1] at e;cases e
  exact⟨O0,r,k,hR,e1,fun H1 s1=>q H1 s1⟩
theorem zA3{K:Fg}{O:Addr->Prop}{H:Hp}{d:D}{v:V}{k:Bool}(h:Is K O H d v)(e:zKE d=some k):zKT K v H k:=by
 cases d with
 |dct ks l=>cases e
 |non=>rw[Is.non_iff] at h;subst h;cases e;rfl
 |bl b=>rw[Is.bl_iff] at h;subst h;cases e;rfl
 |int i=>rw[Is.int_iff] at h;subst h;cases e;rfl
 |str s=>
  rw[Is.str_iff] at h;subst h
  simp only[zKE] at e
  split at e
  ·rename_i hl
   cases e
   refine⟨by simpa [Str.length] using hl,?_⟩
   cases s with
   |nil=>rfl
   |cons c r=>
    have:((r.length:Int)+1)≠0:=by omega
    simpa [Str.length] using this
  ·cases e
 |tup l=>
  rw[Is.tup_iff] at h;obtain⟨a,xs,rfl,hs,hl⟩:=h;cases e
  refine .inr (.inl ⟨xs,hs,?_⟩)
  have:=hl.length
  cases l<;>cases xs<;>simp_all
 |lst l=>
  rw[Is.lst_iff] at h;obtain⟨a,xs,rfl,hs,hl⟩:=h;cases e
  refine .inl ⟨xs,hs.sq,?_⟩
  have:=hl.length
  cases l<;>cases xs<;>simp_all
 |ty n=>cases e
 |ref a=>cases e
theorem mD(ha:DE X a f)(he:∀whole,isTrue a X.env whole=(do let v <- whole;standAt a.pos;holding [v] (truthy v)):=by intro _;rfl):DT X a (gZ f):=by
 refine PT.conseq (dF ha he) fun σ H Q h=>?_
 obtain⟨O0,r,d,hR,e,q⟩:=h
 obtain⟨x,e1,e⟩:=bind_some e
 exact⟨O0,r,x,hR,e1,fun v1 H1 s1 i1=>⟨d,zA3 i1 e,q H1 s1⟩⟩
theorem XH{fl:ML}(ha:DB X a fl)(he:∀whole,isTrue a X.env whole=(do let v <- whole;standAt a.pos;holding [v] (truthy v)):=by intro _;rfl):DT X a (YX fl):=by
 refine PT.conseq (dF ha he) fun σ H Q h=>?_
 obtain⟨O0,r,d,hR,e,q⟩:=h
 unfold YX at e
 cases e1:fl r with
 |none=>rw[e1] at e;cases e
 |some l=>
  rw[e1] at e;cases e
  refine⟨O0,r,l,hR,e1,fun a xs H1 s1 i1 i2=>⟨_,.inl ⟨xs,i1,?_⟩,q H1 s1⟩⟩
  have:=i2.length
  cases l<;>cases xs<;>simp_all
theorem zID(hc:DT X c tf)(ha:DE X a f)(hb:DE X b g):DE X (.IfExp c a b pos) (mIf tf f g):=by
 refine PE.conseq (QB hc ha hb) fun σ H Q h=>?_
 obtain⟨O0,r,d,hR,e,q⟩:=h
 obtain⟨x,e1,e⟩:=bind_some e
 refine⟨O0,r,x,hR,e1,fun H1 s1=>?_⟩
 cases x with
 |true=>rw[if_pos rfl];exact⟨O0,r,d,hR.same s1,e,fun v H' s' i'=>q v H' (s1.trans s') i'⟩
 |false=>rw[if_neg Bool.false_ne_true];exact⟨O0,r,d,hR.same s1,e,fun v H' s' i'=>q v H' (s1.trans s') i'⟩
end
section
variable{es:List Expr}{fs:ML}
theorem zL:DA X [] zQ:=PA.conseq xH fun σ H Q ⟨O0,r,l,hR,e,q⟩=>by
 unfold zQ at e;cases e
 exact q [] H (Same.refl H) .nil
theorem zB(ha:DE X a f)(hr:DA X es fs)(hs:starEach (a::es) X.env=(false,eval a X.env)::starEach es X.env:=by rfl):DA X (a::es) (zA f fs):=by
 refine PA.conseq (yD ha hr hs) fun σ H Q h=>?_
 obtain⟨O0,r,d,hR,e,q⟩:=h
 obtain⟨x,e1,e⟩:=bind_some e
 obtain⟨l,e2,e⟩:=bind_some e
 cases e
 exact⟨O0,r,x,hR,e1,fun v1 H1 s1 i1=>⟨O0,r,l,hR.same s1,e2,fun vs H2 s2 i2=>q _ H2 (s1.trans s2) (.cons (i1.same s2 (hR.same s1).ol) i2)⟩⟩
theorem z3{H:Hp}{p:Addr}{o:HO}(n:H p=none):Same H (upd H p o):=fun b u e=>by rw[zM (xW e n)];exact e
theorem z6{x1}(h:DA X es fs):DE X (.Tuple es x1 pos) (yW fs):=by
 refine PE.conseq (zB2 h) fun σ H Q h=>?_
 obtain⟨O0,r,d,hR,e,q⟩:=h
 obtain⟨l,e1,e⟩:=bind_some e
 split at e
 ·rename_i hl
  cases e
  refine⟨O0,r,l,hR,e1,fun vs H1 s1 i1=>⟨by rw[<-i1.length];exact hl,fun p hp=>q _ _ (s1.trans (z3 hp)) ?_⟩⟩
  rw[Is.tup_iff]
  exact⟨p,vs,rfl,SqT.of zN,i1.same (z3 hp) (hR.same s1).ol⟩
 ·cases e
theorem wD(h:DA X es fs):DF X (.List es pos) (xB fs):=by
 refine PE.conseq (QA h) fun σ H Q h=>?_
 obtain⟨O0,r,l',hR,e,q⟩:=h
 obtain⟨l,e1,e⟩:=bind_some e
 split at e
 ·rename_i hl
  have e':l=l':=Option.some.inj e
  subst e'
  refine⟨O0,r,l,hR,e1,fun vs H1 s1 i1=>⟨by rw[<-i1.length];exact hl,fun p hp=>q _ _ _ (s1.trans (z3 hp)) (s1.free hp) zN ?_⟩⟩
  refine IsL.mono (Same.kp (z3 hp) _) (hR.same s1).ol (fun a z n=>?_) _ vs i1
  rcases z with z|z
  ·exact z
  ·subst z;exact absurd hp n
 ·cases e
theorem ZP{fl:ML}(h:DF X a fl):DE X a (qI fl):=by
 refine PE.conseq h fun σ H Q h=>?_
 obtain⟨O0,r,d,hR,e,q⟩:=h
 unfold qI at e
 cases e1:fl r with
 |none=>rw[e1] at e;cases e
 |some l=>
  rw[e1] at e;cases e
  refine⟨O0,r,l,hR,e1,fun p xs H1 s1 n1 e2 i1=>q _ H1 s1 ?_⟩
  rw[Is.lst_iff]
  have ol:qV (fun b=>Ow O0 r σ b\/b=p) H1:=fun b z=>z.elim (fun z=>(hR.same s1).ol b z) fun z=>by subst z;exact⟨.lst xs,e2,trivial⟩
  exact⟨p,xs,rfl,.inl ⟨hR.nofresh n1,.inl e2⟩,IsL.mono (Same.kp (Same.refl H1) _) ol (fun a z _=>.inl z) l xs i1⟩
end
end
noncomputable def xY:MS:=fun r=>some (.nx r)
noncomputable def z8(g h:MS):MS:=fun r=>(g r).bind fun fl=>match fl with
 |.nx r'=>h r'
 |x=>some x
noncomputable def yQ(i:Nat)(d:D)(r:En):Option En:=match r[i]? with
 |some (.p _)=>none
 |some (.z _)=>none
 |some _=>some (r.set i (.v d))
 |none=>none
noncomputable def zKJ(i:Nat)(l:List D)(r:En):Option En:=match r[i]? with
 |some (.p _)=>none
 |some (.z _)=>none
 |some _=>some (r.set i (.o l))
 |none=>none
noncomputable def xE(i:Nat)(f:ME):MS:=fun r=>(f r).bind fun d=>(yQ i d r).map .nx
noncomputable def WR(i:Nat)(f:ML):MS:=fun r=>(f r).bind fun l=>(zKJ i l r).map .nx
noncomputable def jL(f:ME):MS:=fun r=>(f r).map fun d=>.rt d r
noncomputable def gD(i:Nat):MS:=fun r=>match r[i]? with
 |some (.o l)=>some (.rf l r)
 |_=>none
noncomputable def sIf(c:MB)(g h:MS):MS:=fun r=>(c r).bind fun b=>if b=true then g r else h r
noncomputable def sX(f:En->Option (D×En)):MS:=fun r=>(f r).map fun p=>.nx p.2
noncomputable def J0(i:Nat)(f:En->Option (D×En)):MS:=fun r=>(f r).bind fun p=>(yQ i p.1 p.2).map .nx
noncomputable def j3:Nat->MB->MS->MS
 |0,_,_=>fun _=>none
 |n+1,c,g=>fun r=>(c r).bind fun b=>if b=true then (g r).bind fun fl=>match fl with
   |.nx r'=>j3 n c g r'
   |.ct r'=>j3 n c g r'
   |.bk r'=>some (.nx r')
   |x=>some x
  else some (.nx r)
noncomputable def Z4(bd:D->En->Option En)(g:MS):List D->MS
 |[],r=>some (.nx r)
 |d::l,r=>(bd d r).bind fun r1=>(g r1).bind fun fl=>match fl with
   |.nx r'=>Z4 bd g l r'
   |.ct r'=>Z4 bd g l r'
   |.bk r'=>some (.nx r')
   |x=>some x
noncomputable def mX(bd:D->En->Option En)(it:ML)(g:MS):MS:=fun r=>(it r).bind fun l=>Z4 bd g l r
theorem zE{α:Type}{l:List α}{i j:Nat}{x:α}(h:i≠j):(l.set i x)[j]?=l[j]?:=by rw[List.getElem?_set];simp[h]
theorem zK{α:Type}{l:List α}{i:Nat}{x:α}(h:i<l.length):(l.set i x)[i]?=some x:=by rw[List.getElem?_set];simp[h]
section
variable{K:Fg}{O0:Addr->Prop}{H H1:Hp}{r:En}{σ:St}{i:Nat}{d:D}{v:V}
theorem dG{q:Sl->Option (List D)}(hq:∀d,q (.v d)=none){a:Addr}{x:Option V}(h:AtS q (r.set i (.v d)) (σ.set i x) a):AtS q r σ a:=by
 obtain⟨j,l,e,q'⟩:=h
 by_cases hj:i=j
 ·subst hj
  by_cases hl:i<r.length
  ·rw[zK hl] at e
   have e':q (.v d)=some l:=e
   rw[hq] at e';cases e'
  ·rw[List.getElem?_eq_none (by simpa using hl)] at e;cases e
 ·rw[zE hj] at e q'
  exact⟨j,l,e,q'⟩
theorem R.setv(h:R K O0 H r σ)(hi:i<r.length)(np:∀l,r[i]?≠some (.p l)/\r[i]?≠some (.z l))(hv:Is K (Ow O0 r σ) H d v):R K O0 H (r.set i (.v d)) (σ.set i (some v))/\Kp H r σ H (r.set i (.v d)) (σ.set i (some v)):=by
 have his:i<σ.length:=by rw[<-h.len];exact hi
 have sub:∀a,Ow O0 (r.set i (.v d)) (σ.set i (some v)) a->H a≠none->Ow O0 r σ a:=fun a z _=>z.elim .inl fun z=>.inr (dG (fun _=>rfl) z)
 have ne:∀(j:Nat) (l:List D),((r.set i (.v d))[j]?).bind Sl.own=some l->i≠j:=fun j l e z=>by subst z;rw[zK hi] at e;cases e
 refine⟨⟨by simp[h.len],fun j d' e=>?_,fun j l e=>?_,fun j k a l m e1 e2 q1 q2=>?_,h.o0,fun j l a e q=>?_,fun j l a e q=>?_,fun j ks l e=>?_⟩,⟨fun b o e _=>e,fun b e=>e,fun b o e m=>⟨o,e,m⟩,fun b z=>.inl (dG (fun _=>rfl) z),fun b z=>.inl (dG (fun _=>rfl) z),fun j l e=>?_,fun j l e=>?_⟩⟩
 ·by_cases hj:i=j
  ·subst hj
   rw[zK hi] at e;cases e
   exact⟨v,zK his,Is.mono (Same.kp (Same.refl H) _) h.ol sub _ _ hv⟩
  ·rw[zE hj] at e
   obtain⟨u,e1,q⟩:=h.val j d' e
   exact⟨u,by rw[zE hj];exact e1,Is.mono (Same.kp (Same.refl H) _) h.ol sub _ _ q⟩
 ·have hj:=ne j l (qT e)
  rw[zE hj] at e
  obtain⟨a,xs,e1,e2,q⟩:=h.own j l e
  exact⟨a,xs,by rw[zE hj];exact e1,e2,IsL.mono (Same.kp (Same.refl H) _) h.ol sub _ _ q⟩
 ·have hj:=ne j l e1
  have hk:=ne k m e2
  rw[zE hj] at e1 q1
  rw[zE hk] at e2 q2
  exact h.apart j k a l m e1 e2 q1 q2
 ·have hj:i≠j:=ne j l (by rcases e with e|e|⟨ks,e⟩<;>rw[e]<;>rfl)
  rw[zE hj] at e q
  exact h.loc j l a e q
 ·have hj:i≠j:=ne j l (by rw[e];rfl)
  rw[zE hj] at e q
  exact h.par j l a e q
 ·have hj:=ne j l (by rw[e];rfl)
  rw[zE hj] at e
  obtain⟨a,kvs,e1,e2,e3,q⟩:=h.dct j ks l e
  exact⟨a,kvs,by rw[zE hj];exact e1,e2,e3,IsL.mono (Same.kp (Same.refl H) _) h.ol sub _ _ q⟩
 ·have hj:i≠j:=fun z=>by subst z;exact(np l).1 e
  exact⟨⟨l,by rw[zE hj];exact e⟩,zE hj⟩
 ·have hj:i≠j:=fun z=>by subst z;exact(np l).2 e
  exact⟨by rw[zE hj];exact e,zE hj⟩
theorem R.seto{l:List D}{xs:List V}{p:Addr}(h:R K O0 H r σ)(s:Same H H1)(n:H p=none)(e:H1 p=some (.lst xs))(hl:IsL K (fun b=>Ow O0 r σ b\/b=p) H1 l xs)(hi:i<r.length)(np:∀l,r[i]?≠some (.p l)/\r[i]?≠some (.z l)):R K O0 H1 (r.set i (.o l)) (σ.set i (some (.ref p)))/\Kp H r σ H1 (r.set i (.o l)) (σ.set i (some (.ref p))):=by
 have his:i<σ.length:=by rw[<-h.len];exact hi
 have ow:∀{q:Sl->Option (List D)} a,AtS q (r.set i (.o l)) (σ.set i (some (.ref p))) a->AtS q r σ a\/a=p:=fun {q} a z=>by
  obtain⟨j,m,e1,q1⟩:=z
  by_cases hj:i=j
  ·subst hj
   rw[zK his] at q1;cases q1;exact .inr rfl
  ·rw[zE hj] at e1 q1
   exact .inl ⟨j,m,e1,q1⟩
 have sub:∀a,Ow O0 (r.set i (.o l)) (σ.set i (some (.ref p))) a->H a≠none->Ow O0 r σ a:=fun a z nn=>z.elim .inl fun z=>(ow a z).elim .inr fun z=>by subst z;exact absurd n nn
 have olp:qV (fun b=>Ow O0 r σ b\/b=p) H1:=fun b z=>z.elim (fun z=>(h.same s).ol b z) fun z=>by subst z;exact⟨.lst xs,e,trivial⟩
 refine⟨⟨by simp[h.len],fun j d' e1=>?_,fun j m e1=>?_,fun j k a l1 m e1 e2 q1 q2=>?_,(h.same s).o0,fun j m a e1 q=>?_,fun j m a e1 q=>?_,fun j ks m e1=>?_⟩,⟨fun b o e1 _=>s b o e1,fun b e1=>s.free e1,fun b o e1 mb=>⟨o,s _ _ e1,mb⟩,fun b z=>(ow b z).imp id fun z=>by subst z;exact n,fun b z=>(ow b z).imp id fun z=>by subst z;exact n,fun j m e1=>?_,fun j m e1=>?_⟩⟩
 ·have hj:i≠j:=fun z=>by subst z;rw[zK hi] at e1;cases e1
  rw[zE hj] at e1
  obtain⟨u,e2,q⟩:=h.val j d' e1
  exact⟨u,by rw[zE hj];exact e2,Is.mono (Same.kp s _) h.ol sub _ _ q⟩
 ·by_cases hj:i=j
  ·subst hj
   rw[zK hi] at e1;cases e1
   refine⟨p,xs,zK his,e,IsL.mono (Same.kp (Same.refl H1) _) olp (fun a z _=>z.elim (fun z=>.inl (.inl z)) fun z=>(ow a z).imp .inr id) _ _ hl⟩
  ·rw[zE hj] at e1
   obtain⟨a,ys,e2,e3,q⟩:=h.own j m e1
   exact⟨a,ys,by rw[zE hj];exact e2,s _ _ e3,IsL.mono (Same.kp s _) h.ol sub _ _ q⟩
 ·have out:∀(j:Nat) (m:List D) (a:Addr),i≠j->((r.set i (.o l))[j]?).bind Sl.own=some m->(σ.set i (some (.ref p)))[j]?=some (some (.ref a))->a≠p:=fun j m a hj e1 q1 z=>by
   rw[zE hj] at e1 q1
   obtain⟨b,ys,e2,e3,_⟩:=h.obj e1
   rw[q1] at e2;cases e2
   subst z
   rw[n] at e3;cases e3
  by_cases hj:i=j
  ·by_cases hk:i=k
   ·exact hj.symm.trans hk
   ·subst hj
    rw[zK his] at q1;cases q1
    exact absurd rfl (out k m p hk e2 q2)
  ·by_cases hk:i=k
   ·subst hk
    rw[zK his] at q2;cases q2
    exact absurd rfl (out j l1 p hj e1 q1)
   ·rw[zE hj] at e1 q1
    rw[zE hk] at e2 q2
    exact h.apart j k a l1 m e1 e2 q1 q2
 ·by_cases hj:i=j
  ·subst hj
   rw[zK his] at q;cases q
   exact fun z=>by obtain⟨ys,e3,_⟩:=h.o0 p z;rw[n] at e3;cases e3
  ·rw[zE hj] at e1 q
   exact h.loc j m a e1 q
 ·have hj:i≠j:=fun z=>by subst z;rw[zK hi] at e1;cases e1
  rw[zE hj] at e1 q
  exact h.par j m a e1 q
 ·have hj:i≠j:=fun z=>by subst z;rw[zK hi] at e1;cases e1
  rw[zE hj] at e1
  obtain⟨a,kvs,e2,e3,e4,q⟩:=h.dct j ks m e1
  exact⟨a,kvs,by rw[zE hj];exact e2,s _ _ e3,e4,IsL.mono (Same.kp s _) h.ol sub _ _ q⟩
 ·have hj:i≠j:=fun z=>by subst z;exact(np m).1 e1
  exact⟨⟨m,by rw[zE hj];exact e1⟩,zE hj⟩
 ·have hj:i≠j:=fun z=>by subst z;exact(np m).2 e1
  exact⟨by rw[zE hj];exact e1,zE hj⟩
theorem qH{r':En}(e:yQ i d r=some r'):i<r.length/\(∀l,r[i]?≠some (.p l)/\r[i]?≠some (.z l))/\r'=r.set i (.v d):=by
 unfold yQ at e
 cases e1:r[i]? with
 |none=>rw[e1] at e;cases e
 |some x=>
  have hi:i<r.length:=(List.getElem?_eq_some_iff.mp e1).1
  rw[e1] at e
  cases x with
  |p l=>cases e
  |z l=>cases e
  |_=>cases e;exact⟨hi,fun l=>⟨(fun z=>by cases z),(fun z=>by cases z)⟩,rfl⟩
theorem rZ{r':En}{l:List D}(e:zKJ i l r=some r'):i<r.length/\(∀l,r[i]?≠some (.p l)/\r[i]?≠some (.z l))/\r'=r.set i (.o l):=by
 unfold zKJ at e
 cases e1:r[i]? with
 |none=>rw[e1] at e;cases e
 |some x=>
  have hi:i<r.length:=(List.getElem?_eq_some_iff.mp e1).1
  rw[e1] at e
  cases x with
  |p l=>cases e
  |z l=>cases e
  |_=>cases e;exact⟨hi,fun l=>⟨(fun z=>by cases z),(fun z=>by cases z)⟩,rfl⟩
theorem map_some{α β:Type}{o:Option α}{h:α->β}{y:β}(e:o.map h=some y):∃x,o=some x/\h x=y:=by
 cases o with
 |none=>cases e
 |some x=>exact⟨x,rfl,Option.some.inj e⟩
theorem Is.less{O:Addr->Prop}(h:R K O0 H r σ)(hi:Is K (Ow O0 r σ) H1 d v)(s:Same H H1):Is K O0 H1 d v:=Is.mono (Same.kp (Same.refl H1) _) (h.same s).ol (fun _ z _=>.inl z) _ _ hi
end
section
variable{X:Cx}{pos:Pos}{e:Expr}{f:ME}{fl:ML}{g h:MS}{st:Stmt}{rest:List Stmt}
theorem wK:DSs X [] xY:=PSs.conseq YM fun Dn σ H ⟨O0,r,f',hR,e,q⟩=>by
 unfold xY at e;cases e
 exact q σ H hR (Kp.refl H r σ)
theorem zJ(h1:DS X st g)(h2:DSs X rest h):DSs X (st::rest) (z8 g h):=by
 refine PSs.conseq (qM h1 h2) fun Dn σ H hq=>?_
 obtain⟨O0,r,fl,hR,e,q⟩:=hq
 obtain⟨f1,e1,e2⟩:=bind_some e
 cases f1 with
 |nx r1=>exact⟨O0,r,.nx r1,hR,e1,fun σ' H' R' k=>⟨O0,r1,fl,R',e2,q.before R' k⟩⟩
 |bk r1=>cases e2;exact⟨O0,r,_,hR,e1,q⟩
 |ct r1=>cases e2;exact⟨O0,r,_,hR,e1,q⟩
 |rt d r1=>cases e2;exact⟨O0,r,_,hR,e1,q⟩
 |rf l r1=>cases e2;exact⟨O0,r,_,hR,e1,q⟩
 |rg ks l r1=>cases e2;exact⟨O0,r,_,hR,e1,q⟩
theorem zW(h1:DS X st g):DSs X [st] g:=gI h1
theorem z5(i:Nat){x:Str}{pos':Pos}(he:DE X e f)(hN:X.N.Nodup)(hi:X.N[i]?=some x:=by rfl)(hx:Loc X.env.scope x:=by first|exact Or.inl rfl|exact Or.inr rfl)(hs:swapsWith e (some (.Name x pos')) pos.line X.env=pure false:=by rfl)(hf:X.fn x=true\/X.env.scope.names.lookup x=some .local:=by first|exact .inl rfl|exact .inr rfl):DS X (.Assign [.Name x pos'] e pos) (xE i f):=by
 refine PS.conseq (gJ hN hi hx he hs hf) fun Dn σ H hq=>?_
 obtain⟨O0,r,fl,hR,e,q⟩:=hq
 obtain⟨d,e1,e2⟩:=bind_some e
 obtain⟨r',e3,rfl⟩:=map_some e2
 obtain⟨hl,np,rfl⟩:=qH e3
 refine⟨O0,r,d,hR,e1,fun v H1 s1 i1=>?_⟩
 obtain⟨R1,k1⟩:=(hR.same s1).setv hl np i1
 exact q _ H1 R1 ((Kp.of_same r σ s1).trans k1)
theorem kS(i:Nat){x:Str}{pos':Pos}(he:DF X e fl)(hN:X.N.Nodup)(hi:X.N[i]?=some x:=by rfl)(hx:Loc X.env.scope x:=by first|exact Or.inl rfl|exact Or.inr rfl)(hs:swapsWith e (some (.Name x pos')) pos.line X.env=pure false:=by rfl)(hf:X.fn x=true\/X.env.scope.names.lookup x=some .local:=by first|exact .inl rfl|exact .inr rfl):DS X (.Assign [.Name x pos'] e pos) (WR i fl):=by
 refine PS.conseq (gJ hN hi hx he hs hf) fun Dn σ H hq=>?_
 obtain⟨O0,r,fl',hR,e,q⟩:=hq
 obtain⟨l,e1,e2⟩:=bind_some e
 obtain⟨r',e4,rfl⟩:=map_some e2
 obtain⟨hl,np,rfl⟩:=rZ e4
 refine⟨O0,r,l,hR,e1,fun p xs H1 s1 n1 e3 i1=>?_⟩
 obtain⟨R1,k1⟩:=hR.seto s1 n1 e3 i1 hl np
 exact q _ H1 R1 k1
theorem xC(he:DE X e f):DS X (.Return (some e) pos) (jL f):=by
 refine PS.conseq (tI he) fun Dn σ H hq=>?_
 obtain⟨O0,r,fl,hR,e,q⟩:=hq
 obtain⟨d,e1,rfl⟩:=map_some e
 exact⟨O0,r,d,hR,e1,fun v H1 s1 i1=>q v σ H1 (hR.same s1) (Kp.of_same r σ s1) (Is.less (O:=O0) hR i1 s1)⟩
theorem mE(i:Nat){x:Str}{pos':Pos}(h:PE X (.Name x pos') (jY i)):DS X (.Return (some (.Name x pos')) pos) (gD i):=by
 refine PS.conseq (tI h) fun Dn σ H hq=>?_
 obtain⟨O0,r,fl',hR,e,q⟩:=hq
 unfold gD at e
 have⟨l,e1,e2⟩:∃l,r[i]?=some (.o l)/\fl'=.rf l r:=by
  split at e
  ·rename_i l h;cases e;exact⟨l,h,rfl⟩
  ·cases e
 subst e2
 obtain⟨a,xs,q1,q2,q3⟩:=hR.own i l (by rw[e1];rfl)
 refine⟨.ref a,q1,q a xs σ H hR (Kp.refl H r σ) (.inr ⟨i,l,.inl e1,q1⟩) (hR.loc i l a (.inl e1) q1) q2 ?_⟩
 exact IsL.mono (Same.kp (Same.refl H) _) hR.ol (fun b z _=>z.elim .inl fun z=>by subst z;exact .inr ⟨i,l,by rw[e1];rfl,q1⟩) _ _ q3
theorem qU{c:Expr}{sa sb:List Stmt}{tc:MB}(hc:DT X c tc)(ha:DSs X sa g)(hb:DSs X sb h):DS X (.If c sa sb pos) (sIf tc g h):=by
 refine PS.conseq (zHU hc ha hb) fun Dn σ H hq=>?_
 obtain⟨O0,r,fl',hR,e,q⟩:=hq
 obtain⟨k,e1,e2⟩:=bind_some e
 refine⟨O0,r,k,hR,e1,fun H1 s1=>?_⟩
 have R1:=hR.same s1
 have q1:=PostS.before R1 (Kp.of_same r σ s1) q
 cases k with
 |true=>rw[if_pos rfl] at e2;exact zIK ⟨O0,r,fl',R1,e2,q1⟩
 |false=>rw[if_neg Bool.false_ne_true] at e2;exact zIL ⟨O0,r,fl',R1,e2,q1⟩
theorem zDY{fx:En->Option (D×En)}(he:DX X e fx)(hs:swapsWith e none pos.line X.env=pure false:=by rfl):DS X (.Expr e pos) (sX fx):=by
 refine PS.conseq (pD he hs) fun Dn σ H hq=>?_
 obtain⟨O0,r,fl',hR,e,q⟩:=hq
 obtain⟨⟨d,r'⟩,e1,rfl⟩:=map_some e
 exact⟨O0,r,d,r',hR,e1,fun v H1 R1 k1 i1=>q σ H1 R1 k1⟩
theorem zDZ(i:Nat){x:Str}{pos':Pos}{fx:En->Option (D×En)}(he:DX X e fx)(hN:X.N.Nodup)(hi:X.N[i]?=some x:=by rfl)(hx:Loc X.env.scope x:=by first|exact Or.inl rfl|exact Or.inr rfl)(hs:swapsWith e (some (.Name x pos')) pos.line X.env=pure false:=by rfl)(hf:X.fn x=true\/X.env.scope.names.lookup x=some .local:=by first|exact .inl rfl|exact .inr rfl):DS X (.Assign [.Name x pos'] e pos) (J0 i fx):=by
 refine PS.conseq (gJ hN hi hx he hs hf) fun Dn σ H hq=>?_
 obtain⟨O0,r,fl,hR,e,q⟩:=hq
 obtain⟨⟨d,r1⟩,e1,e2⟩:=bind_some e
 obtain⟨r',e3,rfl⟩:=map_some e2
 obtain⟨hl,np,rfl⟩:=qH e3
 refine⟨O0,r,d,r1,hR,e1,fun v H1 R1 k1 i1=>?_⟩
 obtain⟨R2,k2⟩:=R1.setv hl np i1
 exact q _ H1 R2 (k1.trans k2)
theorem p6(n:Nat){c:Expr}{body:List Stmt}{tc:MB}(hp:PassesOwn (model X.prog X.w) X.A X.env X.xe)(hc:DT X c tc)(hb:DSs X body g):DS X (.While c body [] pos) (j3 n tc g):=by
 refine PS.conseq (pC hp hc hb) fun Dn σ H hq=>?_
 obtain⟨O0,r,fl,hR,e,q⟩:=hq
 refine⟨fun m σ1 H1=>∃r1,R X.K O0 H1 r1 σ1/\Kp H r σ H1 r1 σ1/\j3 m tc g r1=some fl,⟨n,r,hR,Kp.refl H r σ,e⟩,?_⟩
 rintro m σ1 H1 ⟨r1,R1,k1,e1⟩
 cases m with
 |zero=>cases e1
 |succ m=>
  obtain⟨b,e2,e3⟩:=bind_some e1
  refine⟨O0,r1,b,R1,e2,fun H2 s2=>?_⟩
  have R2:=R1.same s2
  have k2:=k1.trans (Kp.of_same r1 σ1 s2)
  cases b with
  |false=>
   rw[if_neg Bool.false_ne_true] at e3
   cases e3
   exact zIL (q σ1 H2 R2 k2)
  |true=>
   rw[if_pos rfl] at e3
   obtain⟨f1,e4,e5⟩:=bind_some e3
   refine zIK ⟨fun σ3 H3=>∃r3,R X.K O0 H3 r3 σ3/\Kp H r σ H3 r3 σ3/\j3 m tc g r3=some fl,fun σ3 H3 z=>⟨m,Nat.lt_succ_self m,z⟩,O0,r1,f1,R2,e4,?_⟩
   cases f1 with
   |nx r3=>exact fun σ3 H3 R3 k3=>⟨r3,R3,k2.trans k3,e5⟩
   |ct r3=>exact fun σ3 H3 R3 k3=>⟨r3,R3,k2.trans k3,e5⟩
   |bk r3=>cases e5;exact fun σ3 H3 R3 k3=>q σ3 H3 R3 (k2.trans k3)
   |rt d r3=>cases e5;exact PostS.before R2 k2 q
   |rf l r3=>cases e5;exact PostS.before R2 k2 q
   |rg ks l r3=>cases e5;exact PostS.before R2 k2 q
end
noncomputable def lG(K:Fg)(bd:D->En->Option En):TG:=fun v σ H Q=>∃O0 r d r',R K O0 H r σ/\Is K (Ow O0 r σ) H d v/\bd d r=some r'/\∀σ',R K O0 H r' σ'->Kp H r σ H r' σ'->Q σ' H
noncomputable def DG(X:Cx)(tg:Expr)(bd:D->En->Option En):Prop:=PG X tg (lG X.K bd)
noncomputable def zHI(K:Fg)(O M:Addr->Prop)(H0:Hp)(J:It)(l:List D):Prop:=∀(i:Nat) (H:Hp) (O':Addr->Prop),dB M H0 H->(∀a,O' a->H0 a≠none->O a) ->
 (i<l.length->J.go i H/\∀x H',J.yld i H x H'->Same H H'/\∀d,l[i]?=some d->Is K O' H' d x)/\(i=l.length->J.stop i H)
noncomputable def lI(K:Fg)(it:ML):TI:=fun σ H Rr=>∃O0 r l,R K O0 H r σ/\it r=some l/\∀J H',Same H H'->zHI K (Ow O0 r σ) (MutAt r σ) H' J l->Rr J H'
noncomputable def DI(X:Cx)(tg iter:Expr)(it:ML):Prop:=PI X tg iter (lI X.K it)
theorem PG.conseq{X:Cx}{e:Expr}{t t':TG}(h:PG X e t)(i:∀v σ H Q,t' v σ H Q->t v σ H Q):PG X e t':=fun pins s σ H v u Q I r q=>h pins s σ H v u Q I r (i v σ H Q q)
theorem PI.conseq{X:Cx}{tg e:Expr}{t t':TI}(h:PI X tg e t)(i:∀σ H Q,t' σ H Q->t σ H Q):PI X tg e t':=fun pins s σ H Q I q=>h pins s σ H Q I (i σ H Q q)
theorem kT{α:Type}{l:List α}{i:Nat}{d:α}(h:l[i]?=some d):l.drop i=d::l.drop (i+1):=by
 obtain⟨lt,eq⟩:=List.getElem?_eq_some_iff.mp h
 rw[<-eq,List.drop_eq_getElem_cons lt]
section
variable{X:Cx}{pos:Pos}{tg iter:Expr}{bd:D->En->Option En}{it:ML}{g:MS}{body:List Stmt}
theorem cV(hp:PassesOwn (model X.prog X.w) X.A X.env X.xe)(hc:X.calm=true)(hi:DI X tg iter it)(hg:DG X tg bd)(hb:DSs X body g)(hs:∀x,foldedSetIterable iter X.env x=pure x:=by intro _;rfl):DS X (.For tg iter body [] pos) (mX bd it g):=by
 refine PS.conseq (zBS hp hc hi hg hb hs) fun Dn σ H hq=>?_
 obtain⟨O0,r,fl,hR,e,q⟩:=hq
 obtain⟨l,e1,e2⟩:=bind_some e
 refine⟨O0,r,l,hR,e1,fun J H0 s0 yl=>?_⟩
 have R0:=hR.same s0
 refine⟨fun i m σ1 H1=>m=l.length-i/\i<=l.length/\∃r1,R X.K O0 H1 r1 σ1/\Kp H0 r σ H1 r1 σ1/\Z4 bd g (l.drop i) r1=some fl,⟨l.length,by simp,Nat.zero_le _,r,R0,Kp.refl H0 r σ,by simpa using e2⟩,?_⟩
 rintro i m σ1 H1 ⟨rfl,hil,r1,R1,k1,e3⟩
 have k0:=(Kp.of_same r σ s0).trans k1
 obtain⟨y1,y2⟩:=yl i H1 (Ow O0 r1 σ1) k1.keep fun a z n=>z.elim .inl fun z=>(k1.new a z).elim .inr fun z=>absurd z n
 by_cases hlt:i<l.length
 ·obtain⟨go,yd⟩:=y1 hlt
  have hd:l[i]?=some l[i]:=by simp[hlt]
  rw[kT hd] at e3
  obtain⟨r2,e4,e5⟩:=bind_some e3
  obtain⟨f1,e6,e7⟩:=bind_some e5
  refine .inr ⟨go,fun σ3 H3=>∃r3,R X.K O0 H3 r3 σ3/\Kp H0 r σ H3 r3 σ3/\Z4 bd g (l.drop (i+1)) r3=some fl,fun σ3 H3 z=>⟨l.length-(i+1),by omega,rfl,hlt,z⟩,fun x H2 yx=>?_⟩
  obtain⟨s2,ix⟩:=yd x H2 yx
  have R2:=R1.same s2
  refine⟨O0,r1,l[i],r2,R2,ix _ hd,e4,fun σ2 R2' k2=>⟨O0,r2,f1,R2',e6,?_⟩⟩
  have k3:=(k1.trans (Kp.of_same r1 σ1 s2)).trans k2
  have k4:=(k0.trans (Kp.of_same r1 σ1 s2)).trans k2
  cases f1 with
  |nx r3=>exact fun σ3 H3 R3 kk=>⟨r3,R3,k3.trans kk,e7⟩
  |ct r3=>exact fun σ3 H3 R3 kk=>⟨r3,R3,k3.trans kk,e7⟩
  |bk r3=>cases e7;exact fun σ3 H3 R3 kk=>q σ3 H3 R3 (k4.trans kk)
  |rt d r3=>cases e7;exact PostS.before R2' k4 q
  |rf l' r3=>cases e7;exact PostS.before R2' k4 q
  |rg ks l' r3=>cases e7;exact PostS.before R2' k4 q
 ·have hl:l.drop i=[]:=List.drop_eq_nil_of_le (by omega)
  rw[hl] at e3
  cases e3
  exact .inl ⟨y2 (by omega),q σ1 H1 R1 k0⟩
theorem yM(i:Nat){x:Str}(hN:X.N.Nodup)(hi:X.N[i]?=some x:=by rfl)(hx:Loc X.env.scope x:=by first|exact Or.inl rfl|exact Or.inr rfl)(hf:X.fn x=true\/X.env.scope.names.lookup x=some .local:=by first|exact .inl rfl|exact .inr rfl):DG X (.Name x pos) (yQ i):=by
 refine PG.conseq (pE hN hi hx hf) fun v σ H Q h=>?_
 obtain⟨O0,r,d,r',hR,iv,e,q⟩:=h
 obtain⟨hl,np,rfl⟩:=qH e
 obtain⟨R1,k1⟩:=hR.setv hl np iv
 exact q _ R1 k1
noncomputable def qF:List D->En->Option En:=fun l r=>if l.isEmpty then some r else none
noncomputable def zX(b:D->En->Option En)(bs:List D->En->Option En):List D->En->Option En:=fun l r=>match l with
 |[]=>none
 |d::t=>(b d r).bind fun r1=>bs t r1
noncomputable def lGs(K:Fg)(bs:List D->En->Option En):TGs:=fun vs σ H Q=>∃O0 r l r',R K O0 H r σ/\IsL K (Ow O0 r σ) H l vs/\bs l r=some r'/\∀σ',R K O0 H r' σ'->Kp H r σ H r' σ'->Q σ' H
noncomputable def DGs(X:Cx)(ts:List Expr)(bs:List D->En->Option En):Prop:=PGs X ts (lGs X.K bs)
theorem PGs.conseq{e:List Expr}{t t':TGs}(h:PGs X e t)(i:∀v σ H Q,t' v σ H Q->t v σ H Q):PGs X e t':=fun pins s σ H v u Q I r q=>h pins s σ H v u Q I r (i v σ H Q q)
theorem jC:DGs X [] qF:=by
 refine PGs.conseq zB0 fun vs σ H Q h=>?_
 obtain⟨O0,r,l,r',hR,il,e,q⟩:=h
 unfold qF at e
 cases l with
 |nil=>
  unfold IsL at il
  cases e
  exact⟨il,q σ hR (Kp.refl H r σ)⟩
 |cons d l=>cases e
theorem yV{e:Expr}{es:List Expr}{bs:List D->En->Option En}(h1:DG X e bd)(h2:DGs X es bs)(hs:(assignEach (e::es) X.env).map (·.2)=assign e X.env::(assignEach es X.env).map (·.2):=by rfl):DGs X (e::es) (zX bd bs):=by
 refine PGs.conseq (W7 h1 h2 hs) fun vs σ H Q h=>?_
 obtain⟨O0,r,l,r',hR,il,e,q⟩:=h
 cases l with
 |nil=>cases e
 |cons d t=>
  unfold IsL at il
  obtain⟨v,us,rfl,i1,i2⟩:=il
  obtain⟨r1,e1,e2⟩:=bind_some e
  refine⟨v,us,rfl,O0,r,d,r1,hR,i1,e1,fun σ1 R1 k1=>⟨O0,r1,t,r',R1,?_,e2,fun σ2 R2 k2=>q σ2 R2 (k1.trans k2)⟩⟩
  exact IsL.mono (Same.kp (Same.refl H) _) hR.ol (fun a z n=>z.elim .inl fun z=>(k1.new a z).elim .inr fun z=>absurd z n) _ _ i2
end
inductive Rs where
 |v (d:D)|f (l:List D)|g (ks:List Key) (l:List D)
noncomputable abbrev MF:=List Sl->Option (Rs×List Sl)
structure PostF(K:Fg)(O0:Addr->Prop)(H:Hp)(as:List Sl)(vs:List V)(H':Hp)(as':List Sl):Prop where
 keep:dB (MutAt as (vs.map some)) H H'
 live:∀b,H' b=none->H b=none
 lst:∀b o,H b=some o->Mb o->∃o',H' b=some o'/\Mb o'
 par:∀(i:Nat) (l:List D),as[i]?=some (.p l)->∃l' a xs,as'[i]?=some (.p l')/\vs[i]?=some (.ref a)/\H' a=some (.lst xs)/\IsL K O0 H' l' xs
noncomputable def RsP(K:Fg)(O0:Addr->Prop)(H:Hp)(as:List Sl)(vs:List V)(as':List Sl)(Q:VK):Rs->Prop
 |.v d=>∀v H',PostF K O0 H as vs H' as'->Is K O0 H' d v->Q v H'
 |.f l=>∀a xs H',PostF K O0 H as vs H' as'->H a=none->H' a=some (.lst xs)->IsL K (fun b=>O0 b\/b=a) H' l xs->Q (.ref a) H'
 |.g ks l=>∀a kvs H',PostF K O0 H as vs H' as'->H a=none->H' a=some (.dK kvs)->kvs.map (·.1)=ks->IsL K (fun b=>O0 b\/b=a) H' l (kvs.map (·.2))->Q (.ref a) H'
noncomputable def spD(K:Fg)(n:Nat)(m:MF):Sp:=fun vs H Q _=>∃O0 as rs as',as.length=n/\R K O0 H as (vs.map some)/\(∀(i:Nat) (l:List D),as[i]?≠some (.o l)/\as[i]?≠some (.z l)/\∀ks,as[i]?≠some (.d ks l))/\m as=some (rs,as')/\RsP K O0 H as vs as' Q rs
noncomputable def mkF(n N:Nat)(g:MS):MF:=fun as=>(g (as++List.replicate (N-n) .un)).bind fun fl=>match fl with
 |.rt d r'=>some (.v d,r'.take n)
 |.rf l r'=>some (.f l,r'.take n)
 |.rg ks l r'=>some (.g ks l,r'.take n)
 |.nx r'=>some (.v .non,r'.take n)
 |_=>none
section
variable{P:Program}{w:World}{K:Fg}{mg:Str->Option Value}{base:Heap}
theorem gN{q:Sl->Option (List D)}(hq:q .un=none){as:List Sl}{vs:List V}{k n:Nat}{a:Addr}(hl:as.length=vs.length):AtS q (as++List.replicate k .un) (vs.map some++List.replicate n none) a↔AtS q as (vs.map some) a:=by
 constructor
 ·rintro ⟨i,l,e,q'⟩
  by_cases hi:i<as.length
  ·rw[List.getElem?_append_left hi] at e
   rw[List.getElem?_append_left (by simp;omega)] at q'
   exact⟨i,l,e,q'⟩
  ·rw[List.getElem?_append_right (by omega),List.getElem?_replicate] at e
   split at e
   ·have e':q .un=some l:=e
    rw[hq] at e';cases e'
   ·cases e
 ·rintro ⟨i,l,e,q'⟩
  have hi:i<as.length:=by
   cases e1:as[i]? with
   |none=>rw[e1] at e;cases e
   |some x=>exact(List.getElem?_eq_some_iff.mp e1).1
  exact⟨i,l,by rw[List.getElem?_append_left hi];exact e,by rw[List.getElem?_append_left (by simp;omega)];exact q'⟩
theorem R.start{O0:Addr->Prop}{H:Hp}{as:List Sl}{vs:List V}{k:Nat}(h:R K O0 H as (vs.map some)):R K O0 H (as++List.replicate k .un) (vs.map some++List.replicate k none):=by
 have hl:as.length=vs.length:=by simpa using h.len
 have own:∀a,Ow O0 (as++List.replicate k .un) (vs.map some++List.replicate k none) a->H a≠none->Ow O0 as (vs.map some) a:=fun a z _=>z.imp id (gN rfl hl).mp
 have pre:∀(i:Nat) (x:Sl),(as++List.replicate k .un)[i]?=some x->x≠.un->as[i]?=some x/\(vs.map some++List.replicate k none)[i]?=(vs.map some)[i]?:=fun i x e n=>by
  by_cases hi:i<as.length
  ·rw[List.getElem?_append_left hi] at e
   exact⟨e,List.getElem?_append_left (by simp;omega)⟩
  ·rw[List.getElem?_append_right (by omega),List.getElem?_replicate] at e
   split at e
   ·cases e;exact absurd rfl n
   ·cases e
 have preO:∀{q:Sl->Option (List D)} (hq:q .un=none) (i:Nat) (l:List D),((as++List.replicate k .un)[i]?).bind q=some l->(as[i]?).bind q=some l/\(vs.map some++List.replicate k none)[i]?=(vs.map some)[i]?:=fun {q} hq i l e=>by
  cases e1:(as++List.replicate k .un)[i]? with
  |none=>rw[e1] at e;cases e
  |some x=>
   obtain⟨q1,q2⟩:=pre i x e1 (by rintro rfl;rw[e1] at e;have e':q .un=some l:=e;rw[hq] at e';cases e')
   rw[e1] at e
   exact⟨by rw[q1];exact e,q2⟩
 refine⟨by simp[hl],fun i d e=>?_,fun i l e=>?_,fun i j a l m e1 e2 q1 q2=>?_,h.o0,fun i l a e q=>?_,fun i l a e q=>?_,fun i ks l e=>?_⟩
 ·obtain⟨q1,q2⟩:=pre i _ e (by intro z;cases z)
  obtain⟨v,e3,q3⟩:=h.val i d q1
  exact⟨v,q2.trans e3,Is.mono (Same.kp (Same.refl H) _) h.ol own _ _ q3⟩
 ·obtain⟨q1,q2⟩:=preO (q:=Sl.ls) rfl i l e
  obtain⟨a,xs,e3,e4,q3⟩:=h.own i l q1
  exact⟨a,xs,q2.trans e3,e4,IsL.mono (Same.kp (Same.refl H) _) h.ol own _ _ q3⟩
 ·obtain⟨p1,p2⟩:=preO (q:=Sl.own) rfl i l e1
  obtain⟨p3,p4⟩:=preO (q:=Sl.own) rfl j m e2
  exact h.apart i j a l m p1 p3 (p2 ▸ q1) (p4 ▸ q2)
 ·rcases e with e|e|⟨ks,e⟩
  ·obtain⟨p1,p2⟩:=pre i _ e (by intro z;cases z)
   exact h.loc i l a (.inl p1) (p2 ▸ q)
  ·obtain⟨p1,p2⟩:=pre i _ e (by intro z;cases z)
   exact h.loc i l a (.inr (.inl p1)) (p2 ▸ q)
  ·obtain⟨p1,p2⟩:=pre i _ e (by intro z;cases z)
   exact h.loc i l a (.inr (.inr ⟨ks,p1⟩)) (p2 ▸ q)
 ·obtain⟨p1,p2⟩:=pre i _ e (by intro z;cases z)
  exact h.par i l a p1 (p2 ▸ q)
 ·obtain⟨p1,p2⟩:=pre i _ e (by intro z;cases z)
  obtain⟨a,kvs,e3,e4,e5,q3⟩:=h.dct i ks l p1
  exact⟨a,kvs,p2.trans e3,e4,e5,IsL.mono (Same.kp (Same.refl H) _) h.ol own _ _ q3⟩
theorem zJW{x qual:Str}{st:Stmt}{f:Addr}{fd:FuncData}{N ps:List Str}{k:Nat}{g:MS}(F:Fun K x qual st f fd)(S:FnScope N ps (zP st))(n:Nat)(nN:Nat)(hn:ps.length=n:=by rfl)(hN:N.length=nN:=by rfl)(hb:∀(cdv:Value),fd.code=cdv->∀(A:Around) (outer:List Env) (s:Shared) (H:Hp) (E:XK),Room k (A.deeper (envOfC qual (zP st) s.heap.objs.size f cdv)) ->
   DSs (zER CX0 P w K mg base N qual (zP st) f cdv A outer s H E).nox (qE st) g):FnOk P w K mg base CX0 (k+1) f fd ps (spD K n (mkF n nN g)):=by
 subst hn hN
 obtain⟨oc,od,kV,doc,pm,an,cdv,ct,osl,rfl,lk,hcd⟩:=F.ex
 refine zH8 lk hcd S (fun vs H Q E h=>?_) (fun A outer s H vs Q E hr h=>?_)
 ·obtain⟨O0,as,rs,as',hl,hR,_⟩:=h
  have:=hR.len
  simp at this;omega
 ·obtain⟨O0,as,rs,as',hl,hR,no,e,q⟩:=h
  have hlv:as.length=vs.length:=by simpa using hR.len
  refine⟨_,PSs.nox (hb cdv rfl A outer s H E hr),?_⟩
  obtain⟨fl,e1,e2⟩:=bind_some e
  have hst:L2.start N vs=vs.map some++List.replicate (N.length-ps.length) none:=by unfold L2.start;rw[<-hlv,hl]
  rw[hst]
  have R0:=R.start (k:=N.length-ps.length) hR
  have fin:∀(σ':St) (H':Hp) (r':En),R K O0 H' r' σ'->Kp H (as++List.replicate (N.length-ps.length) .un) (vs.map some++List.replicate (N.length-ps.length) none) H' r' σ'->PostF K O0 H as vs H' (r'.take ps.length):=fun σ' H' r' R' k'=>by
   refine⟨fun b o eb nb=>k'.keep b o eb fun z=>nb ((gN rfl hlv).mp z),k'.live,k'.lst,fun i l ei=>?_⟩
   have hi:i<as.length:=(List.getElem?_eq_some_iff.mp ei).1
   obtain⟨⟨l',e3⟩,e4⟩:=k'.par i l (by rw[List.getElem?_append_left hi];exact ei)
   rw[List.getElem?_append_left (by simp;omega)] at e4
   obtain⟨a,xs,e5,e6,e7⟩:=R'.own i l' (by rw[e3];rfl)
   rw[e4] at e5
   have ev:vs[i]?=some (.ref a):=by
    rw[List.getElem?_map] at e5
    cases e8:vs[i]? with
    |none=>rw[e8] at e5;cases e5
    |some y=>rw[e8] at e5;cases e5;rfl
   exact⟨l',a,xs,by rw[List.getElem?_take_of_lt (by omega)];exact e3,ev,e6,IsL.mono (Same.kp (Same.refl H') _) R'.ol (fun _ z _=>.inl z) _ _ e7⟩
  refine⟨O0,_,fl,R0,e1,?_⟩
  cases fl with
  |nx r'=>cases e2;exact fun σ' H' R' k'=>q .non H' (fin σ' H' r' R' k') (by rw[Is.non_iff])
  |bk r'=>cases e2
  |ct r'=>cases e2
  |rt d r'=>cases e2;exact fun v σ' H' R' k' i'=>q v H' (fin σ' H' r' R' k') i'
  |rf l r'=>
   cases e2
   refine fun a xs σ' H' R' k' fr no0 ea il=>q a xs H' (fin σ' H' r' R' k') ?_ ea il
   rcases fr with z|⟨i,m,ei,_⟩
   ·exact z
   ·exfalso
    by_cases hi:i<as.length
    ·rw[List.getElem?_append_left hi] at ei
     rcases ei with ei|⟨ks,ei⟩
     ·exact(no i m).1 ei
     ·exact(no i m).2.2 ks ei
    ·rw[List.getElem?_append_right (by omega),List.getElem?_replicate] at ei
     rcases ei with ei|⟨ks,ei⟩<;>split at ei<;>cases ei
  |rg ks l r'=>
   cases e2
   refine fun a kvs σ' H' R' k' fr no0 ea ek il=>q a kvs H' (fin σ' H' r' R' k') ?_ ea ek il
   rcases fr with z|⟨i,m,ei,_⟩
   ·exact z
   ·exfalso
    by_cases hi:i<as.length
    ·rw[List.getElem?_append_left hi] at ei
     rcases ei with ei|⟨ks',ei⟩
     ·exact(no i m).1 ei
     ·exact(no i m).2.2 ks' ei
    ·rw[List.getElem?_append_right (by omega),List.getElem?_replicate] at ei
     rcases ei with ei|⟨ks',ei⟩<;>split at ei<;>cases ei
theorem mY{x qual:Str}{st:Stmt}{f:Addr}{fd:FuncData}{N ps:List Str}{k:Nat}{g:MS}(F:Fun K x qual st f fd)(S:FnScope N ps (zP st))(n:Nat)(nN:Nat)(hn:ps.length=n:=by rfl)(hN:N.length=nN:=by rfl)(hb:∀(cdv:Value) (A:Around) (outer:List Env) (s:Shared) (H:Hp) (E:XK),Room k (A.deeper (envOfC qual (zP st) s.heap.objs.size f cdv)) ->
   DSs (zER CX0 P w K mg base N qual (zP st) f cdv A outer s H E).nox (qE st) g):FnOk P w K mg base CX0 (k+1) f fd ps (spD K n (mkF n nN g)):=zJW F S n nN hn hN fun cdv _=>hb cdv
theorem zL1{f:Addr}{fd:FuncData}{ps:List Str}{k:Nat}(n:Nat):FnOk P w K mg base CX0 k f fd ps (spD K n fun _=>none):=
 ⟨(fun vs H Q E h=>by obtain⟨_,_,_,_,_,_,_,e,_⟩:=h;cases e),(fun A outer s H args us vs Q E _ _ _ _ h=>by obtain⟨_,_,_,_,_,_,_,e,_⟩:=h;cases e)⟩
end
noncomputable def rsD:Rs->D
 |.v d=>d
 |.f l=>.lst l
 |.g ks l=>.dct ks l
noncomputable def yI(n:Nat)(m:MF)(fs:ML):ME:=fun r=>(fs r).bind fun ds=>if ds.length=n then (m (ds.map .v)).map fun p=>rsD p.1 else none
noncomputable def uR(n:Nat)(m:MF)(fs:ML):ML:=fun r=>(fs r).bind fun ds=>if ds.length=n then (m (ds.map .v)).bind fun p=>match p.1 with
 |.f l=>some l
 |_=>none
 else none
section
variable{K:Fg}
theorem R.args{O:Addr->Prop}{H:Hp}{ds:List D}{vs:List V}(ol:qV O H)(h:IsL K O H ds vs):R K O H (ds.map .v) (vs.map some):=by
 have no:∀(i:Nat) (l:List D),((ds.map Sl.v)[i]?).bind Sl.own≠some l:=fun i l e=>by
  rw[List.getElem?_map] at e
  cases e1:ds[i]? with
  |none=>rw[e1] at e;cases e
  |some x=>rw[e1] at e;cases e
 refine⟨by simp[h.length],fun i d e=>?_,fun i l e=>absurd (qT e) (no i l),fun i j a l m e1=>absurd e1 (no i l),ol,fun i l a e=>absurd (show((ds.map Sl.v)[i]?).bind Sl.own=some l by rcases e with e|e|⟨_,e⟩<;>rw[e]<;>rfl) (no i l),fun i l a e=>absurd (show((ds.map Sl.v)[i]?).bind Sl.own=some l by rw[e];rfl) (no i l),fun i ks l e=>absurd (show((ds.map Sl.v)[i]?).bind Sl.own=some l by rw[e];rfl) (no i l)⟩
 rw[List.getElem?_map] at e
 cases e1:ds[i]? with
 |none=>rw[e1] at e;cases e
 |some x=>
  rw[e1] at e;cases e
  obtain⟨v,e2,q⟩:=h.get e1
  exact⟨v,by rw[List.getElem?_map,e2];rfl,Is.mono (Same.kp (Same.refl H) _) ol (fun a z _=>z.elim id fun⟨j,l,ej,_⟩=>absurd ej (no j l)) _ _ q⟩
theorem QE{ds:List D}{σ:St}{a:Addr}:¬MutAt (ds.map .v) σ a:=fun⟨i,l,e,_⟩=>by
 rw[List.getElem?_map] at e
 cases e1:ds[i]? with
 |none=>rw[e1] at e;cases e
 |some x=>rw[e1] at e;cases e
theorem PostF.same{O0:Addr->Prop}{H H':Hp}{ds:List D}{vs:List V}{as':List Sl}(h:PostF K O0 H (ds.map .v) vs H' as'):Same H H':=fun b o e=>h.keep b o e QE
end
section
variable{X:Cx}{k n:Nat}{f:Addr}{fd:FuncData}{ps:List Str}{m:MF}{x:Str}{p pos:Pos}{e:Expr}{es:List Expr}{fs:ML}
theorem bN{O0:Addr->Prop}{r:En}{σ:St}{H H1:Hp}{ds:List D}{vs:List V}{rs:Rs}{as':List Sl}{Q:VK}{E:XK}(hR:R X.K O0 H r σ)(s1:Same H H1)(il:IsL X.K (Ow O0 r σ) H1 ds vs)(hl:ds.length=n)(em:m (ds.map .v)=some (rs,as'))(q:RsP X.K (Ow O0 r σ) H1 (ds.map .v) vs as' Q rs):spD X.K n m (vs++[]) H1 Q E:=by
 rw[List.append_nil]
 refine⟨Ow O0 r σ,ds.map .v,rs,as',by simpa using hl,R.args (hR.same s1).ol il,fun i l=>?_,em,q⟩
 rw[List.getElem?_map]
 cases e1:ds[i]? with
 |none=>exact⟨(fun z=>by cases z),(fun z=>by cases z),(fun _ z=>by cases z)⟩
 |some y=>exact⟨(fun z=>by cases z),(fun z=>by cases z),(fun _ z=>by cases z)⟩
theorem yG(F:FnOk X.prog X.w X.K X.mg X.base CX0 k f fd ps (spD X.K n m))(hr:Room k X.A)(hg:Gl X x)(hm:X.mg x=some (.ref f))(hk:PySem.W.keepIn X.K (.ref f)=true)(hb:Binds X.K fd ps [])(ha:DA X (e::es) fs)(hdb:(x == ("__debug__" : Str))=false:=by decide)(he:starEach (e::es) X.env=(false,eval e X.env)::starEach es X.env:=by rfl)(hpl:(backTo pos (starEach es X.env)).any (·.1)=false:=by rfl):DE X (.Call (.Name x p) (e::es) [] pos) (yI n m fs):=by
 refine PE.conseq (vR (E:=fun _ _ _=>False) (dvs:=[]) F hr hg hm hk hb .nil cZ ha hdb he hpl) fun σ H Q h=>?_
 obtain⟨O0,r,d,hR,e,q⟩:=h
 obtain⟨ds,e1,e2⟩:=bind_some e
 split at e2
 ·rename_i hl
  obtain⟨⟨rs,as'⟩,e3,rfl⟩:=map_some e2
  refine⟨O0,r,ds,hR,e1,fun vs H1 s1 il=>bN hR s1 il hl e3 ?_⟩
  cases rs with
  |v d=>exact fun v H2 pf iv=>q v H2 (s1.trans pf.same) iv
  |f l=>
   refine fun a xs H2 pf na ea il2=>q _ H2 (s1.trans pf.same) ?_
   have R1:=hR.same s1
   have olp:qV (fun b=>Ow O0 r σ b\/b=a) H2:=fun b z=>z.elim (fun z=>(R1.same pf.same).ol b z) fun z=>by subst z;exact⟨.lst xs,ea,trivial⟩
   show Is X.K (Ow O0 r σ) H2 (.lst l) (.ref a)
   rw[Is.lst_iff]
   exact⟨a,xs,rfl,.inl ⟨R1.nofresh na,.inl ea⟩,IsL.mono (Same.kp (Same.refl H2) _) olp (fun _ z _=>.inl z) _ _ il2⟩
  |g ks l=>
   refine fun a kvs H2 pf na ea ek il2=>q _ H2 (s1.trans pf.same) ?_
   have olp:qV (fun b=>Ow O0 r σ b\/b=a) H2:=fun b z=>z.elim (fun z=>((hR.same s1).same pf.same).ol b z) fun z=>by subst z;exact⟨.dK kvs,ea,trivial⟩
   show Is X.K (Ow O0 r σ) H2 (.dct ks l) (.ref a)
   rw[Is.dct_iff]
   exact⟨a,kvs,rfl,(hR.same s1).nofresh na,.inl ea,ek,IsL.mono (Same.kp (Same.refl H2) _) olp (fun _ z _=>.inl z) _ _ il2⟩
 ·cases e2
theorem XQ(F:FnOk X.prog X.w X.K X.mg X.base CX0 k f fd ps (spD X.K n m))(hr:Room k X.A)(hg:Gl X x)(hm:X.mg x=some (.ref f))(hk:PySem.W.keepIn X.K (.ref f)=true)(hb:Binds X.K fd ps [])(ha:DA X (e::es) fs)(hdb:(x == ("__debug__" : Str))=false:=by decide)(he:starEach (e::es) X.env=(false,eval e X.env)::starEach es X.env:=by rfl)(hpl:(backTo pos (starEach es X.env)).any (·.1)=false:=by rfl):DF X (.Call (.Name x p) (e::es) [] pos) (uR n m fs):=by
 refine PE.conseq (vR (E:=fun _ _ _=>False) (dvs:=[]) F hr hg hm hk hb .nil cZ ha hdb he hpl) fun σ H Q h=>?_
 obtain⟨O0,r,l,hR,e,q⟩:=h
 obtain⟨ds,e1,e2⟩:=bind_some e
 split at e2
 ·rename_i hl
  obtain⟨⟨rs,as'⟩,e3,e4⟩:=bind_some e2
  refine⟨O0,r,ds,hR,e1,fun vs H1 s1 il=>bN hR s1 il hl e3 ?_⟩
  cases rs with
  |v d=>cases e4
  |f l'=>cases e4;exact fun a xs H2 pf na ea il2=>q a xs H2 (s1.trans pf.same) (s1.free na) ea il2
  |g ks l'=>cases e4
 ·cases e2
end
section
variable{X:Cx}{tg l:Expr}{f:ME}{p pos:Pos}
noncomputable def Q7:D->Option (List D)
 |.lst l=>some l
 |.tup l=>some l
 |_=>none
noncomputable def mIt(f:ME):ML:=fun r=>(f r).bind Q7
theorem jG{l:List D}{i:Nat}(h:i<l.length):∃d,l[i]?=some d:=⟨l[i],by simp[h]⟩
theorem zAN{K:Fg}{O M:Addr->Prop}(mo:∀a,M a->O a){H:Hp}{a:Addr}{xs:List V}{ds:List D}(ol:qV O H)(rd:∀H1,dB M H H1->SqL K H1 a xs)(il:IsL K O H ds xs):zHI K O M H (Itl K a) ds:=by
 intro i H1 O' kp oo
 have kp':dB O H H1:=fun b o e n=>kp b o e fun z=>n (mo b z)
 have rd1:SqL K H1 a xs:=rd H1 kp
 refine⟨fun hi=>⟨?_,fun x H' y=>?_⟩,fun hi=>⟨xs,rd1,by rw[<-il.length];exact Nat.le_of_eq hi.symm⟩⟩
 ·obtain⟨d,e⟩:=jG hi
  obtain⟨v,e1,_⟩:=il.get e
  exact⟨xs,v,rd1,e1⟩
 ·obtain⟨rfl,y⟩:=y
  refine⟨Same.refl _,fun d e=>?_⟩
  obtain⟨v,e1,q⟩:=il.get e
  have:=y xs rd1
  rw[e1] at this;cases this
  exact Is.mono kp' ol oo _ _ q
theorem zAM{K:Fg}{O M:Addr->Prop}(mo:∀a,M a->O a){H:Hp}{a:Addr}{xs:List V}{ds:List D}(ol:qV O H)(rd:SqT K H a xs)(il:IsL K O H ds xs):zHI K O M H (Itt K a) ds:=by
 intro i H1 O' kp oo
 have kp':dB O H H1:=fun b o e n=>kp b o e fun z=>n (mo b z)
 have rd1:SqT K H1 a xs:=SqT.keep kp' ol rd
 refine⟨fun hi=>⟨?_,fun x H' y=>?_⟩,fun hi=>⟨xs,rd1,by rw[<-il.length];exact Nat.le_of_eq hi.symm⟩⟩
 ·obtain⟨d,e⟩:=jG hi
  obtain⟨v,e1,_⟩:=il.get e
  exact⟨xs,v,rd1,e1⟩
 ·obtain⟨rfl,y⟩:=y
  refine⟨Same.refl _,fun d e=>?_⟩
  obtain⟨v,e1,q⟩:=il.get e
  have:=y xs rd1
  rw[e1] at this;cases this
  exact Is.mono kp' ol oo _ _ q
theorem zBX{tl:TE}(hl:PE X l tl):PI X tg l (fun σ H Rr=>tl σ H fun x H1=>∃a,x=.ref a/\(((∃xs,SqL X.K H1 a xs)/\Rr (Itl X.K a) H1)\/((∃xs,SqT X.K H1 a xs)/\Rr (Itt X.K a) H1))):=by
 intro pins s σ H R I h
 refine thn (hl pins s σ H _ I h) fun v s1 ⟨x,H1,I1,r1,q1⟩=>?_
 obtain⟨a,e,q⟩:=q1
 subst e
 cases r1
 rcases q with⟨⟨xs,hq⟩,q⟩|⟨⟨xs,hq⟩,q⟩
 ·obtain⟨its,rv,p,hz⟩:=I1.list hq
  refine wpAny_pyIter_list p.isList ?_
  refine⟨s1.heap.objs.size,[s1.heap.objs.size],_,_,H1,rfl,I1.kept (t':=s1.toks) fun b o e=>Heap.get?_push_of_some _ e,rV a _,⟨_,Heap.get?_push_size _ rfl,rfl,rfl⟩,fun b hb=>?_,q⟩
  have e:b=s1.heap.objs.size:=by simpa using hb
  subst e
  exact I1.fpOk (Nat.le_refl _) (I1.hok.fresh (Nat.le_refl _))
 ·obtain⟨its,rv,p,hz⟩:=I1.tuple hq
  refine wpAny_pyIter_tuple (show s1.heap.IsTuple a its.toArray from p) ?_
  refine⟨s1.heap.objs.size,[s1.heap.objs.size],_,_,H1,rfl,I1.kept (t':=s1.toks) fun b o e=>Heap.get?_push_of_some _ e,m9 a _,⟨_,Heap.get?_push_size _ rfl,rfl,rfl⟩,fun b hb=>?_,q⟩
  have e:b=s1.heap.objs.size:=by simpa using hb
  subst e
  exact I1.fpOk (Nat.le_refl _) (I1.hok.fresh (Nat.le_refl _))
theorem vN(hl:DE X l f):DI X tg l (mIt f):=by
 refine PI.conseq (zBX hl) fun σ H Rr h=>?_
 obtain⟨O0,r,ds,hR,e,q⟩:=h
 obtain⟨d,e1,e2⟩:=bind_some e
 refine⟨O0,r,d,hR,e1,fun v H1 s1 i1=>?_⟩
 have ol:=(hR.same s1).ol
 cases d with
 |lst l'=>
  cases e2
  rw[Is.lst_iff] at i1
  obtain⟨a,xs,rfl,rd,il⟩:=i1
  exact⟨a,rfl,.inl ⟨⟨xs,rd.sq⟩,q _ H1 s1 (zAN (fun a z=>.inr z.own) ol (fun H2 k2=>rd.imp (fun z=>Rd.keep k2 (fun y=>z.1 (.inr y.own)) z.2) id) il)⟩⟩
 |tup l'=>
  cases e2
  rw[Is.tup_iff] at i1
  obtain⟨a,xs,rfl,rd,il⟩:=i1
  exact⟨a,rfl,.inr ⟨⟨xs,rd⟩,q _ H1 s1 (zAM (fun a z=>.inr z.own) ol rd il)⟩⟩
 |_=>cases e2
noncomputable def zHP(lo:Int)(n:Nat):List D:=(List.range n).map fun i=>.int (lo+(i:Nat))
theorem zFF{K:Fg}{O M:Addr->Prop}{H:Hp}(lo:Int)(n:Nat):zHI K O M H (Itr lo n) (zHP lo n):=by
 intro i H1 O' kp oo
 have hl:(zHP lo n).length=n:=by simp[zHP]
 refine⟨fun hi=>⟨by rw[hl] at hi;exact hi,fun x H' y=>?_⟩,fun hi=>by rw[hl] at hi;exact Nat.le_of_eq hi.symm⟩
 obtain⟨rfl,rfl⟩:=y
 refine⟨Same.refl _,fun d e=>?_⟩
 rw[hl] at hi
 unfold zHP at e
 rw[List.getElem?_map,List.getElem?_range hi] at e
 cases e
 rw[Is.int_iff]
noncomputable def intD:D->Option Int
 |.int i=>some i
 |_=>none
noncomputable def YY(f:ME):ML:=fun r=>(f r).bind fun d=>(intD d).bind fun j=>if -(2 ^ 62)<=j/\j<2 ^ 62 then some (zHP 0 j.toNat) else none
theorem uX{d:D}{i:Int}(e:intD d=some i):d=.int i:=by
 cases d<;>first|cases e;rfl|cases e
theorem XN(hg:Gl X "range")(hm:X.mg "range" = none)(ha:DE X l f)(hs:starEach [l] X.env=[(false,eval l X.env)]:=by rfl):DI X tg (.Call (.Name "range" p) [l] [] pos) (YY f):=by
 refine PI.conseq (tM hg hm (yD ha xH hs) hs) fun σ H Rr h=>?_
 obtain⟨O0,r,ds,hR,e,q⟩:=h
 obtain⟨d,e1,e2⟩:=bind_some e
 obtain⟨j,e3,e4⟩:=bind_some e2
 cases uX e3
 split at e4
 ·rename_i hj
  cases e4
  refine⟨O0,r,_,hR,e1,fun v H1 s1 i1=>?_⟩
  rw[Is.int_iff] at i1
  exact⟨j,by rw[i1],hj.1,hj.2,q _ H1 s1 (zFF 0 _)⟩
 ·cases e4
end
noncomputable def ZU(env:Env):List (Str×NameKind)->List (Str×Addr)->List (Str×Addr)
 |[],acc=>acc
 |(n,k)::r,acc=>if k=.free then ZU env r ((n,(env.cells.lookup n).getD 0)::acc) else ZU env r acc
theorem vH{env:Env}:∀(names:List (Str×NameKind)) (acc:List (Str×Addr)),(∀y∈names,y.2=.free->∃c,env.cells.lookup y.1=some c) ->
  (forIn names acc (fun(x:Str×NameKind) (cs:List (Str×Addr))=>match x with
   |(name,kind)=>if (kind == NameKind.free)=true then do let a <- cellOf env name;pure (ForInStep.yield ((name,a)::cs)) else pure (ForInStep.yield cs)):Sem (List (Str×Addr)))=pure (ZU env names acc)
 |[],acc,_=>rfl
 |(n,k)::r,acc,h=>by
  rw[List.forIn_cons]
  by_cases hk:k=.free
  ·obtain⟨c,hc⟩:=h (n,k) List.mem_cons_self hk
   have ih:=vH r ((n,c)::acc) fun y hy=>h y (List.mem_cons_of_mem _ hy)
   subst hk
   show((do let a <- cellOf env n;pure (ForInStep.yield ((n,a)::acc))) >>= _:Sem _)=_
   unfold cellOf
   rw[hc]
   unfold ZU
   rw[if_pos rfl,hc]
   exact ih
  ·have hb:(k == NameKind.free)=false:=by simpa using hk
   have ih:=vH r acc fun y hy=>h y (List.mem_cons_of_mem _ hy)
   unfold ZU
   rw[if_neg hk]
   simp only[hb]
   exact ih
theorem jU{scope:Scope}{env:Env}(h:∀y∈scope.names,y.2=.free->∃c,env.cells.lookup y.1=some c):closureFor scope env=pure (ZU env scope.names []):=by
 unfold closureFor
 have:=vH (env:=env) scope.names [] h
 first
  |exact this
  |(simp only[bind_pure];exact this)
  |(rw[<-this];rfl)
theorem dP{env:Env}{x:Str}{c:Addr}:∀(names:List (Str×NameKind)) (acc:List (Str×Addr)),(∀y∈names,y.2=.free->∃c,env.cells.lookup y.1=some c)->(∀c,acc.lookup x=some c->env.cells.lookup x=some c) ->
  (ZU env names acc).lookup x=some c->env.cells.lookup x=some c
 |[],acc,_,ha,e=>ha c e
 |(n,k)::r,acc,h,ha,e=>by
  unfold ZU at e
  split at e
  ·rename_i hk
   refine dP r _ (fun y hy=>h y (List.mem_cons_of_mem _ hy)) (fun c' e'=>?_) e
   rw[List.lookup_cons] at e'
   split at e'
   ·rename_i hx
    have hx':x=n:=by simpa using hx
    subst hx'
    obtain⟨c2,q⟩:=h (x,k) List.mem_cons_self hk
    rw[q] at e' ⊢
    simpa using e'
   ·exact ha c' e'
  ·exact dP r _ (fun y hy=>h y (List.mem_cons_of_mem _ hy)) ha e
theorem dQ{env:Env}{x:Str}:∀(names:List (Str×NameKind)) (acc:List (Str×Addr)),(∃c,acc.lookup x=some c)->∃c,(ZU env names acc).lookup x=some c
 |[],acc,h=>h
 |(n,k)::r,acc,h=>by
  unfold ZU
  split
  ·refine dQ r _ ?_
   rw[List.lookup_cons]
   split
   ·exact⟨_,rfl⟩
   ·exact h
  ·exact dQ r _ h
theorem u8{env:Env}{x:Str}:∀(names:List (Str×NameKind)) (acc:List (Str×Addr)),(x,NameKind.free)∈names->∃c,(ZU env names acc).lookup x=some c
 |[],_,h=>nomatch h
 |(n,k)::r,acc,h=>by
  unfold ZU
  rcases List.mem_cons.mp h with z|z
  ·cases z
   rw[if_pos rfl]
   refine dQ r _ ?_
   rw[List.lookup_cons]
   simp
  ·split
   ·exact u8 r _ z
   ·exact u8 r _ z
theorem qR{env:Env}:∀{names:List (Str×NameKind)} {x:Str} {k:NameKind},(names.map fun(n,k)=>if (k == NameKind.free && env.scope.kind == .function && env.kindOf n == some .cell) then (n,NameKind.cell) else (n,k)).lookup x=some k ->
  ∃k',names.lookup x=some k'/\(k=k'\/(k'=.free/\k=.cell))
 |[],_,_,h=>by simp at h
 |(n,k0)::r,x,k,h=>by
  have h':List.lookup x ((if (k0 == NameKind.free && env.scope.kind == .function && env.kindOf n == some .cell)=true then (n,NameKind.cell) else (n,k0))::(r.map fun(n,k)=>if (k == NameKind.free && env.scope.kind == .function && env.kindOf n == some .cell) then (n,NameKind.cell) else (n,k)))=some k:=h
  rw[List.lookup_cons]
  by_cases hc:(k0 == NameKind.free && env.scope.kind == .function && env.kindOf n == some .cell)=true
  ·rw[if_pos hc,List.lookup_cons] at h'
   split at h'
   ·rename_i hx
    cases h'
    refine⟨k0,rfl,.inr ⟨?_,rfl⟩⟩
    simp only[Bool.and_eq_true,beq_iff_eq] at hc
    exact hc.1.1
   ·rename_i hx
    exact qR h'
  ·rw[if_neg hc,List.lookup_cons] at h'
   split at h'
   ·rename_i hx
    cases h'
    exact⟨k0,rfl,.inl rfl⟩
   ·rename_i hx
    exact qR h'
theorem kG{env:Env}:∀{names:List (Str×NameKind)} {x:Str},names.lookup x=some .free ->
  let l:=(names.map fun(n,k)=>if (k == NameKind.free && env.scope.kind == .function && env.kindOf n == some .cell) then (n,NameKind.cell) else (n,k));l.lookup x=some .cell\/l.lookup x=some .free
 |[],_,h=>by simp at h
 |(n,k0)::r,x,h=>by
  show List.lookup x ((if (k0 == NameKind.free && env.scope.kind == .function && env.kindOf n == some .cell)=true then (n,NameKind.cell) else (n,k0))::_)=_\/List.lookup x ((if (k0 == NameKind.free && env.scope.kind == .function && env.kindOf n == some .cell)=true then (n,NameKind.cell) else (n,k0))::_)=_
  rw[List.lookup_cons] at h
  cases hx:x == n with
  |true=>
   rw[hx] at h
   cases h
   split
   ·left;rw[List.lookup_cons,hx]
   ·right;rw[List.lookup_cons,hx]
  |false=>
   rw[hx] at h
   have ih:=kG (env:=env) h
   split
   ·rw[List.lookup_cons,hx];exact ih
   ·rw[List.lookup_cons,hx];exact ih
noncomputable def cxC(X:Cx)(N':List Str)(scope:Scope)(C:Addr)(fp:List Addr)(s:Shared)(H:Hp):Cx where
 prog:=X.prog
 w:=X.w
 K:=X.K
 mg:=X.mg
 base:=X.base
 A:=X.A
 N:=N'
 s₀:=s
 H₀:=H
 env:=compEnvC scope (ZU X.env scope.names []) C X.env
 outer:=X.stack
 stack:=X.stack
 ex:=fp
 fn:=fun _=>false
 calm:=X.calm
 pn:=[]
 xe:=fun _ _=>False
structure CmpOk(X:Cx)(N':List Str)(cap:List Nat)(scope:Scope):Prop where
 kind:scope.kind=.function
 nc:∀y∈scope.names,y.2≠.cell
 nm:∀y∈scope.names,y.2=.local->scope.names.lookup y.1=some .local
 fr:∀y∈scope.names,y.2=.free->X.env.kindOf y.1=some .cell\/X.env.kindOf y.1=some .free
 capt:∀(i j:Nat),cap[i]?=some j->∃x,N'[i]?=some x/\X.N[j]?=some x/\scope.names.lookup x=some .free
 len:cap.length<=N'.length
noncomputable def zAI(cap:List Nat)(n:Nat)(σ:St):St:=(cap.map fun j=>(σ[j]?).getD none)++List.replicate (n-cap.length) none
section
variable{X:Cx}{pins:List (Addr×Obj)}{σ:St}{H:Hp}{s:Shared}{N':List Str}{cap:List Nat}{scope:Scope}{fp:List Addr}
theorem CmpOk.hasc(o:CmpOk X N' cap scope)(ok:X.Ok):∀y∈scope.names,y.2=.free->∃c,X.env.cells.lookup y.1=some c:=fun y hy e=>ok.has y.1 (o.fr y hy e)
theorem CmpOk.sub(o:CmpOk X N' cap scope)(ok:X.Ok){x:Str}{c:Addr}(e:(ZU X.env scope.names []).lookup x=some c):X.env.cells.lookup x=some c:=dP scope.names [] (o.hasc ok) (fun _ z=>by simp at z) e
theorem JB(o:CmpOk X N' cap scope)(I:Inv X pins σ H s)(hfp:∀b∈fp,Z5 X pins H b)(hlt:∀b∈fp,b<s.heap.objs.size){h':Heap}{t':Nat}(ns:h'.Ns s.heap.objs.size (fun _=>none))(kp:∀b u,s.heap.get? b=some u->h'.get? b=some u):Inv (cxC X N' scope s.heap.objs.size fp s H) [] (zAI cap N'.length σ) H { s with heap:=h',toks:=t' }:=by
 have hf:H s.heap.objs.size=none:=I.hok.fresh (Nat.le_refl _)
 have nofp:∀b∈fp,b∉frs X.stack:=fun b hb z=>by
  obtain⟨f0,f1,f2,f3,f4,f5⟩:=hfp b hb
  rcases List.mem_cons.mp (I.stkSub b z) with q|q
  ·exact f1 q
  ·exact f2 q
 have ok':(cxC X N' scope s.heap.objs.size fp s H).Ok:=by
  refine⟨I.ok.mod,o.kind,I.ok.glob,I.ok.blt,Nat.le_refl _,fun x y c e1 e2=>I.ok.inj x y c (o.sub I.ok e1) (o.sub I.ok e2),fun x hx=>?_,fun x c z=>(by cases z),I.ok.hd,I.ok.frames,.inl rfl,fun b hb=>⟨Nat.ne_of_lt (hlt b hb),fun x c e=>(hfp b hb).2.2.2.2.1 x c (o.sub I.ok e)⟩,
   fun b ob e=>I.bs b ob e,Nat.le_trans I.ok.bsz I.sz,fun b ob e hb=>?_,nofp,I.stack,⟨I.stkFree,I.tabIn⟩⟩
  ·have key:scope.names.lookup x=some .free:=by
    rcases hx with hx|hx
    ·obtain⟨k',e1,e2⟩:=qR (env:=X.env) (names:=scope.names) (x:=x) (k:=.cell) hx
     rcases e2 with e2|e2
     ·subst e2;exact absurd rfl (o.nc _ (PySem.mem_of_lookup e1))
     ·rw[e2.1] at e1;exact e1
    ·obtain⟨k',e1,e2⟩:=qR (env:=X.env) (names:=scope.names) (x:=x) (k:=.free) hx
     rcases e2 with e2|e2
     ·subst e2;exact e1
     ·exact absurd e2.2 (by decide)
   exact u8 scope.names [] (PySem.mem_of_lookup key)
  ·rcases(hfp b hb).2.2.2.1 with z|z
   ·exact I.ok.noex b ob e z
   ·exact absurd (Nat.lt_of_lt_of_le (Nat.lt_of_lt_of_le (Heap.lt_size e) I.ok.bsz) z) (Nat.lt_irrefl _)
 refine⟨ok',rfl,I.bare,Un.kept kp,⟨fun _=>none,ns,fun i x v hN hs hv=>?_⟩,fun x c e=>?_,hf,fun x c e=>I.freeC x c (o.sub I.ok e),fun p hp=>?_,I.hok.kept kp,?_⟩
 ·have hN:N'[i]?=some x:=hN
  by_cases hi:i<cap.length
  ·unfold zAI at hs
   rw[List.getElem?_append_left (by simpa using hi),List.getElem?_map] at hs
   obtain⟨j,hj⟩:∃j,cap[i]?=some j:=⟨cap[i],by simp[hi]⟩
   rw[hj] at hs
   have hs':σ[j]?=some (some v):=by
    have hs'':(σ[j]?).getD none=some v:=Option.some.inj hs
    cases e:σ[j]? with
    |none=>rw[e] at hs'';cases hs''
    |some y=>rw[e] at hs'';have:y=some v:=hs'';rw[this]
   obtain⟨x',e1,e2,e3⟩:=o.capt i j hj
   rw[hN] at e1;cases e1
   have hk:=o.fr (x,.free) (PySem.mem_of_lookup e3) rfl
   obtain⟨m,hn,hl⟩:=I.loc
   have hvis:Vis X.env.scope x:=hk.elim (fun z=>.inr (.inl z)) fun z=>.inr (.inr z)
   obtain⟨u,r,lk⟩:=hl j x v e2 hs' hvis
   refine⟨u,r,.inr ⟨kG (env:=X.env) e3,?_⟩⟩
   rcases lk with⟨z,_⟩|⟨_,c,hc,hcell⟩
   ·have z':X.env.kindOf x=some .local:=z
    rw[z'] at hk
    rcases hk with hk|hk<;>cases hk
   ·obtain⟨c',hc'⟩:=u8 (env:=X.env) scope.names [] (PySem.mem_of_lookup e3)
    have hcc:=o.sub I.ok hc'
    rw[hc] at hcc;cases hcc
    obtain⟨ob,q1,q2⟩:=hcell
    exact⟨c,hc',ob,kp _ _ q1,q2⟩
  ·unfold zAI at hs
   rw[List.getElem?_append_right (by simpa using Nat.le_of_not_lt hi),List.getElem?_replicate] at hs
   split at hs<;>cases hs
 ·obtain⟨v,ob,q1,q2⟩:=I.cell x c (o.sub I.ok e)
  exact⟨v,ob,kp _ _ q1,q2⟩
 ·exact absurd (show p∈([]:List (Addr×Obj)) from hp) (by simp)
 ·unfold zAI
  show _=N'.length
  rw[List.length_append,List.length_map,List.length_replicate]
  have:=o.len
  omega
theorem kQ{H2:Hp}{σ2:St}{s2:Shared}{h':Heap}(I:Inv X pins σ H s)(hfp:∀b∈fp,Z5 X pins H b)(J:Inv (cxC X N' scope s.heap.objs.size fp s H) [] σ2 H2 s2)(sb:Heap.SameBut s.heap.objs.size s2.heap h'):Inv X pins σ H2 { s2 with heap:=h' }:=by
 have hb:Un (frs X.stack) fp H H2 s.heap s2.heap:=J.base
 have ne:∀b o,s.heap.get? b=some o->b≠s.heap.objs.size:=fun b o e=>Nat.ne_of_lt (Heap.lt_size e)
 have fr:H2 s.heap.objs.size=none:=J.free
 refine I.call' (s':={ s2 with heap:=h' }) (ch:=fp) J.os ?_ ?_ J.bare fun b hb=>⟨(hfp b hb).2.2.2.1,(hfp b hb).2.1,(hfp b hb).2.2.2.2.1,(hfp b hb).2.2.2.2.2⟩
 ·refine⟨fun b o e n h1 h2=>?_,fun b o e n h1 h2=>?_,fun b o e n h2=>hb.free b o e n h2,fun b o e h2=>?_,hb.tups,hb.frzs,hb.tbls⟩
  ·exact sb.extBut b o (ne b o e) (hb.keep b o e n h1 h2)
  ·obtain⟨sl,q⟩:=hb.slot b o e n h1 h2
   exact⟨sl,sb.extBut b _ (ne b o e) q⟩
  ·obtain⟨o',q⟩:=hb.there b o e h2
   exact⟨o',sb.extBut b _ (ne b o e) q⟩
 ·intro b u e
  have nb:∀c w,H2 c=some w->c≠s.heap.objs.size:=fun c w q z=>by rw[z,fr] at q;cases q
  refine(J.hok b u e).stay (fun c v hc q=>sb.extBut c v ?_ q) (fun _ q=>q) (fun _ _ q=>q) fun _ _ _ q=>q
  rcases hc with z|z
  ·rw[z];exact nb b u e
  ·exact nb c _ z
noncomputable def WD(tc:Option TT)(te:TE)(K1:V->Hp->Prop)(K0:Hp->Prop):St->Hp->Prop:=fun σ H=>match tc with
 |none=>te σ H K1
 |some c=>c σ H fun b H1=>if b=true then te σ H1 K1 else K0 H1
noncomputable def zA7(cap:List Nat)(n:Nat)(wi:TI)(g:TG)(tc:Option TT)(te:TE):TE:=fun σ H Q=>wi σ H fun J H1=>∀p,H1 p=none->∃W:Nat->Nat->List V->St->Hp->Prop,(∃m,W 0 m [] (zAI cap n σ) (upd H1 p (.lst [])))/\∀i m ys σ2 H2,W i m ys σ2 H2->H2 p=some (.lst ys)/\ys.length<sizeLine /\
 ((J.stop i H2/\Q (.ref p) H2)\/(J.go i H2/\∀x H3,J.yld i H2 x H3->g x σ2 H3 fun σ4 H4=>WD tc te (fun y H5=>H5 p=some (.lst ys)/\∃m',m'<m/\W (i+1) m' (ys++[y]) σ4 (upd H5 p (.lst (ys++[y])))) (fun H5=>∃m',m'<m/\W (i+1) m' ys σ4 H5) σ4 H4))
theorem mM{prog:Program}{w:World}{A:Around}{Z:Result->Shared->Prop}{t0:Shared}{elt tgt src:Expr}{tests:List Expr}{scope:Scope}{pos:Pos}{it out:Value}{env:Env}(W:Nat->Shared->Prop)(each:∀k t,W k t->wpAny (model prog w) A (pyNext it) (fun got t1=>match got with
   |none=>Z (.ok .next) t1
   |some y=>wpAny (model prog w) A (letOwnedTupleGo tgt it y) (fun _ t2=>wpAny (model prog w) A (assign tgt env y) (fun _ t3=>
     wpAny (model prog w) A (forIn tests true fun c b=>if b=true then do let ok <- isTrue c env (eval c env);pure (ForInStep.yield ok) else pure (ForInStep.yield b)) (fun good t4=>
      if good=true then wpAny (model prog w) A (eval elt env) (fun x t5=>
       wpAny (model prog w) A (call (.builtin "list.append") [out,x]) (fun _ t6=>∃j,j<k/\W j t6) (fun _ _=>False) t5) (fun _ _=>False) t4
      else ∃j,j<k/\W j t4) (fun _ _=>False) t3) (fun _ _=>False) t2) (fun _ _=>False) t1) (fun _ _=>False) t)(k:Nat)(h0:W k t0):codeAny (model prog w) A (.compLoop (.ListComp elt [⟨tgt,src,tests,0⟩] scope pos) 0 it out env) Z t0:=by
 refine codeAny_loop rfl W (fun k t hW=>?_) k h0
 show wpAny _ A ((compTurn (.ListComp elt [⟨tgt,src,tests,0⟩] scope pos) 0 it out env).onRaise (fun x=>do noteFrame x env;theTreesLotGoes x)) _ _ t
 refine wpAny_noted ?_
 rw[compTurn_list]
 refine wpAny_bind (wpAny_standAt (wpAny_bind (wpAny_mono (each k t hW) (fun got t1 g1=>?_) fun _ _ no=>no.elim)))
 cases got with
 |none=>exact wpAny_pure g1
 |some y=>
  refine wpAny_bind (wpAny_mono g1 (fun _ t2 g2=>wpAny_bind (wpAny_mono g2 (fun _ t3 g3=>wpAny_bind (wpAny_mono g3 (fun good t4 g4=>?_) fun _ _ no=>no.elim)) fun _ _ no=>no.elim)) fun _ _ no=>no.elim)
  cases good with
  |false=>exact wpAny_pure ⟨rfl,g4⟩
  |true=>
   exact wpAny_bind (wpAny_bind (wpAny_mono g4 (fun x t5 g5=>wpAny_bind (wpAny_mono g5 (fun _ t6 g6=>wpAny_pure (wpAny_pure ⟨rfl,g6⟩)) fun _ _ no=>no.elim)) fun _ _ no=>no.elim))
theorem mL{elt tg iter:Expr}{ifs:List Expr}{pos:Pos}{g:TG}{tc:Option TT}{te:TE}{J:It}{it:Addr}{tn:Nat->Heap->Prop}{Q:VK}{RR:Value->Addr->Result->Shared->Prop}(hc:X.calm=true)(o:CmpOk X N' cap scope)(hg:∀C fp s H,PG (cxC X N' scope C fp s H) tg g)(ht:match (generalizing:=false) tc with|none=>ifs=[]|some c=>∃e,ifs=[e]/\∀C fp s H,PT (cxC X N' scope C fp s H) e c)(he:∀C fp s H,PE (cxC X N' scope C fp s H) elt te)(I:Inv X pins σ H s)(T:Turn X.prog X.w X.K tg J fp it tn)(st:tn 0 s.heap)(hfp:∀b∈fp,Z5 X pins H b)(hw:∀p,H p=none->∃W:Nat->Nat->List V->St->Hp->Prop,(∃m,W 0 m [] (zAI cap N'.length σ) (upd H p (.lst [])))/\∀i m ys σ2 H2,W i m ys σ2 H2->H2 p=some (.lst ys)/\ys.length<sizeLine /\
   ((J.stop i H2/\Q (.ref p) H2)\/(J.go i H2/\∀x H3,J.yld i H2 x H3->g x σ2 H3 fun σ4 H4=>WD tc te (fun y H5=>H5 p=some (.lst ys)/\∃m',m'<m/\W (i+1) m' (ys++[y]) σ4 (upd H5 p (.lst (ys++[y])))) (fun H5=>∃m',m'<m/\W (i+1) m' ys σ4 H5) σ4 H4)))(hRR:∀(p:Addr) (s3 s':Shared) (H3 H2:Hp) (σ2:St),Inv X pins σ H3 s3->(∀b∈fp,Z5 X pins H3 b)->Inv (cxC X N' scope s3.heap.objs.size fp s3 H3) [] σ2 H2 s'->Q (.ref p) H2->RR (.ref p) s3.heap.objs.size (.ok .next) s'):wpAny (model X.prog X.w) X.A (newList []) (fun acc s₃=>wpAny (model X.prog X.w) X.A (newFunctionEnv scope X.env.globals (ZU X.env scope.names []) [] X.env.qual none .none (some X.env)) (fun cenv s₄=>
   codeAny (model X.prog X.w) X.A (.compStart (.ListComp elt [⟨tg,iter,ifs,0⟩] scope pos) 0 (.ref it) acc { cenv with scope:=relabel scope X.env }) (RR acc cenv.locals) s₄) X.xe s₃) X.xe s:=by
 refine wpAny_newObj_type ?_
 obtain⟨W,⟨m0,w0⟩,turn⟩:=hw s.heap.objs.size (I.hok.fresh (Nat.le_refl _))
 have nfp:∀b∈fp,b<s.heap.objs.size:=fun b hb=>by
  obtain⟨ob,e,_⟩:=T.obj 0 _ st b hb
  exact Heap.lt_size e
 have I3:=I.lnew (its:=[]) (ys:=[]) (t':=s.toks) .nil (Nat.zero_le _)
 generalize hs3:({ s with heap:=s.heap.push { cls:=.type "list",data:=.seq ([]:List Value).toArray },toks:=s.toks }:Shared)=s3 at I3
 have hs3':({ s with heap:=s.heap.push { cls:=.type "list",dict:=none,data:=.seq ([]:List Value).toArray } }:Shared)=s3:=hs3
 have hf3:∀b∈fp,Z5 X pins (upd H s.heap.objs.size (.lst [])) b:=fun b hb=>⟨by rw[zM (Nat.ne_of_lt (nfp b hb))];exact(hfp b hb).1,(hfp b hb).2⟩
 have st3:tn 0 s3.heap:=T.keep 0 _ _ st fun b _ ob e=>by rw[<-hs3];exact Heap.get?_push_of_some _ e
 have nfp3:∀b∈fp,b<s3.heap.objs.size:=fun b hb=>by
  obtain⟨ob,e,_⟩:=T.obj 0 _ st3 b hb
  exact Heap.lt_size e
 refine wpAny_newFunctionEnv o.nc (by intro y hy;simp at hy) (fun h₁ hns₁ hsb₁=>?_) o.kind
 have old:∀b ob,s3.heap.get? b=some ob->h₁.get? b=some ob:=fun b ob e=>hsb₁.extBut b ob (Nat.ne_of_lt (Heap.lt_size e)) (Heap.get?_push_of_some _ e)
 have I4:=JB (t':=s3.toks+([]:List (Str×Value)).length) o I3 hf3 nfp3 (by simpa using hns₁) old
 have st4:tn 0 h₁:=T.keep 0 _ _ st3 fun b _ ob e=>old b ob e
 have fpC:∀H',(∀b∈fp,H' b=none)->∀b∈fp,Z5 (cxC X N' scope s3.heap.objs.size fp s3 (upd H s.heap.objs.size (.lst []))) [] H' b:=fun H' hn b hb=>by
  refine⟨hn b hb,Nat.ne_of_lt (nfp3 b hb),I4.ok.exfs b hb,.inl hb,(I4.ok.exf b hb).2,fun p hp=>absurd (show p∈([]:List (Addr×Obj)) from hp) (by simp)⟩
 have loop:codeAny (model X.prog X.w) X.A (.compLoop (.ListComp elt [⟨tg,iter,ifs,0⟩] scope pos) 0 (.ref it) (.ref s.heap.objs.size) (compEnvC scope (ZU X.env scope.names []) s3.heap.objs.size X.env)) (RR (.ref s.heap.objs.size) s3.heap.objs.size) { s3 with heap:=h₁,toks:=s3.toks+([]:List (Str×Value)).length }:=by
  refine mM (fun n s'=>∃i ys σ' H',Inv (cxC X N' scope s3.heap.objs.size fp s3 (upd H s.heap.objs.size (.lst []))) [] σ' H' s'/\tn i s'.heap/\(∀b∈fp,H' b=none)/\W i n ys σ' H') ?_ m0 ⟨0,[],_,_,I4,st4,fun b hb=>(hf3 b hb).1,w0⟩
  rintro n s5 ⟨i,ys,σ5,H5,I5,st5,fr5,w5⟩
  obtain⟨hp5,hz5,br⟩:=turn i n ys σ5 H5 w5
  rcases br with⟨stop,q⟩|⟨go,step⟩
  ·refine thn (T.done (cxC X N' scope s3.heap.objs.size fp s3 (upd H s.heap.objs.size (.lst []))) rfl rfl rfl hc i [] s5 _ H5 (fun _ _=>False) I5 (fpC H5 fr5) st5 stop) fun r s6 ⟨hr,I6⟩=>?_
   subst hr
   exact hRR _ s3 s6 _ H5 _ I3 hf3 I6 q
  ·refine thn (T.item (cxC X N' scope s3.heap.objs.size fp s3 (upd H s.heap.objs.size (.lst []))) rfl rfl rfl hc i [] s5 _ H5 (fun _ _=>False) I5 (fpC H5 fr5) st5 go) fun r s6 ⟨u,hr,h6⟩=>?_
   subst hr
   refine thn h6 fun _ s7 ⟨x,H7,I7,r7,y7,st7,fr7⟩=>?_
   have I7':=I7.pinned (fpC H7 fr7) (T.obj _ _ st7)
   refine thn (hg _ _ _ _ _ s7 _ H7 x u _ I7' r7 (step x H7 y7)) fun _ s8 ⟨σ8,H8,I8,q8⟩=>?_
   have again:∀{H9:Hp} {σ9:St} {s9:Shared} {ys':List V},Inv (cxC X N' scope s3.heap.objs.size fp s3 (upd H s.heap.objs.size (.lst []))) ([]++gK fp s7.heap) σ9 H9 s9->(∃m',m'<n/\W (i+1) m' ys' σ9 H9) ->
     ∃m,m<n/\∃i ys σ' H',Inv (cxC X N' scope s3.heap.objs.size fp s3 (upd H s.heap.objs.size (.lst []))) [] σ' H' s9/\tn i s9.heap/\(∀b∈fp,H' b=none)/\W i m ys σ' H':=fun {H9 σ9 s9 ys'} I9 z=>by
    obtain⟨m',hm,w9⟩:=z
    refine⟨m',hm,i+1,ys',σ9,H9,I9.unpinned,T.keep _ _ _ st7 fun b hb ob e=>(I9.pin (b,ob) (List.mem_append_right _ (List.mem_append_right _ (jF hb e)))).1,fun b hb=>?_,w9⟩
    obtain⟨ob,e,d⟩:=T.obj _ _ st7 b hb
    exact(I9.pin (b,ob) (List.mem_append_right _ (List.mem_append_right _ (jF hb e)))).2.1
   have app:∀{s9:Shared} {H9:Hp} {y:V} {u9:Value},Inv (cxC X N' scope s3.heap.objs.size fp s3 (upd H s.heap.objs.size (.lst []))) ([]++gK fp s7.heap) σ8 H9 s9->RelV y u9->(H9 s.heap.objs.size=some (.lst ys)/\∃m',m'<n/\W (i+1) m' (ys++[y]) σ8 (upd H9 s.heap.objs.size (.lst (ys++[y])))) ->
     wpAny (model X.prog X.w) X.A (call (.builtin "list.append") [.ref s.heap.objs.size,u9]) (fun _ s₅=>∃m,m<n/\∃i ys σ' H',Inv (cxC X N' scope s3.heap.objs.size fp s3 (upd H s.heap.objs.size (.lst []))) [] σ' H' s₅/\tn i s₅.heap/\(∀b∈fp,H' b=none)/\W i m ys σ' H') (fun _ _=>False) s9:=fun {s9 H9 y u9} I9 r9 z9=>by
    refine thn (jE (X:=cxC X N' scope s3.heap.objs.size fp s3 (upd H s.heap.objs.size (.lst []))) _ s9 σ8 H9 (.ref s.heap.objs.size) [y] (.ref s.heap.objs.size) [u9] (fun _ H'=>∃m',m'<n/\W (i+1) m' (ys++[y]) σ8 H') I9 rfl (.cons r9 .nil) ⟨_,ys,y,rfl,rfl,z9.1,hz5,z9.2⟩) fun _ s10 ⟨_,H10,I10,_,z10⟩=>?_
    exact again I10 z10
   cases tc with
   |none=>
    have hi:ifs=[]:=ht
    subst hi
    refine wpAny_tests_nil ?_
    rw[if_pos rfl]
    exact thn (he _ _ _ _ _ s8 σ8 H8 _ I8 q8) fun u9 s9 ⟨y,H9,I9,r9,z9⟩=>app I9 r9 z9
   |some c=>
    obtain⟨e,he1,hce⟩:=ht
    subst he1
    refine wpAny_tests_one (thn (hce _ _ _ _ _ s8 σ8 H8 _ I8 q8) fun b s9 ⟨H9,I9,q9⟩=>?_)
    cases b with
    |false=>
     rw[if_neg Bool.false_ne_true] at q9 ⊢
     exact again I9 q9
    |true=>
     rw[if_pos rfl] at q9 ⊢
     exact thn (he _ _ _ _ _ s9 σ8 H9 _ I9 q9) fun u10 s10 ⟨y,H10,I10,r10,z10⟩=>app I10 r10 z10
 exact codeAny_compStart_list loop (T.self X.A 0 _ _ _ st4 loop)
end
section
variable{X:Cx}{N':List Str}{cap:List Nat}{scope:Scope}{elt tg iter:Expr}{ifs:List Expr}{pos:Pos}{wi:TI}{g:TG}{tc:Option TT}{te:TE}
theorem uJ(hc:X.calm=true)(o:CmpOk X N' cap scope)(hi:PI X tg iter wi)(hg:∀C fp s H,PG (cxC X N' scope C fp s H) tg g)(ht:match (generalizing:=false) tc with|none=>ifs=[]|some c=>∃e,ifs=[e]/\∀C fp s H,PT (cxC X N' scope C fp s H) e c)(he:∀C fp s H,PE (cxC X N' scope C fp s H) elt te)(hs:∀x,foldedSetIterable iter X.env x=pure x:=by intro _;rfl):PE X (.ListComp elt [⟨tg,iter,ifs,0⟩] scope pos) (zA7 cap N'.length wi g tc te):=by
 intro pins s σ H Q I h
 rw[eval_ListComp]
 refine wpAny_comprehension_free (use:=none) rfl hs (jU (o.hasc I.ok)) o.kind o.nm (thn (hi pins s σ H _ I h) fun xv s1 h1=>thn h1 fun itv s2 h2=>?_)
 obtain⟨it,fp,tn,J,H2,rfl,I2,T,st2,f2,hw⟩:=h2
 refine mL (Q:=Q) hc o hg ht he I2 T st2 f2 hw ?_
 intro p s3 s' H3 H4 σ4 I3 f3 J4 q
 obtain⟨m,hn,_⟩:=J4.loc
 exact⟨m,hn,fun h' sb=>⟨.ref p,H4,kQ I3 f3 J4 sb,rfl,q⟩⟩
theorem W1{i:Nat}{y:Str}{py spos:Pos}(hc:X.calm=true)(o:CmpOk X N' cap scope)(hi:PI X tg iter wi)(hg:∀C fp s H,PG (cxC X N' scope C fp s H) tg g)(ht:match (generalizing:=false) tc with|none=>ifs=[]|some c=>∃e,ifs=[e]/\∀C fp s H,PT (cxC X N' scope C fp s H) e c)(he:∀C fp s H,PE (cxC X N' scope C fp s H) elt te)(hN:X.N.Nodup)(hy:X.N[i]?=some y)(hx:Loc X.env.scope y)(hf:X.fn y=true\/X.env.scope.names.lookup y=some .local)(hsw:swapsWith (.ListComp elt [⟨tg,iter,ifs,0⟩] scope pos) (some (.Name y py)) spos.line X.env=pure true)(hs:∀x,foldedSetIterable iter X.env x=pure x:=by intro _;rfl):PS X (.Assign [.Name y py] (.ListComp elt [⟨tg,iter,ifs,0⟩] scope pos) spos) (zKG (zA7 cap N'.length wi g tc te) (ZL i)):=by
 intro pins s σ H D I h
 rw[exec_Assign_Name_used _ _ _ _ hsw];refine wpAny_bind (wpAny_standAt (wpAny_bind ?_))
 show wpAny _ X.A (do let _ <- comprehension (.ListComp elt [⟨tg,iter,ifs,0⟩] scope pos) scope X.env _ (newList []) false (eval iter X.env) (some (assign (.Name y py) X.env))) _ _ s
 refine wpAny_bind (wpAny_mono (wpAny_comprehension_free (use:=some (assign (.Name y py) X.env)) (Q:=fun _ s'=>SP X pins D .next s') rfl hs (jU (o.hasc I.ok)) o.kind o.nm
  (thn (hi pins s σ H _ I h) fun xv s1 h1=>thn h1 fun itv s2 h2=>?_)) (fun _ s' hq=>wpAny_pure (wpAny_pure hq)) fun _ _ e=>e)
 obtain⟨it,fp,tn,J,H2,rfl,I2,T,st2,f2,hw⟩:=h2
 refine mL (Q:=fun v H1=>ZL i v σ H1 D.nx) hc o hg ht he I2 T st2 f2 hw ?_
 intro p s3 s' H3 H4 σ4 I3 f3 J4 q
 obtain⟨m,hn,_⟩:=J4.loc
 have I5:Inv X pins σ H4 s':=kQ I3 f3 J4 (Heap.SameBut.refl _ _)
 have fc:Z5 X pins H4 s3.heap.objs.size:=I3.fpOk (Nat.le_refl _) J4.free
 show wpAny _ X.A (assign (.Name y py) X.env (.ref p)) _ _ _
 refine wpAny_assign_Name (gA (v:=.ref p) I5 hN hy hx rfl (fun s6 I6 ⟨a,sb,ha⟩=>?_) hf)
 have hne:s3.heap.objs.size≠a:=by
  rcases ha with ha|ha
  ·rw[ha];exact fc.2.1
  ·exact fun z=>fc.2.2.2.2.1 y a ha z.symm
 refine⟨m,hn.sameBut sb hne,fun h' sb'=>⟨_,H4,?_,q⟩⟩
 exact I6.turned (t':=s6.toks) (it:=s3.heap.objs.size) (fun b ob hb e=>sb'.extBut b ob hb e) fc.1 fc.2.1 fc.2.2.2.1 fc.2.2.2.2.1 fc.2.2.2.2.2
end
noncomputable def wI:D->D->Option D
 |.int i,.int j=>some (.int (i+j))
 |.str s,.str t=>if s.length+t.length<=sizeLine then some (.str (s++t)) else none
 |.lst l,.lst m=>if l.length+m.length<=sizeLine then some (.lst (l++m)) else none
 |.tup l,.tup m=>if l.length+m.length<=sizeLine/\l.isEmpty=false/\m.isEmpty=false then some (.tup (l++m)) else none
 |_,_=>none
noncomputable def zAH:D->D->Option D
 |.int i,.int j=>some (.int (i-j))
 |_,_=>none
noncomputable def vL:D->D->Option D
 |.int i,.int j=>if (-(2 ^ 64)<i/\i<2 ^ 64)\/(-(2 ^ 64)<j/\j<2 ^ 64) then some (.int (i*j)) else none
 |_,_=>none
noncomputable def xV:D->D->Option D
 |.int i,.int j=>if 0<j/\j<1073741824 then some (.int (i / j)) else none
 |_,_=>none
noncomputable def xX:D->D->Option D
 |.int i,.int j=>if 0<j then some (.int (i % j)) else none
 |_,_=>none
noncomputable def zEY:D->D->Option D
 |.int i,.int j=>if 0<=j/\j<=1000000/\i.natAbs<2 ^ 64 then some (.int (i ^ j.toNat)) else none
 |_,_=>none
noncomputable def zH2:D->Option D
 |.int i=>some (.int (-i))
 |_=>none
noncomputable def gtD:D->D->Option D
 |.int i,.int j=>some (.bl (decide (j<i)))
 |_,_=>none
noncomputable def eqS:D->D->Option Bool
 |.int i,.int j=>some (decide (i=j))
 |.str s,.str t=>some (decide (s=t))
 |.bl a,.bl b=>some (decide (a=b))
 |.non,.non=>some true
 |.non,.int _=>some false
 |.int _,.non=>some false
 |.non,.str _=>some false
 |.str _,.non=>some false
 |.int _,.str _=>some false
 |.str _,.int _=>some false
 |_,_=>none
noncomputable def eqD(x y:D):Option D:=(eqS x y).map .bl
noncomputable def neD(x y:D):Option D:=(eqS x y).map fun b=>.bl !b
noncomputable def gR(x y:D):Option D:=match y with
 |.non=>match x with
  |.non=>some (.bl false)
  |_=>some (.bl true)
 |_=>none
section
variable{X:Cx}
noncomputable def zHT(K:Fg):R2:=fun x y H Q=>∃l b xs zs,x=.ref l/\y=.ref b/\SqL K H l xs/\SqL K H b zs/\xs.length+zs.length<=sizeLine/\∀p,H p=none->Q (.ref p) (upd H p (.lst (xs++zs)))
theorem op_catR:OpR X (binaryOp .Add) (zHT X.K):=by
 intro pins s σ H x y v u Q I rx ry h
 obtain⟨l,b,xs,zs,rfl,rfl,hH,hB,hz,q⟩:=h
 cases rx
 cases ry
 obtain⟨its,r,⟨⟨cls,dd,data,sl⟩,n,e,hc,hd0,hd⟩,z⟩:=I.list hH
 obtain⟨its2,r2,⟨⟨cls2,dd2,data2,sl2⟩,n2,e2,hc2,hd02,hd2⟩,z2⟩:=I.list hB
 have hl:=r.length
 have hl2:=r2.length
 cases (show cls=_ from hc);cases (show dd=_ from hd0);cases (show data=_ from hd)
 cases (show cls2=_ from hc2);cases (show dd2=_ from hd02);cases (show data2=_ from hd2)
 refine concat_meets ⟨_,e,rfl⟩ ⟨_,e2,rfl⟩ noFill_list_add seq_list_add PySem.F.slot_list_add PySem.F.entry_list_add (PySem.F.args_list_add_2 _ _) (list_addW l b its.toArray its2.toArray n n2 none none sl sl2 (by rw[List.size_toArray,List.size_toArray];omega)) ⟨e,e2,?_⟩
 have ea:its.toArray++its2.toArray=(its++its2).toArray:=by simp
 rw[ea]
 exact⟨.ref _,_,I.lnew (t':=s.toks) (r.append r2) (by rw[List.length_append];omega),rfl,q _ I.fresh⟩
noncomputable def zHR(K:Fg):R2:=fun x y H Q=>rI0 (fun i j=>.int (i+j)) x y H Q\/(∃i j,x=.str i/\y=.str j/\i.length+j.length<=sizeLine/\Q (.str (i++j)) H)\/zHT K x y H Q\/zHS K x y H Q
theorem yE:OpR X (binaryOp .Add) (zHR X.K):=op_add.or (op_add_str.or (op_catR.or zCB))
theorem oV(s t:List Nat):((⟨s.toArray⟩:Str)++(⟨t.toArray⟩:Str))=(⟨(s++t).toArray⟩:Str):=by
 show(⟨s.toArray++t.toArray⟩:Str)=_
 simp
theorem jA(s:List Nat):(⟨s.toArray⟩:Str).length=s.length:=by simp[Str.length]
theorem yF{K:Fg}:OpD K (zHR K) wI:=by
 intro O H dx dy d vx vy Q ol ix iy e q
 unfold wI at e
 split at e
 ·have e:=Option.some.inj e
  subst e
  rw[Is.int_iff] at ix iy
  exact .inl ⟨_,_,ix,iy,q _ H (Same.refl H) (by rw[Is.int_iff])⟩
 ·rename_i s t
  split at e
  ·rename_i hl
   cases e
   rw[Is.str_iff] at ix iy
   refine .inr (.inl ⟨_,_,ix,iy,by rw[jA,jA];exact hl,q _ H (Same.refl H) ?_⟩)
   rw[Is.str_iff,oV]
  ·cases e
 ·rename_i l m
  split at e
  ·rename_i hl
   cases e
   rw[Is.lst_iff] at ix iy
   obtain⟨a,xs,rfl,hs,il⟩:=ix
   obtain⟨b,ys,rfl,hs2,il2⟩:=iy
   have e1:=il.length
   have e2:=il2.length
   refine .inr (.inr (.inl ⟨a,b,xs,ys,rfl,rfl,hs.sq,hs2.sq,by omega,fun p hp=>q _ _ (z3 hp) ?_⟩))
   rw[Is.lst_iff]
   refine⟨p,_,rfl,.inl ⟨fun z=>?_,.inl zN⟩,(il.append il2).same (z3 hp) ol⟩
   obtain⟨zs,ez,_⟩:=ol p z
   rw[hp] at ez;cases ez
  ·cases e
 ·rename_i l m
  split at e
  ·rename_i hl
   cases e
   rw[Is.tup_iff] at ix iy
   obtain⟨a,xs,rfl,hs,il⟩:=ix
   obtain⟨b,ys,rfl,hs2,il2⟩:=iy
   have e1:=il.length
   have e2:=il2.length
   refine .inr (.inr (.inr ⟨a,b,xs,ys,rfl,rfl,hs,hs2,?_,by omega,fun z=>?_,fun _ p hp=>q _ _ (z3 hp) ?_⟩))
   ·rintro rfl
    have:l=[]:=by simpa using e1
    subst this
    simp at hl
   ·subst z
    have:m=[]:=by simpa using e2
    subst this
    simp at hl
   ·rw[Is.tup_iff]
    exact⟨p,_,rfl,SqT.of zN,(il.append il2).same (z3 hp) ol⟩
  ·cases e
 ·cases e
theorem zJK{K:Fg}{C:Int->Int->Prop}{g:Int->Int->V}{m:D->D->Option D}(h:∀dx dy d,m dx dy=some d->∃i j,dx=.int i/\dy=.int j/\C i j/\∀O H,Is K O H d (g i j)):OpD K (rI C g) m:=by
 intro O H dx dy d vx vy Q ol ix iy e q
 obtain⟨i,j,rfl,rfl,hc,hd⟩:=h dx dy d e
 rw[Is.int_iff] at ix iy
 exact⟨i,j,ix,iy,hc,q _ H (Same.refl H) (hd O H)⟩
theorem zH1{K:Fg}{g:Int->Int->V}{m:D->D->Option D}(h:∀dx dy d,m dx dy=some d->∃i j,dx=.int i/\dy=.int j/\∀O H,Is K O H d (g i j)):OpD K (rI0 g) m:=by
 intro O H dx dy d vx vy Q ol ix iy e q
 obtain⟨i,j,rfl,rfl,hd⟩:=h dx dy d e
 rw[Is.int_iff] at ix iy
 exact⟨i,j,ix,iy,q _ H (Same.refl H) (hd O H)⟩
theorem nP{K:Fg}:OpD K (rI0 fun i j=>.int (i-j)) zAH:=zH1 fun dx dy d e=>by
 unfold zAH at e
 split at e
 ·cases e;exact⟨_,_,rfl,rfl,fun O H=>by rw[Is.int_iff]⟩
 ·cases e
theorem j8{K:Fg}:OpD K (rI CMul fun i j=>.int (i*j)) vL:=zJK fun dx dy d e=>by
 unfold vL at e
 split at e
 ·split at e
  ·rename_i hc;cases e;exact⟨_,_,rfl,rfl,hc,fun O H=>by rw[Is.int_iff]⟩
  ·cases e
 ·cases e
theorem wG{K:Fg}:OpD K (rI zLJ fun i j=>.int (i / j)) xV:=zJK fun dx dy d e=>by
 unfold xV at e
 split at e
 ·split at e
  ·rename_i hc;cases e;exact⟨_,_,rfl,rfl,hc,fun O H=>by rw[Is.int_iff]⟩
  ·cases e
 ·cases e
theorem yZ{K:Fg}:OpD K (rI (fun _ j=>0<j) fun i j=>.int (i % j)) xX:=zJK fun dx dy d e=>by
 unfold xX at e
 split at e
 ·split at e
  ·rename_i hc;cases e;exact⟨_,_,rfl,rfl,hc,fun O H=>by rw[Is.int_iff]⟩
  ·cases e
 ·cases e
theorem QN{K:Fg}:OpD K (rI zLI fun i j=>.int (i ^ j.toNat)) zEY:=zJK fun dx dy d e=>by
 unfold zEY at e
 split at e
 ·split at e
  ·rename_i hc;cases e;exact⟨_,_,rfl,rfl,hc,fun O H=>by rw[Is.int_iff]⟩
  ·cases e
 ·cases e
theorem zE1{K:Fg}:OpD K (rI0 fun i j=>.bl (decide (j<i))) gtD:=zH1 fun dx dy d e=>by
 unfold gtD at e
 split at e
 ·cases e;exact⟨_,_,rfl,rfl,fun O H=>by rw[Is.bl_iff]⟩
 ·cases e
theorem zDP{K:Fg}{O:Addr->Prop}{H:Hp}{dx dy:D}{vx vy:V}{b:Bool}(ix:Is K O H dx vx)(iy:Is K O H dy vy)(e:eqS dx dy=some b):zKL vx vy=true/\decide (vx=vy)=b:=by
 cases dx<;>cases dy<;>first|(simp only[eqS,reduceCtorEq] at e;done)|skip
 all_goals simp only[eqS,Option.some.injEq] at e
 all_goals subst e
 all_goals first|rw[Is.int_iff] at ix|rw[Is.str_iff] at ix|rw[Is.bl_iff] at ix|rw[Is.non_iff] at ix
 all_goals first|rw[Is.int_iff] at iy|rw[Is.str_iff] at iy|rw[Is.bl_iff] at iy|rw[Is.non_iff] at iy
 all_goals subst ix iy
 all_goals refine⟨rfl,?_⟩
 all_goals simp
theorem zJJ{K:Fg}:OpD K rEq eqD:=by
 intro O H dx dy d vx vy Q ol ix iy e q
 obtain⟨b,e1,rfl⟩:=map_some e
 obtain⟨h1,h2⟩:=zDP ix iy e1
 exact⟨h1,q _ H (Same.refl H) (by rw[Is.bl_iff,h2])⟩
theorem zJI{K:Fg}:OpD K rNe neD:=by
 intro O H dx dy d vx vy Q ol ix iy e q
 obtain⟨b,e1,rfl⟩:=map_some e
 obtain⟨h1,h2⟩:=zDP ix iy e1
 exact⟨h1,q _ H (Same.refl H) (by rw[Is.bl_iff,h2])⟩
theorem Is.non_only{K:Fg}{O:Addr->Prop}{H:Hp}{d:D}{v:V}(h:Is K O H d v):decide (v=.non)=(match d with | .non=>true|_=>false):=by
 cases d with
 |dct ks l=>rw[Is.dct_iff] at h;obtain⟨a,kvs,rfl,_⟩:=h;rfl
 |non=>rw[Is.non_iff] at h;subst h;rfl
 |bl b=>rw[Is.bl_iff] at h;subst h;rfl
 |int i=>rw[Is.int_iff] at h;subst h;rfl
 |str s=>rw[Is.str_iff] at h;subst h;rfl
 |ty n=>rw[Is.ty_iff] at h;subst h;rfl
 |ref a=>rw[Is.ref_iff] at h;subst h;rfl
 |tup l=>rw[Is.tup_iff] at h;obtain⟨a,xs,rfl,_⟩:=h;rfl
 |lst l=>rw[Is.lst_iff] at h;obtain⟨a,xs,rfl,_⟩:=h;rfl
theorem zCF{K:Fg}:OpD K (fun x y H Q=>y=.non/\Q (.bl (!decide (x=.non))) H) gR:=by
 intro O H dx dy d vx vy Q ol ix iy e q
 unfold gR at e
 cases dy<;>first|(cases e;done)|skip
 rw[Is.non_iff] at iy
 refine⟨iy,q _ H (Same.refl H) ?_⟩
 have h:=ix.non_only
 cases dx<;>cases e<;>rw[Is.bl_iff,h]<;>rfl
noncomputable def b6:D->Bool
 |.int _=>true
 |.str _=>true
 |_=>false
noncomputable def eqF:D->D->Bool
 |.int i,.int j=>decide (i=j)
 |.str s,.str t=>decide (s=t)
 |_,_=>false
theorem zDJ{K:Fg}{O:Addr->Prop}{H:Hp}{d:D}{v:V}(h:Is K O H d v)(f:b6 d=true):b5 v=true:=by
 cases d<;>first|(cases f;done)|skip
 ·rw[Is.int_iff] at h;subst h;rfl
 ·rw[Is.str_iff] at h;subst h;rfl
theorem zG9{K:Fg}{O:Addr->Prop}{H:Hp}{d e:D}{v u:V}(h:Is K O H d v)(f:b6 d=true)(h':Is K O H e u)(f':b6 e=true):eqV v u=eqF d e:=by
 cases d<;>first|(cases f;done)|skip
 all_goals cases e<;>first|(cases f';done)|skip
 all_goals first|rw[Is.int_iff] at h|rw[Is.str_iff] at h
 all_goals first|rw[Is.int_iff] at h'|rw[Is.str_iff] at h'
 all_goals subst h h'
 ·simp[eqV,eqF]
  rw[Bool.beq_eq_decide_eq]
 ·rfl
 ·rfl
 ·rename_i s t
  simp only[eqV,eqF]
  by_cases z:s=t
  ·subst z;simp
  ·rw[decide_eq_false z,beq_eq_false_iff_ne]
   intro z'
   have:s.toArray=t.toArray:=by injection z'
   exact z (by simpa using this)
end
noncomputable def ixD:D->D->Option D
 |.lst l,.int i=>atI l i
 |.tup l,.int i=>atI l i
 |.str s,.int i=>if s.length<=sizeLine then (atI s i).map fun c=>.str [c] else none
 |_,_=>none
theorem rB{α β:Type}{l:List α}{m:List β}{i:Int}{x:α}(hl:l.length=m.length)(e:atI l i=some x):∃j:Nat,l[j]?=some x/\∀y,m[j]?=some y->atI m i=some y:=by
 unfold atI at e ⊢
 obtain⟨j,e1,e2⟩:=bind_some e
 exact⟨j,e2,fun y ey=>by rw[<-hl,e1];exact ey⟩
noncomputable def zKP(fl:ML)(g:ME):ME:=fun r=>(fl r).bind fun l=>(g r).bind fun d=>(intD d).bind fun i=>atI l i
noncomputable def zH5(fl:ML):ME:=fun r=>(fl r).map fun l=>.int l.length
section
variable{X:Cx}{pos:Pos}{a b:Expr}{f g:ME}
theorem zH0{K:Fg}:OpD K (rIx K) ixD:=by
 intro O H dx dy d vx vy Q ol ix iy e q
 unfold ixD at e
 split at e
 ·rename_i l i
  rw[Is.lst_iff] at ix
  rw[Is.int_iff] at iy
  obtain⟨p,xs,rfl,hs,il⟩:=ix
  obtain⟨j,e1,e2⟩:=rB il.length e
  obtain⟨v,e3,iv⟩:=il.get e1
  exact .inl ⟨p,xs,i,v,rfl,iy,hs.sq,e2 v e3,q _ H (Same.refl H) iv⟩
 ·rename_i l i
  rw[Is.tup_iff] at ix
  rw[Is.int_iff] at iy
  obtain⟨p,xs,rfl,hs,il⟩:=ix
  obtain⟨j,e1,e2⟩:=rB il.length e
  obtain⟨v,e3,iv⟩:=il.get e1
  exact .inr (.inl ⟨p,xs,i,v,rfl,iy,hs,e2 v e3,q _ H (Same.refl H) iv⟩)
 ·rename_i s i
  split at e
  ·rename_i hl
   obtain⟨c,e1,rfl⟩:=map_some e
   rw[Is.str_iff] at ix
   rw[Is.int_iff] at iy
   exact .inr (.inr ⟨_,i,c,ix,iy,by rw[jA];exact hl,by simpa using e1,q _ H (Same.refl H) (by rw[Is.str_iff])⟩)
  ·cases e
 ·cases e
theorem yB(ha:DE X a f)(hb:DE X b g)(hs:v4 b:=by intro _ _;rfl):DE X (.Subscript a b pos) (zG ixD f g):=
 PE.conseq (zB7 zDC ha hb hs) fun σ H Q h=>two (ta:=lE X.K f) (tb:=lE X.K g) zH0 h
theorem zED{fl:ML}(ha:DB X a fl)(hb:DE X b g)(hs:v4 b:=by intro _ _;rfl):DE X (.Subscript a b pos) (zKP fl g):=by
 refine PE.conseq (zB7 ix_list ha hb hs) fun σ H Q h=>?_
 obtain⟨O0,r,d,hR,e,q⟩:=h
 obtain⟨l,e1,e⟩:=bind_some e
 obtain⟨d',e2,e⟩:=bind_some e
 obtain⟨i,e3,e⟩:=bind_some e
 cases uX e3
 refine⟨O0,r,l,hR,e1,fun p xs H1 s1 rd il=>⟨O0,r,_,hR.same s1,e2,fun v2 H2 s2 i2=>?_⟩⟩
 rw[Is.int_iff] at i2
 obtain⟨j,e4,e5⟩:=rB il.length e
 obtain⟨v,e6,iv⟩:=il.get e4
 exact⟨p,xs,i,v,rfl,i2,s2.seq rd,e5 v e6,q v H2 (s1.trans s2) (iv.same s2 (hR.same s1).ol)⟩
noncomputable def bV:D->Option D
 |.lst l=>some (.int l.length)
 |.tup l=>some (.int l.length)
 |.str s=>if s.length<=sizeLine then some (.int s.length) else none
 |_=>none
theorem mN:CallR X (.builtin "len") (fun xs H Q=>(∃p ys,xs=[.ref p]/\(SqL X.K H p ys\/SqT X.K H p ys)/\Q (.int ys.length) H)\/(∃z,xs=[.str z]/\z.length<=sizeLine/\Q (.int z.length) H)):=call_len_seq.or cW
theorem zC7{K:Fg}{O:Addr->Prop}{H:Hp}{x d:D}{v:V}{Q:VK}(i1:Is K O H x v)(e:bV x=some d)(q:∀v,Is K O H d v->Q v H):(∃p ys,[v]=[.ref p]/\(SqL K H p ys\/SqT K H p ys)/\Q (.int ys.length) H)\/(∃z,[v]=[.str z]/\z.length<=sizeLine/\Q (.int z.length) H):=by
 cases x<;>first|(simp only[bV,reduceCtorEq] at e;done)|skip
 ·simp only[bV] at e
  split at e
  ·rename_i hl
   cases e
   rw[Is.str_iff] at i1
   subst i1
   exact .inr ⟨_,rfl,by rw[jA];exact hl,q _ (by rw[Is.int_iff,jA])⟩
  ·cases e
 ·simp only[bV,Option.some.injEq] at e
  subst e
  rw[Is.tup_iff] at i1
  obtain⟨p,ys,rfl,hs,il⟩:=i1
  exact .inl ⟨p,ys,rfl,.inr hs,q _ (by rw[Is.int_iff,il.length])⟩
 ·simp only[bV,Option.some.injEq] at e
  subst e
  rw[Is.lst_iff] at i1
  obtain⟨p,ys,rfl,hs,il⟩:=i1
  exact .inl ⟨p,ys,rfl,.inl hs.sq,q _ (by rw[Is.int_iff,il.length])⟩
theorem u4{p':Pos}(hg:Gl X "len")(hm:X.mg "len" = none)(ha:DE X a f)(hs:starEach [a] X.env=(false,eval a X.env)::starEach [] X.env:=by rfl):DE X (.Call (.Name "len" p') [a] [] pos) (mUn bV f):=by
 refine PE.conseq (jN mN hg hm PySem.boot_len (yD ha xH hs) (he:=hs)) fun σ H Q h=>?_
 obtain⟨O0,r,d,hR,e,q⟩:=h
 obtain⟨x,e1,e2⟩:=bind_some e
 exact⟨O0,r,x,hR,e1,fun v H1 s1 i1=>zC7 i1 e2 fun v' iv=>q v' H1 s1 iv⟩
theorem zEB{p':Pos}{fl:ML}(hg:Gl X "len")(hm:X.mg "len" = none)(ha:DB X a fl)(hs:starEach [a] X.env=(false,eval a X.env)::starEach [] X.env:=by rfl):DE X (.Call (.Name "len" p') [a] [] pos) (zH5 fl):=by
 refine PE.conseq (jN mN hg hm PySem.boot_len (yD ha xH hs) (he:=hs)) fun σ H Q h=>?_
 obtain⟨O0,r,d,hR,e,q⟩:=h
 obtain⟨l,e1,rfl⟩:=map_some e
 exact⟨O0,r,l,hR,e1,fun p xs H1 s1 rd il=>.inl ⟨p,xs,rfl,.inl rd,q _ H1 s1 (by rw[Is.int_iff,il.length])⟩⟩
noncomputable def tyN:D->Option String
 |.non=>some "NoneType"
 |.bl _=>some "bool"
 |.int _=>some "int"
 |.str _=>some "str"
 |.tup _=>some "tuple"
 |.lst _=>some "list"
 |_=>none
noncomputable def subN:List (String×String×Bool):=[("bool", "int",true),("NoneType", "int",false),("NoneType", "str",false),("NoneType", "bool",false),("NoneType", "tuple",false),("NoneType", "list",false),
 ("bool", "str",false),("bool", "tuple",false),("bool", "list",false),("int", "bool",false),("int", "str",false),("int", "tuple",false),("int", "list",false),
 ("str", "int",false),("str", "bool",false),("str", "tuple",false),("str", "list",false),("tuple", "int",false),("tuple", "bool",false),("tuple", "str",false),("tuple", "list",false),
 ("list", "int",false),("list", "bool",false),("list", "str",false),("list", "tuple",false)]
noncomputable def zDF(t T:String):Option Bool:=if t=T then some true else (subN.find? fun x=>x.1 == t && x.2.1 == T).map (·.2.2)
noncomputable def vW(T:String)(d:D):Option D:=(tyN d).bind fun t=>(zDF t T).map .bl
theorem zA8(K:Fg):∀p∈subN,PySem.W.kitOne K (.type p.1) (.type p.2.1)=some p.2.2:=by
 unfold subN
 repeat (first|exact List.forall_mem_nil _|refine List.forall_mem_cons.mpr ⟨rfl,?_⟩)
theorem zGX(K:Fg){t T:String}{b:Bool}(e:zDF t T=some b):PySem.W.kitOne K (.type t) (.type T)=some b:=by
 unfold zDF at e
 split at e
 ·rename_i h;subst h;cases e;unfold PySem.W.kitOne;rw[if_pos (by simp)]
 ·obtain⟨⟨x,y,c⟩,e1,e2⟩:=map_some e
  have hm:=List.mem_of_find?_eq_some e1
  have hp:=List.find?_some e1
  simp only[Bool.and_eq_true,beq_iff_eq] at hp
  obtain⟨rfl,rfl⟩:=hp
  subst e2
  exact(zA8 K _ hm).trans rfl
noncomputable def TyA(K:Fg)(H:Hp)(x:V)(t:String):Prop:=match x with
 |.non=>t = "NoneType"
 |.bl _=>t = "bool"
 |.int _=>t = "int"
 |.str _=>t = "str"
 |.ref a=>(t = "list" /\ ∃xs,SqL K H a xs)\/(t = "tuple" /\ ∃xs,SqT K H a xs)
 |_=>False
theorem mO:CallR X (.builtin "isinstance") (fun xs H Q=>∃x t T b,xs=[x,.ty T]/\TyA X.K H x t/\zDF t T=some b/\Q (.bl b) H):=by
 intro pins s σ H xs us Q I r h
 obtain⟨x,t,T,b,rfl,ht,e,q⟩:=h
 obtain⟨u,v,rfl,r1,r2⟩:=Vals.two r
 cases (show v=Value.type T from r2)
 have e':=zGX X.K e
 have fin:∀tk,EP X pins σ Q (.bool b) { s with toks:=tk }:=fun tk=>⟨.bl b,H,I.tok tk,rfl,q⟩
 cases x with
 |non=>cases (show t=_ from ht);exact kP I r1 (.non) e' fin
 |bl y=>cases (show t=_ from ht);exact kP I r1 (.bl y) e' fin
 |int i=>cases (show t=_ from ht);exact kP I r1 (.int i) e' fin
 |str y=>cases (show t=_ from ht);exact kP I r1 (.str y) e' fin
 |ref a=>
  cases (show u=Value.ref a from r1)
  rcases(show(t = "list" /\ ∃xs,SqL X.K H a xs)\/(t = "tuple" /\ ∃xs,SqT X.K H a xs) from ht) with⟨rfl,xs,hs⟩|⟨rfl,xs,hs⟩
  ·obtain⟨its,_,⟨o,n,h1,h2,_⟩,_⟩:=I.list hs
   exact PySem.W.kia_one PySem.W.kitx_list I.kIn ⟨o,h1,h2⟩ e' (fun z=>nomatch z) fin
  ·obtain⟨its,_,⟨o,h1,h2,_⟩,_⟩:=I.tuple hs
   exact PySem.W.kia_one PySem.W.kitx_tuple I.kIn ⟨o,h1,h2⟩ e' (fun z=>nomatch z) fin
 |_=>exact False.elim ht
theorem zFK{K:Fg}{O:Addr->Prop}{H:Hp}{d:D}{v:V}{t:String}(h:Is K O H d v)(e:tyN d=some t):TyA K H v t:=by
 cases d<;>first|(simp only[tyN,reduceCtorEq] at e;done)|skip
 all_goals simp only[tyN,Option.some.injEq] at e
 all_goals subst e
 ·rw[Is.non_iff] at h;subst h;rfl
 ·rw[Is.bl_iff] at h;subst h;rfl
 ·rw[Is.int_iff] at h;subst h;rfl
 ·rw[Is.str_iff] at h;subst h;rfl
 ·rw[Is.tup_iff] at h;obtain⟨a,xs,rfl,hs,_⟩:=h;exact .inr ⟨rfl,xs,hs⟩
 ·rw[Is.lst_iff] at h;obtain⟨a,xs,rfl,hs,_⟩:=h;exact .inl ⟨rfl,xs,hs.sq⟩
theorem jJ{p' pt:Pos}{x:Str}{T:String}(hg:Gl X "isinstance")(hm:X.mg "isinstance" = none)(ha:DE X a f)(hT:PE X (.Name x pt) (tC (.ty T)))(hs:starEach [a,.Name x pt] X.env=(false,eval a X.env)::starEach [.Name x pt] X.env:=by rfl)(hs2:starEach [.Name x pt] X.env=(false,eval (.Name x pt) X.env)::starEach [] X.env:=by rfl):DE X (.Call (.Name "isinstance" p') [a,.Name x pt] [] pos) (mUn (vW T) f):=by
 refine PE.conseq (jN mO hg hm PyProof.Rows.boot_isinstance (yD ha (yD hT xH hs2) hs) (he:=hs)) fun σ H Q h=>?_
 obtain⟨O0,r,d,hR,e,q⟩:=h
 obtain⟨x,e1,e2⟩:=bind_some e
 obtain⟨t,e3,e4⟩:=bind_some e2
 obtain⟨b,e5,rfl⟩:=map_some e4
 exact⟨O0,r,x,hR,e1,fun v H1 s1 i1=>⟨v,t,T,b,rfl,zFK i1 e3,e5,q _ H1 s1 (by rw[Is.bl_iff])⟩⟩
end
noncomputable def zCN(r:En)(i:Nat):Option (List D):=(r[i]?).bind Sl.ml
noncomputable def W0(i:Nat)(l:List D)(r:En):Option En:=match r[i]? with
 |some (.o _)=>some (r.set i (.o l))
 |some (.p _)=>some (r.set i (.p l))
 |_=>none
section
variable{K:Fg}{O0:Addr->Prop}{H H':Hp}{r:En}{σ:St}{i:Nat}{a:Addr}{l l':List D}
theorem uI{r':En}(e:W0 i l' r=some r'):∃x y,r[i]?=some x/\r'=r.set i y/\y.own=some l'/\y.mt=some l'/\(∃l,x.mt=some l)/\(∀m,y=.p m↔m=l'/\∃n,x=.p n)/\(∀m,y=.o m↔m=l'/\∃n,x=.o n)/\(∀m,y≠.z m)/\y.ls=some l'/\∀ks m,y≠.d ks m:=by
 unfold W0 at e
 cases e1:r[i]? with
 |none=>rw[e1] at e;cases e
 |some x=>
  rw[e1] at e
  cases x with
  |o n=>cases e;exact⟨.o n,.o l',rfl,rfl,rfl,rfl,⟨n,rfl⟩,fun m=>⟨(fun z=>by cases z),(fun⟨_,_,z⟩=>by cases z)⟩,fun m=>⟨(fun z=>by cases z;exact⟨rfl,n,rfl⟩),(fun⟨z,_⟩=>by subst z;rfl)⟩,(fun m z=>by cases z),rfl,(fun ks m z=>by cases z)⟩
  |p n=>cases e;exact⟨.p n,.p l',rfl,rfl,rfl,rfl,⟨n,rfl⟩,fun m=>⟨(fun z=>by cases z;exact⟨rfl,n,rfl⟩),(fun⟨z,_⟩=>by subst z;rfl)⟩,fun m=>⟨(fun z=>by cases z),(fun⟨_,_,z⟩=>by cases z)⟩,(fun m z=>by cases z),rfl,(fun ks m z=>by cases z)⟩
  |_=>cases e
theorem R.put{r':En}{xs':List V}(h:R K O0 H r σ)(e:W0 i l' r=some r')(ha:σ[i]?=some (some (.ref a)))(kp:∀b o,b≠a->H b=some o->H' b=some o)(lv:∀b,b≠a->H' b=none->H b=none)(e':H' a=some (.lst xs'))(il:IsL K (Ow O0 r σ) H' l' xs'):R K O0 H' r' σ/\Kp H r σ H' r' σ:=by
 obtain⟨x,y,ex,rfl,yo,ym,⟨l0,xm⟩,yp,yoo,yz,yl,yd⟩:=uI e
 have hi:i<r.length:=(List.getElem?_eq_some_iff.mp ex).1
 have own_i:wS r σ a:=⟨i,l0,by rw[ex];exact kL xm,ha⟩
 have mut_i:MutAt r σ a:=⟨i,l0,by rw[ex];exact xm,ha⟩
 have atO:∀b,wS (r.set i y) σ b->wS r σ b:=fun b ⟨j,m,e1,q1⟩=>by
  by_cases hj:i=j
  ·subst hj;rw[ha] at q1;cases q1;exact own_i
  ·rw[zE hj] at e1;exact⟨j,m,e1,q1⟩
 have atM:∀b,MutAt (r.set i y) σ b->MutAt r σ b:=fun b ⟨j,m,e1,q1⟩=>by
  by_cases hj:i=j
  ·subst hj;rw[ha] at q1;cases q1;exact mut_i
  ·rw[zE hj] at e1;exact⟨j,m,e1,q1⟩
 have sub:∀b,Ow O0 (r.set i y) σ b->H b≠none->Ow O0 r σ b:=fun b z _=>z.imp id (atO b)
 have sub':∀b,Ow O0 (r.set i y) σ b->H' b≠none->Ow O0 r σ b:=fun b z _=>z.imp id (atO b)
 have keep:dB (Ow O0 r σ) H H':=fun b o e1 n=>kp b o (fun z=>n (by subst z;exact .inr own_i)) e1
 have lst:∀b o,H b=some o->Mb o->∃o',H' b=some o'/\Mb o':=fun b o e1 mb=>by
  by_cases hb:b=a
  ·subst hb;exact⟨.lst xs',e',trivial⟩
  ·exact⟨o,kp b _ hb e1,mb⟩
 have ol':qV (Ow O0 r σ) H':=fun b z=>by obtain⟨o,q,mb⟩:=h.ol b z;exact lst b o q mb
 refine⟨⟨by simp[h.len],fun j d e1=>?_,fun j m e1=>?_,fun j k b m n e1 e2 q1 q2=>?_,fun b z=>?_,fun j m b e1 q1=>?_,fun j m b e1 q1=>?_,fun j ks m e1=>?_⟩,⟨fun b o e1 n=>kp b o (fun z=>n (by subst z;exact mut_i)) e1,fun b e1=>?_,lst,fun b z=>.inl (atO b z),fun b z=>.inl (atM b z),fun j m e1=>?_,fun j m e1=>?_⟩⟩
 ·have hj:i≠j:=fun z=>by subst z;rw[zK hi] at e1;cases e1;cases yo
  rw[zE hj] at e1
  obtain⟨v,q1,q2⟩:=h.val j d e1
  exact⟨v,q1,Is.mono keep h.ol sub _ _ q2⟩
 ·by_cases hj:i=j
  ·subst hj
   rw[zK hi] at e1
   have:l'=m:=by have e1':y.ls=some m:=e1;rw[yl] at e1';exact Option.some.inj e1'
   subst this
   exact⟨a,xs',ha,e',IsL.mono (Same.kp (Same.refl H') _) ol' sub' _ _ il⟩
  ·rw[zE hj] at e1
   obtain⟨b,ys,q1,q2,q3⟩:=h.own j m e1
   have hb:b≠a:=fun z=>by
    subst z
    exact hj (h.apart i j b l0 m (by rw[ex];exact kL xm) (qT e1) ha q1)
   exact⟨b,ys,q1,kp b _ hb q2,IsL.mono keep h.ol sub _ _ q3⟩
 ·have get:∀(j:Nat) (m:List D),((r.set i y)[j]?).bind Sl.own=some m->∃m',(r[j]?).bind Sl.own=some m':=fun j m e1=>by
   by_cases hj:i=j
   ·subst hj;exact⟨l0,by rw[ex];exact kL xm⟩
   ·rw[zE hj] at e1;exact⟨m,e1⟩
  obtain⟨m',z1⟩:=get j m e1
  obtain⟨n',z2⟩:=get k n e2
  exact h.apart j k b m' n' z1 z2 q1 q2
 ·obtain⟨o,q,mb⟩:=h.o0 b z;exact lst b o q mb
 ·by_cases hj:i=j
  ·subst hj
   rw[zK hi] at e1
   rcases e1 with e1|e1|⟨ks,e1⟩
   ·obtain⟨_,n,z⟩:=(yoo m).mp (Option.some.inj e1)
    exact h.loc i n b (.inl (by rw[ex,z])) q1
   ·exact absurd (Option.some.inj e1) (yz m)
   ·exact absurd (Option.some.inj e1) (yd ks m)
  ·rw[zE hj] at e1
   exact h.loc j m b e1 q1
 ·by_cases hj:i=j
  ·subst hj
   rw[zK hi] at e1
   obtain⟨_,n,z⟩:=(yp m).mp (Option.some.inj e1)
   exact h.par i n b (by rw[ex,z]) q1
  ·rw[zE hj] at e1
   exact h.par j m b e1 q1
 ·have hj:i≠j:=fun z=>by subst z;rw[zK hi] at e1;exact yd ks m (Option.some.inj e1)
  rw[zE hj] at e1
  obtain⟨b,kvs,q1,q2,q4,q3⟩:=h.dct j ks m e1
  have hb:b≠a:=fun z=>by
   subst z
   exact hj (h.apart i j b l0 m (by rw[ex];exact kL xm) (by rw[e1];rfl) ha q1)
  exact⟨b,kvs,q1,kp b _ hb q2,q4,IsL.mono keep h.ol sub _ _ q3⟩
 ·by_cases hb:b=a
  ·subst hb;rw[e'] at e1;cases e1
  ·exact lv b hb e1
 ·by_cases hj:i=j
  ·subst hj
   rw[ex] at e1
   exact⟨⟨l',by rw[zK hi,(yp l').mpr ⟨rfl,m,Option.some.inj e1⟩]⟩,rfl⟩
  ·exact⟨⟨m,by rw[zE hj];exact e1⟩,rfl⟩
 ·have hj:i≠j:=fun z=>by subst z;rw[ex] at e1;cases e1;cases xm
  exact⟨by rw[zE hj];exact e1,rfl⟩
theorem R.upd{r':En}{xs xs':List V}(h:R K O0 H r σ)(e:W0 i l' r=some r')(ha:σ[i]?=some (some (.ref a)))(hx:H a=some (.lst xs))(il:IsL K (Ow O0 r σ) H l' xs'):R K O0 (upd H a (.lst xs')) r' σ/\Kp H r σ (upd H a (.lst xs')) r' σ:=by
 have own_a:Ow O0 r σ a:=by
  obtain⟨x,y,ex,_,_,_,⟨l0,xm⟩,_⟩:=uI e
  exact .inr ⟨i,l0,by rw[ex];exact kL xm,ha⟩
 refine h.put e ha (fun b o hb e1=>by rw[zM hb];exact e1) (fun b hb e1=>by rw[zM hb] at e1;exact e1) zN ?_
 exact IsL.mono (fun b o e1 n=>by rw[zM (fun z=>n (by subst z;exact own_a))];exact e1) h.ol (fun _ z _=>z) _ _ il
end
noncomputable def t8(i:Nat)(f:ME):En->Option (D×En):=fun r=>(f r).bind fun d=>(zCN r i).bind fun l=>if l.length<sizeLine then (W0 i (l++[d]) r).map fun r'=>(.non,r') else none
noncomputable def Y1(i:Nat)(f:En->Option (D×En)):En->Option (D×En):=fun r0=>(f r0).bind fun p=>(zCN r0 i).bind fun _=>(zCN p.2 i).bind fun l=>if l.length<sizeLine then (W0 i (l++[p.1]) p.2).map fun r'=>(.non,r') else none
noncomputable def zEP(i:Nat):En->Option (D×En):=fun r=>(zCN r i).bind fun l=>(l[l.length-1]?).bind fun d=>(W0 i l.dropLast r).map fun r'=>(d,r')
noncomputable def zII(i:Nat)(f:ME):En->Option (D×En):=fun r=>(f r).bind fun d=>(Q7 d).bind fun m=>(zCN r i).bind fun l=>if l.length+m.length<=sizeLine then (W0 i (l++m) r).map fun r'=>(.non,r') else none
theorem IsL.dropLast{K:Fg}{O:Addr->Prop}{H:Hp}{l:List D}{vs:List V}(h:IsL K O H l vs):IsL K O H l.dropLast vs.dropLast:=by
 rw[List.dropLast_eq_take,List.dropLast_eq_take,h.length]
 exact h.take _
section
variable{X:Cx}{apos cpos pn:Pos}{e:Expr}{f:ME}{x:Str}{i:Nat}
theorem tY{K:Fg}{O0:Addr->Prop}{H:Hp}{r:En}{σ:St}{l:List D}(h:R K O0 H r σ)(e:zCN r i=some l):∃a xs,σ[i]?=some (some (.ref a))/\H a=some (.lst xs)/\IsL K (Ow O0 r σ) H l xs:=by
 obtain⟨y,e1,e2⟩:=bind_some e
 exact h.own i l (by rw[e1];exact(zCQ e2).2)
theorem jI(i:Nat){x:Str}(h:PE X (.Name x pn) (jY i))(he:DE X e f)(hline:(apos.endLine == cpos.line)=true:=by rfl)(hbase:attributeBase (.Name x pn) "append" X.env (eval (.Name x pn) X.env)=eval (.Name x pn) X.env:=by rfl)(hfew:((backTo cpos (starEach [e] X.env)).all (fun x=>!x.1) && (backToKw cpos (keywordEach [] X.env)).all (fun x=>x.1.isSome) && decide ([e].length+([]:List Keyword).length+(if ([]:List Keyword).isEmpty then 0 else 1)<30))=true:=by rfl)(hs:starEach [e] X.env=(false,eval e X.env)::starEach [] X.env:=by rfl):DX X (.Call (.Attribute (.Name x pn) "append" apos) [e] [] cpos) (t8 i f):=by
 refine PE.conseq (tO PySem.F.plainAttrs_list PySem.F.slot_list_append PySem.F.type_list_append jE h (yD he xH hs) hbase hfew hline hs) fun σ H Q hq=>?_
 obtain⟨O0,r,d',r',hR,e,q⟩:=hq
 obtain⟨d,e1,e⟩:=bind_some e
 obtain⟨l,e2,e⟩:=bind_some e
 split at e
 ·rename_i hl
  obtain⟨r2,e3,e4⟩:=map_some e
  cases e4
  obtain⟨a,xs,q1,q2,q3⟩:=tY hR e2
  refine⟨.ref a,q1,.inl ⟨rfl,xs,SqL.of q2⟩,O0,r,d,hR,e1,fun v H1 s1 i1=>?_⟩
  have R1:=hR.same s1
  obtain⟨R2,k2⟩:=R1.upd (xs':=xs++[v]) e3 q1 (s1 _ _ q2) ((q3.same s1 hR.ol).append (.cons i1 .nil))
  exact⟨a,xs,v,rfl,rfl,s1 _ _ q2,by rw[<-q3.length];exact hl,q _ _ R2 ((Kp.of_same r σ s1).trans k2) (by rw[Is.non_iff])⟩
 ·cases e
theorem vG(i:Nat){x:Str}{fx:En->Option (D×En)}(h:PE X (.Name x pn) (jY i))(he:DX X e fx)(hline:(apos.endLine == cpos.line)=true:=by rfl)(hbase:attributeBase (.Name x pn) "append" X.env (eval (.Name x pn) X.env)=eval (.Name x pn) X.env:=by rfl)(hfew:((backTo cpos (starEach [e] X.env)).all (fun x=>!x.1) && (backToKw cpos (keywordEach [] X.env)).all (fun x=>x.1.isSome) && decide ([e].length+([]:List Keyword).length+(if ([]:List Keyword).isEmpty then 0 else 1)<30))=true:=by rfl)(hs:starEach [e] X.env=(false,eval e X.env)::starEach [] X.env:=by rfl):DX X (.Call (.Attribute (.Name x pn) "append" apos) [e] [] cpos) (Y1 i fx):=by
 refine PE.conseq (tO PySem.F.plainAttrs_list PySem.F.slot_list_append PySem.F.type_list_append jE h (yD he xH hs) hbase hfew hline hs) fun σ H Q hq=>?_
 obtain⟨O0,r,d',r',hR,e,q⟩:=hq
 obtain⟨⟨d,r1⟩,e1,e⟩:=bind_some e
 obtain⟨l0,e0,e⟩:=bind_some e
 obtain⟨l,e2,e⟩:=bind_some e
 split at e
 ·rename_i hl
  obtain⟨r2,e3,e4⟩:=map_some e
  cases e4
  obtain⟨a0,xs0,p1,p2,p3⟩:=tY hR e0
  refine⟨.ref a0,p1,.inl ⟨rfl,xs0,SqL.of p2⟩,O0,r,d,r1,hR,e1,fun v H1 R1 k1 i1=>?_⟩
  obtain⟨a,xs,q1,q2,q3⟩:=tY R1 e2
  rw[p1] at q1;cases q1
  obtain⟨R2,k2⟩:=R1.upd (xs':=xs++[v]) e3 p1 q2 (q3.append (.cons i1 .nil))
  exact⟨_,xs,v,rfl,rfl,q2,by rw[<-q3.length];exact hl,q _ _ R2 (k1.trans k2) (by rw[Is.non_iff])⟩
 ·cases e
theorem JI(i:Nat){x:Str}(h:PE X (.Name x pn) (jY i))(hbase:attributeBase (.Name x pn) "pop" X.env (eval (.Name x pn) X.env)=eval (.Name x pn) X.env:=by rfl)(hline:(apos.endLine == cpos.line)=true:=by rfl):DX X (.Call (.Attribute (.Name x pn) "pop" apos) [] [] cpos) (zEP i):=by
 refine PE.conseq (tN PySem.F.plainAttrs_list PySem.F.slot_list_pop PySem.F.type_list_pop tX h hbase hline) fun σ H Q hq=>?_
 obtain⟨O0,r,d',r',hR,e,q⟩:=hq
 obtain⟨l,e2,e⟩:=bind_some e
 obtain⟨d,e1,e⟩:=bind_some e
 obtain⟨r2,e3,e4⟩:=map_some e
 have e5:d=d':=congrArg Prod.fst e4
 have e6:r2=r':=congrArg Prod.snd e4
 subst e5 e6
 obtain⟨a,xs,q1,q2,q3⟩:=tY hR e2
 obtain⟨v,ev,iv⟩:=q3.get e1
 obtain⟨R2,k2⟩:=hR.upd (xs':=xs.dropLast) e3 q1 q2 q3.dropLast
 refine⟨.ref a,q1,.inl ⟨rfl,xs,SqL.of q2⟩,a,xs,v,rfl,rfl,q2,by rw[<-q3.length];exact ev,q _ _ R2 k2 ?_⟩
 have own_a:Ow O0 r σ a:=by
  obtain⟨y,z1,z2⟩:=bind_some e2
  exact .inr ⟨i,l,by rw[z1];exact kL (zCQ z2).1,q1⟩
 have ow2:∀b,Ow O0 r2 σ b->H b≠none->Ow O0 r σ b:=fun b z n=>z.imp id fun z=>(k2.new b z).elim id fun z=>absurd z n
 exact Is.mono (fun b o e1 n=>by rw[zM (fun z=>n (by subst z;exact own_a))];exact e1) hR.ol ow2 _ _ iv
end
noncomputable def zJ7:Option Sl->Sl
 |some (.v d)=>.v d
 |_=>.un
noncomputable def rM(cap:List Nat)(n:Nat)(r:En):En:=(cap.map fun j=>zJ7 r[j]?)++List.replicate (n-cap.length) .un
noncomputable def jD(bd:D->En->Option En)(c:MB)(x:ME):List D->En->Option (List D)
 |[],_=>some []
 |d::t,r=>(bd d r).bind fun r1=>(c r1).bind fun b=>if b=true then (x r1).bind fun y=>(jD bd c x t r1).map (y::·) else jD bd c x t r1
noncomputable def YW:MB:=fun _=>some true
noncomputable def xZ(cap:List Nat)(n:Nat)(it:ML)(bd:D->En->Option En)(c:MB)(x:ME):ML:=fun r=>(it r).bind fun l=>if l.length<sizeLine then jD bd c x l (rM cap n r) else none
noncomputable def Y0(cap:List Nat)(n:Nat)(it:ML)(bd:D->En->Option En)(x:ME):ML:=xZ cap n it bd YW x
theorem R.cap{K:Fg}{O0:Addr->Prop}{H H2:Hp}{r:En}{σ:St}{cap:List Nat}{n:Nat}{p:Addr}{ys:List V}(h:R K O0 H r σ)(s:Same H H2)(hp:H p=none)(ep:H2 p=some (.lst ys)):R K (fun b=>Ow O0 r σ b\/b=p) H2 (rM cap n r) (zAI cap n σ):=by
 have noO:∀(i:Nat) (l:List D),((rM cap n r)[i]?).bind Sl.own≠some l:=fun i l e=>by
  unfold rM at e
  by_cases hi:i<cap.length
  ·rw[List.getElem?_append_left (by simpa using hi),List.getElem?_map] at e
   obtain⟨j,hj⟩:∃j,cap[i]?=some j:=⟨cap[i],by simp[hi]⟩
   rw[hj] at e
   have e':(zJ7 r[j]?).own=some l:=e
   cases ej:r[j]? with
   |none=>rw[ej] at e';cases e'
   |some y=>rw[ej] at e';cases y<;>cases e'
  ·rw[List.getElem?_append_right (by simpa using Nat.le_of_not_lt hi),List.getElem?_replicate] at e
   split at e<;>cases e
 have ol:qV (fun b=>Ow O0 r σ b\/b=p) H2:=fun b z=>z.elim (fun z=>(h.same s).ol b z) fun z=>by subst z;exact⟨.lst ys,ep,trivial⟩
 refine⟨by simp[rM,zAI],fun i d e=>?_,fun i l e=>absurd (qT e) (noO i l),fun i j a l m e1=>absurd e1 (noO i l),ol,fun i l a e=>absurd (show((rM cap n r)[i]?).bind Sl.own=some l by rcases e with e|e|⟨_,e⟩<;>rw[e]<;>rfl) (noO i l),fun i l a e=>absurd (show((rM cap n r)[i]?).bind Sl.own=some l by rw[e];rfl) (noO i l),fun i ks l e=>absurd (show((rM cap n r)[i]?).bind Sl.own=some l by rw[e];rfl) (noO i l)⟩
 unfold rM at e
 by_cases hi:i<cap.length
 ·rw[List.getElem?_append_left (by simpa using hi),List.getElem?_map] at e
  obtain⟨j,hj⟩:∃j,cap[i]?=some j:=⟨cap[i],by simp[hi]⟩
  rw[hj] at e
  have e':zJ7 r[j]?=.v d:=Option.some.inj e
  have ej:r[j]?=some (.v d):=by
   cases ej:r[j]? with
   |none=>rw[ej] at e';cases e'
   |some y=>rw[ej] at e';cases y<;>cases e';rfl
  obtain⟨v,e1,q⟩:=h.val j d ej
  refine⟨v,?_,?_⟩
  ·unfold zAI
   rw[List.getElem?_append_left (by simpa using hi),List.getElem?_map,hj]
   show some ((σ[j]?).getD none)=_
   rw[e1];rfl
  ·refine Is.mono (Same.kp s _) h.ol (fun a z nn=>?_) _ _ q
   rcases z with(z|z)|⟨k,l,ek,_⟩
   ·exact z
   ·subst z;exact absurd hp nn
   ·exact absurd ek (noO k l)
 ·rw[List.getElem?_append_right (by simpa using Nat.le_of_not_lt hi),List.getElem?_replicate] at e
  split at e<;>cases e
section
variable{X:Cx}{N':List Str}{cap:List Nat}{scope:Scope}{elt tg iter:Expr}{ifs:List Expr}{pos:Pos}{it:ML}{bd:D->En->Option En}{c:MB}{x:ME}
theorem u6{tc:Option TT}(htc:∀{σ:St} {H:Hp} {K1:V->Hp->Prop} {K0:Hp->Prop} {te:TE},(lT X.K c σ H fun b H1=>if b=true then te σ H1 K1 else K0 H1)->WD tc te K1 K0 σ H)(n:Nat){σ:St}{H:Hp}{Q:VK}(h:lF X.K (xZ cap n it bd c x) σ H Q):zA7 cap n (lI X.K it) (lG X.K bd) tc (lE X.K x) σ H Q:=by
 obtain⟨O0,r,out,hR,e,q⟩:=h
 obtain⟨l,e1,e2⟩:=bind_some e
 split at e2
 ·rename_i hlen
  refine⟨O0,r,l,hR,e1,fun J H1 s1 yl p hp=>?_⟩
  have hpH:H p=none:=s1.free hp
  refine⟨fun i m ys σ2 H2=>m=l.length-i/\i<=l.length/\ys.length<=i/\H2 p=some (.lst ys)/\Same H1 H2/\∃r2 dn rest,R X.K (fun b=>Ow O0 r σ b\/b=p) H2 r2 σ2/\(∀a,¬wS r2 σ2 a)/\IsL X.K (fun b=>Ow O0 r σ b\/b=p) H2 dn ys/\jD bd c x (l.drop i) r2=some rest/\dn++rest=out,
   ⟨l.length,by simp,Nat.zero_le _,Nat.le_refl _,zN,z3 hp,rM cap n r,[],out,?_,?_,.nil,by simpa using e2,rfl⟩,?_⟩
  ·exact R.cap hR (s1.trans (z3 hp)) hpH zN
  ·rintro a ⟨i,l',e',_⟩
   unfold rM at e'
   by_cases hi:i<cap.length
   ·rw[List.getElem?_append_left (by simpa using hi),List.getElem?_map] at e'
    obtain⟨j,hj⟩:∃j,cap[i]?=some j:=⟨cap[i],by simp[hi]⟩
    rw[hj] at e'
    have e'':(zJ7 r[j]?).own=some l':=e'
    cases ej:r[j]? with
    |none=>rw[ej] at e'';cases e''
    |some y=>rw[ej] at e'';cases y<;>cases e''
   ·rw[List.getElem?_append_right (by simpa using Nat.le_of_not_lt hi),List.getElem?_replicate] at e'
    split at e'<;>cases e'
  ·rintro i m ys σ2 H2 ⟨rfl,hil,hyl,hp2,s2,r2,dn,rest,R2,no2,il2,e3,eo⟩
   refine⟨hp2,by omega,?_⟩
   obtain⟨y1,y2⟩:=yl i H2 (fun b=>Ow O0 r σ b\/b=p) (Same.kp s2 _) fun a z nn=>z.elim id fun z=>by subst z;exact absurd hp nn
   by_cases hlt:i<l.length
   ·obtain⟨go,yd⟩:=y1 hlt
    have hd:l[i]?=some l[i]:=by simp[hlt]
    rw[kT hd] at e3
    obtain⟨r3,e4,e5⟩:=bind_some e3
    obtain⟨b,e6,e7⟩:=bind_some e5
    refine .inr ⟨go,fun v H3 yv=>?_⟩
    obtain⟨s3,iv⟩:=yd v H3 yv
    have R3:=R2.same s3
    have ow2:∀a,Ow (fun b=>Ow O0 r σ b\/b=p) r2 σ2 a->Ow O0 r σ a\/a=p:=fun a z=>z.elim id fun z=>absurd z (no2 a)
    refine⟨_,r2,l[i],r3,R3,?_,e4,fun σ4 R4 k4=>?_⟩
    ·exact Is.mono (Same.kp (Same.refl H3) _) R3.o0 (fun a z _=>ow2 a z) _ _ (iv _ hd)
    have no4:∀a,¬wS r3 σ4 a:=fun a z=>by
     rcases k4.new a z with z'|z'
     ·exact no2 a z'
     ·obtain⟨xs,ex,_⟩:=R4.ol a (.inr z)
      rw[z'] at ex;cases ex
    have ow4:∀a,Ow (fun b=>Ow O0 r σ b\/b=p) r3 σ4 a->Ow O0 r σ a\/a=p:=fun a z=>z.elim id fun z=>absurd z (no4 a)
    refine htc ⟨_,r3,b,R4,e6,fun H5 s5=>?_⟩
    have R5:=R4.same s5
    cases b with
    |false=>
     rw[if_neg Bool.false_ne_true] at e7
     refine zIL ⟨l.length-(i+1),by omega,rfl,hlt,by omega,(s3.trans s5) _ _ hp2,s2.trans (s3.trans s5),r3,dn,rest,R5,no4,?_,e7,eo⟩
     exact il2.same (s3.trans s5) R2.o0
    |true=>
     rw[if_pos rfl] at e7
     obtain⟨y,e8,e9⟩:=bind_some e7
     obtain⟨rest',e10,e11⟩:=map_some e9
     refine zIK ⟨_,r3,y,R5,e8,fun u H6 s6 iu=>?_⟩
     have s26:=s3.trans (s5.trans s6)
     have hp6:=s26 _ _ hp2
     have R6:=R5.same s6
     have kk:dB (fun b=>Ow O0 r σ b\/b=p) H6 (upd H6 p (.lst (ys++[u]))):=fun b' o e' nn=>by rw[zM (fun z=>nn (.inr z))];exact e'
     refine⟨hp6,l.length-(i+1),by omega,rfl,hlt,by simp;omega,zN,?_,r3,dn++[y],rest',?_,no4,?_,e10,?_⟩
     ·intro b' o e'
      have hb:b'≠p:=fun z=>by subst z;rw[hp] at e';cases e'
      rw[zM hb]
      exact s26 _ _ (s2 _ _ e')
     ·refine⟨R6.len,fun j d ej=>?_,fun j m ej=>?_,R6.apart,fun b' z=>?_,R6.loc,R6.par,fun j ks m ej=>?_⟩
      ·obtain⟨w,q1,q2⟩:=R6.val j d ej
       exact⟨w,q1,Is.mono (fun b' o e' nn=>kk b' o e' fun z=>nn (.inl z)) R6.ol (fun _ z _=>z) _ _ q2⟩
      ·obtain⟨a',xs',q1,q2,_⟩:=R6.own j m ej
       exact absurd ⟨j,m,qT ej,q1⟩ (no4 a')
      ·rcases z with z|z
       ·by_cases hb:b'=p
        ·subst hb;exact⟨_,zN,trivial⟩
        ·rw[zM hb];exact R6.o0 b' (.inl z)
       ·subst z;exact⟨_,zN,trivial⟩
      ·obtain⟨a',kvs,q1,q2,_⟩:=R6.dct j ks m ej
       exact absurd ⟨j,m,by rw[ej];rfl,q1⟩ (no4 a')
     ·have i1:=il2.same s26 R2.o0
      have i2:Is X.K (fun b=>Ow O0 r σ b\/b=p) H6 y u:=Is.mono (Same.kp (Same.refl H6) _) R6.ol (fun a z _=>.inl z) _ _ iu
      exact IsL.mono kk R6.o0 (fun _ z _=>z) _ _ (i1.append (.cons i2 .nil))
     ·rw[<-eo,<-e11];simp
   ·have hl:l.drop i=[]:=List.drop_eq_nil_of_le (by omega)
    rw[hl] at e3
    have e3':some []=some rest:=e3
    cases e3'
    rw[List.append_nil] at eo
    subst eo
    exact .inl ⟨y2 (by omega),q p ys H2 (s1.trans s2) hpH hp2 il2⟩
 ·cases e2
theorem XO(hc:X.calm=true)(o:CmpOk X N' cap scope)(hi:DI X tg iter it)(hg:∀C fp s H,DG (cxC X N' scope C fp s H) tg bd)(he:∀C fp s H,DE (cxC X N' scope C fp s H) elt x)(n:Nat)(hn:N'.length=n:=by rfl)(hs:∀x,foldedSetIterable iter X.env x=pure x:=by intro _;rfl):DF X (.ListComp elt [⟨tg,iter,[],0⟩] scope pos) (Y0 cap n it bd x):=by
 subst hn
 exact PE.conseq (uJ (g:=lG X.K bd) (te:=lE X.K x) (tc:=none) hc o hi hg rfl he hs) fun σ H Q h=>u6 (tc:=none) (fun {σ H K1 K0 te} z=>by
  obtain⟨O0,r,b,hR,e,q⟩:=z
  unfold YW at e;cases e
  have z1:(if true=true then te σ H K1 else K0 H):=q H (Same.refl H)
  rw[if_pos rfl] at z1
  exact z1) N'.length h
theorem u1{ce:Expr}(hc:X.calm=true)(o:CmpOk X N' cap scope)(hi:DI X tg iter it)(hg:∀C fp s H,DG (cxC X N' scope C fp s H) tg bd)(ht:∀C fp s H,DT (cxC X N' scope C fp s H) ce c)(he:∀C fp s H,DE (cxC X N' scope C fp s H) elt x)(n:Nat)(hn:N'.length=n:=by rfl)(hs:∀x,foldedSetIterable iter X.env x=pure x:=by intro _;rfl):DF X (.ListComp elt [⟨tg,iter,[ce],0⟩] scope pos) (xZ cap n it bd c x):=by
 subst hn
 exact PE.conseq (uJ (g:=lG X.K bd) (te:=lE X.K x) (tc:=some (lT X.K c)) hc o hi hg ⟨ce,rfl,ht⟩ he hs) fun σ H Q h=>u6 (tc:=some (lT X.K c)) (fun z=>z) N'.length h
end
noncomputable def CapOk(X:Cx)(scope:Scope):List Nat->List Str->Prop
 |[],_=>True
 |j::t,x::r=>X.N[j]?=some x/\scope.names.lookup x=some .free/\CapOk X scope t r
 |_::_,[]=>False
theorem CapOk.get{X:Cx}{scope:Scope}:∀{cap:List Nat} {N':List Str},CapOk X scope cap N'->∀(i j:Nat),cap[i]?=some j->∃x,N'[i]?=some x/\X.N[j]?=some x/\scope.names.lookup x=some .free
 |[],_,_,i,j,e=>by simp at e
 |k::t,[],h,_,_,_=>False.elim h
 |k::t,x::r,h,0,j,e=>by
  have e':k=j:=by simpa using e
  subst e'
  exact⟨x,rfl,h.1,h.2.1⟩
 |k::t,x::r,h,i+1,j,e=>by
  obtain⟨y,q1,q2⟩:=CapOk.get h.2.2 i j (by simpa using e)
  exact⟨y,by simpa using q1,q2⟩
theorem CapOk.len{X:Cx}{scope:Scope}:∀{cap:List Nat} {N':List Str},CapOk X scope cap N'->cap.length<=N'.length
 |[],_,_=>Nat.zero_le _
 |k::t,[],h=>False.elim h
 |k::t,x::r,h=>Nat.succ_le_succ (CapOk.len h.2.2)
theorem u7{X:Cx}{N':List Str}{cap:List Nat}{scope:Scope}(kind:scope.kind=.function:=by rfl)(nc:∀y∈scope.names,y.2≠.cell:=by decide +kernel)(nm:∀y∈scope.names,y.2=.local->scope.names.lookup y.1=some .local:=by decide +kernel)(fr:∀y∈scope.names,y.2=.free->X.env.kindOf y.1=some .cell\/X.env.kindOf y.1=some .free:=by repeat (first|exact List.forall_mem_nil _|refine List.forall_mem_cons.mpr ⟨fun e=>(by first|exact absurd e (by decide)|exact .inl rfl|exact .inr rfl),?_⟩))(capt:CapOk X scope cap N':=by repeat (first|exact trivial|refine⟨rfl,rfl,?_⟩)):CmpOk X N' cap scope:=⟨kind,nc,nm,fr,capt.get,capt.len⟩
end DD
namespace ZZ
open PySem
open PySem
end ZZ
namespace DD
open PySem PySem.Spec PyProof.Rows L2
section
variable{X:Cx}{pins:List (Addr×Obj)}{σ:St}{H:Hp}{s:Shared}{h':Heap}
theorem JA{t':Nat}{ch:List Addr}{T:Addr}{vs:List V}{its:List Value}(I:Inv X pins σ H s)(hch:∀b∈ch,Z5 X pins H b)(hT:s.heap.objs.size<=T)(kp:∀b o,b∉ch->s.heap.get? b=some o->h'.get? b=some o)(hz:vs.length<=sizeLine)(hv:Vals vs its)(ht:IsTup h' T its.toArray):Inv X pins σ (upd H T (.tup vs)) { s with heap:=h',toks:=t' }:=by
 have hn:H T=none:=I.hok.fresh hT
 have old:∀{b:Addr} {o:Obj},s.heap.get? b=some o->b≠T:=fun e=>Nat.ne_of_lt (Nat.lt_of_lt_of_le (Heap.lt_size e) hT)
 have tr:∀{b:Addr} {u:HO},H b=some u->b≠T:=fun e=>xW e hn
 have trc:∀{b:Addr} {u:HO},H b=some u->b∉ch:=fun {b u} e z=>by rw[(hch b z).1] at e;cases e
 refine I.step (g':=s.gens) (d':=s.drawn) (ch:=ch) (fun b hb=>⟨(hch b hb).2.2.2.1,(hch b hb).2.1,(hch b hb).2.2.2.2.1,(hch b hb).2.2.2.2.2⟩) (fun b o _ _ hc e _=>kp b o hc e) (fun b o _ _ hc e _=>⟨o.slots,kp b o hc e⟩)
  (fun b o _ e n=>by rw[zM (old e)];exact n) (fun b o hc e=>⟨o,kp b o hc e⟩) (fun b xs e=>by rw[zM (tr e)];exact e) (fun b o u e=>by rw[zM (tr e)];exact e) (fun b ps e=>⟨#[],by rw[zM (tr e),e];simp⟩) (fun m hm=>?_) (fun b u e=>?_) I.bare
 ·obtain⟨o,es,ep,ho,r⟩:=hm
  exact⟨o,es,ep,kp _ o (fun z=>(hch _ z).2.1 rfl) ho,r⟩
 ·by_cases hb:b=T
  ·subst hb
   rw[zN] at e;cases e
   exact⟨hz,its,hv,ht⟩
  ·rw[zM hb] at e
   refine(I.hok b u e).stay (fun c v hc q=>kp c v ?_ q) (fun c q=>by rw[zM (tr q)];exact q) (fun c xs q=>by rw[zM (tr q)];exact q) fun c o u q=>by rw[zM (tr q)];exact q
   rcases hc with z|z
   ·rw[z];exact trc e
   ·exact trc z
theorem ZH{t':Nat}{ch:List Addr}(I:Inv X pins σ H s)(hch:∀b∈ch,Z5 X pins H b)(kp:∀b o,b∉ch->s.heap.get? b=some o->h'.get? b=some o):Inv X pins σ H { s with heap:=h',toks:=t' }:=by
 have trc:∀{b:Addr} {u:HO},H b=some u->b∉ch:=fun {b u} e z=>by rw[(hch b z).1] at e;cases e
 refine I.step (g':=s.gens) (d':=s.drawn) (ch:=ch) (fun b hb=>⟨(hch b hb).2.2.2.1,(hch b hb).2.1,(hch b hb).2.2.2.2.1,(hch b hb).2.2.2.2.2⟩) (fun b o _ _ hc e _=>kp b o hc e) (fun b o _ _ hc e _=>⟨o.slots,kp b o hc e⟩)
  (fun b o _ e n=>n) (fun b o hc e=>⟨o,kp b o hc e⟩) (fun b xs e=>e) (fun b o u e=>e) (fun b ps e=>⟨#[],by rw[e];simp⟩) (fun m hm=>?_) (fun b u e=>?_) I.bare
 ·obtain⟨o,es,ep,ho,r⟩:=hm
  exact⟨o,es,ep,kp _ o (fun z=>(hch _ z).2.1 rfl) ho,r⟩
 ·refine(I.hok b u e).stay (fun c v hc q=>kp c v ?_ q) (fun _ q=>q) (fun _ _ q=>q) fun _ _ _ q=>q
  rcases hc with z|z
  ·rw[z];exact trc e
  ·exact trc z
end
theorem ZT{h:Heap}{a b:Addr}{o o':Obj}{n m:String}(e:h.get? a=some o)(c:o.cls=.type n)(e':h.get? b=some o')(c':o'.cls=.type m)(d:n≠m):a≠b:=by
 rintro rfl
 rw[e] at e';cases e'
 rw[c] at c';injection c' with q;exact d q
noncomputable def ItE(K:Fg)(a:Addr):It:=
 ⟨fun i H=>∃xs x,SqL K H a xs/\xs[i]?=some x,fun i H x H'=>∃T y,x=.ref T/\H T=none/\H'=upd H T (.tup [.int i,y])/\∀xs,SqL K H a xs->xs[i]?=some y,fun i H=>∃xs,SqL K H a xs/\xs.length=i⟩
theorem rW{P:Program}{w:World}{K:Fg}{elts:List Expr}{k:Nat}{tp:Pos}(a e it:Addr)(hei:e≠it):Turn P w K (.Tuple elts k tp) (ItE K a) [e,it] e (fun i h=>(∃old,IsEnum h e it i old)/\h.IsListIter it a i) where
 mem:=by simp
 obj:=fun i h st b hb=>by
  obtain⟨⟨old,h1⟩,o,h2,h3,h4⟩:=st
  have hb':b=e\/b=it:=by simpa using hb
  rcases hb' with rfl|rfl
  ·exact⟨_,h1,fun v z=>by cases z⟩
  ·exact⟨o,h2,fun v z=>by rw[h4] at z;cases z⟩
 keep:=fun i h g st kp=>⟨let ⟨old,h1⟩:=st.1;⟨old,kp e (by simp) _ h1⟩,st.2.at fun o q=>kp it (by simp) o q⟩
 item:=by
  intro X hP hw hK hc i pins s σ H E I hf st hg
  subst hP hw hK
  obtain⟨xs,x,hq,hx⟩:=hg
  obtain⟨its,rv,p,hz⟩:=I.list hq
  obtain⟨u,hu,ru⟩:=rv.get hx
  obtain⟨oa,na,ea,ca,_⟩:=id p
  obtain⟨⟨old,h1⟩,oi,h2,h3,h4⟩:=id st
  have hae:a≠e:=ZT ea ca h1 rfl (by decide)
  have hai:a≠it:=ZT ea ca h2 h3 (by decide)
  have W:=WalksT.enumerate (prog:=X.prog) (w:=X.w) (A:=X.A) (I.ok.hd hc) e it a hei hae hai its.toArray
  have hi:i<its.toArray.size:=by
   obtain⟨q,_⟩:=List.getElem?_eq_some_iff.mp hu
   simpa using q
  refine W.item i s _ _ hi ⟨st.1,st.2,p.isList⟩ fun T vals g tk pt hT isT mid kp=>⟨_,rfl,W.go elts k tp i T _ _ _ mid fun g2 st2 kp2=>?_⟩
  obtain⟨t,y,hy,rfl⟩:=pt
  have hy':y=u:=by
   have:its[i]?=some y:=by simpa using hy
   rw[hu] at this;exact(Option.some.inj this).symm
  subst hy'
  have isT2:IsTup g2 T #[.int i t,y]:=by
   obtain⟨o,q1,q2⟩:=isT
   exact⟨o,kp2 T o (W.apart i T _ mid) q1,q2⟩
  refine⟨.ref T,upd H T (.tup [.int i,x]),JA (s:=s) (t':=tk) I (its:=[.int i t,y]) (ch:=[e,it]) hf hT (fun b o hb q=>kp2 b o hb (kp b o hb q)) (by show 2<=sizeLine;decide) (.cons ⟨t,rfl⟩ (.cons ru .nil)) isT2,rfl,⟨T,x,rfl,I.hok.fresh hT,rfl,fun ys hys=>by rw[I.list_inj hys hq];exact hx⟩,⟨st2.1,st2.2.1⟩,fun b hb=>?_⟩
  have hbT:b≠T:=by
   have hb':b=e\/b=it:=by simpa using hb
   rcases hb' with rfl|rfl
   ·exact Nat.ne_of_lt (Nat.lt_of_lt_of_le (Heap.lt_size h1) hT)
   ·exact Nat.ne_of_lt (Nat.lt_of_lt_of_le (Heap.lt_size h2) hT)
  rw[zM hbT]
  exact(hf b hb).1
 done:=by
  intro X hP hw hK hc i pins s σ H E I hf st hg
  subst hP hw hK
  obtain⟨xs,hq,hx⟩:=hg
  obtain⟨its,rv,p,hz⟩:=I.list hq
  obtain⟨oa,na,ea,ca,_⟩:=id p
  obtain⟨⟨old,h1⟩,oi,h2,h3,h4⟩:=id st
  have hae:a≠e:=ZT ea ca h1 rfl (by decide)
  have hai:a≠it:=ZT ea ca h2 h3 (by decide)
  have W:=WalksT.enumerate (prog:=X.prog) (w:=X.w) (A:=X.A) (I.ok.hd hc) e it a hei hae hai its.toArray
  have hl:its.toArray.size=i:=by rw[List.size_toArray,<-rv.length];exact hx
  exact W.done s _ _ (by rw[hl];exact⟨st.1,st.2,p.isList⟩) fun g tk kp=>⟨rfl,ZH I hf kp⟩
 self:=fun _ _ _ _ _ st h=>let ⟨⟨_,h1⟩,_⟩:=st;wpAny_pyIter_enum h1 h
section
variable{X:Cx}{pos:Pos}{a b c:Expr}{f g h:ME}
theorem zEA(ha:DE X a f):DE X (.UnaryOp .USub a pos) (mUn zH2 f):=zJ2 zAW (fun O H dx d vx Q i e q=>by
 cases dx<;>first|(simp only[zH2,reduceCtorEq] at e;done)|skip
 simp only[zH2,Option.some.injEq] at e
 subst e
 rw[Is.int_iff] at i
 exact⟨_,i,q _ (by rw[Is.int_iff])⟩) ha
noncomputable def zJP(fs:ML):ME:=fun r=>(fs r).bind fun l=>match l with
 |[.int i,.int j]=>some (.int (if j > i then j else i))
 |[.int i,.int j,.int k]=>some (.int (if j > i then (if k > j then k else j) else (if k > i then k else i)))
 |_=>none
theorem ZX(hc:X.calm=true):CallR X (.builtin "max") (fun xs H Q=>∃i j k,xs=[.int i,.int j,.int k]/\Q (.int (if j > i then (if k > j then k else j) else (if k > i then k else i))) H):=by
 intro pins s σ H xs us Q I r hq
 obtain⟨i,j,k,rfl,q⟩:=hq
 cases r with
 |cons r1 r=>
  obtain⟨u2,u3,rfl,⟨t2,rfl⟩,⟨t3,rfl⟩⟩:=Vals.two r
  obtain⟨t1,rfl⟩:=r1
  refine max_three_ints (I.ok.hd hc) fun h' tk kp=>⟨_,H,I.kept kp,?_,q⟩
  split<;>split<;>exact⟨_,rfl⟩
theorem zHH{p':Pos}{es:List Expr}{fs:ML}(hc:X.calm=true)(hg:Gl X "max")(hm:X.mg "max" = none)(ha:DA X (a::es) fs)(hs:starEach (a::es) X.env=(false,eval a X.env)::starEach es X.env:=by rfl)(hpl:(backTo pos (starEach es X.env)).any (·.1)=false:=by rfl):DE X (.Call (.Name "max" p') (a::es) [] pos) (zJP fs):=by
 refine PE.conseq (jN ((ZY hc).or (ZX hc)) hg hm PyProof.Rows.boot_max ha (he:=hs) (hpl:=hpl)) fun σ H Q hq=>?_
 obtain⟨O0,r,d,hR,e,q⟩:=hq
 obtain⟨l,e1,e2⟩:=bind_some e
 refine⟨O0,r,l,hR,e1,fun vs H1 s1 il=>?_⟩
 split at e2
 ·cases e2
  obtain⟨v,u,rfl,i1,i2⟩:=il.inv2
  rw[Is.int_iff] at i1 i2
  exact .inl ⟨_,_,by rw[i1,i2],q _ H1 s1 (by rw[Is.int_iff])⟩
 ·cases e2
  obtain⟨v,u,w,rfl,i1,i2,i3⟩:=il.inv3
  rw[Is.int_iff] at i1 i2 i3
  exact .inr ⟨_,_,_,by rw[i1,i2,i3],q _ H1 s1 (by rw[Is.int_iff])⟩
 ·cases e2
noncomputable def Q1(fl:ML):ME:=fun r=>(fl r).map .tup
theorem oG{p':Pos}{fl:ML}(hg:Gl X "tuple")(hm:X.mg "tuple" = none)(ha:DB X a fl)(hs:starEach [a] X.env=(false,eval a X.env)::starEach [] X.env:=by rfl):DE X (.Call (.Name "tuple" p') [a] [] pos) (Q1 fl):=by
 refine PE.conseq (kI bA hg hm PyProof.Rows.boot_tuple (yD ha xH hs) (he:=hs)) fun σ H Q hq=>?_
 obtain⟨O0,r,d,hR,e,q⟩:=hq
 obtain⟨l,e1,rfl⟩:=map_some e
 refine⟨O0,r,l,hR,e1,fun p xs H1 s1 sq il=>⟨p,xs,rfl,.inl ⟨sq,fun t ht=>q _ _ (s1.trans (z3 ht)) ?_⟩⟩⟩
 rw[Is.tup_iff]
 exact⟨t,xs,rfl,SqT.of zN,il.same (z3 ht) (hR.same s1).ol⟩
theorem zJ4{fl:ML}(h:DF X a fl):DB X a fl:=by
 refine PE.conseq h fun σ H Q hq=>?_
 obtain⟨O0,r,l,hR,e,q⟩:=hq
 refine⟨O0,r,l,hR,e,fun p xs H1 s1 n1 e1 il=>q p xs H1 s1 (SqL.of e1) ?_⟩
 have ol:qV (fun b=>Ow O0 r σ b\/b=p) H1:=fun b z=>z.elim (fun z=>(hR.same s1).ol b z) fun z=>by subst z;exact⟨.lst xs,e1,trivial⟩
 exact IsL.mono (Same.kp (Same.refl H1) _) ol (fun a z _=>.inl z) l xs il
end
noncomputable def rH(f:ME)(bd:D->En->Option En):MS:=fun r=>(f r).bind fun d=>(bd d r).map .nx
theorem oF{X:Cx}{pos:Pos}{tg e:Expr}{f:ME}{bd:D->En->Option En}(he:DE X e f)(hg:DG X tg bd)(hs:swapsWithSole [tg] e pos.line X.env=pure false:=by rfl)(hw:swappedStores [tg] e X.env=pure none:=by rfl)(h1:(assignEach [tg] X.env).map (·.2)=[assign tg X.env]:=by rfl):DS X (.Assign [tg] e pos) (rH f bd):=by
 refine PS.conseq (zF6 he hg hs hw h1) fun Dn σ H hq=>?_
 obtain⟨O0,r,fl,hR,e,q⟩:=hq
 obtain⟨d,e1,e2⟩:=bind_some e
 obtain⟨r',e3,rfl⟩:=map_some e2
 refine⟨O0,r,d,hR,e1,fun v H1 s1 i1=>⟨O0,r,d,r',hR.same s1,i1,e3,fun σ' R' k'=>q σ' H1 R' ((Kp.of_same r σ s1).trans k')⟩⟩
open PySem PySem.Spec PyProof.Rows L2 PySem.StrLaws
noncomputable def oH{α:Type}(xs:List α)(lo hi:Option Int):List α:=(xs.drop (HT.sIx xs.length 0 lo)).take (HT.sIx xs.length xs.length hi-HT.sIx xs.length 0 lo)
theorem o7(n d:Nat)(hd:d<=n)(o:Option Int):HT.sIx n d o<=n:=HT.sIx_le n d hd o
theorem gB(lo hi:Option Int)(n:Nat):Builtin.Str.strSliceIndices lo hi 1 n=Builtin.Str.strSliceIndices (some ((HT.sIx n 0 lo:Nat):Int)) (some ((HT.sIx n n hi:Nat):Int)) 1 n:=by
 have key:∀(v:Option Int) (d:Nat),d<=n->(match v with|none=>(d:Int)|some i=>max 0 (min (if i<0 then i+(n:Int) else i) (n:Int)))=max 0 (min (if ((HT.sIx n d v:Nat):Int)<0 then ((HT.sIx n d v:Nat):Int)+(n:Int) else ((HT.sIx n d v:Nat):Int)) (n:Int)):=by
  intro v d hd
  have hle:=o7 n d hd v
  have h0:¬(((HT.sIx n d v:Nat):Int)<0):=by omega
  rw[if_neg h0]
  cases v with
  |none=>
   have e:HT.sIx n d none=d:=rfl
   rw[e];show(d:Int)=_;omega
  |some i=>
   have e:HT.sIx n d (some i)=if i<0 then (i+(n:Int)).toNat else min i.toNat n:=rfl
   show max 0 (min (if i<0 then i+(n:Int) else i) (n:Int))=_
   rw[e] at hle ⊢
   split<;>split at hle<;>omega
 have e1:(1:Int) > 0:=by omega
 unfold PySem.Builtin.Str.strSliceIndices
 simp only[e1,if_true]
 have k1:=key lo 0 (Nat.zero_le _)
 have k2:=key hi n (Nat.le_refl _)
 cases lo<;>cases hi<;>simp only at k1 k2 ⊢<;>rw[<-k1,<-k2]<;>rfl
theorem kD(x:Str)(lo hi:Option Int):sliceText x lo hi=⟨(oH x.cps.toList lo hi).toArray⟩:=by
 have hl:x.cps.toList.length=x.length:=by simp[Str.length]
 unfold oH
 rw[hl]
 have ha:=o7 x.length 0 (Nat.zero_le _) lo
 have hb:=o7 x.length x.length (Nat.le_refl _) hi
 have e:sliceText x lo hi=sliceText x (some ((HT.sIx x.length 0 lo:Nat):Int)) (some ((HT.sIx x.length x.length hi:Nat):Int)):=by
  unfold sliceText
  rw[gB lo hi x.length]
 rw[e]
 by_cases hab:HT.sIx x.length 0 lo<=HT.sIx x.length x.length hi
 ·exact sliceText_nat x hab hb
 ·have z:HT.sIx x.length x.length hi-HT.sIx x.length 0 lo=0:=by omega
  rw[z,List.take_zero]
  have em:Builtin.Str.strSliceIndices (some ((HT.sIx x.length 0 lo:Nat):Int)) (some ((HT.sIx x.length x.length hi:Nat):Int)) 1 x.length=[]:=by
   have e1:(1:Int) > 0:=by omega
   unfold PySem.Builtin.Str.strSliceIndices
   simp only[e1,if_true]
   have h0:¬(((HT.sIx x.length 0 lo:Nat):Int)<0):=by omega
   have h1:¬(((HT.sIx x.length x.length hi:Nat):Int)<0):=by omega
   rw[if_neg h0,if_neg h1]
   unfold PySem.sliceRange
   simp only[e1,if_true]
   split
   ·omega
   ·rfl
  unfold sliceText
  rw[em]
  split
  ·rename_i q
   have q':x.length=0:=by
                  have:0=x.length:=by simpa using q
                  exact this.symm
   apply Str.ext'
   have:x.cps.size=0:=q'
   exact Array.eq_empty_of_size_eq_zero this
  ·rfl
section
variable{X:Cx}{pos p2:Pos}{a b:Expr}{f g:ME}
noncomputable def zKY:V->Option Int->Option Int->Hp->VK->Prop:=fun x lo hi H Q=>∃z,x=.str z/\z.length<=sizeLine/\Q (.str ⟨(oH z.cps.toList lo hi).toArray⟩) H
theorem JR{α:Type}(xs:List α)(lo hi:Option Int):(oH xs lo hi).length<=xs.length:=by
 unfold oH
 rw[List.length_take,List.length_drop]
 omega
theorem WI:SlR X zKY:=by
 intro pins s σ H x v vl vu lo hi sl Q I rx hs pl pu hq
 obtain⟨z,rfl,hz,q⟩:=hq
 obtain⟨t,rfl⟩:=rx
 refine⟨"str",_,PySem.F.slot_str_getitem.lookup,typeIs_str _ _ _,?_⟩
 have main:∀(l u:Option (Int×Tok)),l.map (·.1)=lo->u.map (·.1)=hi->s.heap.IsSlice sl l u none->wpAny (model X.prog X.w) X.A (getItem (.str z t) (.ref sl)) (EP X pins σ Q) X.xe s:=by
  intro l u hl hu hsl
  refine wpAny_getItem_str_slice hsl rfl ?_
  have e:∀t' k,EP X pins σ Q (.str (sliceText z lo hi) t') { s with toks:=k }:=fun t' k=>⟨.str _,H,I.tok k,⟨t',rfl⟩,by rw[kD];exact q⟩
  have hle:(sliceText z lo hi).length<=sizeLine:=by
   rw[kD,jA]
   have:=JR z.cps.toList lo hi
   have h2:z.cps.toList.length=z.length:=by simp[Str.length]
   omega
  unfold sliceMade slicePicked
  rw[hl,hu]
  exact post_val_or_str ⟨hle,e⟩
 obtain⟨o,h1,h2,h3⟩:=hs
 cases pl with
 |none=>cases pu with
  |none=>exact main none none rfl rfl ⟨o,h1,h2,h3⟩
  |int j tj=>exact main none (some (j,tj)) rfl rfl ⟨o,h1,h2,h3⟩
 |int i ti=>cases pu with
  |none=>exact main (some (i,ti)) none rfl rfl ⟨o,h1,h2,h3⟩
  |int j tj=>exact main (some (i,ti)) (some (j,tj)) rfl rfl ⟨o,h1,h2,h3⟩
noncomputable abbrev MO:=En->Option (Option Int)
noncomputable def zE2:MO:=fun _=>some none
noncomputable def kJ(f:ME):MO:=fun r=>(f r).bind fun d=>(intD d).map some
noncomputable def lO(K:Fg)(f:MO):TO:=fun σ H Q=>∃O0 r o,R K O0 H r σ/\f r=some o/\∀H',Same H H'->Q o H'
noncomputable def DO(X:Cx)(e:Option Expr)(f:MO):Prop:=PO X e (lO X.K f)
theorem PO.conseq{e:Option Expr}{t t':TO}(h:PO X e t)(i:∀σ H Q,t' σ H Q->t σ H Q):PO X e t':=fun pins s σ H Q I q=>h pins s σ H Q I (i σ H Q q)
theorem zD3:DO X none zE2:=PO.conseq zBW fun σ H Q ⟨O0,r,o,hR,e,q⟩=>by
 unfold zE2 at e;cases e
 exact q H (Same.refl H)
theorem b8(ha:DE X a f):DO X (some a) (kJ f):=PO.conseq (zBV ha) fun σ H Q ⟨O0,r,o,hR,e,q⟩=>by
 obtain⟨d,e1,e2⟩:=bind_some e
 obtain⟨i,e3,rfl⟩:=map_some e2
 cases uX e3
 exact⟨O0,r,_,hR,e1,fun v H1 s1 i1=>⟨i,by rw[Is.int_iff] at i1;exact i1,q H1 s1⟩⟩
noncomputable def slD(d:D)(lo hi:Option Int):Option D:=match d with
 |.lst l=>some (.lst (oH l lo hi))
 |.tup l=>if HT.sIx l.length 0 lo=0/\HT.sIx l.length l.length hi=l.length then none else some (.tup (oH l lo hi))
 |.str s=>if s.length<=sizeLine then some (.str (oH s lo hi)) else none
 |_=>none
noncomputable def mSl(f:ME)(lo hi:MO):ME:=fun r=>(f r).bind fun d=>(lo r).bind fun i=>(hi r).bind fun j=>slD d i j
noncomputable def zLT(K:Fg):V->Option Int->Option Int->Hp->VK->Prop:=fun x lo hi H Q=>zKZ K x lo hi H Q\/zKX K x lo hi H Q\/zKY x lo hi H Q
theorem IsL.cut{K:Fg}{O:Addr->Prop}{H:Hp}{l:List D}{xs:List V}(h:IsL K O H l xs)(lo hi:Option Int):IsL K O H (oH l lo hi) (zFA xs lo hi):=by
 unfold oH zFA
 rw[h.length]
 exact(h.drop _).take _
theorem zE9{lo hi:Option Expr}{fl fh:MO}(ha:DE X a f)(hl:DO X lo fl)(hh:DO X hi fh):DE X (.Subscript a (.Slice lo hi none p2) pos) (mSl f fl fh):=by
 refine PE.conseq (W8 (r:=zLT X.K) (sl_list.or (sl_tup.or WI)) ha hl hh) fun σ H Q hq=>?_
 obtain⟨O0,r,d,hR,e,q⟩:=hq
 obtain⟨x,e1,e⟩:=bind_some e
 obtain⟨i,e2,e⟩:=bind_some e
 obtain⟨j,e3,e⟩:=bind_some e
 refine⟨O0,r,x,hR,e1,fun v H1 s1 i1=>⟨O0,r,i,hR.same s1,e2,fun H2 s2=>⟨O0,r,j,hR.same (s1.trans s2),e3,fun H3 s3=>?_⟩⟩⟩
 have s13:=(s1.trans s2).trans s3
 have R3:=hR.same s13
 have i3:=i1.same (s2.trans s3) (hR.same s1).ol
 cases x<;>first|(simp only[slD,reduceCtorEq] at e;done)|skip
 ·simp only[slD] at e
  split at e
  ·rename_i hl'
   cases e
   rw[Is.str_iff] at i3
   refine .inr (.inr ⟨_,i3,by rw[jA];exact hl',q _ H3 s13 (by rw[Is.str_iff])⟩)
  ·cases e
 ·simp only[slD] at e
  split at e
  ·cases e
  ·rename_i hw
   cases e
   rw[Is.tup_iff] at i3
   obtain⟨p,xs,rfl,hs,il⟩:=i3
   refine .inr (.inl ⟨p,xs,rfl,hs,by rw[<-il.length];exact hw,fun t ht=>q _ _ (s13.trans (z3 ht)) ?_⟩)
   rw[Is.tup_iff]
   exact⟨t,_,rfl,SqT.of zN,(il.cut i j).same (z3 ht) R3.ol⟩
 ·simp only[slD,Option.some.injEq] at e
  subst e
  rw[Is.lst_iff] at i3
  obtain⟨p,xs,rfl,hs,il⟩:=i3
  refine .inl ⟨p,xs,rfl,hs.sq,fun t ht=>q _ _ (s13.trans (z3 ht)) ?_⟩
  rw[Is.lst_iff]
  exact⟨t,_,rfl,.inl ⟨R3.nofresh ht,.inl zN⟩,(il.cut i j).same (z3 ht) R3.ol⟩
end
open PySem PySem.Spec PyProof.Rows L2 PySem.StrLaws
section
variable{prog:Program}{w:World}{A:Around}{E:Value->Shared->Prop}{s:Shared}
theorem zFY(n:Nat):Builtin.Slice.sliceAdjust none none (-1) (n:Int)=((n:Int)-1,-1):=by
 unfold Builtin.Slice.sliceAdjust
 simp
theorem zFW(n:Nat):Builtin.Slice.slicePlaces ((n:Int)-1) (-1) (-1)=n:=by
 unfold Builtin.Slice.slicePlaces
 have h1:¬((-1:Int) > 0):=by omega
 simp only[h1,if_false]
 split
 ·have : -(-1:Int)=1:=by omega
  rw[this,Int.ediv_one];omega
 ·omega
theorem zFX{sl:Addr}{t:Tok}{n:Nat}{Q:Int×Int×Nat->Shared->Prop}(hs:s.heap.IsSliceOf sl .none .none (.int (-1) t))(h:Q ((n:Int)-1,-1,n) s):wpAny (model prog w) A (Builtin.Slice.sliceApplied (.ref sl) (pure (n:Int))) Q E s:=by
 obtain⟨os,ho,hc,hd⟩:=id hs
 unfold Builtin.Slice.sliceApplied Builtin.Slice.sliceFields
 refine wpAny_bind (wpAny_bind (wpAny_field ho hd (x:=.none) rfl (wpAny_bind (wpAny_field ho hd (x:=.none) rfl (wpAny_bind (wpAny_field ho hd (x:=.int (-1) t) rfl (wpAny_pure (?_))))))))
 refine wpAny_bind (slicePart_int (?_));show wpAny _ _ (if ((-1:Int) == 0)=true then _ else _) _ _ s;rw[if_neg (by decide)]
 refine wpAny_bind (slicePart_none (wpAny_bind (slicePart_none (wpAny_bind (wpAny_pure (?_))))))
 show wpAny _ _ (match Builtin.Slice.sliceAdjust none none (-1) (n:Int) with|(lo,hi)=>pure (lo,(-1:Int),Builtin.Slice.slicePlaces lo hi (-1))) _ _ s
 rw[zFY n];show wpAny _ _ (pure ((n:Int)-1,(-1:Int),Builtin.Slice.slicePlaces ((n:Int)-1) (-1) (-1))) _ _ s;rw[zFW]
 exact wpAny_pure h
theorem zDI{α β:Type}{F:α->Option β}{G:α->β}:∀(l:List α),(∀m∈l,F m=some (G m))->l.filterMap F=l.map G
 |[],_=>rfl
 |a::l,h=>by
  rw[List.filterMap_cons,h a List.mem_cons_self,List.map_cons,zDI l fun m hm=>h m (List.mem_cons_of_mem _ hm)]
theorem WW(xs:Array Value):((List.range xs.size).filterMap fun(m:Nat)=>xs[((xs.size:Int)-1+(m:Int)*(-1)).toNat]?).toArray=xs.toList.reverse.toArray:=by
 congr 1
 apply List.ext_getElem?
 intro k
 have e:∀m,m<xs.size->xs[((xs.size:Int)-1+(m:Int)*(-1)).toNat]?=some (xs.toList.reverse.getD m .none):=by
  intro m hm
  have h1:((xs.size:Int)-1+(m:Int)*(-1)).toNat=xs.size-1-m:=by omega
  rw[h1,List.getD_eq_getElem?_getD,List.getElem?_reverse (by simpa using hm)]
  have h2:xs.size-1-m<xs.size:=by omega
  simp[h2]
 have e2:(List.range xs.size).filterMap (fun(m:Nat)=>xs[((xs.size:Int)-1+(m:Int)*(-1)).toNat]?)=(List.range xs.size).map fun m=>xs.toList.reverse.getD m .none:=by
  exact zDI _ fun m hm=>e m (List.mem_range.mp hm)
 rw[e2,List.getElem?_map]
 by_cases hk:k<xs.size
 ·rw[List.getElem?_range hk,List.getElem?_eq_getElem (by simpa using hk)]
  simp[List.getD_eq_getElem?_getD,hk]
 ·rw[List.getElem?_eq_none (by simpa using hk),List.getElem?_eq_none (by simpa using hk)];rfl
theorem zBL{t sl:Addr}{its:Array Value}{tk:Tok}{Q:Value->Shared->Prop}(ht:IsTup s.heap t its)(hs:s.heap.IsSliceOf sl .none .none (.int (-1) tk))(hsz:its.size<=sizeLine)(h:Q (.ref s.heap.objs.size) { s with heap:=s.heap.push { cls:=.type "tuple",data:=.seq its.toList.reverse.toArray } }):wpAny (model prog w) A (getItem (.ref t) (.ref sl)) Q E s:=by
 have hz:sizeOk (.seq its.toList.reverse.toArray):=by show its.toList.reverse.toArray.size<=sizeLine;simpa using hsz
 obtain⟨os,ho,hc,hd⟩:=id hs
 have hT:s.TypeIs (.ref sl) "slice" := ⟨os,ho,hc⟩
 unfold getItem
 try with_reducible refine wpAny_holding ?_
 first|refine wpAny_bind (wpAny_pure ?_)|skip
 refine wpAny_bind (wpAny_sequenceKey ht.typeIs (by decide) ?_)
 refine wpAny_bind (wpAny_callSpecial?_slot (name:=Str.ofString "__getitem__") ht.typeIs PyProof.Rows.slot_tuple_getitem (wpAny_call_entry PyProof.Rows.slot_tuple_getitem ht.typeIs entry_tuple_getitem (?_) (args_tuple_getitem _ _)))
 show wpAny _ _ (Builtin.Tuple.tupleItemsOf (.ref t) >>= _) _ _ s;refine wpAny_bind (tupleItemsOf_ ht (wpAny_bind (wpAny_typeOf hT (?_))));rw[if_pos (by decide)];refine wpAny_bind (zFX hs (?_))
 show wpAny _ _ (if (((its.size:Int)-1) == 0 && (-1:Int) == 1 && its.size == its.size)=true then _ else _) _ _ s
 rw[if_neg (by simp),WW]
 first
  |exact wpAny_bind (m:=Builtin.Tuple.tupleExact _) (wpAny_newObj_type (wpAny_pure ⟨_,rfl,wpAny_pure h⟩) hz)
  |exact wpAny_bind (m:=Builtin.Tuple.tupleExact _) (wpAny_newObj_type (wpAny_bind (wpAny_pure (wpAny_pure ⟨_,rfl,wpAny_pure h⟩))) hz)
  |exact wpAny_bind (wpAny_bind (m:=Builtin.Tuple.tupleExact _) (wpAny_newObj_type (wpAny_pure (wpAny_pure ⟨_,rfl,wpAny_pure h⟩)) hz))
  |exact wpAny_bind (wpAny_bind (m:=Builtin.Tuple.tupleExact _) (wpAny_newObj_type (wpAny_pure ⟨_,rfl,wpAny_pure h⟩) hz))
end
section
variable{X:Cx}{pos p2 p3:Pos}{a b:Expr}{f g:ME}{j:Nat}
noncomputable def zLL(K:Fg)(ta:TE):TE:=fun σ H Q=>ta σ H fun x H1=>(∃p xs,x=.ref p/\SqL K H1 p xs/\∀q,H1 q=none->Q (.ref q) (upd H1 q (.lst xs.reverse)))\/(∃p xs,x=.ref p/\SqT K H1 p xs/\∀q,H1 q=none->Q (.ref q) (upd H1 q (.tup xs.reverse)))
theorem zB3{ta:TE}(he:PE X a ta):PE X (.Subscript a (.Slice none none (some (.UnaryOp .USub (.Constant (.int 1) j p3) pos)) p2) pn) (zLL X.K ta):=by
 intro pins s σ H Q I h
 refine Subscript_ (thn (he pins s σ H _ I h) fun v s1 ⟨x,H1,I1,r1,q1⟩=>?_)
 refine wpAny_Slice ?_
 rw[evalPart_none]
 refine wpAny_pure (wpAny_pure ?_);rw[evalPart_some]
 have hst:PE X (.UnaryOp .USub (.Constant (.int 1) j p3) pos) (tUn (rU fun i=>.int (-i)) (tC (.int 1))):=zHX zAW nJ
 refine thn (hst pins s1 σ H1 (fun w H'=>w=.int (-1)/\H'=H1) I1 ⟨1,rfl,rfl,rfl⟩) fun u s2 ⟨y,H2,I2,r2,q2,eH⟩=>?_
 subst eH q2
 obtain⟨t,rfl⟩:=r2
 have I4:Inv X pins σ H2 { s2 with heap:=s2.heap.push { cls:=.type "slice",data:=.fields #[.none,.none,.int (-1) t] } }:=I2.kept (t':=s2.toks) fun b ob q=>Heap.get?_push_of_some _ q
 have hsl:({ s2 with heap:=s2.heap.push { cls:=.type "slice",data:=.fields #[.none,.none,.int (-1) t] } }:Shared).heap.IsSliceOf s2.heap.objs.size .none .none (.int (-1) t):=Heap.IsSliceOf.new ..
 rcases q1 with⟨p,xs,rfl,hx,q⟩|⟨p,xs,rfl,hx,q⟩
 ·cases r1
  obtain⟨its,r,pl,hz⟩:=I4.list hx
  have hlen:=r.length
  refine tail_any (ops:=[.ref p,.ref s2.heap.objs.size]) pl.isList.typeIs slot_list_getitem.lookup (wpAny_getItem_list_slice pl.isList hsl .none .none (.int (-1) t) (by simp) ?_ (by simp only[List.size_toArray];omega)) (by with_unfolding_all rfl)
  rw[PySem.W.krv_pick]
  exact⟨.ref _,_,I4.lnew (t':=s2.toks) r.reverse (by rw[List.length_reverse];exact hz),rfl,q _ I4.fresh⟩
 ·cases r1
  obtain⟨its,r,pl,hz⟩:=I4.tuple hx
  have hlen:=r.length
  refine tail_any (ops:=[.ref p,.ref s2.heap.objs.size]) pl.typeIs PyProof.Rows.slot_tuple_getitem.lookup (zBL pl hsl (by simp only[List.size_toArray];omega) ?_) (by with_unfolding_all rfl)
  refine⟨.ref _,_,I4.laid (t':=s2.toks) (o:=.tup xs.reverse) (fun b ob q=>Heap.get?_push_of_some _ q) (Nat.le_refl _) ?_,rfl,q _ (I4.hok.fresh (Nat.le_refl _))⟩
  exact⟨by rw[List.length_reverse];exact hz,_,r.reverse,IsTup.new _ _⟩
noncomputable def zFZ:D->Option D
 |.lst l=>some (.lst l.reverse)
 |.tup l=>some (.tup l.reverse)
 |_=>none
theorem zD8(ha:DE X a f):DE X (.Subscript a (.Slice none none (some (.UnaryOp .USub (.Constant (.int 1) j p3) pos)) p2) pn) (mUn zFZ f):=by
 refine PE.conseq (zB3 ha) fun σ H Q hq=>?_
 obtain⟨O0,r,d,hR,e,q⟩:=hq
 obtain⟨x,e1,e2⟩:=bind_some e
 refine⟨O0,r,x,hR,e1,fun v H1 s1 i1=>?_⟩
 have R1:=hR.same s1
 cases x<;>first|(simp only[zFZ,reduceCtorEq] at e2;done)|skip
 ·simp only[zFZ,Option.some.injEq] at e2
  subst e2
  rw[Is.tup_iff] at i1
  obtain⟨p,xs,rfl,hs,il⟩:=i1
  refine .inr ⟨p,xs,rfl,hs,fun t ht=>q _ _ (s1.trans (z3 ht)) ?_⟩
  rw[Is.tup_iff]
  exact⟨t,_,rfl,SqT.of zN,il.reverse.same (z3 ht) R1.ol⟩
 ·simp only[zFZ,Option.some.injEq] at e2
  subst e2
  rw[Is.lst_iff] at i1
  obtain⟨p,xs,rfl,hs,il⟩:=i1
  refine .inl ⟨p,xs,rfl,hs.sq,fun t ht=>q _ _ (s1.trans (z3 ht)) ?_⟩
  rw[Is.lst_iff]
  exact⟨t,_,rfl,.inl ⟨R1.nofresh ht,.inl zN⟩,il.reverse.same (z3 ht) R1.ol⟩
noncomputable def rY:List D->Option (List (List Nat))
 |[]=>some []
 |.str s::r=>(rY r).map (s::·)
 |_=>none
noncomputable def Y7(sep:List Nat):List (List Nat)->List Nat
 |[]=>[]
 |[s]=>s
 |s::r=>s++sep++Y7 sep r
theorem oU{K:Fg}{O:Addr->Prop}{H:Hp}:∀{l:List D} {ss:List (List Nat)} {vs:List V},rY l=some ss->IsL K O H l vs->vs=ss.map fun s=>V.str ⟨s.toArray⟩
 |[],ss,vs,e,il=>by cases e;unfold IsL at il;subst il;rfl
 |d::l,ss,vs,e,il=>by
  unfold IsL at il
  obtain⟨v,r,rfl,i1,i2⟩:=il
  cases d<;>first|(simp only[rY,reduceCtorEq] at e;done)|skip
  simp only[rY] at e
  obtain⟨ms,e1,rfl⟩:=map_some e
  rw[Is.str_iff] at i1
  rw[i1,oU e1 i2];rfl
theorem bM:∀{ss:List (List Nat)} {us:List Value},Vals (ss.map fun s=>V.str ⟨s.toArray⟩) us->StrsAre us (ss.map fun s=>(⟨s.toArray⟩:Str))
 |[],us,r=>by rw[List.map_nil] at r;cases r;exact .nil
 |s::ss,us,r=>by
  rw[List.map_cons] at r
  cases r with
  |cons r1 r2=>
   obtain⟨t,e⟩:=r1
   subst e
   exact .cons _ t (bM r2)
theorem Y6(sep:List Nat):∀ss:List (List Nat),Str.join (⟨sep.toArray⟩:Str) (ss.map fun s=>(⟨s.toArray⟩:Str))=⟨(Y7 sep ss).toArray⟩
 |[]=>rfl
 |[s]=>rfl
 |s::t::r=>by
  have ih:=Y6 sep (t::r)
  show(⟨s.toArray⟩:Str)++⟨sep.toArray⟩++Str.join _ ((t::r).map fun s=>(⟨s.toArray⟩:Str))=_
  rw[ih,oV,oV]
  rfl
noncomputable def zI6(K:Fg):V->List V->Hp->VK->Prop:=fun x vs H Q=>∃sep p ss,x=.str ⟨sep.toArray⟩/\vs=[.ref p]/\SqL K H p (ss.map fun s=>V.str ⟨s.toArray⟩)/\(ss.map List.length).sum+ss.length*sep.length<=16777216/\Q (.str ⟨(Y7 sep ss).toArray⟩) H
theorem zCK:MtR X "str.join" (zI6 X.K):=by
 intro pins s σ H x vs v us Q I rx rv hq
 obtain⟨sep,p,ss,rfl,rfl,hs,hl,q⟩:=hq
 obtain⟨t,rfl⟩:=rx
 obtain⟨u,rfl,ru⟩:=Vals.one rv
 cases ru
 obtain⟨its,r,pl,hz⟩:=I.list hs
 refine join_list pl.isList (ys:=ss.map fun s=>(⟨s.toArray⟩:Str)) (by simpa using bM r) ?_ fun t' k=>⟨.str _,H,I.tok k,⟨t',rfl⟩,?_⟩
 ·have e:(ss.map fun s=>(⟨s.toArray⟩:Str)).map (·.length)=ss.map List.length:=by rw[List.map_map];exact List.map_congr_left fun s _=>jA s
  rw[e,List.length_map,jA];exact hl
 ·show Q (.str (Txt.join _ _)) H
  unfold Txt.join
  rw[glued_eq_join,Y6];exact q
noncomputable def zE5(f:ME)(fl:ML):ME:=fun r=>(f r).bind fun d=>match d with
 |.str sep=>(fl r).bind fun l=>(rY l).bind fun ss=>if (ss.map List.length).sum+ss.length*sep.length<=16777216 then some (.str (Y7 sep ss)) else none
 |_=>none
theorem zEC{fl:ML}{apos cpos:Pos}(ho:DE X a f)(ha:DB X b fl)(hbase:attributeBase a "join" X.env (eval a X.env)=eval a X.env:=by rfl)(hline:(apos.endLine == cpos.line)=true:=by rfl)(hfew:((backTo cpos (starEach [b] X.env)).all (fun x=>!x.1) && (backToKw cpos (keywordEach [] X.env)).all (fun x=>x.1.isSome) && decide ([b].length+([]:List Keyword).length+(if ([]:List Keyword).isEmpty then 0 else 1)<30))=true:=by rfl)(hs:starEach [b] X.env=(false,eval b X.env)::starEach [] X.env:=by rfl):DE X (.Call (.Attribute a "join" apos) [b] [] cpos) (zE5 f fl):=by
 refine PE.conseq (tO PySem.F.plainAttrs_str PySem.F.slot_str_join PySem.F.type_str_join zCK ho (yD ha xH hs) hbase hfew hline hs) fun σ H Q hq=>?_
 obtain⟨O0,r,d,hR,e,q⟩:=hq
 obtain⟨x,e1,e2⟩:=bind_some e
 refine⟨O0,r,x,hR,e1,fun v H1 s1 i1=>?_⟩
 cases x<;>first|(simp only[reduceCtorEq] at e2;done)|skip
 simp only at e2
 obtain⟨l,e3,e4⟩:=bind_some e2
 obtain⟨ss,e5,e6⟩:=bind_some e4
 rw[Is.str_iff] at i1
 subst i1
 split at e6
 ·rename_i hl
  cases e6
  refine⟨rfl,O0,r,l,hR.same s1,e3,fun p xs H2 s2 sq il=>?_⟩
  have ex:=oU e5 il
  subst ex
  exact⟨_,p,ss,rfl,rfl,sq,hl,q _ H2 (s1.trans s2) (by rw[Is.str_iff])⟩
 ·cases e6
end
open PySem PySem.Spec PyProof.Rows L2 PySem.StrLaws PySem.Builtin.Str
section
variable{X:Cx}{a b:Expr}{f g:ME}{p pos:Pos}{elts:List Expr}{k:Nat}{tp:Pos}
noncomputable def z1(F:V->Hp->Prop):List V->Hp->Prop
 |[x],H=>F x H
 |_,_=>False
theorem X6{F:V->Hp->Prop}:∀{vs:List V} {H:Hp},z1 F vs H->∃x,vs=[x]/\F x H
 |[x],_,h=>⟨x,rfl,h⟩
 |[],_,h=>h.elim
 |_::_::_,_,h=>h.elim
theorem zL4(n:Nat){j:Nat}(h:0≠j):@Ne Addr (n:Nat) (n+j:Nat):=fun e=>h (Nat.add_left_cancel (show n+0=n+j from e))
theorem zJT{K:Fg}{O M:Addr->Prop}(mo:∀a,M a->O a){H:Hp}{a:Addr}{xs:List V}(h:LsAt K O H a xs):∀H1,dB M H H1->SqL K H1 a xs:=fun H1 k=>h.imp (fun z=>Rd.keep k (fun y=>z.1 (mo _ y)) z.2) id
theorem zBY{ta:TE}(hg:Gl X "enumerate")(hm:X.mg "enumerate" = none)(ha:PE X a ta)(hs:starEach [a] X.env=[(false,eval a X.env)]:=by rfl):PI X (.Tuple elts k tp) (.Call (.Name "enumerate" p) [a] [] pos) (fun σ H R=>ta σ H fun x H1=>∃u,x=.ref u/\(∃xs,SqL X.K H1 u xs)/\R (ItE X.K u) H1):=by
 intro pins s σ H R I h
 have hA:PA X [a] (Z8 ta zEU):=yD ha xH (by rw[hs];rfl)
 refine Call_ (cT I hg hm PyProof.Rows.boot_enumerate (PyProof.Rows.callWith_type1 (thn (hA pos pins s σ H (z1 fun x H1=>∃u,x=.ref u/\(∃xs,SqL X.K H1 u xs)/\R (ItE X.K u) H1) I h) fun us s1 ⟨vs,H1,I1,r1,q1⟩=>?_) hs rfl))
 obtain⟨_,rfl,u,rfl,⟨xs,hx⟩,q⟩:=X6 q1
 obtain⟨uu,rfl,ru⟩:=Vals.one r1
 cases ru
 obtain⟨its,_,pl,_⟩:=I1.list hx
 refine call_enumerate_list pl.isList fun h' z1 z2 _ kp=>wpAny_pyIter_enum z1 ?_
 refine⟨_,[s1.heap.objs.size+1,s1.heap.objs.size],_,_,H1,rfl,I1.kept (t':=s1.toks) kp,rW u _ _ (zL4 _ (by decide)).symm,⟨⟨_,z1⟩,z2⟩,fun b hb=>?_,q⟩
 have hle:s1.heap.objs.size<=b:=by
  simp only[List.not_mem_nil,List.mem_cons,or_false] at hb
  rcases hb with h|h
  ·rw[h];exact Nat.le_add_right _ _
  ·rw[h];exact Nat.le_refl _
 exact I1.fpOk hle (I1.hok.fresh hle)
noncomputable def XG(l:List D):List D:=l.zipIdx.map fun p=>.tup [.int (p.2:Nat),p.1]
noncomputable def zC1(f:ME):ML:=fun r=>(f r).bind fun d=>match d with
 |.lst l=>some (XG l)
 |_=>none
theorem pZ{l:List D}{i:Nat}{d:D}(h:(XG l)[i]?=some d):∃x,l[i]?=some x/\d=.tup [.int i,x]:=by
 unfold XG at h
 rw[List.getElem?_map,List.getElem?_zipIdx] at h
 cases e1:l[i]? with
 |none=>rw[e1] at h;cases h
 |some x=>rw[e1] at h;simp at h;exact⟨x,rfl,h.symm⟩
theorem zD5(hg:Gl X "enumerate")(hm:X.mg "enumerate" = none)(ha:DE X a f)(hs:starEach [a] X.env=[(false,eval a X.env)]:=by rfl):DI X (.Tuple elts k tp) (.Call (.Name "enumerate" p) [a] [] pos) (zC1 f):=by
 refine PI.conseq (zBY hg hm ha hs) fun σ H Rr hq=>?_
 obtain⟨O0,r,ds,hR,e,q⟩:=hq
 obtain⟨x,e1,e⟩:=bind_some e
 refine⟨O0,r,x,hR,e1,fun v1 H1 s1 i1=>?_⟩
 have R1:=hR.same s1
 cases x<;>first|(simp only[reduceCtorEq] at e;done)|skip
 rename_i l
 simp only[Option.some.injEq] at e
 subst e
 rw[Is.lst_iff] at i1
 obtain⟨u,xs,rfl,hx,il⟩:=i1
 refine⟨u,rfl,⟨xs,hx.sq⟩,q _ H1 s1 ?_⟩
 intro i H2 O' kp oo
 have kp':dB (Ow O0 r σ) H1 H2:=fun b o e n=>kp b o e fun z=>n (.inr z.own)
 have sq2:=zJT (M:=MutAt r σ) (fun a z=>.inr z.own) hx H2 kp
 have hlen:(XG l).length=l.length:=by simp[XG]
 refine⟨fun hi=>⟨?_,fun y H' yy=>?_⟩,fun hi=>⟨xs,sq2,by rw[<-il.length,<-hlen];exact hi.symm⟩⟩
 ·obtain⟨d,ed⟩:=jG hi
  obtain⟨dx,ex,_⟩:=pZ ed
  obtain⟨vx,q1,_⟩:=il.get ex
  exact⟨xs,vx,sq2,q1⟩
 ·obtain⟨T,w,rfl,nT,rfl,h1⟩:=yy
  refine⟨z3 nT,fun d ed=>?_⟩
  obtain⟨dx,ex,rfl⟩:=pZ ed
  obtain⟨vx,q1,i1⟩:=il.get ex
  have p1:=h1 xs sq2
  rw[q1] at p1
  cases p1
  have kk:dB (Ow O0 r σ) H1 (upd H2 T (.tup [.int i,w])):=fun b o e' n=>by
   have:=kp' b o e' n
   rw[zM (xW this nT)];exact this
  rw[Is.tup_iff]
  exact⟨T,_,rfl,SqT.of zN,.cons (by rw[Is.int_iff]) (.cons (Is.mono kk R1.ol oo _ _ i1) .nil)⟩
end
noncomputable def frZ(i:Nat)(r:En):Option En:=match r[i]? with
 |some (.o l)=>some (r.set i (.z l))
 |_=>none
noncomputable def unZ(i:Nat)(r:En):Option En:=match r[i]? with
 |some (.z l)=>some (r.set i (.o l))
 |_=>none
noncomputable def unF(i:Nat):Fl->Option Fl
 |.nx r=>(unZ i r).map .nx
 |.bk r=>(unZ i r).map .bk
 |.ct r=>(unZ i r).map .ct
 |.rt d r=>(unZ i r).map (.rt d)
 |.rf _ _=>none
 |.rg _ _ _=>none
noncomputable def sZ(i:Nat)(g:MS):MS:=fun r=>(frZ i r).bind fun r1=>(g r1).bind (unF i)
theorem R.swap{K:Fg}{O0:Addr->Prop}{H:Hp}{r:En}{σ:St}{i:Nat}{l:List D}{y:Sl}(h:R K O0 H r σ)(hy:(r[i]?=some (.o l)/\y=.z l)\/(r[i]?=some (.z l)/\y=.o l)):R K O0 H (r.set i y) σ/\∀b,wS (r.set i y) σ b↔wS r σ b:=by
 have eo:(r[i]?).bind Sl.own=some l:=by rcases hy with⟨e,_⟩|⟨e,_⟩<;>rw[e]<;>rfl
 have yo:y.own=some l:=by rcases hy with⟨_,e⟩|⟨_,e⟩<;>rw[e]<;>rfl
 have hi:i<r.length:=by
  rcases hy with⟨e,_⟩|⟨e,_⟩<;>exact(List.getElem?_eq_some_iff.mp e).1
 have own:∀j,((r.set i y)[j]?).bind Sl.own=(r[j]?).bind Sl.own:=fun j=>by
  by_cases hj:i=j
  ·subst hj;rw[zK hi,eo];exact yo
  ·rw[zE hj]
 have lss:∀j,((r.set i y)[j]?).bind Sl.ls=(r[j]?).bind Sl.ls:=fun j=>by
  by_cases hj:i=j
  ·subst hj;rw[zK hi];rcases hy with⟨e,e2⟩|⟨e,e2⟩<;>rw[e,e2]<;>rfl
  ·rw[zE hj]
 have at_:∀b,wS (r.set i y) σ b↔wS r σ b:=fun b=>⟨fun⟨j,m,e,q⟩=>⟨j,m,by rw[<-own j];exact e,q⟩,fun⟨j,m,e,q⟩=>⟨j,m,by rw[own j];exact e,q⟩⟩
 have ow:∀b,Ow O0 (r.set i y) σ b->H b≠none->Ow O0 r σ b:=fun b z _=>z.imp id (at_ b).mp
 refine⟨⟨by simp[h.len],fun j d ej=>?_,fun j m ej=>?_,fun j k b m n e4 e5=>?_,h.o0,fun j m b ej q=>?_,fun j m b ej q=>?_,fun j ks m ej=>?_⟩,at_⟩
 ·have hj:i≠j:=fun z=>by subst z;rw[zK hi] at ej;cases ej;cases yo
  rw[zE hj] at ej
  obtain⟨v,q1,q2⟩:=h.val j d ej
  exact⟨v,q1,Is.mono (Same.kp (Same.refl H) _) h.ol ow _ _ q2⟩
 ·rw[lss j] at ej
  obtain⟨b,ys,q1,q2,q3⟩:=h.own j m ej
  exact⟨b,ys,q1,q2,IsL.mono (Same.kp (Same.refl H) _) h.ol ow _ _ q3⟩
 ·rw[own j] at e4
  rw[own k] at e5
  exact h.apart j k b m n e4 e5
 ·by_cases hj:i=j
  ·subst hj
   rcases hy with⟨e,_⟩|⟨e,_⟩
   ·exact h.loc i l b (.inl e) q
   ·exact h.loc i l b (.inr (.inl e)) q
  ·rw[zE hj] at ej
   exact h.loc j m b ej q
 ·by_cases hj:i=j
  ·subst hj
   rw[zK hi] at ej
   rcases hy with⟨_,e⟩|⟨_,e⟩<;>rw[e] at ej<;>cases ej
  ·rw[zE hj] at ej
   exact h.par j m b ej q
 ·have hj:i≠j:=fun z=>by
   subst z
   rw[zK hi] at ej
   rcases hy with⟨_,e⟩|⟨_,e⟩<;>rw[e] at ej<;>cases ej
  rw[zE hj] at ej
  obtain⟨b,kvs,q1,q2,q4,q3⟩:=h.dct j ks m ej
  exact⟨b,kvs,q1,q2,q4,IsL.mono (Same.kp (Same.refl H) _) h.ol ow _ _ q3⟩
theorem pV{i:Nat}{r r1:En}(e:frZ i r=some r1):∃l,r[i]?=some (.o l)/\r1=r.set i (.z l):=by
 unfold frZ at e
 split at e
 ·rename_i l h;cases e;exact⟨l,h,rfl⟩
 ·cases e
theorem WA{i:Nat}{r r1:En}(e:unZ i r=some r1):∃l,r[i]?=some (.z l)/\r1=r.set i (.o l):=by
 unfold unZ at e
 split at e
 ·rename_i l h;cases e;exact⟨l,h,rfl⟩
 ·cases e
theorem Kp.froze{K:Fg}{O0:Addr->Prop}{H H':Hp}{r r1 r2 r3:En}{σ σ2:St}{i:Nat}(hR:R K O0 H r σ)(e:frZ i r=some r1)(k:Kp H r1 σ H' r2 σ2)(R2:R K O0 H' r2 σ2)(e':unZ i r2=some r3):R K O0 H' r3 σ2/\Kp H r σ H' r3 σ2:=by
 obtain⟨l,el,rfl⟩:=pV e
 obtain⟨l2,el2,rfl⟩:=WA e'
 have hi:i<r.length:=(List.getElem?_eq_some_iff.mp el).1
 have hi2:i<r2.length:=(List.getElem?_eq_some_iff.mp el2).1
 obtain⟨R1,at1⟩:=hR.swap (y:=.z l) (.inl ⟨el,rfl⟩)
 obtain⟨R3,at3⟩:=R2.swap (y:=.o l2) (.inr ⟨el2,rfl⟩)
 obtain⟨q1,q2⟩:=k.fz i l (zK hi)
 have m1:∀b,MutAt (r.set i (.z l)) σ b->MutAt r σ b:=fun b ⟨j,m,ej,qj⟩=>by
  have hj:i≠j:=fun z=>by subst z;rw[zK hi] at ej;cases ej
  rw[zE hj] at ej;exact⟨j,m,ej,qj⟩
 refine⟨R3,⟨fun b o eb n=>k.keep b o eb fun z=>n (m1 b z),k.live,k.lst,fun b z=>(k.new b ((at3 b).mp z)).imp (at1 b).mp id,fun b z=>?_,fun j m ej=>?_,fun j m ej=>?_⟩⟩
 ·obtain⟨j,m,ej,qj⟩:=z
  by_cases hj:i=j
  ·subst hj
   exact .inl ⟨i,l,by rw[el];rfl,by rw[<-q2];exact qj⟩
  ·rw[zE hj] at ej
   exact(k.mnew b ⟨j,m,ej,qj⟩).imp (m1 b) id
 ·have hj:i≠j:=fun z=>by subst z;rw[el] at ej;cases ej
  obtain⟨⟨m',e1⟩,e2⟩:=k.par j m (by rw[zE hj];exact ej)
  exact⟨⟨m',by rw[zE hj];exact e1⟩,e2⟩
 ·have hj:i≠j:=fun z=>by subst z;rw[el] at ej;cases ej
  obtain⟨e1,e2⟩:=k.fz j m (by rw[zE hj];exact ej)
  exact⟨by rw[zE hj];exact e1,e2⟩
theorem zLD(i:Nat){X:Cx}{st:Stmt}{g:MS}(h:DS X st g):DS X st (sZ i g):=by
 refine PS.conseq h fun Dn σ H hq=>?_
 obtain⟨O0,r,fl,hR,e,q⟩:=hq
 obtain⟨r1,e1,e2⟩:=bind_some e
 obtain⟨f1,e3,e4⟩:=bind_some e2
 have R1:R X.K O0 H r1 σ:=by
  obtain⟨l,el,rfl⟩:=pV e1
  exact(hR.swap (y:=.z l) (.inl ⟨el,rfl⟩)).1
 refine⟨O0,r1,f1,R1,e3,?_⟩
 cases f1 with
 |nx r2=>
  obtain⟨r3,e5,rfl⟩:=map_some e4
  exact fun σ' H' R' k'=>let ⟨R3,k3⟩:=Kp.froze hR e1 k' R' e5;q σ' H' R3 k3
 |bk r2=>
  obtain⟨r3,e5,rfl⟩:=map_some e4
  exact fun σ' H' R' k'=>let ⟨R3,k3⟩:=Kp.froze hR e1 k' R' e5;q σ' H' R3 k3
 |ct r2=>
  obtain⟨r3,e5,rfl⟩:=map_some e4
  exact fun σ' H' R' k'=>let ⟨R3,k3⟩:=Kp.froze hR e1 k' R' e5;q σ' H' R3 k3
 |rt d r2=>
  obtain⟨r3,e5,rfl⟩:=map_some e4
  exact fun v σ' H' R' k' iv=>let ⟨R3,k3⟩:=Kp.froze hR e1 k' R' e5;q v σ' H' R3 k3 iv
 |rf l r2=>cases e4
 |rg ks l r2=>cases e4
section
variable{X:Cx}{a b:Expr}{f g:ME}{p pos:Pos}{elts:List Expr}{k:Nat}{tp:Pos}
noncomputable def lK(K:Fg)(f:ML):TE:=fun σ H Q=>∃O0 r l,R K O0 H r σ/\f r=some l/\∀u xs H',Same H H'->(∀H1,dB (MutAt r σ) H' H1->SqL K H1 u xs)->IsL K (Ow O0 r σ) H' l xs->Q (.ref u) H'
noncomputable def DK(X:Cx)(e:Expr)(f:ML):Prop:=PE X e (lK X.K f)
noncomputable def mZs(i:Nat):ML:=fun r=>match r[i]? with
 |some (.z l)=>some l
 |_=>none
theorem zLE(i:Nat){x:Str}(h:PE X (.Name x pos) (jY i)):DK X (.Name x pos) (mZs i):=by
 refine PE.conseq h fun σ H Q hq=>?_
 obtain⟨O0,r,l,hR,e,q⟩:=hq
 have e':r[i]?=some (.z l):=by
  unfold mZs at e
  split at e
  ·rename_i l' h;cases e;exact h
  ·cases e
 obtain⟨u,xs,e1,e2,e3⟩:=hR.own i l (by rw[e'];rfl)
 refine⟨.ref u,e1,q u xs H (Same.refl H) (fun H1 k1=>SqL.of (k1 _ _ e2 fun⟨j,m,ej,qj⟩=>?_)) e3⟩
 obtain⟨y,ey,ym⟩:=bind_some ej
 have:=hR.apart i j u l m (by rw[e'];rfl) (by rw[ey];exact kL ym) e1 qj
 subst this
 rw[e'] at ey;cases ey;cases ym
theorem noF{H:Hp}:qV (fun _=>False) H:=fun _ z=>z.elim
end
section
variable{w:World}{prog:Program}{E:Value->Shared->Prop}{A:Around}
theorem zIB{it l:Addr}{ys:Array Value}(hne:l≠it):∀(n i:Nat) (s:Shared) (Q:List Value->Shared->Prop),s.heap.IsListIter it l i->s.heap.IsList l ys->i+n<=ys.size ->
  (∀g,g.IsListIter it l (i+n)->Heap.SameBut it s.heap g->Q ((ys.toList.drop i).take n) { s with heap:=g })->wpAny (model prog w) A (draw (.ref it) n) Q E s
 |0,i,s,Q,h1,_,_,h=>by
  show wpAny _ _ (pure []) Q E s;exact wpAny_pure (by simpa using h s.heap h1 (Heap.SameBut.refl ..))
 |n+1,i,s,Q,h1,h2,h3,h=>by
  have hl:i<ys.size:=by omega
  show wpAny _ _ (pyNext (.ref it) >>= _) Q E s;refine wpAny_bind (wpAny_pyNext_list_item h1 h2 (x:=ys[i]) (by simp[hl]) fun g1 k1 t1=>?_)
  refine wpAny_bind (wpAny_holding (zIB hne n (i+1) _ _ k1 (h2.extBut t1.extBut hne) (by omega) fun g2 k2 t2=>wpAny_pure (?_)))
  have hd:ys.toList.drop i=ys[i]::ys.toList.drop (i+1):=by simp[List.drop_eq_getElem_cons,hl]
  have:=h g2 (by rw[show i+(n+1)=i+1+n by omega];exact k2) (t1.trans t2)
  rw[hd,List.take_succ_cons] at this;exact this
theorem zAV{l:Addr}{ys:Array Value}{s:Shared}{Q:List Value->Shared->Prop}(hh:A.handled=none)(h2:s.heap.IsList l ys)(h:∀g,Heap.ExtBut s.heap.objs.size s.heap g->Q ys.toList { s with heap:=g }):wpAny (model prog w) A (unpackItems (.ref l) ys.size none) Q E s:=by
 have hlt:l≠s.heap.objs.size:=by obtain⟨o,e,_⟩:=h2;exact Nat.ne_of_lt (Heap.lt_size e)
 unfold unpackItems;refine wpAny_bind (?_);unfold notIterableAtAll
 refine wpAny_bind (wpAny_specialOf h2.typeIs F.slot_list_iter.lookup (wpAny_pure (?_)));simp only[Bool.false_eq_true,if_false];refine wpAny_bind (wpAny_holding (wpAny_pyIter_list h2 (?_)))
 refine wpAny_bind (wpAny_holding (zIB hlt ys.size 0 _ _ ⟨_,Heap.get?_push_size _ rfl,rfl,rfl⟩ (h2.push _) (by omega) fun g1 k1 t1=>?_))
 have ha:List.take ys.size (List.drop 0 ys.toList)=ys.toList:=by rw[List.drop_zero];exact List.take_of_length_le (by simp)
 rw[ha,if_neg (by simp)]
 refine wpAny_bind (wpAny_holding (wpAny_pyNext_list_end hh k1 ((h2.push _).extBut t1.extBut hlt) (by simp) fun g2 t2=>?_));simp only[Option.isSome_none,Bool.false_eq_true,if_false]
 exact wpAny_pure (h g2 fun b o hb e=>t2 b o hb (t1.extBut b o hb (Heap.get?_push_of_some _ e)))
end
section
variable{X:Cx}{pos:Pos}{es:List Expr}{k n:Nat}
theorem zF9{t:TGs}(hc:X.calm=true)(h:PGs X es t)(hn:(assignEach es X.env).length=n:=by rfl)(hst:(assignEach es X.env).findIdx? (·.1)=none:=by rfl):PG X (.Tuple es k pos) (fun v σ H Q=>∃a xs,v=.ref a/\(SqT X.K H a xs\/SqL X.K H a xs)/\xs.length=n/\t xs σ H Q):=by
 intro pins s σ H v u Q I r hw
 obtain⟨a,xs,e1,hq,hl,hw⟩:=hw
 subst e1
 cases r
 rcases hq with hq|hq
 ·exact zF8 hc h hn hst pins s σ H (.ref a) (.ref a) Q I rfl ⟨a,xs,rfl,hq,hl,hw⟩
 ·obtain⟨its,rv,pl,hz⟩:=I.list hq
  rw[assign_Tuple]
  refine wpAny_bind (wpAny_standAt ?_)
  unfold unpack
  rw[hst]
  have hsz:(assignEach es X.env).length=its.toArray.size:=by rw[hn,List.size_toArray,<-rv.length];exact hl.symm
  rw[hsz]
  refine wpAny_bind (wpAny_holding (zAV (I.ok.hd hc) pl.isList fun g hx=>?_))
  have I1:Inv X pins σ H { s with heap:=g }:=I.kept (t':=s.toks) fun b o e=>hx b o (Nat.ne_of_lt (Heap.lt_size e)) e
  exact h pins _ σ H xs _ Q I1 (by simpa using rv) hw
noncomputable def wY(n:Nat)(bs:List D->En->Option En):D->En->Option En:=fun d r=>match d with
 |.tup l=>if l.length=n then bs l r else none
 |.lst l=>if l.length=n then bs l r else none
 |_=>none
theorem vP{bs:List D->En->Option En}(hc:X.calm=true)(h:DGs X es bs)(hn:(assignEach es X.env).length=n:=by rfl)(hst:(assignEach es X.env).findIdx? (·.1)=none:=by rfl):DG X (.Tuple es k pos) (wY n bs):=by
 refine PG.conseq (zF9 hc h hn hst) fun v σ H Q h=>?_
 obtain⟨O0,r,d,r',hR,iv,e,q⟩:=h
 cases d<;>first|(simp only[wY,reduceCtorEq] at e;done)|skip
 ·rename_i l
  rw[Is.tup_iff] at iv
  obtain⟨a,xs,rfl,hs,il⟩:=iv
  simp only[wY] at e
  split at e
  ·rename_i hl
   exact⟨a,xs,rfl,.inl hs,by rw[<-il.length];exact hl,O0,r,l,r',hR,il,e,q⟩
  ·cases e
 ·rename_i l
  rw[Is.lst_iff] at iv
  obtain⟨a,xs,rfl,hs,il⟩:=iv
  simp only[wY] at e
  split at e
  ·rename_i hl
   exact⟨a,xs,rfl,.inr hs.sq,by rw[<-il.length];exact hl,O0,r,l,r',hR,il,e,q⟩
  ·cases e
end
set_option maxRecDepth 9000 in
theorem zL2(l:Addr)(xs:Array Value)(n:Nat)(b:Addr)(cl:Value)(dd:Option Addr)(ys:Array Value)(n2:Nat)(sl:Array (Option Value))(hcl:cl=.type "tuple")(h0:¬(!xs.isEmpty && Builtin.List.listTooLong (xs.size+ys.size))=true)(h1:xs.size<=sizeLine)(h2:xs.size+ys.size<=sizeLine+1):Meets (Builtin.«list.extend» ⟨[.ref l,.ref b],[]⟩) (fun _ R s=>s.heap.get? l=some { cls:=.type "list",dict:=none,data:=.seq xs n,slots:=#[] }/\s.heap.get? b=some { cls:=cl,dict:=dd,data:=.seq ys n2,slots:=sl }/\R (.ok (.ret Value.none)) { s with heap:=s.heap.update l (Obj.mapSeq fun x=>x++ys),toks:=s.toks }):=
 .of_wp fun prog w A R s h=>by
  subst hcl
  obtain⟨hp,g,d,tk,os⟩:=s;obtain⟨hl,hb,h⟩:=h;have f1:=AutoSeq1.idx_int;have f2:=AutoSeq1.sub_tuple_tuple;have f3:=AutoSeq1.sub_list_list;have f4:=AutoSeq1.sub_tuple_list;have f5:=AutoSeq1.sub_list_tuple
  have hz:(xs++ys).size<=sizeLine+1:=by rw[Array.size_append];exact h2
  wp_walk using (wpAny_updateSeq hl rfl (hz:=h1) (_hz':=hz)),wpAny_loadPart' hl,wpAny_loadPart' hb;exact⟨_,rfl,h⟩
set_option maxRecDepth 9000 in
theorem zL3(l:Addr)(xs:Array Value)(n:Nat)(b:Addr)(cl:Value)(dd:Option Addr)(ys:Array Value)(n2:Nat)(sl:Array (Option Value))(hcl:cl=.type "list")(h0:¬(!xs.isEmpty && Builtin.List.listTooLong (xs.size+ys.size))=true)(h1:xs.size<=sizeLine)(h2:xs.size+ys.size<=sizeLine+1):Meets (Builtin.«list.extend» ⟨[.ref l,.ref b],[]⟩) (fun _ R s=>s.heap.get? l=some { cls:=.type "list",dict:=none,data:=.seq xs n,slots:=#[] }/\s.heap.get? b=some { cls:=cl,dict:=dd,data:=.seq ys n2,slots:=sl }/\R (.ok (.ret Value.none)) { s with heap:=s.heap.update l (Obj.mapSeq fun x=>x++ys),toks:=s.toks }):=
 .of_wp fun prog w A R s h=>by
  subst hcl
  obtain⟨hp,g,d,tk,os⟩:=s;obtain⟨hl,hb,h⟩:=h;have f1:=AutoSeq1.idx_int;have f2:=AutoSeq1.sub_tuple_tuple;have f3:=AutoSeq1.sub_list_list;have f4:=AutoSeq1.sub_tuple_list;have f5:=AutoSeq1.sub_list_tuple
  have hz:(xs++ys).size<=sizeLine+1:=by rw[Array.size_append];exact h2
  wp_walk using (wpAny_updateSeq hl rfl (hz:=h1) (_hz':=hz)),wpAny_loadPart' hl,wpAny_loadPart' hb;exact⟨_,rfl,h⟩
section
variable{X:Cx}
noncomputable def zI7(K:Fg):V->List V->Hp->VK->Prop:=fun x vs H Q=>∃l b xs zs,x=.ref l/\vs=[.ref b]/\H l=some (.lst xs)/\(SqL K H b zs\/SqT K H b zs)/\xs.length+zs.length<=sizeLine/\Q .non (upd H l (.lst (xs++zs)))
theorem zCM:MtR X "list.extend" (zI7 X.K):=by
 intro pins s σ H x vs v us Q I rx rv h
 obtain⟨l,b,xs,zs,rfl,rfl,hH,hB,hz,q⟩:=h
 cases rx
 obtain⟨u,rfl,ru⟩:=rv.one
 cases ru
 obtain⟨z,its,n,r,hl,e⟩:=I.lstM hH
 have fin:∀(its2:List Value),Vals zs its2->¬(!its.toArray.isEmpty && Builtin.List.listTooLong (its.toArray.size+its2.toArray.size))=true/\its.toArray.size<=sizeLine/\its.toArray.size+its2.toArray.size<=sizeLine+1 /\
   EP X pins σ Q Value.none { s with heap:=s.heap.update l (Obj.mapSeq fun x=>x++its2.toArray),toks:=s.toks }:=fun its2 r2=>by
  have hl2:=r2.length
  have hsz:its.toArray.size+its2.toArray.size<=sizeLine:=by rw[List.size_toArray,List.size_toArray];omega
  refine⟨by rw[QP hsz,Bool.and_false];exact Bool.false_ne_true,by rw[List.size_toArray];omega,by omega,.non,_,I.lset (its':=its++its2) hH e (by simp) (r.append r2) ?_,rfl,q⟩
  rw[List.length_append];omega
 rcases hB with hB|hB
 ·obtain⟨its2,r2,⟨⟨c2,d2,dt2,sl2⟩,n2,g2,hc,hd,hs⟩,z2⟩:=I.list hB
  simp only at hc hd hs
  subst hs
  obtain⟨f1,f2,f3,f4⟩:=fin its2 r2
  exact call_meets F.slot_list_extend ⟨_,e,rfl⟩ F.entry_list_extend (F.args_list_extend_2 _ _) (zL3 l its.toArray n b _ _ its2.toArray n2 _ hc f1 f2 f3) ⟨e,g2,f4⟩
 ·obtain⟨its2,r2,⟨⟨c2,d2,dt2,sl2⟩,g2,hc,n2,hs⟩,z2⟩:=I.tuple hB
  simp only at hc hs
  subst hs
  obtain⟨f1,f2,f3,f4⟩:=fin its2 r2
  exact call_meets F.slot_list_extend ⟨_,e,rfl⟩ F.entry_list_extend (F.args_list_extend_2 _ _) (zL2 l its.toArray n b _ _ its2.toArray n2 _ hc f1 f2 f3) ⟨e,g2,f4⟩
variable{apos cpos pn:Pos}{e:Expr}{f:ME}
theorem hX(i:Nat){x:Str}(h:PE X (.Name x pn) (jY i))(he:DE X e f)(hline:(apos.endLine == cpos.line)=true:=by rfl)(hbase:attributeBase (.Name x pn) "extend" X.env (eval (.Name x pn) X.env)=eval (.Name x pn) X.env:=by rfl)(hfew:((backTo cpos (starEach [e] X.env)).all (fun x=>!x.1) && (backToKw cpos (keywordEach [] X.env)).all (fun x=>x.1.isSome) && decide ([e].length+([]:List Keyword).length+(if ([]:List Keyword).isEmpty then 0 else 1)<30))=true:=by rfl)(hs:starEach [e] X.env=(false,eval e X.env)::starEach [] X.env:=by rfl):DX X (.Call (.Attribute (.Name x pn) "extend" apos) [e] [] cpos) (zII i f):=by
 refine PE.conseq (tO PySem.F.plainAttrs_list PySem.F.slot_list_extend PySem.F.type_list_extend zCM h (yD he xH hs) hbase hfew hline hs) fun σ H Q hq=>?_
 obtain⟨O0,r,d',r',hR,e,q⟩:=hq
 obtain⟨d,e1,e⟩:=bind_some e
 obtain⟨m,em,e⟩:=bind_some e
 obtain⟨l,e2,e⟩:=bind_some e
 split at e
 ·rename_i hl
  obtain⟨r2,e3,e4⟩:=map_some e
  cases e4
  obtain⟨a,xs,q1,q2,q3⟩:=tY hR e2
  refine⟨.ref a,q1,.inl ⟨rfl,xs,SqL.of q2⟩,O0,r,d,hR,e1,fun v H1 s1 i1=>?_⟩
  have R1:=hR.same s1
  have key:∃b zs,v=.ref b/\(SqL X.K H1 b zs\/SqT X.K H1 b zs)/\IsL X.K (Ow O0 r σ) H1 m zs:=by
   cases d<;>first|(cases em;done)|skip
   ·cases em;rw[Is.tup_iff] at i1;obtain⟨b,zs,rfl,h1,h2⟩:=i1;exact⟨b,zs,rfl,.inr h1,h2⟩
   ·cases em;rw[Is.lst_iff] at i1;obtain⟨b,zs,rfl,h1,h2⟩:=i1;exact⟨b,zs,rfl,.inl h1.sq,h2⟩
  obtain⟨b,zs,rfl,hb,il⟩:=key
  obtain⟨R2,k2⟩:=R1.upd (xs':=xs++zs) e3 q1 (s1 _ _ q2) ((q3.same s1 hR.ol).append il)
  exact⟨a,b,xs,zs,rfl,rfl,s1 _ _ q2,hb,by rw[<-q3.length,<-il.length];exact hl,q _ _ R2 ((Kp.of_same r σ s1).trans k2) (by rw[Is.non_iff])⟩
 ·cases e
end
noncomputable def zDQ:List V->List V->Bool
 |[],[]=>true
 |x::xs,y::ys=>eqV x y && zDQ xs ys
 |_,_=>false
noncomputable def zH9:List D->List D->Bool
 |[],[]=>true
 |x::xs,y::ys=>eqF x y && zH9 xs ys
 |_,_=>false
noncomputable def zDR(xs ys:List V)(j:Nat):Bool:=match xs[j]?,ys[j]? with
 |some x,some y=>eqV x y
 |_,_=>false
theorem uH:∀(xs ys:List V),xs.length=ys.length->(List.range xs.length).all (zDR xs ys)=zDQ xs ys
 |[],[],_=>rfl
 |x::xs,y::ys,h=>by
  rw[List.length_cons,List.range_succ_eq_map,List.all_cons,List.all_map,zDQ,<-uH xs ys (by simpa using h)]
  rfl
 |[],y::ys,h=>by simp at h
 |x::xs,[],h=>by simp at h
theorem dM:∀(xs ys:List V),xs.length≠ys.length->zDQ xs ys=false
 |[],[],h=>by simp at h
 |x::xs,y::ys,h=>by rw[zDQ,dM xs ys (by simpa using h),Bool.and_false]
 |[],y::ys,h=>rfl
 |x::xs,[],h=>rfl
theorem dL{K:Fg}{O:Addr->Prop}{H:Hp}:∀{l:List D} {xs:List V},IsL K O H l xs->l.all b6=true->xs.all b5=true
 |[],xs,h,_=>by unfold IsL at h;subst h;rfl
 |d::l,xs,h,f=>by
  rw[List.all_cons,Bool.and_eq_true] at f
  unfold IsL at h;obtain⟨v,r,rfl,h1,h2⟩:=h
  rw[List.all_cons,zDJ h1 f.1,dL h2 f.2];rfl
theorem XE{K:Fg}{O:Addr->Prop}{H:Hp}:∀{l m:List D} {xs ys:List V},IsL K O H l xs->IsL K O H m ys->l.all b6=true->m.all b6=true->zDQ xs ys=zH9 l m
 |[],m,xs,ys,h,h',_,_=>by
  unfold IsL at h;subst h
  cases m with
  |nil=>unfold IsL at h';subst h';rfl
  |cons e m=>unfold IsL at h';obtain⟨v,r,rfl,_,_⟩:=h';rfl
 |d::l,m,xs,ys,h,h',f,f'=>by
  unfold IsL at h;obtain⟨v,r,rfl,h1,h2⟩:=h
  cases m with
  |nil=>unfold IsL at h';subst h';rfl
  |cons e m=>
   rw[List.all_cons,Bool.and_eq_true] at f f'
   unfold IsL at h';obtain⟨v',r',rfl,h1',h2'⟩:=h'
   rw[zDQ,zH9,XE h2 h2' f.2 f'.2,zG9 h1 f.1 h1' f'.1]
theorem XD{K:Fg}{O:Addr->Prop}{H:Hp}:∀{l m:List D} {xs ys:List V},IsL K O H l xs->IsL K O H m ys->l.all b6=true->m.all b6=true->xs.all b5=true/\ys.all b5=true/\zDQ xs ys=zH9 l m:=fun h h' f f'=>⟨dL h f,dL h' f',XE h h' f f'⟩
section
variable{X:Cx}
noncomputable def zI9(K:Fg)(neg:Bool):R2:=fun x y H Q=>∃p q xs ys,x=.ref p/\y=.ref q/\SqL K H p xs/\SqL K H q ys/\xs.all b5=true/\ys.all b5=true/\Q (.bl (if neg then !zDQ xs ys else zDQ xs ys)) H
theorem X4{xs:List V}{j:Nat}{x:V}(h:xs.all b5=true)(e:xs[j]?=some x):b5 x=true:=List.all_eq_true.mp h x (List.mem_of_getElem? e)
theorem Z7{xs:List V}{its:List Value}(r:Vals xs its){j:Nat}(h:j<its.toArray.size):∃x,xs[j]?=some x/\RelV x its.toArray[j]:=by
 have hj:j<xs.length:=by rw[r.length];simpa using h
 obtain⟨u,e,q⟩:=r.get (i:=j) (x:=xs[j]) (by simp[hj])
 refine⟨xs[j],by simp[hj],?_⟩
 have:its.toArray[j]=u:=by
  have h':j<its.length:=by simpa using h
  simp only[List.getElem_toArray]
  rw[List.getElem?_eq_getElem h'] at e
  exact Option.some.inj e
 rw[this];exact q
theorem pR{A:Around}{s:Shared}{xs ys:List V}{its its2:List Value}(r:Vals xs its)(r2:Vals ys its2)(fx:xs.all b5=true)(fy:ys.all b5=true):∀j (h1:j<its.toArray.size) (h2:j<its2.toArray.size),SeqAt.EqAt A s its.toArray[j] its2.toArray[j] (zDR xs ys j):=by
 intro j h1 h2
 obtain⟨x,e1,q1⟩:=Z7 r h1
 obtain⟨y,e2,q2⟩:=Z7 r2 h2
 have:zDR xs ys j=eqV x y:=by unfold zDR;rw[e1,e2]
 rw[this]
 exact zHA q1 q2 (X4 fx e1) (X4 fy e2)
theorem zGJ(hu:X.A.units<cLine):OpR X (compareOp .Eq) (zI9 X.K false):=by
 intro pins s σ H x y v u Q I rx ry h
 obtain⟨p,q',xs,ys,rfl,rfl,h1,h2,fx,fy,q⟩:=h
 cases rx;cases ry
 obtain⟨its,r,pl,hz⟩:=I.list h1
 obtain⟨its2,r2,pl2,hz2⟩:=I.list h2
 have n1:=r.length
 have n2:=r2.length
 by_cases hl:xs.length=ys.length
 ·refine SeqAt.eq_listAt pl.isList pl2.isList (by simp only[List.size_toArray];omega) hu (pR r r2 fx fy) (yP I q ?_)
  rw[List.size_toArray,<-n1,uH xs ys hl];rfl
 ·refine SeqAt.eq_list_lengthsAt pl.isList pl2.isList (by simp only[List.size_toArray,bne_iff_ne];omega) hu (yP I q ?_)
  rw[dM xs ys hl];rfl
theorem zGG(hu:X.A.units<cLine):OpR X (compareOp .NotEq) (zI9 X.K true):=by
 intro pins s σ H x y v u Q I rx ry h
 obtain⟨p,q',xs,ys,rfl,rfl,h1,h2,fx,fy,q⟩:=h
 cases rx;cases ry
 obtain⟨its,r,pl,hz⟩:=I.list h1
 obtain⟨its2,r2,pl2,hz2⟩:=I.list h2
 have n1:=r.length
 have n2:=r2.length
 by_cases hl:xs.length=ys.length
 ·refine SeqAt.RcNeAt.lists pl.isList pl2.isList (by simp only[List.size_toArray];omega) hu (pR r r2 fx fy) _ _ _ _ (yP I q ?_)
  rw[List.size_toArray,<-n1,uH xs ys hl];rfl
 ·refine SeqAt.RcNeAt.lists_lengths pl.isList pl2.isList (by simp only[List.size_toArray,bne_iff_ne];omega) hu _ _ _ _ (yP I q ?_)
  rw[dM xs ys hl];rfl
noncomputable def eqA(x y:D):Option D:=match x,y with
 |.lst l,.lst m=>if l.all b6=true/\m.all b6=true then some (.bl (zH9 l m)) else none
 |x,y=>eqD x y
noncomputable def neA(x y:D):Option D:=match x,y with
 |.lst l,.lst m=>if l.all b6=true/\m.all b6=true then some (.bl (!zH9 l m)) else none
 |x,y=>neD x y
noncomputable def zK6(K:Fg):R2:=fun x y H Q=>zI9 K false x y H Q\/rEq x y H Q
noncomputable def zK1(K:Fg):R2:=fun x y H Q=>zI9 K true x y H Q\/rNe x y H Q
theorem w8(hu:X.A.units<cLine):OpR X (compareOp .Eq) (zK6 X.K):=(zGJ hu).or zJH
theorem zGH(hu:X.A.units<cLine):OpR X (compareOp .NotEq) (zK1 X.K):=(zGG hu).or zJF
theorem qA{K:Fg}:OpD K (zK6 K) eqA:=by
 intro O H dx dy d vx vy Q ol ix iy e q
 unfold eqA at e
 split at e
 ·rename_i l m
  split at e
  ·rename_i hf
   cases e
   rw[Is.lst_iff] at ix iy
   obtain⟨a,xs,rfl,hs,il⟩:=ix
   obtain⟨b,ys,rfl,hs',il'⟩:=iy
   obtain⟨f1,f2,f3⟩:=XD il il' hf.1 hf.2
   exact .inl ⟨a,b,xs,ys,rfl,rfl,hs.sq,hs'.sq,f1,f2,q _ H (Same.refl H) (by rw[Is.bl_iff,f3];rfl)⟩
  ·cases e
 ·exact .inr (zJJ O H dx dy d vx vy Q ol ix iy e q)
theorem zGL{K:Fg}:OpD K (zK1 K) neA:=by
 intro O H dx dy d vx vy Q ol ix iy e q
 unfold neA at e
 split at e
 ·rename_i l m
  split at e
  ·rename_i hf
   cases e
   rw[Is.lst_iff] at ix iy
   obtain⟨a,xs,rfl,hs,il⟩:=ix
   obtain⟨b,ys,rfl,hs',il'⟩:=iy
   obtain⟨f1,f2,f3⟩:=XD il il' hf.1 hf.2
   exact .inl ⟨a,b,xs,ys,rfl,rfl,hs.sq,hs'.sq,f1,f2,q _ H (Same.refl H) (by rw[Is.bl_iff,f3];rfl)⟩
  ·cases e
 ·exact .inr (zJI O H dx dy d vx vy Q ol ix iy e q)
end
section
variable{X:Cx}{a:Expr}{es:List Expr}{f:ME}{fs:ML}{i:Nat}{pos p pn:Pos}
theorem YQ{r r':En}{σ:St}{l':List D}{b:Addr}(e:W0 i l' r=some r')(h:wS r' σ b):wS r σ b:=by
 obtain⟨x,y,ex,rfl,yo,ym,⟨l0,xm⟩,_⟩:=uI e
 obtain⟨j,m,ej,qj⟩:=h
 by_cases hj:j=i
 ·subst hj;exact⟨j,l0,by rw[ex];exact kL xm,qj⟩
 ·rw[zE (fun z=>hj z.symm)] at ej;exact⟨j,m,ej,qj⟩
end
section
variable{es:List Expr}{env:Env}{p:Pos}
theorem zS{c k}:starEach (.Constant c k p::es) env=(false,eval (.Constant c k p) env)::starEach es env:=rfl
theorem zR{x}:starEach (.Name x p::es) env=(false,eval (.Name x p) env)::starEach es env:=rfl
theorem wE{l k}:starEach (.Tuple l k p::es) env=(false,eval (.Tuple l k p) env)::starEach es env:=rfl
theorem zBA{f l k}:starEach (.Call f l k p::es) env=(false,eval (.Call f l k p) env)::starEach es env:=rfl
theorem qQ{a b}:starEach (.Subscript a b p::es) env=(false,eval (.Subscript a b p) env)::starEach es env:=rfl
theorem jM{a o b}:starEach (.BinOp a o b p::es) env=(false,eval (.BinOp a o b p) env)::starEach es env:=rfl
end
section
variable{X:Cx}{pos:Pos}{a b tg:Expr}{f g:ME}
noncomputable def WS:MS:=fun _=>none
theorem p7{st:Stmt}:DS X st WS:=fun _ _ _ _ _ _ q=>by
 obtain⟨O0,r,fl,hR,e,q⟩:=q
 cases e
theorem mI{x:Str}{i:Int}(h:∃t,X.mg x=some (.int i t))(hg:Gl X x)(hd:(x == ("__debug__" : Str))=false:=by decide):DE X (.Name x pos) (mC (.int i)):=by
 obtain⟨t,h⟩:=h
 exact mJ (YN (v:=.int i) hg h ⟨t,rfl⟩ hd) fun O H=>by rw[Is.int_iff]
theorem pS{K:Fg}{O:Addr->Prop}{H:Hp}:∀ss:List (List Nat),IsL K O H (ss.map D.str) (ss.map fun s=>V.str ⟨s.toArray⟩)
 |[]=>IsL.nil
 |s::ss=>.cons (by rw[Is.str_iff]) (pS ss)
theorem JE{Ps:Params}{x:Str}{tbl:List (List Nat×List Nat)}{pins:List (Addr×Obj)}{σ:St}{H:Hp}{s:Shared}{p:Addr}{es:Array DictEntry}{n:Nat}(I:Inv X pins σ H s)(hl:X.K.lookup p=some ⟨.type "dict",none,.dict es n,#[]⟩)(hk:PySem.W.KeysLit X.w.params es.toList):s.heap.MapOf (strKind X.prog X.w) p (fun k=>findBy Value.isStrOf es k):=PySem.W.mapOf_K (I.mod.kin.keeps I.bk) hl hk
theorem b7(es:Array DictEntry)(k:Str):findBy Value.isStrOf es k=(es.toList.find? fun d=>Value.isStrOf k d.key).map (·.val):=by
 obtain⟨l⟩:=es
 unfold findBy
 rw[List.find?_toArray]
theorem XW{x:Str}{p:Addr}(h:X.mg x=some (.ref p))(hg:Gl X x)(hd:(x == ("__debug__" : Str))=false:=by decide):DE X (.Name x pos) (mC (.ref p)):=
 mJ (YN (v:=.ref p) hg h rfl hd) fun O H=>by rw[Is.ref_iff]
end
open Builtin.Str
section
variable{X:Cx}{pos pn apos cpos:Pos}{a b e:Expr}{f g:ME}
noncomputable def bZ:D->Option D
 |.bl b=>some (.int (if b then 1 else 0))
 |_=>none
theorem Z0:CallR X (.type "int") (fun xs H Q=>∃b:Bool,xs=[.bl b]/\Q (.int (if b then 1 else 0)) H):=by
 intro pins s σ H xs us Q I r hq
 obtain⟨y,rfl,q⟩:=hq
 obtain⟨u,rfl,ru⟩:=Vals.one r
 obtain rfl:u=.bool y:=ru
 exact call_int_bool ⟨.int _,H,I.tok _,⟨_,rfl⟩,q⟩
theorem mH{p':Pos}(hg:Gl X "int")(hm:X.mg "int" = none)(ha:DE X a f)(hs:starEach [a] X.env=(false,eval a X.env)::starEach [] X.env:=by rfl):DE X (.Call (.Name "int" p') [a] [] pos) (mUn bZ f):=by
 refine PE.conseq (kI Z0 hg hm PyProof.Rows.boot_int (yD ha xH hs) (he:=hs)) fun σ H Q hq=>?_
 obtain⟨O0,r,d,hR,e,q⟩:=hq
 obtain⟨x,e1,e2⟩:=bind_some e
 refine⟨O0,r,x,hR,e1,fun v H1 s1 i1=>?_⟩
 cases x<;>first|(simp only[bZ,reduceCtorEq] at e2;done)|skip
 cases e2
 rw[Is.bl_iff] at i1
 exact⟨_,by rw[i1],q _ H1 s1 (by rw[Is.int_iff])⟩
end
theorem zCG{K:Fg}{fl:ML}{i:Nat}{σ:St}{H:Hp}{Dn:Ends}(h:lS K (xE i (qI fl)) Dn σ H):lF K fl σ H (fun v H1=>ZL i v σ H1 Dn.nx):=by
 obtain⟨O0,r,fl',hR,e,q⟩:=h
 obtain⟨d,e1,e2⟩:=bind_some e
 obtain⟨r',e3,rfl⟩:=map_some e2
 obtain⟨l,e4,rfl⟩:=map_some e1
 obtain⟨hl,np,rfl⟩:=qH e3
 refine⟨O0,r,l,hR,e4,fun p xs H1 s1 n1 e5 i1=>?_⟩
 have ol:qV (fun b=>Ow O0 r σ b\/b=p) H1:=fun b z=>z.elim (fun z=>(hR.same s1).ol b z) fun z=>by subst z;exact⟨.lst xs,e5,trivial⟩
 have iv:Is K (Ow O0 r σ) H1 (.lst l) (.ref p):=by
  rw[Is.lst_iff]
  exact⟨p,xs,rfl,.inl ⟨hR.nofresh n1,.inl e5⟩,IsL.mono (Same.kp (Same.refl H1) _) ol (fun a z _=>.inl z) l xs i1⟩
 obtain⟨R1,k1⟩:=(hR.same s1).setv hl np iv
 exact q _ H1 R1 ((Kp.of_same r σ s1).trans k1)
section
variable{X:Cx}{pos spos py:Pos}{elt tg iter:Expr}{it:ML}{bd:D->En->Option En}{c:MB}{x:ME}{cap:List Nat}{N':List Str}{scope:Scope}
theorem ZN(i:Nat){y:Str}{ce:Expr}(hc:X.calm=true)(o:CmpOk X N' cap scope)(hi:DI X tg iter it)(hg:∀C fp s H,DG (cxC X N' scope C fp s H) tg bd)(ht:∀C fp s H,DT (cxC X N' scope C fp s H) ce c)(he:∀C fp s H,DE (cxC X N' scope C fp s H) elt x)(n:Nat)(hN:X.N.Nodup)(hn:N'.length=n:=by rfl)(hy:X.N[i]?=some y:=by rfl)(hx:Loc X.env.scope y:=by first|exact Or.inl rfl|exact Or.inr rfl)(hf:X.fn y=true\/X.env.scope.names.lookup y=some .local:=by first|exact .inl rfl|exact .inr rfl)(hsw:swapsWith (.ListComp elt [⟨tg,iter,[ce],0⟩] scope pos) (some (.Name y py)) spos.line X.env=pure true:=by rfl)(hs:∀x,foldedSetIterable iter X.env x=pure x:=by intro _;rfl):DS X (.Assign [.Name y py] (.ListComp elt [⟨tg,iter,[ce],0⟩] scope pos) spos) (xE i (qI (xZ cap n it bd c x))):=by
 subst hn
 exact PS.conseq (W1 (i:=i) (g:=lG X.K bd) (te:=lE X.K x) (tc:=some (lT X.K c)) hc o hi hg ⟨ce,rfl,ht⟩ he hN hy hx hf hsw hs) fun Dn σ H h=>u6 (tc:=some (lT X.K c)) (fun z=>z) N'.length (zCG h)
end
end DD
namespace TS
open PySem PyProof.Rows
open PySem PyProof.Rows
open PySem PyProof.Rows
open PySem PyProof.Rows
open PySem PyProof.Rows
open PySem PyProof.Rows
open PySem PyProof.Rows
open PySem PyProof.Rows
open PySem PyProof.Rows
open PySem PyProof.Rows PySem.W
end TS
namespace DD
open PySem PySem.Spec PyProof.Rows L2
noncomputable def ltA:D->D->Option D
 |.int i,.int j=>some (.bl (decide (i<j)))
 |.str s,.str t=>some (.bl (decide (s<t)))
 |_,_=>none
section
variable{X:Cx}
theorem zGI:OpR X (compareOp .Lt) (fun x y H Q=>∃i j,x=.str i/\y=.str j/\Q (.bl (decide (i.cps.toList<j.cps.toList))) H):=by
 intro pins s σ H x y v u Q I rx ry hq
 obtain⟨i,j,rfl,rfl,q⟩:=hq
 obtain⟨t,rfl⟩:=rx
 obtain⟨t',rfl⟩:=ry
 exact PySem.P.lt_str ⟨.bl _,H,I,rfl,q⟩
noncomputable def zK2:R2:=fun x y H Q=>rI0 (fun i j=>.bl (decide (i<j))) x y H Q\/∃i j,x=.str i/\y=.str j/\Q (.bl (decide (i.cps.toList<j.cps.toList))) H
theorem tP:OpR X (compareOp .Lt) zK2:=op_lt.or zGI
theorem tV{K:Fg}:OpD K zK2 ltA:=by
 intro O H dx dy d vx vy Q ol ix iy e q
 cases dx<;>cases dy<;>first|(simp only[ltA,reduceCtorEq] at e;done)|skip
 ·simp only[ltA,Option.some.injEq] at e
  subst e
  rw[Is.int_iff] at ix iy
  exact .inl ⟨_,_,ix,iy,q _ H (Same.refl H) (by rw[Is.bl_iff])⟩
 ·simp only[ltA,Option.some.injEq] at e
  subst e
  rw[Is.str_iff] at ix iy
  exact .inr ⟨_,_,ix,iy,q _ H (Same.refl H) (by rw[Is.bl_iff])⟩
end
mutual
noncomputable def toP:D->PyData
 |.non=>.none
 |.bl b=>.bool b
 |.int i=>.int i
 |.str s=>.str ⟨s.toArray⟩
 |.tup l=>.tuple (nB l)
 |.lst l=>.list (nB l)
 |.ty _=>.none
 |.ref _=>.none
 |.dct _ _=>.none
noncomputable def nB:List D->List PyData
 |[]=>[]
 |d::l=>toP d::nB l
end
mutual
noncomputable def okD:D->Bool
 |.tup l=>zCD l
 |.lst l=>zCD l
 |.ty _=>false
 |.ref _=>false
 |.dct _ _=>false
 |_=>true
noncomputable def zCD:List D->Bool
 |[]=>true
 |d::l=>okD d && zCD l
end
section
variable{X:Cx}{pins:List (Addr×Obj)}{σ:St}{H:Hp}{s:Shared}{O:Addr->Prop}
mutual
theorem kZ(I:Inv X pins σ H s):∀(d:D) (v:V) (u:Value),okD d=true->Is X.K O H d v->RelV v u->∃as,Reads s.heap u (toP d) as
 |.non,v,u,_,h,r=>by rw[Is.non_iff] at h;subst h;cases r;exact⟨_,.none⟩
 |.bl b,v,u,_,h,r=>by rw[Is.bl_iff] at h;subst h;cases r;exact⟨_,.bool b⟩
 |.int i,v,u,_,h,r=>by rw[Is.int_iff] at h;subst h;obtain⟨t,rfl⟩:=r;exact⟨_,.int i t⟩
 |.str x,v,u,_,h,r=>by rw[Is.str_iff] at h;subst h;obtain⟨t,rfl⟩:=r;exact⟨_,.str _ t⟩
 |.ty n,v,u,o,_,_=>by simp[okD] at o
 |.ref a,v,u,o,_,_=>by simp[okD] at o
 |.dct ks l,v,u,o,_,_=>by simp[okD] at o
 |.tup l,v,u,o,h,r=>by
  rw[Is.tup_iff] at h
  obtain⟨a,xs,rfl,sq,il⟩:=h
  cases r
  obtain⟨its,rv,⟨ob,e,c,n,dt⟩,_⟩:=I.tuple sq
  obtain⟨as,q⟩:=kH I l xs its (by simpa [okD] using o) il rv
  exact⟨_,.tuple e c dt (by simpa using q)⟩
 |.lst l,v,u,o,h,r=>by
  rw[Is.lst_iff] at h
  obtain⟨a,xs,rfl,sq,il⟩:=h
  cases r
  obtain⟨its,rv,⟨ob,n,e,c,_,dt⟩,_⟩:=I.list sq.sq
  obtain⟨as,q⟩:=kH I l xs its (by simpa [okD] using o) il rv
  exact⟨_,.list e c dt (by simpa using q)⟩
theorem kH(I:Inv X pins σ H s):∀(l:List D) (vs:List V) (us:List Value),zCD l=true->IsL X.K O H l vs->Vals vs us->∃as,ReadsAll s.heap us (nB l) as
 |[],vs,us,_,h,r=>by unfold IsL at h;subst h;cases r;exact⟨_,.nil⟩
 |d::l,vs,us,o,h,r=>by
  unfold IsL at h
  obtain⟨v,vr,rfl,h1,h2⟩:=h
  simp only[zCD,Bool.and_eq_true] at o
  cases r with
  |cons r1 r2=>
   obtain⟨as,q1⟩:=kZ I d v _ o.1 h1 r1
   obtain⟨bs,q2⟩:=kH I l vr _ o.2 h2 r2
   exact⟨_,.cons q1 q2⟩
end
end
section
variable{X:Cx}
theorem un2{k:Nat}{A:Around}(r:Room k A):A.units+200<cLine:=by have:=r.un;omega
end
noncomputable def fre:Sl->Prop
 |.un=>True
 |.v _=>True
 |_=>False
theorem zY{i:Nat}{d:D}{r:En}{x:Sl}(e:r[i]?=some x)(h:fre x):yQ i d r=some (r.set i (.v d)):=by
 unfold yQ
 rw[e]
 cases x<;>first|rfl|cases h
theorem zF7{i:Nat}{r:En}{S:List D}{d:D}(e:r[i]?=some (.o (S++[d]))):zEP i r=some (d,r.set i (.o S)):=by
 simp[zEP,zCN,e,Sl.ml,W0]
theorem oM{i:Nat}{f:ME}{r:En}{S:List D}{d:D}(e:r[i]?=some (.o S))(e2:f r=some d)(h:S.length<sizeLine):t8 i f r=some (.non,r.set i (.o (S++[d]))):=by
 simp[t8,zCN,e,Sl.ml,W0,e2,h]
theorem dX{i:Nat}{r:En}{d:D}(e:r[i]?=some (.v d)):zD i r=some d:=by
 unfold zD;rw[e]
theorem yH{g h:MS}{r r':En}(e:g r=some (.nx r')):z8 g h r=h r':=by
 unfold z8;rw[e];rfl
theorem zFR{g h:MS}{r r':En}{d:D}(e:g r=some (.rt d r')):z8 g h r=some (.rt d r'):=by
 unfold z8;rw[e];rfl
theorem tF{f:En->Option (D×En)}{r r':En}{d:D}(e:f r=some (d,r')):sX f r=some (.nx r'):=by
 unfold sX;rw[e];rfl
theorem wL{i:Nat}{f:ME}{r r2:En}{d:D}(e:f r=some d)(e2:yQ i d r=some r2):xE i f r=some (.nx r2):=by
 unfold xE;rw[e];show(yQ i d r).map Fl.nx=_;rw[e2];rfl
theorem mW{c:MB}{g h:MS}{r:En}(e:c r=some true):sIf c g h r=g r:=by
 unfold sIf;rw[e];rfl
theorem YE{c:MB}{g h:MS}{r:En}(e:c r=some false):sIf c g h r=h r:=by
 unfold sIf;rw[e];rfl
theorem oO{n:Nat}{c:MB}{g:MS}{r r':En}(h:c r=some true)(e:g r=some (.nx r')):j3 (n+1) c g r=j3 n c g r':=by
 show(c r).bind _=_
 rw[h,Option.bind_some,if_pos rfl,e,Option.bind_some]
theorem dW{n:Nat}{c:MB}{g:MS}{r:En}(h:c r=some false):j3 (n+1) c g r=some (.nx r):=by
 show(c r).bind _=_
 rw[h,Option.bind_some,if_neg (by simp)]
theorem mT{α:Type}(x:α)(l:List α):atI (x::l) 0=some x:=xG (j:=0) rfl
theorem cU{bd:D->En->Option En}{g:MS}{d:D}{l:List D}{r r1 r':En}(h:bd d r=some r1)(e:g r1=some (.nx r')):Z4 bd g (d::l) r=Z4 bd g l r':=by
 show(bd d r).bind _=_
 rw[h,Option.bind_some,e,Option.bind_some]
section
variable{f g:ME}{fl gl:ML}{r:En}{x y d:D}{i j:Int}
theorem zV{m:D->D->Option D}(e1:f r=some x)(e2:g r=some y)(e:m x y=some d):zG m f g r=some d:=by
 unfold zG;rw[e1,Option.bind_some,e2];exact e
theorem bG{m:D->Option D}(e1:f r=some x)(e:m x=some d):mUn m f r=some d:=by
 unfold mUn;rw[e1];exact e
theorem xQ(e1:f r=some (.int i))(e2:g r=some (.int j)):zG wI f g r=some (.int (i+j)):=zV e1 e2 rfl
theorem xP(e1:f r=some (.int i))(e2:g r=some (.int j))(h:0<j):zG xX f g r=some (.int (i % j)):=zV e1 e2 (if_pos h)
theorem cP(e1:f r=some (.int i))(e2:g r=some (.int j))(h : -(2 ^ 64)<i/\i<2 ^ 64):zG vL f g r=some (.int (i*j)):=zV e1 e2 (if_pos (.inl h))
theorem wH(e1:f r=some (.int i))(e2:g r=some (.int j))(h:0<j/\j<1073741824):zG xV f g r=some (.int (i / j)):=zV e1 e2 (if_pos h)
theorem zI:mC d r=some d:=rfl
theorem zF{l:List D}(e1:f r=some x)(e2:fl r=some l):zA f fl r=some (x::l):=by
 unfold zA;rw[e1,Option.bind_some,e2];rfl
theorem zT:zQ r=some []:=rfl
theorem Y2{l:List D}(e:fl r=some l)(h:l.length<=100):qI (xB fl) r=some (.lst l):=by
 unfold qI xB;rw[e,Option.bind_some,if_pos (Nat.le_trans h (by decide))];rfl
theorem yT{l:List D}(e:fl r=some l)(h:l.length<=100):yW fl r=some (.tup l):=by
 unfold yW;rw[e,Option.bind_some,if_pos (Nat.le_trans h (by decide))]
theorem xL{n:Nat}{m:MF}{l:List D}{p:Rs}(e:fl r=some l)(hl:l.length=n)(h:∃as,m (l.map .v)=some (p,as)):yI n m fl r=some (rsD p):=by
 obtain⟨as,h⟩:=h
 unfold yI;rw[e,Option.bind_some,if_pos hl,h];rfl
theorem kW{b:Bool}(e:f r=some (.bl b)):mBl f r=some b:=by
 unfold mBl;rw[e];rfl
theorem j4(e:f r=some d):jL f r=some (.rt d r):=by
 unfold jL;rw[e];rfl
theorem zZ{k:Nat}{h:MS}{r2:En}{z:Option Fl}(d:D)(e:f r=some d)(e2:yQ k d r=some r2)(q:h r2=z):z8 (xE k f) h r=z:=by
 rw[yH (wL e e2)];exact q
theorem j0{c:MB}{a h:MS}{z:Option Fl}(e:c r=some false)(q:h r=z):z8 (sIf c a xY) h r=z:=by
 rw[yH (r':=r) (by rw[YE e];rfl)];exact q
theorem WJ{c:MB}{a h:MS}{r':En}(e:c r=some true)(q:a r=some (.rt d r')):z8 (sIf c a xY) h r=some (.rt d r'):=zFR (by rw[mW e];exact q)
theorem kN{n N:Nat}{s:MS}{as:List Sl}{r':En}(e:s (as++List.replicate (N-n) .un)=some (.rt d r')):∃bs,mkF n N s as=some (.v d,bs):=by
 unfold mkF;rw[e];exact⟨_,rfl⟩
end
theorem d9{s t:List Nat}(h:s.length+t.length<=100):wI (.str s) (.str t)=some (.str (s++t)):=if_pos (Nat.le_trans h (by decide))
theorem zEW{f:ME}{lo hi:MO}{r:En}{x d:D}{a b:Option Int}(e1:f r=some x)(e2:lo r=some a)(e3:hi r=some b)(e:slD x a b=some d):mSl f lo hi r=some d:=by
 unfold mSl;rw[e1,Option.bind_some,e2,Option.bind_some,e3];exact e
theorem zGM{g:ME}{r:En}{i:Int}(e:g r=some (.int i)):mUn zH2 g r=some (.int (-i)):=bG e rfl
theorem vA{g:ME}{r:En}{i:Int}(e:g r=some (.int i)):kJ g r=some (some i):=by
 unfold kJ;rw[e];rfl
theorem zH6{f g:ME}{r:En}{i j:Int}(e1:f r=some (.int i))(e2:g r=some (.int j)):mBl (zG gtD f g) r=some (decide (j<i)):=kW (zV e1 e2 rfl)
theorem zC5{l m:List D}(h:l.length+m.length<=100000):wI (.lst l) (.lst m)=some (.lst (l++m)):=if_pos (Nat.le_trans h (by decide))
theorem X0{α:Type}(s:List α)(i k:Nat):oH s (some (i:Int)) (some (k:Int))=(s.take k).drop i:=by
 unfold oH
 rw[HT.sIx_nat,HT.sIx_nat,List.drop_take]
 by_cases h:i<=s.length
 ·rw[Nat.min_eq_left h,List.take_eq_take_iff,List.length_drop]
  rw[Nat.sub_min_sub_right,Nat.sub_min_sub_right,Nat.min_assoc,Nat.min_self]
 ·have e1:s.drop (min i s.length)=[]:=List.drop_of_length_le (by omega)
  have e2:s.drop i=[]:=List.drop_of_length_le (by omega)
  rw[e1,e2];simp
theorem zBK{f:ME}{r:En}{n:Nat}(e:f r=some (.int (n:Int)))(h:n<1000):YY f r=some ((List.range n).map fun k=>.int ((0:Int)+(k:Nat))):=by
 have h1 : -(2 ^ 62:Int)<=(n:Int)/\(n:Int)<2 ^ 62:=by constructor<;>omega
 have h2:DD.intD (.int (n:Int))=some (n:Int):=by unfold DD.intD;rfl
 unfold YY
 rw[e,Option.bind_some,h2,Option.bind_some,if_pos h1,Int.toNat_natCast]
 unfold zHP;rfl
theorem zLY{f g:ME}{r:En}{l m:List D}(e1:f r=some (.lst l))(e2:g r=some (.lst m))(h:l.length+m.length<=100000):zG wI f g r=some (.lst (l++m)):=zV e1 e2 (zC5 h)
theorem bdP{i j:Nat}{a b:D}{r r1 r2:En}(h1:yQ i a r=some r1)(h2:yQ j b r1=some r2):wY 2 (zX (yQ i) (zX (yQ j) qF)) (.tup [a,b]) r=some r2:=by
 show((yQ i a r).bind fun z=>(yQ j b z).bind fun y=>some y)=_
 rw[h1,Option.bind_some,h2];rfl
noncomputable def ItB(K:Fg)(a:Addr)(n:Nat):It:=
 ⟨fun i H=>∃xs x,SqL K H a xs/\xs.length=n/\i<n/\xs[n-1-i]?=some x,fun i H x H'=>H'=H/\∀xs,SqL K H a xs->xs[n-1-i]?=some x,fun i _=>i=n⟩
theorem rX{P:Program}{w:World}{K:Fg}{tg:Expr}(a it:Addr)(n:Nat):Turn P w K tg (ItB K a n) [it] it (fun i h=>h.IsRevIter it a ((n:Int)-1-(i:Int))) where
 mem:=by simp
 obj:=fun i h st b hb=>by
  have e:b=it:=by simpa using hb
  subst e
  obtain⟨o,e,c,d⟩:=st
  exact⟨o,e,fun v z=>by rw[d] at z;cases z⟩
 keep:=fun i h h' st k=>st.at fun o e=>k it (by simp) o e
 item:=by
  intro X hP hw hK hc i pins s σ H E I hf st hg
  subst hP hw hK
  obtain⟨xs,x,hq,hn,hi,hx⟩:=hg
  obtain⟨its,rv,p,hz⟩:=I.list hq
  obtain⟨u,hu,ru⟩:=rv.get hx
  obtain⟨f0,f1,f2,f3,f4,f5⟩:=hf it (by simp)
  have e1:(n:Int)-1-(i:Int)=((n-1-i:Nat):Int):=by clear st hu hx hq hn rv p;omega
  rw[e1] at st
  refine wpAny_pyNext_rev_item st p.isList (x:=u) (by simpa using hu) fun h' st' sb=>?_
  have e2:((n-1-i:Nat):Int)-1=(n:Int)-1-((i+1:Nat):Int):=by clear st st' hu hx hq hn rv p;omega
  rw[e2] at st'
  have I1:Inv X pins σ H { s with heap:=h' }:=I.turned (t':=s.toks) (fun b o hb e=>(sb.2 b hb).trans e) f0 f1 f3 f4 f5
  obtain⟨o,e,c,d⟩:=id st'
  exact⟨u,rfl,J6 (s:={ s with heap:=h' }) e c d (by decide) ⟨x,H,I1,ru,⟨rfl,fun ys hy=>by rw[I.list_inj hy hq];exact hx⟩,st',fun b hb=>(hf b hb).1⟩⟩
 done:=by
  intro X hP hw hK hc i pins s σ H E I hf st hg
  subst hP hw hK
  obtain rfl:i=n:=hg
  obtain⟨f0,f1,f2,f3,f4,f5⟩:=hf it (by simp)
  have e1:(i:Int)-1-(i:Int)=-1:=by clear st;omega
  rw[e1] at st
  exact wpAny_pyNext_rev_end (I.ok.hd hc) st fun h' eb=>⟨rfl,I.turned (t':=s.toks) (fun b o hb e=>eb b o hb e) f0 f1 f3 f4 f5⟩
 self:=fun _ _ _ _ _ st h=>wpAny_pyIter_revIter st h
section
variable{X:Cx}{a tg:Expr}{f:ME}{p pos:Pos}
theorem zAO{K:Fg}{O M:Addr->Prop}(mo:∀a,M a->O a){H:Hp}{a:Addr}{xs:List V}{ds:List D}(ol:qV O H)(rd:∀H1,dB M H H1->SqL K H1 a xs)(il:IsL K O H ds xs):zHI K O M H (ItB K a xs.length) ds.reverse:=by
 intro i H1 O' kp oo
 have kp':dB O H H1:=fun b o e n=>kp b o e fun z=>n (mo b z)
 have rd1:SqL K H1 a xs:=rd H1 kp
 have ll:=il.length
 have bk:∀d,ds.reverse[i]?=some d->i<xs.length/\ds[xs.length-1-i]?=some d:=fun d e=>by
  have hi:i<ds.length:=by
   obtain⟨h,_⟩:=List.getElem?_eq_some_iff.mp e
   rw[List.length_reverse] at h;exact h
  rw[List.getElem?_reverse hi,ll] at e
  exact⟨ll ▸ hi,e⟩
 refine⟨fun hi=>⟨?_,fun x H' y=>?_⟩,fun hi=>by rw[List.length_reverse,ll] at hi;exact hi⟩
 ·obtain⟨d,e⟩:=jG hi
  obtain⟨hi',e'⟩:=bk d e
  obtain⟨v,e1,_⟩:=il.get e'
  exact⟨xs,v,rd1,rfl,hi',e1⟩
 ·obtain⟨rfl,y⟩:=y
  refine⟨Same.refl _,fun d e=>?_⟩
  obtain⟨hi',e'⟩:=bk d e
  obtain⟨v,e1,q⟩:=il.get e'
  have:=y xs rd1
  rw[e1] at this;cases this
  exact Is.mono kp' ol oo _ _ q
theorem zBZ{ta:TE}(hg:Gl X "reversed")(hm:X.mg "reversed" = none)(ha:PE X a ta)(hs:starEach [a] X.env=[(false,eval a X.env)]:=by rfl):PI X tg (.Call (.Name "reversed" p) [a] [] pos) (fun σ H R=>ta σ H fun x H1=>∃u xs,x=.ref u/\SqL X.K H1 u xs/\R (ItB X.K u xs.length) H1):=by
 intro pins s σ H R I h
 have hA:PA X [a] (Z8 ta zEU):=yD ha xH (by rw[hs];rfl)
 refine Call_ (cT I hg hm PyProof.Rows.boot_reversed (PyProof.Rows.callWith_type1 (thn (hA pos pins s σ H (z1 fun x H1=>∃u xs,x=.ref u/\SqL X.K H1 u xs/\R (ItB X.K u xs.length) H1) I h) fun us s1 ⟨vs,H1,I1,r1,q1⟩=>?_) hs rfl))
 obtain⟨_,rfl,u,xs,rfl,hx,q⟩:=X6 q1
 obtain⟨uu,rfl,ru⟩:=Vals.one r1
 cases ru
 obtain⟨its,rv,pl,_⟩:=I1.list hx
 have hl:its.toArray.size=xs.length:=by rw[List.size_toArray];exact rv.length.symm
 have z1:(s1.heap.push (revObj u ((its.toArray.size:Int)-1))).IsRevIter s1.heap.objs.size u ((its.toArray.size:Int)-1):=⟨_,Heap.get?_push_size _ rfl,rfl,rfl⟩
 refine call_reversed_list pl.isList (wpAny_pyIter_revIter z1 ?_)
 refine⟨_,[s1.heap.objs.size],_,_,H1,rfl,I1.kept (t':=s1.toks) (fun b o e=>Heap.get?_push_of_some _ e),rX u _ xs.length,?_,fun b hb=>?_,q⟩
 ·rw[hl] at z1 ⊢
  rw[show((xs.length:Int)-1-((0:Nat):Int))=(xs.length:Int)-1 from Int.sub_zero _]
  exact z1
 ·have e:b=s1.heap.objs.size:=by simpa using hb
  subst e
  exact I1.fpOk (Nat.le_refl _) (I1.hok.fresh (Nat.le_refl _))
noncomputable def nW(f:ML):ML:=fun r=>(f r).map List.reverse
theorem p8{fl:ML}(hg:Gl X "reversed")(hm:X.mg "reversed" = none)(ha:DK X a fl)(hs:starEach [a] X.env=[(false,eval a X.env)]:=by rfl):DI X tg (.Call (.Name "reversed" p) [a] [] pos) (nW fl):=by
 refine PI.conseq (zBZ hg hm ha hs) fun σ H Rr hq=>?_
 obtain⟨O0,r,ds,hR,e,q⟩:=hq
 obtain⟨l,e1,rfl⟩:=map_some e
 refine⟨O0,r,l,hR,e1,fun u xs H1 s1 kp il=>?_⟩
 exact⟨u,xs,rfl,kp H1 fun b o e _=>e,q _ H1 s1 (zAO (fun a z=>.inr z.own) (hR.same s1).ol kp il)⟩
end
section
variable{X:Cx}{pos p2:Pos}{a b:Expr}{f g:ME}
theorem pU{K:Fg}{O:Addr->Prop}{H:Hp}{l:List D}{xs ys:List V}{p:Addr}(ol:qV O H)(hp:H p=none)(h:IsL K O H l xs):IsL K (fun b=>O b\/b=p) (upd H p (.lst ys)) l xs:=
 IsL.mono (Same.kp (z3 hp) _) ol (fun a z n=>z.elim id fun z=>by subst z;exact absurd hp n) _ _ h
noncomputable def zKQ(f g:ML):ML:=fun r=>(f r).bind fun l=>(g r).bind fun m=>if l.length+m.length<=sizeLine then some (l++m) else none
theorem zHF{fl gl:ML}(ha:DB X a fl)(hb:DB X b gl):DF X (.BinOp a .Add b pos) (zKQ fl gl):=by
 refine PE.conseq (zHY op_catR ha hb) fun σ H Q h=>?_
 obtain⟨O0,r,d,hR,e,q⟩:=h
 obtain⟨l,e1,e⟩:=bind_some e
 obtain⟨m,e2,e⟩:=bind_some e
 split at e
 ·rename_i hz
  cases e
  refine⟨O0,r,l,hR,e1,fun p xs H1 s1 sq il=>⟨O0,r,m,hR.same s1,e2,fun p' ys H2 s2 sq' il'=>?_⟩⟩
  refine⟨p,p',xs,ys,rfl,rfl,s2.seq sq,sq',by rw[<-il.length,<-il'.length];exact hz,fun t ht=>q t _ _ ((s1.trans s2).trans (z3 ht)) ((s1.trans s2).free ht) zN ?_⟩
  exact pU (hR.same (s1.trans s2)).ol ht ((il.same s2 (hR.same s1).ol).append il')
 ·cases e
end
noncomputable def tH(l:List (List Nat)):Prop:=l.Pairwise fun a b=>¬b<a
open Classical in
noncomputable def JZ(l:List (List Nat)):List (List Nat):=if h:∃m,m.Perm l/\tH m then h.choose else l
theorem tG{l m:List (List Nat)}(h1:tH l)(h2:tH m)(p:l.Perm m):l=m:=
 List.Perm.eq_of_pairwise (le:=fun a b=>¬b<a) (fun a b _ _ x y=>List.le_antisymm (as:=a) (bs:=b) x y) h1 h2 p
theorem zBC{l m:List (List Nat)}(p:m.Perm l)(h:tH m):m=JZ l:=by
 have ex:∃m,m.Perm l/\tH m:=⟨m,p,h⟩
 unfold JZ
 rw[dif_pos ex]
 exact tG h ex.choose_spec.2 (p.trans ex.choose_spec.1.symm)
theorem dE(l:List (List Nat)):(JZ l).length=l.length:=by
 unfold JZ
 split
 ·rename_i h;exact h.choose_spec.1.length_eq
 ·rfl
theorem bR:∀(p:Str) (l:List Str),risingS p l=true->((p::l).map fun s=>s.cps.toList).Pairwise fun a b=>¬b<a
 |p,[],_=>by simp
 |p,x::r,h=>by
  unfold risingS at h
  rw[Bool.and_eq_true] at h
  have ih:=bR x r h.2
  have hx:¬x.cps.toList<p.cps.toList:=by
   have:=h.1
   rw[ltCps_eq] at this
   simpa using this
  rw[List.map_cons,List.pairwise_cons]
  refine⟨fun b hb=>?_,ih⟩
  rw[List.map_cons,List.mem_cons] at hb
  rcases hb with rfl|hb
  ·exact hx
  ·rw[List.map_cons,List.pairwise_cons] at ih
   exact List.le_trans (l₁:=p.cps.toList) (l₂:=x.cps.toList) hx (ih.1 b hb)
theorem nD:∀(l:List Str),sortedS l=true->tH (l.map fun s=>s.cps.toList)
 |[],_=>by simp[tH]
 |x::r,h=>bR x r h
theorem kC:∀{ss:List (List Nat)} {its:List Value},Vals (ss.map fun s=>V.str ⟨s.toArray⟩) its->StrsAre its (ss.map fun s=>(⟨s.toArray⟩:Str))
 |[],_,.nil=>.nil
 |s::ss,_,.cons r t=>by
  obtain⟨u,rfl⟩:=r
  exact .cons _ _ (kC t)
theorem kB:∀{ss:List Str} {its:List Value},StrsAre its ss->Vals ((ss.map fun s=>s.cps.toList).map fun s=>V.str ⟨s.toArray⟩) its
 |_,_,.nil=>.nil
 |_,_,.cons x t h=>.cons ⟨t,by simp⟩ (kB h)
noncomputable def JS(bd:D->En->Option En)(x:En->Option (D×En)):List D->En->Option (List D×En)
 |[],r=>some ([],r)
 |d::l,r=>(bd d r).bind fun r1=>(x r1).bind fun p=>(JS bd x l p.2).map fun q=>(p.1::q.1,q.2)
noncomputable def Q3(i n:Nat)(it:ML)(bd:D->En->Option En)(x:En->Option (D×En)):En->Option (D×En):=fun r=>(it r).bind fun l=>(zCN r i).bind fun L=>if l.length<sizeLine then (JS bd x l (Sl.p L::List.replicate (n-1) Sl.un)).bind fun(q:List D×En)=>match (q.2[0]?:Option Sl) with
 |some (.p L')=>(W0 i L' r).map fun r'=>(.lst q.1,r')
 |_=>none
 else none
section
variable{X:Cx}{N':List Str}{scope:Scope}{elt tg iter:Expr}{pos:Pos}{it:ML}{bd:D->En->Option En}{x:En->Option (D×En)}{i:Nat}
theorem nK{q:Sl->Option (List D)}(hu:q .un=none){L m:List D}{k j:Nat}(e:((Sl.p L::List.replicate k Sl.un)[j]?).bind q=some m):j=0/\q (.p L)=some m:=by
 cases j with
 |zero=>exact⟨rfl,e⟩
 |succ j=>
  rw[List.getElem?_cons_succ,List.getElem?_replicate] at e
  split at e
  ·rw[Option.bind_some,hu] at e;cases e
  ·cases e
theorem R.cap1{K:Fg}{O:Addr->Prop}{H:Hp}{L:List D}{xs:List V}{a:Addr}{k:Nat}(ol:qV O H)(ha:O a)(ea:H a=some (.lst xs))(il:IsL K O H L xs):R K O H (.p L::List.replicate k .un) (some (.ref a)::List.replicate k none):=by
 have ow:∀b,Ow O (.p L::List.replicate k .un) (some (.ref a)::List.replicate k none) b->H b≠none->O b:=fun b z _=>z.elim id fun⟨j,m,ej,qj⟩=>by
  obtain⟨rfl,_⟩:=nK rfl ej
  cases qj;exact ha
 have get:∀(j:Nat) (x:Sl),(Sl.p L::List.replicate k Sl.un)[j]?=some x->(j=0/\x=.p L)\/x=.un:=fun j x e=>by
  cases j with
  |zero=>cases e;exact .inl ⟨rfl,rfl⟩
  |succ j=>
   rw[List.getElem?_cons_succ,List.getElem?_replicate] at e
   split at e
   ·cases e;exact .inr rfl
   ·cases e
 refine⟨by simp,fun j d e=>?_,fun j m e=>?_,fun j j' b m m' e1 e2 _ _=>?_,ol,fun j m b e _=>?_,fun j m b e q=>?_,fun j ks m e=>?_⟩
 ·rcases get _ _ e with⟨_,z⟩|z<;>cases z
 ·obtain⟨rfl,e2⟩:=nK rfl e
  cases e2
  exact⟨a,xs,rfl,ea,IsL.mono (Same.kp (Same.refl H) _) ol ow _ _ il⟩
 ·rw[(nK rfl e1).1,(nK rfl e2).1]
 ·rcases e with e|e|⟨_,e⟩<;>rcases get _ _ e with⟨_,z⟩|z<;>cases z
 ·rcases get _ _ e with⟨rfl,z⟩|z
  ·cases q;exact ha
  ·cases z
 ·rcases get _ _ e with⟨_,z⟩|z<;>cases z
theorem oI(hx:∀r d r',x r=some (d,r')->∀σ b,wS r' σ b->wS r σ b){σ:St}{H:Hp}{Q:VK}(h:lX X.K (Q3 i N'.length it bd x) σ H Q):zA7 [i] N'.length (lI X.K it) (lG X.K bd) none (lX X.K x) σ H Q:=by
 obtain⟨O0,r,dv,r',hR,e,q⟩:=h
 obtain⟨l,e1,e⟩:=bind_some e
 obtain⟨L,e2,e⟩:=bind_some e
 split at e
 ·rename_i hlen
  obtain⟨⟨out,rE⟩,e3,e⟩:=bind_some e
  simp only at e
  split at e
  ·rename_i L' eL
   obtain⟨r2',e4,e5⟩:=map_some e
   have hd1:D.lst out=dv:=congrArg Prod.fst e5
   have hr1:r2'=r':=congrArg Prod.snd e5
   subst hd1 hr1
   refine⟨O0,r,l,hR,e1,fun J H1 s1 yl p hp=>?_⟩
   have R1:=hR.same s1
   obtain⟨a,xs,ha,hxa,il⟩:=tY R1 e2
   have mut_a:MutAt r σ a:=⟨i,L,zGT e2,ha⟩
   have own_a:Ow O0 r σ a:=.inr mut_a.own
   have hpa:a≠p:=fun z=>by subst z;rw[hp] at hxa;cases hxa
   have hnO:¬Ow O0 r σ p:=R1.nofresh hp
   let O':Addr->Prop:=fun b=>Ow O0 r σ b\/b=p
   have ol1:qV O' (upd H1 p (.lst [])):=fun b z=>by
    by_cases hb:b=p
    ·subst hb;exact⟨_,zN,trivial⟩
    ·rw[zM hb];exact z.elim (R1.ol b) fun z=>absurd z hb
   have hsig:zAI [i] N'.length σ=some (.ref a)::List.replicate (N'.length-1) none:=by
    unfold zAI
    rw[List.map_cons,List.map_nil,ha];rfl
   rw[hsig]
   refine⟨fun k m ys σ2 H2=>m=l.length-k/\k<=l.length/\ys.length<=k/\H2 p=some (.lst ys)/\σ2[0]?=some (some (.ref a))/\(∀b u,b≠a->H1 b=some u->H2 b=some u)/\(∀b,H2 b=none->H1 b=none) /\
     ∃r2 dn rest,R X.K O' H2 r2 σ2/\(∀b,wS r2 σ2 b->b=a)/\(∃L2,r2[0]?=some (.p L2))/\IsL X.K O' H2 dn ys/\JS bd x (l.drop k) r2=some (rest,rE)/\dn++rest=out,
    ⟨l.length,by simp,Nat.zero_le _,Nat.le_refl _,zN,?_,?_,?_,_,[],out,R.cap1 (k:=N'.length-1) ol1 (.inl own_a) (by rw[zM hpa];exact hxa) (pU R1.ol hp il),?_,⟨L,rfl⟩,.nil,by simpa using e3,rfl⟩,?_⟩
   ·rfl
   ·intro b u hb eb
    rw[zM (fun z=>by subst z;rw[hp] at eb;cases eb)];exact eb
   ·intro b eb
    by_cases hb:b=p
    ·subst hb;exact hp
    ·rw[zM hb] at eb;exact eb
   ·rintro b ⟨j,m,ej,qj⟩
    obtain⟨rfl,_⟩:=nK rfl ej
    cases qj;rfl
   ·rintro k m ys σ2 H2 ⟨rfl,hkl,hyl,hp2,hs2,kp2,lv2,r2,dn,rest,R2,no2,⟨L2,eL2⟩,il2,e6,eo⟩
    refine⟨hp2,by omega,?_⟩
    have hO:∀b,Ow O' r2 σ2 b->O' b:=fun b z=>z.elim id fun z=>.inl (by rw[no2 b z];exact own_a)
    obtain⟨y1,y2⟩:=yl k H2 O' (fun b u eb nb=>kp2 b u (fun z=>nb (by rw[z];exact mut_a)) eb) fun b z nn=>z.elim id fun z=>by subst z;exact absurd hp nn
    by_cases hlt:k<l.length
    ·obtain⟨go,yd⟩:=y1 hlt
     have hd:l[k]?=some l[k]:=by simp[hlt]
     rw[kT hd] at e6
     obtain⟨r3,e7,e8⟩:=bind_some e6
     obtain⟨⟨y,r4⟩,e9,e10⟩:=bind_some e8
     obtain⟨⟨rest',rE'⟩,e11,e12⟩:=map_some e10
     have ha1:y::rest'=rest:=congrArg Prod.fst e12
     have ha2:rE'=rE:=congrArg Prod.snd e12
     subst ha1 ha2
     refine .inr ⟨go,fun v H3 yv=>?_⟩
     obtain⟨s3,iv⟩:=yd v H3 yv
     have R3:=R2.same s3
     refine⟨O',r2,l[k],r3,R3,?_,e7,fun σ4 R4 k4=>?_⟩
     ·exact Is.mono (Same.kp (Same.refl H3) _) R3.o0 (fun b z _=>hO b z) _ _ (iv _ hd)
     have hp3:=s3 _ _ hp2
     have no4:∀b,wS r3 σ4 b->b=a:=fun b z=>by
      rcases k4.new b z with z'|z'
      ·exact no2 b z'
      ·obtain⟨zs,ez,_⟩:=R4.ol b (.inr z)
       rw[z'] at ez;cases ez
     obtain⟨⟨L3,eL3⟩,hs4⟩:=k4.par 0 L2 eL2
     refine⟨O',r3,y,r4,R4,e9,fun u H6 R6 k6 iu=>?_⟩
     have nm:∀b,MutAt r3 σ4 b->b=a:=fun b z=>no4 b z.own
     have hp6:H6 p=some (.lst ys):=k6.keep p _ hp3 fun z=>hpa (nm p z).symm
     have no6:∀b,wS r4 σ4 b->b=a:=fun b z=>by
      exact no4 b (hx _ _ _ e9 σ4 b z)
     obtain⟨⟨L4,eL4⟩,_⟩:=k6.par 0 L3 eL3
     have kk:dB O' H6 (upd H6 p (.lst (ys++[u]))):=fun b' o' e' nn=>by rw[zM (fun z=>nn (.inr z))];exact e'
     have k36:dB O' H3 H6:=fun b' o' e' nn=>k6.keep b' o' e' fun z=>nn (.inl (by rw[nm b' z];exact own_a))
     refine⟨hp6,l.length-(k+1),by omega,rfl,hlt,by simp;omega,zN,by rw[hs4];exact hs2,?_,?_,r4,dn++[y],rest',?_,no6,⟨L4,eL4⟩,?_,e11,by rw[<-eo];simp⟩
     ·intro b u' hb eb
      have hbp:b≠p:=fun z=>by subst z;rw[hp] at eb;cases eb
      rw[zM hbp]
      exact k6.keep b _ (s3 _ _ (kp2 b u' hb eb)) fun z=>hb (nm b z)
     ·intro b eb
      by_cases hb:b=p
      ·subst hb;exact hp
      ·rw[zM hb] at eb
       exact lv2 b (s3.free (k6.live b eb))
     ·refine⟨R6.len,fun j d ej=>?_,fun j m ej=>?_,R6.apart,fun b' z=>?_,R6.loc,R6.par,fun j ks m ej=>?_⟩
      ·obtain⟨w,q1,q2⟩:=R6.val j d ej
       exact⟨w,q1,Is.mono (fun b' o' e' nn=>kk b' o' e' fun z=>nn (.inl z)) R6.ol (fun _ z _=>z) _ _ q2⟩
      ·obtain⟨a',xs',q1,q2,q3⟩:=R6.own j m ej
       have ha':=no6 a' ⟨j,m,qT ej,q1⟩
       exact⟨a',xs',q1,by rw[zM (by rw[ha'];exact hpa)];exact q2,IsL.mono (fun b' o' e' nn=>kk b' o' e' fun z=>nn (.inl z)) R6.ol (fun _ z _=>z) _ _ q3⟩
      ·rcases z with z|z
       ·by_cases hb:b'=p
        ·subst hb;exact⟨_,zN,trivial⟩
        ·rw[zM hb];exact R6.o0 b' (.inl z)
       ·subst z;exact⟨_,zN,trivial⟩
      ·obtain⟨a',kvs,q1,q2,q4,q3⟩:=R6.dct j ks m ej
       have ha':=no6 a' ⟨j,m,by rw[ej];rfl,q1⟩
       exact⟨a',kvs,q1,by rw[zM (by rw[ha'];exact hpa)];exact q2,q4,IsL.mono (fun b' o' e' nn=>kk b' o' e' fun z=>nn (.inl z)) R6.ol (fun _ z _=>z) _ _ q3⟩
     ·have i1:=IsL.mono k36 R3.o0 (fun _ z _=>z) _ _ (il2.same s3 R2.o0)
      have i2:Is X.K O' H6 y u:=Is.mono (Same.kp (Same.refl H6) _) R6.ol (fun a z _=>.inl z) _ _ iu
      exact IsL.mono kk R6.o0 (fun _ z _=>z) _ _ (i1.append (.cons i2 .nil))
    ·have hl:l.drop k=[]:=List.drop_eq_nil_of_le (by omega)
     rw[hl] at e6
     have e6':some ([],r2)=some (rest,rE):=e6
     cases e6'
     rw[List.append_nil] at eo
     subst eo
     obtain⟨c0,zs,q0,q1,q2⟩:=R2.own 0 L' (by rw[eL];rfl)
     rw[hs2] at q0;cases q0
     obtain⟨RE,kE⟩:=R1.put e4 ha kp2 (fun b _=>lv2 b) q1 (IsL.mono (Same.kp (Same.refl H2) _) R2.ol (fun b z _=>.inl (.inl z)) _ _ q2)
     refine .inl ⟨y2 (by omega),q _ H2 RE ((Kp.of_same r σ s1).trans kE) ?_⟩
     rw[Is.lst_iff]
     have np:∀b,Ow O0 r2' σ b->Ow O0 r σ b:=fun b z=>z.imp id fun z=>YQ e4 z
     exact⟨p,ys,rfl,.inl ⟨fun z=>hnO (np p z),.inl hp2⟩,IsL.mono (Same.kp (Same.refl H2) _) R2.o0 (fun b z _=>.inl (np b z)) _ _ il2⟩
  ·cases e
 ·cases e
theorem JJ(hc:X.calm=true)(o:CmpOk X N' [i] scope)(hi:DI X tg iter it)(hg:∀C fp s H,DG (cxC X N' scope C fp s H) tg bd)(he:∀C fp s H,DX (cxC X N' scope C fp s H) elt x)(hx:∀r d r',x r=some (d,r')->∀σ b,wS r' σ b->wS r σ b)(n:Nat)(hn:N'.length=n:=by rfl)(hs:∀x,foldedSetIterable iter X.env x=pure x:=by intro _;rfl):DX X (.ListComp elt [⟨tg,iter,[],0⟩] scope pos) (Q3 i n it bd x):=by
 subst hn
 exact PE.conseq (uJ (g:=lG X.K bd) (te:=lX X.K x) (tc:=none) hc o hi hg rfl he hs) fun σ H Q h=>oI hx h
theorem zBU{j:Nat}:∀r d r',zEP j r=some (d,r')->∀σ b,wS r' σ b->wS r σ b:=fun r d r' e σ b h=>by
 obtain⟨l,_,e⟩:=bind_some e
 obtain⟨d',_,e⟩:=bind_some e
 obtain⟨r2,e3,e4⟩:=map_some e
 have:r2=r':=congrArg Prod.snd e4
 subst this
 exact YQ e3 h
end
section
variable{X:Cx}{a:Expr}{es:List Expr}{f:ME}{pos p:Pos}
noncomputable abbrev MXA:=En->Option (List D×En)
noncomputable def lXA(K:Fg)(f:MXA):TA:=fun σ H Q=>∃O0 r l r',R K O0 H r σ/\f r=some (l,r')/\∀vs H',R K O0 H' r' σ->Kp H r σ H' r' σ->IsL K (Ow O0 r' σ) H' l vs->Q vs H'
noncomputable def DXA(X:Cx)(es:List Expr)(f:MXA):Prop:=PA X es (lXA X.K f)
noncomputable def dU(fx:En->Option (D×En)):MXA:=fun r=>(fx r).map fun p=>([p.1],p.2)
noncomputable def kA(f:ME)(z:MXA):MXA:=fun r=>(f r).bind fun d=>(z r).map fun q=>(d::q.1,q.2)
theorem p0{fx:En->Option (D×En)}(ha:DX X a fx)(hs:starEach [a] X.env=(false,eval a X.env)::starEach [] X.env:=by rfl):DXA X [a] (dU fx):=by
 refine PA.conseq (yD ha xH hs) fun σ H Q hq=>?_
 obtain⟨O0,r,l,r',hR,e,q⟩:=hq
 obtain⟨⟨d,r1⟩,e1,e2⟩:=map_some e
 cases e2
 exact⟨O0,r,d,r1,hR,e1,fun v H1 R1 k1 i1=>q [v] H1 R1 k1 (.cons i1 .nil)⟩
theorem Is.kp{K:Fg}{O0:Addr->Prop}{H H':Hp}{r r':En}{σ σ':St}{d:D}{v:V}(hR:R K O0 H r σ)(k:Kp H r σ H' r' σ')(h:Is K (Ow O0 r σ) H d v):Is K (Ow O0 r' σ') H' d v:=
 Is.mono (fun b o e nn=>k.keep b o e fun z=>nn (.inr z.own)) hR.ol (fun b z n=>z.imp id fun z=>(k.new b z).elim id fun z=>absurd z n) _ _ h
theorem dN{z:MXA}(ha:DE X a f)(hr:DXA X es z)(hs:starEach (a::es) X.env=(false,eval a X.env)::starEach es X.env:=by rfl):DXA X (a::es) (kA f z):=by
 refine PA.conseq (yD ha hr hs) fun σ H Q hq=>?_
 obtain⟨O0,r,l,r',hR,e,q⟩:=hq
 obtain⟨d,e1,e⟩:=bind_some e
 obtain⟨⟨l',r1⟩,e2,e3⟩:=map_some e
 cases e3
 refine⟨O0,r,d,hR,e1,fun v H1 s1 i1=>⟨O0,r,l',r1,hR.same s1,e2,fun vs H2 R2 k2 i2=>q (v::vs) H2 R2 ((Kp.of_same r σ s1).trans k2) (.cons (Is.kp (hR.same s1) k2 i1) i2)⟩⟩
noncomputable def vS(n:Nat)(m:MF)(z:MXA):En->Option (D×En):=fun r=>(z r).bind fun q=>if q.1.length=n then (m (q.1.map .v)).map fun p=>(rsD p.1,q.2) else none
theorem p5{k n:Nat}{fa:Addr}{fd:FuncData}{ps:List Str}{m:MF}{x:Str}{z:MXA}(F:FnOk X.prog X.w X.K X.mg X.base CX0 k fa fd ps (spD X.K n m))(hr:Room k X.A)(hg:Gl X x)(hm:X.mg x=some (.ref fa))(hk:PySem.W.keepIn X.K (.ref fa)=true)(hb:Binds X.K fd ps [])(ha:DXA X (a::es) z)(hdb:(x == ("__debug__" : Str))=false:=by decide)(he:starEach (a::es) X.env=(false,eval a X.env)::starEach es X.env:=by rfl)(hpl:(backTo pos (starEach es X.env)).any (·.1)=false:=by rfl):DX X (.Call (.Name x p) (a::es) [] pos) (vS n m z):=by
 refine PE.conseq (vR (E:=fun _ _ _=>False) (dvs:=[]) F hr hg hm hk hb .nil cZ ha hdb he hpl) fun σ H Q h=>?_
 obtain⟨O0,r,d,r',hR,e,q⟩:=h
 obtain⟨⟨ds,r1⟩,e1,e2⟩:=bind_some e
 split at e2
 ·rename_i hl
  obtain⟨⟨rs,as'⟩,e3,e4⟩:=map_some e2
  have h1:rsD rs=d:=congrArg Prod.fst e4
  have h2:r1=r':=congrArg Prod.snd e4
  subst h1 h2
  refine⟨O0,r,ds,r1,hR,e1,fun vs H1 R1 k1 il=>bN R1 (Same.refl H1) il hl e3 ?_⟩
  have go:∀{H2:Hp},Same H1 H2->R X.K O0 H2 r1 σ/\Kp H r σ H2 r1 σ:=fun s=>⟨R1.same s,k1.trans (Kp.of_same r1 σ s)⟩
  cases rs with
  |v d=>exact fun v H2 pf iv=>q v H2 (go pf.same).1 (go pf.same).2 iv
  |f l=>
   refine fun a xs H2 pf na ea il2=>q _ H2 (go pf.same).1 (go pf.same).2 ?_
   have olp:qV (fun b=>Ow O0 r1 σ b\/b=a) H2:=fun b z=>z.elim (fun z=>(R1.same pf.same).ol b z) fun z=>by subst z;exact⟨.lst xs,ea,trivial⟩
   show Is X.K (Ow O0 r1 σ) H2 (.lst l) (.ref a)
   rw[Is.lst_iff]
   exact⟨a,xs,rfl,.inl ⟨R1.nofresh na,.inl ea⟩,IsL.mono (Same.kp (Same.refl H2) _) olp (fun _ z _=>.inl z) _ _ il2⟩
  |g ks l=>
   refine fun a kvs H2 pf na ea ek il2=>q _ H2 (go pf.same).1 (go pf.same).2 ?_
   have olp:qV (fun b=>Ow O0 r1 σ b\/b=a) H2:=fun b z=>z.elim (fun z=>(R1.same pf.same).ol b z) fun z=>by subst z;exact⟨.dK kvs,ea,trivial⟩
   show Is X.K (Ow O0 r1 σ) H2 (.dct ks l) (.ref a)
   rw[Is.dct_iff]
   exact⟨a,kvs,rfl,R1.nofresh na,.inl ea,ek,IsL.mono (Same.kp (Same.refl H2) _) olp (fun _ z _=>.inl z) _ _ il2⟩
 ·cases e2
end
noncomputable def X3:List D->List D->Bool
 |[],[]=>false
 |.int _::_,.lst _::_=>true
 |_::m,_::l=>X3 m l
 |[],_::_=>true
 |_::_,[]=>true
mutual
noncomputable def apD(l:List D):D->Bool
 |.tup m=>apL l m
 |.lst m=>X3 m l && apL l m
 |.dct _ _=>false
 |_=>true
noncomputable def apL(l:List D):List D->Bool
 |[]=>true
 |d::m=>apD l d && apL l m
end
theorem p9{K:Fg}{O O':Addr->Prop}{H:Hp}:∀{m l:List D} {xs:List V},X3 m l=true->IsL K O H m xs->IsL K O' H l xs->False
 |[],[],xs,c,_,_=>by simp[X3] at c
 |[],e::l,xs,_,h,h'=>by
  unfold IsL at h;subst h
  unfold IsL at h';obtain⟨v,r,e,_⟩:=h';cases e
 |d::m,[],xs,_,h,h'=>by
  unfold IsL at h';subst h'
  unfold IsL at h;obtain⟨v,r,e,_⟩:=h;cases e
 |d::m,e::l,xs,c,h,h'=>by
  unfold IsL at h;obtain⟨v,r,rfl,h1,h2⟩:=h
  unfold IsL at h';obtain⟨v',r',ee,h1',h2'⟩:=h'
  cases ee
  by_cases hc:X3 m l=true
  ·exact p9 hc h2 h2'
  ·unfold X3 at c
   split at c
   ·rename_i e1 e2;cases e1
   ·rename_i i t l' t' e1 e2
    cases e1;cases e2
    rw[Is.int_iff] at h1
    rw[Is.lst_iff] at h1'
    obtain⟨a,ys,q,_⟩:=h1'
    rw[h1] at q;cases q
   ·rename_i e1 e2
    cases e1;cases e2
    exact hc c
   ·rename_i e1 e2;cases e1
   ·rename_i e1 e2;cases e2
mutual
theorem zIF{K:Fg}{O O':Addr->Prop}{H:Hp}{a:Addr}{xs:List V}{l:List D}(hO:∀b,O b->O' b\/b=a)(ha:H a=some (.lst xs))(il:IsL K O' H l xs):∀(d:D) (v:V),apD l d=true->Is K O' H d v->Is K O H d v
 |.non,v,_,h=>by unfold Is at h ⊢;exact h
 |.bl b,v,_,h=>by unfold Is at h ⊢;exact h
 |.int i,v,_,h=>by unfold Is at h ⊢;exact h
 |.str s,v,_,h=>by unfold Is at h ⊢;exact h
 |.ty n,v,_,h=>by unfold Is at h ⊢;exact h
 |.ref a,v,_,h=>by unfold Is at h ⊢;exact h
 |.dct ks m,v,p,h=>by unfold apD at p;cases p
 |.tup m,v,p,h=>by
  unfold apD at p
  unfold Is at h ⊢
  obtain⟨b,ys,e,q,r⟩:=h
  exact⟨b,ys,e,q,Z1 hO ha il m ys p r⟩
 |.lst m,v,p,h=>by
  unfold apD at p
  rw[Bool.and_eq_true] at p
  unfold Is at h ⊢
  obtain⟨b,ys,e,q,r⟩:=h
  refine⟨b,ys,e,?_,Z1 hO ha il m ys p.2 r⟩
  rcases q with⟨n,q⟩|q
  ·refine .inl ⟨fun z=>?_,q⟩
   rcases hO b z with z|z
   ·exact n z
   ·subst z
    rcases q with q|⟨o,q⟩
    ·rw[ha] at q;cases q
     exact p9 p.1 r il
    ·rw[ha] at q;cases q
  ·exact .inr q
theorem Z1{K:Fg}{O O':Addr->Prop}{H:Hp}{a:Addr}{xs:List V}{l:List D}(hO:∀b,O b->O' b\/b=a)(ha:H a=some (.lst xs))(il:IsL K O' H l xs):∀(m:List D) (vs:List V),apL l m=true->IsL K O' H m vs->IsL K O H m vs
 |[],vs,_,h=>by unfold IsL at h ⊢;exact h
 |d::m,vs,p,h=>by
  unfold apL at p
  rw[Bool.and_eq_true] at p
  unfold IsL at h ⊢
  obtain⟨v,r,e,h1,h2⟩:=h
  exact⟨v,r,e,zIF hO ha il d v p.1 h1,Z1 hO ha il m r p.2 h2⟩
end
section
variable{X:Cx}{es:List Expr}{fs:ML}{pos p pn:Pos}
noncomputable def cQ(n:Nat)(m:MF)(i:Nat)(fs:ML):ME:=fun r=>(rK i r).bind fun l=>(fs r).bind fun ds=>if ds.length+1=n then (m ((.lst l::ds).map .v)).bind fun p=>if apD l (rsD p.1)=true then some (rsD p.1) else none else none
theorem dO{k n i:Nat}{fa:Addr}{fd:FuncData}{ps:List Str}{m:MF}{x y:Str}(F:FnOk X.prog X.w X.K X.mg X.base CX0 k fa fd ps (spD X.K n m))(hr:Room k X.A)(hg:Gl X x)(hm:X.mg x=some (.ref fa))(hk:PySem.W.keepIn X.K (.ref fa)=true)(hb:Binds X.K fd ps [])(hy:PE X (.Name y pn) (jY i))(ha:DA X es fs)(hdb:(x == ("__debug__" : Str))=false:=by decide)(he:starEach (.Name y pn::es) X.env=(false,eval (.Name y pn) X.env)::starEach es X.env:=by rfl)(hpl:(backTo pos (starEach es X.env)).any (·.1)=false:=by rfl):DE X (.Call (.Name x p) (.Name y pn::es) [] pos) (cQ n m i fs):=by
 refine PE.conseq (vR (E:=fun _ _ _=>False) (dvs:=[]) F hr hg hm hk hb .nil cZ (yD hy ha he) hdb he hpl) fun σ H Q hq=>?_
 obtain⟨O0,r,d,hR,e,q⟩:=hq
 obtain⟨l,e1,e⟩:=bind_some e
 obtain⟨ds,e2,e⟩:=bind_some e
 split at e
 ·rename_i hn
  obtain⟨⟨rs,as'⟩,e3,e⟩:=bind_some e
  split at e
  ·rename_i hap
   have hd:=Option.some.inj e
   subst hd
   obtain⟨a,xs,q1,q2,q3⟩:=hR.own i l e1
   refine⟨.ref a,q1,O0,r,ds,hR,e2,fun vs H1 s1 il=>?_⟩
   show spD X.K n m ((.ref a::vs)++[]) H1 Q _
   rw[List.append_nil]
   have R1:=hR.same s1
   let O':Addr->Prop:=fun b=>Ow O0 r σ b/\b≠a
   have ol':qV O' H1:=fun b z=>R1.ol b z.1
   have dn:∀{d:D} {v:V},Is X.K (Ow O0 r σ) H1 d v->Is X.K O' H1 d v:=fun h=>Is.mono (Same.kp (Same.refl H1) _) R1.ol (fun _ z _=>z.1) _ _ h
   have dnL:∀{d:List D} {v:List V},IsL X.K (Ow O0 r σ) H1 d v->IsL X.K O' H1 d v:=fun h=>IsL.mono (Same.kp (Same.refl H1) _) R1.ol (fun _ z _=>z.1) _ _ h
   have q2':=s1 _ _ q2
   have q3':=dnL (q3.same s1 hR.ol)
   have ia:IsL X.K O' H1 (.lst l::ds) (.ref a::vs):=.cons (by rw[Is.lst_iff];exact⟨a,xs,rfl,.inl ⟨fun z=>z.2 rfl,.inl q2'⟩,q3'⟩) (dnL il)
   have hO:∀b,Ow O0 r σ b->O' b\/b=a:=fun b z=>by
    by_cases hb:b=a
    ·exact .inr hb
    ·exact .inl ⟨z,hb⟩
   refine⟨O',(D.lst l::ds).map .v,rs,as',by simpa using hn,R.args ol' ia,fun j l'=>?_,e3,?_⟩
   ·rw[List.getElem?_map]
    cases e1:(D.lst l::ds)[j]? with
    |none=>exact⟨(fun z=>by cases z),(fun z=>by cases z),(fun _ z=>by cases z)⟩
    |some y=>exact⟨(fun z=>by cases z),(fun z=>by cases z),(fun _ z=>by cases z)⟩
   ·cases rs with
    |v d'=>
     exact fun v H2 pf iv=>q v H2 (s1.trans pf.same) (zIF hO (pf.same _ _ q2') (q3'.same pf.same ol') _ _ hap iv)
    |f l'=>
     refine fun b ys H2 pf nb eb il2=>q _ H2 (s1.trans pf.same) ?_
     have hap':apL l l'=true:=by
      have:apD l (.lst l')=true:=hap
      unfold apD at this
      rw[Bool.and_eq_true] at this
      exact this.2
     have hba:¬Ow O0 r σ b:=R1.nofresh nb
     have i3:IsL X.K O' H2 l' ys:=IsL.mono (Same.kp (Same.refl H2) _) (fun c z=>z.elim (fun z=>by
      obtain⟨zs,ez,mb⟩:=ol' c z;exact⟨zs,pf.same _ _ ez,mb⟩) fun z=>by subst z;exact⟨.lst ys,eb,trivial⟩) (fun _ z _=>.inl z) _ _ il2
     show Is X.K (Ow O0 r σ) H2 (.lst l') (.ref b)
     rw[Is.lst_iff]
     exact⟨b,ys,rfl,.inl ⟨hba,.inl eb⟩,Z1 hO (pf.same _ _ q2') (q3'.same pf.same ol') _ _ hap' i3⟩
    |g ks l'=>exact absurd (show apD l (.dct ks l')=true from hap) (by unfold apD;simp)
  ·cases e
 ·cases e
end
end DD
namespace ZZ
open PySem
end ZZ
namespace DD
open PySem PySem.Spec PyProof.Rows L2
open PySem PySem.Spec PyProof.Rows L2 PySem.W
open PySem PySem.Spec PyProof.Rows L2 PySem.W
open PySem PySem.Spec PyProof.Rows L2 PySem.W
open PySem PySem.Spec PyProof.Rows L2 PySem.W
open PySem PySem.Spec PyProof.Rows L2 PySem.W
open PySem PySem.Spec PyProof.Rows L2 PySem.W PySem.Calls Builtin Builtin.ObjectAttr Builtin.Getset_descriptor
open PySem PySem.Spec PyProof.Rows L2 PySem.W
open PySem PySem.Spec PyProof.Rows L2 PySem.W
open PySem PySem.Spec PyProof.Rows L2 PySem.W
open PySem PySem.Spec PyProof.Rows L2 PySem.W
open PySem PySem.Spec PyProof.Rows L2 PySem.W
open PySem PySem.Spec PyProof.Rows L2 PySem.W
section
variable{P:Program}{w:World}{K:Fg}{mg:Str->Option Value}{base:Heap}{N:List Str}{qual:Str}{scope:Scope}{f0:Addr}{cd:Value}{A:Around}{outer:List Env}{s:Shared}{H:Hp}{E:XK}
variable{k n:Nat}{fa:Addr}{fd:FuncData}{ps:List Str}{m:List Sl->Option Str}{x:Str}{p pos:Pos}{a:Expr}{es:List Expr}{fs:ML}
end
open PySem PySem.Spec PyProof.Rows L2 PySem.W
open PySem PySem.Spec PyProof.Rows L2 PySem.W
open PySem PySem.Spec PyProof.Rows L2 PySem.W
open PySem PySem.Spec PyProof.Rows L2 PySem.W
open PySem PySem.Spec PyProof.Rows L2 PySem.W
open PySem PySem.Spec PyProof.Rows L2 PySem.W
open PySem PySem.Spec PyProof.Rows L2 PySem.W
open PySem PySem.Spec PyProof.Rows L2 PySem.W
open PySem PySem.Spec PyProof.Rows L2 PySem.W
open PySem PySem.Spec PyProof.Rows L2 PySem.W
open PySem PySem.Spec PyProof.Rows L2 PySem.W
end DD
namespace L2
open PySem PySem.Spec PyProof.Rows
section
variable{κ:Type}[DecidableEq κ]
noncomputable def X9(kvs:List (κ×V))(k:κ):Option V:=(kvs.find? fun kv=>decide (kv.1=k)).map (·.2)
noncomputable def cJ(kvs:List (κ×V))(k:κ)(v:V):List (κ×V):=
 if (kvs.any fun kv=>decide (kv.1=k))=true then kvs.map (fun kv=>if kv.1=k then (kv.1,v) else kv) else kvs++[(k,v)]
theorem v7{p:κ×V}{r:List (κ×V)}{k:κ}(e:p.1=k):X9 (p::r) k=some p.2:=by simp[X9,List.find?_cons,e]
theorem v8{p:κ×V}{r:List (κ×V)}{k:κ}(e:¬p.1=k):X9 (p::r) k=X9 r k:=by simp[X9,List.find?_cons,e]
theorem oP(k:κ):∀kvs:List (κ×V),(kvs.any fun kv=>decide (kv.1=k))=(X9 kvs k).isSome
 |[]=>rfl
 |p::r=>by
  rw[List.any_cons]
  by_cases e:p.1=k
  ·simp only[v7 e,decide_eq_true e,Bool.true_or,Option.isSome_some]
  ·rw[v8 e,decide_eq_false e,Bool.false_or];exact oP k r
theorem vU(kvs:List (κ×V))(k:κ)(v:V):(cJ kvs k v).length<=kvs.length+1:=by
 unfold cJ
 split
 ·rw[List.length_map];omega
 ·rw[List.length_append,List.length_cons,List.length_nil];omega
theorem RelO.isSome_eq{o:Option V}{u:Option Value}(r:RelO o u):o.isSome=u.isSome:=by
 cases o with
 |none=>cases u with
  |none=>rfl
  |some _=>exact(show False from r).elim
 |some _=>cases u with
  |none=>exact(show False from r).elim
  |some _=>rfl
theorem KV.val{kvs:List (κ×V)}{vs:List (κ×Value)}(r:KV kvs vs)(k:κ):RelO (X9 kvs k) (valueAt vs k):=by
 unfold KV at r
 induction r with
 |nil=>exact True.intro
 |@cons p q ps qs h t ih=>
  obtain⟨h1,h2⟩:=h
  by_cases e:p.1=k
  ·have e':q.1=k:=h1.symm.trans e
   have b:valueAt (q::qs) k=some q.2:=by simp[valueAt,List.find?_cons,e']
   rw[v7 e,b];exact h2
  ·have e':¬q.1=k:=fun z=>e (h1.trans z)
   have b:valueAt (q::qs) k=valueAt qs k:=by simp[valueAt,List.find?_cons,e']
   rw[v8 e,b];exact ih
theorem KV.any{kvs:List (κ×V)}{vs:List (κ×Value)}(r:KV kvs vs)(k:κ):(kvs.any fun kv=>decide (kv.1=k))=vs.any fun kv=>decide (kv.1=k):=by
 unfold KV at r
 induction r with
 |nil=>rfl
 |cons h t ih=>rw[List.any_cons,List.any_cons,ih,h.1]
theorem KV.repl{kvs:List (κ×V)}{vs:List (κ×Value)}(r:KV kvs vs)(k:κ){y:V}{u:Value}(ry:RelV y u):KV (kvs.map fun kv=>if kv.1=k then (kv.1,y) else kv) (vs.map fun kv=>if kv.1=k then (kv.1,u) else kv):=by
 unfold KV at r ⊢
 induction r with
 |nil=>exact .nil
 |@cons p q ps qs h t ih=>
  rw[List.map_cons,List.map_cons]
  refine .cons ?_ ih
  obtain⟨h1,h2⟩:=h
  by_cases e:p.1=k
  ·rw[if_pos e,if_pos (h1.symm.trans e)];exact⟨h1,ry⟩
  ·rw[if_neg e,if_neg (fun z=>e (h1.trans z))];exact⟨h1,h2⟩
theorem KV.put{kvs:List (κ×V)}{vs:List (κ×Value)}(r:KV kvs vs)(k:κ){y:V}{u:Value}(ry:RelV y u):KV (cJ kvs k y) (stored vs k u):=by
 unfold cJ stored
 rw[r.any k]
 by_cases e:(vs.any fun kv=>decide (kv.1=k))=true
 ·rw[if_pos e,if_pos e];exact r.repl k ry
 ·rw[if_neg e,if_neg e];exact Paired.snoc r ⟨rfl,ry⟩
theorem KV.keys{kvs:List (κ×V)}{vs:List (κ×Value)}(r:KV kvs vs):kvs.map (·.1)=vs.map (·.1):=by
 unfold KV at r
 induction r with
 |nil=>rfl
 |cons h t ih=>rw[List.map_cons,List.map_cons,ih,h.1]
theorem KV.length{kvs:List (κ×V)}{vs:List (κ×Value)}(r:KV kvs vs):kvs.length=vs.length:=Paired.length r
end
theorem J5{P:Program}{w:World}{k:Key}{u:Value}(r:RelV (kV k) u):(yL P w).is k u=true:=by
 cases k with
 |inl i=>obtain⟨t,e⟩:=(show ∃t,u=Value.int i t from r);subst e;exact gX P w i t
 |inr x=>obtain⟨t,e⟩:=(show ∃t,u=Value.str x t from r);subst e;exact gW P w x t
theorem hI{P:Program}{w:World}:∀{ks:List Key} {us:List Value},Vals (ks.map kV) us->ItemsAre (yL P w) ks us
 |[],_,r=>by rw[List.map_nil] at r;cases r;exact .nil
 |k::ks,_,r=>by
  rw[List.map_cons] at r
  cases r with
  |cons h t=>exact .cons (J5 h) (hI t)
noncomputable abbrev KT(H:Hp):List (List Key×V)->List (List Key×Addr×Value)->Prop:=Paired fun p q=>p.1=q.1/\H q.2.1=some (.tup (p.1.map kV))/\RelV p.2 q.2.2
theorem KT.val{H:Hp}{kvs:List (List Key×V)}{xs:List (List Key×Addr×Value)}(r:KT H kvs xs)(k:List Key):RelO (X9 kvs k) ((atKey xs k).map (·.2)):=by
 induction r with
 |nil=>exact True.intro
 |@cons p q ps qs h t ih=>
  obtain⟨h1,_,h2⟩:=h
  by_cases e:p.1=k
  ·have e':q.1=k:=h1.symm.trans e
   have b:atKey (q::qs) k=some q.2:=by simp[atKey,List.find?_cons,e']
   rw[v7 e,b];exact h2
  ·have e':¬q.1=k:=fun z=>e (h1.trans z)
   have b:atKey (q::qs) k=atKey qs k:=by simp[atKey,List.find?_cons,e']
   rw[v8 e,b];exact ih
theorem KT.repl{H:Hp}{kvs:List (List Key×V)}{xs:List (List Key×Addr×Value)}(r:KT H kvs xs)(k:List Key){y:V}{u:Value}(ry:RelV y u):KT H (kvs.map fun kv=>if kv.1=k then (kv.1,y) else kv) (xs.map (putAt k u)):=by
 induction r with
 |nil=>exact .nil
 |@cons p q ps qs h t ih=>
  rw[List.map_cons,List.map_cons]
  refine .cons ?_ ih
  obtain⟨h1,h2,h3⟩:=h
  unfold putAt
  by_cases e:p.1=k
  ·rw[if_pos e,if_pos (h1.symm.trans e)];exact⟨h1,h2,ry⟩
  ·rw[if_neg e,if_neg (fun z=>e (h1.trans z))];exact⟨h1,h2,h3⟩
theorem KT.put{H:Hp}{kvs:List (List Key×V)}{xs:List (List Key×Addr×Value)}(r:KT H kvs xs)(k:List Key){b:Addr}{y:V}{u:Value}(hb:H b=some (.tup (k.map kV)))(ry:RelV y u):KT H (cJ kvs k y) (storedH xs k b u):=by
 have e:(kvs.any fun kv=>decide (kv.1=k))=(atKey xs k).isSome:=by
  rw[oP,(r.val k).isSome_eq,Option.isSome_map]
 unfold cJ storedH
 rw[e]
 by_cases q:(atKey xs k).isSome=true
 ·rw[if_pos q,if_pos q];exact r.repl k ry
 ·rw[if_neg q,if_neg q];exact Paired.snoc r ⟨rfl,hb,ry⟩
theorem KT.keeps{H H':Hp}{kvs:List (List Key×V)}{xs:List (List Key×Addr×Value)}(r:KT H kvs xs)(ht:∀b ys,H b=some (.tup ys)->H' b=some (.tup ys)):KT H' kvs xs:=
 Paired.mapP r fun _ _ z=>⟨z.1,ht _ _ z.2.1,z.2.2⟩
section
variable{P:Program}{w:World}{H:Hp}{h:Heap}{a:Addr}
theorem zHQ{u:HO}(ok:HOk P w H h)(e:Rd H a u):ObjOk P w H h a u:=e.ok ok
theorem XM{kvs:List (Key×V)}(ok:HOk P w H h)(e:Rd H a (.dK kvs)):kvs.length<=sizeLine/\(a == sysModules)=false/\∃vs,KV kvs vs/\h.DictOf (yL P w) a vs:=
 show ObjOk P w H h a (.dK kvs) from zHQ ok e
theorem zJ1{kvs:List (Key×V)}(ok:HOk P w H h)(e:H a=some (.dK kvs)):kvs.length<=sizeLine/\(a == sysModules)=false/\∃vs,KV kvs vs/\h.DictOf (yL P w) a vs:=XM ok (.inl e)
theorem Q6{ks:List Key}(ok:HOk P w H h)(e:H a=some (.tup (ks.map kV))):(tupleKind (yL P w)).is h ks a:=by
 obtain⟨_,its,r,o,h1,h2,n,h3⟩:=(show ObjOk P w H h a (.tup (ks.map kV)) from ok a _ e)
 exact⟨o,its.toArray,n,h1,h2,h3,by simpa using hI r⟩
theorem zE8{kvs:List (List Key×V)}(ok:HOk P w H h)(e:Rd H a (.dT kvs)):kvs.length<=sizeLine/\(a == sysModules)=false /\
  ∃xs,KT H kvs xs/\h.DictOfH (tupleKind (yL P w)) a xs:=by
 obtain⟨z,y,xs,r,o,es,ep,h1,h2,h3,h4,h5⟩:=(show ObjOk P w H h a (.dT kvs) from zHQ ok e)
 refine⟨z,y,xs,r,o,es,ep,h1,h2,h3,h4,fun x hx=>?_,h5⟩
 have all:∀{l:List (List Key×V)} {m:List (List Key×Addr×Value)},KT H l m->∀x∈m,(tupleKind (yL P w)).is h x.1 x.2.1:=by
  intro l m q
  induction q with
  |nil=>intro x hx;exact nomatch hx
  |@cons p q ps qs hq t ih=>
   intro x hx
   rcases List.mem_cons.mp hx with e|hx
   ·subst e
    exact Q6 ok (by rw[<-hq.1];exact hq.2.1)
   ·exact ih x hx
 exact all r x hx
theorem zJY{kvs:List (List Key×V)}(ok:HOk P w H h)(e:H a=some (.dT kvs)):kvs.length<=sizeLine/\(a == sysModules)=false /\
  ∃xs,KT H kvs xs/\h.DictOfH (tupleKind (yL P w)) a xs:=zE8 ok (.inl e)
end
noncomputable def zKU(H:Hp)(a:Addr)(y:V)(r:Option V):Prop:=
 (∃kvs k,Rd H a (.dK kvs)/\y=kV k/\r=X9 kvs k)\/∃kvs k b,Rd H a (.dT kvs)/\y=.ref b/\H b=some (.tup (k.map kV))/\r=X9 kvs k
noncomputable def DPut(H:Hp)(a:Addr)(y v:V)(H':Hp):Prop:=
 (∃kvs k,H a=some (.dK kvs)/\y=kV k/\kvs.length<sizeLine/\H'=upd H a (.dK (cJ kvs k v))) \/
 ∃kvs k b,H a=some (.dT kvs)/\y=.ref b/\H b=some (.tup (k.map kV))/\kvs.length<sizeLine/\H'=upd H a (.dT (cJ kvs k v))
theorem DPut.k{H:Hp}{a:Addr}{kvs:List (Key×V)}{k:Key}{v:V}(e:H a=some (.dK kvs))(hl:kvs.length<sizeLine):DPut H a (kV k) v (upd H a (.dK (cJ kvs k v))):=.inl ⟨kvs,k,e,rfl,hl,rfl⟩
section
variable{X:Cx}{pins:List (Addr×Obj)}{σ:St}{H:Hp}{s:Shared}{a:Addr}{y v:V}{u r:Value}{o:Option V}{A:Around}{E:Value->Shared->Prop}
theorem Inv.big(I:Inv X pins σ H s):sysModules<s.heap.objs.size:=by
 have h:mainGlobals<s.heap.objs.size:=(I.mod.glob.keeps I.bk).lt
 exact Nat.lt_trans (by decide) h
theorem ZS{Q:Value->Shared->Prop}(hu:A.units+1<cLine)(I:Inv X pins σ H s)(g:zKU H a y (some v))(ry:RelV y u)(h:∀w' s',Inv X pins σ H s'->RelV v w'->Q w' s'):wpAny (model X.prog X.w) A (getItem (.ref a) u) Q E s:=by
 rcases g with⟨kvs,k,e,ey,l⟩|⟨kvs,k,b,e,ey,eb,l⟩
 ·subst ey
  obtain⟨z,hd,vs,rel,dd⟩:=XM I.hok e
  obtain⟨w',hw,rw'⟩:=RelO.some_of (v:=v) (o:=valueAt vs k) (by rw[l];exact rel.val k)
  exact wpAny_getItem_of (J5 ry) dd.mapOf hw (h w' _ (I.tok _) rw')
 ·subst ey
  cases (show u=Value.ref b from ry)
  obtain⟨z,hd,xs,rel,dd⟩:=zE8 I.hok e
  obtain⟨w',hw,rw'⟩:=RelO.some_of (v:=v) (o:=(atKey xs k).map (·.2)) (by rw[l];exact rel.val k)
  obtain⟨p,hp,hp2⟩:=Option.map_eq_some_iff.mp hw
  refine wpAny_getItem_heap (tupleKind_room_in1 hu) (Q6 I.hok eb) dd hp ?_
  rw[hp2]
  exact h w' _ (I.tok _) rw'
theorem XZ{h':Heap}{t':Nat}{ob:HO}(I:Inv X pins σ H s)(mu:Mut (H a))(hs:Heap.SameBut a s.heap h')(he:∃q,h'.get? a=some q)(new:ObjOk X.prog X.w (upd H a ob) h' a ob):Inv X pins σ (upd H a ob) { s with heap:=h',toks:=t' }:=
 I.write (x:=a) (e:=a) mu (.inl rfl) (fun b q hb z=>(hs.2 b hb).trans z) he new
theorem JL{P:Program}{w:World}{H':Hp}{h':Heap}{kvs:List (Key×V)}{vs:List (Key×Value)}(z:kvs.length<=sizeLine)(hd:(a == sysModules)=false)(rel:KV kvs vs)(dd:h'.DictOf (yL P w) a vs):ObjOk P w H' h' a (.dK kvs):=⟨z,hd,vs,rel,dd⟩
theorem ZR{H':Hp}{Q:Unit->Shared->Prop}(hu:A.units+1<cLine)(I:Inv X pins σ H s)(g:DPut H a y v H')(ry:RelV y u)(rv:RelV v r)(h:∀s',Inv X pins σ H' s'->Q () s'):wpAny (model X.prog X.w) A (setItem (.ref a) u r) Q E s:=by
 rcases g with⟨kvs,k,e,ey,l,eH⟩|⟨kvs,k,b,e,ey,eb,l,eH⟩
 ·subst ey eH
  obtain⟨z,hd,vs,rel,dd⟩:=zJ1 I.hok e
  have hz:vs.length<=sizeLine:=by rw[<-rel.length];exact z
  have hl:(cJ kvs k v).length<=sizeLine:=by have:=vU kvs k v;omega
  refine wpAny_setItem_pairs (hsz:=hz) (J5 ry) dd fun h' dd' hs=>h _ ?_
  have he:∃q,h'.get? a=some q:=let ⟨q,_,_,hq,_⟩:=dd';⟨q,hq⟩
  exact XZ I (by rw[e];exact True.intro) hs he (JL hl hd (rel.put k rv) dd')
 ·subst ey eH
  cases (show u=Value.ref b from ry)
  obtain⟨z,hd,xs,rel,dd⟩:=zJY I.hok e
  have hz:xs.length<=sizeLine:=by rw[<-Paired.length rel];exact z
  have hl:(cJ kvs k v).length<=sizeLine:=by have:=vU kvs k v;omega
  refine wpAny_setItem_heap (hsz:=hz) (tupleKind_room_in1 hu) (Q6 I.hok eb) dd fun h' dd' hs=>h _ ?_
  obtain⟨q,es,ep,hq,h2,h3,h4,_,h5⟩:=dd'
  refine XZ I (by rw[e];exact True.intro) hs ⟨q,hq⟩ ⟨hl,hd,_,(rel.put k eb rv).keeps fun c ys ec=>?_,q,es,ep,hq,h2,h3,h4,h5⟩
  rw[zM (zE3 ec e (fun z=>nomatch z))]
  exact ec
end
noncomputable def zKB(i:Expr):Prop:=∀ov iv,subscripted i false ov iv=operate [ov,iv] (getItem ov iv)
theorem zA9{prog:Program}{w:World}{A:Around}{E:Value->Shared->Prop}{s:Shared}{env:Env}{value slice:Expr}{pos:Pos}{T id:String}{Q:Value->Shared->Prop}(hl:typeLookup (.type T) "__getitem__" = pure (some (.builtin id)))(hs:zKB slice)(h:wpAny (model prog w) A (eval value env) (fun o s₁=>wpAny (model prog w) A (eval slice env) (fun i s₂=>s₂.TypeIs o T/\wpAny (model prog w) A (getItem o i) Q E s₂) E s₁) E s):wpAny (model prog w) A (eval (.Subscript value slice pos) env) Q E s:=by
 refine Subscript_ (wpAny_mono h (fun o s₁ h₁=>wpAny_mono h₁ (fun i s₂ h₂=>?_) fun _ _ x=>x) fun _ _ x=>x)
 obtain⟨hT,h₂⟩:=h₂
 unfold subscriptTail
 refine wpAny_bind ?_
 rw[getitemInPython_of_ne hT.not_modules]
 refine wpAny_bind (wpAny_specialOf hT hl ?_)
 have fin:wpAny (model prog w) A (subscripted slice false o i) (fun r s₃=>wpAny (model prog w) A (letTemporaryGo value o r >>= fun _=>pure r) Q E s₃) E s₂:=by
  rw[hs o i]
  exact wpAny_operating (wpAny_mono h₂ (fun r s₃ h₃=>wpAny_bind (wpAny_letTemporaryGo (wpAny_pure h₃))) fun _ _ x=>x)
 first
  |exact wpAny_pure (wpAny_bind fin)
  |exact wpAny_bind (wpAny_pure (wpAny_bind fin))
  |exact wpAny_bind fin
theorem mF{X:Cx}{pins:List (Addr×Obj)}{σ:St}{H:Hp}{s:Shared}{a:Addr}{y:V}{o:Option V}(I:Inv X pins σ H s)(g:zKU H a y o):s.TypeIs (.ref a) "dict" := by
 rcases g with⟨kvs,k,e,_,_⟩|⟨kvs,k,b,e,_,_,_⟩
 ·obtain⟨_,_,vs,_,dd⟩:=XM I.hok e
  exact dd.typeIs
 ·obtain⟨_,_,xs,_,dd⟩:=zE8 I.hok e
  exact dd.typeIs
noncomputable def zI2(td ty:TE):TE:=fun σ H Q=>td σ H fun x H1=>ty σ H1 fun y H2=>∃a v,x=.ref a/\zKU H2 a y (some v)/\Q v H2
noncomputable def zI5(td ty tv:TE):TS:=fun D σ H=>tv σ H fun v H1=>td σ H1 fun x H2=>ty σ H2 fun y H3=>∃a H4,x=.ref a/\DPut H3 a y v H4/\D.nx σ H4
section
variable{X:Cx}{o i e value:Expr}{pos pos' tpos:Pos}{td ty tv:TE}
theorem YO(hu:X.A.units+1<cLine)(ho:PE X o td)(hi:PE X i ty)(hs:zKB i):PE X (.Subscript o i pos) (zI2 td ty):=by
 intro pins s σ H Q I h
 refine zA9 PySem.F.slot_dict_getitem.lookup hs (thn (ho pins s σ H _ I h) fun u s1 ⟨x,H1,I1,rx,q1⟩=>thn (hi pins s1 σ H1 _ I1 q1) fun iv s2 ⟨y,H2,I2,ry,a,v,ex,g,q2⟩=>?_)
 subst ex
 obtain rfl:u=Value.ref a:=rx
 exact⟨mF I2 g,ZS hu I2 g ry fun w' s3 I3 rw'=>⟨v,H2,I3,rw',q2⟩⟩
theorem zBT(hu:X.A.units+1<cLine)(ho:PE X o td)(hi:PE X i ty)(hv:PE X value tv)(hs:swapsWith value (some (.Subscript o i pos')) pos.line X.env=pure false):PS X (.Assign [.Subscript o i pos'] value pos) (zI5 td ty tv):=by
 intro pins s σ H D I h
 refine wpAny_Assign_Subscript (thn (hv pins s σ H _ I h) fun r s1 ⟨v,H1,I1,rv,q1⟩=>thn (ho pins s1 σ H1 _ I1 q1) fun u s2 ⟨x,H2,I2,rx,q2⟩=>thn (hi pins s2 σ H2 _ I2 q2) fun iv s3 ⟨y,H3,I3,ry,a,H4,ex,g,q3⟩=>?_) hs
 subst ex
 obtain rfl:u=Value.ref a:=rx
 exact ZR hu I3 g ry rv fun s4 I4=>⟨σ,H4,I4,q3⟩
end
theorem JM{P:Program}{w:World}{H:Hp}(h:Heap)(hb:sysModules<h.objs.size):ObjOk P w H (h.push { cls:=.type "dict",data:=.dict #[] }) h.objs.size (.dK []):=
 ⟨Nat.zero_le _,beq_eq_false_iff_ne.mpr (Ne.symm (Nat.ne_of_lt hb)),[],.nil,Heap.DictOf.new h⟩
noncomputable def zFP:TE:=fun _ H Q=>∀p,H p=none->Q (.ref p) (upd H p (.dK []))
section
variable{X:Cx}{pos:Pos}
theorem QC:PE X (.Dict [] [] pos) zFP:=fun pins s σ H Q I h=>
 wpAny_Dict_empty ⟨.ref s.heap.objs.size,_,I.laid (a:=s.heap.objs.size) (o:=.dK []) (t':=s.toks) (fun _ _ q=>Heap.get?_push_of_some _ q) (Nat.le_refl _) (JM s.heap I.big),rfl,h _ (I.hok.fresh (Nat.le_refl _))⟩
end
section
variable{X:Cx}{pins:List (Addr×Obj)}{σ:St}{H:Hp}{s:Shared}{a:Addr}{kvs:List (Key×V)}{A:Around}{E:Value->Shared->Prop}
theorem JP{Q:Value->Shared->Prop}(I:Inv X pins σ H s)(e:Rd H a (.dK kvs))(h:∀p s',H p=none->Inv X pins σ (upd H p (.dK kvs)) s'->Q (.ref p) s'):wpAny (model X.prog X.w) A (call (.type "dict") [.ref a]) Q E s:=by
 obtain⟨z,hd,vs,rel,dd⟩:=XM I.hok e
 refine kt_call_dict hd dd (by rw[<-rel.length];exact z) fun h' dd' hs=>?_
 refine h _ _ (I.hok.fresh (Nat.le_refl _)) (I.laid (a:=s.heap.objs.size) (o:=.dK kvs) (t':=s.toks) (fun b q hq=>?_) (Nat.le_refl _) (JL z (beq_eq_false_iff_ne.mpr (Ne.symm (Nat.ne_of_lt I.big))) rel dd'))
 exact(hs.2 b (Nat.ne_of_lt (Heap.lt_size hq))).trans (Heap.get?_push_of_some _ hq)
end
end L2
namespace DD
open PySem PySem.Spec PyProof.Rows L2
noncomputable def zIJ:D->Option Key
 |.int i=>some (.inl i)
 |.str s=>some (.inr ⟨s.toArray⟩)
 |_=>none
theorem pP{K:Fg}{O:Addr->Prop}{H:Hp}{d:D}{v:V}{k:Key}(e:zIJ d=some k)(h:Is K O H d v):v=kV k:=by
 cases d<;>first|(cases e;done)|skip
 ·cases e;rw[Is.int_iff] at h;exact h
 ·cases e;rw[Is.str_iff] at h;exact h
noncomputable def qK(ks:List Key)(l:List D)(k:Key)(d:D):List Key×List D:=if (ks.any fun j=>decide (j=k))=true then (ks,List.zipWith (fun j e=>if j=k then d else e) ks l) else (ks++[k],l++[d])
section
variable{K:Fg}{O0:Addr->Prop}{H H1 H':Hp}{r:En}{σ:St}{i:Nat}{d:D}{v:V}{a:Addr}
theorem o9{O:Addr->Prop}{k:Key}(hd:Is K O H d v):∀{kvs:List (Key×V)} {l:List D},IsL K O H l (kvs.map (·.2))->IsL K O H (List.zipWith (fun j e=>if j=k then d else e) (kvs.map (·.1)) l) ((kvs.map fun kv=>if kv.1=k then (kv.1,v) else kv).map (·.2))
 |[],[],_=>.nil
 |[],d'::l,h=>by unfold IsL at h;obtain⟨_,_,e,_⟩:=h;cases e
 |p::kvs,[],h=>by unfold IsL at h;cases h
 |p::kvs,d'::l,h=>by
  unfold IsL at h
  obtain⟨x,y,e,h1,h2⟩:=h
  rw[List.map_cons] at e
  cases e
  rw[List.map_cons,List.map_cons,List.map_cons,List.zipWith_cons_cons]
  refine .cons ?_ (o9 hd h2)
  by_cases q:p.1=k
  ·rw[if_pos q,if_pos q];exact hd
  ·rw[if_neg q,if_neg q];exact h1
theorem YK{O:Addr->Prop}{k:Key}{kvs:List (Key×V)}{ks:List Key}{l:List D}(hk:kvs.map (·.1)=ks)(hl:IsL K O H l (kvs.map (·.2)))(hd:Is K O H d v):(cJ kvs k v).map (·.1)=(qK ks l k d).1/\IsL K O H (qK ks l k d).2 ((cJ kvs k v).map (·.2)):=by
 subst hk
 have ea:(kvs.any fun kv=>decide (kv.1=k))=((kvs.map (·.1)).any fun j=>decide (j=k)):=by rw[List.any_map];rfl
 unfold cJ qK
 rw[ea]
 by_cases q:((kvs.map (·.1)).any fun j=>decide (j=k))=true
 ·rw[if_pos q,if_pos q]
  refine⟨?_,o9 hd hl⟩
  rw[List.map_map]
  refine List.map_congr_left fun x _=>?_
  show(if x.1=k then (x.1,v) else x).1=x.1
  split<;>rfl
 ·rw[if_neg q,if_neg q,List.map_append,List.map_append]
  exact⟨rfl,hl.append (.cons hd .nil)⟩
theorem R.setd{ks:List Key}{l:List D}{kvs:List (Key×V)}{p:Addr}(h:R K O0 H r σ)(s:Same H H1)(n:H p=none)(e:H1 p=some (.dK kvs))(hk:kvs.map (·.1)=ks)(hl:IsL K (fun b=>Ow O0 r σ b\/b=p) H1 l (kvs.map (·.2)))(hi:i<r.length)(np:∀l,r[i]?≠some (.p l)/\r[i]?≠some (.z l)):R K O0 H1 (r.set i (.d ks l)) (σ.set i (some (.ref p)))/\Kp H r σ H1 (r.set i (.d ks l)) (σ.set i (some (.ref p))):=by
 have his:i<σ.length:=by rw[<-h.len];exact hi
 have ow:∀{q:Sl->Option (List D)} a,AtS q (r.set i (.d ks l)) (σ.set i (some (.ref p))) a->AtS q r σ a\/a=p:=fun {q} a z=>by
  obtain⟨j,m,e1,q1⟩:=z
  by_cases hj:i=j
  ·subst hj
   rw[zK his] at q1;cases q1;exact .inr rfl
  ·rw[zE hj] at e1 q1
   exact .inl ⟨j,m,e1,q1⟩
 have sub:∀a,Ow O0 (r.set i (.d ks l)) (σ.set i (some (.ref p))) a->H a≠none->Ow O0 r σ a:=fun a z nn=>z.elim .inl fun z=>(ow a z).elim .inr fun z=>by subst z;exact absurd n nn
 have olp:qV (fun b=>Ow O0 r σ b\/b=p) H1:=fun b z=>z.elim (fun z=>(h.same s).ol b z) fun z=>by subst z;exact⟨.dK kvs,e,trivial⟩
 refine⟨⟨by simp[h.len],fun j d' e1=>?_,fun j m e1=>?_,fun j k a l1 m e1 e2 q1 q2=>?_,(h.same s).o0,fun j m a e1 q=>?_,fun j m a e1 q=>?_,fun j ks' m e1=>?_⟩,⟨fun b o e1 _=>s b o e1,fun b e1=>s.free e1,fun b o e1 mb=>⟨o,s _ _ e1,mb⟩,fun b z=>(ow b z).imp id fun z=>by subst z;exact n,fun b z=>(ow b z).imp id fun z=>by subst z;exact n,fun j m e1=>?_,fun j m e1=>?_⟩⟩
 ·have hj:i≠j:=fun z=>by subst z;rw[zK hi] at e1;cases e1
  rw[zE hj] at e1
  obtain⟨u,e2,q⟩:=h.val j d' e1
  exact⟨u,by rw[zE hj];exact e2,Is.mono (Same.kp s _) h.ol sub _ _ q⟩
 ·have hj:i≠j:=fun z=>by subst z;rw[zK hi] at e1;cases e1
  rw[zE hj] at e1
  obtain⟨a,ys,e2,e3,q⟩:=h.own j m e1
  exact⟨a,ys,by rw[zE hj];exact e2,s _ _ e3,IsL.mono (Same.kp s _) h.ol sub _ _ q⟩
 ·have out:∀(j:Nat) (m:List D) (a:Addr),i≠j->((r.set i (.d ks l))[j]?).bind Sl.own=some m->(σ.set i (some (.ref p)))[j]?=some (some (.ref a))->a≠p:=fun j m a hj e1 q1 z=>by
   rw[zE hj] at e1 q1
   obtain⟨b,ys,e2,e3,_⟩:=h.obj e1
   rw[q1] at e2;cases e2
   subst z
   rw[n] at e3;cases e3
  by_cases hj:i=j
  ·by_cases hk:i=k
   ·exact hj.symm.trans hk
   ·subst hj
    rw[zK his] at q1;cases q1
    exact absurd rfl (out k m p hk e2 q2)
  ·by_cases hk:i=k
   ·subst hk
    rw[zK his] at q2;cases q2
    exact absurd rfl (out j l1 p hj e1 q1)
   ·rw[zE hj] at e1 q1
    rw[zE hk] at e2 q2
    exact h.apart j k a l1 m e1 e2 q1 q2
 ·by_cases hj:i=j
  ·subst hj
   rw[zK his] at q;cases q
   exact fun z=>by obtain⟨ys,e3,_⟩:=h.o0 p z;rw[n] at e3;cases e3
  ·rw[zE hj] at e1 q
   exact h.loc j m a e1 q
 ·have hj:i≠j:=fun z=>by subst z;rw[zK hi] at e1;cases e1
  rw[zE hj] at e1 q
  exact h.par j m a e1 q
 ·by_cases hj:i=j
  ·subst hj
   rw[zK hi] at e1;cases e1
   exact⟨p,kvs,zK his,e,hk,IsL.mono (Same.kp (Same.refl H1) _) olp (fun a z _=>z.elim (fun z=>.inl (.inl z)) fun z=>(ow a z).imp .inr id) _ _ hl⟩
  ·rw[zE hj] at e1
   obtain⟨a,kv2,e2,e3,e4,q⟩:=h.dct j ks' m e1
   exact⟨a,kv2,by rw[zE hj];exact e2,s _ _ e3,e4,IsL.mono (Same.kp s _) h.ol sub _ _ q⟩
 ·have hj:i≠j:=fun z=>by subst z;exact(np m).1 e1
  exact⟨⟨m,by rw[zE hj];exact e1⟩,zE hj⟩
 ·have hj:i≠j:=fun z=>by subst z;exact(np m).2 e1
  exact⟨by rw[zE hj];exact e1,zE hj⟩
theorem R.updd{ks ks':List Key}{l l':List D}{kvs kvs':List (Key×V)}(h:R K O0 H r σ)(ei:r[i]?=some (.d ks l))(ha:σ[i]?=some (some (.ref a)))(hx:H a=some (.dK kvs))(hk:kvs'.map (·.1)=ks')(il:IsL K (Ow O0 r σ) H l' (kvs'.map (·.2))):R K O0 (L2.upd H a (.dK kvs')) (r.set i (.d ks' l')) σ/\Kp H r σ (L2.upd H a (.dK kvs')) (r.set i (.d ks' l')) σ:=by
 have hi:i<r.length:=(List.getElem?_eq_some_iff.mp ei).1
 have own_i:wS r σ a:=⟨i,l,by rw[ei];rfl,ha⟩
 have mut_i:MutAt r σ a:=⟨i,l,by rw[ei];rfl,ha⟩
 have atO:∀b,wS (r.set i (.d ks' l')) σ b->wS r σ b:=fun b ⟨j,m,e1,q1⟩=>by
  by_cases hj:i=j
  ·subst hj;rw[ha] at q1;cases q1;exact own_i
  ·rw[zE hj] at e1;exact⟨j,m,e1,q1⟩
 have atM:∀b,MutAt (r.set i (.d ks' l')) σ b->MutAt r σ b:=fun b ⟨j,m,e1,q1⟩=>by
  by_cases hj:i=j
  ·subst hj;rw[ha] at q1;cases q1;exact mut_i
  ·rw[zE hj] at e1;exact⟨j,m,e1,q1⟩
 have sub:∀b,Ow O0 (r.set i (.d ks' l')) σ b->H b≠none->Ow O0 r σ b:=fun b z _=>z.imp id (atO b)
 have keep:dB (Ow O0 r σ) H (L2.upd H a (.dK kvs')):=fun b o e1 n=>by rw[zM (fun z=>n (by subst z;exact .inr own_i))];exact e1
 have lst:∀b o,H b=some o->Mb o->∃o',L2.upd H a (.dK kvs') b=some o'/\Mb o':=fun b o e1 mb=>by
  by_cases hb:b=a
  ·subst hb;exact⟨_,zN,trivial⟩
  ·exact⟨o,by rw[zM hb];exact e1,mb⟩
 have other:∀(j:Nat) (m:List D) (b:Addr),i≠j->(r[j]?).bind Sl.own=some m->σ[j]?=some (some (.ref b))->b≠a:=fun j m b hj e1 q1 z=>by
  subst z
  exact hj (h.apart i j b l m (by rw[ei];rfl) e1 ha q1)
 refine⟨⟨by simp[h.len],fun j d' e1=>?_,fun j m e1=>?_,fun j k b m n e1 e2 q1 q2=>?_,fun b z=>?_,fun j m b e1 q1=>?_,fun j m b e1 q1=>?_,fun j ks2 m e1=>?_⟩,⟨fun b o e1 n=>by rw[zM (fun z=>n (by subst z;exact mut_i))];exact e1,fun b e1=>?_,lst,fun b z=>.inl (atO b z),fun b z=>.inl (atM b z),fun j m e1=>?_,fun j m e1=>?_⟩⟩
 ·have hj:i≠j:=fun z=>by subst z;rw[zK hi] at e1;cases e1
  rw[zE hj] at e1
  obtain⟨v,q1,q2⟩:=h.val j d' e1
  exact⟨v,q1,Is.mono keep h.ol sub _ _ q2⟩
 ·have hj:i≠j:=fun z=>by subst z;rw[zK hi] at e1;cases e1
  rw[zE hj] at e1
  obtain⟨b,ys,q1,q2,q3⟩:=h.own j m e1
  exact⟨b,ys,q1,by rw[zM (other j m b hj (qT e1) q1)];exact q2,IsL.mono keep h.ol sub _ _ q3⟩
 ·have get:∀(j:Nat) (m:List D),((r.set i (.d ks' l'))[j]?).bind Sl.own=some m->∃m',(r[j]?).bind Sl.own=some m':=fun j m e1=>by
   by_cases hj:i=j
   ·subst hj;exact⟨l,by rw[ei];rfl⟩
   ·rw[zE hj] at e1;exact⟨m,e1⟩
  obtain⟨m',z1⟩:=get j m e1
  obtain⟨n',z2⟩:=get k n e2
  exact h.apart j k b m' n' z1 z2 q1 q2
 ·obtain⟨o,q,mb⟩:=h.o0 b z;exact lst b o q mb
 ·by_cases hj:i=j
  ·subst hj
   exact h.loc i l b (.inr (.inr ⟨ks,ei⟩)) q1
  ·rw[zE hj] at e1
   exact h.loc j m b e1 q1
 ·have hj:i≠j:=fun z=>by subst z;rw[zK hi] at e1;cases e1
  rw[zE hj] at e1
  exact h.par j m b e1 q1
 ·by_cases hj:i=j
  ·subst hj
   rw[zK hi] at e1;cases e1
   exact⟨a,kvs',ha,zN,hk,IsL.mono keep h.ol sub _ _ il⟩
  ·rw[zE hj] at e1
   obtain⟨b,kv2,q1,q2,q4,q3⟩:=h.dct j ks2 m e1
   exact⟨b,kv2,q1,by rw[zM (other j m b hj (by rw[e1];rfl) q1)];exact q2,q4,IsL.mono keep h.ol sub _ _ q3⟩
 ·by_cases hb:b=a
  ·subst hb;rw[zN] at e1;cases e1
  ·rw[zM hb] at e1;exact e1
 ·have hj:i≠j:=fun z=>by subst z;rw[ei] at e1;cases e1
  exact⟨⟨m,by rw[zE hj];exact e1⟩,rfl⟩
 ·have hj:i≠j:=fun z=>by subst z;rw[ei] at e1;cases e1
  exact⟨by rw[zE hj];exact e1,rfl⟩
end
noncomputable def zKK(i:Nat)(ks:List Key)(l:List D)(r:En):Option En:=match r[i]? with
 |some (.p _)=>none
 |some (.z _)=>none
 |some _=>some (r.set i (.d ks l))
 |none=>none
theorem r6{i:Nat}{r r':En}{ks:List Key}{l:List D}(e:zKK i ks l r=some r'):i<r.length/\(∀l,r[i]?≠some (.p l)/\r[i]?≠some (.z l))/\r'=r.set i (.d ks l):=by
 unfold zKK at e
 cases e1:r[i]? with
 |none=>rw[e1] at e;cases e
 |some x=>
  have hi:i<r.length:=(List.getElem?_eq_some_iff.mp e1).1
  rw[e1] at e
  cases x<;>first|(cases e;done)|(cases e;exact⟨hi,fun l=>⟨(fun z=>by cases z),(fun z=>by cases z)⟩,rfl⟩)
noncomputable def YF(i:Nat)(fk fe:ME):MS:=fun r=>(fe r).bind fun d=>(fk r).bind fun kd=>(zIJ kd).bind fun k=>match r[i]? with
 |some (.d ks l)=>if ks.length<sizeLine then some (.nx (r.set i (.d (qK ks l k d).1 (qK ks l k d).2))) else none
 |_=>none
section
variable{X:Cx}{a k e:Expr}{f g:ME}{pos ps pn p:Pos}{x:Str}
theorem XL(i:Nat)(hu:X.A.units+1<cLine)(h:PE X (.Name x pn) (jY i))(hk:DE X k g)(he:DE X a f)(hs:swapsWith a (some (.Subscript (.Name x pn) k ps)) pos.line X.env=pure false:=by rfl):DS X (.Assign [.Subscript (.Name x pn) k ps] a pos) (YF i g f):=by
 refine PS.conseq (zBT hu h hk he hs) fun Dn σ H hq=>?_
 obtain⟨O0,r,fl,hR,e,q⟩:=hq
 obtain⟨d,e1,e⟩:=bind_some e
 obtain⟨kd,e2,e⟩:=bind_some e
 obtain⟨key,e3,e⟩:=bind_some e
 cases er:r[i]? with
 |none=>rw[er] at e;cases e
 |some y=>
  rw[er] at e
  cases y<;>first|(cases e;done)|skip
  rename_i ks l
  simp only at e
  split at e
  ·rename_i hlen
   cases e
   obtain⟨b,kvs,q1,q2,q4,q3⟩:=hR.dct i ks l er
   refine⟨O0,r,d,hR,e1,fun v H1 s1 i1=>⟨.ref b,q1,O0,r,kd,hR.same s1,e2,fun u H2 s2 i2=>?_⟩⟩
   have hu2:=pP e3 i2
   subst hu2
   have R2:=(hR.same s1).same s2
   have q3':=(q3.same s1 hR.ol).same s2 (hR.same s1).ol
   have i1':Is X.K (Ow O0 r σ) H2 d v:=Is.mono (Same.kp s2 _) (hR.same s1).ol (fun _ z _=>z) _ _ i1
   obtain⟨p1,p2⟩:=YK (k:=key) q4 q3' i1'
   have q2':=s2 _ _ (s1 _ _ q2)
   obtain⟨R3,k3⟩:=R2.updd er q1 q2' p1 p2
   have hl:kvs.length<sizeLine:=by rw[<-q4,List.length_map] at hlen;exact hlen
   exact⟨b,_,rfl,DPut.k q2' hl,q σ _ R3 ((Kp.of_same r σ (s1.trans s2)).trans k3)⟩
  ·cases e
theorem zG4{P:Program}{w:World}{k:Key}{u:Value}(h:(yL P w).is k u=true):RelV (kV k) u:=by
 rcases yN h with⟨i,t,rfl,rfl⟩|⟨y,t,rfl,rfl⟩
 ·exact⟨t,rfl⟩
 ·exact⟨t,rfl⟩
theorem Z6:∀{xs:List V} {us:List Value},xs.length=us.length->(∀(j:Nat) (u:Value),us[j]?=some u->∃y,xs[j]?=some y/\RelV y u)->Vals xs us
 |[],[],_,_=>.nil
 |[],_::_,h,_=>by cases h
 |_::_,[],h,_=>by cases h
 |y::xs,u::us,hl,h=>by
  obtain⟨z,e,q⟩:=h 0 u rfl
  cases e
  exact .cons q (Z6 (by simpa using hl) fun j w ew=>h (j+1) w (by simpa using ew))
end
section
variable{prog:Program}{w:World}{A:Around}{E:Value->Shared->Prop}{s:Shared}
theorem gH{Q:Int->Shared->Prop}(h:Q 4238894112 { s with toks:=s.toks+1 }):wpAny (model prog w) A (pyHash .none) Q E s:=by
 unfold pyHash pyHashByItsType
 have hv:[Value.none].any Value.onHeap=false:=rfl
 refine wpAny_bind ?_
 rw[cRoomFor,if_neg (by rw[hv];exact Bool.false_ne_true)];refine wpAny_pure ?_
 refine wpAny_bind (wpAny_specialOf (T:="NoneType") rfl PySem.F.slot_NoneType_hash.lookup ?_)
 show wpAny _ _ (if (some (Value.builtin "NoneType.__hash__") == some Value.none)=true then _ else _) Q E s
 rw[if_neg (by decide)]
 refine wpAny_bind (wpAny_specialOf (T:="NoneType") rfl PySem.F.slot_NoneType_hash.lookup ?_)
 show wpAny _ _ (callSpecialIfBoundUnlessNone? .none "__hash__" _ >>= _) Q E s
 refine wpAny_bind (wpAny_callSpecialIfBoundUnlessNone?_slot (T:="NoneType") rfl PySem.F.slot_NoneType_hash
  (wpAny_call_entry (T:="NoneType") PySem.F.slot_NoneType_hash rfl PySem.F.entry_NoneType_hash
   (show wpAny _ _ (do ret (<- mkInt 4238894112)) _ _ s from wpAny_ret_mkInt ?_) (PySem.F.args_NoneType_hash_1 _)))
 exact wpAny_pure h
end
noncomputable def ZE:Option Key->Value->Bool
 |none,.none=>true
 |none,_=>false
 |some k,v=>dA k v
theorem y0{k:Option Key}{v:Value}(h:ZE k v=true):(k=none/\v=.none)\/∃j,k=some j/\dA j v=true:=by
 cases k with
 |none=>cases v<;>first|exact .inl ⟨rfl,rfl⟩|cases h
 |some j=>exact .inr ⟨j,rfl,h⟩
theorem bW{k:Key}:dA k .none=false:=by cases k<;>rfl
theorem zDO{prog:Program}{w:World}{A:Around}{E:Value->Shared->Prop}{s:Shared}{Q:Bool->Shared->Prop}(h:Q true s):wpAny (model prog w) A (eqBool .none .none) Q E s:=by
 show wpAny (model prog w) A (do rule "eq-bool.same-object";pure true) Q E s
 (exact wpAny_bind (wpAny_rule (wpAny_pure h)))
noncomputable def YR(prog:Program)(w:World):PySem.KeyKind prog w (Option Key) where
 is:=ZE
 hash:=fun k=>match k with
  |none=>4238894112
  |some k=>zLB w k
 inj:=fun v a b ha hb=>by
  rcases y0 ha with⟨rfl,rfl⟩|⟨i,rfl,h1⟩
  ·rcases y0 hb with⟨rfl,_⟩|⟨j,rfl,h2⟩
   ·rfl
   ·rw[bW] at h2;cases h2
  ·rcases y0 hb with⟨rfl,rfl⟩|⟨j,rfl,h2⟩
   ·rw[bW] at h1;cases h1
   ·rw[(yL prog w).inj v i j h1 h2]
 byValue:=fun k v h=>by
  rcases y0 h with⟨rfl,rfl⟩|⟨i,rfl,h1⟩
  ·rfl
  ·exact(yL prog w).byValue i v h1
 pyHash:=fun hv h=>by
  rcases y0 hv with⟨rfl,rfl⟩|⟨i,rfl,h1⟩
  ·exact gH h
  ·exact(yL prog w).pyHash h1 h
 eqBool:=fun {A E s a b u v Q} hu hv h=>by
  rcases y0 hu with⟨rfl,rfl⟩|⟨i,rfl,h1⟩
  ·rcases y0 hv with⟨rfl,rfl⟩|⟨j,rfl,h2⟩
   ·exact zDO (by simpa using h)
   ·have h':Q false s:=by rw[decide_eq_false (by intro z;cases z)] at h;exact h
    rcases yN h2 with⟨n,t,rfl,rfl⟩|⟨y,t,rfl,rfl⟩
    ·exact SeqAt.EqAt.none_int n t _ _ _ _ h'
    ·exact SeqAt.EqAt.none_str y t _ _ _ _ h'
  ·rcases y0 hv with⟨rfl,rfl⟩|⟨j,rfl,h2⟩
   ·have h':Q false s:=by rw[decide_eq_false (by intro z;cases z)] at h;exact h
    rcases yN h1 with⟨n,t,rfl,rfl⟩|⟨y,t,rfl,rfl⟩
    ·exact SeqAt.EqAt.int_none n t _ _ _ _ h'
    ·exact SeqAt.EqAt.str_none y t _ _ _ _ h'
   ·refine(yL prog w).eqBool h1 h2 ?_
    have e:decide (some i=some j)=decide (i=j):=by
     by_cases q:i=j
     ·rw[decide_eq_true q,decide_eq_true (by rw[q])]
     ·rw[decide_eq_false q,decide_eq_false (fun z=>q (Option.some.inj z))]
    rw[e] at h;exact h
 «strs»:=fun k x t v h=>by
  rcases y0 h with⟨rfl,e⟩|⟨i,rfl,h1⟩
  ·cases e
  ·exact(yL prog w).strs i x t v h1
noncomputable def vO:Option Key->V
 |none=>.non
 |some k=>kV k
theorem zIT{P:Program}{w:World}{k:Option Key}{u:Value}(r:RelV (vO k) u):(YR P w).is k u=true:=by
 cases k with
 |none=>cases (show u=Value.none from r);rfl
 |some k=>exact J5 (P:=P) (w:=w) r
noncomputable def valO(kvs:List (Key×V)):Option Key->Option V
 |none=>none
 |some k=>X9 kvs k
theorem zLX{P:Program}{w:World}{h:Heap}{a:Addr}{vs:List (Key×Value)}(d:h.DictOf (yL P w) a vs):h.MapOf (YR P w) a (fun k=>match k with|none=>none|some k=>valueAt vs k):=by
 obtain⟨o,es,ep,ho,hc,hdat,hk,hf⟩:=d.mapOf
 refine⟨o,es,ep,ho,hc,hdat,fun e he=>?_,fun k=>?_⟩
 ·obtain⟨j,h1,h2⟩:=hk e he
  exact⟨some j,h1,h2⟩
 ·cases k with
  |some k=>exact hf k
  |none=>
   have nof:∀e∈es,ZE none e.key=false:=fun e he=>by
    obtain⟨j,h1,_⟩:=hk e he
    rcases yN (show dA j e.key=true from h1) with⟨n,t,_,q⟩|⟨y,t,_,q⟩<;>rw[q]<;>rfl
   show findBy ZE es none=none
   unfold findBy
   rw[Array.find?_eq_none.mpr (fun e he=>by rw[nof e he];exact Bool.false_ne_true)]
   rfl
section
variable{X:Cx}{pins:List (Addr×Obj)}{σ:L2.St}{H:Hp}{s:Shared}{a:Addr}{kvs:List (Key×V)}{k:Option Key}{u r:Value}{d:V}{A:Around}{E:Value->Shared->Prop}
theorem WX{vs:List (Key×Value)}(rel:KV kvs vs)(k:Option Key):RelO (valO kvs k) (match k with|none=>none|some k=>valueAt vs k):=by
 cases k with
 |none=>exact trivial
 |some k=>exact rel.val k
theorem zLW{Q:Value->Shared->Prop}(I:Inv X pins σ H s)(e:Rd H a (.dK kvs))(ry:RelV (vO k) u)(h:∀s',Inv X pins σ H s'->Q (.bool (valO kvs k).isSome) s'):wpAny (model X.prog X.w) A (compareOp .In u (.ref a)) Q E s:=by
 obtain⟨z,hd,vs,rel,dd⟩:=XM I.hok e
 refine wpAny_in_of (zIT ry) hd (zLX dd) ?_
 rw[<-(WX rel k).isSome_eq]
 exact h _ (I.tok _)
end
noncomputable abbrev MD:=En->Option (List Key×List D)
noncomputable def lDc(K:Fg)(f:MD):TE:=fun σ H Q=>∃O0 r ks l,R K O0 H r σ/\f r=some (ks,l)/\∀a kvs H',Same H H'->Rd H' a (.dK kvs)->kvs.map (·.1)=ks->IsL K (Ow O0 r σ) H' l (kvs.map (·.2))->Q (.ref a) H'
noncomputable def lFd(K:Fg)(f:MD):TE:=fun σ H Q=>∃O0 r ks l,R K O0 H r σ/\f r=some (ks,l)/\∀a kvs H',Same H H'->H a=none->H' a=some (.dK kvs)->kvs.map (·.1)=ks->IsL K (fun b=>Ow O0 r σ b\/b=a) H' l (kvs.map (·.2))->Q (.ref a) H'
noncomputable def DDc(X:Cx)(e:Expr)(f:MD):Prop:=PE X e (lDc X.K f)
noncomputable def DFd(X:Cx)(e:Expr)(f:MD):Prop:=PE X e (lFd X.K f)
noncomputable def rL(f:ME):MD:=fun r=>(f r).bind fun d=>match d with
 |.dct ks l=>some (ks,l)
 |_=>none
noncomputable def mD0:MD:=fun _=>some ([],[])
noncomputable def zAJ(f:MD):ME:=fun r=>(f r).map fun q=>.dct q.1 q.2
noncomputable def zBG(i:Nat)(f:MD):MS:=fun r=>(f r).bind fun q=>(zKK i q.1 q.2 r).map .nx
noncomputable def zEX(i:Nat):MS:=fun r=>match r[i]? with
 |some (.d ks l)=>some (.rg ks l r)
 |_=>none
noncomputable def zLA:D->Option (Option Key)
 |.non=>some none
 |.int i=>some (some (.inl i))
 |.str s=>some (some (.inr ⟨s.toArray⟩))
 |_=>none
noncomputable def yS:List Key->List D->Key->Option D
 |k'::ks,d::l,k=>if k'=k then some d else yS ks l k
 |_,_,_=>none
noncomputable def zC6(ks:List Key)(l:List D):Option Key->Option D
 |none=>none
 |some k=>yS ks l k
noncomputable def zE6(neg:Bool)(fk:ME)(fd:MD):MB:=fun r=>(fk r).bind fun kd=>(fd r).bind fun q=>(zLA kd).map fun k=>if neg then !(zC6 q.1 q.2 k).isSome else (zC6 q.1 q.2 k).isSome
noncomputable def zC2(fd:MD)(fk:ME):ME:=fun r=>(fd r).bind fun q=>(fk r).bind fun kd=>(zIJ kd).bind fun k=>yS q.1 q.2 k
theorem zDB{K:Fg}{O:Addr->Prop}{H:Hp}{d:D}{v:V}{k:Option Key}(e:zLA d=some k)(h:Is K O H d v):v=vO k:=by
 cases d<;>first|(cases e;done)|skip
 ·cases e;rw[Is.non_iff] at h;exact h
 ·cases e;rw[Is.int_iff] at h;exact h
 ·cases e;rw[Is.str_iff] at h;exact h
theorem uV{K:Fg}{O:Addr->Prop}{H:Hp}(k:Key):∀{kvs:List (Key×V)} {l:List D},IsL K O H l (kvs.map (·.2))->(∃d v,yS (kvs.map (·.1)) l k=some d/\X9 kvs k=some v/\Is K O H d v)\/(yS (kvs.map (·.1)) l k=none/\X9 kvs k=none)
 |[],[],_=>.inr ⟨rfl,rfl⟩
 |[],d'::l,h=>by unfold IsL at h;obtain⟨_,_,e,_⟩:=h;cases e
 |p::kvs,[],h=>by unfold IsL at h;cases h
 |p::kvs,d'::l,h=>by
  unfold IsL at h
  obtain⟨x,y,e,h1,h2⟩:=h
  rw[List.map_cons] at e
  cases e
  by_cases q:p.1=k
  ·exact .inl ⟨d',p.2,by rw[List.map_cons];unfold yS;rw[if_pos q],v7 q,h1⟩
  ·have e1:yS ((p::kvs).map (·.1)) (d'::l) k=yS (kvs.map (·.1)) l k:=by rw[List.map_cons];show(if p.1=k then _ else _)=_;rw[if_neg q]
   rw[e1,v8 q]
   exact uV k h2
theorem Q4{K:Fg}{O:Addr->Prop}{H:Hp}(k:Option Key){kvs:List (Key×V)}{l:List D}(h:IsL K O H l (kvs.map (·.2))):(∃d v,zC6 (kvs.map (·.1)) l k=some d/\valO kvs k=some v/\Is K O H d v)\/(zC6 (kvs.map (·.1)) l k=none/\valO kvs k=none):=by
 cases k with
 |none=>exact .inr ⟨rfl,rfl⟩
 |some k=>exact uV k h
theorem Rd.same{H H':Hp}{a:Addr}{u:HO}(s:Same H H')(h:Rd H a u):Rd H' a u:=by
 rcases h with h|⟨ob,h⟩
 ·exact .inl (s _ _ h)
 ·exact .inr ⟨ob,s _ _ h⟩
section
variable{X:Cx}{a k e b o:Expr}{f g x:ME}{fd:MD}{pos ps pn p apos cpos:Pos}{nm:Str}
theorem zIE(h:DE X a f):DDc X a (rL f):=by
 refine PE.conseq h fun σ H Q hq=>?_
 obtain⟨O0,r,ks,l,hR,e,q⟩:=hq
 obtain⟨d,e1,e⟩:=bind_some e
 refine⟨O0,r,d,hR,e1,fun v H1 s1 i1=>?_⟩
 cases d<;>first|(cases e;done)|skip
 cases e
 rw[Is.dct_iff] at i1
 obtain⟨c,kvs,rfl,_,rd,ek,il⟩:=i1
 exact q c kvs H1 s1 rd ek il
theorem JG:DFd X (.Dict [] [] pos) mD0:=by
 refine PE.conseq QC fun σ H Q hq=>?_
 obtain⟨O0,r,ks,l,hR,e,q⟩:=hq
 cases e
 exact fun p hp=>q p [] _ (z3 hp) hp zN rfl .nil
theorem cX:CallR X (.type "dict") (fun xs H Q=>∃p kvs,xs=[.ref p]/\Rd H p (.dK kvs)/\∀l,H l=none->Q (.ref l) (upd H l (.dK kvs))):=by
 intro pins s σ H xs us Q I r h
 obtain⟨p,kvs,rfl,e,q⟩:=h
 obtain⟨u,rfl,rx⟩:=rS r
 cases rx
 exact JP I e fun l s' hl I'=>⟨.ref l,_,I',rfl,q l hl⟩
theorem zDK{p':Pos}(hg:Gl X "dict")(hm:X.mg "dict" = none)(ha:DDc X a fd)(hs:starEach [a] X.env=(false,eval a X.env)::starEach [] X.env:=by rfl):DFd X (.Call (.Name "dict" p') [a] [] pos) fd:=by
 refine PE.conseq (kI cX hg hm PyProof.Rows.boot_dict (yD ha xH hs) (he:=hs)) fun σ H Q hq=>?_
 obtain⟨O0,r,ks,l,hR,e,q⟩:=hq
 refine⟨O0,r,ks,l,hR,e,fun c kvs H1 s1 rd ek il=>⟨c,kvs,rfl,rd,fun t ht=>?_⟩⟩
 refine q t kvs _ (s1.trans (z3 ht)) (s1.free ht) zN ek ?_
 exact IsL.mono (Same.kp (z3 ht) _) (hR.same s1).ol (fun b z nn=>z.elim id fun z=>by subst z;exact absurd ht nn) _ _ il
theorem zEF(h:DFd X a fd):DE X a (zAJ fd):=by
 refine PE.conseq h fun σ H Q hq=>?_
 obtain⟨O0,r,d,hR,e,q⟩:=hq
 obtain⟨⟨ks,l⟩,e1,rfl⟩:=map_some e
 refine⟨O0,r,ks,l,hR,e1,fun c kvs H1 s1 n1 e2 ek il=>q _ H1 s1 ?_⟩
 have ol:qV (fun b=>Ow O0 r σ b\/b=c) H1:=fun b z=>z.elim (fun z=>(hR.same s1).ol b z) fun z=>by subst z;exact⟨.dK kvs,e2,trivial⟩
 rw[Is.dct_iff]
 exact⟨c,kvs,rfl,hR.nofresh n1,.inl e2,ek,IsL.mono (Same.kp (Same.refl H1) _) ol (fun _ z _=>.inl z) _ _ il⟩
theorem XI(i:Nat){pos':Pos}(he:DFd X e fd)(hN:X.N.Nodup)(hi:X.N[i]?=some nm:=by rfl)(hx:Loc X.env.scope nm:=by first|exact Or.inl rfl|exact Or.inr rfl)(hs:swapsWith e (some (.Name nm pos')) pos.line X.env=pure false:=by rfl)(hf:X.fn nm=true\/X.env.scope.names.lookup nm=some .local:=by first|exact .inl rfl|exact .inr rfl):DS X (.Assign [.Name nm pos'] e pos) (zBG i fd):=by
 refine PS.conseq (gJ hN hi hx he hs hf) fun Dn σ H hq=>?_
 obtain⟨O0,r,fl',hR,e,q⟩:=hq
 obtain⟨⟨ks,l⟩,e1,e2⟩:=bind_some e
 obtain⟨r',e4,rfl⟩:=map_some e2
 obtain⟨hl,np,rfl⟩:=r6 e4
 refine⟨O0,r,ks,l,hR,e1,fun p kvs H1 s1 n1 e3 ek i1=>?_⟩
 obtain⟨R1,k1⟩:=hR.setd s1 n1 e3 ek i1 hl np
 exact q _ H1 R1 k1
theorem zD0(i:Nat){pos':Pos}(h:PE X (.Name nm pos') (jY i)):DS X (.Return (some (.Name nm pos')) pos) (zEX i):=by
 refine PS.conseq (tI h) fun Dn σ H hq=>?_
 obtain⟨O0,r,fl',hR,e,q⟩:=hq
 have⟨ks,l,e1,e2⟩:∃ks l,r[i]?=some (.d ks l)/\fl'=.rg ks l r:=by
  unfold zEX at e
  split at e
  ·rename_i ks l h;cases e;exact⟨ks,l,h,rfl⟩
  ·cases e
 subst e2
 obtain⟨c,kvs,q1,q2,q4,q3⟩:=hR.dct i ks l e1
 refine⟨.ref c,q1,q c kvs σ H hR (Kp.refl H r σ) (.inr ⟨i,l,.inr ⟨ks,e1⟩,q1⟩) (hR.loc i l c (.inr (.inr ⟨ks,e1⟩)) q1) q2 q4 ?_⟩
 exact IsL.mono (Same.kp (Same.refl H) _) hR.ol (fun b z _=>z.elim .inl fun z=>by subst z;exact .inr ⟨i,l,by rw[e1];rfl,q1⟩) _ _ q3
theorem zDX(hk:DE X k g)(ho:DDc X o fd)(hm:behindInMarks .In o=false:=by rfl):DT X (.Compare k [.In] [o] pos) (zE6 false g fd):=by
 refine PT.conseq (zBR (t:=fun σ H Q=>lE X.K g σ H fun y H1=>lDc X.K fd σ H1 fun x H2=>∃c kvs j,x=.ref c/\Rd H2 c (.dK kvs)/\y=vO j/\Q (.bl (valO kvs j).isSome) H2) ?_ hm) fun σ H Q hq=>?_
 ·intro pins s σ H Q I h
  refine thn (hk pins s σ H _ I h) fun iv s1 ⟨y,H1,I1,ry,q1⟩=>thn (ho pins s1 σ H1 _ I1 q1) fun u s2 ⟨x,H2,I2,rx,c,kvs,j,ex,rd,ey,q2⟩=>?_
  subst ex ey
  obtain rfl:u=Value.ref c:=rx
  exact zLW I2 rd ry fun s3 I3=>⟨.bl (valO kvs j).isSome,H2,I3,rfl,q2⟩
 ·obtain⟨O0,r,t,hR,e,q⟩:=hq
  obtain⟨kd,e1,e⟩:=bind_some e
  obtain⟨⟨ks,l⟩,e2,e⟩:=bind_some e
  obtain⟨j,e3,rfl⟩:=map_some e
  refine⟨O0,r,kd,hR,e1,fun y H1 s1 iy=>⟨O0,r,ks,l,hR.same s1,e2,fun c kvs H2 s2 rd ek il=>⟨c,kvs,j,rfl,rd,zDB e3 iy,_,rfl,?_⟩⟩⟩
  subst ek
  have q':=q H2 (s1.trans s2)
  rcases Q4 j il with⟨dd,v,p1,p2,p3⟩|⟨p1,p2⟩
  ·rw[p1] at q';rw[p2];exact q'
  ·rw[p1] at q';rw[p2];exact q'
theorem JO(hu:X.A.units+1<cLine)(ho:DDc X o fd)(hk:DE X k g)(hs:zKB k:=by intro _ _;rfl):DE X (.Subscript o k pos) (zC2 fd g):=by
 refine PE.conseq (YO hu ho hk hs) fun σ H Q hq=>?_
 obtain⟨O0,r,d,hR,e,q⟩:=hq
 obtain⟨⟨ks,l⟩,e1,e⟩:=bind_some e
 obtain⟨kd,e2,e⟩:=bind_some e
 obtain⟨j,e3,e⟩:=bind_some e
 refine⟨O0,r,ks,l,hR,e1,fun c kvs H1 s1 rd ek il=>⟨O0,r,kd,hR.same s1,e2,fun y H2 s2 iy=>?_⟩⟩
 subst ek
 have il2:=il.same s2 (hR.same s1).ol
 rcases uV j il2 with⟨dd,v,p1,p2,p3⟩|⟨p1,p2⟩
 ·rw[p1] at e;cases e
  exact⟨c,v,rfl,.inl ⟨kvs,j,Rd.same s2 rd,pP e3 iy,p2.symm⟩,q v H2 (s1.trans s2) p3⟩
 ·rw[p1] at e;cases e
end
open PySem PySem.Spec PyProof.Rows L2 PySem.W
open PySem PySem.Spec PyProof.Rows L2 PySem.W TS
open PySem PySem.Spec PyProof.Rows L2 PySem.W TS
open PySem PySem.Spec PyProof.Rows L2 PySem.W
theorem un1{k:Nat}{A:Around}(r:Room k A):A.units+1<cLine:=by have:=un2 r;omega
noncomputable def Y5(n:Nat)(d:D):Bool:=okD d && (toP d).canLay0 && decide ((toP d).depth<=n)
noncomputable def eqN(n:Nat)(x y:D):Option D:=if Y5 n x=true/\Y5 n y=true then some (.bl (PyData.eqv (toP x) (toP y))) else none
noncomputable def neN(n:Nat)(x y:D):Option D:=if Y5 n x=true/\Y5 n y=true then some (.bl (!PyData.eqv (toP x) (toP y))) else none
noncomputable def zI8(K:Fg)(n:Nat)(neg:Bool):R2:=fun x y H Q=>∃O dx dy,Is K O H dx x/\Is K O H dy y/\Y5 n dx=true/\Y5 n dy=true/\Q (.bl (if neg then !PyData.eqv (toP dx) (toP dy) else PyData.eqv (toP dx) (toP dy))) H
theorem QG{X:Cx}{n:Nat}(hu:X.A.units+n<cLine):OpR X (compareOp .Eq) (zI8 X.K n false):=by
 intro pins s σ H x y v u Q I rx ry hq
 obtain⟨O,dx,dy,ix,iy,lx,ly,q⟩:=hq
 unfold Y5 at lx ly
 simp only[Bool.and_eq_true,decide_eq_true_eq] at lx ly
 obtain⟨as,qa⟩:=kZ I dx x v lx.1.1 ix rx
 obtain⟨bs,qb⟩:=kZ I dy y u ly.1.1 iy ry
 exact PySem.SeqAt.compareEq_reads qa qb lx.1.2 ly.1.2 (by have:=Nat.min_le_left (toP dx).depth (toP dy).depth;omega) ⟨.bl _,H,I,rfl,q⟩
theorem cL{X:Cx}{n:Nat}(hu:X.A.units+n<cLine):OpR X (compareOp .NotEq) (zI8 X.K n true):=by
 intro pins s σ H x y v u Q I rx ry hq
 obtain⟨O,dx,dy,ix,iy,lx,ly,q⟩:=hq
 unfold Y5 at lx ly
 simp only[Bool.and_eq_true,decide_eq_true_eq] at lx ly
 obtain⟨as,qa⟩:=kZ I dx x v lx.1.1 ix rx
 obtain⟨bs,qb⟩:=kZ I dy y u ly.1.1 iy ry
 exact PySem.SeqAt.compareNe_reads qa qb lx.1.2 ly.1.2 (by have:=Nat.min_le_left (toP dx).depth (toP dy).depth;omega) ⟨.bl _,H,I,rfl,q⟩
theorem QO{K:Fg}{n:Nat}:OpD K (zI8 K n false) (eqN n):=by
 intro O H dx dy d vx vy Q ol ix iy e q
 unfold eqN at e
 split at e
 ·rename_i h
  cases e
  exact⟨O,dx,dy,ix,iy,h.1,h.2,q _ H (Same.refl H) (by rw[Is.bl_iff];rfl)⟩
 ·cases e
theorem cO{K:Fg}{n:Nat}:OpD K (zI8 K n true) (neN n):=by
 intro O H dx dy d vx vy Q ol ix iy e q
 unfold neN at e
 split at e
 ·rename_i h
  cases e
  exact⟨O,dx,dy,ix,iy,h.1,h.2,q _ H (Same.refl H) (by rw[Is.bl_iff];rfl)⟩
 ·cases e
theorem dZ{k:Nat}{A:Around}(r:Room k A)(h:16<=k):A.units+400<cLine:=by have:=r.un;omega
noncomputable def t7(n:Nat)(m:MF)(fs:ML):MD:=fun r=>(fs r).bind fun ds=>if ds.length=n then (m (ds.map .v)).bind fun p=>match p.1 with
 |.g ks l=>some (ks,l)
 |_=>none
 else none
section
variable{X:Cx}{k n:Nat}{f:Addr}{fd:FuncData}{ps:List Str}{m:MF}{x:Str}{p pos:Pos}{e:Expr}{es:List Expr}{fs:ML}
theorem zDL(F:FnOk X.prog X.w X.K X.mg X.base CX0 k f fd ps (spD X.K n m))(hr:Room k X.A)(hg:Gl X x)(hm:X.mg x=some (.ref f))(hk:PySem.W.keepIn X.K (.ref f)=true)(hb:Binds X.K fd ps [])(ha:DA X (e::es) fs)(hdb:(x == ("__debug__" : Str))=false:=by decide)(he:starEach (e::es) X.env=(false,eval e X.env)::starEach es X.env:=by rfl)(hpl:(backTo pos (starEach es X.env)).any (·.1)=false:=by rfl):DFd X (.Call (.Name x p) (e::es) [] pos) (t7 n m fs):=by
 refine PE.conseq (vR (E:=fun _ _ _=>False) (dvs:=[]) F hr hg hm hk hb .nil cZ ha hdb he hpl) fun σ H Q h=>?_
 obtain⟨O0,r,ks,l,hR,e,q⟩:=h
 obtain⟨ds,e1,e2⟩:=bind_some e
 split at e2
 ·rename_i hl
  obtain⟨⟨rs,as'⟩,e3,e4⟩:=bind_some e2
  refine⟨O0,r,ds,hR,e1,fun vs H1 s1 il=>bN hR s1 il hl e3 ?_⟩
  cases rs with
  |v d=>cases e4
  |f l'=>cases e4
  |g ks' l'=>cases e4;exact fun a kvs H2 pf na ea ek il2=>q a kvs H2 (s1.trans pf.same) (s1.free na) ea ek il2
 ·cases e2
end
noncomputable def sFz(i:Nat)(g:MS):MS:=fun r=>match r[i]? with
 |some (.d ks l)=>g (r.set i (.v (.dct ks l)))
 |_=>none
theorem R.fz2{K:Fg}{O0:Addr->Prop}{H H2:Hp}{r:En}{σ:St}{i:Nat}{ks:List Key}{l:List D}{c:Addr}{kvs:List (Key×V)}(h:R K O0 H r σ)(er:r[i]?=some (.d ks l))(c1:σ[i]?=some (some (.ref c)))(c2:H c=some (.dK kvs))(c3:kvs.map (·.1)=ks)(c4:IsL K (Ow O0 r σ) H l (kvs.map (·.2)))(hne:∀b,b≠c->H2 b=H b)(h2:∃o,H2 c=some o/\Mb o)(rd:Rd H2 c (.dK kvs)):R K O0 H2 (r.set i (.v (.dct ks l))) σ/\Kp H r σ H2 (r.set i (.v (.dct ks l))) σ/\IsL K (Ow O0 (r.set i (.v (.dct ks l))) σ) H2 l (kvs.map (·.2))/\¬Ow O0 (r.set i (.v (.dct ks l))) σ c:=by
 have hi:i<r.length:=(List.getElem?_eq_some_iff.mp er).1
 have own:∀j m,((r.set i (.v (.dct ks l)))[j]?).bind Sl.own=some m->i≠j/\(r[j]?).bind Sl.own=some m:=fun j m e=>by
  by_cases hj:i=j
  ·subst hj;rw[zK hi] at e;cases e
  ·rw[zE hj] at e;exact⟨hj,e⟩
 have mtt:∀j m,((r.set i (.v (.dct ks l)))[j]?).bind Sl.mt=some m->(r[j]?).bind Sl.mt=some m:=fun j m e=>by
  by_cases hj:i=j
  ·subst hj;rw[zK hi] at e;cases e
  ·rw[zE hj] at e;exact e
 have at_:∀b,wS (r.set i (.v (.dct ks l))) σ b->wS r σ b:=fun b ⟨j,m,e,q⟩=>⟨j,m,(own j m e).2,q⟩
 have nc:¬Ow O0 (r.set i (.v (.dct ks l))) σ c:=fun z=>z.elim (fun z=>h.loc i l c (.inr (.inr ⟨ks,er⟩)) c1 z) fun⟨j,m,e,q⟩=>by
  obtain⟨hj,e'⟩:=own j m e
  exact hj (h.apart i j c l m (by rw[er];rfl) e' c1 q)
 have ow:∀b,Ow O0 (r.set i (.v (.dct ks l))) σ b->H b≠none->Ow O0 r σ b:=fun b z _=>z.imp id (at_ b)
 have mc:MutAt r σ c:=⟨i,l,by rw[er];rfl,c1⟩
 have kp:dB (Ow O0 r σ) H H2:=fun b o e n=>(hne b fun z=>n (by rw[z];exact .inr mc.own)).trans e
 have i4:=IsL.mono kp h.ol ow _ _ c4
 refine⟨⟨by simp[h.len],fun j d ej=>?_,fun j m ej=>?_,fun j k b m n e4 e5=>h.apart j k b m n (own j m e4).2 (own k n e5).2,fun b z=>?_,fun j m b ej q=>?_,fun j m b ej q=>?_,fun j ks' m ej=>?_⟩,⟨fun b o e n=>(hne b fun z=>n (by rw[z];exact mc)).trans e,fun b e=>?_,fun b o e mb=>?_,fun b z=>.inl (at_ b z),fun b ⟨j,m,e,q⟩=>.inl ⟨j,m,mtt j m e,q⟩,fun j m ej=>?_,fun j m ej=>?_⟩,i4,nc⟩
 ·by_cases hj:i=j
  ·subst hj
   rw[zK hi] at ej
   cases ej
   refine⟨.ref c,c1,?_⟩
   rw[Is.dct_iff]
   exact⟨c,kvs,rfl,nc,rd,c3,i4⟩
  ·rw[zE hj] at ej
   obtain⟨v,q1,q2⟩:=h.val j d ej
   exact⟨v,q1,Is.mono kp h.ol ow _ _ q2⟩
 ·have hj:i≠j:=fun z=>by subst z;rw[zK hi] at ej;cases ej
  rw[zE hj] at ej
  obtain⟨b,ys,q1,q2,q3⟩:=h.own j m ej
  exact⟨b,ys,q1,(hne b fun z=>by rw[z,c2] at q2;cases q2).trans q2,IsL.mono kp h.ol ow _ _ q3⟩
 ·obtain⟨o,e,mb⟩:=h.o0 b z
  exact⟨o,(hne b fun y=>h.loc i l c (.inr (.inr ⟨ks,er⟩)) c1 (by rw[<-y];exact z)).trans e,mb⟩
 ·have hj:i≠j:=fun z=>by subst z;rw[zK hi] at ej;rcases ej with ej|ej|⟨_,ej⟩<;>cases ej
  rw[zE hj] at ej
  exact h.loc j m b ej q
 ·have hj:i≠j:=fun z=>by subst z;rw[zK hi] at ej;cases ej
  rw[zE hj] at ej
  exact h.par j m b ej q
 ·have hj:i≠j:=fun z=>by subst z;rw[zK hi] at ej;cases ej
  rw[zE hj] at ej
  obtain⟨b,kvs',q1,q2,q4,q3⟩:=h.dct j ks' m ej
  have hb:b≠c:=fun z=>hj (h.apart i j c l m (by rw[er];rfl) (by rw[ej];rfl) c1 (by rw[q1,z]))
  exact⟨b,kvs',q1,(hne b hb).trans q2,q4,IsL.mono kp h.ol ow _ _ q3⟩
 ·by_cases hb:b=c
  ·subst hb;obtain⟨o,e',_⟩:=h2;rw[e] at e';cases e'
  ·rw[<-hne b hb];exact e
 ·by_cases hb:b=c
  ·subst hb;exact h2
  ·exact⟨o,(hne b hb).trans e,mb⟩
 ·have hj:i≠j:=fun z=>by subst z;rw[er] at ej;cases ej
  exact⟨⟨m,by rw[zE hj];exact ej⟩,rfl⟩
 ·have hj:i≠j:=fun z=>by subst z;rw[er] at ej;cases ej
  exact⟨by rw[zE hj];exact ej,rfl⟩
theorem R.fz{K:Fg}{O0:Addr->Prop}{H:Hp}{r:En}{σ:St}{i:Nat}{ks:List Key}{l:List D}(h:R K O0 H r σ)(er:r[i]?=some (.d ks l)):R K O0 H (r.set i (.v (.dct ks l))) σ/\Kp H r σ H (r.set i (.v (.dct ks l))) σ:=by
 obtain⟨c,kvs,c1,c2,c3,c4⟩:=h.dct i ks l er
 obtain⟨a,b,_⟩:=h.fz2 er c1 c2 c3 c4 (fun _ _=>rfl) ⟨_,c2,trivial⟩ (.inl c2)
 exact⟨a,b⟩
theorem zJZ(i:Nat){X:Cx}{st:Stmt}{g:MS}(h:DS X st g):DS X st (sFz i g):=by
 refine PS.conseq h fun Dn σ H hq=>?_
 obtain⟨O0,r,fl,hR,e,q⟩:=hq
 unfold sFz at e
 split at e
 ·rename_i ks l er
  obtain⟨R1,k1⟩:=hR.fz er
  exact⟨O0,_,fl,R1,e,q.before R1 k1⟩
 ·cases e
open PySem PySem.Spec PyProof.Rows L2 PySem.W
structure Mst where
 most:Int
 steps:Int
 wait:List D
 come:List D
 ended:D
 defs:D
noncomputable def mfs(most steps:Int)(w c:Addr)(ve vd:V):List (Str×V):=[("most",.int most),("steps",.int steps),("waiting",.ref w),("come",.ref c),("ended",ve),("defs",vd)]
structure Mch(K:Fg)(O:Addr->Prop)(H:Hp)(C a w c:Addr)(st:Mst):Prop where
 ex:∃dx xs ys ve vd,H a=some (.ins C dx (mfs st.most st.steps w c ve vd))/\H w=some (.lst xs)/\H c=some (.lst ys)/\Is K O H st.ended ve/\Is K O H st.defs vd/\IsL K O H st.wait xs/\IsL K O H st.come ys
 wc:w≠c
 oa:O a
 ow:O w
 oc:O c
noncomputable def NoOwn(r:En):Prop:=∀i:Nat,(r[i]?).bind Sl.own=none
structure McR(K:Fg)(O:Addr->Prop)(H:Hp)(C:Addr)(z:Nat)(a w c:Addr)(st:Mst)(r:En)(σ:St):Prop where
 ms:Mch K O H C a w c st
 rr:R K O H r σ
 no:NoOwn r
 me:σ[z]?=some (some (.ref a))
noncomputable def KeepM(a w c:Addr)(H H':Hp):Prop:=∀b o,H b=some o->b≠a->b≠w->b≠c->H' b=some o
theorem KeepM.refl{a w c:Addr}(H:Hp):KeepM a w c H H:=fun _ _ e _ _ _=>e
theorem KeepM.trans{a w c:Addr}{H H1 H2:Hp}(x:KeepM a w c H H1)(y:KeepM a w c H1 H2):KeepM a w c H H2:=fun b o e h1 h2 h3=>y b o (x b o e h1 h2 h3) h1 h2 h3
theorem KeepM.same{a w c:Addr}{H H':Hp}(s:Same H H'):KeepM a w c H H':=fun b o e _ _ _=>s b o e
section
variable{K:Fg}{O:Addr->Prop}{H H':Hp}{z:Nat}{C a w c:Addr}{st:Mst}{r:En}{σ:St}
theorem NoOwn.at{q:Sl->Option (List D)}(hq:∀x l,q x=some l->x.own=some l)(h:NoOwn r){b:Addr}:¬AtS q r σ b:=fun⟨i,l,e,_⟩=>by
 obtain⟨x,e1,e2⟩:=Option.bind_eq_some_iff.mp e
 have:=h i
 rw[e1] at this
 rw[show(some x).bind Sl.own=x.own from rfl,hq x l e2] at this
 cases this
theorem NoOwn.ow(h:NoOwn r){b:Addr}:Ow O r σ b↔O b:=⟨fun z=>z.elim id fun z=>absurd z (h.at fun _ _ e=>e),.inl⟩
theorem McR.is(m:McR K O H C z a w c st r σ){d:D}{v:V}:Is K (Ow O r σ) H' d v↔Is K O H' d v:=by
 rw[show Ow O r σ=O from funext fun b=>propext m.no.ow]
theorem McR.ol(m:McR K O H C z a w c st r σ):qV O H:=m.rr.o0
theorem Mch.kp(m:Mch K O H C a w c st)(k:KeepM a w c H H'):dB O H H':=fun b o e n=>k b o e (fun z=>n (z ▸ m.oa)) (fun z=>n (z ▸ m.ow)) fun z=>n (z ▸ m.oc)
theorem McR.step{st':Mst}(m:McR K O H C z a w c st r σ)(k:KeepM a w c H H')(n:Mch K O H' C a w c st'):McR K O H' C z a w c st' r σ:=by
 have kp:=m.ms.kp k
 have ol:qV O H':=fun b z=>by
  obtain⟨dx,xs,ys,ve,vd,e1,e2,e3,_⟩:=n.ex
  by_cases h1:b=a
  ·rw[h1];exact⟨_,e1,trivial⟩
  ·by_cases h2:b=w
   ·rw[h2];exact⟨_,e2,trivial⟩
   ·by_cases h3:b=c
    ·rw[h3];exact⟨_,e3,trivial⟩
    ·obtain⟨o,e,mb⟩:=m.ol b z
     exact⟨o,k b o e h1 h2 h3,mb⟩
 refine⟨n,⟨m.rr.len,fun i d e=>?_,fun i l e=>?_,m.rr.apart,ol,m.rr.loc,m.rr.par,fun i ks l e=>?_⟩,m.no,m.me⟩
 ·obtain⟨v,e1,q⟩:=m.rr.val i d e
  rw[m.is] at q
  exact⟨v,e1,m.is.mpr (Is.mono kp m.ol (fun _ z _=>z) _ _ q)⟩
 ·have:=m.no i
  rw[qT e] at this;cases this
 ·have:=m.no i
  rw[e] at this;cases this
theorem Mch.mono(m:Mch K O H C a w c st)(ol:qV O H)(s:Same H H'):Mch K O H' C a w c st:=by
 obtain⟨dx,xs,ys,ve,vd,e1,e2,e3,e4,e5,e6,e7⟩:=m.ex
 exact⟨⟨dx,xs,ys,ve,vd,s _ _ e1,s _ _ e2,s _ _ e3,e4.same s ol,e5.same s ol,e6.same s ol,e7.same s ol⟩,m.wc,m.oa,m.ow,m.oc⟩
theorem McR.same(m:McR K O H C z a w c st r σ)(s:Same H H'):McR K O H' C z a w c st r σ:=m.step (KeepM.same s) (m.ms.mono m.ol s)
theorem McR.aw(m:Mch K O H C a w c st):a≠w/\a≠c:=by
 obtain⟨dx,xs,ys,ve,vd,e1,e2,e3,_⟩:=m.ex
 exact⟨zE3 e1 e2 (by intro z;cases z),zE3 e1 e3 (by intro z;cases z)⟩
theorem Mch.put{H2:Hp}{dx:Addr}{xs ys:List V}{ve vd:V}{most steps:Int}{wa co:List D}{en de:D}(m:Mch K O H C a w c st)(ol:qV O H)(k:KeepM a w c H H2)(e1:H2 a=some (.ins C dx (mfs most steps w c ve vd)))(e2:H2 w=some (.lst xs))(e3:H2 c=some (.lst ys))(h1:Is K O H en ve)(h2:Is K O H de vd)(h3:IsL K O H wa xs)(h4:IsL K O H co ys):Mch K O H2 C a w c ⟨most,steps,wa,co,en,de⟩:=by
 have kp:=m.kp k
 have f:∀(b:Addr),O b->H b≠none->O b:=fun _ z _=>z
 exact⟨⟨dx,xs,ys,ve,vd,e1,e2,e3,Is.mono kp ol f _ _ h1,Is.mono kp ol f _ _ h2,IsL.mono kp ol f _ _ h3,IsL.mono kp ol f _ _ h4⟩,m.wc,m.oa,m.ow,m.oc⟩
end
noncomputable abbrev MEf:=Mst->En->Option (D×Mst)
noncomputable def lM(K:Fg)(C:Addr)(z:Nat)(m:MEf):TE:=fun σ H Q=>∃O a w c st r d st',McR K O H C z a w c st r σ/\m st r=some (d,st')/\∀v H',McR K O H' C z a w c st' r σ->Is K O H' d v->KeepM a w c H H'->Q v H'
noncomputable def spM(K:Fg)(C:Addr)(n:Nat)(m:Mst->List D->Option (D×Mst)):Sp:=fun vs H Q _=>∃O a w c st ds us d st',vs=.ref a::us/\ds.length=n/\Mch K O H C a w c st/\qV O H/\IsL K O H ds us/\m st ds=some (d,st')/\∀v H',Mch K O H' C a w c st'->qV O H'->Is K O H' d v->KeepM a w c H H'->Q v H'
section
variable{X:Cx}{C:Addr}{z:Nat}{e o:Expr}{f:ME}{pos apos bpos cpos npos:Pos}{x:Str}
noncomputable abbrev DMe(X:Cx)(C:Addr)(z:Nat)(e:Expr)(m:MEf):Prop:=PE X e (lM X.K C z m)
theorem xR(h:DE X e f):DMe X C z e (fun st r=>(f r).map fun d=>(d,st)):=by
 refine PE.conseq h fun σ H Q hq=>?_
 obtain⟨O,a,w,c,st,r,d,st',m,e1,q⟩:=hq
 obtain⟨d',e2,e3⟩:=map_some e1
 cases e3
 exact⟨O,r,d,m.rr,e2,fun v H' s iv=>q v H' (m.same s) ((m.same s).is.mp iv) (KeepM.same s)⟩
theorem qB{O:Addr->Prop}{H:Hp}{a w c:Addr}{st:Mst}{r:En}{σ:St}(m:McR X.K O H C z a w c st r σ):σ[z]?=some (some (.ref a)):=m.me
noncomputable def zEO(f:Str)(sel:Mst->D):Prop:=∀(K:Fg) (O:Addr->Prop) (H:Hp) (st:Mst) (w c:Addr) (ve vd:V),Is K O H st.ended ve->Is K O H st.defs vd->∃v,(mfs st.most st.steps w c ve vd).lookup f=some v/\Is K O H (sel st) v
theorem zDH:zEO "most" fun st=>.int st.most:=fun K O H st w c ve vd _ _=>⟨_,rfl,by rw[Is.int_iff]⟩
theorem dJ:zEO "steps" fun st=>.int st.steps:=fun K O H st w c ve vd _ _=>⟨_,rfl,by rw[Is.int_iff]⟩
theorem u0:zEO "ended" fun st=>st.ended:=fun K O H st w c ve vd h _=>⟨_,rfl,h⟩
theorem uQ{fn:Str}{sel:Mst->D}(hv:PE X (.Name x npos) (jY z))(cl:Cls X.K C)(na:NoAttr X.K C fn)(hf:zEO fn sel)(hb:attributeBase (.Name x npos) fn X.env (eval (.Name x npos) X.env)=eval (.Name x npos) X.env:=by rfl):DMe X C z (.Attribute (.Name x npos) fn pos) (fun st _=>some (sel st,st)):=by
 refine PE.conseq (uK hv hb) fun σ H Q hq=>?_
 obtain⟨O,a,w,c,st,r,d,st',m,e1,q⟩:=hq
 cases e1
 obtain⟨dx,xs,ys,ve,vd,g1,g2,g3,g4,g5,g6,g7⟩:=m.ms.ex
 obtain⟨v,l,iv⟩:=hf X.K O H st w c ve vd g4 g5
 exact⟨.ref a,qB m,a,C,dx,_,v,rfl,g1,cl,na,l,q v H m iv (KeepM.refl H)⟩
noncomputable def zBP(st:Mst)(d:D):Mst:={ st with wait:=st.wait++[d] }
noncomputable def zF2(st:Mst)(d:D):Mst:={ st with come:=st.come++[d] }
theorem YV(hv:PE X (.Name x npos) (jY z))(cl:Cls X.K C)(na:NoAttr X.K C "waiting")(h:DE X e f)(hs:starEach [e] X.env=(false,eval e X.env)::starEach [] X.env:=by rfl)(hb:attributeBase (.Name x npos) "waiting" X.env (eval (.Name x npos) X.env)=eval (.Name x npos) X.env:=by rfl)(hbase:attributeBase (.Attribute (.Name x npos) "waiting" bpos) "append" X.env (eval (.Attribute (.Name x npos) "waiting" bpos) X.env)=eval (.Attribute (.Name x npos) "waiting" bpos) X.env:=by rfl)(hfew:((backTo cpos (starEach [e] X.env)).all (fun x=>!x.1) && (backToKw cpos (keywordEach [] X.env)).all (fun x=>x.1.isSome)
   && decide (([e]:List Expr).length+([]:List Keyword).length+(if ([]:List Keyword).isEmpty then 0 else 1)<30))=true:=by rfl)(hline:(apos.endLine == cpos.line)=true:=by rfl)(hplain:(backTo cpos (starEach [] X.env)).any (·.1)=false:=by rfl):DMe X C z (.Call (.Attribute (.Attribute (.Name x npos) "waiting" bpos) "append" apos) [e] [] cpos) (fun st r=>(f r).bind fun d=>if st.wait.length<sizeLine then some (.non,zBP st d) else none):=by
 refine PE.conseq (tO PySem.F.plainAttrs_list PySem.F.slot_list_append PySem.F.type_list_append jE (uK hv hb) (yD h xH hs) hbase hfew hline hs hplain) fun σ H Q hq=>?_
 obtain⟨O,a,w,c,st,r,d,st',m,e1,q⟩:=hq
 obtain⟨d',e2,e3⟩:=bind_some e1
 split at e3
 ·rename_i hl
  cases e3
  obtain⟨dx,xs,ys,ve,vd,g1,g2,g3,g4,g5,g6,g7⟩:=m.ms.ex
  refine⟨.ref a,qB m,a,C,dx,_,.ref w,rfl,g1,cl,na,rfl,.inl ⟨rfl,_,SqL.of g2⟩,O,r,d',m.rr,e2,fun v H1 s1 iv=>?_⟩
  have m1:=m.same s1
  have aw:=McR.aw m.ms
  refine⟨w,xs,v,rfl,rfl,s1 _ _ g2,by rw[<-g6.length];exact hl,?_⟩
  have k1:KeepM a w c H1 (upd H1 w (.lst (xs++[v]))):=fun b o e _ h2 _=>by rw[zM h2];exact e
  have n:=Mch.put (K:=X.K) (H2:=upd H1 w (.lst (xs++[v]))) (wa:=st.wait++[d']) m1.ms m1.ol k1 (by rw[zM aw.1];exact s1 _ _ g1) zN (by rw[zM m.ms.wc.symm];exact s1 _ _ g3) (g4.same s1 m.ol) (g5.same s1 m.ol) ((g6.same s1 m.ol).append (.cons (m1.is.mp iv) .nil)) (g7.same s1 m.ol)
  exact q .non _ (m1.step k1 n) (by rw[Is.non_iff]) ((KeepM.same s1).trans k1)
 ·cases e3
theorem zCW(hv:PE X (.Name x npos) (jY z))(cl:Cls X.K C)(na:NoAttr X.K C "come")(h:DE X e f)(hs:starEach [e] X.env=(false,eval e X.env)::starEach [] X.env:=by rfl)(hb:attributeBase (.Name x npos) "come" X.env (eval (.Name x npos) X.env)=eval (.Name x npos) X.env:=by rfl)(hbase:attributeBase (.Attribute (.Name x npos) "come" bpos) "append" X.env (eval (.Attribute (.Name x npos) "come" bpos) X.env)=eval (.Attribute (.Name x npos) "come" bpos) X.env:=by rfl)(hfew:((backTo cpos (starEach [e] X.env)).all (fun x=>!x.1) && (backToKw cpos (keywordEach [] X.env)).all (fun x=>x.1.isSome)
   && decide (([e]:List Expr).length+([]:List Keyword).length+(if ([]:List Keyword).isEmpty then 0 else 1)<30))=true:=by rfl)(hline:(apos.endLine == cpos.line)=true:=by rfl)(hplain:(backTo cpos (starEach [] X.env)).any (·.1)=false:=by rfl):DMe X C z (.Call (.Attribute (.Attribute (.Name x npos) "come" bpos) "append" apos) [e] [] cpos) (fun st r=>(f r).bind fun d=>if st.come.length<sizeLine then some (.non,zF2 st d) else none):=by
 refine PE.conseq (tO PySem.F.plainAttrs_list PySem.F.slot_list_append PySem.F.type_list_append jE (uK hv hb) (yD h xH hs) hbase hfew hline hs hplain) fun σ H Q hq=>?_
 obtain⟨O,a,w,c,st,r,d,st',m,e1,q⟩:=hq
 obtain⟨d',e2,e3⟩:=bind_some e1
 split at e3
 ·rename_i hl
  cases e3
  obtain⟨dx,xs,ys,ve,vd,g1,g2,g3,g4,g5,g6,g7⟩:=m.ms.ex
  refine⟨.ref a,qB m,a,C,dx,_,.ref c,rfl,g1,cl,na,rfl,.inl ⟨rfl,_,SqL.of g3⟩,O,r,d',m.rr,e2,fun v H1 s1 iv=>?_⟩
  have m1:=m.same s1
  have aw:=McR.aw m.ms
  refine⟨c,ys,v,rfl,rfl,s1 _ _ g3,by rw[<-g7.length];exact hl,?_⟩
  have k1:KeepM a w c H1 (upd H1 c (.lst (ys++[v]))):=fun b o e _ _ h2=>by rw[zM h2];exact e
  have n:=Mch.put (K:=X.K) (H2:=upd H1 c (.lst (ys++[v]))) (co:=st.come++[d']) m1.ms m1.ol k1 (by rw[zM aw.2];exact s1 _ _ g1) (by rw[zM m.ms.wc];exact s1 _ _ g2) zN (g4.same s1 m.ol) (g5.same s1 m.ol) (g6.same s1 m.ol) ((g7.same s1 m.ol).append (.cons (m1.is.mp iv) .nil))
  exact q .non _ (m1.step k1 n) (by rw[Is.non_iff]) ((KeepM.same s1).trans k1)
 ·cases e3
theorem oB{α:Type}{l:List α}{d:α}(h:l.getLast?=some d):l[l.length-1]?=some d/\l=l.dropLast++[d]:=by
 rw[List.getLast?_eq_getElem?] at h
 refine⟨h,?_⟩
 have hn:l≠[]:=by rintro rfl;simp at h
 rw[List.getElem?_eq_getElem (by have:=List.length_pos_iff.mpr hn;omega)] at h
 have:=List.dropLast_concat_getLast hn
 rw[List.getLast_eq_getElem,Option.some.inj h] at this
 exact this.symm
theorem IsL.last{K:Fg}{O:Addr->Prop}{H:Hp}{l:List D}{xs:List V}{d:D}(h:IsL K O H l xs)(e:l.getLast?=some d):∃y,xs[xs.length-1]?=some y/\Is K O H d y/\IsL K O H l.dropLast xs.dropLast:=by
 obtain⟨y,e1,iy⟩:=h.get (oB e).1
 rw[h.length] at e1
 refine⟨y,e1,iy,?_⟩
 rw[List.dropLast_eq_take,List.dropLast_eq_take,h.length]
 exact h.take _
theorem zCU(hv:PE X (.Name x npos) (jY z))(cl:Cls X.K C)(na:NoAttr X.K C "waiting")(hb:attributeBase (.Name x npos) "waiting" X.env (eval (.Name x npos) X.env)=eval (.Name x npos) X.env:=by rfl)(hbase:attributeBase (.Attribute (.Name x npos) "waiting" bpos) "pop" X.env (eval (.Attribute (.Name x npos) "waiting" bpos) X.env)=eval (.Attribute (.Name x npos) "waiting" bpos) X.env:=by rfl)(hline:(apos.endLine == cpos.line)=true:=by rfl):DMe X C z (.Call (.Attribute (.Attribute (.Name x npos) "waiting" bpos) "pop" apos) [] [] cpos) (fun st _=>st.wait.getLast?.map fun d=>(d,{ st with wait:=st.wait.dropLast })):=by
 refine PE.conseq (tN PySem.F.plainAttrs_list PySem.F.slot_list_pop PySem.F.type_list_pop tX (uK hv hb) hbase hline) fun σ H Q hq=>?_
 obtain⟨O,a,w,c,st,r,d,st',m,e1,q⟩:=hq
 obtain⟨d',e2,e3⟩:=map_some e1
 cases e3
 obtain⟨dx,xs,ys,ve,vd,g1,g2,g3,g4,g5,g6,g7⟩:=m.ms.ex
 have aw:=McR.aw m.ms
 obtain⟨y,ey,iy,il⟩:=g6.last e2
 refine⟨.ref a,qB m,a,C,dx,_,.ref w,rfl,g1,cl,na,rfl,.inl ⟨rfl,_,SqL.of g2⟩,w,xs,y,rfl,rfl,g2,ey,?_⟩
 have k1:KeepM a w c H (upd H w (.lst xs.dropLast)):=fun b o e _ h2 _=>by rw[zM h2];exact e
 have n:=Mch.put (K:=X.K) (H2:=upd H w (.lst xs.dropLast)) (wa:=st.wait.dropLast) m.ms m.ol k1 (by rw[zM aw.1];exact g1) zN (by rw[zM m.ms.wc.symm];exact g3) g4 g5 il g7
 exact q y _ (m.step k1 n) (Is.mono (m.ms.kp k1) m.ol (fun _ z _=>z) _ _ iy) k1
theorem zCV(hv:PE X (.Name x npos) (jY z))(cl:Cls X.K C)(na:NoAttr X.K C "come")(hb:attributeBase (.Name x npos) "come" X.env (eval (.Name x npos) X.env)=eval (.Name x npos) X.env:=by rfl)(hbase:attributeBase (.Attribute (.Name x npos) "come" bpos) "pop" X.env (eval (.Attribute (.Name x npos) "come" bpos) X.env)=eval (.Attribute (.Name x npos) "come" bpos) X.env:=by rfl)(hline:(apos.endLine == cpos.line)=true:=by rfl):DMe X C z (.Call (.Attribute (.Attribute (.Name x npos) "come" bpos) "pop" apos) [] [] cpos) (fun st _=>st.come.getLast?.map fun d=>(d,{ st with come:=st.come.dropLast })):=by
 refine PE.conseq (tN PySem.F.plainAttrs_list PySem.F.slot_list_pop PySem.F.type_list_pop tX (uK hv hb) hbase hline) fun σ H Q hq=>?_
 obtain⟨O,a,w,c,st,r,d,st',m,e1,q⟩:=hq
 obtain⟨d',e2,e3⟩:=map_some e1
 cases e3
 obtain⟨dx,xs,ys,ve,vd,g1,g2,g3,g4,g5,g6,g7⟩:=m.ms.ex
 have aw:=McR.aw m.ms
 obtain⟨y,ey,iy,il⟩:=g7.last e2
 refine⟨.ref a,qB m,a,C,dx,_,.ref c,rfl,g1,cl,na,rfl,.inl ⟨rfl,_,SqL.of g3⟩,c,ys,y,rfl,rfl,g3,ey,?_⟩
 have k1:KeepM a w c H (upd H c (.lst ys.dropLast)):=fun b o e _ _ h2=>by rw[zM h2];exact e
 have n:=Mch.put (K:=X.K) (H2:=upd H c (.lst ys.dropLast)) (co:=st.come.dropLast) m.ms m.ol k1 (by rw[zM aw.2];exact g1) (by rw[zM m.ms.wc];exact g2) zN g4 g5 g6 il
 exact q y _ (m.step k1 n) (Is.mono (m.ms.kp k1) m.ol (fun _ z _=>z) _ _ iy) k1
end
open PySem PySem.Spec PyProof.Rows L2 PySem.W
noncomputable abbrev MEa:=Mst->En->Option (List D×Mst)
noncomputable def lMa(K:Fg)(C:Addr)(z:Nat)(m:MEa):TA:=fun σ H Q=>∃O a w c st r l st',McR K O H C z a w c st r σ/\m st r=some (l,st')/\∀vs H',McR K O H' C z a w c st' r σ->IsL K O H' l vs->KeepM a w c H H'->Q vs H'
noncomputable abbrev DMa(X:Cx)(C:Addr)(z:Nat)(es:List Expr)(m:MEa):Prop:=PA X es (lMa X.K C z m)
noncomputable def wB:MEa:=fun st _=>some ([],st)
noncomputable def z4(m:MEf)(ms:MEa):MEa:=fun st r=>(m st r).bind fun p=>(ms p.2 r).map fun q=>(p.1::q.1,q.2)
section
variable{X:Cx}{C:Addr}{z:Nat}{e:Expr}{es:List Expr}{m:MEf}{ms:MEa}{x:Str}{pos apos npos p:Pos}
theorem qS:DMa X C z [] wB:=by
 refine PA.conseq xH fun σ H Q hq=>?_
 obtain⟨O,a,w,c,st,r,l,st',mr,e1,q⟩:=hq
 cases e1
 exact q [] H mr .nil (KeepM.refl H)
theorem yR(h:DMe X C z e m)(hs:DMa X C z es ms)(hst:starEach (e::es) X.env=(false,eval e X.env)::starEach es X.env:=by rfl):DMa X C z (e::es) (z4 m ms):=by
 refine PA.conseq (yD h hs hst) fun σ H Q hq=>?_
 obtain⟨O,a,w,c,st,r,l,st',mr,e1,q⟩:=hq
 obtain⟨⟨d,st1⟩,e2,e3⟩:=bind_some e1
 obtain⟨⟨l1,st2⟩,e4,e5⟩:=map_some e3
 cases e5
 refine⟨O,a,w,c,st,r,d,st1,mr,e2,fun v H1 m1 iv k1=>⟨O,a,w,c,st1,r,l1,st2,m1,e4,fun vs H2 m2 il k2=>?_⟩⟩
 exact q (v::vs) H2 m2 (.cons (Is.mono (m1.ms.kp k2) m1.ol (fun _ z _=>z) _ _ iv) il) (k1.trans k2)
theorem zCZ{fs:ML}(h:DA X es fs):DMa X C z es (fun st r=>(fs r).map fun l=>(l,st)):=by
 refine PA.conseq h fun σ H Q hq=>?_
 obtain⟨O,a,w,c,st,r,l,st',mr,e1,q⟩:=hq
 obtain⟨l',e2,e3⟩:=map_some e1
 cases e3
 refine⟨O,r,l,mr.rr,e2,fun vs H' s il=>q vs H' (mr.same s) ?_ (KeepM.same s)⟩
 rw[show Ow O r σ=O from funext fun b=>propext mr.no.ow] at il
 exact il
noncomputable def wT(n:Nat)(mm:Mst->List D->Option (D×Mst))(ms:MEa):MEf:=fun st r=>(ms st r).bind fun p=>if p.1.length=n then mm p.2 p.1 else none
variable{k n:Nat}{f:Addr}{fd:FuncData}{ps:List Str}{mm:Mst->List D->Option (D×Mst)}{mn:Str}
theorem oZ{O:Addr->Prop}{H:Hp}{a w c:Addr}{st st':Mst}{r:En}{σ:St}{ds:List D}{us:List V}{d:D}{Q:VK}{E:XK}(mr:McR X.K O H C z a w c st r σ)(hl:ds.length=n)(il:IsL X.K O H ds us)(e:mm st ds=some (d,st'))(q:∀v H',McR X.K O H' C z a w c st' r σ->Is X.K O H' d v->KeepM a w c H H'->Q v H'):spM X.K C n mm (.ref a::us++[]) H Q E:=by
 rw[List.append_nil]
 exact⟨O,a,w,c,st,ds,us,d,st',rfl,hl,mr.ms,mr.ol,il,e,fun v H' m' ol' iv k=>q v H' (mr.step k m') iv k⟩
theorem qL{pl:Sem Bool}(hv:PE X (.Name x npos) (jY z))(cl:Cls X.K C)(hm:Meth X.K C mn f)(hn:∀(i j:Int) (w c:Addr) (ve vd:V),(mfs i j w c ve vd).lookup mn=none)(F:FnOk X.prog X.w X.K X.mg X.base CX0 k f fd ps (spM X.K C n mm))(hr:Room k X.A)(hb:Binds X.K fd ps [])(ha:DMa X C z (e::es) ms)(hst:starEach (e::es) X.env=(false,eval e X.env)::starEach es X.env:=by rfl)(hpl:(backTo pos (starEach es X.env)).any (·.1)=false:=by rfl)(ht:eval (.Call (.Attribute (.Name x npos) mn apos) (e::es) [] pos) X.env=(do
   let ov <- eval (.Name x npos) X.env
   standAt apos.atName
   let (f,first) <- holding [ov] (getMethod ov mn pl)
   callWith pos f first (backTo pos (starEach (e::es) X.env)) (backToKw pos (keywordEach [] X.env))):=by rfl):DMe X C z (.Call (.Attribute (.Name x npos) mn apos) (e::es) [] pos) (wT n mm ms):=by
 refine PE.conseq (zB5 (E:=fun _ _ _=>False) (dvs:=[]) hv cl hm F hr hb .nil cZ ha hst hpl ht) fun σ H Q hq=>?_
 obtain⟨O,a,w,c,st,r,d,st',mr,e1,q⟩:=hq
 obtain⟨⟨ds,st1⟩,e2,e3⟩:=bind_some e1
 split at e3
 ·rename_i hl
  obtain⟨dx,xs,ys,ve,vd,g1,_⟩:=mr.ms.ex
  refine⟨.ref a,qB mr,a,dx,_,rfl,g1,hn _ _ _ _ _ _,O,a,w,c,st,r,ds,st1,mr,e2,fun vs H1 m1 il k1=>?_⟩
  exact oZ m1 hl il e3 fun v H' m' iv k'=>q v H' m' iv (k1.trans k')
 ·cases e3
theorem dH{pl:Sem Bool}(hv:PE X (.Name x npos) (jY z))(cl:Cls X.K C)(hm:Meth X.K C mn f)(hn:∀(i j:Int) (w c:Addr) (ve vd:V),(mfs i j w c ve vd).lookup mn=none)(F:FnOk X.prog X.w X.K X.mg X.base CX0 k f fd ps (spM X.K C 0 mm))(hr:Room k X.A)(hb:Binds X.K fd ps [])(ht:eval (.Call (.Attribute (.Name x npos) mn apos) [] [] pos) X.env=(do
   let ov <- eval (.Name x npos) X.env
   standAt apos.atName
   let (f,first) <- holding [ov] (getMethod ov mn pl)
   callWith pos f first (backTo pos (starEach [] X.env)) (backToKw pos (keywordEach [] X.env))):=by rfl):DMe X C z (.Call (.Attribute (.Name x npos) mn apos) [] [] pos) (fun st _=>mm st []):=by
 refine PE.conseq (W9 (E:=fun _ _ _=>False) (dvs:=[]) hv cl hm F hr hb .nil cZ ht) fun σ H Q hq=>?_
 obtain⟨O,a,w,c,st,r,d,st',mr,e1,q⟩:=hq
 obtain⟨dx,xs,ys,ve,vd,g1,_⟩:=mr.ms.ex
 refine⟨.ref a,qB mr,a,dx,_,rfl,g1,hn _ _ _ _ _ _,?_⟩
 exact oZ (us:=[]) (E:=fun _ _ _=>False) mr rfl .nil e1 q
end
noncomputable abbrev MEt:=Mst->En->Option (Bool×Mst)
noncomputable def lMt(K:Fg)(C:Addr)(z:Nat)(m:MEt):TT:=fun σ H Q=>∃O a w c st r b st',McR K O H C z a w c st r σ/\m st r=some (b,st')/\∀H',McR K O H' C z a w c st' r σ->KeepM a w c H H'->Q b H'
noncomputable abbrev DMt(X:Cx)(C:Addr)(z:Nat)(e:Expr)(m:MEt):Prop:=PT X e (lMt X.K C z m)
section
variable{X:Cx}{C:Addr}{z:Nat}{e:Expr}{m:MEf}
theorem gU{b:MB}(h:DT X e b):DMt X C z e (fun st r=>(b r).map fun z=>(z,st)):=by
 refine PT.conseq h fun σ H Q hq=>?_
 obtain⟨O,a,w,c,st,r,z,st',mr,e1,q⟩:=hq
 obtain⟨z',e2,e3⟩:=map_some e1
 cases e3
 exact⟨O,r,z,mr.rr,e2,fun H' s=>q H' (mr.same s) (KeepM.same s)⟩
end
inductive MFl where
 |nx (st:Mst) (r:En)|rt (d:D) (st:Mst) (r:En)
noncomputable abbrev MEs:=Mst->En->Option MFl
noncomputable def MFl.to(K:Fg)(O:Addr->Prop)(C:Addr)(z:Nat)(a w c:Addr)(H:Hp)(Dn:Ends):MFl->Prop
 |.nx st' r'=>∀σ' H',McR K O H' C z a w c st' r' σ'->KeepM a w c H H'->Dn.nx σ' H'
 |.rt d st' r'=>∀v σ' H',McR K O H' C z a w c st' r' σ'->Is K O H' d v->KeepM a w c H H'->Dn.rt v H'
noncomputable def lMs(K:Fg)(C:Addr)(z:Nat)(g:MEs):TS:=fun Dn σ H=>∃O a w c st r fl,McR K O H C z a w c st r σ/\g st r=some fl/\fl.to K O C z a w c H Dn
noncomputable abbrev DMs(X:Cx)(C:Addr)(z:Nat)(st:Stmt)(g:MEs):Prop:=PS X st (lMs X.K C z g)
noncomputable abbrev zAF(X:Cx)(C:Addr)(z:Nat)(sts:List Stmt)(g:MEs):Prop:=PSs X sts (lMs X.K C z g)
noncomputable def oQ:MEs:=fun st r=>some (.nx st r)
noncomputable def rG(g h:MEs):MEs:=fun st r=>(g st r).bind fun fl=>match fl with
 |.nx st' r'=>h st' r'
 |.rt d st' r'=>some (.rt d st' r')
noncomputable def uDo(m:MEf):MEs:=fun st r=>(m st r).map fun p=>.nx p.2 r
noncomputable def zAG(m:MEf):MEs:=fun st r=>(m st r).map fun p=>.rt p.1 p.2 r
noncomputable def zIH(z i:Nat)(m:MEf):MEs:=fun st r=>(m st r).bind fun p=>if i=z then none else (yQ i p.1 r).map fun r'=>.nx p.2 r'
noncomputable def uIf(t:MEt)(g h:MEs):MEs:=fun st r=>(t st r).bind fun p=>if p.1=true then g p.2 r else h p.2 r
theorem MFl.to_keep{K:Fg}{O:Addr->Prop}{z:Nat}{C a w c:Addr}{H H1:Hp}{Dn:Ends}{fl:MFl}(k:KeepM a w c H H1)(h:fl.to K O C z a w c H Dn):fl.to K O C z a w c H1 Dn:=by
 cases fl with
 |nx st r=>exact fun σ' H' m k'=>h σ' H' m (k.trans k')
 |rt d st r=>exact fun v σ' H' m iv k'=>h v σ' H' m iv (k.trans k')
section
variable{X:Cx}{C:Addr}{z:Nat}{e:Expr}{m:MEf}{st1:Stmt}{sts:List Stmt}{g h:MEs}{pos pos':Pos}{x:Str}{t:MEt}
theorem tZ:zAF X C z [] oQ:=by
 refine PSs.conseq YM fun Dn σ H hq=>?_
 obtain⟨O,a,w,c,st,r,fl,mr,e1,q⟩:=hq
 cases e1
 exact q σ H mr (KeepM.refl H)
theorem jP(h1:DMs X C z st1 g)(h2:zAF X C z sts h):zAF X C z (st1::sts) (rG g h):=by
 refine PSs.conseq (qM h1 h2) fun Dn σ H hq=>?_
 obtain⟨O,a,w,c,st,r,fl,mr,e1,q⟩:=hq
 obtain⟨fl1,e2,e3⟩:=bind_some e1
 refine⟨O,a,w,c,st,r,fl1,mr,e2,?_⟩
 cases fl1 with
 |nx st' r'=>exact fun σ' H' m' k'=>⟨O,a,w,c,st',r',fl,m',e3,MFl.to_keep k' q⟩
 |rt d st' r'=>cases e3;exact q
theorem xO(h1:DMs X C z st1 g):zAF X C z [st1] g:=gI h1
theorem vI(he:DMe X C z e m)(hs:swapsWith e none pos.line X.env=pure false:=by rfl):DMs X C z (.Expr e pos) (uDo m):=by
 refine PS.conseq (pD he hs) fun Dn σ H hq=>?_
 obtain⟨O,a,w,c,st,r,fl,mr,e1,q⟩:=hq
 obtain⟨⟨d,st'⟩,e2,e3⟩:=map_some e1
 cases e3
 exact⟨O,a,w,c,st,r,d,st',mr,e2,fun v H' m' _ k'=>q σ H' m' k'⟩
theorem nS(he:DMe X C z e m):DMs X C z (.Return (some e) pos) (zAG m):=by
 refine PS.conseq (tI he) fun Dn σ H hq=>?_
 obtain⟨O,a,w,c,st,r,fl,mr,e1,q⟩:=hq
 obtain⟨⟨d,st'⟩,e2,e3⟩:=map_some e1
 cases e3
 exact⟨O,a,w,c,st,r,d,st',mr,e2,fun v H' m' iv k'=>q v σ H' m' iv k'⟩
theorem pJ{c:Expr}{as bs:List Stmt}(hc:DMt X C z c t)(ha:zAF X C z as g)(hb:zAF X C z bs h):DMs X C z (.If c as bs pos) (uIf t g h):=by
 refine PS.conseq (zHU hc ha hb) fun Dn σ H hq=>?_
 obtain⟨O,a,w,c,st,r,fl,mr,e1,q⟩:=hq
 obtain⟨⟨b,st'⟩,e2,e3⟩:=bind_some e1
 refine⟨O,a,w,c,st,r,b,st',mr,e2,fun H' m' k'=>?_⟩
 cases b with
 |true=>exact⟨O,a,w,c,st',r,fl,m',e3,MFl.to_keep k' q⟩
 |false=>exact⟨O,a,w,c,st',r,fl,m',e3,MFl.to_keep k' q⟩
end
open PySem PySem.Spec PyProof.Rows L2 PySem.W
section
variable{X:Cx}{C:Addr}{z:Nat}{e e':Expr}{m m':MEf}{f:ME}{pos pos' npos apos tpos:Pos}{x y:Str}
theorem NoOwn.set{r:En}{i:Nat}{d:D}(h:NoOwn r):NoOwn (r.set i (.v d)):=fun j=>by
 by_cases hj:i=j
 ·subst hj
  by_cases hi:i<r.length
  ·rw[zK hi];rfl
  ·rw[List.getElem?_eq_none (by rw[List.length_set];omega)];rfl
 ·rw[zE hj];exact h j
theorem zGQ(i:Nat)(he:DMe X C z e m)(hN:X.N.Nodup)(hi:X.N[i]?=some x:=by rfl)(hx:Loc X.env.scope x:=by first|exact Or.inl rfl|exact Or.inr rfl)(hs:swapsWith e (some (.Name x pos')) pos.line X.env=pure false:=by rfl)(hf:X.fn x=true\/X.env.kindOf x=some .local:=by first|exact Or.inl rfl|exact Or.inr rfl):DMs X C z (.Assign [.Name x pos'] e pos) (zIH z i m):=by
 refine PS.conseq (gJ hN hi hx he hs hf) fun Dn σ H hq=>?_
 obtain⟨O,a,w,c,st,r,fl,mr,e1,q⟩:=hq
 obtain⟨⟨d,st'⟩,e2,e3⟩:=bind_some e1
 split at e3
 ·cases e3
 ·rename_i h0
  obtain⟨r',e4,rfl⟩:=map_some e3
  obtain⟨hl,np,rfl⟩:=qH e4
  refine⟨O,a,w,c,st,r,d,st',mr,e2,fun v H1 m1 iv k1=>?_⟩
  obtain⟨R1,_⟩:=m1.rr.setv hl np (m1.is.mpr iv)
  exact q _ H1 ⟨m1.ms,R1,m1.no.set,by rw[List.getElem?_set_ne h0];exact m1.me⟩ k1
noncomputable def zIW(f:ME):MEs:=fun st r=>(f r).map fun d=>.nx { st with ended:=d } r
theorem zGS(hv:PE X (.Name x npos) (jY z))(cl:Cls X.K C)(na:NoAttr X.K C "ended")(h:DE X e f)(hs:swapsWith e (some (.Attribute (.Name x npos) "ended" apos)) pos.line X.env=pure false:=by rfl):DMs X C z (.Assign [.Attribute (.Name x npos) "ended" apos] e pos) (zIW f):=by
 refine PS.conseq (cK hv h hs) fun Dn σ H hq=>?_
 obtain⟨O,a,w,c,st,r,fl,mr,e1,q⟩:=hq
 obtain⟨d,e2,rfl⟩:=map_some e1
 refine⟨O,r,d,mr.rr,e2,fun v H1 s1 iv=>?_⟩
 have m1:=mr.same s1
 obtain⟨dx,xs,ys,ve,vd,g1,g2,g3,g4,g5,g6,g7⟩:=m1.ms.ex
 have aw:=McR.aw m1.ms
 refine⟨.ref a,qB m1,a,C,dx,_,rfl,g1,cl,na,by show 6<1000;decide,?_⟩
 have k1:KeepM a w c H1 (upd H1 a (.ins C dx (mfs st.most st.steps w c v vd))):=fun b o e h2 _ _=>by rw[zM h2];exact e
 have n:=Mch.put (K:=X.K) (H2:=upd H1 a (.ins C dx (mfs st.most st.steps w c v vd))) (en:=d) m1.ms m1.ol k1 zN (by rw[zM aw.1.symm];exact g2) (by rw[zM aw.2.symm];exact g3) (m1.is.mp iv) g5 g6 g7
 exact q σ _ (m1.step k1 n) ((KeepM.same s1).trans k1)
theorem zCO{j:Nat}(hv:PE X (.Name x npos) (jY z))(cl:Cls X.K C)(na:NoAttr X.K C "steps"):DMs X C z (.AugAssign (.Attribute (.Name x npos) "steps" tpos) .Add (.Constant (.int 1) j pos') pos) (fun st r=>some (.nx { st with steps:=st.steps+1 } r)):=by
 refine PS.conseq (tJ hv nJ zG6) fun Dn σ H hq=>?_
 obtain⟨O,a,w,c,st,r,fl,mr,e1,q⟩:=hq
 cases e1
 obtain⟨dx,xs,ys,ve,vd,g1,g2,g3,g4,g5,g6,g7⟩:=mr.ms.ex
 have aw:=McR.aw mr.ms
 refine⟨.ref a,qB mr,a,C,dx,_,.int st.steps,rfl,g1,cl,na,rfl,?_⟩
 refine⟨st.steps,1,rfl,rfl,dx,_,g1,by show 6<1000;decide,?_⟩
 have k1:KeepM a w c H (upd H a (.ins C dx (mfs st.most (st.steps+1) w c ve vd))):=fun b o e h2 _ _=>by rw[zM h2];exact e
 have n:=Mch.put (K:=X.K) (H2:=upd H a (.ins C dx (mfs st.most (st.steps+1) w c ve vd))) (steps:=st.steps+1) mr.ms mr.ol k1 zN (by rw[zM aw.1.symm];exact g2) (by rw[zM aw.2.symm];exact g3) g4 g5 g6 g7
 exact q σ _ (mr.step k1 n) k1
theorem zJL{i j:Mst->Int}(ha:DMe X C z e fun st _=>some (.int (i st),st))(hb:DMe X C z e' fun st _=>some (.int (j st),st))(hm:behindInMarks .GtE e'=false):DMt X C z (.Compare e [.GtE] [e'] pos) (fun st _=>some (decide (j st<=i st),st)):=by
 refine PT.conseq (YL zJG ha hb hm) fun σ H Q hq=>?_
 obtain⟨O,a,w,c,st,r,b,st',mr,e1,q⟩:=hq
 cases e1
 refine⟨O,a,w,c,st,r,_,st,mr,rfl,fun v H1 m1 iv k1=>⟨O,a,w,c,st,r,_,st,m1,rfl,fun u H2 m2 iu k2=>?_⟩⟩
 rw[Is.int_iff] at iv iu
 exact⟨i st,j st,iv,iu,_,rfl,q H2 m2 (k1.trans k2)⟩
theorem zH3(ha:DMe X C z e m)(he:∀whole,isTrue e X.env whole=(do let v <- whole;standAt e.pos;holding [v] (truthy v)):=by intro _;rfl):DMt X C z e (fun st r=>(m st r).bind fun p=>match p.1 with | .bl b=>some (b,p.2)|_=>none):=by
 refine PT.conseq (zF3 ha he) fun σ H Q hq=>?_
 obtain⟨O,a,w,c,st,r,b,st',mr,e1,q⟩:=hq
 obtain⟨⟨d,st1⟩,e2,e3⟩:=bind_some e1
 refine⟨O,a,w,c,st,r,d,st1,mr,e2,fun v H1 m1 iv k1=>?_⟩
 cases d<;>first|(cases e3;done)|skip
 cases e3
 rw[Is.bl_iff] at iv
 exact⟨b,iv,q H1 m1 k1⟩
end
noncomputable def mkU(n N:Nat)(g:MEs):Mst->List D->Option (D×Mst):=fun st ds=>(g st (.un::ds.map .v++List.replicate (N-(n+1)) .un)).bind fun fl=>match fl with
 |.nx st' _=>some (.non,st')
 |.rt d st' _=>some (d,st')
section
variable{P:Program}{w:World}{K:Fg}{mg:Str->Option Value}{base:Heap}{C:Addr}
theorem R.un0{O:Addr->Prop}{H:Hp}{r:En}{σ:St}{y:Option V}(h:R K O H r σ)(no:NoOwn r):R K O H (.un::r) (y::σ):=by
 have ow:Ow O r σ=O:=funext fun b=>propext no.ow
 have no':NoOwn (.un::r):=fun i=>by
  cases i with
  |zero=>rfl
  |succ i=>exact no i
 have ow':Ow O (.un::r) (y::σ)=O:=funext fun b=>propext no'.ow
 refine⟨by simp[h.len],fun i d e=>?_,fun i l e=>?_,fun i j b l m e1 e2 _ _=>?_,h.o0,fun i l b e _=>?_,fun i l b e _=>?_,fun i ks l e=>?_⟩
 ·cases i with
  |zero=>cases e
  |succ i=>
   obtain⟨v,e1,q⟩:=h.val i d e
   rw[ow] at q
   rw[ow']
   exact⟨v,e1,q⟩
 ·have:=no' i;rw[qT e] at this;cases this
 ·have:=no' i;rw[e1] at this;cases this
 ·exfalso
  have:=no' i
  rcases e with e|e|⟨ks,e⟩<;>rw[e] at this<;>cases this
 ·have:=no' i;rw[e] at this;cases this
 ·have:=no' i;rw[e] at this;cases this
theorem bU(ds:List D)(k:Nat):NoOwn (ds.map .v++List.replicate k .un):=fun i=>by
 by_cases hi:i<ds.length
 ·rw[List.getElem?_append_left (by simpa using hi),List.getElem?_map,List.getElem?_eq_getElem hi];rfl
 ·rw[List.getElem?_append_right (by simpa using hi),List.getElem?_replicate]
  split<;>rfl
theorem zAA{x qual:Str}{st:Stmt}{f:Addr}{fd:FuncData}{N ps:List Str}{k:Nat}{g:MEs}(F:Fun K x qual st f fd)(S:FnScope N ps (zP st))(n:Nat)(nN:Nat)(hn:ps.length=n+1:=by rfl)(hN:N.length=nN:=by rfl)(hb:∀(cdv:Value) (A:Around) (outer:List Env) (s:Shared) (H:Hp) (E:XK),Room k (A.deeper (envOfC qual (zP st) s.heap.objs.size f cdv)) ->
   zAF (zER CX0 P w K mg base N qual (zP st) f cdv A outer s H E).nox C 0 (qE st) g):FnOk P w K mg base CX0 (k+1) f fd ps (spM K C n (mkU n nN g)):=by
 subst hN
 refine F.ok S (fun vs H Q E h=>?_) (fun cdv A outer s H vs Q E hr h=>?_)
 ·obtain⟨O,a,w',c,st',ds,us,d,st2,rfl,hl,_,_,il,_⟩:=h
  have:=il.length
  rw[List.length_cons,hn];omega
 ·obtain⟨O,a,w',c,st',ds,us,d,st2,rfl,hl,ms,ol,il,e,q⟩:=h
  refine⟨_,hb cdv A outer s H E hr,?_⟩
  obtain⟨fl,e1,e2⟩:=bind_some e
  have hlu:=il.length
  have hst:L2.start N (.ref a::us)=some (.ref a)::(us.map some++List.replicate (N.length-(n+1)) none):=by
   unfold L2.start
   rw[List.map_cons,List.length_cons,<-hlu,hl];rfl
  rw[hst]
  have R0:R K O H (ds.map .v++List.replicate (N.length-(n+1)) .un) (us.map some++List.replicate (N.length-(n+1)) none):=R.start (R.args ol il)
  have mr:McR K O H C 0 a w' c st' (.un::(ds.map .v++List.replicate (N.length-(n+1)) .un)) (some (.ref a)::(us.map some++List.replicate (N.length-(n+1)) none)):=
   ⟨ms,R0.un0 (bU ds _),(fun i=>by cases i with|zero=>rfl|succ i=>exact bU ds _ i),rfl⟩
  refine⟨O,a,w',c,st',_,fl,mr,e1,?_⟩
  cases fl with
  |nx st3 r'=>cases e2;exact fun σ' H' m' k'=>q .non H' m'.ms m'.ol (by rw[Is.non_iff]) k'
  |rt d' st3 r'=>cases e2;exact fun v σ' H' m' iv k'=>q v H' m'.ms m'.ol iv k'
end
open PySem PySem.Spec PyProof.Rows L2 PySem.W
noncomputable def zIP(e:DictEntry)(q:List Nat×Addr):Prop:=∃t,e.key=.str ⟨q.1.toArray⟩ t/\e.val=.ref q.2
noncomputable def rF:List DictEntry->List (List Nat×Addr)->Prop
 |[],l=>l=[]
 |e::es,l=>∃q r,l=q::r/\zIP e q/\rF es r
noncomputable def Z2(mg:Str->Option Value)(K:Fg)(Ps:Params)(x:Str)(tbl:List (List Nat×Addr)):Prop:=∃(p:Addr) (es:Array DictEntry) (n:Nat),mg x=some (.ref p)/\(p == sysModules)=false/\K.lookup p=some ⟨.type "dict",none,.dict es n,#[]⟩/\PySem.W.KeysLit Ps es.toList/\rF es.toList tbl
noncomputable def j9(tbl:List (List Nat×Addr))(s:List Nat):Option Addr:=(tbl.find? fun q=>decide (q.1=s)).map (·.2)
theorem vF(s:List Nat):∀{es:List DictEntry} {tbl:List (List Nat×Addr)},rF es tbl->(es.find? fun d=>Value.isStrOf ⟨s.toArray⟩ d.key).map (·.val)=(j9 tbl s).map Value.ref
 |[],tbl,h=>by unfold rF at h;subst h;rfl
 |e::es,tbl,h=>by
  unfold rF at h
  obtain⟨q,r,rfl,⟨t,h1,h2⟩,h3⟩:=h
  have ih:=vF s h3
  have k:Value.isStrOf (⟨s.toArray⟩:Str) e.key=decide (q.1=s):=by
   rw[h1]
   show((⟨q.1.toArray⟩:Str) == ⟨s.toArray⟩)=_
   by_cases c:q.1=s
   ·rw[decide_eq_true c,c];simp
   ·rw[decide_eq_false c]
    refine beq_eq_false_iff_ne.mpr fun z=>c ?_
    have z2:=congrArg (fun x:Str=>x.cps.toList) z
    simpa using z2
  unfold j9 at ih ⊢
  rw[List.find?_cons,List.find?_cons,k]
  cases hc:decide (q.1=s)
  ·exact ih
  ·rw[Option.map_some,h2];rfl
section
variable{X:Cx}{C:Addr}{z:Nat}{b:Expr}{es:List Expr}{f:ME}{ms:MEa}{x wn:Str}{pos p' npos bp:Pos}{tbl:List (List Nat×Addr)}
noncomputable def zLU(p:Addr)(tbl:List (List Nat×Addr)):R2:=fun x y H Q=>∃(s:List Nat) (g:Addr),x=.ref p/\y=.str ⟨s.toArray⟩/\j9 tbl s=some g/\Q (.ref g) H
theorem zG3{p:Addr}{es:Array DictEntry}{n:Nat}(hl:X.K.lookup p=some ⟨.type "dict",none,.dict es n,#[]⟩)(hk:PySem.W.KeysLit X.w.params es.toList)(he:rF es.toList tbl):IxR X (zLU p tbl):=by
 intro value slice pins s σ H x y v u Q I rx ry h hs
 obtain⟨z,g,rfl,rfl,e,q⟩:=h
 cases rx
 obtain⟨t,rfl⟩:=ry
 have hmap:=JE (tbl:=[]) (Ps:=X.w.params) (x:="") I hl hk
 have fnd:=vF z he
 rw[e,<-b7] at fnd
 exact subscriptTail_builtinR (x:=.ref g) hmap.typeIs slot_dict_getitem.lookup (wpAny_getItem_of (Q:=fun r s'=>r=Value.ref g/\EP X pins σ Q r s') (strKind_is _ _ _ t) hmap fnd ⟨rfl,.ref g,H,I.tok _,rfl,q⟩) hs
noncomputable def atR(tbl:List (List Nat×Addr)):D->Option D
 |.str s=>(j9 tbl s).map .ref
 |_=>none
theorem zEE(h:Z2 X.mg X.K X.w.params wn tbl)(hg:Gl X wn)(hb:DE X b f)(hs:v4 b:=by intro _ _;rfl)(hd:(wn == ("__debug__" : Str))=false:=by decide):DE X (.Subscript (.Name wn p') b pos) (mUn (atR tbl) f):=by
 obtain⟨p,es,n,h1,h2,h3,h4,h5⟩:=h
 refine PE.conseq (zB7 (zG3 h3 h4 h5) (XW (p:=p) h1 hg hd) hb hs) fun σ H Q hq=>?_
 obtain⟨O0,r,d,hR,e,q⟩:=hq
 obtain⟨k,e1,e2⟩:=bind_some e
 cases k<;>first|(simp only[atR,reduceCtorEq] at e2;done)|skip
 simp only[atR] at e2
 obtain⟨v,e3,rfl⟩:=map_some e2
 refine⟨O0,r,_,hR,rfl,fun v1 H1 s1 i1=>⟨O0,r,_,hR.same s1,e1,fun v2 H2 s2 i2=>?_⟩⟩
 rw[Is.ref_iff] at i1
 rw[Is.str_iff] at i2
 exact⟨_,v,i1,i2,e3,q _ H2 (s1.trans s2) (by rw[Is.ref_iff])⟩
noncomputable def zES(n:Nat)(ways:List Nat->Option (Mst->List D->Option (D×Mst)))(f:ME)(ms:MEa):MEf:=fun st r=>(f r).bind fun d=>match d with
 |.str key=>(ways key).bind fun mm=>(ms st r).bind fun p=>if p.1.length=n then mm p.2 p.1 else none
 |_=>none
theorem zCR{k n:Nat}{ways:List Nat->Option (Mst->List D->Option (D×Mst))}(hG:Z2 X.mg X.K X.w.params wn tbl)(hg:Gl X wn)(hk:DE X b f)(hv:PE X (.Name x npos) (jY z))(ha:DMa X C z es ms)(hw:∀key mm,ways key=some mm->∃(g:Addr) (fd:FuncData) (ps:List Str),j9 tbl key=some g/\FnOk X.prog X.w X.K X.mg X.base CX0 k g fd ps (spM X.K C n mm)/\Binds X.K fd ps []/\PySem.W.keepIn X.K (.ref g)=true)(hr:Room k X.A)(hs:v4 b:=by intro _ _;rfl)(hd:(wn == ("__debug__" : Str))=false:=by decide)(he:starEach (.Name x npos::es) X.env=(false,eval (.Name x npos) X.env)::starEach es X.env:=by rfl)(hpl:(backTo pos (starEach es X.env)).any (·.1)=false:=by rfl):DMe X C z (.Call (.Subscript (.Name wn p') b bp) (.Name x npos::es) [] pos) (zES n ways f ms):=by
 intro pins s σ H Q I hq
 obtain⟨O,a,w,c,st,r,d,st',mr,e1,q⟩:=hq
 obtain⟨kd,e2,e3⟩:=bind_some e1
 cases kd<;>first|(cases e3;done)|skip
 rename_i key
 obtain⟨mm,e4,e5⟩:=bind_some e3
 obtain⟨⟨ds,st1⟩,e6,e7⟩:=bind_some e5
 split at e7
 ·rename_i hl
  obtain⟨g,fd,ps,g1,F,hb,hkp⟩:=hw key mm e4
  show wpAny _ _ (do callWith pos (<- eval (.Subscript (.Name wn p') b bp) X.env) [] (backTo pos (starEach (.Name x npos::es) X.env)) (backToKw pos (keywordEach [] X.env))) _ _ s
  refine wpAny_bind (thn ((zEE hG hg hk hs hd) pins s σ H (fun v H1=>v=.ref g/\Same H H1) I ⟨O,r,.ref g,mr.rr,by unfold mUn;rw[e2,Option.bind_some];show(j9 tbl key).map D.ref=_;rw[g1];rfl,fun v H1 s1 iv=>⟨by rw[Is.ref_iff] at iv;exact iv,s1⟩⟩) fun u s1 ⟨v,H1,I1,rv,ev,sm⟩=>?_)
  subst ev
  obtain rfl:u=Value.ref g:=rv
  have m1:=mr.same sm
  refine PySem.W.callWith_K (first:=[]) (h₀:=X.base) I.ok.mod.kin hkp (thn ((yD hv ha he) pos pins s1 σ H1 (fun vs H2=>spM X.K C n mm (vs++[]) H2 Q fun _ _ _=>False) I1 ⟨.ref a,qB m1,O,a,w,c,st,r,ds,st1,m1,e6,fun vs H2 m2 il k2=>?_⟩) fun us s2 ⟨vs,H2,I2,rr,q2⟩=>⟨I2.kIn,?_⟩) he hpl
  ·exact oZ m2 hl il e7 fun v H' m' iv k'=>q v H' m' iv (((KeepM.same sm).trans k2).trans k')
  ·exact nH F hr hb .nil cZ I2 rr q2
 ·cases e7
end
open PySem PySem.Spec PyProof.Rows L2 PySem.W
noncomputable def rN(K:Fg)(p:Addr)(ns:List Int):Prop:=∃(o:Obj) (its:Array Value) (n:Nat),K.lookup p=some o/\o.cls=.type "tuple" /\ o.data=.seq its n/\its.size<=sizeLine/\Vals (ns.map V.int) its.toList
noncomputable def zAE(K:Fg):List (List Nat×Addr)->List (List Nat×List Int)->Prop
 |[],l=>l=[]
 |q::r,l=>∃ns l',l=(q.1,ns)::l'/\rN K q.2 ns/\zAE K r l'
noncomputable def uU(tbl:List (List Nat×List Int))(s:List Nat):Option (List Int):=(tbl.find? fun q=>decide (q.1=s)).map (·.2)
theorem bX{K:Fg}(s:List Nat):∀{tr:List (List Nat×Addr)} {tbl:List (List Nat×List Int)},zAE K tr tbl->match j9 tr s,uU tbl s with
  |some p,some ns=>rN K p ns
  |none,none=>True
  |_,_=>False
 |[],tbl,h=>by unfold zAE at h;subst h;trivial
 |q::r,tbl,h=>by
  unfold zAE at h
  obtain⟨ns,l',rfl,h1,h2⟩:=h
  have ih:=bX s h2
  unfold j9 uU at ih ⊢
  rw[List.find?_cons,List.find?_cons]
  cases hc:decide (q.1=s)
  ·exact ih
  ·exact h1
noncomputable def zEN(mg:Str->Option Value)(K:Fg)(Ps:Params)(x:Str)(tbl:List (List Nat×List Int)):Prop:=∃tr,Z2 mg K Ps x tr/\zAE K tr tbl
noncomputable def zIN(tbl:List (List Nat×List Int)):D->Option D
 |.str s=>some (.tup (((uU tbl s).getD []).map .int))
 |_=>none
section
variable{X:Cx}{e b:Expr}{f:ME}{x:Str}{p' apos cpos tpos:Pos}{tbl:List (List Nat×List Int)}{kk:Nat}
theorem Y9{K:Fg}{O:Addr->Prop}{H:Hp}:∀l:List Int,IsL K O H (l.map D.int) (l.map V.int)
 |[]=>IsL.nil
 |i::l=>.cons (by rw[Is.int_iff]) (Y9 l)
theorem XX(h:zEN X.mg X.K X.w.params x tbl)(hg:Gl X x)(he:DE X e f)(hb:DE X b (mC (.tup [])))(hd:(x == ("__debug__" : Str))=false:=by decide)(hbase:attributeBase (.Name x p') "get" X.env (eval (.Name x p') X.env)=eval (.Name x p') X.env:=by rfl)(hfew:((backTo cpos (starEach [e,b] X.env)).all (fun x=>!x.1) && (backToKw cpos (keywordEach [] X.env)).all (fun x=>x.1.isSome) && decide (([e,b]:List Expr).length+([]:List Keyword).length+(if ([]:List Keyword).isEmpty then 0 else 1)<30))=true:=by rfl)(hline:(apos.endLine == cpos.line)=true:=by rfl)(htr:backTo cpos (starEach [e,b] X.env)=[(false,eval e X.env),(false,eval b X.env)]:=by rfl):DE X (.Call (.Attribute (.Name x p') "get" apos) [e,b] [] cpos) (mUn (zIN tbl) f):=by
 obtain⟨tr,⟨p,es,n,h1,h2,h3,h4,h5⟩,ht⟩:=h
 intro pins s σ H Q I hq
 obtain⟨O0,r,d,hR,e1,q⟩:=hq
 obtain⟨kd,e2,e3⟩:=bind_some e1
 cases kd<;>first|(cases e3;done)|skip
 rename_i key
 cases e3
 refine wpAny_Call_method hbase hfew hline PySem.F.plainAttrs_dict PySem.F.slot_dict_get PySem.F.type_dict_get (thn ((XW (p:=p) h1 hg hd) pins s σ H (fun v H1=>v=.ref p/\Same H H1) I ⟨O0,r,.ref p,hR,rfl,fun v H1 s1 iv=>⟨by rw[Is.ref_iff] at iv;exact iv,s1⟩⟩) fun u s1 ⟨v,H1,I1,rv,ev,sm⟩=>?_)
 subst ev
 obtain rfl:u=Value.ref p:=rv
 have mp:=JE (tbl:=[]) (Ps:=X.w.params) (x:="") I1 h3 h4
 refine⟨mp.typeIs,fun q hq=>by cases hq;exact⟨_,I1.kIn _ _ h3,rfl⟩,?_⟩
 rw[htr]
 have R1:=hR.same sm
 refine Calls.callWith_builtin rfl (Calls.evalArgs_plain (Calls.spliced_cons (thn (he pins s1 σ H1 (fun v H2=>v=.str ⟨key.toArray⟩/\Same H1 H2) I1 ⟨O0,r,.str key,R1,e2,fun v H2 s2 iv=>⟨by rw[Is.str_iff] at iv;exact iv,s2⟩⟩) fun iv s2 ⟨y,H2,I2,ry,ey,sm2⟩=>
  Calls.spliced_cons (thn (hb pins s2 σ H2 (fun v H3=>Same H2 H3/\Is X.K (Ow O0 r σ) H3 (.tup []) v) I2 ⟨O0,r,.tup [],R1.same sm2,rfl,fun v H3 s3 iv=>⟨s3,iv⟩⟩) fun fv s3 ⟨z,H3,I3,rz,sm3,iz⟩=>Calls.spliced_nil ?_))))
 subst ey
 obtain⟨t,rfl⟩:=ry
 have mp3:=JE (tbl:=[]) (Ps:=X.w.params) (x:="") I3 h3 h4
 have fnd:=vF key h5
 rw[<-b7] at fnd
 have sall:=(sm.trans sm2).trans sm3
 refine call_meetsIn PySem.F.slot_dict_get mp3.typeIs PySem.F.entry_dict_get (PySem.F.args_dict_get_3 _ _ _) (meets_dict_get_default (strKind X.prog X.w) p (strKind_is _ _ _ t) h2 fv) ⟨_,mp3,?_⟩
 rw[fnd]
 have lk:=bX key ht
 cases e5:j9 tr key with
 |none=>
  rw[e5] at lk
  cases e6:uU tbl key with
  |none=>
   refine⟨z,H3,I3.tok _,rz,q z H3 sall ?_⟩
   rw[e6];exact iz
  |some ns=>rw[e6] at lk;exact lk.elim
 |some a=>
  rw[e5] at lk
  cases e6:uU tbl key with
  |none=>rw[e6] at lk;exact lk.elim
  |some ns=>
   rw[e6] at lk
   refine⟨.ref a,H3,I3.tok _,rfl,q (.ref a) H3 sall ?_⟩
   rw[e6,Is.tup_iff]
   exact⟨a,ns.map V.int,rfl,.inr lk,Y9 ns⟩
end
open PySem PySem.Spec PyProof.Rows L2 PySem.W
namespace RV
theorem owner:Manifest.owners.lookup (String.ofList ['d','e','s','r','e','v','e','r'].reverse)=some Manifest.sig_reversed:=by kernel_rfl
theorem s_next:Slot "reversed" "__next__" "reversed.__next__" := Slot.of (owner:="reversed") (n:="__next__") (by(rw[typeLookup_type,builtinLookup_eq_fast]);kernel_rfl) (by decide +kernel) (by decide +kernel) (by decide +kernel) (by first|exact .inl (by decide +kernel)|exact .inr (by decide +kernel)) (by(rw[isSubtype_type]);kernel_rfl)
theorem e_next:entryFor table "reversed.__next__" = some Builtin.«reversed.__next__»:=entryFor_of_tree (by kernel_rfl)
theorem a_next(a:Value):argsOk "reversed.__next__" ⟨[a],[]⟩:=by
 unfold argsOk;rw[signature?_of (id:="reversed.__next__") (n:=['_','_','t','x','e','n','_','_']) (o:=['d','e','s','r','e','v','e','r']) (by kernel_rfl) owner];kernel_rfl
theorem s_iter:Slot "reversed" "__iter__" "reversed.__iter__" := Slot.of (owner:="reversed") (n:="__iter__") (by(rw[typeLookup_type,builtinLookup_eq_fast]);kernel_rfl) (by decide +kernel) (by decide +kernel) (by decide +kernel) (by first|exact .inl (by decide +kernel)|exact .inr (by decide +kernel)) (by(rw[isSubtype_type]);kernel_rfl)
theorem a_iter(a:Value):argsOk "reversed.__iter__" ⟨[a],[]⟩:=by
 unfold argsOk;rw[signature?_of (id:="reversed.__iter__") (n:=['_','_','r','e','t','i','_','_']) (o:=['d','e','s','r','e','v','e','r']) (by kernel_rfl) owner];kernel_rfl
theorem e_iter:entryFor table "reversed.__iter__" = some Builtin.«dict_keyiterator.__iter__»:=
 entryFor_alias (id':="dict_keyiterator.__iter__") (by kernel_rfl) (by first|rfl|decide +kernel|(unfold String.splitOn;simp +decide [String.splitOnAux])) (by decide +kernel) (by kernel_rfl)
theorem no_own:typeLookup (.type "tuple") "__reversed__" = pure none:=by(rw[typeLookup_type,builtinLookup_eq_fast]);kernel_rfl
theorem no_dict:isSubtype (.type "tuple") (.type "dict")=pure false:=by(rw[isSubtype_type]);kernel_rfl
theorem zFS:Slot "reversed" "__init__" "object.__init__" := Slot.of (owner:="object") (n:="__init__") (by(rw[typeLookup_type,builtinLookup_eq_fast]);kernel_rfl) (by decide +kernel) (by decide +kernel) (by decide +kernel) (by first|exact .inl (by decide +kernel)|exact .inr (by decide +kernel)) (by(rw[isSubtype_type]);kernel_rfl)
theorem called:TypeCalled "reversed" "reversed.__new__" "object.__init__" := ⟨by decide +kernel,by decide +kernel,⟨_,_,F.mro_reversed⟩,F.made_reversed,by decide +kernel,by(rw[isSubtype_type]);kernel_rfl,zFS⟩
end RV
noncomputable def J1(l:Addr)(i:Int):Obj:={ cls:=.type "reversed",data:=.fields #[.ref l,rawInt i] }
noncomputable def IsRv(h:Heap)(a l:Addr)(i:Int):Prop:=∃o,h.get? a=some o/\o.cls=.type "reversed" /\ o.data=.fields #[.ref l,rawInt i]
section
variable{prog:Program}{w:World}{A:Around}{E:Value->Shared->Prop}{s:Shared}
theorem IsRv.typeIs{a l:Addr}{i:Int}(x:IsRv s.heap a l i):s.TypeIs (.ref a) "reversed" := let ⟨o,ho,hc,_⟩:=x;⟨o,ho,hc⟩
theorem IsRv.at{h h':Heap}{a l:Addr}{i:Int}(x:IsRv h a l i)(e:∀o,h.get? a=some o->h'.get? a=some o):IsRv h' a l i:=let ⟨o,ho,r⟩:=x;⟨o,e _ ho,r⟩
theorem YH{it l:Addr}{i:Int}{Q:Value->Shared->Prop}(hit:IsRv s.heap it l i)(h:Q (.ref it) s):wpAny (model prog w) A (pyIter (.ref it)) Q E s:=by
 refine wpAny_pyIter_slot hit.typeIs RV.s_iter (wpAny_call_entry RV.s_iter hit.typeIs RV.e_iter ?_ (RV.a_iter _))
 (show wpAny _ _ (ret (.ref it)) _ _ s)
 exact wpAny_pure ⟨_,rfl, "reversed",_,hit.typeIs,RV.s_next.lookup,h⟩
theorem zFU{l:Addr}{items:Array Value}{Q₁:Value->Shared->Prop}(ht:IsTup s.heap l items)(hz:items.size<=sizeLine)(h:∀tk,Q₁ (.ref s.heap.objs.size) { s with heap:=s.heap.push (J1 l ((items.size:Int)-1)),toks:=tk }):codeAny (model prog w) A (.call (.builtin "reversed.__new__") ⟨[.type "reversed",.ref l],[]⟩) (wants Q₁ E) s:=by
 refine codeAny_of_tree ?_
 show wpAny _ A.in1 (do checkBuiltinCall "reversed.__new__" ⟨[.type "reversed",.ref l],[]⟩;again (.builtin "reversed.__new__" ⟨[.type "reversed",.ref l],[]⟩)) _ _ s
 refine wpAny_bind (wpAny_of_eq (F.newCall_reversed_1 _) (wpAny_pure ⟨plainId_quiet F.plain_reversed_new _,codeAny_builtin F.entry_reversed_new ?_⟩))
 rw[Around.under_plainId F.plain_reversed_new _]
 (unfold Builtin.«reversed.__new__»)
 (refine wpAny_bind (wpAny_of_eq (newClass_reversed _) ?_))
 try dsimp only
 refine wpAny_bind (wpAny_of_eq (a:=()) (by first|rfl|kernel_rfl) ?_)
 refine wpAny_bind (wpAny_of_eq (a:=()) (by first|rfl|kernel_rfl) ?_)
 try dsimp only
 refine wpAny_bind (wpAny_specialOf ht.typeIs RV.no_own ?_)
 try dsimp only
 refine wpAny_bind ?_
 show wpAny _ _ (isInstance (Value.ref l) (.type "dict") >>= _) _ _ _
 refine wpAny_bind (wpAny_isInstance ht.typeIs RV.no_dict ?_)
 try dsimp only
 simp only[Bool.false_eq_true,if_false]
 refine wpAny_bind (wpAny_specialOf ht.typeIs PySem.F.slot_tuple_getitem.lookup ?_)
 try dsimp only
 rw[if_pos (by decide +kernel)]
 refine wpAny_pure ?_
 simp only[Bool.not_true,Bool.false_eq_true,if_false]
 refine wpAny_bind (len_tuple ht (by have:=sizeLine_eq;omega) ?_)
 refine wpAny_bind (wpAny_of_eq (a:=some (items.size:Int)) rfl ?_)
 try dsimp only
 unfold Builtin.SmallTypes.newRecord
 (refine wpAny_bind (wpAny_newObj_type ?_ (by size_fits)))
 exact wpAny_pure (h _)
theorem zBJ{l:Addr}{items:Array Value}{Q:Value->Shared->Prop}(ht:IsTup s.heap l items)(hz:items.size<=sizeLine)(h:∀tk,Q (.ref s.heap.objs.size) { s with heap:=s.heap.push (J1 l ((items.size:Int)-1)),toks:=tk }):wpAny (model prog w) A (call (.type "reversed") [.ref l]) Q E s:=by
 refine callType_codes (Q₁:=fun obj s₁=>obj=.ref s.heap.objs.size/\∃tk,s₁={ s with heap:=s.heap.push (J1 l ((items.size:Int)-1)),toks:=tk }) RV.called (F.typeCall_reversed_1 _) F.entry_object_init (zFU ht hz fun tk=>⟨rfl,tk,rfl⟩) ?_
 rintro obj s₁ ⟨rfl,tk,rfl⟩
 have ty:Shared.TypeIs { s with heap:=s.heap.push (J1 l ((items.size:Int)-1)),toks:=tk } (.ref s.heap.objs.size) "reversed" := ⟨_,Heap.get?_push_size _ rfl,rfl⟩
 refine⟨ty,F.args_object_init_2 _ _,?_⟩
 exact object_init_meets RV.called.init.lookup RV.called.made (by decide) prog w A.in1 _ _ ⟨ty,rfl,h tk⟩
theorem zBI{it l:Addr}{i:Nat}{items:Array Value}{x:Value}{Q:Option Value->Shared->Prop}(hit:IsRv s.heap it l (i:Int))(hl:IsTup s.heap l items)(hz:items.size<=sizeLine)(hx:items[i]?=some x)(hQ:∀h' tk,IsRv h' it l ((i:Int)-1)->Heap.SameBut it s.heap h'->Q (some x) { s with heap:=h',toks:=tk }):wpAny (model prog w) A (pyNext (.ref it)) Q E s:=by
 obtain⟨o,ho,hc,hd⟩:=id hit
 unfold pyNext
 refine wpAny_bind (wpAny_attempt (wpAny_callSpecial?_slot (name:=Str.ofString "__next__") hit.typeIs RV.s_next
  (wpAny_call_entry RV.s_next hit.typeIs RV.e_next ?_ (RV.a_next _))))
 unfold Builtin.«reversed.__next__»
 refine wpAny_bind (wpAny_of_eq (a:=(Value.ref it,[])) rfl ?_)
 try dsimp only
 refine wpAny_bind (wpAny_field ho hd (x:=.ref l) rfl ?_)
 refine wpAny_bind (wpAny_field ho hd (x:=rawInt (i:Int)) rfl ?_)
 show wpAny _ _ (if (i:Int)<0 then _ else _) _ _ s
 rw[if_neg (by omega)]
 refine wpAny_bind (wpAny_specialOf hl.typeIs PySem.F.slot_tuple_getitem.lookup ?_)
 simp only[Option.isNone_some,Bool.false_eq_true,if_false]
 (refine wpAny_bind (wpAny_mkInt ?_))
 have hi:i<items.size:=by
  obtain⟨z,_⟩:=Array.getElem?_eq_some_iff.mp hx
  exact z
 refine wpAny_bind (wpAny_attempt (getItem_tuple (j:=i) (s:={ s with toks:=s.toks+1 }) hl (by omega) (by have:=sizeLine_eq;omega) (by unfold seqIndex?;simp;omega) hx ?_))
 dsimp only
 refine wpAny_bind (wpAny_field (s:={ s with toks:=s.toks+1 }) ho hd (x:=rawInt (i:Int)) rfl ?_)
 dsimp only[rawInt]
 refine wpAny_bind (wpAny_setField (s:={ s with toks:=s.toks+1 }) ho hd (by simp) ?_)
 refine wpAny_pure ⟨x,rfl,wpAny_pure (hQ _ _ ?_ (Heap.SameBut.update ..))⟩
 exact⟨_,Heap.get?_update_self _ ho (Obj.isFreed_of_fields (Obj.data_mapFields hd _)),(Obj.cls_mapFields ..).trans hc,by
  rw[Obj.data_mapFields hd];simp[rawInt]⟩
theorem zFV{it l:Addr}{Q:Option Value->Shared->Prop}(hh:A.handled=none)(hit:IsRv s.heap it l (-1))(hQ:∀h',Heap.ExtBut it s.heap h'->Q none { s with heap:=h' }):wpAny (model prog w) A (pyNext (.ref it)) Q E s:=by
 obtain⟨o,ho,hc,hd⟩:=id hit
 unfold pyNext
 refine wpAny_bind (wpAny_attempt (wpAny_callSpecial?_slot (name:=Str.ofString "__next__") hit.typeIs RV.s_next
  (wpAny_call_entry RV.s_next hit.typeIs RV.e_next ?_ (RV.a_next _))))
 unfold Builtin.«reversed.__next__»
 refine wpAny_bind (wpAny_of_eq (a:=(Value.ref it,[])) rfl ?_)
 try dsimp only
 refine wpAny_bind (wpAny_field ho hd (x:=.ref l) rfl ?_)
 refine wpAny_bind (wpAny_field ho hd (x:=rawInt (-1)) rfl ?_)
 show wpAny _ _ (if (-1:Int)<0 then _ else _) _ _ s
 rw[if_pos (by decide)]
 refine wpAny_bind (wpAny_rule ?_)
 show wpAny _ _ ((setField (.ref it) 1 (rawInt (-1)) >>= fun _=>setField (.ref it) 0 .none) >>= _) _ _ _
 refine wpAny_bind (wpAny_bind (wpAny_setField ho hd (by simp) ?_))
 refine wpAny_setField (Heap.get?_update_self _ ho (Obj.isFreed_of_fields (Obj.data_mapFields hd _))) (Obj.data_mapFields hd _) (by simp) ?_
 refine wpAny_bind ?_
 (show wpAny _ _ (newExc (.type "StopIteration") [] >>= _) _ _ _)
 refine wpAny_bind ?_
 simp only[newExc,newTuple]
 (refine wpAny_bind (wpAny_newObj_type ?_ (by size_fits)))
 refine wpAny_bind (m:=firstArgMember _ _) (wpAny_of_eq (a:=Value.none) (by first|rfl|(simp only[firstArgMember];rfl)) ?_)
 (refine wpAny_newObj_type ?_ (by size_fits))
 simp only[raiseNew]
 (refine wpAny_bind (wpAny_handled ?_))
 first|rw[show A.in1.handled=none from hh]|rw[hh]
 (refine wpAny_bind (wpAny_pure (wpAny_throw ?_)))
 refine wpAny_bind (wpAny_isInstance (T:="StopIteration") (b:=true) ⟨_,Heap.get?_push_size _ rfl,rfl⟩ isSubtype_stop ?_)
 refine wpAny_pure (hQ _ fun b o hb e=>?_)
 have e1:=(Heap.SameBut.update s.heap it (Obj.mapFields fun x=>x.setIfInBounds 1 (rawInt (-1)))).2 b hb
 have e2:=(Heap.SameBut.update (s.heap.update it (Obj.mapFields fun x=>x.setIfInBounds 1 (rawInt (-1)))) it (Obj.mapFields fun x=>x.setIfInBounds 0 .none)).2 b hb
 exact Heap.get?_push_of_some _ (Heap.get?_push_of_some _ (e2.trans (e1.trans e)))
end
noncomputable def zKC(K:Fg)(a:Addr)(n:Nat):It:=
 ⟨fun i H=>∃xs x,SqT K H a xs/\xs.length=n/\i<n/\xs[n-1-i]?=some x,fun i H x H'=>H'=H/\∀xs,SqT K H a xs->xs[n-1-i]?=some x,fun i _=>i=n⟩
theorem zA2{P:Program}{w:World}{K:Fg}{tg:Expr}(a it:Addr)(n:Nat):Turn P w K tg (zKC K a n) [it] it (fun i h=>IsRv h it a ((n:Int)-1-(i:Int))) where
 mem:=by simp
 obj:=fun i h st b hb=>by
  have e:b=it:=by simpa using hb
  subst e
  obtain⟨o,e,c,d⟩:=st
  exact⟨o,e,fun v z=>by rw[d] at z;cases z⟩
 keep:=fun i h h' st k=>st.at fun o e=>k it (by simp) o e
 item:=by
  intro X hP hw hK hc i pins s σ H E I hf st hg
  subst hP hw hK
  obtain⟨xs,x,hq,hn,hi,hx⟩:=hg
  obtain⟨its,rv,p,hz⟩:=I.tuple hq
  obtain⟨u,hu,ru⟩:=rv.get hx
  obtain⟨f0,f1,f2,f3,f4,f5⟩:=hf it (by simp)
  have e1:(n:Int)-1-(i:Int)=((n-1-i:Nat):Int):=by clear st hu hx hq hn rv p;omega
  rw[e1] at st
  refine zBI st p (by rw[List.size_toArray,<-rv.length];exact hz) (x:=u) (by simpa using hu) fun h' tk st' sb=>?_
  have e2:((n-1-i:Nat):Int)-1=(n:Int)-1-((i+1:Nat):Int):=by clear st st' hu hx hq hn rv p;omega
  rw[e2] at st'
  have I1:Inv X pins σ H { s with heap:=h',toks:=tk }:=I.turned (t':=tk) (fun b o hb e=>(sb.2 b hb).trans e) f0 f1 f3 f4 f5
  obtain⟨o,e,c,d⟩:=id st'
  exact⟨u,rfl,J6 (s:={ s with heap:=h',toks:=tk }) e c d (by decide) ⟨x,H,I1,ru,⟨rfl,fun ys hy=>by rw[I.tuple_inj hy hq];exact hx⟩,st',fun b hb=>(hf b hb).1⟩⟩
 done:=by
  intro X hP hw hK hc i pins s σ H E I hf st hg
  subst hP hw hK
  obtain rfl:i=n:=hg
  obtain⟨f0,f1,f2,f3,f4,f5⟩:=hf it (by simp)
  have e1:(i:Int)-1-(i:Int)=-1:=by clear st;omega
  rw[e1] at st
  exact zFV (I.ok.hd hc) st fun h' eb=>⟨rfl,I.turned (t':=s.toks) (fun b o hb e=>eb b o hb e) f0 f1 f3 f4 f5⟩
 self:=fun _ _ _ _ _ st h=>YH st h
open PySem PySem.Spec PyProof.Rows L2 PySem.W
noncomputable def lIo(K:Fg)(it:ML):TI:=fun σ H Rr=>∃O0 r l,R K O0 H r σ/\it r=some l/\∀J H',Same H H'->zHI K (Ow O0 r σ) (Ow O0 r σ) H' J l->Rr J H'
noncomputable def DIo(X:Cx)(tg iter:Expr)(it:ML):Prop:=PI X tg iter (lIo X.K it)
noncomputable def mTp(f:ME):ML:=fun r=>(f r).bind fun d=>match d with
 |.tup l=>some l
 |_=>none
section
variable{X:Cx}{l a tg:Expr}{f:ME}{p pos:Pos}
theorem zD4(hl:DE X l f):DIo X tg l (mTp f):=by
 refine PI.conseq (zBX hl) fun σ H Rr h=>?_
 obtain⟨O0,r,ds,hR,e,q⟩:=h
 obtain⟨d,e1,e2⟩:=bind_some e
 refine⟨O0,r,d,hR,e1,fun v H1 s1 i1=>?_⟩
 have ol:=(hR.same s1).ol
 cases d<;>first|(cases e2;done)|skip
 cases e2
 rw[Is.tup_iff] at i1
 obtain⟨a,xs,rfl,rd,il⟩:=i1
 exact⟨a,rfl,.inr ⟨⟨xs,rd⟩,q _ H1 s1 (zAM (fun a z=>z) ol rd il)⟩⟩
theorem zIQ{K:Fg}{O:Addr->Prop}{H:Hp}{a:Addr}{xs:List V}{ds:List D}(ol:qV O H)(rd:SqT K H a xs)(il:IsL K O H ds xs):zHI K O O H (zKC K a xs.length) ds.reverse:=by
 intro i H1 O' kp oo
 have rd1:SqT K H1 a xs:=SqT.keep kp ol rd
 have ll:=il.length
 have bk:∀d,ds.reverse[i]?=some d->i<xs.length/\ds[xs.length-1-i]?=some d:=fun d e=>by
  have hi:i<ds.length:=by
   obtain⟨h,_⟩:=List.getElem?_eq_some_iff.mp e
   rw[List.length_reverse] at h;exact h
  rw[List.getElem?_reverse hi,ll] at e
  exact⟨ll ▸ hi,e⟩
 refine⟨fun hi=>⟨?_,fun x H' y=>?_⟩,fun hi=>by rw[List.length_reverse,ll] at hi;exact hi⟩
 ·obtain⟨d,e⟩:=jG hi
  obtain⟨hi',e'⟩:=bk d e
  obtain⟨v,e1,_⟩:=il.get e'
  exact⟨xs,v,rd1,rfl,hi',e1⟩
 ·obtain⟨rfl,y⟩:=y
  refine⟨Same.refl _,fun d e=>?_⟩
  obtain⟨hi',e'⟩:=bk d e
  obtain⟨v,e1,q⟩:=il.get e'
  have:=y xs rd1
  rw[e1] at this;cases this
  exact Is.mono kp ol oo _ _ q
theorem zJC{ta:TE}(hg:Gl X "reversed")(hm:X.mg "reversed" = none)(ha:PE X a ta)(hs:starEach [a] X.env=[(false,eval a X.env)]:=by rfl):PI X tg (.Call (.Name "reversed" p) [a] [] pos) (fun σ H R=>ta σ H fun x H1=>∃u xs,x=.ref u/\SqT X.K H1 u xs/\R (zKC X.K u xs.length) H1):=by
 intro pins s σ H R I h
 have hA:PA X [a] (Z8 ta zEU):=yD ha xH (by rw[hs];rfl)
 refine Call_ (cT I hg hm PyProof.Rows.boot_reversed (PyProof.Rows.callWith_type1 (thn (hA pos pins s σ H (z1 fun x H1=>∃u xs,x=.ref u/\SqT X.K H1 u xs/\R (zKC X.K u xs.length) H1) I h) fun us s1 ⟨vs,H1,I1,r1,q1⟩=>?_) hs rfl))
 obtain⟨_,rfl,u,xs,rfl,hx,q⟩:=X6 q1
 obtain⟨uu,rfl,ru⟩:=Vals.one r1
 cases ru
 obtain⟨its,rv,pl,hz⟩:=I1.tuple hx
 have hl:its.toArray.size=xs.length:=by rw[List.size_toArray];exact rv.length.symm
 refine zBJ pl (by rw[hl];exact hz) fun tk=>?_
 have z1:IsRv (s1.heap.push (J1 u ((its.toArray.size:Int)-1))) s1.heap.objs.size u ((its.toArray.size:Int)-1):=⟨_,Heap.get?_push_size _ rfl,rfl,rfl⟩
 refine YH z1 ?_
 refine⟨_,[s1.heap.objs.size],_,_,H1,rfl,I1.kept (t':=tk) (fun b o e=>Heap.get?_push_of_some _ e),zA2 u _ xs.length,?_,fun b hb=>?_,q⟩
 ·rw[hl] at z1 ⊢
  rw[show((xs.length:Int)-1-((0:Nat):Int))=(xs.length:Int)-1 from Int.sub_zero _]
  exact z1
 ·have e:b=s1.heap.objs.size:=by simpa using hb
  subst e
  exact I1.fpOk (Nat.le_refl _) (I1.hok.fresh (Nat.le_refl _))
noncomputable def zJN(f:ME):ML:=fun r=>(mTp f r).map List.reverse
theorem zHE(hg:Gl X "reversed")(hm:X.mg "reversed" = none)(ha:DE X a f)(hs:starEach [a] X.env=[(false,eval a X.env)]:=by rfl):DIo X tg (.Call (.Name "reversed" p) [a] [] pos) (zJN f):=by
 refine PI.conseq (zJC hg hm ha hs) fun σ H Rr hq=>?_
 obtain⟨O0,r,ds,hR,e,q⟩:=hq
 obtain⟨l,e0,rfl⟩:=map_some e
 obtain⟨x,e1,e2⟩:=bind_some e0
 refine⟨O0,r,x,hR,e1,fun v1 H1 s1 i1=>?_⟩
 have ol:=(hR.same s1).ol
 cases x<;>first|(cases e2;done)|skip
 cases e2
 rw[Is.tup_iff] at i1
 obtain⟨u,xs,rfl,hx,il⟩:=i1
 exact⟨u,xs,rfl,hx,q _ H1 s1 (zIQ ol hx il)⟩
end
noncomputable def oR(z i:Nat)(g:MEs):List D->MEs
 |[]=>oQ
 |d::t=>fun st r=>if i=z then none else (yQ i d r).bind fun r1=>(g st r1).bind fun fl=>match fl with
  |.nx st' r'=>oR z i g t st' r'
  |.rt d st' r'=>some (.rt d st' r')
noncomputable def zKD(z i:Nat)(it:ML)(g:MEs):MEs:=fun st r=>(it r).bind fun l=>oR z i g l st r
noncomputable def v9:Nat->MEt->MEs->MEs
 |0,_,_=>fun _ _=>none
 |n+1,t,g=>fun st r=>(t st r).bind fun p=>if p.1=true then (g p.2 r).bind fun fl=>(match fl with
  |.nx st' r'=>v9 n t g st' r'
  |.rt d st' r'=>some (.rt d st' r')) else some (.nx p.2 r)
section
variable{X:Cx}{C:Addr}{z:Nat}{iter c:Expr}{body:List Stmt}{it:ML}{g:MEs}{t:MEt}{pos tpos npos apos:Pos}{x y:Str}
theorem zGR(i:Nat)(hp:PassesOwn (model X.prog X.w) X.A X.env X.xe)(hc:X.calm=true)(hi:DIo X (.Name x tpos) iter it)(hN:X.N.Nodup)(hb:zAF X C z body g)(hxi:X.N[i]?=some x:=by rfl)(hx:Loc X.env.scope x:=by first|exact Or.inl rfl|exact Or.inr rfl)(hf:X.fn x=true\/X.env.scope.names.lookup x=some .local:=by first|exact .inl rfl|exact .inr rfl)(hs:∀x,foldedSetIterable iter X.env x=pure x:=by intro _;rfl):DMs X C z (.For (.Name x tpos) iter body [] pos) (zKD z i it g):=by
 refine PS.conseq (zBS hp hc hi (pE hN hxi hx hf) hb hs) fun Dn σ H hq=>?_
 obtain⟨O,a,w,c,st,r,fl,mr,e,q⟩:=hq
 obtain⟨l,e1,e2⟩:=bind_some e
 refine⟨O,r,l,mr.rr,e1,fun J H0 s0 yl=>?_⟩
 have m0:=mr.same s0
 rw[show Ow O r σ=O from funext fun b=>propext mr.no.ow] at yl
 refine⟨fun i' m σ1 H1=>m=l.length-i'/\i'<=l.length/\∃st1 r1,McR X.K O H1 C z a w c st1 r1 σ1/\KeepM a w c H0 H1/\oR z i g (l.drop i') st1 r1=some fl,⟨l.length,by simp,Nat.zero_le _,st,r,m0,KeepM.refl H0,by simpa using e2⟩,?_⟩
 rintro i' m σ1 H1 ⟨rfl,hil,st1,r1,m1,k1,e3⟩
 have k0:=(KeepM.same (a:=a) (w:=w) (c:=c) s0).trans k1
 obtain⟨y1,y2⟩:=yl i' H1 O (m0.ms.kp k1) fun _ z _=>z
 by_cases hlt:i'<l.length
 ·obtain⟨go,yd⟩:=y1 hlt
  have hd:l[i']?=some l[i']:=by simp[hlt]
  rw[kT hd] at e3
  unfold oR at e3
  split at e3
  ·cases e3
  rename_i h0
  obtain⟨r2,e4,e5⟩:=bind_some e3
  obtain⟨f1,e6,e7⟩:=bind_some e5
  refine .inr ⟨go,fun σ3 H3=>∃st3 r3,McR X.K O H3 C z a w c st3 r3 σ3/\KeepM a w c H0 H3/\oR z i g (l.drop (i'+1)) st3 r3=some fl,fun σ3 H3 z=>⟨l.length-(i'+1),by omega,rfl,hlt,z⟩,fun x H2 yx=>?_⟩
  obtain⟨s2,ix⟩:=yd x H2 yx
  have m2:=m1.same s2
  obtain⟨hl,np,rfl⟩:=qH e4
  obtain⟨R1,_⟩:=m2.rr.setv hl np (m2.is.mpr (ix _ hd))
  have m3:McR X.K O H2 C z a w c st1 (r1.set i (.v l[i'])) (σ1.set i (some x)):=⟨m2.ms,R1,m2.no.set,by rw[List.getElem?_set_ne h0];exact m2.me⟩
  refine⟨O,a,w,c,st1,_,f1,m3,e6,?_⟩
  have k3:=k1.trans (KeepM.same (a:=a) (w:=w) (c:=c) s2)
  have k4:=k0.trans (KeepM.same (a:=a) (w:=w) (c:=c) s2)
  cases f1 with
  |nx st3 r3=>exact fun σ3 H3 M3 kk=>⟨st3,r3,M3,k3.trans kk,e7⟩
  |rt d st3 r3=>cases e7;exact MFl.to_keep k4 q
 ·have hl:l.drop i'=[]:=List.drop_eq_nil_of_le (by omega)
  rw[hl] at e3
  cases e3
  exact .inl ⟨y2 (by omega),q σ1 H1 m1 k0⟩
theorem QY(n:Nat)(hp:PassesOwn (model X.prog X.w) X.A X.env X.xe)(hc:DMt X C z c t)(hb:zAF X C z body g):DMs X C z (.While c body [] pos) (v9 n t g):=by
 refine PS.conseq (pC hp hc hb) fun Dn σ H hq=>?_
 obtain⟨O,a,w,c,st,r,fl,mr,e,q⟩:=hq
 refine⟨fun m σ1 H1=>∃st1 r1,McR X.K O H1 C z a w c st1 r1 σ1/\KeepM a w c H H1/\v9 m t g st1 r1=some fl,⟨n,st,r,mr,KeepM.refl H,e⟩,?_⟩
 rintro m σ1 H1 ⟨st1,r1,m1,k1,e1⟩
 cases m with
 |zero=>cases e1
 |succ m=>
  obtain⟨⟨b,st2⟩,e2,e3⟩:=bind_some e1
  refine⟨O,a,w,c,st1,r1,b,st2,m1,e2,fun H2 m2 k2=>?_⟩
  have k3:=k1.trans k2
  cases b with
  |false=>
   cases e3
   exact zIL (q σ1 H2 m2 k3)
  |true=>
   obtain⟨f1,e4,e5⟩:=bind_some e3
   refine zIK ⟨fun σ3 H3=>∃st3 r3,McR X.K O H3 C z a w c st3 r3 σ3/\KeepM a w c H H3/\v9 m t g st3 r3=some fl,fun σ3 H3 z=>⟨m,Nat.lt_succ_self m,z⟩,O,a,w,c,st2,r1,f1,m2,e4,?_⟩
   cases f1 with
   |nx st3 r3=>exact fun σ3 H3 M3 kk=>⟨st3,r3,M3,k3.trans kk,e5⟩
   |rt d st3 r3=>cases e5;exact MFl.to_keep k3 q
theorem zCJ(hv:PE X (.Name x npos) (jY z))(cl:Cls X.K C)(na:NoAttr X.K C "waiting")(hb:attributeBase (.Name x npos) "waiting" X.env (eval (.Name x npos) X.env)=eval (.Name x npos) X.env:=by rfl)(he:∀whole,isTrue (.Attribute (.Name x npos) "waiting" apos) X.env whole=(do let v <- whole;standAt (Expr.Attribute (.Name x npos) "waiting" apos).pos;holding [v] (truthy v)):=by intro _;rfl):DMt X C z (.Attribute (.Name x npos) "waiting" apos) (fun st _=>some (!st.wait.isEmpty,st)):=by
 refine PT.conseq (dF (uK hv hb) he) fun σ H Q hq=>?_
 obtain⟨O,a,w,c,st,r,b,st',mr,e,q⟩:=hq
 cases e
 obtain⟨dx,xs,ys,ve,vd,g1,g2,g3,g4,g5,g6,g7⟩:=mr.ms.ex
 refine⟨.ref a,qB mr,a,C,dx,_,.ref w,rfl,g1,cl,na,rfl,!xs.isEmpty,.inl ⟨xs,SqL.of g2,rfl⟩,?_⟩
 have:=g6.length
 rw[show xs.isEmpty=st.wait.isEmpty by cases h1:st.wait<;>cases h2:xs<;>simp[h1,h2] at this ⊢]
 exact q H mr (KeepM.refl H)
noncomputable def nonB:D->Bool
 |.non=>true
 |_=>false
theorem Is.nonB{K:Fg}{O:Addr->Prop}{H:Hp}{d:D}{v:V}(h:Is K O H d v):decide (v=.non)=nonB d:=by
 cases d with
 |non=>rw[Is.non_iff] at h;subst h;rfl
 |bl b=>rw[Is.bl_iff] at h;subst h;rfl
 |int i=>rw[Is.int_iff] at h;subst h;rfl
 |str s=>rw[Is.str_iff] at h;subst h;rfl
 |ref a=>rw[Is.ref_iff] at h;subst h;rfl
 |tup l=>rw[Is.tup_iff] at h;obtain⟨a,xs,rfl,_⟩:=h;rfl
 |lst l=>rw[Is.lst_iff] at h;obtain⟨a,xs,rfl,_⟩:=h;rfl
 |dct ks l=>rw[Is.dct_iff] at h;obtain⟨a,xs,rfl,_⟩:=h;rfl
 |ty n=>unfold Is at h;subst h;rfl
theorem zCL{m:MEf}{e:Expr}{j:Nat}{pos':Pos}(h:DMe X C z e m):DMt X C z (.Compare e [.Is] [.Constant .none j pos'] pos) (fun st r=>(m st r).map fun p=>(nonB p.1,p.2)):=by
 refine PT.conseq (zBR (zGF h)) fun σ H Q hq=>?_
 obtain⟨O,a,w,c,st,r,b,st',mr,e,q⟩:=hq
 obtain⟨⟨d,st1⟩,e1,e2⟩:=map_some e
 cases e2
 exact⟨O,a,w,c,st,r,d,st1,mr,e1,fun v H1 m1 iv k1=>⟨_,rfl,by rw[Is.nonB iv];exact q H1 m1 k1⟩⟩
theorem zGP{e e':Expr}{t':MEt}(h:DMt X C z e t)(h':DMt X C z e' t'):DMt X C z (.BoolOp .And [e,e'] pos) (fun st r=>(t st r).bind fun p=>if p.1=true then t' p.2 r else some (false,p.2)):=by
 refine PT.conseq (PW.pt (zBO h (YI h'))) fun σ H Q hq=>?_
 obtain⟨O,a,w,c,st,r,b,st',mr,e,q⟩:=hq
 obtain⟨⟨b1,st1⟩,e1,e2⟩:=bind_some e
 refine⟨O,a,w,c,st,r,b1,st1,mr,e1,fun H1 m1 k1=>?_⟩
 cases b1 with
 |false=>cases e2;exact zIL (q H1 m1 k1)
 |true=>exact zIK ⟨O,a,w,c,st1,r,b,st',m1,e2,fun H2 m2 k2=>q H2 m2 (k1.trans k2)⟩
end
open PySem PySem.Spec PyProof.Rows L2 PySem.W
section
variable{X:Cx}{C:Addr}{iter:Expr}{f:ME}{scope:Scope}{N':List Str}{x y:Str}{j:Nat}{tpos npos npos' apos bpos cpos pos pl p2 p3 pn:Pos}
theorem uB{α:Type}{cs:List α}{i:Nat}(h:i<cs.length):∃v,(cs.take (cs.length-i))[(cs.take (cs.length-i)).length-1]?=some v/\(cs.take (cs.length-i)).dropLast=cs.take (cs.length-(i+1))/\cs.reverse.take i++[v]=cs.reverse.take (i+1):=by
 have hl:(cs.take (cs.length-i)).length=cs.length-i:=by rw[List.length_take];omega
 have h1:cs.length-i-1<cs.length:=by omega
 refine⟨cs[cs.length-i-1],?_,?_,?_⟩
 ·rw[hl,List.getElem?_take,if_pos (by omega),List.getElem?_eq_getElem h1]
 ·rw[List.dropLast_eq_take,hl,List.take_take];congr 1;omega
 ·rw[List.take_succ,List.getElem?_reverse h,show cs.length-1-i=cs.length-i-1 by omega,List.getElem?_eq_getElem h1];rfl
noncomputable def zET(f:ME):MEf:=fun st r=>(f r).bind fun d=>match d with
 |.tup l=>if l.length<=st.come.length/\l.length<sizeLine then some (.lst (st.come.drop (st.come.length-l.length)),{ st with come:=st.come.take (st.come.length-l.length) }) else none
 |_=>none
theorem zCT(hc:X.calm=true)(o:CmpOk X N' [0] scope)(hi:DE X iter f)(hn:N'.length=2)(hg:∀C fp s H,PG (cxC X N' scope C fp s H) (.Name y tpos) (ZL 1))(hv:∀C fp s H,PE (cxC X N' scope C fp s H) (.Name x npos) (jY 0))(cl:Cls X.K C)(na:NoAttr X.K C "come")(hb:∀C fp s H,attributeBase (.Name x npos) "come" (cxC X N' scope C fp s H).env (eval (.Name x npos) (cxC X N' scope C fp s H).env)=eval (.Name x npos) (cxC X N' scope C fp s H).env)(hbase:∀C fp s H,attributeBase (.Attribute (.Name x npos) "come" bpos) "pop" (cxC X N' scope C fp s H).env (eval (.Attribute (.Name x npos) "come" bpos) (cxC X N' scope C fp s H).env)=eval (.Attribute (.Name x npos) "come" bpos) (cxC X N' scope C fp s H).env)(hline:(apos.endLine == cpos.line)=true:=by rfl)(hs:∀x,foldedSetIterable iter X.env x=pure x:=by intro _;rfl):DMe X C 0 (.Subscript (.ListComp (.Call (.Attribute (.Attribute (.Name x npos) "come" bpos) "pop" apos) [] [] cpos) [⟨.Name y tpos,iter,[],0⟩] scope pl) (.Slice none none (some (.UnaryOp .USub (.Constant (.int 1) j p3) pos)) p2) pn) (zET f):=by
 refine PE.conseq (zB3 (uJ (tc:=none) (g:=ZL 1) (te:=zKW X.K "list" zK0 (zKV X.K (jY 0) "come")) (cap:=[0]) hc o (zD4 hi) hg rfl (fun C fp s H=>tN PySem.F.plainAttrs_list PySem.F.slot_list_pop PySem.F.type_list_pop tX (uK (hv C fp s H) (hb C fp s H)) (hbase C fp s H) hline) hs)) fun σ H Q hq=>?_
 obtain⟨O,a,w,c,st,r,d,st',mr,e1,q⟩:=hq
 obtain⟨d',e2,e3⟩:=bind_some e1
 cases d'<;>first|(cases e3;done)|skip
 rename_i l
 dsimp only at e3
 split at e3
 case isFalse=>cases e3
 rename_i hln
 obtain⟨hln,hsz⟩:=hln
 cases e3
 refine⟨O,r,l,mr.rr,by unfold mTp;rw[e2];rfl,fun J H1 s1 yl p hp=>?_⟩
 rw[show Ow O r σ=O from funext fun b=>propext mr.no.ow] at yl
 have m1:=mr.same s1
 obtain⟨dx,xs,cs,ve,vd,g1,g2,g3,g4,g5,g6,g7⟩:=m1.ms.ex
 have aw:=McR.aw m1.ms
 have hcs:=g7.length
 have pa:a≠p:=fun z=>by rw[z,hp] at g1;cases g1
 have pw:w≠p:=fun z=>by rw[z,hp] at g2;cases g2
 have pc:c≠p:=fun z=>by rw[z,hp] at g3;cases g3
 rw[hn]
 refine⟨fun i m ys σ2 H2=>m=l.length-i/\i<=l.length/\σ2.length=2/\σ2[0]?=some (some (.ref a))/\ys=cs.reverse.take i/\H2 p=some (.lst ys)/\H2 c=some (.lst (cs.take (cs.length-i)))/\∀b o,H1 b=some o->b≠c->H2 b=some o,
  ⟨l.length,rfl,Nat.zero_le _,rfl,by show some (σ[0]?.getD none)=_;rw[mr.me];rfl,rfl,zN,by rw[zM pc,g3];simp,fun b o e _=>by rw[zM (fun z=>by rw[z,hp] at e;cases e)];exact e⟩,?_⟩
 rintro i m ys σ2 H2 ⟨rfl,hi',hl2,hs2,rfl,ep,ec,eo⟩
 have kM:KeepM a w c H1 H2:=fun b o e h1 h2 h3=>eo b o e h3
 obtain⟨y1,y2⟩:=yl i H2 O (m1.ms.kp kM) fun _ z _=>z
 have hlt':(cs.reverse.take i).length=i:=by rw[List.length_take,List.length_reverse];omega
 refine⟨ep,by rw[hlt'];omega,?_⟩
 by_cases hlt:i<l.length
 ·obtain⟨go,yd⟩:=y1 hlt
  refine .inr ⟨go,fun xv H3 yx=>?_⟩
  obtain⟨s3,_⟩:=yd xv H3 yx
  obtain⟨v,v1,v2,v3⟩:=uB (cs:=cs) (i:=i) (by omega)
  have ea3:H3 a=some (.ins C dx (mfs st.most st.steps w c ve vd)):=s3 _ _ (eo a _ g1 aw.2)
  have ec3:=s3 _ _ ec
  refine⟨.ref a,by rw[List.getElem?_set_ne (by decide)];exact hs2,a,C,dx,_,.ref c,rfl,ea3,cl,na,rfl,.inl ⟨rfl,_,SqL.of ec3⟩,c,_,v,rfl,rfl,ec3,v1,?_⟩
  have ep3:=s3 _ _ ep
  refine⟨by rw[zM pc.symm];exact ep3,l.length-(i+1),by omega,rfl,hlt,by rw[List.length_set];exact hl2,by rw[List.getElem?_set_ne (by decide)];exact hs2,v3,zN,?_,fun b o e h1=>?_⟩
  ·rw[zM pc,zN,v2]
  ·rw[zM (fun z=>by rw[z,hp] at e;cases e),zM h1];exact s3 _ _ (eo b o e h1)
 ·have hil:i=l.length:=by omega
  subst hil
  refine .inl ⟨y2 rfl,.inl ⟨p,_,rfl,SqL.of ep,fun t ht=>?_⟩⟩
  have hne:∀b o,H2 b=some o->b≠t:=fun b o e z=>by rw[z,ht] at e;cases e
  have k2:KeepM a w c H1 (upd H2 t (.lst (cs.reverse.take l.length).reverse)):=fun b o e h1 h2 h3=>by rw[zM (hne b o (kM b o e h1 h2 h3))];exact kM b o e h1 h2 h3
  have n:=Mch.put (K:=X.K) (H2:=upd H2 t (.lst (cs.reverse.take l.length).reverse)) (co:=st.come.take (st.come.length-l.length)) m1.ms m1.ol k2 (by rw[zM (hne a _ (eo a _ g1 aw.2))];exact eo a _ g1 aw.2) (by rw[zM (hne w _ (eo w _ g2 m1.ms.wc))];exact eo w _ g2 m1.ms.wc) (by rw[zM (hne c _ ec)];exact ec) g4 g5 g6 (by rw[hcs];exact g7.take _)
  have m2:=m1.step k2 n
  have ot:¬O t:=fun z=>by
   obtain⟨o,e,_⟩:=m1.ol t z
   by_cases h1:t=c
   ·rw[h1] at ht;rw[ht] at ec;cases ec
   ·have:=eo t o e h1;rw[ht] at this;cases this
  refine q _ _ m2 ?_ ((KeepM.same s1).trans k2)
  rw[Is.lst_iff]
  have e9:(cs.reverse.take l.length).reverse=cs.drop (cs.length-l.length):=by
   rw[List.take_reverse,List.reverse_reverse]
  refine⟨t,cs.drop (cs.length-l.length),rfl,.inl ⟨ot,.inl (by rw[zN,e9])⟩,?_⟩
  rw[<-hcs]
  exact IsL.mono (m1.ms.kp k2) m1.ol (fun _ z _=>z) _ _ (g7.drop _)
end
open PySem PySem.Spec PyProof.Rows L2 PySem.W
namespace DU
theorem e_loop:entryFor table "dict.update.loop" = some Builtin.«dict.update.loop»:=entryFor_of_tree (by kernel_rfl)
theorem p_loop:plainId "dict.update.loop" = true:=by decide +kernel
theorem lk_keys:typeLookup (.type "list") "keys" = pure none:=by rw[typeLookup_type,builtinLookup_eq_fast];kernel_rfl
end DU
section
variable{prog:Program}{w:World}{A:Around}{E:Value->Shared->Prop}{s:Shared}
theorem ZB{a:Addr}{o:Obj}{xs:Array Value}{k:Nat}{Q:Option Value->Shared->Prop}(hx:s.heap.get? a=some o)(hc:o.cls=.type "list")(hdat:o.data=.seq xs k)(hd:o.dict=none)(hA:A.handled=none)(h:∀h' tk,(∀b ob,s.heap.get? b=some ob->h'.get? b=some ob)->Q none { s with heap:=h',toks:=tk }):wpAny (model prog w) A (getAttr? (.ref a) "keys") Q E s:=by
 obtain⟨c,dct,dat,sl⟩:=o
 simp only at hc hdat hd
 subst hc hdat hd
 obtain⟨hp,g,d,tk,os⟩:=s
 have hT:∀tk',(⟨hp,g,d,tk',os⟩:Shared).TypeIs (.ref a) "list" := fun _=>⟨_,hx,rfl⟩
 have f1:=sub_AttributeError
 have f3:=F.slot_list_getattribute.lookup
 have f4:=F.slot_list_getattribute.bind (.ref a)
 have f5:=am_list_getattr_none
 (unfold getAttr? getAttrBy? getAttrBy)
 repeat (any_goals (first|assumption|exact hT _|((with_reducible show wpAny _ _ (call (Value.builtin "list.__getattribute__") _ _) _ _ _);refine call_meets F.slot_list_getattribute (hT _) am_entry_list_getattribute (F.args_list_getattribute_2 _ _) (meets_getattribute_miss_list a xs k sl _ _ DU.lk_keys (by decide +kernel) (by size_fits)) ⟨hx,hA,fun h' tk' e hx'=>?_⟩)|wp_step))
 obtain⟨t',u',he⟩:=hx'.there
 (show wpAny _ _ (getattributeRaised _ _ _ _ _ _ _) _ _ _)
 unfold getattributeRaised
 repeat (any_goals (first|assumption|wp_step))
 exact h _ _ hx'.keeps
noncomputable def zJ9(h:Heap)(v:Value)(k:Key)(u:Value):Prop:=∃t key,v=.ref t/\IsTup h t #[key,u]/\dA k key=true
theorem zDU{l it d:Addr}{its:Array Value}(hh:A.handled=none)(hld:l≠d)(hli:l≠it)(hid:it≠d):∀(n i:Nat) (s:Shared) (ps:List (Key×Value)) (kvs:List (Key×Value)) (R:Result->Shared->Prop),i+n=its.size->ps.length=n->kvs.length+n<=sizeLine->s.heap.IsListIter it l i->PlainL s.heap l its ->
  (∀j (p:Key×Value),ps[j]?=some p->∃v,its[i+j]?=some v/\(∃t,v=.ref t/\t≠d/\t≠it)/\zJ9 s.heap v p.1 p.2)->s.heap.DictOf (yL prog w) d kvs ->
  (∀h' tk,h'.DictOf (yL prog w) d (ps.foldl (fun z p=>stored z p.1 p.2) kvs)->(∀b o,b≠it->b≠d->s.heap.get? b=some o->h'.get? b=some o)->R (.ok (.ret .none)) { s with heap:=h',toks:=tk }) ->
  codeAny (model prog w) A (.builtin "dict.update.loop" ⟨[.ref d,.ref it,rawInt (i:Int),.none],[]⟩) R s:=by
 intro n
 induction n with
 |zero=>
  intro i s ps kvs R hi hl hz hit pl hp hd hR
  obtain rfl:ps=[]:=List.length_eq_zero_iff.mp hl
  refine codeAny_builtin DU.e_loop ?_
  rw[Around.under_plainId DU.p_loop _]
  show wpAny _ A.in1 (pyNext (.ref it) >>= _) _ _ s
  refine wpAny_bind (wpAny_pyNext_list_end (show A.in1.handled=none from hh) hit pl.isList (Array.getElem?_eq_none (by omega)) fun h' eb=>?_)
  show wpAny _ A.in1 (Builtin.Dict.addKeywords d [] >>= fun _=>ret Value.none) _ _ _
  refine wpAny_bind (wpAny_pure (wpAny_pure (hR h' s.toks (hd.extBut eb hid.symm) fun b o hb _ e=>eb b o hb e)))
 |succ n ih=>
  intro i s ps kvs R hi hl hz hit pl hp hd hR
  obtain⟨p,ps,rfl⟩:∃p q,ps=p::q:=by cases ps with
   |nil=>cases hl
   |cons p q=>exact⟨p,q,rfl⟩
  obtain⟨v,ev,⟨t0,rfl,ntd,nti⟩,t,key,e0,tu,kk⟩:=hp 0 p rfl
  cases e0
  refine codeAny_builtin DU.e_loop ?_
  rw[Around.under_plainId DU.p_loop _]
  show wpAny _ A.in1 (pyNext (.ref it) >>= _) _ _ s
  refine wpAny_bind (wpAny_pyNext_list_item hit pl.isList ev fun h1 hit1 sb1=>?_)
  have k1:∀b o,b≠it->s.heap.get? b=some o->h1.get? b=some o:=fun b o hb e=>(sb1.2 b hb).trans e
  have tu1:IsTup h1 t0 #[key,p.2]:=by obtain⟨o,e,r⟩:=tu;exact⟨o,k1 _ _ nti e,r⟩
  have hd1:h1.DictOf (yL prog w) d kvs:=hd.sameBut sb1 hid.symm
  obtain⟨ot,hot,hct,nt,hdt⟩:=id tu1
  (refine wpAny_bind (wpAny_holding ?_))
  (refine wpAny_bind (wpAny_tryCatch ?_))
  unfold Builtin.Dict.pairItems
  refine wpAny_bind (wpAny_typeOf (s:={ s with heap:=h1 }) tu1.typeIs ?_)
  rw[if_pos (by decide)]
  refine wpAny_bind (wpAny_seqItems (s:={ s with heap:=h1 }) hot hdt (wpAny_pure ?_))
  dsimp only[Option.getD_some]
  refine wpAny_holding ?_
  refine wpAny_dictSet_pairs (knd:=yL prog w) (s:={ s with heap:=h1 }) (k:=p.1) kk hd1 (fun h2 hd2 sb2=>?_) (by omega)
  have k2:∀b o,b≠it->b≠d->s.heap.get? b=some o->h2.get? b=some o:=fun b o hb hb' e=>(sb2.2 b hb').trans (k1 b o hb e)
  have e1:((i:Int)+1)=((i+1:Nat):Int):=by omega
  rw[e1]
  refine wpAny_pure ⟨plainId_quiet DU.p_loop _,ih (i+1) _ ps (stored kvs p.1 p.2) R (by omega) (Nat.succ.inj hl) ?_ (hit1.at fun o e=>(sb2.2 it hid).trans e) (by obtain⟨o,n,e,r⟩:=pl;exact⟨o,n,k2 l o hli hld e,r⟩) (fun j q hq=>?_) hd2 fun h' tk hd' kp=>?_⟩
  ·have:(stored kvs p.1 p.2).length<=kvs.length+1:=by unfold stored;split<;>simp
   omega
  ·obtain⟨v,ev',⟨t1,rfl,n1,n2⟩,t2,key2,e2,tu2,kk2⟩:=hp (j+1) q hq
   cases e2
   refine⟨_,by rw[<-ev'];congr 1;omega,⟨t1,rfl,n1,n2⟩,t1,key2,rfl,?_,kk2⟩
   obtain⟨o,e,r⟩:=tu2
   exact⟨o,k2 t1 o n2 n1 e,r⟩
  ·exact hR h' tk hd' fun b o hb hb' e=>kp b o hb hb' (k2 b o hb hb' e)
end
open PySem PySem.Spec PyProof.Rows L2 PySem.W
section
variable{prog:Program}{w:World}{A:Around}{E:Value->Shared->Prop}{s:Shared}
theorem zDV{l:Addr}{its:Array Value}{ps:List (Key×Value)}{Q:Value->Shared->Prop}(hh:A.handled=none)(pl:PlainL s.heap l its)(hl:ps.length=its.size)(hz:its.size<=sizeLine)(hp:∀(j:Nat) (p:Key×Value),ps[j]?=some p->∃v,its[j]?=some v/\zJ9 s.heap v p.1 p.2)(h:∀h' tk,h'.DictOf (yL prog w) s.heap.objs.size (ps.foldl (fun z p=>stored z p.1 p.2) [])->(∀b o,s.heap.get? b=some o->h'.get? b=some o)->Q (.ref s.heap.objs.size) { s with heap:=h',toks:=tk }):wpAny (model prog w) A (call (.type "dict") [.ref l]) Q E s:=by
 refine callType_codes (Q₁:=fun obj s₁=>obj=.ref s.heap.objs.size/\s₁={ s with heap:=s.heap.push { cls:=.type "dict",data:=.dict #[] } }) F.kt_called_dict (F.kt_typeCall_dict_1 _) F.entry_dict_init (kt_code_dict_new _ ⟨rfl,rfl⟩) ?_
 rintro obj s₁ ⟨rfl,rfl⟩
 have hnew:(s.heap.push { cls:=.type "dict",data:=.dict #[] }).DictOf (yL prog w) s.heap.objs.size []:=Heap.DictOf.new s.heap
 obtain⟨ol,nl,hol,hcl,hdl,hsl⟩:=id pl
 have hlt:l<s.heap.objs.size:=Heap.lt_size hol
 have k1:∀b o,s.heap.get? b=some o->(s.heap.push { cls:=.type "dict",data:=.dict #[] }).get? b=some o:=fun b o e=>Heap.get?_push_of_some _ e
 refine⟨hnew.typeIs,F.args_dict_init_2 _ _,?_⟩
 (unfold Builtin.«dict.__init__»)
 refine wpAny_bind ?_
 (unfold Builtin.Dict.selfAndRest)
 (refine wpAny_bind (wpAny_notOrdered_dict hnew.typeIs ?_))
 show wpAny _ _ (pure (s.heap.objs.size,[Value.ref l])) _ _ _
 refine wpAny_pure ?_
 show wpAny _ _ (Builtin.Dict.updateFrom "dict.__init__" s.heap.objs.size (.ref l) [] .none) _ _ _
 (unfold Builtin.Dict.updateFrom)
 refine wpAny_bind (wpAny_typeOf (T:="list") ⟨_,k1 _ _ hol,hcl⟩ ?_)
 rw[if_pos (by decide)]
 refine wpAny_bind (ZB (k1 _ _ hol) hcl hsl hdl (show A.in1.handled=none from hh) fun h2 tk2 k2=>?_)
 rw[if_pos (by rfl)]
 refine wpAny_bind (wpAny_rule ?_)
 have pl2:PlainL h2 l its:=⟨ol,nl,k2 _ _ (k1 _ _ hol),hcl,hdl,hsl⟩
 refine wpAny_bind (wpAny_pyIter_list (s:={ s with heap:=h2,toks:=tk2 }) pl2.isList ?_)
 have hd2:h2.DictOf (yL prog w) s.heap.objs.size []:=by
  obtain⟨o,es,ep,ho,r⟩:=hnew
  exact⟨o,es,ep,k2 _ _ ho,r⟩
 have hds:s.heap.objs.size<h2.objs.size:=by
  obtain⟨o,es,ep,ho,r⟩:=hd2
  exact Heap.lt_size ho
 have k3:∀b o,h2.get? b=some o->(h2.push { cls:=.type "list_iterator",data:=.fields #[.ref l,.int 0 0] }).get? b=some o:=fun b o e=>Heap.get?_push_of_some _ e
 have ka:∀b o,s.heap.get? b=some o->(h2.push { cls:=.type "list_iterator",data:=.fields #[.ref l,.int 0 0] }).get? b=some o:=fun b o e=>k3 _ _ (k2 _ _ (k1 _ _ e))
 refine wpAny_pure ⟨plainId_quiet DU.p_loop _,zDU (A:=A.in1) (l:=l) (it:=h2.objs.size) (d:=s.heap.objs.size) (its:=its) hh (Nat.ne_of_lt hlt) (Nat.ne_of_lt (Nat.lt_trans hlt hds)) (Nat.ne_of_gt hds) its.size 0 _ ps [] _ (by omega) hl (by simpa using hz) ⟨_,Heap.get?_push_size _ rfl,rfl,rfl⟩ ⟨ol,nl,k3 _ _ (k2 _ _ (k1 _ _ hol)),hcl,hdl,hsl⟩ (fun j p e=>?_) ?_ fun h' tk hd' kp=>?_⟩
 ·obtain⟨v,ev,t,key,rfl,⟨o,e1,r⟩,kk⟩:=hp j p e
  have:=Heap.lt_size e1
  exact⟨_,by rw[Nat.zero_add];exact ev,⟨t,rfl,Nat.ne_of_lt this,Nat.ne_of_lt (Nat.lt_trans this hds)⟩,t,key,rfl,⟨o,ka _ _ e1,r⟩,kk⟩
 ·obtain⟨o,es,ep,ho,r⟩:=hd2
  exact⟨o,es,ep,k3 _ _ ho,r⟩
 ·refine⟨rfl,h h' tk hd' fun b o e=>kp b o ?_ ?_ (ka _ _ e)⟩
  ·exact Nat.ne_of_lt (Nat.lt_trans (Heap.lt_size e) hds)
  ·exact Nat.ne_of_lt (Heap.lt_size e)
end
noncomputable def zHZ:D->Option (Key×D)
 |.tup [k,d]=>(zIJ k).map fun k=>(k,d)
 |_=>none
noncomputable def gM:List D->Option (List (Key×D))
 |[]=>some []
 |d::l=>(zHZ d).bind fun p=>(gM l).map (p::·)
noncomputable def J9(ps:List (Key×D)):List Key×List D:=ps.foldl (fun z p=>qK z.1 z.2 p.1 p.2) ([],[])
noncomputable def Q2(fl:ML):MD:=fun r=>(fl r).bind fun l=>(gM l).map J9
section
variable{X:Cx}{a:Expr}{fl:ML}{p' pos:Pos}
theorem kU(hc:X.calm=true):CallR X (.type "dict") (fun xs H Q=>∃(l:Addr) (ys:List V) (ps:List (Key×V)),xs=[.ref l]/\SqL X.K H l ys/\ps.length=ys.length/\(∀(j:Nat) (p:Key×V),ps[j]?=some p->∃t,ys[j]?=some (.ref t)/\SqT X.K H t [kV p.1,p.2])/\∀p,H p=none->Q (.ref p) (upd H p (.dK (ps.foldl (fun z p=>cJ z p.1 p.2) [])))):=by
 intro pins s σ H xs us Q I r h
 obtain⟨l,ys,ps,rfl,hl,hn,hp,q⟩:=h
 obtain⟨u,rfl,rx⟩:=rS r
 cases rx
 obtain⟨its,rv,pl,hz⟩:=I.list hl
 have hlen:=rv.length
 have ex:∀(j:Nat) (p:Key×V),ps[j]?=some p->∃(v:Value) (u:Value),its[j]?=some v/\RelV p.2 u/\zJ9 s.heap v p.1 u:=fun j p e=>by
  obtain⟨t,e1,st⟩:=hp j p e
  obtain⟨v,ev,rv'⟩:=rv.get e1
  cases rv'
  obtain⟨its2,rv2,tu,_⟩:=I.tuple st
  obtain⟨key,u,rfl,rk,ru⟩:=Vals.two rv2
  exact⟨_,u,ev,ru,t,key,rfl,tu,J5 (P:=X.prog) (w:=X.w) rk⟩
 let us:List (Key×Value):=(List.range ps.length).pmap (fun j hj=>((ps[j]'hj).1,Classical.choose (Classical.choose_spec (ex j ps[j] (List.getElem?_eq_getElem hj))))) fun j hj=>List.mem_range.mp hj
 have ul:us.length=ps.length:=by simp[us]
 have uj:∀(j:Nat) (hj:j<ps.length),us[j]?=some ((ps[j]).1,Classical.choose (Classical.choose_spec (ex j ps[j] (List.getElem?_eq_getElem hj)))):=fun j hj=>by
  rw[List.getElem?_eq_getElem (by rw[ul];exact hj)]
  simp[us]
 have hpr:∀(j:Nat) (p:Key×Value),us[j]?=some p->∃v,its.toArray[j]?=some v/\zJ9 s.heap v p.1 p.2:=fun j p e=>by
  have hj:j<ps.length:=by
   obtain⟨z,_⟩:=List.getElem?_eq_some_iff.mp e
   rw[ul] at z;exact z
  rw[uj j hj] at e
  cases e
  obtain⟨e1,e2,e3⟩:=Classical.choose_spec (Classical.choose_spec (ex j ps[j] (List.getElem?_eq_getElem hj)))
  exact⟨_,by simpa using e1,e3⟩
 have kv:∀(z:List (Key×V)) (z':List (Key×Value)),KV z z'->KV (ps.foldl (fun z p=>cJ z p.1 p.2) z) (us.foldl (fun z p=>stored z p.1 p.2) z'):=by
  have gen:∀(as:List (Key×V)) (bs:List (Key×Value)),as.length=bs.length->(∀(j:Nat) (x:Key×V) (y:Key×Value),as[j]?=some x->bs[j]?=some y->x.1=y.1/\RelV x.2 y.2)->∀(z:List (Key×V)) (z':List (Key×Value)),KV z z'->KV (as.foldl (fun z p=>cJ z p.1 p.2) z) (bs.foldl (fun z p=>stored z p.1 p.2) z'):=by
   intro as
   induction as with
   |nil=>intro bs hl _ z z' hz;cases bs with
    |nil=>exact hz
    |cons _ _=>cases hl
   |cons x as ih=>intro bs hl hr z z' hz;cases bs with
    |nil=>cases hl
    |cons y bs=>
     obtain⟨e1,e2⟩:=hr 0 x y rfl rfl
     rw[List.foldl_cons,List.foldl_cons]
     refine ih bs (Nat.succ.inj hl) (fun j x y e e'=>hr (j+1) x y e e') _ _ ?_
     rw[e1];exact hz.put y.1 e2
  refine gen ps us ul.symm fun j x y e e'=>?_
  have hj:j<ps.length:=by
   obtain⟨z,_⟩:=List.getElem?_eq_some_iff.mp e
   exact z
  rw[uj j hj] at e'
  rw[List.getElem?_eq_getElem hj] at e
  cases e;cases e'
  obtain⟨_,e2,_⟩:=Classical.choose_spec (Classical.choose_spec (ex j ps[j] (List.getElem?_eq_getElem hj)))
  exact⟨rfl,e2⟩
 have lz:(ps.foldl (fun z p=>cJ z p.1 p.2) []).length<=sizeLine:=by
  have gen:∀(as:List (Key×V)) (z:List (Key×V)),(as.foldl (fun z p=>cJ z p.1 p.2) z).length<=z.length+as.length:=by
   intro as
   induction as with
   |nil=>intro z;simp
   |cons x as ih=>
    intro z
    rw[List.foldl_cons]
    have h1:=ih (cJ z x.1 x.2)
    have h2:(cJ z x.1 x.2).length<=z.length+1:=by unfold cJ;split<;>simp
    simp only[List.length_cons];omega
  have:=gen ps []
  simp only[List.length_nil] at this;omega
 refine zDV (I.ok.hd hc) pl (by rw[ul,List.size_toArray];omega) (by rw[List.size_toArray];omega) hpr fun h' tk dd kp=>?_
 exact⟨.ref s.heap.objs.size,_,I.laid (a:=s.heap.objs.size) (o:=.dK (ps.foldl (fun z p=>cJ z p.1 p.2) [])) (t':=tk) kp (Nat.le_refl _) (JL lz (beq_eq_false_iff_ne.mpr (Ne.symm (Nat.ne_of_lt I.big))) (kv [] [] .nil) dd),rfl,q _ (I.hok.fresh (Nat.le_refl _))⟩
theorem gL{K:Fg}{O:Addr->Prop}{H:Hp}:∀{l:List D} {qs:List (Key×D)} {ys:List V},gM l=some qs->IsL K O H l ys->∃ps:List (Key×V),ps.length=ys.length/\(∀(j:Nat) (p:Key×V),ps[j]?=some p->∃t,ys[j]?=some (.ref t)/\SqT K H t [kV p.1,p.2]) /\
  ∀(kvs:List (Key×V)) (ks:List Key) (ds:List D),kvs.map (·.1)=ks->IsL K O H ds (kvs.map (·.2))->(ps.foldl (fun z p=>cJ z p.1 p.2) kvs).map (·.1)=(qs.foldl (fun z p=>qK z.1 z.2 p.1 p.2) (ks,ds)).1/\IsL K O H (qs.foldl (fun z p=>qK z.1 z.2 p.1 p.2) (ks,ds)).2 ((ps.foldl (fun z p=>cJ z p.1 p.2) kvs).map (·.2))
 |[],qs,ys,e,h=>by
  cases e
  unfold IsL at h
  subst h
  exact⟨[],rfl,fun j p e=>by simp at e,fun kvs ks ds e1 e2=>⟨e1,e2⟩⟩
 |d::l,qs,ys,e,h=>by
  obtain⟨⟨k,d'⟩,e1,e2⟩:=bind_some e
  obtain⟨qs',e3,rfl⟩:=map_some e2
  unfold IsL at h
  obtain⟨y,ys',rfl,iy,il⟩:=h
  obtain⟨ps,hl,hp,hf⟩:=gL e3 il
  unfold zHZ at e1
  split at e1
  ·rename_i kd dd
   obtain⟨k',e4,e5⟩:=map_some e1
   cases e5
   rw[Is.tup_iff] at iy
   obtain⟨t,xs,rfl,st,i2⟩:=iy
   unfold IsL at i2
   obtain⟨v1,xs1,rfl,j1,i3⟩:=i2
   unfold IsL at i3
   obtain⟨v2,xs2,rfl,j2,i4⟩:=i3
   unfold IsL at i4
   subst i4
   have ek:v1=kV k:=by
    cases kd<;>first|(cases e4;done)|skip
    ·cases e4;rw[Is.int_iff] at j1;exact j1
    ·cases e4;rw[Is.str_iff] at j1;exact j1
   subst ek
   refine⟨(k,v2)::ps,by simp[hl],fun j p e=>?_,fun kvs ks ds g1 g2=>?_⟩
   ·cases j with
    |zero=>cases e;exact⟨t,rfl,st⟩
    |succ j=>exact hp j p e
   ·rw[List.foldl_cons,List.foldl_cons]
    obtain⟨q1,q2⟩:=YK (k:=k) g1 g2 j2
    exact hf _ _ _ q1 q2
  ·cases e1
theorem JF(hc:X.calm=true)(hg:Gl X "dict")(hm:X.mg "dict" = none)(ha:DB X a fl)(hs:starEach [a] X.env=(false,eval a X.env)::starEach [] X.env:=by rfl):DFd X (.Call (.Name "dict" p') [a] [] pos) (Q2 fl):=by
 refine PE.conseq (kI (kU hc) hg hm PyProof.Rows.boot_dict (yD ha xH hs) (he:=hs)) fun σ H Q hq=>?_
 obtain⟨O0,r,ks,l,hR,e,q⟩:=hq
 obtain⟨ds,e1,e2⟩:=bind_some e
 obtain⟨qs,e3,e4⟩:=map_some e2
 refine⟨O0,r,ds,hR,e1,fun c xs H1 s1 sq il=>?_⟩
 obtain⟨ps,hl,hp,hf⟩:=gL e3 il
 refine⟨c,xs,ps,rfl,sq,hl,hp,fun t ht=>?_⟩
 obtain⟨q1,q2⟩:=hf [] [] [] rfl .nil
 unfold J9 at e4
 rw[e4] at q1 q2
 refine q t _ _ (s1.trans (z3 ht)) (s1.free ht) zN q1 ?_
 exact IsL.mono (Same.kp (z3 ht) _) (hR.same s1).ol (fun b z nn=>z.elim id fun z=>by subst z;exact absurd ht nn) _ _ q2
end
open PySem PySem.Spec PyProof.Rows L2 PySem.W
structure CMeth(K:Fg)(B:Addr)(m:Str)(f:Addr):Prop where
 ga:specialIn K (.ref B) "__getattribute__" = some (some (.builtin "type.__getattribute__"))
 rd:readsIn K B (.type "type")=true
 fc:findCls K (.ref B) (.type "type") m=some (.val (.ref f))
 hh:handedIn (.ref f)=true
 kp:keepIn K (.ref f)=true
section
variable{X:Cx}{CX:CXT}{k:Nat}{f B:Addr}{fd:FuncData}{ps:List Str}{sp:Sp}{dvs:List V}{ds:List Value}{E:XK}{x m:Str}{p pos apos:Pos}{e:Expr}{es:List Expr}{t:TA}
theorem QD{pl:Sem Bool}(M:CMeth X.K B m f)(F:FnOk X.prog X.w X.K X.mg X.base CX k f fd ps sp)(hr:Room k X.A)(hg:Gl X x)(hm:X.mg x=some (.ref B))(hb:Binds X.K fd ps ds)(hd:Vals dvs ds)(hx:bC CX X E)(ha:PA X (e::es) t)(hdb:(x == ("__debug__" : Str))=false:=by decide)(hst:starEach (e::es) X.env=(false,eval e X.env)::starEach es X.env:=by rfl)(hpl:(backTo pos (starEach es X.env)).any (·.1)=false:=by rfl)(ht:eval (.Call (.Attribute (.Name x p) m apos) (e::es) [] pos) X.env=(do
   let ov <- eval (.Name x p) X.env
   standAt apos.atName
   let (f,first) <- holding [ov] (getMethod ov m pl)
   callWith pos f first (backTo pos (starEach (e::es) X.env)) (backToKw pos (keywordEach [] X.env))):=by rfl):PE X (.Call (.Attribute (.Name x p) m apos) (e::es) [] pos) (zEV sp dvs E t):=by
 intro pins s σ H Q I h
 refine PySem.W.methodCall_KW (pl:=pl) ?_ ht
 refine hE I hg hm ?_ hdb
 refine method_cls I.kIn M.ga (cls_value I.kIn M.rd M.fc M.hh ?_)
 refine PySem.W.callWith_K (first:=[]) (h₀:=X.base) I.ok.mod.kin M.kp (thn (ha pos pins { s with toks:=s.toks+1 } σ H _ (I.tok _) h) fun us s2 ⟨vs,H2,I2,r,q2⟩=>⟨I2.kIn,?_⟩) hst hpl
 exact nH F hr hb hd hx I2 r q2
end
open PySem PySem.Spec PyProof.Rows L2 PySem.W
section
variable{K:Fg}{O O':Addr->Prop}{H:Hp}{r:En}{σ:St}{i:Nat}
theorem R.plain(no:NoOwn r)(len:r.length=σ.length)(ol:qV O H)(val:∀(i:Nat) (d:D),r[i]?=some (.v d)->∃v,σ[i]?=some (some v)/\Is K O H d v):R K O H r σ:=by
 have ow:Ow O r σ=O:=funext fun b=>propext no.ow
 refine⟨len,fun i d e=>by rw[ow];exact val i d e,fun i l e=>?_,fun i j b l m e1 e2 _ _=>?_,ol,fun i l b e _=>?_,fun i l b e _=>?_,fun i ks l e=>?_⟩
 ·have:=no i;rw[qT e] at this;cases this
 ·have:=no i;rw[e1] at this;cases this
 ·exfalso
  have:=no i
  rcases e with e|e|⟨ks,e⟩<;>rw[e] at this<;>cases this
 ·have:=no i;rw[e] at this;cases this
 ·have:=no i;rw[e] at this;cases this
theorem R.valO(h:R K O H r σ)(no:NoOwn r){d:D}(e:r[i]?=some (.v d)):∃v,σ[i]?=some (some v)/\Is K O H d v:=by
 obtain⟨v,e1,q⟩:=h.val i d e
 rw[show Ow O r σ=O from funext fun b=>propext no.ow] at q
 exact⟨v,e1,q⟩
theorem Kp.plain{H':Hp}{r':En}{σ':St}(s:Same H H')(no:NoOwn r)(no':NoOwn r'):Kp H r σ H' r' σ':=by
 have k:=Kp.of_same r σ s
 refine⟨k.keep,k.live,k.lst,fun b z=>absurd z (no'.at fun _ _ e=>e),fun b z=>absurd z (no'.at fun x l e=>by cases x<;>first|exact e|cases e),fun i l e=>?_,fun i l e=>?_⟩
 ·have:=no i;rw[e] at this;cases this
 ·have:=no i;rw[e] at this;cases this
noncomputable def QT(r:En):Bool:=r.all fun s=>s.own.isNone
theorem uO(h:QT r=true):NoOwn r:=fun i=>by
 cases e:r[i]? with
 |none=>rfl
 |some x=>
  have:=List.all_eq_true.mp h x (List.mem_of_getElem? e)
  show x.own=none
  exact Option.isNone_iff_eq_none.mp this
end
noncomputable def Ox(O:Addr->Prop)(x w c:Addr):Addr->Prop:=fun b=>O b\/b=x\/b=w\/b=c
noncomputable def zKH(K:Fg)(C:Addr):Sp:=fun vs H Q _=>∃x dx m,vs=[.ref x,.int m]/\H x=some (.ins C dx []) /\
 ∀w c H',w≠c->H w=none->H c=none->H' x=some (.ins C dx [("most",.int m),("steps",.int 0),("waiting",.ref w),("come",.ref c),("ended",.non)])->H' w=some (.lst [])->H' c=some (.lst [])->(∀b o,H b=some o->b≠x->H' b=some o)->Q .non H'
noncomputable def zKI(K:Fg)(C:Addr)(dd:D->Option D):Sp:=fun vs H Q _=>∃O x dx pd pv m d,vs=[.ref x,pv,.int m]/\H x=some (.ins C dx [])/\qV O H/\¬O x/\Is K (Ox O x x x) H pd pv/\dd pd=some d /\
 ∀w c vd H',w≠c->H w=none->H c=none->H' x=some (.ins C dx (mfs m 0 w c .non vd))->H' w=some (.lst [])->H' c=some (.lst [])->(∀b o,H b=some o->b≠x->H' b=some o)->qV (Ox O x w c) H'->Is K (Ox O x w c) H' d vd->Q .non H'
section
variable{X:Cx}{K:Fg}{C:Addr}
theorem WV{N:List Str}{vs:List V}{H:Hp}{Q:VK}{E:XK}(hN:N.length=2)(cl:Cls K C)(n1:NoAttr K C "most")(n2:NoAttr K C "steps")(n3:NoAttr K C "waiting")(n4:NoAttr K C "come")(n5:NoAttr K C "ended")(h:zKH K C vs H Q E):zHM (zFT K (jY 0) (jY 1) "most") (zHM (zFT K (jY 0) (fun _ H Q=>Q (.int 0) H) "steps") (zHM (zFT K (jY 0) (zKF zEU) "waiting") (zHM (zFT K (jY 0) (zKF zEU) "come") (zFT K (jY 0) (fun _ H Q=>Q .non H) "ended")))) { nx:=fun _ H'=>Q .non H',rt:=Q } (L2.start N vs) H:=by
 obtain⟨x,dx,m,rfl,hx,q⟩:=h
 have s0:(L2.start N [.ref x,.int m])[0]?=some (some (.ref x)):=rfl
 have s1:(L2.start N [.ref x,.int m])[1]?=some (some (.int m)):=rfl
 refine⟨.int m,s1,.ref x,s0,x,C,dx,[],rfl,hx,cl,n1,by decide,?_⟩
 refine⟨.ref x,s0,x,C,dx,_,rfl,zN,cl,n2,by show 1<1000;decide,?_⟩
 refine⟨Nat.zero_le _,fun w hw=>⟨.ref x,s0,x,C,dx,[("most",.int m),("steps",.int 0)],rfl,?_,cl,n3,by show 2<1000;decide,?_⟩⟩
 ·rw[zM (fun z=>by rw[<-z,zN] at hw;cases hw),zN];rfl
 have xw:x≠w:=fun z=>by rw[<-z,zN] at hw;cases hw
 refine⟨Nat.zero_le _,fun c hc=>⟨.ref x,s0,x,C,dx,[("most",.int m),("steps",.int 0),("waiting",.ref w)],rfl,?_,cl,n4,by show 3<1000;decide,?_⟩⟩
 ·rw[zM (fun z=>by rw[<-z,zN] at hc;cases hc),zN];rfl
 have xc:x≠c:=fun z=>by rw[<-z,zN] at hc;cases hc
 refine⟨.ref x,s0,x,C,dx,[("most",.int m),("steps",.int 0),("waiting",.ref w),("come",.ref c)],rfl,zN,cl,n5,by show 4<1000;decide,?_⟩
 rw[zM xw.symm,zM xw.symm] at hw
 rw[zM xc.symm] at hc
 have wc:w≠c:=fun z=>by rw[z,zN] at hc;cases hc
 rw[zM wc.symm,zM xc.symm,zM xc.symm] at hc
 refine q w c _ wc hw hc zN ?_ ?_ fun b o e hb=>?_
 ·rw[zM xw.symm,zM xw.symm,zM wc,zM xw.symm,zN]
 ·rw[zM xc.symm,zM xc.symm,zN]
 ·have h1:b≠w:=fun z=>by rw[z,hw] at e;cases e
  have h2:b≠c:=fun z=>by rw[z,hc] at e;cases e
  rw[zM hb,zM hb,zM h2,zM hb,zM h1,zM hb,zM hb];exact e
end
open PySem PySem.Spec PyProof.Rows L2 PySem.W
section
variable{K:Fg}{C:Addr}
theorem zEZ{O:Addr->Prop}{H H1:Hp}{x w c:Addr}{o1 o2 o3:HO}(ol:qV O H)(nx:¬O x)(e1:H1 x=some o1)(e2:H1 w=some o2)(e3:H1 c=some o3)(m1:Mb o1)(m2:Mb o2)(m3:Mb o3)(k:∀b o,H b=some o->b≠x->H1 b=some o):qV (Ox O x w c) H1:=fun b z=>by
 rcases z with z|z|z|z
 ·obtain⟨o,e,mb⟩:=ol b z
  exact⟨o,k b o e (fun q=>nx (q ▸ z)),mb⟩
 ·subst z;exact⟨o1,e1,m1⟩
 ·subst z;exact⟨o2,e2,m2⟩
 ·subst z;exact⟨o3,e3,m3⟩
theorem W5{N:List Str}{vs:List V}{H:Hp}{Q:VK}{E:XK}{dd:D->Option D}{fd':ME}(hN:N.length=3)(cl:Cls K C)(n6:NoAttr K C "defs")(hdd:∀pd d,dd pd=some d->∀m,fd' [.un,.v pd,.v (.int m)]=some d)(h:zKI K C dd vs H Q E):zHM (zHO (zEV (zKH K C) [] E0 (Z8 (jY 0) (Z8 (jY 2) zEU)))) (zFT K (jY 0) (lE K fd') "defs") { nx:=fun _ H'=>Q .non H',rt:=Q } (L2.start N vs) H:=by
 obtain⟨O,x,dx,pd,pv,m,d,rfl,hx,ol,nx,ip,ed,q⟩:=h
 have s0:(L2.start N [.ref x,pv,.int m])[0]?=some (some (.ref x)):=rfl
 have s2:(L2.start N [.ref x,pv,.int m])[2]?=some (some (.int m)):=rfl
 refine⟨.ref x,s0,.int m,s2,x,dx,m,rfl,hx,fun w c H1 wc hw hc e1 e2 e3 k=>?_⟩
 have ol0:qV (Ox O x x x) H:=zEZ ol nx hx hx hx trivial trivial trivial fun b o e _=>e
 have ol1:qV (Ox O x w c) H1:=zEZ ol nx e1 e2 e3 trivial trivial trivial k
 have ip1:Is K (Ox O x w c) H1 pd pv:=Is.mono (fun b o e n=>k b o e fun z=>n (.inr (.inl z))) ol0 (fun b z nn=>by
  rcases z with z|z|z|z
  ·exact .inl z
  ·exact .inr (.inl z)
  ·exact absurd (z ▸ hw) nn
  ·exact absurd (z ▸ hc) nn) _ _ ip
 have hs:L2.start N [.ref x,pv,.int m]=[some (.ref x),some pv,some (.int m)]:=by
  unfold L2.start;rw[hN];rfl
 have no:NoOwn [.un,.v pd,.v (.int m)]:=uO rfl
 have rr:R K (Ox O x w c) H1 [.un,.v pd,.v (.int m)] (L2.start N [.ref x,pv,.int m]):=by
  rw[hs]
  refine R.plain no rfl ol1 fun i d' e=>?_
  match i,e with
  |0,e=>cases e
  |1,e=>cases e;exact⟨pv,rfl,ip1⟩
  |2,e=>cases e;exact⟨.int m,rfl,by rw[Is.int_iff]⟩
  |i+3,e=>simp at e
 refine⟨_,_,d,rr,hdd pd d ed m,fun v H2 s iv=>?_⟩
 rw[show Ow (Ox O x w c) [.un,.v pd,.v (.int m)] (L2.start N [.ref x,pv,.int m])=Ox O x w c from funext fun b=>propext no.ow] at iv
 refine⟨.ref x,s0,x,C,dx,_,rfl,s _ _ e1,cl,n6,by show 5<1000;decide,?_⟩
 have xw:w≠x:=fun z=>by rw[z,hx] at hw;cases hw
 have xc:c≠x:=fun z=>by rw[z,hx] at hc;cases hc
 have kx:∀b o,H2 b=some o->b≠x->upd H2 x (.ins C dx (mfs m 0 w c .non v)) b=some o:=fun b o e hb=>by rw[zM hb];exact e
 refine q w c v _ wc hw hc zN (kx _ _ (s _ _ e2) xw) (kx _ _ (s _ _ e3) xc) (fun b o e hb=>kx _ _ (s _ _ (k b o e hb)) hb) ?_ ?_
 ·exact zEZ ol nx zN (kx _ _ (s _ _ e2) xw) (kx _ _ (s _ _ e3) xc) trivial trivial trivial fun b o e hb=>kx _ _ (s _ _ (k b o e hb)) hb
 ·exact Is.mono (fun b o e n=>kx b o e fun z=>n (.inr (.inl z))) (fun b z=>by obtain⟨o,e,mb⟩:=ol1 b z;exact⟨o,s _ _ e,mb⟩) (fun _ z _=>z) _ _ iv
end
noncomputable def zKR:Option Sl->Bool
 |some .un=>true
 |_=>false
theorem zDE{s:Option Sl}(h:zKR s=true):s=some .un:=by
 unfold zKR at h;split at h<;>first|rfl|cases h
noncomputable def zI4(i:Nat)(fp fm:ME)(dd:D->Option D)(g:MEs):MS:=fun r=>if QT r=true/\zKR r[i]?=true then (fp r).bind fun pd=>(fm r).bind fun md=>match md with
 |.int m=>(dd pd).bind fun d=>(g ⟨m,0,[],[],.non,d⟩ r).bind fun fl=>(match fl with
  |.rt d _ r'=>if QT r'=true then some (.rt d r') else none
  |_=>none)
 |_=>none else none
section
variable{X:Cx}{C f:Addr}{k:Nat}{fd:FuncData}{ps:List Str}{x nm:Str}{a b:Expr}{fp fm:ME}{dd:D->Option D}{g:MEs}{rest:List Stmt}{p p' pos pos':Pos}
theorem zHD(i:Nat)(M:Mk X.K C f)(F:FnOk X.prog X.w X.K X.mg X.base CX0 k f fd ps (zKI X.K C dd))(hr:Room (k+1) X.A)(hg:Gl X x)(hm:X.mg x=some (.ref C))(hb:Binds X.K fd ps [])(ha:DE X a fp)(hb':DE X b fm)(hrest:zAF X C i rest g)(hN:X.N.Nodup)(hi:X.N[i]?=some nm:=by rfl)(hx:Loc X.env.scope nm:=by first|exact Or.inl rfl|exact Or.inr rfl)(hs:swapsWith (.Call (.Name x p) [a,b] [] p') (some (.Name nm pos')) pos.line X.env=pure false:=by rfl)(hf:X.fn nm=true\/X.env.scope.names.lookup nm=some .local:=by first|exact .inl rfl|exact .inr rfl)(hdb:(x == ("__debug__" : Str))=false:=by decide)(he:starEach [a,b] X.env=(false,eval a X.env)::starEach [b] X.env:=by rfl)(he2:starEach [b] X.env=(false,eval b X.env)::starEach [] X.env:=by rfl)(hpl:(backTo p' (starEach [b] X.env)).any (·.1)=false:=by rfl):DSs X (.Assign [.Name nm pos'] (.Call (.Name x p) [a,b] [] p') pos::rest) (zI4 i fp fm dd g):=by
 refine PSs.conseq (qM (gJ hN hi hx (zB6 (dvs:=[]) (E:=E0) M F hr hg hm hb .nil cZ (yD ha (yD hb' xH he2) he) hdb he hpl) hs hf) hrest) fun Dn σ H hq=>?_
 obtain⟨O,r,fl,hR,e,q⟩:=hq
 unfold zI4 at e
 split at e
 case isFalse=>cases e
 rename_i hno
 obtain⟨hno,hun⟩:=hno
 have hun:=zDE hun
 have no:=uO hno
 have ow:Ow O r σ=O:=funext fun b=>propext no.ow
 obtain⟨pd,e1,e⟩:=bind_some e
 obtain⟨md,e2,e⟩:=bind_some e
 cases md<;>first|(cases e;done)|skip
 rename_i m
 obtain⟨d,e3,e⟩:=bind_some e
 obtain⟨fl1,e4,e⟩:=bind_some e
 cases fl1 with
 |nx st' r'=>cases e
 |rt d' st' r'=>
  dsimp only at e
  split at e
  case isFalse=>cases e
  rename_i hno'
  cases e
  have no':=uO hno'
  refine⟨O,r,pd,hR,e1,fun pv H1 s1 ip=>⟨O,r,.int m,hR.same s1,e2,fun mv H2 s2 im=>?_⟩⟩
  rw[ow] at ip im
  rw[Is.int_iff] at im
  subst im
  intro y dx ny ndx hne
  have R2:=(hR.same s1).same s2
  have s3:Same H2 (upd (upd H2 dx (.own y)) y (.ins C dx [])):=fun b o e=>by
   rw[zM (fun z=>by rw[z,ny] at e;cases e),zM (fun z=>by rw[z,ndx] at e;cases e)];exact e
  have nOy:¬O y:=fun z=>by obtain⟨o,e,_⟩:=R2.o0 y z;rw[ny] at e;cases e
  have ip3:Is X.K (Ox O y y y) (upd (upd H2 dx (.own y)) y (.ins C dx [])) pd pv:=Is.mono (O:=O) (H:=H2) (fun b o e _=>s3 _ _ e) R2.o0 (fun b z nn=>by
   rcases z with z|z|z|z
   ·exact z
   all_goals exact absurd (z ▸ ny) nn) _ _ (Is.mono (O:=O) (fun b o e _=>s2 _ _ e) (hR.same s1).o0 (fun _ z _=>z) _ _ ip)
  refine⟨O,y,dx,pd,pv,m,d,rfl,zN,fun b z=>by obtain⟨o,e,mb⟩:=R2.o0 b z;exact⟨o,s3 _ _ e,mb⟩,nOy,ip3,e3,fun w c vd H4 wc hw hc f1 f2 f3 k4 ol4 iv=>⟨rfl,?_⟩⟩
  have sA:Same H H4:=fun b o e=>k4 b o (s3 _ _ (s2 _ _ (s1 _ _ e))) fun z=>by have:=s2 _ _ (s1 _ _ e);rw[z,ny] at this;cases this
  have hyi:(σ.set i (some (.ref y)))[i]?=some (some (.ref y)):=by
   have hi':i<σ.length:=by
    rw[<-hR.len]
    obtain⟨z,_⟩:=List.getElem?_eq_some_iff.mp hun
    exact z
   exact zK hi'
  have R4:R X.K (Ox O y w c) H4 r (σ.set i (some (.ref y))):=by
   refine R.plain no (by rw[List.length_set];exact hR.len) ol4 fun j d' e=>?_
   have hj:i≠j:=fun z=>by rw[<-z,hun] at e;cases e
   obtain⟨v,e5,q5⟩:=hR.valO no e
   refine⟨v,by rw[List.getElem?_set_ne hj];exact e5,Is.mono (O:=O) (H:=H) (fun b o e _=>sA _ _ e) hR.o0 (fun b z nn=>?_) _ _ q5⟩
   rcases z with z|z|z|z
   ·exact z
   ·exact absurd (s1.free (s2.free (z ▸ ny))) nn
   ·exact absurd (s1.free (s2.free (s3.free (z ▸ hw)))) nn
   ·exact absurd (s1.free (s2.free (s3.free (z ▸ hc)))) nn
  have ms:Mch X.K (Ox O y w c) H4 C y w c ⟨m,0,[],[],.non,d⟩:=⟨⟨dx,[],[],.non,vd,f1,f2,f3,by rw[Is.non_iff],iv,.nil,.nil⟩,wc,.inr (.inl rfl),.inr (.inr (.inl rfl)),.inr (.inr (.inr rfl))⟩
  refine⟨Ox O y w c,y,w,c,_,r,_,⟨ms,R4,no,hyi⟩,e4,fun v σ' H' m' iv' k'=>?_⟩
  have sB:Same H H':=fun b o e=>by
   have hb:=s2 _ _ (s1 _ _ e)
   have hb3:=s3 _ _ hb
   refine k' b o (sA _ _ e) (fun z=>?_) (fun z=>?_) (fun z=>?_)
   ·rw[z,ny] at hb;cases hb
   ·rw[z,hw] at hb3;cases hb3
   ·rw[z,hc] at hb3;cases hb3
  have olB:qV O H':=fun b z=>by obtain⟨o,e,mb⟩:=hR.o0 b z;exact⟨o,sB _ _ e,mb⟩
  have dn:∀{d:D} {v:V},Is X.K (Ox O y w c) H' d v->Is X.K O H' d v:=fun iv=>Is.mono (fun b o e _=>e) m'.ol (fun _ z _=>.inl z) _ _ iv
  refine q v σ' H' (R.plain no' m'.rr.len olB fun j d' e=>?_) (Kp.plain sB no no') (dn iv')
  obtain⟨u,e5,q5⟩:=m'.rr.valO no' e
  exact⟨u,e5,dn q5⟩
end
open PySem PySem.Spec PyProof.Rows L2 PySem.W
section
variable{X:Cx}{C:Addr}{z:Nat}{a b e:Expr}{es:List Expr}{m:MEf}{ms:MEa}{f g:ME}{x y:Str}{p pos apos npos:Pos}{k n:Nat}{fa:Addr}{fd:FuncData}{ps:List Str}{sts:List Stmt}
theorem McR.ows{O:Addr->Prop}{H:Hp}{a w c:Addr}{st:Mst}{r:En}{σ:St}(mr:McR X.K O H C z a w c st r σ):Ow O r σ=O:=funext fun b=>propext mr.no.ow
theorem zCS{x1}(h:DMa X C z es ms):DMe X C z (.Tuple es x1 pos) (fun st r=>(ms st r).bind fun p=>if p.1.length<=sizeLine then some (.tup p.1,p.2) else none):=by
 refine PE.conseq (zB2 h) fun σ H Q hq=>?_
 obtain⟨O,a,w,c,st,r,d,st',mr,e1,q⟩:=hq
 obtain⟨⟨l,st1⟩,e2,e3⟩:=bind_some e1
 dsimp only at e3
 split at e3
 case isFalse=>cases e3
 rename_i hl
 cases e3
 refine⟨O,a,w,c,st,r,l,_,mr,e2,fun vs H1 m1 il k1=>⟨by rw[<-il.length];exact hl,fun t ht=>?_⟩⟩
 have s2:=z3 (o:=.tup vs) ht
 refine q _ _ (m1.same s2) ?_ (k1.trans (KeepM.same s2))
 rw[Is.tup_iff]
 exact⟨t,vs,rfl,SqT.of zN,il.same s2 m1.ol⟩
theorem zH4(ha:DMe X C z a m)(hb:DE X b g)(hs:v4 b:=by intro _ _;rfl):DMe X C z (.Subscript a b pos) (fun st r=>(m st r).bind fun p=>(g r).bind fun k=>(ixD p.1 k).map fun d=>(d,p.2)):=by
 refine PE.conseq (zB7 zDC ha hb hs) fun σ H Q hq=>?_
 obtain⟨O,a,w,c,st,r,d,st',mr,e1,q⟩:=hq
 obtain⟨⟨d1,st1⟩,e2,e3⟩:=bind_some e1
 obtain⟨kd,e4,e5⟩:=bind_some e3
 obtain⟨d2,e6,e7⟩:=map_some e5
 cases e7
 refine⟨O,a,w,c,st,r,d1,st1,mr,e2,fun v H1 m1 iv k1=>⟨O,r,kd,m1.rr,e4,fun u H2 s2 iu=>?_⟩⟩
 have m2:=m1.same s2
 rw[m1.ows] at iu
 exact zH0 O H2 _ _ _ _ _ _ m2.ol (iv.same s2 m1.ol) iu e6 fun v' H3 s3 iv'=>q v' H3 (m2.same s3) iv' ((k1.trans (KeepM.same s2)).trans (KeepM.same s3))
theorem QZ{mf:MF}(F:FnOk X.prog X.w X.K X.mg X.base CX0 k fa fd ps (spD X.K n mf))(hr:Room k X.A)(hg:Gl X x)(hm:X.mg x=some (.ref fa))(hk:PySem.W.keepIn X.K (.ref fa)=true)(hb:Binds X.K fd ps [])(ha:DMa X C z (e::es) ms)(hdb:(x == ("__debug__" : Str))=false:=by decide)(he:starEach (e::es) X.env=(false,eval e X.env)::starEach es X.env:=by rfl)(hpl:(backTo pos (starEach es X.env)).any (·.1)=false:=by rfl):DMe X C z (.Call (.Name x p) (e::es) [] pos) (fun st r=>(ms st r).bind fun p=>if p.1.length=n then (mf (p.1.map .v)).bind fun q=>(match q.1 with | .v d=>some (d,p.2)|_=>none) else none):=by
 refine PE.conseq (vR (E:=fun _ _ _=>False) (dvs:=[]) F hr hg hm hk hb .nil cZ ha hdb he hpl) fun σ H Q hq=>?_
 obtain⟨O,a,w,c,st,r,d,st',mr,e1,q⟩:=hq
 obtain⟨⟨ds,st1⟩,e2,e3⟩:=bind_some e1
 dsimp only at e3
 split at e3
 case isFalse=>cases e3
 rename_i hl
 obtain⟨⟨rs,as'⟩,e4,e5⟩:=bind_some e3
 cases rs<;>first|(cases e5;done)|skip
 cases e5
 refine⟨O,a,w,c,st,r,ds,_,mr,e2,fun vs H1 m1 il k1=>?_⟩
 refine bN m1.rr (Same.refl H1) (by rw[m1.ows];exact il) hl e4 ?_
 intro v H2 pf iv
 rw[m1.ows] at iv
 exact q v H2 (m1.same pf.same) iv (k1.trans (KeepM.same pf.same))
noncomputable def rT(g:ME):MEf:=fun st r=>(g r).bind fun kd=>(zIJ kd).bind fun k=>match st.defs with
 |.dct ks l=>(yS ks l k).map fun d=>(d,st)
 |_=>none
theorem YU(hu:X.A.units+1<cLine)(hv:PE X (.Name x npos) (jY z))(cl:Cls X.K C)(na:NoAttr X.K C "defs")(hk:DE X b g)(hs:zKB b:=by intro _ _;rfl)(hb:attributeBase (.Name x npos) "defs" X.env (eval (.Name x npos) X.env)=eval (.Name x npos) X.env:=by rfl):DMe X C z (.Subscript (.Attribute (.Name x npos) "defs" apos) b pos) (rT g):=by
 refine PE.conseq (YO hu (uK hv hb) hk hs) fun σ H Q hq=>?_
 obtain⟨O,a,w,c,st,r,d,st',mr,e1,q⟩:=hq
 obtain⟨kd,e2,e3⟩:=bind_some e1
 obtain⟨j,e4,e5⟩:=bind_some e3
 obtain⟨dx,xs,ys,ve,vd,g1,g2,g3,g4,g5,g6,g7⟩:=mr.ms.ex
 split at e5
 case h_2=>cases e5
 rename_i ks l ed
 obtain⟨d',e6,e7⟩:=map_some e5
 cases e7
 refine⟨.ref a,qB mr,a,C,dx,_,vd,rfl,g1,cl,na,rfl,O,r,kd,mr.rr,e2,fun y H2 s2 iy=>?_⟩
 have m2:=mr.same s2
 have g5':=g5.same s2 mr.ol
 rw[ed,Is.dct_iff] at g5'
 obtain⟨c',kvs,rfl,no,rd,rfl,il⟩:=g5'
 rw[mr.ows] at iy
 rcases uV j il with⟨dd,v,p1,p2,p3⟩|⟨p1,p2⟩
 ·rw[p1] at e6;cases e6
  exact⟨c',v,rfl,.inl ⟨kvs,j,rd,pP e4 iy,p2.symm⟩,q v H2 m2 p3 (KeepM.same s2)⟩
 ·rw[p1] at e6;cases e6
theorem pI:zAF X C z sts (fun _ _=>none):=fun pins s σ H Dn I h=>by
 obtain⟨O,a,w,c,st,r,fl,mr,e,q⟩:=h
 cases e
end
section
variable{P:Program}{w:World}{K:Fg}{mg:Str->Option Value}{base:Heap}{C f:Addr}{fd:FuncData}{ps:List Str}{k n:Nat}
theorem x3{m m':Mst->List D->Option (D×Mst)}(F:FnOk P w K mg base CX0 k f fd ps (spM K C n m))(i:∀st ds p,ds.length=n->m' st ds=some p->m st ds=some p):FnOk P w K mg base CX0 k f fd ps (spM K C n m'):=F.imp fun vs H Q E h=>by
 obtain⟨O,a,w,c,st,ds,us,d,st',e1,e2,e3,e4,e5,e6,q⟩:=h
 exact⟨O,a,w,c,st,ds,us,d,st',e1,e2,e3,e4,e5,i _ _ _ e2 e6,q⟩
end
open PySem PySem.Spec PyProof.Rows L2 PySem.W
namespace RP
theorem boot_repr:bootBuiltins "repr" = some (.builtin "repr"):=by decide +kernel
end RP
noncomputable def gF(l:List D):Bool:=zCD l && (toP (.lst l)).showable && !(toP (.lst l)).hasDict && decide ((toP (.lst l)).depth<=150) && decide ((toP (.lst l)).shown.length<=sizeLine)
noncomputable def gG(l:List D):D:=.str (toP (.lst l)).shown.cps.toList
noncomputable def g8(fl:ML):ME:=fun r=>(fl r).bind fun l=>if gF l=true then some (gG l) else none
section
variable{X:Cx}{a e:Expr}{fl:ML}{f:ME}{p' pos pos':Pos}{k:Nat}{x:Str}
theorem ZW(hr:Room k X.A):CallR X (.builtin "repr") (fun xs H Q=>∃O l p ys,xs=[.ref p]/\SqL X.K H p ys/\IsL X.K O H l ys/\gF l=true/\Q (.str (toP (.lst l)).shown) H):=by
 intro pins s σ H xs us Q I r h
 obtain⟨O,l,p,ys,rfl,hl,il,ok,q⟩:=h
 obtain⟨u,rfl,rx⟩:=rS r
 cases rx
 unfold gF at ok
 simp only[Bool.and_eq_true,decide_eq_true_eq,Bool.not_eq_true'] at ok
 obtain⟨⟨⟨⟨o1,o2⟩,o3⟩,o4⟩,o5⟩:=ok
 obtain⟨its,rv,⟨ob,n,e,c,_,dt⟩,_⟩:=I.list hl
 obtain⟨as,qa⟩:=kH I l ys its o1 il rv
 have rd:Reads s.heap (.ref p) (toP (.lst l)) (p::as):=by
  have:=Reads.list e c dt (by simpa using qa)
  unfold toP
  exact this
 have:=hr.un
 exact repr_of_reads' rd o2 (PyData.noDict_hsm o3) hr.gd (by omega) (fun _ _ e=>e) (fun h' u tk kp=>⟨.str _,H,I.kept (t':=tk) kp,⟨u,rfl⟩,q⟩) o5
theorem XV(hr:Room k X.A)(hg:Gl X "repr")(hm:X.mg "repr" = none)(ha:DB X a fl)(he:starEach [a] X.env=(false,eval a X.env)::starEach [] X.env:=by rfl)(hpl:(backTo pos (starEach [] X.env)).any (·.1)=false:=by rfl):DE X (.Call (.Name "repr" p') [a] [] pos) (g8 fl):=by
 refine PE.conseq (jN (ZW hr) hg hm RP.boot_repr (yD ha xH he) (he:=he) (hpl:=hpl)) fun σ H Q hq=>?_
 obtain⟨O0,r,d,hR,e,q⟩:=hq
 obtain⟨l,e1,e2⟩:=bind_some e
 split at e2
 case isFalse=>cases e2
 rename_i ok
 cases e2
 refine⟨O0,r,l,hR,e1,fun p xs H1 s1 sq il=>⟨_,l,p,xs,rfl,sq,il,ok,q _ H1 s1 ?_⟩⟩
 unfold gG
 rw[Is.str_iff]
noncomputable def YG(i:Nat)(f:ME):MS:=fun r=>match r[i]? with
 |some (.v (.int a))=>(f r).bind fun d=>match d with
  |.int b=>(yQ i (.int (a+b)) r).map .nx
  |_=>none
 |_=>none
theorem zD2(i:Nat)(he:DE X e f)(hN:X.N.Nodup)(hi:X.N[i]?=some x:=by rfl)(hx:Loc X.env.scope x:=by first|exact Or.inl rfl|exact Or.inr rfl)(hf:X.fn x=true\/X.env.scope.names.lookup x=some .local:=by first|exact .inl rfl|exact .inr rfl):DS X (.AugAssign (.Name x pos') .Add e pos) (YG i f):=by
 refine PS.conseq (zF5 hN hi hx he zG5 hf) fun Dn σ H hq=>?_
 obtain⟨O0,r,fl',hR,e,q⟩:=hq
 unfold YG at e
 split at e
 case h_2=>cases e
 rename_i a er
 obtain⟨d,e1,e2⟩:=bind_some e
 cases d<;>first|(cases e2;done)|skip
 rename_i b
 obtain⟨r',e4,rfl⟩:=map_some e2
 obtain⟨hl,np,rfl⟩:=qH e4
 obtain⟨v,es,iv⟩:=hR.val i _ er
 rw[Is.int_iff] at iv
 subst iv
 refine⟨.int a,es,O0,r,.int b,hR,e1,fun u H1 s1 iu=>?_⟩
 rw[Is.int_iff] at iu
 subst iu
 refine⟨a,b,rfl,rfl,?_⟩
 obtain⟨R1,k1⟩:=(hR.same s1).setv (d:=.int (a+b)) (v:=.int (a+b)) hl np (by rw[Is.int_iff])
 exact q _ H1 R1 ((Kp.of_same r σ s1).trans k1)
theorem sx0{n:Nat}(h:0<n):seqIndex? 0 n=some 0:=by
 have hb:(decide ((0:Int)<=(if (0:Int)<0 then (0:Int)+n else 0)) && decide ((if (0:Int)<0 then (0:Int)+n else 0)<(n:Int)))=true:=by
  rw[if_neg (by decide)]
  simp only[Bool.and_eq_true,decide_eq_true_eq];omega
 show(if (decide ((0:Int)<=(if (0:Int)<0 then (0:Int)+n else 0)) && decide ((if (0:Int)<0 then (0:Int)+n else 0)<(n:Int)))=true then some (if (0:Int)<0 then (0:Int)+n else 0).toNat else none)=some 0
 rw[if_pos hb,if_neg (by decide)];rfl
noncomputable def J2(i:Nat):En->Option (D×En):=fun r=>(zCN r i).bind fun l=>(l[0]?).bind fun d=>(W0 i l.tail r).map fun r'=>(d,r')
theorem zDT(i:Nat){x:Str}{j:Nat}{pn apos cpos kpos:Pos}(h:PE X (.Name x pn) (jY i))(hbase:attributeBase (.Name x pn) "pop" X.env (eval (.Name x pn) X.env)=eval (.Name x pn) X.env:=by rfl)(hline:(apos.endLine == cpos.line)=true:=by rfl)(hfew:((backTo cpos (starEach [.Constant (.int 0) j kpos] X.env)).all (fun x=>!x.1) && (backToKw cpos (keywordEach [] X.env)).all (fun x=>x.1.isSome) && decide ([Expr.Constant (.int 0) j kpos].length+([]:List Keyword).length+(if ([]:List Keyword).isEmpty then 0 else 1)<30))=true:=by rfl)(hs:starEach [.Constant (.int 0) j kpos] X.env=(false,eval (.Constant (.int 0) j kpos) X.env)::starEach [] X.env:=by rfl):DX X (.Call (.Attribute (.Name x pn) "pop" apos) [.Constant (.int 0) j kpos] [] cpos) (J2 i):=by
 refine PE.conseq (tO PySem.F.plainAttrs_list PySem.F.slot_list_pop PySem.F.type_list_pop QX h (yD nJ xH hs) hbase hfew hline hs) fun σ H Q hq=>?_
 obtain⟨O0,r,d',r',hR,e,q⟩:=hq
 obtain⟨l,e2,e⟩:=bind_some e
 obtain⟨d,e1,e⟩:=bind_some e
 obtain⟨r2,e3,e4⟩:=map_some e
 have e5:d=d':=congrArg Prod.fst e4
 have e6:r2=r':=congrArg Prod.snd e4
 subst e5 e6
 obtain⟨a,xs,q1,q2,q3⟩:=tY hR e2
 obtain⟨v,ev,iv⟩:=q3.get e1
 have hlen:0<xs.length:=by
  obtain⟨z,_⟩:=List.getElem?_eq_some_iff.mp ev
  exact z
 have il:IsL X.K (Ow O0 r σ) H l.tail xs.tail:=by
  rw[<-List.drop_one,<-List.drop_one];exact q3.drop 1
 obtain⟨R2,k2⟩:=hR.upd (xs':=xs.tail) e3 q1 q2 il
 refine⟨.ref a,q1,.inl ⟨rfl,xs,SqL.of q2⟩,a,xs,0,0,v,rfl,rfl,q2,by decide,by decide,sx0 hlen,ev,?_⟩
 rw[List.eraseIdx_zero]
 refine q _ _ R2 k2 ?_
 have own_a:Ow O0 r σ a:=by
  obtain⟨y,z1,z2⟩:=bind_some e2
  exact .inr ⟨i,l,by rw[z1];exact kL (zCQ z2).1,q1⟩
 have ow2:∀b,Ow O0 r2 σ b->H b≠none->Ow O0 r σ b:=fun b z n=>z.imp id fun z=>(k2.new b z).elim id fun z=>absurd z n
 exact Is.mono (fun b o e1 n=>by rw[zM (fun z=>n (by subst z;exact own_a))];exact e1) hR.ol ow2 _ _ iv
theorem XU{k:Nat}:DE X (.Tuple [] k pos) (mC (.tup [])):=by
 have h:DE X (.Tuple [] k pos) (yW zQ):=z6 zL
 have e:yW zQ=mC (.tup []):=by
  funext r
  show(some ([]:List D)).bind _=_
  rw[Option.bind_some];exact if_pos (Nat.zero_le _)
 rw[<-e];exact h
end
section
variable{P:Program}{w:World}{K:Fg}{mg:Str->Option Value}{base:Heap}{f:Addr}{fd:FuncData}{ps:List Str}{k n:Nat}
theorem WH{m m':MF}(F:FnOk P w K mg base CX0 k f fd ps (spD K n m))(i:∀as p,as.length=n->m' as=some p->m as=some p):FnOk P w K mg base CX0 k f fd ps (spD K n m'):=F.imp fun vs H Q E h=>by
 obtain⟨O0,as,rs,as',e1,e2,e3,e4,e5⟩:=h
 exact⟨O0,as,rs,as',e1,e2,e3,i _ _ e1 e4,e5⟩
end
open PySem PySem.Spec PyProof.Rows L2 PySem.W
noncomputable abbrev xI(f:ME):MEf:=fun st r=>(f r).map fun d=>(d,st)
noncomputable abbrev WB(sel:Mst->D):MEf:=fun st _=>some (sel st,st)
noncomputable abbrev JY(f:ME):MEf:=fun st r=>(f r).bind fun d=>if st.wait.length<sizeLine then some (.non,zBP st d) else none
noncomputable abbrev zHL(f:ME):MEf:=fun st r=>(f r).bind fun d=>if st.come.length<sizeLine then some (.non,zF2 st d) else none
noncomputable abbrev zAY:MEf:=fun st _=>st.wait.getLast?.map fun d=>(d,{ st with wait:=st.wait.dropLast })
noncomputable abbrev zHJ:MEf:=fun st _=>st.come.getLast?.map fun d=>(d,{ st with come:=st.come.dropLast })
noncomputable abbrev cF(mm:Mst->List D->Option (D×Mst)):MEf:=fun st _=>mm st []
noncomputable abbrev zAX(fs:ML):MEa:=fun st r=>(fs r).map fun l=>(l,st)
noncomputable abbrev zIV(ms:MEa):MEf:=fun st r=>(ms st r).bind fun p=>if p.1.length<=sizeLine then some (.tup p.1,p.2) else none
noncomputable abbrev uIx(m:MEf)(g:ME):MEf:=fun st r=>(m st r).bind fun p=>(g r).bind fun k=>(ixD p.1 k).map fun d=>(d,p.2)
noncomputable abbrev zA0(n:Nat)(mf:MF)(ms:MEa):MEf:=fun st r=>(ms st r).bind fun p=>if p.1.length=n then (mf (p.1.map .v)).bind fun q=>(match q.1 with | .v d=>some (d,p.2)|_=>none) else none
noncomputable abbrev cY(b:MB):MEt:=fun st r=>(b r).map fun z=>(z,st)
noncomputable abbrev vGe:MEt:=fun st _=>some (decide (st.most<=st.steps),st)
noncomputable abbrev vBl(m:MEf):MEt:=fun st r=>(m st r).bind fun p=>match p.1 with | .bl b=>some (b,p.2)|_=>none
noncomputable abbrev zAU:MEt:=fun st _=>some (!st.wait.isEmpty,st)
noncomputable abbrev zFJ(m:MEf):MEt:=fun st r=>(m st r).map fun p=>(nonB p.1,p.2)
noncomputable abbrev zIU(t t':MEt):MEt:=fun st r=>(t st r).bind fun p=>if p.1=true then t' p.2 r else some (false,p.2)
noncomputable abbrev zHK:MEs:=fun st r=>some (.nx { st with steps:=st.steps+1 } r)
noncomputable abbrev zAZ:MEs:=fun _ _=>none
open PySem PySem.Spec PyProof.Rows L2 PySem.W
section
variable{prog:Program}{w:World}{A:Around}{E:Value->Shared->Prop}{s:Shared}
theorem zBB{T:String}{r d:Addr}{n:Nat}{P:Nat->Value->Prop}{OK:Heap->Prop}{Q:Value->Shared->Prop}(S:KdlSrc prog w T r d n P OK)(hh:A.handled=none)(ok:OK s.heap)(hn:n<64)(h:∀(h':Heap) (tk:Nat) (acc:Array Value),(∀b o,s.heap.get? b=some o->h'.get? b=some o)->ItemsOf P acc n->∃ss:List Str,StrsAre acc.toList ss/\∀(out:Array Value) (ss':List Str),StrsAre out.toList ss'->ss'.Perm ss->sortedS ss'=true ->
   Q (.ref h'.objs.size) { s with heap:=sortedHeap (h'.push (seqObj "list" acc 0)) h'.objs.size acc.toList out,toks:=tk }):wpAny (model prog w) A (call (.builtin "sorted") [.ref r]) Q E s:=by
 refine Calls.call_function_entry (kind_sorted) plain_sorted entry_sorted (args_sorted1 _) ?_
 unfold Builtin.«sorted»
 refine wpAny_bind (m:=checkCount "sorted" 1 1 _) (wpAny_pure (wpAny_bind (kdu_collect S hh ok (Nat.le_trans (Nat.le_of_lt hn) (by decide)) fun h' tk acc hk hacc=>?_)))
 obtain⟨ss,hS,q⟩:=h h' tk acc hk hacc
 have at1:(h'.push (seqObj "list" acc.toList.toArray 0)).get? h'.objs.size=some (seqObj "list" acc.toList.toArray 0):=Heap.get?_push_size _ rfl
 have hl:acc.toList.length<64:=by
  have:=hacc.1
  rw[Array.length_toList];omega
 refine wpAny_bind (wpAny_newList ?_ (hsz:=Nat.le_trans (Nat.le_of_lt hl) (by decide)))
 refine wpAny_bind (wpAny_holding (wpAny_call_entry slot_list_sort ⟨_,at1,rfl⟩ entry_list_sort (list_sort_treeK (κ:=PyProof.Rows.strKind) strKind_oneLt at1 hS.keysOf (fun v₁ v₂ rest e=>?kk) hl fun st' p1 p2=>⟨_,rfl,?_⟩) (args_list_sort _)))
 case kk=>
  rw[e] at hS
  exact keyKind_strs hS
 obtain⟨ss',o1,o2,o3⟩:=sorted_out_str hS p1 p2
 have:=q _ ss' o1 o2 o3
 exact wpAny_pure ⟨_,rfl,by simpa using this⟩
end
noncomputable def oY:List Key->Option (List (List Nat))
 |[]=>some []
 |.inr s::ks=>(oY ks).map (s.cps.toList::·)
 |.inl _::_=>none
theorem oW:∀{kvs:List (Key×V)} {ss:List (List Nat)},oY (kvs.map (·.1))=some ss->(kvs.map fun kv=>kV kv.1)=ss.map fun s=>V.str ⟨s.toArray⟩
 |[],ss,e=>by cases e;rfl
 |(.inl i,v)::kvs,ss,e=>by cases e
 |(.inr s,v)::kvs,ss,e=>by
  obtain⟨t,e1,rfl⟩:=map_some (show(oY (kvs.map (·.1))).map (s.cps.toList::·)=some ss from e)
  have ih:=oW e1
  rw[List.map_cons,List.map_cons,ih]
  show V.str s::_=V.str ⟨s.cps.toList.toArray⟩::_
  rw[Array.toArray_toList]
section
variable{X:Cx}{a:Expr}{fd:MD}{p' pos:Pos}
theorem ZV(hc:X.calm=true):CallR X (.builtin "sorted") (fun xs H Q=>∃p kvs ss,xs=[.ref p]/\Rd H p (.dK kvs)/\oY (kvs.map (·.1))=some ss/\ss.length<64/\∀l,H l=none->Q (.ref l) (upd H l (.lst ((JZ ss).map fun s=>V.str ⟨s.toArray⟩)))):=by
 intro pins s σ H xs us Q I r h
 obtain⟨p,kvs,ss,rfl,e,ek,hl,q⟩:=h
 obtain⟨u,rfl,rx⟩:=rS r
 cases rx
 obtain⟨z,hd,vs,rel,dd⟩:=XM I.hok e
 obtain⟨ep,da⟩:=dd.dictAt
 have hlen:=KV.length rel
 have hkeys:=KV.keys rel
 have hk0:=oW ek
 have hlk:kvs.length=ss.length:=by have:=congrArg List.length hk0;simpa using this
 refine zBB (kdl_dict (knd:=yL X.prog X.w) (kvs:=vs) (ep:=ep) hd) (I.ok.hd hc) da (by rw[<-hlen,hlk];exact hl) fun h' tk acc hk hacc=>⟨ss.map fun s=>(⟨s.toArray⟩:Str),?_,fun out ss' h1 h2 h3=>?_⟩
 ·have vv:Vals (kvs.map fun kv=>kV kv.1) acc.toList:=by
   refine Z6 (by rw[List.length_map,hlen,<-hacc.1];simp) fun j u eu=>?_
   obtain⟨k,x,ev,is⟩:=hacc.2 j u (by rw[<-Array.getElem?_toList];exact eu)
   refine⟨kV k,?_,zG4 is⟩
   have e1:(kvs.map (·.1))[j]?=some k:=by rw[hkeys,List.getElem?_map,ev];rfl
   rw[List.getElem?_map] at e1 ⊢
   cases e2:kvs[j]? with
   |none=>rw[e2] at e1;cases e1
   |some kv=>rw[e2] at e1;cases e1;rfl
  rw[hk0] at vv
  exact kC vv
 ·have hp:(ss'.map fun s=>s.cps.toList).Perm ss:=by
   have:=h2.map fun s:Str=>s.cps.toList
   simpa [List.map_map,Function.comp_def] using this
  have he:=zBC hp (nD ss' h3)
  have v1:=kB h1
  rw[he] at v1
  have at1:(h'.push (seqObj "list" acc 0)).get? h'.objs.size=some (seqObj "list" acc 0):=Heap.get?_push_size _ rfl
  obtain⟨e2,hh⟩:=sortedHeap_at (vs:=acc.toList) (out:=out) at1
  have old:∀b o,h'.get? b=some o->(sortedHeap (h'.push (seqObj "list" acc 0)) h'.objs.size acc.toList out).get? b=some o:=fun b o e3=>by
   have lb:=Heap.lt_size e3
   rw[sortedHeap_old (Nat.ne_of_lt lb) (by rw[size_push'];exact Nat.lt_succ_of_lt lb)]
   exact Heap.get?_push_of_some _ e3
  have I1:Inv X pins σ H { s with heap:=h',toks:=tk }:=I.kept hk
  exact⟨.ref h'.objs.size,_,I1.laid (t':=tk) old (Nat.le_refl _) (show ObjOk X.prog X.w _ _ _ (.lst ((JZ ss).map fun s=>V.str ⟨s.toArray⟩)) from⟨by rw[List.length_map,dE];exact Nat.le_trans (Nat.le_of_lt hl) (by decide),out.toList,e2,v1,by rw[Array.toArray_toList];exact hh⟩),rfl,q _ (I1.hok.fresh (Nat.le_refl _))⟩
noncomputable def zC0(fd:MD):ML:=fun r=>(fd r).bind fun q=>(oY q.1).bind fun ss=>if ss.length<64 then some ((JZ ss).map .str) else none
theorem zD6(hc:X.calm=true)(hg:Gl X "sorted")(hm:X.mg "sorted" = none)(ha:DDc X a fd)(hs:starEach [a] X.env=(false,eval a X.env)::starEach [] X.env:=by rfl):DF X (.Call (.Name "sorted" p') [a] [] pos) (zC0 fd):=by
 refine PE.conseq (jN (ZV hc) hg hm PyProof.Rows.boot_sorted (yD ha xH hs) (he:=hs)) fun σ H Q hq=>?_
 obtain⟨O0,r,d,hR,e,q⟩:=hq
 obtain⟨⟨ks,l⟩,e1,e⟩:=bind_some e
 obtain⟨ss,e2,e⟩:=bind_some e
 split at e
 ·rename_i hz
  cases e
  refine⟨O0,r,ks,l,hR,e1,fun c kvs H1 s1 rd ek il=>⟨c,kvs,ss,rfl,rd,by rw[ek];exact e2,hz,fun t ht=>q t _ _ (s1.trans (z3 ht)) (s1.free ht) zN (pS _)⟩⟩
 ·cases e
end
end DD
namespace K42
open PySem PySem.Spec PyProof.Rows L2 DD
noncomputable def top(i:Nat):Stmt:=PySem.Challenge.pw_fieldrows_k42_functions.main.body.getD i (.Pass ⟨0,0,0,0⟩)
noncomputable def RF:Nat:=40
noncomputable def WF:Nat:=100000
noncomputable def b4:MS:=(jL (qI (xZ [] 1 (mIt (zD 0)) (yQ 0) (gZ (mUn (vW "tuple") (zD 0))) (zD 0))))
noncomputable def jW:MF:=mkF 1 1 b4
noncomputable def jR:MS:=(z8 (WR 1 (xB zQ))
 (z8 (WR 2 (xB (zA (zD 0) zQ)))
 (z8 (j3 WF (YX (rK 2))
 (z8 (J0 3 (zEP 2))
 (z8 (sX (t8 1 (zD 3)))
 (sX (zII 2 (mUn zFZ (yI 1 jW (zA (zD 3) zQ))))))))
 (gD 1))))
noncomputable def qY:MF:=mkF 1 4 jR
noncomputable def y3:MS:=(z8 (WR 2 (xB zQ))
 (z8 (xE 3 (zG wI (zD 1) (mC (.int 1))))
 (z8 (mX (yQ 4) (mIt (yI 1 jW (zA (zD 0) zQ)))
 (z8 (sX (t8 2 (zD 3)))
 (YG 3 (mUn bV (qI (uR 1 qY (zA (zD 4) zQ)))))))
 (gD 2))))
noncomputable def y6:MF:=mkF 2 5 y3
noncomputable def uY:MS:=(jL (mIf (gZ (mUn (vW "int") (zD 0))) (mC (.str [110,117,109])) (zG ixD (zD 0) (mC (.int 0)))))
noncomputable def xM:MF:=mkF 1 1 uY
noncomputable def jH:MS:=(z8 (zBG 3 (rL (zD 0)))
 (z8 (YF 3 (zD 1) (zD 2))
 (zEX 3)))
noncomputable def jK:MF:=mkF 3 4 jH
noncomputable def vD:MS:=(z8 (sIf (mBl (zG eqA (zD 0) (mC (.str [43]))))
 (jL (zG xX (zG wI (zD 1) (zD 2)) (mC (.int 1000000))))
 xY)
 (z8 (sIf (mBl (zG eqA (zD 0) (mC (.str [45]))))
 (jL (zG xX (zG zAH (zD 1) (zD 2)) (mC (.int 1000000))))
 xY)
 (z8 (sIf (mBl (zG eqA (zD 0) (mC (.str [42]))))
 (jL (zG xX (zG vL (zD 1) (zD 2)) (mC (.int 1000000))))
 xY)
 (jL (mIf (mBl (zG ltA (zD 1) (zD 2))) (mC (.int 1)) (mC (.int 0)))))))
noncomputable def jV:MF:=mkF 3 3 vD
noncomputable def uZ:MS:=(z8 (sIf (mBl (zG eqA (yI 1 xM (zA (zD 0) zQ)) (mC (.str [114,101,99]))))
 WS
 xY)
 (z8 (sIf (mBl (zG eqA (yI 1 xM (zA (zD 0) zQ)) (mC (.str [111,110,101]))))
 (jL (qI (xB (zA (zG ixD (zD 0) (mC (.int 2))) zQ))))
 xY)
 (jL (qI (xB zQ)))))
noncomputable def bD:MF:=mkF 1 1 uZ
noncomputable def jQ:MS:=(z8 (sIf (mBl (zG eqA (yI 1 xM (zA (zD 0) zQ)) (mC (.str [114,101,99]))))
 WS
 xY)
 (z8 (sIf (mBl (zG eqA (yI 1 xM (zA (zD 0) zQ)) (mC (.str [111,110,101]))))
 (jL (yW (zA (mC (.str [111,110,101])) (zA (zG ixD (zD 0) (mC (.int 1))) (zA (zG ixD (zD 1) (mC (.int 0))) zQ)))))
 xY)
 (z8 (sIf (mBl (zG eqA (yI 1 xM (zA (zD 0) zQ)) (mC (.str [102,110]))))
 (jL (yW (zA (mC (.str [102,110])) zQ)))
 xY)
 (jL (zD 0)))))
noncomputable def v5:MF:=mkF 2 2 jQ
noncomputable def oC:MS:=(z8 (WR 1 (xB zQ))
 (z8 (WR 2 (xB (zA (zD 0) zQ)))
 (z8 (j3 WF (YX (rK 2))
 (z8 (sX (Y1 1 (zEP 2)))
 (z8 (sIf (mBl (zG gtD (zH5 (rK 1)) (mC (.int 200))))
 (jL (yW (zA (mC (.str [100,101,101,112])) zQ)))
 xY)
 (sX (zII 2 (mUn zFZ (yI 1 bD (zA (zKP (rK 1) (mUn zH2 (mC (.int 1)))) zQ))))))))
 (z8 (WR 3 (xB zQ))
 (z8 (sZ 1 (mX (yQ 4) (nW (mZs 1))
 (sX (Y1 3 (vS 2 v5 (kA (zD 4) (dU (Q3 3 2 (mIt (yI 1 bD (zA (zD 4) zQ))) (yQ 1) (zEP 0)))))))))
 (jL (zKP (rK 3) (mC (.int 0)))))))))
noncomputable def Z3:MF:=mkF 1 5 oC
noncomputable def vE(m:MF):MS:=(z8 (WR 3 (uR 2 y6 (zA (zD 0) (zA (zD 2) zQ))))
 (z8 (WR 4 (xB zQ))
 (z8 (mX (yQ 5) (mIt (zD 0))
 (sIf (gZ (mUn (vW "tuple") (zD 5)))
 (sX (Y1 4 (vS 3 m (kA (zD 5) (kA (zD 1) (dU (J2 3)))))))
 (sX (t8 4 (zD 5)))))
 (jL (Q1 (zKQ (rK 4) (xB (zA (yW (zA (zD 1) (zA (zD 2) zQ))) zQ))))))))
noncomputable def wZ:Nat->MF
 |0=>fun _=>none
 |k+1=>mkF 3 6 (vE (wZ k))
noncomputable def qC:MS:=(z8 (sIf (mBl (zG ltA (zD 1) (mUn bV (zD 0))))
 (jL (zG ixD (zD 0) (zD 1)))
 xY)
 (jL (mC (.int 0))))
noncomputable def jX:MF:=mkF 2 2 qC
noncomputable def wQ:MS:=(z8 (xE 2 (zG xX (zG wI (zG wI (zG xX (zD 0) (mC (.int 2147483647))) (zG vL (mC (.int 16807)) (zD 1))) (mC (.int 7))) (mC (.int 2147483629))))
 (z8 (xE 2 (zG xX (zG vL (zD 2) (zD 2)) (mC (.int 2147483587))))
 (jL (zG xV (zG xX (zG vL (zD 2) (zG wI (zD 2) (mC (.int 48271)))) (mC (.int 2147483579))) (mC (.int 5))))))
noncomputable def yC:MF:=mkF 2 3 wQ
noncomputable def qW:MS:=(jL (zJQ (mUn (vW "int") (zD 0)) (mUn zK8 (mUn (vW "bool") (zD 0)))))
noncomputable def x0:MF:=mkF 1 1 qW
noncomputable def wR:MS:=(z8 (zBG 2 mD0)
 (z8 (mX (wY 2 (zX (yQ 3) (zX (yQ 4) qF))) (mIt (zD 0))
 (YF 2 (zD 3) (zD 4)))
 (sFz 2 (jL (qI (xZ [1,2] 3 (mIt (qI (zC0 (rL (zD 2))))) (yQ 2) (mBl (zG (eqN 400) (zG ixD (zC2 (rL (zD 1)) (zD 2)) (mC (.int 0))) (zD 0))) (yW (zA (zD 2) (zA (zC2 (rL (zD 1)) (zD 2)) zQ)))))))))
noncomputable def xD:MF:=mkF 2 5 wR
noncomputable def xS:MS:=(z8 (xE 2 (yI 2 xD (zA (zD 1) (zA (mC (.str [110,117,109,98,101,114])) zQ))))
 (z8 (xE 3 (yI 2 xD (zA (zD 1) (zA (mC (.str [102,117,110,99,116,105,111,110])) zQ))))
 (z8 (xE 4 (zG xX (zG xV (zD 0) (mC (.int 24))) (zG zEY (mC (.int 10)) (mC (.int 6)))))
 (z8 (xE 5 (yW (zA (mC (.str [110,117,109])) (zA (zD 4) zQ))))
 (z8 (xE 6 (mC (.int 0)))
 (z8 (sIf (wM (mBl (zG (neN 400) (zD 2) (qI (xB zQ)))) (mBl (zG gtD (zG xX (zD 0) (mC (.int 4))) (mC (.int 0)))))
 (z8 (rH (zG ixD (zD 2) (zG xX (zG xV (zD 0) (mC (.int 4))) (mUn bV (zD 2)))) (wY 2 (zX (yQ 7) (zX (yQ 8) qF))))
 (z8 (xE 5 (yW (zA (mC (.str [110,97,109,101])) (zA (zD 7) zQ))))
 (xE 4 (zG ixD (zD 8) (mC (.int 1))))))
 xY)
 (z8 (sIf (mBl (zG eqA (zG xX (zD 0) (mC (.int 4))) (mC (.int 2))))
 (z8 (xE 5 (yW (zA (mC (.str [43])) (zA (zD 5) (zA (yW (zA (mC (.str [110,117,109])) (zA (zG wI (mC (.int 1)) (zG xX (zG xV (zD 0) (mC (.int 24))) (mC (.int 7)))) zQ))) zQ)))))
 (xE 4 (zG xX (zG wI (zG wI (zD 4) (mC (.int 1))) (zG xX (zG xV (zD 0) (mC (.int 24))) (mC (.int 7)))) (mC (.int 1000000)))))
 xY)
 (z8 (sIf (wM (mBl (zG (neN 400) (zD 3) (qI (xB zQ)))) (mBl (zG eqA (zG xX (zD 0) (mC (.int 4))) (mC (.int 3)))))
 (z8 (rH (zG ixD (zD 3) (zG xX (zG xV (zD 0) (mC (.int 24))) (mUn bV (zD 3)))) (wY 2 (zX (yQ 7) (zX (yQ 8) qF))))
 (z8 (xE 5 (yW (zA (mC (.str [100,111])) (zA (yW (zA (mC (.str [110,97,109,101])) (zA (zD 7) zQ))) (zA (zD 5) zQ)))))
 (z8 (xE 4 (zG xX (zG wI (zG vL (zG ixD (zD 8) (mC (.int 1))) (zD 4)) (zG ixD (zD 8) (mC (.int 2)))) (mC (.int 1000000))))
 (xE 6 (zG wI (mC (.int 1)) (zG ixD (zD 8) (mC (.int 3))))))))
 xY)
 (jL (yW (zA (zD 5) (zA (yW (zA (mC (.str [110,117,109,98,101,114])) (zA (zD 4) zQ))) (zA (zD 6) zQ)))))))))))))
noncomputable def xT:MF:=mkF 2 9 xS
noncomputable def xK:MS:=(z8 (xE 3 (yI 2 xD (zA (zD 1) (zA (mC (.str [110,117,109,98,101,114])) zQ))))
 (z8 (xE 4 (qI (xZ [] 1 (mIt (yI 2 xD (zA (zD 1) (zA (mC (.str [102,117,110,99,116,105,111,110])) zQ)))) (yQ 0) (mBl (zG eqA (zG ixD (zG ixD (zD 0) (mC (.int 1))) (mC (.int 3))) (mC (.int 0)))) (zD 0))))
 (z8 (xE 5 (zG ixD (zD 2) (zG xX (zG xV (zD 0) (mC (.int 3))) (mC (.int 4)))))
 (z8 (sIf (wM (mBl (zG eqA (zG xX (zD 0) (mC (.int 3))) (mC (.int 0)))) (mBl (zG (neN 400) (zD 4) (qI (xB zQ)))))
 (z8 (rH (zG ixD (zD 4) (zG xX (zG xV (zD 0) (mC (.int 12))) (mUn bV (zD 4)))) (wY 2 (zX (yQ 6) (zX (yQ 7) qF))))
 (z8 (xE 5 (zG ixD (qI (xZ [6] 2 (mIt (zD 2)) (yQ 1) (mBl (zG (neN 400) (zD 1) (zD 0))) (zD 1))) (zG xX (zG xV (zD 0) (mC (.int 60))) (mC (.int 3)))))
 (z8 (xE 8 (yW (zA (mC (.str [102,110])) (zA (zD 5) (zA (yW (zA (mC (.str [100,111])) (zA (yW (zA (mC (.str [110,97,109,101])) (zA (zD 6) zQ))) (zA (yW (zA (mC (.str [100,111])) (zA (yW (zA (mC (.str [110,97,109,101])) (zA (zD 6) zQ))) (zA (yW (zA (mC (.str [110,97,109,101])) (zA (zD 5) zQ))) zQ)))) zQ)))) zQ)))))
 (jL (yW (zA (zD 8) (zA (yW (zA (mC (.str [102,117,110,99,116,105,111,110])) (zA (zG vL (zG ixD (zD 7) (mC (.int 1))) (zG ixD (zD 7) (mC (.int 1)))) (zA (zG wI (zG vL (zG ixD (zD 7) (mC (.int 1))) (zG ixD (zD 7) (mC (.int 2)))) (zG ixD (zD 7) (mC (.int 2)))) (zA (mC (.int 2)) zQ))))) (zA (mC (.int 0)) zQ))))))))
 xY)
 (z8 (xE 9 (yW (zA (mC (.str [110,117,109])) (zA (zG xX (zG xV (zD 0) (mC (.int 60))) (zG zEY (mC (.int 10)) (mC (.int 6)))) zQ))))
 (z8 (xE 10 (zG xX (zG xV (zD 0) (mC (.int 60))) (zG zEY (mC (.int 10)) (mC (.int 6)))))
 (z8 (xE 11 (mC (.bl false)))
 (z8 (sIf (mBl (zG (neN 400) (zD 3) (qI (xB zQ))))
 (z8 (rH (zG ixD (zD 3) (zG xX (zG xV (zD 0) (mC (.int 12))) (mUn bV (zD 3)))) (wY 2 (zX (yQ 6) (zX (yQ 7) qF))))
 (z8 (xE 9 (yW (zA (mC (.str [110,97,109,101])) (zA (zD 6) zQ))))
 (z8 (xE 10 (zG ixD (zD 7) (mC (.int 1))))
 (xE 11 (zG (eqN 400) (zD 6) (zD 5))))))
 xY)
 (z8 (sIf (mBl (zG eqA (zG xX (zD 0) (mC (.int 3))) (mC (.int 1))))
 (jL (yW (zA (yW (zA (mC (.str [102,110])) (zA (zD 5) (zA (zD 9) zQ)))) (zA (yW (zA (mC (.str [102,117,110,99,116,105,111,110])) (zA (mUn bZ (zD 11)) (zA (zG ixD (qI (xB (zA (zD 10) (zA (mC (.int 0)) zQ)))) (mUn bZ (zD 11))) (zA (mC (.int 0)) zQ))))) (zA (mC (.int 0)) zQ)))))
 xY)
 (jL (yW (zA (yW (zA (mC (.str [102,110])) (zA (zD 5) (zA (yW (zA (mC (.str [43])) (zA (yW (zA (mC (.str [110,97,109,101])) (zA (zD 5) zQ))) (zA (zD 9) zQ)))) zQ)))) (zA (yW (zA (mC (.str [102,117,110,99,116,105,111,110])) (zA (zG wI (mC (.int 1)) (mUn bZ (zD 11))) (zA (zG ixD (qI (xB (zA (zD 10) (zA (mC (.int 0)) zQ)))) (mUn bZ (zD 11))) (zA (mC (.int 0)) zQ))))) (zA (mC (.int 0)) zQ))))))))))))))
noncomputable def xN:MF:=mkF 3 12 xK
noncomputable def wC:MS:=(z8 (xE 4 (qI (xB zQ)))
 (z8 (WR 5 (xB zQ))
 (z8 (xE 6 (mC (.int 0)))
 (z8 (mX (wY 2 (zX (yQ 7) (zX (yQ 8) qF))) (zC1 (zD 0))
 (z8 (xE 9 (yI 2 yC (zA (zD 8) (zA (zG wI (zD 1) (zD 7)) zQ))))
 (z8 (xE 10 (zG ixD (zD 2) (zG xX (zD 9) (mC (.int 4)))))
 (z8 (sIf (mBl (zG ltA (zG xX (yI 2 yC (zA (zD 8) (zA (zG wI (zG wI (mC (.int 300)) (zD 1)) (zD 7)) zQ))) (mC (.int 5))) (mC (.int 2))))
 (xE 11 (yI 3 xN (zA (zG xV (zD 9) (mC (.int 4))) (zA (zD 4) (zA (zD 2) zQ)))))
 (xE 11 (yI 2 xT (zA (zG xV (zD 9) (mC (.int 4))) (zA (zD 4) zQ)))))
 (z8 (sIf (wM (mBl (zG eqA (zD 7) (mC (.int 0)))) (mBl (zG gR (zD 3) (mC .non))))
 (xE 11 (zD 3))
 xY)
 (z8 (sX (t8 5 (yW (zA (zD 10) (zA (zG ixD (zD 11) (mC (.int 0))) zQ)))))
 (z8 (xE 4 (zG wI (zD 4) (qI (xB (zA (yW (zA (zD 10) (zA (zG ixD (zD 11) (mC (.int 1))) zQ))) zQ)))))
 (xE 6 (zG wI (zG wI (zD 6) (zG ixD (zD 11) (mC (.int 2)))) (mC (.int 1)))))))))))
 (z8 (xE 11 (yI 2 xT (zA (zG wI (zG wI (zG vL (yI 2 yC (zA (zD 1) (zA (mUn bV (zD 0)) zQ))) (mC (.int 4))) (mC (.int 1))) (zG xX (zD 1) (mC (.int 3)))) (zA (zD 4) zQ))))
 (z8 (xE 12 (zG ixD (zD 11) (mC (.int 0))))
 (z8 (sZ 5 (mX (wY 2 (zX (yQ 10) (zX (yQ 13) qF))) (nW (mZs 5))
 (xE 12 (yW (zA (mC (.str [100,111])) (zA (yW (zA (mC (.str [102,110])) (zA (zD 10) (zA (zD 12) zQ)))) (zA (zD 13) zQ)))))))
 (jL (yW (zA (zD 12) (zA (zG ixD (zD 11) (mC (.int 1))) (zA (zG wI (zD 6) (zG ixD (zD 11) (mC (.int 2)))) zQ))))))))))))
noncomputable def xU:MF:=mkF 4 14 wC
noncomputable def wP:MS:=(z8 (xE 1 (zE5 (mC (.str [])) (Y0 [0] 2 (YY (zG wI (mC (.int 1)) (zG xX (zD 0) (mC (.int 6))))) (yQ 1) (zG ixD (mC (.str [113,120,122,106,118])) (zG xX (yI 2 yC (zA (zD 0) (zA (zG wI (mC (.int 30)) (zD 1)) zQ))) (mC (.int 5)))))))
 (jL (qI (xB (zA (zD 1) (zA (zG wI (zD 1) (mC (.str [97]))) (zA (zG wI (mSl (zD 1) zE2 (kJ (mUn zH2 (mC (.int 1))))) (mC (.str [98]))) (zA (zG wI (mC (.str [99])) (zD 1)) zQ))))))))
noncomputable def qZ:MF:=mkF 1 2 wP
noncomputable def bE(i j:Nat):Stmt:=match top i with
 |.ClassDef _ _ _ body _ _ _ _ _ _ _=>body.getD j (.Pass ⟨0,0,0,0⟩)
 |s=>s
structure Dm(K:Fg)(n q:Str)(st:Stmt)(ps:List Str) where
 a:Addr
 d:FuncData
 F:Fun K n q st a d
 b:Binds K d ps []
noncomputable def AH:List (List Nat×List Int):=[([100,111],[1,2]),([103,101,116],[2]),([119,105,116,104],[2,3]),([112,117,116],[2,3]),([108,101,115,115],[2]),([116,97,103],[2]),([119,105,100,101],[2]),([99,97,115,101],[1]),([110,101,118,101,114],[1]),([105,102],[1]),([43],[1,2]),([45],[1,2]),([42],[1,2]),([60],[1,2])]
noncomputable def xF(st:Mst):List D->Option (D×Mst)
 |[e,b]=>if st.wait.length<sizeLine then some (.non,zBP st (.tup [e,b,.bl false])) else none
 |_=>none
noncomputable def wJ(st:Mst):List D->Option (D×Mst)
 |[v]=>if st.come.length<sizeLine then some (.non,zF2 st v) else none
 |_=>none
noncomputable def bL:D:=.tup [.str [116,105,114,101,100],.non]
noncomputable def qJ(st:Mst):List D->Option (D×Mst)
 |[]=>if st.most<=st.steps then some (.bl false,{ st with ended:=bL }) else some (.bl true,{ st with steps:=st.steps+1 })
 |_=>none
noncomputable def pA(e b:D):List Int->Mst->Option Mst
 |[],st=>some st
 |i::t,st=>(ixD e (.int i)).bind fun p=>(xF st [p,b]).bind fun q=>pA e b t q.2
noncomputable def vZ:D->Option (List Int)
 |.tup (.str s::_)=>some ((uU AH s).getD [])
 |_=>none
noncomputable def yA(st:Mst):List D->Option (D×Mst)
 |[e,b]=>if st.wait.length<sizeLine then (vZ e).bind fun l=>(pA e b l.reverse (zBP st (.tup [e,b,.bl true]))).map fun s=>(.non,s) else none
 |_=>none
noncomputable def yJ(st:Mst):List D->Option (D×Mst)
 |[e]=>(vZ e).bind fun l=>if l.length<=st.come.length/\l.length<sizeLine then some (.lst (st.come.drop (st.come.length-l.length)),{ st with come:=st.come.take (st.come.length-l.length) }) else none
 |_=>none
noncomputable def qO(st:Mst):List D->Option (D×Mst)
 |[.tup [_,v,_],_,_]=>wJ st [v]
 |_=>none
noncomputable def yX(st:Mst):List D->Option (D×Mst)
 |[.tup [_,.str s,_],.dct ks l,_]=>match yS ks l (.inr ⟨s.toArray⟩) with
  |some v=>wJ st [v]
  |none=>(qJ st []).bind fun p=>match p.1,p.2.defs with
   |.bl true,.dct ks l=>(yS ks l (.inr ⟨s.toArray⟩)).bind fun d=>xF p.2 [d,.dct [] []]
   |.bl false,_=>some (.non,p.2)
   |_,_=>none
 |_=>none
noncomputable def jS(st:Mst):List D->Option (D×Mst)
 |[.tup [_,x,e,_],b,_]=>wJ st [.tup [.str [102,110],x,e,b]]
 |_=>none
noncomputable def qD(st:Mst):List D->Option (D×Mst)
 |[_,_,.lst [.tup [.str w,.str x,e,.dct ks l],v]]=>if w=[102,110]/\ks.length<sizeLine then (qJ st []).bind fun p=>match p.1 with
  |.bl true=>xF p.2 [e,.dct (qK ks l (.inr ⟨x.toArray⟩) v).1 (qK ks l (.inr ⟨x.toArray⟩) v).2]
  |.bl false=>some (.non,p.2)
  |_=>none
  else none
 |_=>none
noncomputable def wk(w:List Nat)(i j:Int):Int:=if w=[43] then (i+j) % 1000000 else if w=[45] then (i-j) % 1000000 else if w=[42] then i*j % 1000000 else if i<j then 1 else 0
noncomputable def x4(i:Int):Prop:=0<=i/\i<1000000
instance (i:Int):Decidable (x4 i):=inferInstanceAs (Decidable (_/\_))
noncomputable def yK(st:Mst):List D->Option (D×Mst)
 |[.tup [.str w,_,_,_],_,.lst [.int i,.int j]]=>if x4 i/\x4 j then wJ st [.int (wk w i j)] else none
 |_=>none
noncomputable def ways(w:List Nat):Option (Mst->List D->Option (D×Mst)):=if w=[110,117,109] then some qO else if w=[110,97,109,101] then some yX else if w=[102,110] then some jS else if w=[100,111] then some qD else if w=[43]\/w=[45]\/w=[42]\/w=[60] then some yK else none
noncomputable def wX(st:Mst):List D->Option (D×Mst)
 |[.tup (.str w::r),b,ps]=>(ways w).bind fun mm=>(mm st [.tup (.str w::r),b,ps]).map fun q=>(.non,q.2)
 |_=>none
noncomputable def d8(st:Mst):Option Mst:=match st.wait.getLast? with
 |some (.tup [e,b,.bl true])=>(yJ { st with wait:=st.wait.dropLast } [e]).bind fun p=>(wX p.2 [e,b,p.1]).map (·.2)
 |some (.tup [e,b,.bl false])=>(yA { st with wait:=st.wait.dropLast } [e,b]).map (·.2)
 |_=>none
noncomputable def bQ:Nat->Mst->Option Mst
 |0,_=>none
 |n+1,st=>if st.wait.isEmpty=false/\nonB st.ended=true then (d8 st).bind (bQ n) else some st
noncomputable def qN(st:Mst):List D->Option (D×Mst)
 |[]=>(bQ WF st).map fun s=>(.non,s)
 |_=>none
noncomputable def ddE:ME:=(zAJ (Q2 (Y0 [] 2 (mIt (zD 1)) (wY 2 (zX (yQ 0) (zX (yQ 1) qF))) (yW (zA (zD 0) (zA (yI 3 (wZ RF) (zA (zD 1) (zA (zD 0) (zA (mC (.int 0)) zQ)))) zQ))))))
noncomputable def dd(pd:D):Option D:=ddE [.un,.v pd,.v (.int 0)]
noncomputable def zIO(st:Mst):Option D:=match st.ended with
 |.non=>(st.come.getLast?).bind fun v=>(Z3 [.v v]).bind fun q=>match q.1 with
  |.v d=>some (.tup [.str [118,97,108,117,101],.int st.steps,d])
  |_=>none
 |.tup [a,b]=>some (.tup [a,.int st.steps,b])
 |_=>none
noncomputable def zKM(m:Int)(d:D):Option D:=match d with
 |.dct ks l=>(yS ks l (.inr ⟨([109,97,105,110]:List Nat).toArray⟩)).bind fun e=>(bQ WF ⟨m,0,[.tup [e,.dct [] [],.bl false]],[],.non,d⟩).bind zIO
 |_=>none
noncomputable def dC:MF:=fun as=>match as with
 |[.v pd,.v (.int m)]=>(dd pd).bind fun d=>(zKM m d).map fun x=>(.v x,[.v pd,.v (.int m)])
 |_=>none
noncomputable def J8:MS:=(z8 (xE 1 (yI 2 yC (zA (yI 2 jX (zA (zD 0) (zA (mC (.int 0)) zQ))) (zA (mC (.int 900)) zQ))))
 (z8 (xE 2 (yI 1 qZ (zA (zD 1) zQ)))
 (z8 (xE 3 (mSl (zD 0) (kJ (mC (.int 1))) (kJ (mC (.int 97)))))
 (z8 (xE 4 (zG wI (mC (.int 1)) (zG xV (zJP (zA (mC (.int 0)) (zA (zG zAH (mUn bV (zD 3)) (mC (.int 1))) zQ))) (mC (.int 8)))))
 (z8 (WR 5 (xB zQ))
 (z8 (xE 6 (mC .non))
 (z8 (xE 7 (mC (.int 0)))
 (z8 (xE 8 (yW (zA (mC (.str [110,117,109,98,101,114])) (zA (mC (.int 0)) zQ))))
 (z8 (mX (yQ 9) (YY (zD 4))
 (z8 (rH (yI 4 xU (zA (mSl (zD 3) (kJ (zG vL (mC (.int 8)) (zD 9))) (kJ (zG wI (zG vL (mC (.int 8)) (zD 9)) (mC (.int 8))))) (zA (zG wI (zG vL (mC (.int 8)) (zD 9)) (zG xX (zD 1) (mC (.int 7)))) (zA (zD 2) (zA (zD 6) zQ))))) (wY 3 (zX (yQ 10) (zX (yQ 8) (zX (yQ 7) qF)))))
 (z8 (xE 11 (mC (.str [109,97,105,110])))
 (z8 (sIf (mBl (zG ltA (zD 9) (zG zAH (zD 4) (mC (.int 1)))))
 (xE 11 (zG wI (mC (.str [119])) (zG ixD (mC (.str [97,98,99,100,101,102,103,104,105,106,107,108,109,110])) (zD 9))))
 xY)
 (z8 (sX (t8 5 (yW (zA (zD 11) (zA (zD 10) zQ)))))
 (xE 6 (yW (zA (yW (zA (mC (.str [110,97,109,101])) (zA (zD 11) zQ))) (zA (zD 8) (zA (zG wI (zD 7) (mC (.int 1))) zQ))))))))))
 (z8 (xE 12 (g8 (rK 5)))
 (z8 (xE 13 (cQ 2 dC 5 (zA (mC (.int 1000)) zQ)))
 (z8 (sIf (zJO (mBl (zG (neN 400) (zD 13) (yW (zA (mC (.str [118,97,108,117,101])) (zA (zD 7) (zA (zG ixD (zD 8) (mC (.int 1))) zQ)))))) (zJO (YZ (gZ (yI 1 x0 (zA (zG ixD (zD 13) (mC (.int 1))) zQ)))) (YZ (gZ (yI 1 x0 (zA (zG ixD (zD 13) (mC (.int 2))) zQ))))))
 (jL (mC (.bl false)))
 xY)
 (z8 (sIf (wM (mBl (zG gtD (zD 7) (mC (.int 0)))) (mBl (zG (neN 400) (cQ 2 dC 5 (zA (zG zAH (zD 7) (mC (.int 1))) zQ)) (yW (zA (mC (.str [116,105,114,101,100])) (zA (zG zAH (zD 7) (mC (.int 1))) (zA (mC .non) zQ)))))))
 (jL (mC (.bl false)))
 xY)
 (jL (zJQ (zG (eqN 400) (cQ 2 dC 5 (zA (zD 7) zQ)) (zD 13)) (zG eqA (g8 (rK 5)) (zD 12)))))))))))))))))
noncomputable def rD:MF:=mkF 1 14 J8
structure De(K:Fg)(mg:Str->Option Value)(n:Str)(i:Nat)(ps:List Str) where
 a:Addr
 d:FuncData
 F:Fun K n n (top i) a d
 m:mg n=some (.ref a)
 b:Binds K d ps []
noncomputable abbrev Ok(P:Program)(w:World){K:Fg}{mg:Str->Option Value}(base:Heap){n:Str}{i:Nat}{ps:List Str}(D:De K mg n i ps)(k m:Nat)(F:MF):Prop:=FnOk P w K mg base CX0 k D.a D.d ps (spD K m F)
set_option genInjectivity false in
set_option genSizeOf false in
structure Txt(K:Fg)(mg:Str->Option Value)(Ps:Params) where
 d_inner:De K mg "inner" 2 ["expression"]
 d_places:De K mg "places" 1 ["E"]
 d_inner_numbers:De K mg "inner_numbers" 4 ["expression", "number"]
 d_sort_of:De K mg "sort_of" 9 ["value"]
 d_binding:De K mg "binding" 10 ["bound", "name", "value"]
 d_worked:De K mg "worked" 11 ["word", "first", "second"]
 d_held_in:De K mg "held_in" 38 ["value"]
 d_told_part:De K mg "told_part" 39 ["value", "held"]
 d_told:De K mg "told" 37 ["value"]
 d_marked:De K mg "marked" 15 ["expression", "name", "number"]
 d__law_cell:De K mg "_law_cell" 41 ["_law_script", "_law_k"]
 d__law_mixed:De K mg "_law_mixed" 42 ["_law_cell_here", "_law_k"]
 d__law_whole:De K mg "_law_whole" 43 ["_law_found"]
 d__law_bound:De K mg "_law_bound" 44 ["_law_env", "_law_sort"]
 d__law_number:De K mg "_law_number" 45 ["_law_number_here", "_law_env"]
 d__law_function:De K mg "_law_function" 46 ["_law_number_here", "_law_env", "_law_names_here"]
 d__law_layers:De K mg "_law_layers" 47 ["_law_cells", "_law_start", "_law_names_here", "_law_handed_on"]
 d__law_names:De K mg "_law_names" 48 ["_law_cell_here"]
 d_law:De K mg "law" 49 ["_law_script"]
 C:Addr
 B:Addr
 mC:mg "Plain" = some (.ref C)
 mB:mg "Reckoner" = some (.ref B)
 cl:Cls K C
 n_most:NoAttr K C "most"
 n_steps:NoAttr K C "steps"
 n_waiting:NoAttr K C "waiting"
 n_come:NoAttr K C "come"
 n_ended:NoAttr K C "ended"
 n_defs:NoAttr K C "defs"
 m_rinit:Dm K "__init__" "Reckoner.__init__" (bE 8 0) ["self", "most"]
 m_pinit:Dm K "__init__" "Plain.__init__" (bE 16 0) ["self", "program", "most"]
 m_begin:Dm K "begin" "Reckoner.begin" (bE 8 1) ["self", "expression", "around"]
 m_tell:Dm K "tell" "Reckoner.tell" (bE 8 2) ["self", "value"]
 m_step:Dm K "step" "Reckoner.step" (bE 8 3) ["self"]
 m_run_on:Dm K "run_on" "Reckoner.run_on" (bE 8 4) ["self"]
 m_begin_parts:Dm K "begin_parts" "Reckoner.begin_parts" (bE 8 5) ["self", "expression", "around"]
 m_parts_come:Dm K "parts_come" "Reckoner.parts_come" (bE 8 6) ["self", "expression"]
 m_go_on:Dm K "go_on" "Plain.go_on" (bE 16 1) ["self", "expression", "bound", "parts"]
 h_begin:Meth K C "begin" m_begin.a
 h_tell:Meth K C "tell" m_tell.a
 h_step:Meth K C "step" m_step.a
 h_run_on:Meth K C "run_on" m_run_on.a
 h_begin_parts:Meth K C "begin_parts" m_begin_parts.a
 h_parts_come:Meth K C "parts_come" m_parts_come.a
 h_go_on:Meth K C "go_on" m_go_on.a
 mkC:Mk K C m_pinit.a
 cm:CMeth K B "__init__" m_rinit.a
 d_run:De K mg "run" 14 ["program", "most"]
 d_of_num:De K mg "of_num" 21 ["plain", "expression", "bound", "parts"]
 d_of_name:De K mg "of_name" 22 ["plain", "expression", "bound", "parts"]
 d_of_fn:De K mg "of_fn" 23 ["plain", "expression", "bound", "parts"]
 d_of_do:De K mg "of_do" 24 ["plain", "expression", "bound", "parts"]
 d_of_working:De K mg "of_working" 35 ["plain", "expression", "bound", "parts"]
 wt:List (List Nat×Addr)
 ways:Z2 mg K Ps "WAYS" wt
 ahead:zEN mg K Ps "AHEAD" AH
 w_110_3:j9 wt [110,117,109]=some d_of_num.a
 w_110_4:j9 wt [110,97,109,101]=some d_of_name.a
 w_102_2:j9 wt [102,110]=some d_of_fn.a
 w_100_2:j9 wt [100,111]=some d_of_do.a
 w_43_1:j9 wt [43]=some d_of_working.a
 w_45_1:j9 wt [45]=some d_of_working.a
 w_42_1:j9 wt [42]=some d_of_working.a
 w_60_1:j9 wt [60]=some d_of_working.a
 z_bool:mg "bool" = none
 z_dict:mg "dict" = none
 z_enumerate:mg "enumerate" = none
 z_int:mg "int" = none
 z_isinstance:mg "isinstance" = none
 z_len:mg "len" = none
 z_max:mg "max" = none
 z_range:mg "range" = none
 z_repr:mg "repr" = none
 z_reversed:mg "reversed" = none
 z_sorted:mg "sorted" = none
 z_tuple:mg "tuple" = none
 c_END_OF_NUMBERS:∃t,mg "END_OF_NUMBERS" = some (.int 1000000 t)
 c_MOST_PARTS:∃t,mg "MOST_PARTS" = some (.int 200 t)
section
variable{P:Program}{w:World}{K:Fg}{mg:Str->Option Value}{base:Heap}
theorem WO:FnScope ["expression"] ["expression"] (zP (top 2)):=⟨rfl,rfl,rfl,by decide +kernel,rfl,by decide +kernel,by decide +kernel⟩
theorem pG(T:Txt K mg w.params):Ok P w base T.d_inner 1 1 jW:=by
 refine mY T.d_inner.F WO 1 1 rfl rfl (g:=b4) (fun cdv A outer s H E hr=>?_)
 unfold b4
 exact(by refine zW ?_;exact(by refine xC ?_;exact(by refine ZP ?_;exact(u1 (N':=["part"]) (cap:=[]) rfl u7 (vN (zC 0 (pv 0))) (fun _ _ _ _=>(yM 0 (show(["part"]:List Str).Nodup by decide +kernel))) (fun _ _ _ _=>by exact(mD (jJ (by rfl) (by exact T.z_isinstance) (zC 0 (pv 0)) (bS (by rfl) (by exact T.z_tuple) boot_tuple rfl)))) (fun _ _ _ _=>by exact(zC 0 (pv 0))) 1))))
theorem sc_places:FnScope ["E", "found", "waiting", "place"] ["E"] (zP (top 1)):=⟨rfl,rfl,rfl,by decide +kernel,rfl,by decide +kernel,by decide +kernel⟩
theorem tS(T:Txt K mg w.params):Ok P w base T.d_places 2 1 qY:=by
 refine mY T.d_places.F sc_places 1 4 rfl rfl (g:=jR) (fun cdv A outer s H E hr=>?_)
 unfold jR
 exact(by refine zJ ?_ ?_;exact(kS 1 (by refine wD ?_;exact zL) sc_places.nd);exact(by refine zJ ?_ ?_;exact(kS 2 (by refine wD ?_;exact(zB (zC 0 (pv 0)) zL (hs:=zR))) sc_places.nd);exact(by refine zJ ?_ ?_;exact(p6 WF PassesOwn.never (XH (u5 2 (pv 2))) (by refine zJ ?_ ?_;exact(zDZ 3 (JI 2 (pv 2)) sc_places.nd);exact(by refine zJ ?_ ?_;exact(zDY (jI 1 (pv 1) (zC 3 (pv 3))));exact(by refine zW ?_;exact(zDY (hX 2 (pv 2) (zD8 (yG (pG T) (hr.mono (by decide)) (by rfl) T.d_inner.m T.d_inner.F.kp T.d_inner.b (zB (zC 3 (pv 3)) zL (hs:=zR))))))))));exact(by refine zW ?_;exact(mE 1 (pv 1))))))
theorem sc_inner_numbers:FnScope ["expression", "number", "found", "behind", "part"] ["expression", "number"] (zP (top 4)):=⟨rfl,rfl,rfl,by decide +kernel,rfl,by decide +kernel,by decide +kernel⟩
theorem j6(T:Txt K mg w.params):Ok P w base T.d_inner_numbers 3 2 y6:=by
 refine mY T.d_inner_numbers.F sc_inner_numbers 2 5 rfl rfl (g:=y3) (fun cdv A outer s H E hr=>?_)
 unfold y3
 exact(by refine zJ ?_ ?_;exact(kS 2 (by refine wD ?_;exact zL) sc_inner_numbers.nd);exact(by refine zJ ?_ ?_;exact(z5 3 (zO yE yF (zC 1 (pv 1)) zH) sc_inner_numbers.nd);exact(by refine zJ ?_ ?_;exact(cV PassesOwn.never rfl (vN (yG (pG T) (hr.mono (by decide)) (by rfl) T.d_inner.m T.d_inner.F.kp T.d_inner.b (zB (zC 0 (pv 0)) zL (hs:=zR)))) (yM 4 sc_inner_numbers.nd) (by refine zJ ?_ ?_;exact(zDY (jI 2 (pv 2) (zC 3 (pv 3))));exact(by refine zW ?_;exact(zD2 3 (u4 (by rfl) T.z_len (by refine ZP ?_;exact(XQ (tS T) (hr.mono (by decide)) (by rfl) T.d_places.m T.d_places.F.kp T.d_places.b (zB (zC 4 (pv 4)) zL (hs:=zR))))) sc_inner_numbers.nd))));exact(by refine zW ?_;exact(mE 2 (pv 2))))))
theorem nE:FnScope ["value"] ["value"] (zP (top 9)):=⟨rfl,rfl,rfl,by decide +kernel,rfl,by decide +kernel,by decide +kernel⟩
theorem x5(T:Txt K mg w.params):Ok P w base T.d_sort_of 1 1 xM:=by
 refine mY T.d_sort_of.F nE 1 1 rfl rfl (g:=uY) (fun cdv A outer s H E hr=>?_)
 unfold uY
 exact(by refine zW ?_;exact(by refine xC ?_;exact(zID (mD (jJ (by rfl) T.z_isinstance (zC 0 (pv 0)) (bS (by rfl) T.z_int boot_int rfl))) (zU (s:=[110,117,109]) (by rfl)) (yB (zC 0 (pv 0)) zH))))
theorem sc_binding:FnScope ["bound", "name", "value", "more"] ["bound", "name", "value"] (zP (top 10)):=⟨rfl,rfl,rfl,by decide +kernel,rfl,by decide +kernel,by decide +kernel⟩
theorem nO(T:Txt K mg w.params):Ok P w base T.d_binding 1 3 jK:=by
 refine mY T.d_binding.F sc_binding 3 4 rfl rfl (g:=jH) (fun cdv A outer s H E hr=>?_)
 unfold jH
 exact(by refine zJ ?_ ?_;exact(XI 3 (zDK (by rfl) T.z_dict (zIE (zC 0 (pv 0)))) sc_binding.nd);exact(by refine zJ ?_ ?_;exact(by refine XL 3 (un1 hr) (pv 3) ?_ ?_;exact(zC 1 (pv 1));exact(zC 2 (pv 2)));exact(by refine zW ?_;exact(zD0 3 (pv 3)))))
theorem tD:FnScope ["word", "first", "second"] ["word", "first", "second"] (zP (top 11)):=⟨rfl,rfl,rfl,by decide +kernel,rfl,by decide +kernel,by decide +kernel⟩
theorem tQ(T:Txt K mg w.params):Ok P w base T.d_worked 1 3 jV:=by
 refine mY T.d_worked.F tD 3 3 rfl rfl (g:=vD) (fun cdv A outer s H E hr=>?_)
 unfold vD
 exact(by refine zJ ?_ ?_;exact(qU (yU (w8 hr.units0) qA (zC 0 (pv 0)) (zU (s:=[43]) (by rfl)) (yO _)) (by refine zW ?_;exact(by refine xC ?_;exact(zO yY yZ (zO yE yF (zC 1 (pv 1)) (zC 2 (pv 2))) (mI T.c_END_OF_NUMBERS (by rfl))))) wK);exact(by refine zJ ?_ ?_;exact(qU (yU (w8 hr.units0) qA (zC 0 (pv 0)) (zU (s:=[45]) (by rfl)) (yO _)) (by refine zW ?_;exact(by refine xC ?_;exact(zO yY yZ (zO nL nP (zC 1 (pv 1)) (zC 2 (pv 2))) (mI T.c_END_OF_NUMBERS (by rfl))))) wK);exact(by refine zJ ?_ ?_;exact(qU (yU (w8 hr.units0) qA (zC 0 (pv 0)) (zU (s:=[42]) (by rfl)) (yO _)) (by refine zW ?_;exact(by refine xC ?_;exact(zO yY yZ (zO j5 j8 (zC 1 (pv 1)) (zC 2 (pv 2))) (mI T.c_END_OF_NUMBERS (by rfl))))) wK);exact(by refine zW ?_;exact(by refine xC ?_;exact(zID (yU tP tV (zC 1 (pv 1)) (zC 2 (pv 2)) (yO _)) zH zH))))))
theorem nG:FnScope ["value"] ["value"] (zP (top 38)):=⟨rfl,rfl,rfl,by decide +kernel,rfl,by decide +kernel,by decide +kernel⟩
theorem bT(T:Txt K mg w.params):Ok P w base T.d_held_in 2 1 bD:=by
 refine mY T.d_held_in.F nG 1 1 rfl rfl (g:=uZ) (fun cdv A outer s H E hr=>?_)
 unfold uZ
 exact(by refine zJ ?_ ?_;exact(qU (yU (w8 hr.units0) qA (yG (x5 T) (hr.mono (by decide)) (by rfl) T.d_sort_of.m T.d_sort_of.F.kp T.d_sort_of.b (zB (zC 0 (pv 0)) zL (hs:=zR))) (zU (s:=[114,101,99]) (by rfl)) (yO _)) (by refine zW ?_;exact p7) wK);exact(by refine zJ ?_ ?_;exact(qU (yU (w8 hr.units0) qA (yG (x5 T) (hr.mono (by decide)) (by rfl) T.d_sort_of.m T.d_sort_of.F.kp T.d_sort_of.b (zB (zC 0 (pv 0)) zL (hs:=zR))) (zU (s:=[111,110,101]) (by rfl)) (yO _)) (by refine zW ?_;exact(by refine xC ?_;exact(by refine ZP ?_;exact(by refine wD ?_;exact(zB (yB (zC 0 (pv 0)) zH) zL (hs:=qQ)))))) wK);exact(by refine zW ?_;exact(by refine xC ?_;exact(by refine ZP ?_;exact(by refine wD ?_;exact zL))))))
theorem cH:FnScope ["value", "held"] ["value", "held"] (zP (top 39)):=⟨rfl,rfl,rfl,by decide +kernel,rfl,by decide +kernel,by decide +kernel⟩
theorem cM(T:Txt K mg w.params):Ok P w base T.d_told_part 2 2 v5:=by
 refine mY T.d_told_part.F cH 2 2 rfl rfl (g:=jQ) (fun cdv A outer s H E hr=>?_)
 unfold jQ
 exact(by refine zJ ?_ ?_;exact(qU (yU (w8 hr.units0) qA (yG (x5 T) (hr.mono (by decide)) (by rfl) T.d_sort_of.m T.d_sort_of.F.kp T.d_sort_of.b (zB (zC 0 (pv 0)) zL (hs:=zR))) (zU (s:=[114,101,99]) (by rfl)) (yO _)) (by refine zW ?_;exact p7) wK);exact(by refine zJ ?_ ?_;exact(qU (yU (w8 hr.units0) qA (yG (x5 T) (hr.mono (by decide)) (by rfl) T.d_sort_of.m T.d_sort_of.F.kp T.d_sort_of.b (zB (zC 0 (pv 0)) zL (hs:=zR))) (zU (s:=[111,110,101]) (by rfl)) (yO _)) (by refine zW ?_;exact(by refine xC ?_;exact(by refine z6 ?_;exact(by refine zB (zU (s:=[111,110,101]) (by rfl)) ?_ (hs:=zS);refine zB (yB (zC 0 (pv 0)) zH) ?_ (hs:=qQ);refine zB (yB (zC 1 (pv 1)) zH) ?_ (hs:=qQ);exact zL)))) wK);exact(by refine zJ ?_ ?_;exact(qU (yU (w8 hr.units0) qA (yG (x5 T) (hr.mono (by decide)) (by rfl) T.d_sort_of.m T.d_sort_of.F.kp T.d_sort_of.b (zB (zC 0 (pv 0)) zL (hs:=zR))) (zU (s:=[102,110]) (by rfl)) (yO _)) (by refine zW ?_;exact(by refine xC ?_;exact(by refine z6 ?_;exact(zB (zU (s:=[102,110]) (by rfl)) zL (hs:=zS))))) wK);exact(by refine zW ?_;exact(by refine xC ?_;exact(zC 0 (pv 0)))))))
theorem sc_told:FnScope ["value", "found", "waiting", "done", "part"] ["value"] (zP (top 37)):=⟨rfl,rfl,rfl,by decide +kernel,rfl,by decide +kernel,by decide +kernel⟩
theorem zCC(T:Txt K mg w.params):Ok P w base T.d_told 3 1 Z3:=by
 refine mY T.d_told.F sc_told 1 5 rfl rfl (g:=oC) (fun cdv A outer s H E hr=>?_)
 unfold oC
 exact(by refine zJ ?_ ?_;exact(kS 1 (by refine wD ?_;exact zL) sc_told.nd);exact(by refine zJ ?_ ?_;exact(kS 2 (by refine wD ?_;exact(zB (zC 0 (pv 0)) zL (hs:=zR))) sc_told.nd);exact(by refine zJ ?_ ?_;exact(p6 WF PassesOwn.never (XH (u5 2 (pv 2))) (by refine zJ ?_ ?_;exact(zDY (vG 1 (pv 1) (JI 2 (pv 2))));exact(by refine zJ ?_ ?_;exact(qU (yU zE0 zE1 (zEB (by rfl) T.z_len (u5 1 (pv 1))) (mI T.c_MOST_PARTS (by rfl)) (yO _)) (by refine zW ?_;exact(by refine xC ?_;exact(by refine z6 ?_;exact(zB (zU (s:=[100,101,101,112]) (by rfl)) zL (hs:=zS))))) wK);exact(by refine zW ?_;exact(zDY (hX 2 (pv 2) (zD8 (yG (bT T) (hr.mono (by decide)) (by rfl) T.d_held_in.m T.d_held_in.F.kp T.d_held_in.b (zB (zED (u5 1 (pv 1)) (zEA zH)) zL (hs:=qQ))))))))));exact(by refine zJ ?_ ?_;exact(kS 3 (by refine wD ?_;exact zL) sc_told.nd);exact(by refine zJ ?_ ?_;exact(zLD 1 (cV PassesOwn.never rfl (p8 (by rfl) T.z_reversed (zLE 1 (pv 1))) (yM 4 sc_told.nd) (by refine zW ?_;exact(zDY (vG 3 (pv 3) (p5 (cM T) (hr.mono (by decide)) (by rfl) T.d_told_part.m T.d_told_part.F.kp T.d_told_part.b (dN (zC 4 (pv 4)) (p0 (by refine JJ (N':=["done", "held"]) (i:=3) rfl u7 ?_ ?_ ?_ zBU 2;exact(vN (yG (bT T) (hr.mono (by decide)) (by rfl) T.d_held_in.m T.d_held_in.F.kp T.d_held_in.b (zB (zC 4 (pv 4)) zL (hs:=zR))));exact(fun _ _ _ _=>(yM 1 (show(["done", "held"]:List Str).Nodup by decide +kernel)));exact(fun _ _ _ _=>by exact(JI 0 (pv 0))))))))))));exact(by refine zW ?_;exact(by refine xC ?_;exact(zED (u5 3 (pv 3)) zH))))))))
theorem sc_marked:FnScope ["expression", "name", "number", "below", "parts", "part"] ["expression", "name", "number"] (zP (top 15)):=⟨rfl,rfl,rfl,by decide +kernel,rfl,by decide +kernel,by decide +kernel⟩
theorem gP:∀(k:Nat) (T:Txt K mg w.params),Ok P w base T.d_marked (k+3) 3 (wZ k)
 |0,T=>zL1 3
 |k+1,T=>by
  have G:=gP k T
  rw[show k+1+3=(k+3)+1 by omega]
  refine mY T.d_marked.F sc_marked 3 6 rfl rfl (g:=vE (wZ k)) (fun cdv A outer s H E hr=>?_)
  unfold vE
  exact(by refine zJ ?_ ?_;exact(kS 3 (XQ (j6 T) (hr.mono (by omega)) (by rfl) T.d_inner_numbers.m T.d_inner_numbers.F.kp T.d_inner_numbers.b (by refine zB (zC 0 (pv 0)) ?_ (hs:=zR);refine zB (zC 2 (pv 2)) ?_ (hs:=zR);exact zL)) sc_marked.nd);exact(by refine zJ ?_ ?_;exact(kS 4 (by refine wD ?_;exact zL) sc_marked.nd);exact(by refine zJ ?_ ?_;exact(cV PassesOwn.never rfl (vN (zC 0 (pv 0))) (yM 5 sc_marked.nd) (by refine zW ?_;exact(qU (mD (jJ (by rfl) T.z_isinstance (zC 5 (pv 5)) (bS (by rfl) T.z_tuple boot_tuple rfl))) (by refine zW ?_;exact(zDY (vG 4 (pv 4) (p5 G (hr.mono (by omega)) (by rfl) T.d_marked.m T.d_marked.F.kp T.d_marked.b (dN (zC 5 (pv 5)) (dN (zC 1 (pv 1)) (p0 (zDT 3 (pv 3))))))))) (by refine zW ?_;exact(zDY (jI 4 (pv 4) (zC 5 (pv 5))))))));exact(by refine zW ?_;exact(by refine xC ?_;exact(oG (by rfl) T.z_tuple (by refine zJ4 ?_;exact(zHF (u5 4 (pv 4)) (by refine zJ4 ?_;exact(by refine wD ?_;exact(zB (by refine z6 ?_;exact(by refine zB (zC 1 (pv 1)) ?_ (hs:=zR);refine zB (zC 2 (pv 2)) ?_ (hs:=zR);exact zL)) zL (hs:=wE))))))))))))
theorem cI:FnScope ["_law_script", "_law_k"] ["_law_script", "_law_k"] (zP (top 41)):=⟨rfl,rfl,rfl,by decide +kernel,rfl,by decide +kernel,by decide +kernel⟩
theorem cN(T:Txt K mg w.params):Ok P w base T.d__law_cell 1 2 jX:=by
 refine mY T.d__law_cell.F cI 2 2 rfl rfl (g:=qC) (fun cdv A outer s H E hr=>?_)
 unfold qC
 exact(by refine zJ ?_ ?_;exact(qU (yU tP tV (zC 1 (pv 1)) (u4 (by rfl) T.z_len (zC 0 (pv 0))) (yO _)) (by refine zW ?_;exact(by refine xC ?_;exact(yB (zC 0 (pv 0)) (zC 1 (pv 1))))) wK);exact(by refine zW ?_;exact(by refine xC ?_;exact zH)))
theorem sc__law_mixed:FnScope ["_law_cell_here", "_law_k", "_law_number_here"] ["_law_cell_here", "_law_k"] (zP (top 42)):=⟨rfl,rfl,rfl,by decide +kernel,rfl,by decide +kernel,by decide +kernel⟩
theorem wA(T:Txt K mg w.params):Ok P w base T.d__law_mixed 1 2 yC:=by
 refine mY T.d__law_mixed.F sc__law_mixed 2 3 rfl rfl (g:=wQ) (fun cdv A outer s H E hr=>?_)
 unfold wQ
 exact(by refine zJ ?_ ?_;exact(z5 2 (zO yY yZ (zO yE yF (zO yE yF (zO yY yZ (zC 0 (pv 0)) zH) (zO j5 j8 zH (zC 1 (pv 1)))) zH) zH) sc__law_mixed.nd);exact(by refine zJ ?_ ?_;exact(z5 2 (zO yY yZ (zO j5 j8 (zC 2 (pv 2)) (zC 2 (pv 2))) zH) sc__law_mixed.nd);exact(by refine zW ?_;exact(by refine xC ?_;exact(zO wF wG (zO yY yZ (zO j5 j8 (zC 2 (pv 2)) (zO yE yF (zC 2 (pv 2)) zH)) zH) zH)))))
theorem uG:FnScope ["_law_found"] ["_law_found"] (zP (top 43)):=⟨rfl,rfl,rfl,by decide +kernel,rfl,by decide +kernel,by decide +kernel⟩
theorem jO(T:Txt K mg w.params):Ok P w base T.d__law_whole 1 1 x0:=by
 refine mY T.d__law_whole.F uG 1 1 rfl rfl (g:=qW) (fun cdv A outer s H E hr=>?_)
 unfold qW
 exact(by refine zW ?_;exact(by refine xC ?_;exact(zEG (jJ (by rfl) T.z_isinstance (zC 0 (pv 0)) (bS (by rfl) T.z_int boot_int rfl)) (zD9 (zHG (jJ (by rfl) T.z_isinstance (zC 0 (pv 0)) (bS (by rfl) T.z_bool boot_bool rfl)))))))
theorem sc__law_bound:FnScope ["_law_env", "_law_sort", "_law_there", "_law_name", "_law_entry"] ["_law_env", "_law_sort"] (zP (top 44)):=⟨rfl,rfl,rfl,by decide +kernel,rfl,by decide +kernel,by decide +kernel⟩
theorem wV(T:Txt K mg w.params):Ok P w base T.d__law_bound 17 2 xD:=by
 refine mY T.d__law_bound.F sc__law_bound 2 5 rfl rfl (g:=wR) (fun cdv A outer s H E hr=>?_)
 unfold wR
 exact(by refine zJ ?_ ?_;exact(XI 2 JG sc__law_bound.nd);exact(by refine zJ ?_ ?_;exact(cV PassesOwn.never rfl (vN (zC 0 (pv 0))) (vP rfl (yV (yM 3 sc__law_bound.nd) (yV (yM 4 sc__law_bound.nd) jC))) (by refine zW ?_;exact(by refine XL 2 (un1 hr) (pv 2) ?_ ?_;exact(zC 3 (pv 3));exact(zC 4 (pv 4)))));exact(by refine zW ?_;exact(zJZ 2 (by refine xC ?_;exact(by refine ZP ?_;exact(u1 (N':=["_law_sort", "_law_there", "_law_name"]) (cap:=[1,2]) rfl u7 (vN (by refine ZP ?_;exact(zD6 rfl (by rfl) T.z_sorted (zIE (zC 2 (pv 2)))))) (fun _ _ _ _=>(yM 2 (show(["_law_sort", "_law_there", "_law_name"]:List Str).Nodup by decide +kernel))) (fun _ _ _ _=>by exact(yU (QG (n:=400) (dZ hr (by decide))) QO (by refine yB ?_ ?_;exact(JO (un1 hr) (zIE (zC 1 (pv 1))) (zC 2 (pv 2)));exact zH) (zC 0 (pv 0)) (yO _))) (fun _ _ _ _=>by exact(by refine z6 ?_;exact(by refine zB ?_ ?_;exact(zC 2 (pv 2));refine zB ?_ ?_;exact(JO (un1 hr) (zIE (zC 1 (pv 1))) (zC 2 (pv 2)));exact zL))) 3)))))))
theorem sc__law_number:FnScope ["_law_number_here", "_law_env", "_law_counted", "_law_functions", "_law_drawn", "_law_told", "_law_steps", "_law_name", "_law_entry"] ["_law_number_here", "_law_env"] (zP (top 45)):=⟨rfl,rfl,rfl,by decide +kernel,rfl,by decide +kernel,by decide +kernel⟩
theorem jB(T:Txt K mg w.params):Ok P w base T.d__law_number 18 2 xT:=by
 refine mY T.d__law_number.F sc__law_number 2 9 rfl rfl (g:=xS) (fun cdv A outer s H E hr=>?_)
 unfold xS
 exact(by refine zJ ?_ ?_;exact(z5 2 (yG (wV T) (hr.mono (by decide)) (by rfl) T.d__law_bound.m T.d__law_bound.F.kp T.d__law_bound.b (by refine zB (zC 1 (pv 1)) ?_ (hs:=zR);refine zB (zU (s:=[110,117,109,98,101,114]) (by rfl)) ?_ (hs:=zS);exact zL)) sc__law_number.nd);exact(by refine zJ ?_ ?_;exact(z5 3 (yG (wV T) (hr.mono (by decide)) (by rfl) T.d__law_bound.m T.d__law_bound.F.kp T.d__law_bound.b (by refine zB (zC 1 (pv 1)) ?_ (hs:=zR);refine zB (zU (s:=[102,117,110,99,116,105,111,110]) (by rfl)) ?_ (hs:=zS);exact zL)) sc__law_number.nd);exact(by refine zJ ?_ ?_;exact(z5 4 (zO yY yZ (zO wF wG (zC 0 (pv 0)) zH) (zO QF QN zH zH)) sc__law_number.nd);exact(by refine zJ ?_ ?_;exact(z5 5 (by refine z6 ?_;exact(by refine zB (zU (s:=[110,117,109]) (by rfl)) ?_ (hs:=zS);refine zB (zC 4 (pv 4)) ?_ (hs:=zR);exact zL)) sc__law_number.nd);exact(by refine zJ ?_ ?_;exact(z5 6 zH sc__law_number.nd);exact(by refine zJ ?_ ?_;exact(qU (zHC (hZ (yU (cL (n:=400) (dZ hr (by decide))) cO (zC 2 (pv 2)) (by refine ZP ?_;exact(by refine wD ?_;exact zL)) (yO _)) (vX (yU zE0 zE1 (zO yY yZ (zC 0 (pv 0)) zH) zH (yO _))))) (by refine zJ ?_ ?_;exact(oF (yB (zC 2 (pv 2)) (zO yY yZ (zO wF wG (zC 0 (pv 0)) zH) (u4 (by rfl) T.z_len (zC 2 (pv 2))))) (vP rfl (yV (yM 7 sc__law_number.nd) (yV (yM 8 sc__law_number.nd) jC))));exact(by refine zJ ?_ ?_;exact(z5 5 (by refine z6 ?_;exact(by refine zB (zU (s:=[110,97,109,101]) (by rfl)) ?_ (hs:=zS);refine zB (zC 7 (pv 7)) ?_ (hs:=zR);exact zL)) sc__law_number.nd);exact(by refine zW ?_;exact(z5 4 (yB (zC 8 (pv 8)) zH) sc__law_number.nd)))) wK);exact(by refine zJ ?_ ?_;exact(qU (yU (w8 hr.units0) qA (zO yY yZ (zC 0 (pv 0)) zH) zH (yO _)) (by refine zJ ?_ ?_;exact(z5 5 (by refine z6 ?_;exact(by refine zB (zU (s:=[43]) (by rfl)) ?_ (hs:=zS);refine zB (zC 5 (pv 5)) ?_ (hs:=zR);refine zB (by refine z6 ?_;exact(by refine zB (zU (s:=[110,117,109]) (by rfl)) ?_ (hs:=zS);refine zB (zO yE yF zH (zO yY yZ (zO wF wG (zC 0 (pv 0)) zH) zH)) ?_ (hs:=jM);exact zL)) ?_ (hs:=wE);exact zL)) sc__law_number.nd);exact(by refine zW ?_;exact(z5 4 (zO yY yZ (zO yE yF (zO yE yF (zC 4 (pv 4)) zH) (zO yY yZ (zO wF wG (zC 0 (pv 0)) zH) zH)) zH) sc__law_number.nd))) wK);exact(by refine zJ ?_ ?_;exact(qU (zHC (hZ (yU (cL (n:=400) (dZ hr (by decide))) cO (zC 3 (pv 3)) (by refine ZP ?_;exact(by refine wD ?_;exact zL)) (yO _)) (vX (yU (w8 hr.units0) qA (zO yY yZ (zC 0 (pv 0)) zH) zH (yO _))))) (by refine zJ ?_ ?_;exact(oF (yB (zC 3 (pv 3)) (zO yY yZ (zO wF wG (zC 0 (pv 0)) zH) (u4 (by rfl) T.z_len (zC 3 (pv 3))))) (vP rfl (yV (yM 7 sc__law_number.nd) (yV (yM 8 sc__law_number.nd) jC))));exact(by refine zJ ?_ ?_;exact(z5 5 (by refine z6 ?_;exact(by refine zB (zU (s:=[100,111]) (by rfl)) ?_ (hs:=zS);refine zB (by refine z6 ?_;exact(by refine zB (zU (s:=[110,97,109,101]) (by rfl)) ?_ (hs:=zS);refine zB (zC 7 (pv 7)) ?_ (hs:=zR);exact zL)) ?_ (hs:=wE);refine zB (zC 5 (pv 5)) ?_ (hs:=zR);exact zL)) sc__law_number.nd);exact(by refine zJ ?_ ?_;exact(z5 4 (zO yY yZ (zO yE yF (zO j5 j8 (yB (zC 8 (pv 8)) zH) (zC 4 (pv 4))) (yB (zC 8 (pv 8)) zH)) zH) sc__law_number.nd);exact(by refine zW ?_;exact(z5 6 (zO yE yF zH (yB (zC 8 (pv 8)) zH)) sc__law_number.nd))))) wK);exact(by refine zW ?_;exact(by refine xC ?_;exact(by refine z6 ?_;exact(by refine zB (zC 5 (pv 5)) ?_ (hs:=zR);refine zB (by refine z6 ?_;exact(by refine zB (zU (s:=[110,117,109,98,101,114]) (by rfl)) ?_ (hs:=zS);refine zB (zC 4 (pv 4)) ?_ (hs:=zR);exact zL)) ?_ (hs:=wE);refine zB (zC 6 (pv 6)) ?_ (hs:=zR);exact zL))))))))))))
theorem sc__law_function:FnScope ["_law_number_here", "_law_env", "_law_names_here", "_law_counted", "_law_functions", "_law_y", "_law_name", "_law_entry", "_law_told", "_law_around", "_law_add", "_law_own"] ["_law_number_here", "_law_env", "_law_names_here"] (zP (top 46)):=⟨rfl,rfl,rfl,by decide +kernel,rfl,by decide +kernel,by decide +kernel⟩
theorem j7(T:Txt K mg w.params):Ok P w base T.d__law_function 18 3 xN:=by
 refine mY T.d__law_function.F sc__law_function 3 12 rfl rfl (g:=xK) (fun cdv A outer s H E hr=>?_)
 unfold xK
 exact(by refine zJ ?_ ?_;exact(z5 3 (yG (wV T) (hr.mono (by decide)) (by rfl) T.d__law_bound.m T.d__law_bound.F.kp T.d__law_bound.b (by refine zB (zC 1 (pv 1)) ?_ (hs:=zR);refine zB (zU (s:=[110,117,109,98,101,114]) (by rfl)) ?_ (hs:=zS);exact zL)) sc__law_function.nd);exact(by refine zJ ?_ ?_;exact(ZN 4 (N':=["_law_pair"]) (cap:=[]) rfl u7 (vN (yG (wV T) (hr.mono (by decide)) (by rfl) T.d__law_bound.m T.d__law_bound.F.kp T.d__law_bound.b (by refine zB (zC 1 (pv 1)) ?_ (hs:=zR);refine zB (zU (s:=[102,117,110,99,116,105,111,110]) (by rfl)) ?_ (hs:=zS);exact zL))) (fun _ _ _ _=>(yM 0 (show(["_law_pair"]:List Str).Nodup by decide +kernel))) (fun _ _ _ _=>by exact(yU (w8 (by exact hr.units0)) qA (by refine yB ?_ ?_;exact(by refine yB ?_ ?_;exact(zC 0 (pv 0));exact zH);exact zH) zH (yO _))) (fun _ _ _ _=>by exact(zC 0 (pv 0))) 1 sc__law_function.nd);exact(by refine zJ ?_ ?_;exact(z5 5 (yB (zC 2 (pv 2)) (zO yY yZ (zO wF wG (zC 0 (pv 0)) zH) zH)) sc__law_function.nd);exact(by refine zJ ?_ ?_;exact(qU (zHC (hZ (yU (w8 hr.units0) qA (zO yY yZ (zC 0 (pv 0)) zH) zH (yO _)) (vX (yU (cL (n:=400) (dZ hr (by decide))) cO (zC 4 (pv 4)) (by refine ZP ?_;exact(by refine wD ?_;exact zL)) (yO _))))) (by refine zJ ?_ ?_;exact(oF (yB (zC 4 (pv 4)) (zO yY yZ (zO wF wG (zC 0 (pv 0)) zH) (u4 (by rfl) T.z_len (zC 4 (pv 4))))) (vP rfl (yV (yM 6 sc__law_function.nd) (yV (yM 7 sc__law_function.nd) jC))));exact(by refine zJ ?_ ?_;exact(z5 5 (yB (by refine ZP ?_;exact(u1 (N':=["_law_name", "_law_other"]) (cap:=[6]) rfl u7 (vN (zC 2 (pv 2))) (fun _ _ _ _=>(yM 1 (show(["_law_name", "_law_other"]:List Str).Nodup by decide +kernel))) (fun _ _ _ _=>by exact(yU (cL (n:=400) (dZ hr (by decide))) cO (zC 1 (pv 1)) (zC 0 (pv 0)) (yO _))) (fun _ _ _ _=>by exact(zC 1 (pv 1))) 2)) (zO yY yZ (zO wF wG (zC 0 (pv 0)) zH) zH)) sc__law_function.nd);exact(by refine zJ ?_ ?_;exact(z5 8 (by refine z6 ?_;exact(by refine zB (zU (s:=[102,110]) (by rfl)) ?_ (hs:=zS);refine zB (zC 5 (pv 5)) ?_ (hs:=zR);refine zB (by refine z6 ?_;exact(by refine zB (zU (s:=[100,111]) (by rfl)) ?_ (hs:=zS);refine zB (by refine z6 ?_;exact(by refine zB (zU (s:=[110,97,109,101]) (by rfl)) ?_ (hs:=zS);refine zB (zC 6 (pv 6)) ?_ (hs:=zR);exact zL)) ?_ (hs:=wE);refine zB (by refine z6 ?_;exact(by refine zB (zU (s:=[100,111]) (by rfl)) ?_ (hs:=zS);refine zB (by refine z6 ?_;exact(by refine zB (zU (s:=[110,97,109,101]) (by rfl)) ?_ (hs:=zS);refine zB (zC 6 (pv 6)) ?_ (hs:=zR);exact zL)) ?_ (hs:=wE);refine zB (by refine z6 ?_;exact(by refine zB (zU (s:=[110,97,109,101]) (by rfl)) ?_ (hs:=zS);refine zB (zC 5 (pv 5)) ?_ (hs:=zR);exact zL)) ?_ (hs:=wE);exact zL)) ?_ (hs:=wE);exact zL)) ?_ (hs:=wE);exact zL)) sc__law_function.nd);exact(by refine zW ?_;exact(by refine xC ?_;exact(by refine z6 ?_;exact(by refine zB (zC 8 (pv 8)) ?_ (hs:=zR);refine zB (by refine z6 ?_;exact(by refine zB (zU (s:=[102,117,110,99,116,105,111,110]) (by rfl)) ?_ (hs:=zS);refine zB (zO j5 j8 (yB (zC 7 (pv 7)) zH) (yB (zC 7 (pv 7)) zH)) ?_ (hs:=jM);refine zB (zO yE yF (zO j5 j8 (yB (zC 7 (pv 7)) zH) (yB (zC 7 (pv 7)) zH)) (yB (zC 7 (pv 7)) zH)) ?_ (hs:=jM);refine zB zH ?_ (hs:=zS);exact zL)) ?_ (hs:=wE);refine zB zH ?_ (hs:=zS);exact zL))))))) wK);exact(by refine zJ ?_ ?_;exact(z5 9 (by refine z6 ?_;exact(by refine zB (zU (s:=[110,117,109]) (by rfl)) ?_ (hs:=zS);refine zB (zO yY yZ (zO wF wG (zC 0 (pv 0)) zH) (zO QF QN zH zH)) ?_ (hs:=jM);exact zL)) sc__law_function.nd);exact(by refine zJ ?_ ?_;exact(z5 10 (zO yY yZ (zO wF wG (zC 0 (pv 0)) zH) (zO QF QN zH zH)) sc__law_function.nd);exact(by refine zJ ?_ ?_;exact(z5 11 ZQ sc__law_function.nd);exact(by refine zJ ?_ ?_;exact(qU (yU (cL (n:=400) (dZ hr (by decide))) cO (zC 3 (pv 3)) (by refine ZP ?_;exact(by refine wD ?_;exact zL)) (yO _)) (by refine zJ ?_ ?_;exact(oF (yB (zC 3 (pv 3)) (zO yY yZ (zO wF wG (zC 0 (pv 0)) zH) (u4 (by rfl) T.z_len (zC 3 (pv 3))))) (vP rfl (yV (yM 6 sc__law_function.nd) (yV (yM 7 sc__law_function.nd) jC))));exact(by refine zJ ?_ ?_;exact(z5 9 (by refine z6 ?_;exact(by refine zB (zU (s:=[110,97,109,101]) (by rfl)) ?_ (hs:=zS);refine zB (zC 6 (pv 6)) ?_ (hs:=zR);exact zL)) sc__law_function.nd);exact(by refine zJ ?_ ?_;exact(z5 10 (yB (zC 7 (pv 7)) zH) sc__law_function.nd);exact(by refine zW ?_;exact(z5 11 (JN (QG (n:=400) (dZ hr (by decide))) QO (zC 6 (pv 6)) (zC 5 (pv 5)) (yO _)) sc__law_function.nd))))) wK);exact(by refine zJ ?_ ?_;exact(qU (yU (w8 hr.units0) qA (zO yY yZ (zC 0 (pv 0)) zH) zH (yO _)) (by refine zW ?_;exact(by refine xC ?_;exact(by refine z6 ?_;exact(by refine zB ?_ ?_;exact(by refine z6 ?_;exact(by refine zB (zU (s:=[102,110]) (by rfl)) ?_ (hs:=zS);refine zB (zC 5 (pv 5)) ?_ (hs:=zR);refine zB (zC 9 (pv 9)) ?_ (hs:=zR);exact zL));refine zB ?_ ?_;exact(by refine z6 ?_;exact(by refine zB ?_ ?_;exact(zU (s:=[102,117,110,99,116,105,111,110]) (by rfl));refine zB ?_ ?_;exact(mH (by rfl) T.z_int (zC 11 (pv 11)));refine zB ?_ ?_;exact(by refine yB ?_ ?_;exact(by refine ZP ?_;exact(by refine wD ?_;exact(by refine zB (zC 10 (pv 10)) ?_ (hs:=zR);refine zB zH ?_ (hs:=zS);exact zL)));exact(mH (by rfl) T.z_int (zC 11 (pv 11))));refine zB ?_ ?_;exact zH;exact zL));refine zB ?_ ?_;exact zH;exact zL)))) wK);exact(by refine zW ?_;exact(by refine xC ?_;exact(by refine z6 ?_;exact(by refine zB ?_ ?_;exact(by refine z6 ?_;exact(by refine zB (zU (s:=[102,110]) (by rfl)) ?_ (hs:=zS);refine zB (zC 5 (pv 5)) ?_ (hs:=zR);refine zB (by refine z6 ?_;exact(by refine zB (zU (s:=[43]) (by rfl)) ?_ (hs:=zS);refine zB (by refine z6 ?_;exact(by refine zB (zU (s:=[110,97,109,101]) (by rfl)) ?_ (hs:=zS);refine zB (zC 5 (pv 5)) ?_ (hs:=zR);exact zL)) ?_ (hs:=wE);refine zB (zC 9 (pv 9)) ?_ (hs:=zR);exact zL)) ?_ (hs:=wE);exact zL));refine zB ?_ ?_;exact(by refine z6 ?_;exact(by refine zB ?_ ?_;exact(zU (s:=[102,117,110,99,116,105,111,110]) (by rfl));refine zB ?_ ?_;exact(zO yE yF zH (mH (by rfl) T.z_int (zC 11 (pv 11))));refine zB ?_ ?_;exact(by refine yB ?_ ?_;exact(by refine ZP ?_;exact(by refine wD ?_;exact(by refine zB (zC 10 (pv 10)) ?_ (hs:=zR);refine zB zH ?_ (hs:=zS);exact zL)));exact(mH (by rfl) T.z_int (zC 11 (pv 11))));refine zB ?_ ?_;exact zH;exact zL));refine zB ?_ ?_;exact zH;exact zL)))))))))))))
theorem sc__law_layers:FnScope ["_law_cells", "_law_start", "_law_names_here", "_law_handed_on", "_law_env", "_law_layers_here", "_law_steps", "_law_k", "_law_cell_here", "_law_number_here", "_law_x", "_law_item", "_law_told", "_law_handed"] ["_law_cells", "_law_start", "_law_names_here", "_law_handed_on"] (zP (top 47)):=⟨rfl,rfl,rfl,by decide +kernel,rfl,by decide +kernel,by decide +kernel⟩
theorem vK(T:Txt K mg w.params):Ok P w base T.d__law_layers 19 4 xU:=by
 refine mY T.d__law_layers.F sc__law_layers 4 14 rfl rfl (g:=wC) (fun cdv A outer s H E hr=>?_)
 unfold wC
 exact(by refine zJ ?_ ?_;exact(z5 4 (by refine ZP ?_;exact(by refine wD ?_;exact zL)) sc__law_layers.nd);exact(by refine zJ ?_ ?_;exact(kS 5 (by refine wD ?_;exact zL) sc__law_layers.nd);exact(by refine zJ ?_ ?_;exact(z5 6 zH sc__law_layers.nd);exact(by refine zJ ?_ ?_;exact(cV PassesOwn.never rfl (zD5 (by rfl) T.z_enumerate (zC 0 (pv 0))) (vP rfl (yV (yM 7 sc__law_layers.nd) (yV (yM 8 sc__law_layers.nd) jC))) (by refine zJ ?_ ?_;exact(z5 9 (yG (wA T) (hr.mono (by decide)) (by rfl) T.d__law_mixed.m T.d__law_mixed.F.kp T.d__law_mixed.b (by refine zB (zC 8 (pv 8)) ?_ (hs:=zR);refine zB (zO yE yF (zC 1 (pv 1)) (zC 7 (pv 7))) ?_ (hs:=jM);exact zL)) sc__law_layers.nd);exact(by refine zJ ?_ ?_;exact(z5 10 (yB (zC 2 (pv 2)) (zO yY yZ (zC 9 (pv 9)) zH)) sc__law_layers.nd);exact(by refine zJ ?_ ?_;exact(qU (yU tP tV (zO yY yZ (yG (wA T) (hr.mono (by decide)) (by rfl) T.d__law_mixed.m T.d__law_mixed.F.kp T.d__law_mixed.b (by refine zB (zC 8 (pv 8)) ?_ (hs:=zR);refine zB (zO yE yF (zO yE yF zH (zC 1 (pv 1))) (zC 7 (pv 7))) ?_ (hs:=jM);exact zL)) zH) zH (yO _)) (by refine zW ?_;exact(z5 11 (yG (j7 T) (hr.mono (by decide)) (by rfl) T.d__law_function.m T.d__law_function.F.kp T.d__law_function.b (by refine zB (zO wF wG (zC 9 (pv 9)) zH) ?_ (hs:=jM);refine zB (zC 4 (pv 4)) ?_ (hs:=zR);refine zB (zC 2 (pv 2)) ?_ (hs:=zR);exact zL)) sc__law_layers.nd)) (by refine zW ?_;exact(z5 11 (yG (jB T) (hr.mono (by decide)) (by rfl) T.d__law_number.m T.d__law_number.F.kp T.d__law_number.b (by refine zB (zO wF wG (zC 9 (pv 9)) zH) ?_ (hs:=jM);refine zB (zC 4 (pv 4)) ?_ (hs:=zR);exact zL)) sc__law_layers.nd)));exact(by refine zJ ?_ ?_;exact(qU (zHC (hZ (yU (w8 hr.units0) qA (zC 7 (pv 7)) zH (yO _)) (vX (yU zCA zCF (zC 3 (pv 3)) ZO (yO _))))) (by refine zW ?_;exact(z5 11 (zC 3 (pv 3)) sc__law_layers.nd)) wK);exact(by refine zJ ?_ ?_;exact(zDY (jI 5 (pv 5) (by refine z6 ?_;exact(by refine zB (zC 10 (pv 10)) ?_ (hs:=zR);refine zB (yB (zC 11 (pv 11)) zH) ?_ (hs:=qQ);exact zL))));exact(by refine zJ ?_ ?_;exact(z5 4 (zO yE yF (zC 4 (pv 4)) (by refine ZP ?_;exact(by refine wD ?_;exact(zB (by refine z6 ?_;exact(by refine zB (zC 10 (pv 10)) ?_ (hs:=zR);refine zB (yB (zC 11 (pv 11)) zH) ?_ (hs:=qQ);exact zL)) zL (hs:=wE))))) sc__law_layers.nd);exact(by refine zW ?_;exact(z5 6 (zO yE yF (zO yE yF (zC 6 (pv 6)) (yB (zC 11 (pv 11)) zH)) zH) sc__law_layers.nd)))))))));exact(by refine zJ ?_ ?_;exact(z5 11 (yG (jB T) (hr.mono (by decide)) (by rfl) T.d__law_number.m T.d__law_number.F.kp T.d__law_number.b (by refine zB (zO yE yF (zO yE yF (zO j5 j8 (yG (wA T) (hr.mono (by decide)) (by rfl) T.d__law_mixed.m T.d__law_mixed.F.kp T.d__law_mixed.b (by refine zB (zC 1 (pv 1)) ?_ (hs:=zR);refine zB (u4 (by rfl) T.z_len (zC 0 (pv 0))) ?_ (hs:=zBA);exact zL)) zH) zH) (zO yY yZ (zC 1 (pv 1)) zH)) ?_ (hs:=jM);refine zB (zC 4 (pv 4)) ?_ (hs:=zR);exact zL)) sc__law_layers.nd);exact(by refine zJ ?_ ?_;exact(z5 12 (yB (zC 11 (pv 11)) zH) sc__law_layers.nd);exact(by refine zJ ?_ ?_;exact(zLD 5 (cV PassesOwn.never rfl (p8 (by rfl) T.z_reversed (zLE 5 (pv 5))) (vP rfl (yV (yM 10 sc__law_layers.nd) (yV (yM 13 sc__law_layers.nd) jC))) (by refine zW ?_;exact(z5 12 (by refine z6 ?_;exact(by refine zB (zU (s:=[100,111]) (by rfl)) ?_ (hs:=zS);refine zB (by refine z6 ?_;exact(by refine zB (zU (s:=[102,110]) (by rfl)) ?_ (hs:=zS);refine zB (zC 10 (pv 10)) ?_ (hs:=zR);refine zB (zC 12 (pv 12)) ?_ (hs:=zR);exact zL)) ?_ (hs:=wE);refine zB (zC 13 (pv 13)) ?_ (hs:=zR);exact zL)) sc__law_layers.nd))));exact(by refine zW ?_;exact(by refine xC ?_;exact(by refine z6 ?_;exact(by refine zB (zC 12 (pv 12)) ?_ (hs:=zR);refine zB (yB (zC 11 (pv 11)) zH) ?_ (hs:=qQ);refine zB (zO yE yF (zC 6 (pv 6)) (yB (zC 11 (pv 11)) zH)) ?_ (hs:=jM);exact zL)))))))))))
theorem sc__law_names:FnScope ["_law_cell_here", "_law_base"] ["_law_cell_here"] (zP (top 48)):=⟨rfl,rfl,rfl,by decide +kernel,rfl,by decide +kernel,by decide +kernel⟩
theorem uN(T:Txt K mg w.params):Ok P w base T.d__law_names 2 1 qZ:=by
 refine mY T.d__law_names.F sc__law_names 1 2 rfl rfl (g:=wP) (fun cdv A outer s H E hr=>?_)
 unfold wP
 exact(by refine zJ ?_ ?_;exact(z5 1 (zEC (zU (s:=[]) (by rfl)) (by refine zJ4 ?_;exact(XO (N':=["_law_cell_here", "_law_k"]) (cap:=[0]) rfl u7 (XN (by rfl) T.z_range (zO yE yF zH (zO yY yZ (zC 0 (pv 0)) zH))) (fun _ _ _ _=>(yM 1 (show(["_law_cell_here", "_law_k"]:List Str).Nodup by decide +kernel))) (fun _ _ _ _=>by exact(by refine yB ?_ ?_;exact(zU (s:=[113,120,122,106,118]) (by rfl));exact(zO yY yZ (yG (wA T) (hr.mono (by decide)) (by rfl) T.d__law_mixed.m T.d__law_mixed.F.kp T.d__law_mixed.b (by refine zB ?_ ?_;exact(zC 0 (pv 0));refine zB ?_ ?_;exact(zO yE yF zH (zC 1 (pv 1)));exact zL)) zH))) 2))) sc__law_names.nd);exact(by refine zW ?_;exact(by refine xC ?_;exact(by refine ZP ?_;exact(by refine wD ?_;exact(by refine zB (zC 1 (pv 1)) ?_ (hs:=zR);refine zB (zO yE yF (zC 1 (pv 1)) (zU (s:=[97]) (by rfl))) ?_ (hs:=jM);refine zB (zO yE yF (zE9 (zC 1 (pv 1)) zD3 (b8 (zEA zH))) (zU (s:=[98]) (by rfl))) ?_ (hs:=jM);refine zB (zO yE yF (zU (s:=[99]) (by rfl)) (zC 1 (pv 1))) ?_ (hs:=jM);exact zL))))))
theorem WQ:FnScope ["self", "expression", "around"] ["self", "expression", "around"] (zP (bE 8 1)):=⟨rfl,rfl,rfl,by decide +kernel,rfl,by decide +kernel,by decide +kernel⟩
noncomputable def bK:MEs:=(uDo (JY (yW (zA (zD 1) (zA (zD 2) (zA (mC (.bl false)) zQ))))))
theorem sz2:(2:Nat)<=sizeLine:=by decide
theorem sz3:(3:Nat)<=sizeLine:=by decide
theorem zAT(st:Mst)(ds:List D)(p:D×Mst)(hl:ds.length=2)(h:xF st ds=some p):mkU 2 3 bK st ds=some p:=by
 match ds,hl with
 |[e,b],_=>
  have h:(if st.wait.length<sizeLine then some (D.non,zBP st (.tup [e,b,.bl false])) else none)=some p:=h
  by_cases hs:st.wait.length<sizeLine
  ·rw[if_pos hs] at h
   cases h
   show(bK st [.un,.v e,.v b]).bind _=_
   unfold bK uDo
   simp[JY,yW,zA,zQ,zD,mC,hs,sz3]
  ·rw[if_neg hs] at h;cases h
theorem uM(T:Txt K mg w.params):FnOk P w K mg base CX0 1 T.m_begin.a T.m_begin.d ["self", "expression", "around"] (spM K T.C 2 xF):=by
 refine x3 (zAA (k:=0) T.m_begin.F WQ 2 3 rfl rfl (g:=bK) (fun cdv A outer s H E hr=>?_)) zAT
 unfold bK
 exact(by refine xO ?_;exact(vI (YV (pv 0) T.cl T.n_waiting (by refine z6 ?_;exact(by refine zB (zC 1 (pv 1)) ?_ (hs:=zR);refine zB (zC 2 (pv 2)) ?_ (hs:=zR);refine zB ZQ ?_ (hs:=zS);exact zL)))))
theorem zBE:FnScope ["self", "value"] ["self", "value"] (zP (bE 8 2)):=⟨rfl,rfl,rfl,by decide +kernel,rfl,by decide +kernel,by decide +kernel⟩
noncomputable def mZ:MEs:=(uDo (zHL (zD 1)))
theorem zFH(st:Mst)(ds:List D)(p:D×Mst)(hl:ds.length=1)(h:wJ st ds=some p):mkU 1 2 mZ st ds=some p:=by
 match ds,hl with
 |[e],_=>
  have h:(if st.come.length<sizeLine then some (D.non,zF2 st e) else none)=some p:=h
  by_cases hs:st.come.length<sizeLine
  ·rw[if_pos hs] at h
   cases h
   show(mZ st [.un,.v e]).bind _=_
   unfold mZ uDo
   simp[zHL,zD,hs]
  ·rw[if_neg hs] at h;cases h
theorem gO(T:Txt K mg w.params):FnOk P w K mg base CX0 1 T.m_tell.a T.m_tell.d ["self", "value"] (spM K T.C 1 wJ):=by
 refine x3 (zAA (k:=0) T.m_tell.F zBE 1 2 rfl rfl (g:=mZ) (fun cdv A outer s H E hr=>?_)) zFH
 unfold mZ
 exact(by refine xO ?_;exact(vI (zCW (pv 0) T.cl T.n_come (zC 1 (pv 1)))))
theorem zBF:FnScope ["self"] ["self"] (zP (bE 8 3)):=⟨rfl,rfl,rfl,by decide +kernel,rfl,by decide +kernel,by decide +kernel⟩
noncomputable def m7:MEs:=(rG (uIf vGe (rG (zIW (yW (zA (mC (.str [116,105,114,101,100])) (zA (mC .non) zQ)))) (zAG (xI (mC (.bl false))))) oQ) (rG zHK (zAG (xI (mC (.bl true))))))
theorem zFI(st:Mst)(ds:List D)(p:D×Mst)(hl:ds.length=0)(h:qJ st ds=some p):mkU 0 1 m7 st ds=some p:=by
 match ds,hl with
 |[],_=>
  have h:(if st.most<=st.steps then some (D.bl false,{ st with ended:=bL }) else some (.bl true,{ st with steps:=st.steps+1 }))=some p:=h
  show(m7 st [.un]).bind _=_
  unfold m7 rG uIf
  by_cases hs:st.most<=st.steps
  ·rw[if_pos hs] at h
   cases h
   simp[hs,vGe,zIW,zAG,xI,yW,zA,zQ,mC,rG,bL,sz2]
  ·rw[if_neg hs] at h
   cases h
   simp[hs,vGe,zIW,zAG,xI,yW,zA,zQ,mC,rG,bL,oQ,zHK]
theorem YS(T:Txt K mg w.params):FnOk P w K mg base CX0 1 T.m_step.a T.m_step.d ["self"] (spM K T.C 0 qJ):=by
 refine x3 (zAA (k:=0) T.m_step.F zBF 0 1 rfl rfl (g:=m7) (fun cdv A outer s H E hr=>?_)) zFI
 unfold m7
 exact(by refine jP ?_ ?_;exact(pJ (zJL (uQ (pv 0) T.cl T.n_steps dJ) (uQ (pv 0) T.cl T.n_most zDH) rfl) (by refine jP ?_ ?_;exact(zGS (pv 0) T.cl T.n_ended (by refine z6 ?_;exact(by refine zB (zU (s:=[116,105,114,101,100]) (by rfl)) ?_ (hs:=zS);refine zB ZO ?_ (hs:=zS);exact zL)));exact(by refine xO ?_;exact(nS (xR ZQ)))) tZ);exact(by refine jP ?_ ?_;exact(zCO (pv 0) T.cl T.n_steps);exact(by refine xO ?_;exact(nS (xR ZQ)))))
theorem sc_begin_parts:FnScope ["self", "expression", "around", "at"] ["self", "expression", "around"] (zP (bE 8 5)):=⟨rfl,rfl,rfl,by decide +kernel,rfl,by decide +kernel,by decide +kernel⟩
noncomputable def x2:MEs:=(rG (uDo (JY (yW (zA (zD 1) (zA (zD 2) (zA (mC (.bl true)) zQ)))))) (zKD 0 3 (zJN (mUn (zIN AH) (zG ixD (zD 1) (mC (.int 0))))) (uDo (wT 2 xF (z4 (xI (zG ixD (zD 1) (zD 3))) (z4 (xI (zD 2)) wB))))))
theorem cC{st:Mst}{e b:D}{q:D×Mst}(h:xF st [e,b]=some q):q=(.non,zBP st (.tup [e,b,.bl false])):=by
 have h:(if st.wait.length<sizeLine then some (D.non,zBP st (.tup [e,b,.bl false])) else none)=some q:=h
 by_cases hs:st.wait.length<sizeLine
 ·rw[if_pos hs] at h;cases h;rfl
 ·rw[if_neg hs] at h;cases h
theorem zLF{α:Type}{x:α}{l:List α}:atI (x::l) 0=some x:=by
 unfold atI ixN
 simp
theorem zEL{e:D}{l:List Int}(h:vZ e=some l){r:En}{i:Nat}(hr:r[i]?=some (.v e)):mUn (zIN AH) (zG ixD (zD i) (mC (.int 0))) r=some (.tup (l.map .int)):=by
 unfold vZ at h
 split at h
 ·rename_i s' r'
  cases h
  have e3:zG ixD (zD i) (mC (.int 0)) r=some (.str s'):=by
   unfold zG zD
   rw[hr]
   exact zLF
  unfold mUn
  rw[e3];rfl
 ·cases h
theorem v6(st:Mst)(ds:List D)(p:D×Mst)(hl:ds.length=2)(h:yA st ds=some p):mkU 2 4 x2 st ds=some p:=by
 match ds,hl with
 |[e,b],_=>
  have h:(if st.wait.length<sizeLine then (vZ e).bind fun l=>(pA e b l.reverse (zBP st (.tup [e,b,.bl true]))).map fun s=>(D.non,s) else none)=some p:=h
  by_cases hs:st.wait.length<sizeLine
  ·rw[if_pos hs] at h
   obtain⟨l,e1,h⟩:=bind_some h
   obtain⟨s,e2,rfl⟩:=map_some h
   show(x2 st [.un,.v e,.v b,.un]).bind _=_
   have loop:∀(l:List Int) (st s:Mst) (x:Sl),(x=.un\/∃i,x=.v (.int i))->pA e b l st=some s->∃x',oR 0 3 (uDo (wT 2 xF (z4 (xI (zG ixD (zD 1) (zD 3))) (z4 (xI (zD 2)) wB)))) (l.map D.int) st [.un,.v e,.v b,x]=some (.nx s [.un,.v e,.v b,x']):=by
    intro l
    induction l with
    |nil=>intro st s x _ h;cases h;exact⟨x,rfl⟩
    |cons i l ih=>
     intro st s x hx h
     obtain⟨q,h1,h2⟩:=bind_some (show(ixD e (.int i)).bind (fun p=>(xF st [p,b]).bind fun q=>pA e b l q.2)=some s from h)
     obtain⟨q2,h3,h4⟩:=bind_some h2
     obtain⟨x',hx'⟩:=ih q2.2 s (.v (.int i)) (.inr ⟨i,rfl⟩) h4
     refine⟨x',?_⟩
     have hset:yQ 3 (.int i) [.un,.v e,.v b,x]=some [.un,.v e,.v b,.v (.int i)]:=by
      rcases hx with rfl|⟨j,rfl⟩<;>rfl
     have hm:wT 2 xF (z4 (xI (zG ixD (zD 1) (zD 3))) (z4 (xI (zD 2)) wB)) st [.un,.v e,.v b,.v (.int i)]=some q2:=by
      have e1:zG ixD (zD 1) (zD 3) [.un,.v e,.v b,.v (.int i)]=some q:=h1
      have e2:zD 2 [.un,.v e,.v b,.v (.int i)]=some b:=rfl
      unfold wT
      simp only[z4,xI,wB,e1,e2,Option.map_some,Option.bind_some,List.length_cons,List.length_nil,if_true]
      exact h3
     rw[List.map_cons]
     unfold oR
     rw[if_neg (by decide),hset,Option.bind_some]
     unfold uDo
     rw[hm]
     exact hx'
   obtain⟨x',hx'⟩:=loop l.reverse _ s .un (.inl rfl) e2
   have ea:zJN (mUn (zIN AH) (zG ixD (zD 1) (mC (.int 0)))) [.un,.v e,.v b,.un]=some (l.reverse.map D.int):=by
    unfold zJN mTp
    rw[zEL e1 rfl]
    show some ((l.map D.int).reverse)=_
    rw[List.map_reverse]
   unfold x2 rG
   have e4:uDo (JY (yW (zA (zD 1) (zA (zD 2) (zA (mC (.bl true)) zQ))))) st [.un,.v e,.v b,.un]=some (.nx (zBP st (.tup [e,b,.bl true])) [.un,.v e,.v b,.un]):=by
    unfold uDo
    simp[JY,yW,zA,zQ,zD,mC,hs,sz3]
   rw[e4,Option.bind_some]
   unfold zKD
   dsimp only
   rw[ea,Option.bind_some]
   show(oR _ _ _ _ _ _).bind _=_
   rw[hx']
   rfl
  ·rw[if_neg hs] at h;cases h
theorem vJ(T:Txt K mg w.params):FnOk P w K mg base CX0 2 T.m_begin_parts.a T.m_begin_parts.d ["self", "expression", "around"] (spM K T.C 2 yA):=by
 refine x3 (zAA (k:=1) T.m_begin_parts.F sc_begin_parts 2 4 rfl rfl (g:=x2) (fun cdv A outer s H E hr=>?_)) v6
 unfold x2
 exact(by refine jP ?_ ?_;exact(vI (YV (pv 0) T.cl T.n_waiting (by refine z6 ?_;exact(by refine zB (zC 1 (pv 1)) ?_ (hs:=zR);refine zB (zC 2 (pv 2)) ?_ (hs:=zR);refine zB ZQ ?_ (hs:=zS);exact zL))));exact(by refine xO ?_;exact(zGR 3 PassesOwn.never rfl (zHE (by rfl) T.z_reversed (XX T.ahead (by rfl) (yB (zC 1 (pv 1)) zH) XU)) sc_begin_parts.nd (by refine xO ?_;exact(vI (qL (pv 0) T.cl T.h_begin (fun _ _ _ _ _ _=>rfl) (uM T) (hr.mono (by omega)) T.m_begin.b (yR (xR (yB (zC 1 (pv 1)) (zC 3 (pv 3)))) (yR (xR (zC 2 (pv 2))) qS))))))))
theorem uE:FnScope ["self", "expression"] ["self", "expression"] (zP (bE 8 6)):=⟨rfl,rfl,rfl,by decide +kernel,rfl,by decide +kernel,by decide +kernel⟩
noncomputable def wN:MEs:=(zAG (zET (mUn (zIN AH) (zG ixD (zD 1) (mC (.int 0))))))
theorem cD(st:Mst)(ds:List D)(p:D×Mst)(hl:ds.length=1)(h:yJ st ds=some p):mkU 1 2 wN st ds=some p:=by
 match ds,hl with
 |[e],_=>
  obtain⟨l,e1,h⟩:=bind_some (show(vZ e).bind _=some p from h)
  show(wN st [.un,.v e]).bind _=_
  unfold wN zAG zET
  rw[zEL e1 rfl,Option.bind_some]
  dsimp only
  rw[List.length_map,h]
  rfl
theorem uL(T:Txt K mg w.params):FnOk P w K mg base CX0 1 T.m_parts_come.a T.m_parts_come.d ["self", "expression"] (spM K T.C 1 yJ):=by
 refine x3 (zAA (k:=0) T.m_parts_come.F uE 1 2 rfl rfl (g:=wN) (fun cdv A outer s H E hr=>?_)) cD
 unfold wN
 exact(by refine xO ?_;exact(nS (zCT (N':=["self", "at"]) rfl u7 (XX T.ahead (by rfl) (yB (zC 1 (pv 1)) zH) XU) rfl (fun _ _ _ _=>pE (show(["self", "at"]:List Str).Nodup by decide +kernel) rfl (Or.inl rfl)) (fun _ _ _ _=>pv 0) T.cl T.n_come (fun _ _ _ _=>rfl) (fun _ _ _ _=>rfl))))
theorem tE:FnScope ["plain", "expression", "bound", "parts"] ["plain", "expression", "bound", "parts"] (zP (top 21)):=⟨rfl,rfl,rfl,by decide +kernel,rfl,by decide +kernel,by decide +kernel⟩
noncomputable def kY:MEs:=(uDo (wT 1 wJ (z4 (xI (zG ixD (zD 1) (mC (.int 1)))) wB)))
theorem X8(st:Mst)(ds:List D)(p:D×Mst)(hl:ds.length=3)(h:qO st ds=some p):mkU 3 4 kY st ds=some p:=by
 unfold qO at h
 split at h
 ·rename_i a v c b ps
  show(kY st [.un,.v (.tup [a,v,c]),.v b,.v ps]).bind _=_
  have e1:zG ixD (zD 1) (mC (.int 1)) [.un,.v (.tup [a,v,c]),.v b,.v ps]=some v:=rfl
  unfold kY uDo wT
  simp only[z4,xI,wB,e1,Option.map_some,Option.bind_some,List.length_cons,List.length_nil,if_true]
  rw[h]
  have h:(if st.come.length<sizeLine then some (D.non,zF2 st v) else none)=some p:=h
  by_cases hs:st.come.length<sizeLine
  ·rw[if_pos hs] at h;cases h;rfl
  ·rw[if_neg hs] at h;cases h
 ·cases h
theorem tT(T:Txt K mg w.params):FnOk P w K mg base CX0 2 T.d_of_num.a T.d_of_num.d ["plain", "expression", "bound", "parts"] (spM K T.C 3 qO):=by
 refine x3 (zAA (k:=1) T.d_of_num.F tE 3 4 rfl rfl (g:=kY) (fun cdv A outer s H E hr=>?_)) X8
 unfold kY
 exact(by refine xO ?_;exact(vI (qL (pv 0) T.cl T.h_tell (fun _ _ _ _ _ _=>rfl) (gO T) (hr.mono (by omega)) T.m_tell.b (yR (xR (yB (zC 1 (pv 1)) zH)) qS))))
theorem nF:FnScope ["plain", "expression", "bound", "parts"] ["plain", "expression", "bound", "parts"] (zP (top 22)):=⟨rfl,rfl,rfl,by decide +kernel,rfl,by decide +kernel,by decide +kernel⟩
noncomputable def qP:MEs:=(uIf (cY (zE6 false (zG ixD (zD 1) (mC (.int 1))) (rL (zD 2)))) (uDo (wT 1 wJ (z4 (xI (zC2 (rL (zD 2)) (zG ixD (zD 1) (mC (.int 1))))) wB))) (uIf (vBl (cF qJ)) (uDo (wT 2 xF (z4 (rT (zG ixD (zD 1) (mC (.int 1)))) (z4 (xI (zAJ mD0)) wB)))) oQ))
theorem Z9(st:Mst):qJ st []=if st.most<=st.steps then some (D.bl false,{ st with ended:=bL }) else some (.bl true,{ st with steps:=st.steps+1 }):=rfl
theorem uA{st:Mst}{v:D}{q:D×Mst}(h:wJ st [v]=some q):q=(.non,zF2 st v):=by
 have h:(if st.come.length<sizeLine then some (D.non,zF2 st v) else none)=some q:=h
 by_cases hs:st.come.length<sizeLine
 ·rw[if_pos hs] at h;cases h;rfl
 ·rw[if_neg hs] at h;cases h
theorem rR(st:Mst)(ds:List D)(p:D×Mst)(hl:ds.length=3)(h:yX st ds=some p):mkU 3 4 qP st ds=some p:=by
 unfold yX at h
 split at h
 ·rename_i a s c ks0 l0 ps
  show(qP st [.un,.v (.tup [a,.str s,c]),.v (.dct ks0 l0),.v ps]).bind _=_
  have e2:zG ixD (zD 1) (mC (.int 1)) [.un,.v (.tup [a,.str s,c]),.v (.dct ks0 l0),.v ps]=some (.str s):=rfl
  have e3:zE6 false (zG ixD (zD 1) (mC (.int 1))) (rL (zD 2)) [.un,.v (.tup [a,.str s,c]),.v (.dct ks0 l0),.v ps]=some (yS ks0 l0 (.inr ⟨s.toArray⟩)).isSome:=rfl
  have e6:zC2 (rL (zD 2)) (zG ixD (zD 1) (mC (.int 1))) [.un,.v (.tup [a,.str s,c]),.v (.dct ks0 l0),.v ps]=yS ks0 l0 (.inr ⟨s.toArray⟩):=rfl
  split at h
  ·rename_i v hv
   have hb:=uA h
   rw[hv] at e3 e6
   unfold qP uIf
   simp only[cY,e3,e6,Option.isSome_some,Option.map_some,Option.bind_some,if_true,uDo,wT,z4,wB,xI,List.length_cons,List.length_nil]
   rw[h];subst hb;rfl
  rename_i hv
  obtain⟨q,e1,h⟩:=bind_some h
  rw[hv] at e3
  unfold qP uIf
  simp only[cY,e3,Option.isSome_none,Option.map_some,Option.bind_some,Bool.false_eq_true,if_false,vBl,cF,e1]
  rw[Z9] at e1
  by_cases hs:st.most<=st.steps
  ·rw[if_pos hs] at e1
   cases e1
   cases h
   rfl
  ·rw[if_neg hs] at e1
   cases e1
   dsimp only at h
   split at h
   ·rename_i ks l _ hd
    obtain⟨d,e4,h⟩:=bind_some h
    have hb:=cC h
    subst hb
    have e5:rT (zG ixD (zD 1) (mC (.int 1))) { st with steps:=st.steps+1 } [.un,.v (.tup [a,.str s,c]),.v (.dct ks0 l0),.v ps]=some (d,{ st with steps:=st.steps+1 }):=by
     unfold rT
     rw[e2,Option.bind_some]
     show(match st.defs with | .dct ks l=>(yS ks l (.inr ⟨s.toArray⟩)).map fun d=>(d,{ st with steps:=st.steps+1 })|_=>none)=_
     rw[hd]
     dsimp only
     rw[e4];rfl
    dsimp only[Option.bind_some]
    simp only[if_true,uDo,wT,z4,wB,e5,Option.bind_some,Option.map_some,xI,zAJ,mD0,List.length_cons,List.length_nil]
    rw[h];rfl
   ·rename_i z;cases z
   ·cases h
 ·cases h
theorem nM(T:Txt K mg w.params):FnOk P w K mg base CX0 2 T.d_of_name.a T.d_of_name.d ["plain", "expression", "bound", "parts"] (spM K T.C 3 yX):=by
 refine x3 (zAA (k:=1) T.d_of_name.F nF 3 4 rfl rfl (g:=qP) (fun cdv A outer s H E hr=>?_)) rR
 unfold qP
 exact(by refine xO ?_;exact(pJ (gU (zDX (yB (zC 1 (pv 1)) zH) (zIE (zC 2 (pv 2))))) (by refine xO ?_;exact(vI (qL (pv 0) T.cl T.h_tell (fun _ _ _ _ _ _=>rfl) (gO T) (hr.mono (by omega)) T.m_tell.b (yR (xR (JO (un1 hr) (zIE (zC 2 (pv 2))) (yB (zC 1 (pv 1)) zH))) qS)))) (by refine xO ?_;exact(pJ (zH3 (dH (pv 0) T.cl T.h_step (fun _ _ _ _ _ _=>rfl) (YS T) (hr.mono (by omega)) T.m_step.b)) (by refine xO ?_;exact(vI (qL (pv 0) T.cl T.h_begin (fun _ _ _ _ _ _=>rfl) (uM T) (hr.mono (by omega)) T.m_begin.b (yR (YU (un1 hr) (pv 0) T.cl T.n_defs (yB (zC 1 (pv 1)) zH)) (yR (xR (zEF JG)) qS))))) tZ))))
theorem WM:FnScope ["plain", "expression", "bound", "parts"] ["plain", "expression", "bound", "parts"] (zP (top 23)):=⟨rfl,rfl,rfl,by decide +kernel,rfl,by decide +kernel,by decide +kernel⟩
noncomputable def bH:MEs:=(uDo (wT 1 wJ (z4 (xI (yW (zA (mC (.str [102,110])) (zA (zG ixD (zD 1) (mC (.int 1))) (zA (zG ixD (zD 1) (mC (.int 2))) (zA (zD 2) zQ)))))) wB)))
theorem zAQ(st:Mst)(ds:List D)(p:D×Mst)(hl:ds.length=3)(h:jS st ds=some p):mkU 3 4 bH st ds=some p:=by
 unfold jS at h
 split at h
 ·rename_i a x e c b ps
  show(bH st [.un,.v (.tup [a,x,e,c]),.v b,.v ps]).bind _=_
  have e1:yW (zA (mC (.str [102,110])) (zA (zG ixD (zD 1) (mC (.int 1))) (zA (zG ixD (zD 1) (mC (.int 2))) (zA (zD 2) zQ)))) [.un,.v (.tup [a,x,e,c]),.v b,.v ps]=some (.tup [.str [102,110],x,e,b]):=rfl
  have hb:=uA h
  unfold bH uDo wT
  simp only[z4,xI,wB,e1,Option.map_some,Option.bind_some,List.length_cons,List.length_nil,if_true]
  rw[h];subst hb;rfl
 ·cases h
theorem QK(T:Txt K mg w.params):FnOk P w K mg base CX0 2 T.d_of_fn.a T.d_of_fn.d ["plain", "expression", "bound", "parts"] (spM K T.C 3 jS):=by
 refine x3 (zAA (k:=1) T.d_of_fn.F WM 3 4 rfl rfl (g:=bH) (fun cdv A outer s H E hr=>?_)) zAQ
 unfold bH
 exact(by refine xO ?_;exact(vI (qL (pv 0) T.cl T.h_tell (fun _ _ _ _ _ _=>rfl) (gO T) (hr.mono (by omega)) T.m_tell.b (yR (xR (by refine z6 ?_;exact(by refine zB (zU (s:=[102,110]) (by rfl)) ?_ (hs:=zS);refine zB (yB (zC 1 (pv 1)) zH) ?_ (hs:=qQ);refine zB (yB (zC 1 (pv 1)) zH) ?_ (hs:=qQ);refine zB (zC 2 (pv 2)) ?_ (hs:=zR);exact zL))) qS))))
theorem WN:FnScope ["plain", "expression", "bound", "parts"] ["plain", "expression", "bound", "parts"] (zP (top 24)):=⟨rfl,rfl,rfl,by decide +kernel,rfl,by decide +kernel,by decide +kernel⟩
noncomputable def bI:MEs:=(uIf (cY (mBl (zG neA (yI 1 xM (zA (zG ixD (zD 3) (mC (.int 0))) zQ)) (mC (.str [102,110]))))) zAZ (uIf (vBl (cF qJ)) (uDo (wT 2 xF (z4 (xI (zG ixD (zG ixD (zD 3) (mC (.int 0))) (mC (.int 2)))) (z4 (xI (zAJ (t7 3 jK (zA (zG ixD (zG ixD (zD 3) (mC (.int 0))) (mC (.int 3))) (zA (zG ixD (zG ixD (zD 3) (mC (.int 0))) (mC (.int 1))) (zA (zG ixD (zD 3) (mC (.int 1))) zQ)))))) wB)))) oQ))
theorem oJ(ks:List Key)(l:List D)(x:List Nat)(v:D)(h:ks.length<sizeLine):∃as,jK [.v (.dct ks l),.v (.str x),.v v]=some (.g (qK ks l (.inr ⟨x.toArray⟩) v).1 (qK ks l (.inr ⟨x.toArray⟩) v).2,as):=by
 refine⟨[.v (.dct ks l),.v (.str x),.v v],?_⟩
 have e1:YF 3 (zD 1) (zD 2) [.v (.dct ks l),.v (.str x),.v v,.d ks l]=some (.nx [.v (.dct ks l),.v (.str x),.v v,.d (qK ks l (.inr ⟨x.toArray⟩) v).1 (qK ks l (.inr ⟨x.toArray⟩) v).2]):=if_pos h
 have e0:zBG 3 (rL (zD 0)) [.v (.dct ks l),.v (.str x),.v v,.un]=some (.nx [.v (.dct ks l),.v (.str x),.v v,.d ks l]):=rfl
 show(jH [.v (.dct ks l),.v (.str x),.v v,.un]).bind _=_
 unfold jH z8
 rw[e0,Option.bind_some]
 show(((YF 3 (zD 1) (zD 2) [.v (.dct ks l),.v (.str x),.v v,.d ks l]).bind _)).bind _=_
 rw[e1];rfl
theorem zAR(st:Mst)(ds:List D)(p:D×Mst)(hl:ds.length=3)(h:qD st ds=some p):mkU 3 4 bI st ds=some p:=by
 unfold qD at h
 split at h
 ·rename_i ex b w x e ks l v
  split at h
  case isFalse=>cases h
  rename_i hw
  obtain⟨rfl,hk⟩:=hw
  obtain⟨q,e1,h⟩:=bind_some h
  show(bI st [.un,.v ex,.v b,.v (.lst [.tup [.str [102,110],.str x,e,.dct ks l],v])]).bind _=_
  have e2:mBl (zG neA (yI 1 xM (zA (zG ixD (zD 3) (mC (.int 0))) zQ)) (mC (.str [102,110]))) [.un,.v ex,.v b,.v (.lst [.tup [.str [102,110],.str x,e,.dct ks l],v])]=some false:=rfl
  have e3:zG ixD (zG ixD (zD 3) (mC (.int 0))) (mC (.int 2)) [.un,.v ex,.v b,.v (.lst [.tup [.str [102,110],.str x,e,.dct ks l],v])]=some e:=rfl
  have e4:zAJ (t7 3 jK (zA (zG ixD (zG ixD (zD 3) (mC (.int 0))) (mC (.int 3))) (zA (zG ixD (zG ixD (zD 3) (mC (.int 0))) (mC (.int 1))) (zA (zG ixD (zD 3) (mC (.int 1))) zQ)))) [.un,.v ex,.v b,.v (.lst [.tup [.str [102,110],.str x,e,.dct ks l],v])]=some (.dct (qK ks l (.inr ⟨x.toArray⟩) v).1 (qK ks l (.inr ⟨x.toArray⟩) v).2):=by
   obtain⟨as,hb⟩:=oJ ks l x v hk
   have ea:zA (zG ixD (zG ixD (zD 3) (mC (.int 0))) (mC (.int 3))) (zA (zG ixD (zG ixD (zD 3) (mC (.int 0))) (mC (.int 1))) (zA (zG ixD (zD 3) (mC (.int 1))) zQ)) [.un,.v ex,.v b,.v (.lst [.tup [.str [102,110],.str x,e,.dct ks l],v])]=some [.dct ks l,.str x,v]:=rfl
   unfold zAJ t7
   rw[ea]
   show((jK [.v (.dct ks l),.v (.str x),.v v]).bind _).map _=_
   rw[hb];rfl
  unfold bI uIf
  simp only[cY,e2,Option.map_some,Option.bind_some,Bool.false_eq_true,if_false,vBl,cF,e1]
  rw[Z9] at e1
  by_cases hs:st.most<=st.steps
  ·rw[if_pos hs] at e1
   cases e1
   cases h
   rfl
  ·rw[if_neg hs] at e1
   cases e1
   dsimp only at h
   have hb:=cC h
   subst hb
   dsimp only[Option.bind_some]
   simp only[if_true,uDo,wT,z4,wB,e3,e4,Option.bind_some,Option.map_some,xI,List.length_cons,List.length_nil]
   rw[h];rfl
 ·cases h
theorem QL(T:Txt K mg w.params):FnOk P w K mg base CX0 2 T.d_of_do.a T.d_of_do.d ["plain", "expression", "bound", "parts"] (spM K T.C 3 qD):=by
 refine x3 (zAA (k:=1) T.d_of_do.F WN 3 4 rfl rfl (g:=bI) (fun cdv A outer s H E hr=>?_)) zAR
 unfold bI
 exact(by refine xO ?_;exact(pJ (gU (yU (zGH hr.units0) zGL (yG (x5 T) (hr.mono (by decide)) (by rfl) T.d_sort_of.m T.d_sort_of.F.kp T.d_sort_of.b (zB (yB (zC 3 (pv 3)) zH) zL (hs:=qQ))) (zU (s:=[102,110]) (by rfl)) (yO _))) pI (by refine xO ?_;exact(pJ (zH3 (dH (pv 0) T.cl T.h_step (fun _ _ _ _ _ _=>rfl) (YS T) (hr.mono (by omega)) T.m_step.b)) (by refine xO ?_;exact(vI (qL (pv 0) T.cl T.h_begin (fun _ _ _ _ _ _=>rfl) (uM T) (hr.mono (by omega)) T.m_begin.b (yR (xR (yB (yB (zC 3 (pv 3)) zH) zH)) (yR (xR (zEF (zDL (nO T) (hr.mono (by decide)) (by rfl) T.d_binding.m T.d_binding.F.kp T.d_binding.b (by refine zB (yB (yB (zC 3 (pv 3)) zH) zH) ?_ (hs:=qQ);refine zB (yB (yB (zC 3 (pv 3)) zH) zH) ?_ (hs:=qQ);refine zB (yB (zC 3 (pv 3)) zH) ?_ (hs:=qQ);exact zL)))) qS))))) tZ))))
theorem uF:FnScope ["plain", "expression", "bound", "parts"] ["plain", "expression", "bound", "parts"] (zP (top 35)):=⟨rfl,rfl,rfl,by decide +kernel,rfl,by decide +kernel,by decide +kernel⟩
noncomputable def wO:MEs:=(uIf (cY (wM (mBl (zG eqA (yI 1 xM (zA (zG ixD (zD 3) (mC (.int 0))) zQ)) (mC (.str [110,117,109])))) (mBl (zG eqA (yI 1 xM (zA (zG ixD (zD 3) (mC (.int 1))) zQ)) (mC (.str [110,117,109])))))) (uDo (wT 1 wJ (z4 (xI (yI 3 jV (zA (zG ixD (zD 1) (mC (.int 0))) (zA (zG ixD (zD 3) (mC (.int 0))) (zA (zG ixD (zD 3) (mC (.int 1))) zQ))))) wB))) zAZ)
theorem tW{i j:Int}(hi:x4 i):(-(2 ^ 64)<i/\i<2 ^ 64)\/(-(2 ^ 64)<j/\j<2 ^ 64):=by
 unfold x4 at hi;left;omega
theorem rO(w:List Nat)(i j:Int)(hi:x4 i)(hj:x4 j):∃as,jV [.v (.str w),.v (.int i),.v (.int j)]=some (.v (.int (wk w i j)),as):=by
 unfold jV mkF
 have e:∀k:List Nat,mBl (zG eqA (zD 0) (mC (.str k))) [.v (.str w),.v (.int i),.v (.int j)]=some (decide (w=k)):=fun k=>rfl
 have m6:∀a:Int,xX (.int a) (.int 1000000)=some (.int (a % 1000000)):=fun a=>rfl
 show ∃as,(vD [.v (.str w),.v (.int i),.v (.int j)]).bind _=_
 unfold vD wk
 by_cases h1:w=[43]
 ·refine⟨[.v (.str w),.v (.int i),.v (.int j)],?_⟩
  subst h1
  simp only[z8,sIf,e,decide_true,Option.bind_some,if_true]
  rfl
 ·by_cases h2:w=[45]
  ·refine⟨[.v (.str w),.v (.int i),.v (.int j)],?_⟩
   subst h2
   simp only[z8,sIf,e,decide_true,Option.bind_some,if_true]
   rfl
  ·by_cases h3:w=[42]
   ·refine⟨[.v (.str w),.v (.int i),.v (.int j)],?_⟩
    have hm:zG xX (zG vL (zD 1) (zD 2)) (mC (.int 1000000)) [.v (.str w),.v (.int i),.v (.int j)]=some (.int (i*j % 1000000)):=by
     show((if (-(2 ^ 64)<i/\i<2 ^ 64)\/(-(2 ^ 64)<j/\j<2 ^ 64) then some (D.int (i*j)) else none).bind _)=_
     rw[if_pos (tW hi)];rfl
    have d1:decide (w=[43])=false:=decide_eq_false h1
    have d2:decide (w=[45])=false:=decide_eq_false h2
    have d3:decide (w=[42])=true:=decide_eq_true h3
    rw[if_neg h1,if_neg h2,if_pos h3]
    simp only[z8,sIf,e,d1,d2,d3,Option.bind_some,if_true,if_false,Bool.false_eq_true,xY,jL,hm]
    rfl
   ·refine⟨[.v (.str w),.v (.int i),.v (.int j)],?_⟩
    have hm:mIf (mBl (zG ltA (zD 1) (zD 2))) (mC (.int 1)) (mC (.int 0)) [.v (.str w),.v (.int i),.v (.int j)]=some (.int (if i<j then 1 else 0)):=by
     show(some (decide (i<j))).bind _=_
     by_cases hq:i<j<;>simp[hq,mC]
    have d1:decide (w=[43])=false:=decide_eq_false h1
    have d2:decide (w=[45])=false:=decide_eq_false h2
    have d3:decide (w=[42])=false:=decide_eq_false h3
    rw[if_neg h1,if_neg h2,if_neg h3]
    simp only[z8,sIf,e,d1,d2,d3,Option.bind_some,if_false,Bool.false_eq_true,xY,jL,hm]
    rfl
theorem cE(st:Mst)(ds:List D)(p:D×Mst)(hl:ds.length=3)(h:yK st ds=some p):mkU 3 4 wO st ds=some p:=by
 unfold yK at h
 split at h
 ·rename_i w x y m b i j
  split at h
  case isFalse=>cases h
  rename_i hs
  obtain⟨as,hw⟩:=rO w i j hs.1 hs.2
  show(wO st [.un,.v (.tup [.str w,x,y,m]),.v b,.v (.lst [.int i,.int j])]).bind _=_
  have e1:wM (mBl (zG eqA (yI 1 xM (zA (zG ixD (zD 3) (mC (.int 0))) zQ)) (mC (.str [110,117,109])))) (mBl (zG eqA (yI 1 xM (zA (zG ixD (zD 3) (mC (.int 1))) zQ)) (mC (.str [110,117,109])))) [.un,.v (.tup [.str w,x,y,m]),.v b,.v (.lst [.int i,.int j])]=some true:=rfl
  have e2:yI 3 jV (zA (zG ixD (zD 1) (mC (.int 0))) (zA (zG ixD (zD 3) (mC (.int 0))) (zA (zG ixD (zD 3) (mC (.int 1))) zQ))) [.un,.v (.tup [.str w,x,y,m]),.v b,.v (.lst [.int i,.int j])]=some (.int (wk w i j)):=by
   show(jV [.v (.str w),.v (.int i),.v (.int j)]).map _=_
   rw[hw];rfl
  have hb:=uA h
  unfold wO uIf
  simp only[cY,e1,e2,Option.map_some,Option.bind_some,uDo,wT,z4,wB,xI,List.length_cons,List.length_nil,if_true]
  rw[h];subst hb;rfl
 ·cases h
theorem wU(T:Txt K mg w.params):FnOk P w K mg base CX0 2 T.d_of_working.a T.d_of_working.d ["plain", "expression", "bound", "parts"] (spM K T.C 3 yK):=by
 refine x3 (zAA (k:=1) T.d_of_working.F uF 3 4 rfl rfl (g:=wO) (fun cdv A outer s H E hr=>?_)) cE
 unfold wO
 exact(by refine xO ?_;exact(pJ (gU (zHC (hZ (yU (w8 hr.units0) qA (yG (x5 T) (hr.mono (by decide)) (by rfl) T.d_sort_of.m T.d_sort_of.F.kp T.d_sort_of.b (zB (yB (zC 3 (pv 3)) zH) zL (hs:=qQ))) (zU (s:=[110,117,109]) (by rfl)) (yO _)) (vX (yU (w8 hr.units0) qA (yG (x5 T) (hr.mono (by decide)) (by rfl) T.d_sort_of.m T.d_sort_of.F.kp T.d_sort_of.b (zB (yB (zC 3 (pv 3)) zH) zL (hs:=qQ))) (zU (s:=[110,117,109]) (by rfl)) (yO _)))))) (by refine xO ?_;exact(vI (qL (pv 0) T.cl T.h_tell (fun _ _ _ _ _ _=>rfl) (gO T) (hr.mono (by omega)) T.m_tell.b (yR (xR (yG (tQ T) (hr.mono (by decide)) (by rfl) T.d_worked.m T.d_worked.F.kp T.d_worked.b (by refine zB (yB (zC 1 (pv 1)) zH) ?_ (hs:=qQ);refine zB (yB (zC 3 (pv 3)) zH) ?_ (hs:=qQ);refine zB (yB (zC 3 (pv 3)) zH) ?_ (hs:=qQ);exact zL))) qS)))) pI))
theorem WP:FnScope ["self", "expression", "bound", "parts"] ["self", "expression", "bound", "parts"] (zP (bE 16 1)):=⟨rfl,rfl,rfl,by decide +kernel,rfl,by decide +kernel,by decide +kernel⟩
noncomputable def bJ:MEs:=(uDo (zES 3 ways (zG ixD (zD 1) (mC (.int 0))) (zAX (zA (zD 1) (zA (zD 2) (zA (zD 3) zQ))))))
theorem zAS(st:Mst)(ds:List D)(p:D×Mst)(hl:ds.length=3)(h:wX st ds=some p):mkU 3 4 bJ st ds=some p:=by
 unfold wX at h
 split at h
 ·rename_i w r b ps
  obtain⟨mm,e1,h⟩:=bind_some h
  have e2:zG ixD (zD 1) (mC (.int 0)) [.un,.v (.tup (.str w::r)),.v b,.v ps]=some (.str w):=by
   show atI (.str w::r) 0=_
   exact zLF
  have e3:zA (zD 1) (zA (zD 2) (zA (zD 3) zQ)) [.un,.v (.tup (.str w::r)),.v b,.v ps]=some [.tup (.str w::r),b,ps]:=rfl
  show(bJ st [.un,.v (.tup (.str w::r)),.v b,.v ps]).bind _=_
  unfold bJ uDo zES
  rw[e2,Option.bind_some]
  dsimp only
  rw[e1,Option.bind_some]
  simp only[zAX,e3,Option.map_some,Option.bind_some,List.length_cons,List.length_nil,if_true]
  obtain⟨q,h1,rfl⟩:=map_some h
  rw[h1];rfl
 ·cases h
theorem QM(T:Txt K mg w.params):FnOk P w K mg base CX0 3 T.m_go_on.a T.m_go_on.d ["self", "expression", "bound", "parts"] (spM K T.C 3 wX):=by
 refine x3 (zAA (k:=2) T.m_go_on.F WP 3 4 rfl rfl (g:=bJ) (fun cdv A outer s H E hr=>?_)) zAS
 unfold bJ
 exact(by refine xO ?_;exact(vI (zCR (k:=2) (n:=3) (ways:=ways) T.ways (by rfl) (yB (zC 1 (pv 1)) zH) (pv 0) (zCZ (zB (zC 1 (pv 1)) (zB (zC 2 (pv 2)) (zB (zC 3 (pv 3)) zL)))) (fun key mm e=>by
  unfold ways at e
  split at e
  ·rename_i hk;subst hk;cases e;exact⟨_,_,_,T.w_110_3,tT T,T.d_of_num.b,T.d_of_num.F.kp⟩
  split at e
  ·rename_i hk;subst hk;cases e;exact⟨_,_,_,T.w_110_4,nM T,T.d_of_name.b,T.d_of_name.F.kp⟩
  split at e
  ·rename_i hk;subst hk;cases e;exact⟨_,_,_,T.w_102_2,QK T,T.d_of_fn.b,T.d_of_fn.F.kp⟩
  split at e
  ·rename_i hk;subst hk;cases e;exact⟨_,_,_,T.w_100_2,QL T,T.d_of_do.b,T.d_of_do.F.kp⟩
  split at e
  ·rename_i hk
   cases e
   rcases hk with rfl|rfl|rfl|rfl
   ·exact⟨_,_,_,T.w_43_1,wU T,T.d_of_working.b,T.d_of_working.F.kp⟩
   ·exact⟨_,_,_,T.w_45_1,wU T,T.d_of_working.b,T.d_of_working.F.kp⟩
   ·exact⟨_,_,_,T.w_42_1,wU T,T.d_of_working.b,T.d_of_working.F.kp⟩
   ·exact⟨_,_,_,T.w_60_1,wU T,T.d_of_working.b,T.d_of_working.F.kp⟩
  ·cases e) hr)))
theorem sc_run_on:FnScope ["self", "task"] ["self"] (zP (bE 8 4)):=⟨rfl,rfl,rfl,by decide +kernel,rfl,by decide +kernel,by decide +kernel⟩
noncomputable def kX:MEs:=(v9 WF (zIU zAU (zFJ (WB fun st=>st.ended))) (rG (zIH 0 1 zAY) (uIf (cY (gZ (zG ixD (zD 1) (mC (.int 2))))) (uDo (wT 3 wX (z4 (xI (zG ixD (zD 1) (mC (.int 0)))) (z4 (xI (zG ixD (zD 1) (mC (.int 1)))) (z4 (wT 1 yJ (z4 (xI (zG ixD (zD 1) (mC (.int 0)))) wB)) wB))))) (uDo (wT 2 yA (z4 (xI (zG ixD (zD 1) (mC (.int 0)))) (z4 (xI (zG ixD (zD 1) (mC (.int 1)))) wB)))))))
noncomputable def zAC:MEs:=(rG (zIH 0 1 zAY) (uIf (cY (gZ (zG ixD (zD 1) (mC (.int 2))))) (uDo (wT 3 wX (z4 (xI (zG ixD (zD 1) (mC (.int 0)))) (z4 (xI (zG ixD (zD 1) (mC (.int 1)))) (z4 (wT 1 yJ (z4 (xI (zG ixD (zD 1) (mC (.int 0)))) wB)) wB))))) (uDo (wT 2 yA (z4 (xI (zG ixD (zD 1) (mC (.int 0)))) (z4 (xI (zG ixD (zD 1) (mC (.int 1)))) wB))))))
theorem JT{st s:Mst}{x:Sl}(hx:x=.un\/∃d,x=.v d)(h:d8 st=some s):∃d,zAC st [.un,x]=some (.nx s [.un,.v d]):=by
 unfold d8 at h
 have hset:∀d,yQ 1 d [.un,x]=some [.un,.v d]:=fun d=>by rcases hx with rfl|⟨d',rfl⟩<;>rfl
 have pop:∀d,st.wait.getLast?=some d->zIH 0 1 zAY st [.un,x]=some (.nx { st with wait:=st.wait.dropLast } [.un,.v d]):=fun d e=>by
  unfold zIH zAY
  rw[e]
  show(if 1=0 then none else (yQ 1 d [.un,x]).map fun r'=>MFl.nx { st with wait:=st.wait.dropLast } r')=_
  rw[if_neg (by decide),hset];rfl
 split at h
 ·rename_i e b hl
  refine⟨.tup [e,b,.bl true],?_⟩
  obtain⟨p,h1,h⟩:=bind_some h
  obtain⟨q,h2,rfl⟩:=map_some h
  have e0:zG ixD (zD 1) (mC (.int 0)) [.un,.v (.tup [e,b,.bl true])]=some e:=rfl
  have e1:zG ixD (zD 1) (mC (.int 1)) [.un,.v (.tup [e,b,.bl true])]=some b:=rfl
  have e2:gZ (zG ixD (zD 1) (mC (.int 2))) [.un,.v (.tup [e,b,.bl true])]=some true:=rfl
  unfold zAC rG
  rw[pop _ hl,Option.bind_some]
  dsimp only
  unfold uIf
  simp only[cY,e2,Option.map_some,Option.bind_some,if_true]
  unfold uDo wT
  simp only[z4,wB,xI,e0,e1,Option.map_some,Option.bind_some,List.length_cons,List.length_nil,if_true]
  rw[h1]
  simp only[Option.map_some,Option.bind_some,List.length_cons,List.length_nil,if_true]
  rw[h2];rfl
 ·rename_i e b hl
  refine⟨.tup [e,b,.bl false],?_⟩
  obtain⟨q,h2,rfl⟩:=map_some h
  have e0:zG ixD (zD 1) (mC (.int 0)) [.un,.v (.tup [e,b,.bl false])]=some e:=rfl
  have e1:zG ixD (zD 1) (mC (.int 1)) [.un,.v (.tup [e,b,.bl false])]=some b:=rfl
  have e2:gZ (zG ixD (zD 1) (mC (.int 2))) [.un,.v (.tup [e,b,.bl false])]=some false:=rfl
  unfold zAC rG
  rw[pop _ hl,Option.bind_some]
  dsimp only
  unfold uIf
  simp only[cY,e2,Option.map_some,Option.bind_some,if_false,Bool.false_eq_true]
  unfold uDo wT
  simp only[z4,wB,xI,e0,e1,Option.map_some,Option.bind_some,List.length_cons,List.length_nil,if_true]
  rw[h2];rfl
 ·cases h
theorem rQ:∀(n:Nat) (st s:Mst) (x:Sl),(x=.un\/∃d,x=.v d)->bQ n st=some s->∃x',v9 n (zIU zAU (zFJ (WB fun st=>st.ended))) zAC st [.un,x]=some (.nx s [.un,x']):=by
 intro n
 induction n with
 |zero=>intro st s x _ h;cases h
 |succ n ih=>
  intro st s x hx h
  have h:(if st.wait.isEmpty=false/\nonB st.ended=true then (d8 st).bind (bQ n) else some st)=some s:=h
  have ht:zIU zAU (zFJ (WB fun st=>st.ended)) st [.un,x]=some (!st.wait.isEmpty && nonB st.ended,st):=by
   show(if (!st.wait.isEmpty)=true then some (nonB st.ended,st) else some (false,st))=_
   cases st.wait.isEmpty<;>simp
  unfold v9
  rw[ht,Option.bind_some]
  by_cases hc:st.wait.isEmpty=false/\nonB st.ended=true
  ·rw[if_pos hc] at h
   obtain⟨st1,h1,h2⟩:=bind_some h
   obtain⟨d,hb⟩:=JT hx h1
   obtain⟨x',hx'⟩:=ih st1 s (.v d) (.inr ⟨d,rfl⟩) h2
   refine⟨x',?_⟩
   rw[if_pos (by simp[hc.1,hc.2]),hb,Option.bind_some]
   exact hx'
  ·rw[if_neg hc] at h
   cases h
   refine⟨x,?_⟩
   rw[if_neg (by simpa using hc)]
theorem X7(st:Mst)(ds:List D)(p:D×Mst)(hl:ds.length=0)(h:qN st ds=some p):mkU 0 2 kX st ds=some p:=by
 match ds,hl with
 |[],_=>
  obtain⟨s,h1,rfl⟩:=map_some (show(bQ WF st).map (fun s=>(D.non,s))=some p from h)
  obtain⟨x',hx'⟩:=rQ WF st s .un (.inl rfl) h1
  show(kX st [.un,.un]).bind _=_
  have e:kX=v9 WF (zIU zAU (zFJ (WB fun st=>st.ended))) zAC:=rfl
  rw[e,hx'];rfl
theorem tR(T:Txt K mg w.params):FnOk P w K mg base CX0 4 T.m_run_on.a T.m_run_on.d ["self"] (spM K T.C 0 qN):=by
 refine x3 (zAA (k:=3) T.m_run_on.F sc_run_on 0 2 rfl rfl (g:=kX) (fun cdv A outer s H E hr=>?_)) X7
 unfold kX
 exact(by refine xO ?_;exact(QY WF PassesOwn.never (zGP (zCJ (pv 0) T.cl T.n_waiting) (zCL (uQ (pv 0) T.cl T.n_ended u0))) (by refine jP ?_ ?_;exact(zGQ 1 (zCU (pv 0) T.cl T.n_waiting) sc_run_on.nd);exact(by refine xO ?_;exact(pJ (gU (mD (yB (zC 1 (pv 1)) zH))) (by refine xO ?_;exact(vI (qL (pv 0) T.cl T.h_go_on (fun _ _ _ _ _ _=>rfl) (QM T) (hr.mono (by omega)) T.m_go_on.b (yR (xR (yB (zC 1 (pv 1)) zH)) (yR (xR (yB (zC 1 (pv 1)) zH)) (yR (qL (pv 0) T.cl T.h_parts_come (fun _ _ _ _ _ _=>rfl) (uL T) (hr.mono (by omega)) T.m_parts_come.b (yR (xR (yB (zC 1 (pv 1)) zH)) qS)) qS)))))) (by refine xO ?_;exact(vI (qL (pv 0) T.cl T.h_begin_parts (fun _ _ _ _ _ _=>rfl) (vJ T) (hr.mono (by omega)) T.m_begin_parts.b (yR (xR (yB (zC 1 (pv 1)) zH)) (yR (xR (yB (zC 1 (pv 1)) zH)) qS))))))))))
theorem WK:FnScope ["self", "most"] ["self", "most"] (zP (bE 8 0)):=⟨rfl,rfl,rfl,by decide +kernel,rfl,by decide +kernel,by decide +kernel⟩
theorem QI(T:Txt K mg w.params):FnOk P w K mg base CX0 1 T.m_rinit.a T.m_rinit.d ["self", "most"] (zKH K T.C):=by
 refine Fun.ok (k:=0) T.m_rinit.F WK (fun vs H Q E h=>?_) (fun cdv A outer s H vs Q E hr h=>⟨_,qM (cK (pv 0) (pv 1) rfl) (qM (cK (pv 0) nJ rfl) (qM (cK (pv 0) (QA xH) rfl) (qM (cK (pv 0) (QA xH) rfl) (gI (cK (pv 0) zB4 rfl))))),WV rfl T.cl T.n_most T.n_steps T.n_waiting T.n_come T.n_ended h⟩)
 obtain⟨x,dx,m,rfl,_⟩:=h;rfl
theorem WL:FnScope ["self", "program", "most"] ["self", "program", "most"] (zP (bE 16 0)):=⟨rfl,rfl,rfl,by decide +kernel,rfl,by decide +kernel,by decide +kernel⟩
theorem QJ(T:Txt K mg w.params):FnOk P w K mg base CX0 44 T.m_pinit.a T.m_pinit.d ["self", "program", "most"] (zKI K T.C dd):=by
 refine Fun.ok (k:=43) T.m_pinit.F WL (fun vs H Q E h=>?_) (fun cdv A outer s H vs Q E hr h=>⟨_,qM (pD (QD (dvs:=[]) (E:=E0) T.cm (QI T) (hr.mono (by omega)) (by rfl) T.mB T.m_rinit.b .nil cZ (yD (pv 0) (yD (pv 2) xH)))) (gI (cK (tv:=lE K ddE) (pv 0) (show DE _ _ ddE by unfold ddE;exact(zEF (JF rfl (by rfl) T.z_dict (by refine zJ4 ?_;exact(XO (N':=["name", "E"]) (cap:=[]) rfl u7 (vN (zC 1 (pv 1))) (fun _ _ _ _=>(vP rfl (yV (yM 0 (show(["name", "E"]:List Str).Nodup by decide +kernel)) (yV (yM 1 (show(["name", "E"]:List Str).Nodup by decide +kernel)) jC)))) (fun _ _ _ _=>by exact(by refine z6 ?_;exact(by refine zB ?_ ?_;exact(zC 0 (pv 0));refine zB ?_ ?_;exact(yG (gP RF T) (hr.mono (by decide)) (by rfl) T.d_marked.m T.d_marked.F.kp T.d_marked.b (by refine zB ?_ ?_;exact(zC 1 (pv 1));refine zB ?_ ?_;exact(zC 0 (pv 0));refine zB ?_ ?_;exact zH;exact zL));exact zL))) 2))))) rfl)),W5 rfl T.cl T.n_defs (fun pd d e m=>e) h⟩)
 obtain⟨O,x,dx,pd,pv,m,d,rfl,_⟩:=h;rfl
theorem sc_run:FnScope ["program", "most", "plain"] ["program", "most"] (zP (top 14)):=⟨rfl,rfl,rfl,by decide +kernel,rfl,by decide +kernel,by decide +kernel⟩
noncomputable def JX:MEs:=(rG (uDo (wT 2 xF (z4 (rT (mC (.str [109,97,105,110]))) (z4 (xI (zAJ mD0)) wB)))) (rG (uDo (cF qN)) (rG (uIf (zFJ (WB fun st=>st.ended)) (zAG (zIV (z4 (xI (mC (.str [118,97,108,117,101]))) (z4 (WB fun st=>.int st.steps) (z4 (zA0 1 Z3 (z4 zHJ wB)) wB))))) oQ) (zAG (zIV (z4 (uIx (WB fun st=>st.ended) (mC (.int 0))) (z4 (WB fun st=>.int st.steps) (z4 (uIx (WB fun st=>st.ended) (mC (.int 1))) wB))))))))
noncomputable def J7:MS:=zI4 2 (zD 0) (zD 1) dd JX
theorem QQ{l:List D}:nonB (.tup l)=false:=rfl
theorem zIR(as:List Sl)(p:Rs×List Sl)(hl:as.length=2)(h:dC as=some p):mkF 2 3 J7 as=some p:=by
 unfold dC at h
 split at h
 ·rename_i pd m
  obtain⟨d,e1,h⟩:=bind_some h
  obtain⟨x,e2,rfl⟩:=map_some h
  unfold zKM at e2
  split at e2
  case h_2=>cases e2
  rename_i ks l
  obtain⟨e,e3,h⟩:=bind_some e2
  obtain⟨s,e4,e5⟩:=bind_some h
  show(J7 [.v pd,.v (.int m),.un]).bind _=_
  obtain⟨s',key⟩:∃s',JX ⟨m,0,[],[],.non,.dct ks l⟩ [.v pd,.v (.int m),.un]=some (.rt x s' [.v pd,.v (.int m),.un]):=by
   have b1:uDo (wT 2 xF (z4 (rT (mC (.str [109,97,105,110]))) (z4 (xI (zAJ mD0)) wB))) ⟨m,0,[],[],.non,.dct ks l⟩ [.v pd,.v (.int m),.un]=some (.nx ⟨m,0,[.tup [e,.dct [] [],.bl false]],[],.non,.dct ks l⟩ [.v pd,.v (.int m),.un]):=by
    have d1:rT (mC (.str [109,97,105,110])) ⟨m,0,[],[],.non,.dct ks l⟩ [.v pd,.v (.int m),.un]=some (e,⟨m,0,[],[],.non,.dct ks l⟩):=by
     show(yS ks l (.inr ⟨([109,97,105,110]:List Nat).toArray⟩)).map _=_
     rw[e3];rfl
    unfold uDo wT
    simp only[z4,wB,d1,xI,zAJ,mD0,Option.map_some,Option.bind_some,List.length_cons,List.length_nil,if_true]
    rfl
   have b2:uDo (cF qN) ⟨m,0,[.tup [e,.dct [] [],.bl false]],[],.non,.dct ks l⟩ [.v pd,.v (.int m),.un]=some (.nx s [.v pd,.v (.int m),.un]):=by
    unfold uDo cF
    show((bQ WF _).map _).map _=_
    rw[e4];rfl
   unfold JX rG
   rw[b1,Option.bind_some]
   dsimp only
   rw[b2,Option.bind_some]
   dsimp only
   unfold zIO at e5
   split at e5
   ·rename_i he
    obtain⟨v,f1,e5⟩:=bind_some e5
    obtain⟨⟨q,as'⟩,f2,e5⟩:=bind_some e5
    cases q<;>first|(cases e5;done)|skip
    cases e5
    unfold uIf
    simp only[zFJ,WB,he,nonB,Option.map_some,Option.bind_some,if_true]
    unfold zAG
    simp only[zIV,z4,wB,xI,mC,WB,zA0,zHJ,f1,Option.map_some,Option.bind_some,List.length_cons,List.length_nil,List.map_cons,List.map_nil,f2,if_true]
    rw[if_pos sz3]
    exact⟨_,rfl⟩
   ·rename_i a b he
    cases e5
    unfold uIf
    simp only[zFJ,WB,he,QQ,Option.map_some,Option.bind_some,Bool.false_eq_true,if_false,oQ]
    unfold zAG
    have i0:ixD (.tup [a,b]) (.int 0)=some a:=rfl
    have i1:ixD (.tup [a,b]) (.int 1)=some b:=rfl
    simp only[zIV,z4,wB,uIx,mC,WB,he,i0,i1,Option.map_some,Option.bind_some,List.length_cons,List.length_nil]
    rw[if_pos sz3]
    exact⟨_,rfl⟩
   ·cases e5
  unfold J7 zI4
  rw[if_pos ⟨rfl,rfl⟩]
  have v0:zD 0 [.v pd,.v (.int m),.un]=some pd:=rfl
  have v1:zD 1 [.v pd,.v (.int m),.un]=some (.int m):=rfl
  simp only[v0,v1,Option.bind_some,e1,key]
  rfl
 ·cases h
theorem QH(T:Txt K mg w.params):Ok P w base T.d_run 46 2 dC:=by
 refine WH (mY (k:=45) T.d_run.F sc_run 2 3 rfl rfl (g:=J7) (fun cdv A outer s H E hr=>?_)) zIR
 unfold J7
 exact(zHD 2 T.mkC (QJ T) (hr.mono (by omega)) (by rfl) T.mC T.m_pinit.b (zC 0 (pv 0)) (zC 1 (pv 1)) (show zAF _ _ 2 _ JX by unfold JX;exact(by refine jP ?_ ?_;exact(vI (qL (pv 2) T.cl T.h_begin (fun _ _ _ _ _ _=>rfl) (uM T) (hr.mono (by omega)) T.m_begin.b (yR (YU (un1 hr) (pv 2) T.cl T.n_defs zU) (yR (xR (zEF JG)) qS))));exact(by refine jP ?_ ?_;exact(vI (dH (pv 2) T.cl T.h_run_on (fun _ _ _ _ _ _=>rfl) (tR T) (hr.mono (by omega)) T.m_run_on.b));exact(by refine jP ?_ ?_;exact(pJ (zCL (uQ (pv 2) T.cl T.n_ended u0)) (by refine xO ?_;exact(nS (zCS (yR (xR zU) (yR (uQ (pv 2) T.cl T.n_steps dJ) (yR (QZ (zCC T) (hr.mono (by omega)) (by rfl) T.d_told.m T.d_told.F.kp T.d_told.b (yR (zCV (pv 2) T.cl T.n_come) qS)) qS)))))) tZ);exact(by refine xO ?_;exact(nS (zCS (yR (zH4 (uQ (pv 2) T.cl T.n_ended u0) zH) (yR (uQ (pv 2) T.cl T.n_steps dJ) (yR (zH4 (uQ (pv 2) T.cl T.n_ended u0) zH) qS)))))))))) sc_run.nd)
theorem sc_law:FnScope ["_law_script", "_law_first", "_law_names_here", "_law_cells", "_law_many", "_law_program", "_law_handed_on", "_law_steps", "_law_worth", "_law_k", "_law_told", "_law_name", "_law_kept", "_law_found"] ["_law_script"] (zP (top 49)):=⟨rfl,rfl,rfl,by decide +kernel,rfl,by decide +kernel,by decide +kernel⟩
theorem zGK(T:Txt K mg w.params):Ok P w base T.d_law 47 1 rD:=by
 refine mY T.d_law.F sc_law 1 14 rfl rfl (g:=J8) (fun cdv A outer s H E hr=>?_)
 unfold J8
 exact(by refine zJ ?_ ?_;exact(z5 1 (yG (wA T) (hr.mono (by decide)) (by rfl) T.d__law_mixed.m T.d__law_mixed.F.kp T.d__law_mixed.b (by refine zB (yG (cN T) (hr.mono (by decide)) (by rfl) T.d__law_cell.m T.d__law_cell.F.kp T.d__law_cell.b (by refine zB (zC 0 (pv 0)) ?_ (hs:=zR);refine zB zH ?_ (hs:=zS);exact zL)) ?_ (hs:=zBA);refine zB zH ?_ (hs:=zS);exact zL)) sc_law.nd);exact(by refine zJ ?_ ?_;exact(z5 2 (yG (uN T) (hr.mono (by decide)) (by rfl) T.d__law_names.m T.d__law_names.F.kp T.d__law_names.b (zB (zC 1 (pv 1)) zL (hs:=zR))) sc_law.nd);exact(by refine zJ ?_ ?_;exact(z5 3 (zE9 (zC 0 (pv 0)) (b8 zH) (b8 zH)) sc_law.nd);exact(by refine zJ ?_ ?_;exact(z5 4 (zO yE yF zH (zO wF wG (zHH (by rfl) (by rfl) T.z_max (by refine zB zH ?_ (hs:=zS);refine zB (zO nL nP (u4 (by rfl) T.z_len (zC 3 (pv 3))) zH) ?_ (hs:=jM);exact zL)) zH)) sc_law.nd);exact(by refine zJ ?_ ?_;exact(kS 5 (by refine wD ?_;exact zL) sc_law.nd);exact(by refine zJ ?_ ?_;exact(z5 6 ZO sc_law.nd);exact(by refine zJ ?_ ?_;exact(z5 7 zH sc_law.nd);exact(by refine zJ ?_ ?_;exact(z5 8 (by refine z6 ?_;exact(by refine zB (zU (s:=[110,117,109,98,101,114]) (by rfl)) ?_ (hs:=zS);refine zB zH ?_ (hs:=zS);exact zL)) sc_law.nd);exact(by refine zJ ?_ ?_;exact(cV PassesOwn.never rfl (XN (by rfl) T.z_range (zC 4 (pv 4))) (yM 9 sc_law.nd) (by refine zJ ?_ ?_;exact(oF (yG (vK T) (hr.mono (by decide)) (by rfl) T.d__law_layers.m T.d__law_layers.F.kp T.d__law_layers.b (by refine zB (zE9 (zC 3 (pv 3)) (b8 (zO j5 j8 zH (zC 9 (pv 9)))) (b8 (zO yE yF (zO j5 j8 zH (zC 9 (pv 9))) zH))) ?_ (hs:=qQ);refine zB (zO yE yF (zO j5 j8 zH (zC 9 (pv 9))) (zO yY yZ (zC 1 (pv 1)) zH)) ?_ (hs:=jM);refine zB (zC 2 (pv 2)) ?_ (hs:=zR);refine zB (zC 6 (pv 6)) ?_ (hs:=zR);exact zL)) (vP rfl (yV (yM 10 sc_law.nd) (yV (yM 8 sc_law.nd) (yV (yM 7 sc_law.nd) jC)))));exact(by refine zJ ?_ ?_;exact(z5 11 (zU (s:=[109,97,105,110]) (by rfl)) sc_law.nd);exact(by refine zJ ?_ ?_;exact(qU (yU tP tV (zC 9 (pv 9)) (zO nL nP (zC 4 (pv 4)) zH) (yO _)) (by refine zW ?_;exact(z5 11 (zO yE yF (zU (s:=[119]) (by rfl)) (yB (zU (s:=[97,98,99,100,101,102,103,104,105,106,107,108,109,110]) (by rfl)) (zC 9 (pv 9)))) sc_law.nd)) wK);exact(by refine zJ ?_ ?_;exact(zDY (jI 5 (pv 5) (by refine z6 ?_;exact(by refine zB (zC 11 (pv 11)) ?_ (hs:=zR);refine zB (zC 10 (pv 10)) ?_ (hs:=zR);exact zL))));exact(by refine zW ?_;exact(z5 6 (by refine z6 ?_;exact(by refine zB (by refine z6 ?_;exact(by refine zB (zU (s:=[110,97,109,101]) (by rfl)) ?_ (hs:=zS);refine zB (zC 11 (pv 11)) ?_ (hs:=zR);exact zL)) ?_ (hs:=wE);refine zB (zC 8 (pv 8)) ?_ (hs:=zR);refine zB (zO yE yF (zC 7 (pv 7)) zH) ?_ (hs:=jM);exact zL)) sc_law.nd)))))));exact(by refine zJ ?_ ?_;exact(z5 12 (XV hr rfl T.z_repr (u5 5 (pv 5))) sc_law.nd);exact(by refine zJ ?_ ?_;exact(z5 13 (dO (QH T) (hr.mono (by decide)) (by rfl) T.d_run.m T.d_run.F.kp T.d_run.b (pv 5) (zB zH zL (hs:=zS))) sc_law.nd);exact(by refine zJ ?_ ?_;exact(qU (zHC (zIA (yU (cL (n:=400) (dZ hr (by decide))) cO (zC 13 (pv 13)) (by refine z6 ?_;exact(by refine zB (zU (s:=[118,97,108,117,101]) (by rfl)) ?_ (hs:=zS);refine zB (zC 7 (pv 7)) ?_ (hs:=zR);refine zB (yB (zC 8 (pv 8)) zH) ?_ (hs:=qQ);exact zL)) (yO _)) (zIA (zDW (mD (yG (jO T) (hr.mono (by decide)) (by rfl) T.d__law_whole.m T.d__law_whole.F.kp T.d__law_whole.b (zB (yB (zC 13 (pv 13)) zH) zL (hs:=qQ))))) (zHB (zDW (mD (yG (jO T) (hr.mono (by decide)) (by rfl) T.d__law_whole.m T.d__law_whole.F.kp T.d__law_whole.b (zB (yB (zC 13 (pv 13)) zH) zL (hs:=qQ))))))))) (by refine zW ?_;exact(by refine xC ?_;exact ZQ)) wK);exact(by refine zJ ?_ ?_;exact(qU (zHC (hZ (yU zE0 zE1 (zC 7 (pv 7)) zH (yO _)) (vX (yU (cL (n:=400) (dZ hr (by decide))) cO (dO (QH T) (hr.mono (by decide)) (by rfl) T.d_run.m T.d_run.F.kp T.d_run.b (pv 5) (zB (zO nL nP (zC 7 (pv 7)) zH) zL (hs:=jM))) (by refine z6 ?_;exact(by refine zB (zU (s:=[116,105,114,101,100]) (by rfl)) ?_ (hs:=zS);refine zB (zO nL nP (zC 7 (pv 7)) zH) ?_ (hs:=jM);refine zB ZO ?_ (hs:=zS);exact zL)) (yO _))))) (by refine zW ?_;exact(by refine xC ?_;exact ZQ)) wK);exact(by refine zW ?_;exact(by refine xC ?_;exact(zEG (JN (QG (n:=400) (dZ hr (by decide))) QO (dO (QH T) (hr.mono (by decide)) (by rfl) T.d_run.m T.d_run.F.kp T.d_run.b (pv 5) (zB (zC 7 (pv 7)) zL (hs:=zR))) (zC 13 (pv 13)) (yO _)) (zD9 (JN (w8 hr.units0) qA (XV hr rfl T.z_repr (u5 5 (pv 5))) (zC 12 (pv 12)) (yO _)))))))))))))))))))
end
theorem vB(c k:Int):∃n:Int,0<=n/\∃as,yC [.v (.int c),.v (.int k)]=some (.v (.int n),as):=by
 let n1:Int:=(c % 2147483647+16807*k+7) % 2147483629
 let n2:Int:=n1*n1 % 2147483587
 have h1:0<=n1/\n1<2147483629:=⟨Int.emod_nonneg _ (by decide),Int.emod_lt_of_pos _ (by decide)⟩
 have h2:0<=n2/\n2<2147483587:=⟨Int.emod_nonneg _ (by decide),Int.emod_lt_of_pos _ (by decide)⟩
 refine⟨n2*(n2+48271) % 2147483579 / 5,?_,?_⟩
 ·exact Int.ediv_nonneg (Int.emod_nonneg _ (by decide)) (by decide)
 ·refine kN (r':=[.v (.int c),.v (.int k),.v (.int n2)]) ?_
  show wQ [.v (.int c),.v (.int k),.un]=_
  unfold wQ
  rw[yH (wL (d:=.int n1) (r2:=[.v (.int c),.v (.int k),.v (.int n1)]) (xP (xQ (xQ (xP rfl zI (by decide)) (cP zI rfl (by decide))) zI) zI (by decide)) (by rfl))]
  rw[yH (wL (d:=.int n2) (r2:=[.v (.int c),.v (.int k),.v (.int n2)]) (xP (cP rfl rfl (by lia)) zI (by decide)) (by rfl))]
  exact j4 (wH (xP (cP rfl (xQ rfl zI) (by lia)) zI (by decide)) zI (by decide))
theorem zEH(ns:List Int)(k:Nat):∃c:Int,∃as,jX [.v (.lst (ns.map .int)),.v (.int (k:Int))]=some (.v (.int c),as):=by
 let R:En:=[.v (.lst (ns.map .int)),.v (.int (k:Int))]
 have t:mBl (zG ltA (zD 1) (mUn bV (zD 0))) R=some (decide ((k:Int)<(ns.length:Int))):=kW (zV (x:=.int (k:Int)) (y:=.int (ns.length:Int)) rfl (bG (x:=.lst (ns.map .int)) rfl (by show some (D.int ((ns.map D.int).length:Int))=_;rw[List.length_map])) rfl)
 by_cases h:k<ns.length
 ·rw[decide_eq_true (by lia)] at t
  refine⟨ns[k],kN (r':=R) ?_⟩
  show qC R=_
  unfold qC
  refine WJ t (j4 (zV (x:=.lst (ns.map .int)) (y:=.int (k:Int)) rfl rfl (xG ?_)))
  rw[List.getElem?_map,List.getElem?_eq_getElem h];rfl
 ·rw[decide_eq_false (by lia)] at t
  exact⟨0,kN (r':=R) (j0 t (j4 zI))⟩
theorem X1{x:ME}{j:Nat}{mk:Sl->En}{p:Nat->Prop}(hj:∀s d,fre s->yQ j d (mk s)=some (mk (.v d))):∀(L:List D) (s:Sl),fre s->(∀a∈L,∃c,p c/\x (mk (.v a))=some (.str [c]))->∃cs:List Nat,cs.length=L.length/\(∀c∈cs,p c)/\jD (yQ j) YW x L (mk s)=some (cs.map fun c=>D.str [c])
 |[],s,hs,h=>⟨[],rfl,(fun _ h=>by cases h),rfl⟩
 |a::L,s,hs,h=>by
  obtain⟨c,hc,e⟩:=h a (by simp)
  obtain⟨cs,h1,h2,h3⟩:=X1 hj L (.v a) trivial fun b hb=>h b (by simp[hb])
  refine⟨c::cs,by simp[h1],fun d hd=>?_,?_⟩
  ·rcases List.mem_cons.mp hd with rfl|hd
   ·exact hc
   ·exact h2 d hd
  ·unfold jD
   rw[hj s a hs,Option.bind_some,show YW (mk (.v a))=some true from rfl,Option.bind_some,if_pos rfl,e,Option.bind_some,h3];rfl
theorem oT:∀cs:List Nat,rY (cs.map fun c=>D.str [c])=some (cs.map fun c=>[c])
 |[]=>rfl
 |c::cs=>by simp[rY,oT cs]
theorem pQ:∀cs:List Nat,Y7 [] (cs.map fun c=>[c])=cs
 |[]=>rfl
 |[c]=>rfl
 |c::d::cs=>by
  have ih:=pQ (d::cs)
  rw[List.map_cons,List.map_cons] at *
  unfold Y7
  rw[ih];rfl
theorem zJ6{l:List Nat}(hl:l.length<=100){i:Int}(h0:0<=i)(h:i<l.length):∃c,c∈l/\ixD (.str l) (.int i)=some (.str [c]):=by
 obtain⟨j,rfl⟩:=Int.eq_ofNat_of_zero_le h0
 have hj:j<l.length:=by lia
 refine⟨l[j],List.getElem_mem hj,?_⟩
 show(if l.length<=sizeLine then (atI l (j:Int)).map fun c=>D.str [c] else none)=_
 rw[if_pos (Nat.le_trans hl (by decide)),xG (List.getElem?_eq_getElem hj)];rfl
theorem WI{s:List Nat}{lo hi:Option Int}(h:s.length<=100):slD (.str s) lo hi=some (.str (oH s lo hi)):=if_pos (Nat.le_trans h (by decide))
theorem JQ{α:Type}(a b:List α){k:Int}(hk:k=-(b.length:Int))(h0:0<b.length):oH (a++b) (some k) none=b/\oH (a++b) none (some k)=a:=by
 subst hk
 have e:∀d,HT.sIx (a++b).length d (some (-(b.length:Int)))=a.length:=fun d=>by
  show(if -(b.length:Int)<0 then (-(b.length:Int)+((a++b).length:Int)).toNat else _)=_
  rw[if_pos (by lia),List.length_append]
  lia
 constructor
 ·unfold oH
  rw[e,HT.sIx_none,List.drop_left,List.length_append,Nat.add_sub_cancel_left,List.take_length]
 ·unfold oH
  rw[e,HT.sIx_none,List.drop_zero,Nat.sub_zero,List.take_left]
inductive Ex where
 |num (n:Int)
 |two (w:List Nat) (a b:Ex)
 |nm (s:List Nat)
 |fn (x:List Nat) (e:Ex)
 |doo (f a:Ex)
noncomputable def toD:Ex->D
 |.num n=>.tup [.str [110,117,109],.int n]
 |.two w a b=>.tup [.str w,toD a,toD b]
 |.nm s=>.tup [.str [110,97,109,101],.str s]
 |.fn x e=>.tup [.str [102,110],.str x,toD e]
 |.doo f a=>.tup [.str [100,111],toD f,toD a]
noncomputable def wd(w:List Nat):Prop:=w=[43]\/w=[45]\/w=[42]\/w=[60]
noncomputable def dp:Ex->Nat
 |.num _=>0
 |.two _ a b=>max (dp a) (dp b)+1
 |.nm _=>0
 |.fn _ e=>dp e+1
 |.doo f a=>max (dp f) (dp a)+1
noncomputable def nd:Ex->Nat
 |.num _=>1
 |.two _ a b=>1+nd a+nd b
 |.nm _=>1
 |.fn _ e=>1+nd e
 |.doo f a=>1+nd f+nd a
inductive Pt where
 |pl (d:D)
 |ex (e:Ex)
noncomputable def ptD:Pt->D
 |.pl d=>d
 |.ex e=>toD e
noncomputable def ptE:Pt->Option Ex
 |.pl _=>none
 |.ex e=>some e
noncomputable def pts:Ex->List Pt
 |.num n=>[.pl (.str [110,117,109]),.pl (.int n)]
 |.two w a b=>[.pl (.str w),.ex a,.ex b]
 |.nm s=>[.pl (.str [110,97,109,101]),.pl (.str s)]
 |.fn x e=>[.pl (.str [102,110]),.pl (.str x),.ex e]
 |.doo f a=>[.pl (.str [100,111]),.ex f,.ex a]
noncomputable def plain(d:D):Prop:=vW "tuple" d=some (.bl false)
noncomputable def PtOk(l:List Pt):Prop:=∀d,Pt.pl d∈l->plain d
theorem oS(e:Ex):toD e=.tup ((pts e).map ptD):=by cases e<;>rfl
theorem zBQ(e:Ex):PtOk (pts e):=by
 intro d h
 cases e<;>simp[pts] at h
 ·rcases h with rfl|rfl<;>rfl
 ·subst h;rfl
 ·rcases h with rfl|rfl<;>rfl
 ·rcases h with rfl|rfl<;>rfl
 ·subst h;rfl
theorem XA(e:Ex):vW "tuple" (toD e)=some (.bl true):=by rw[oS];rfl
noncomputable def ch(e:Ex):List Ex:=(pts e).filterMap ptE
theorem PtOk.tail{p:Pt}{l:List Pt}(h:PtOk (p::l)):PtOk l:=fun d hd=>h d (List.mem_cons_of_mem _ hd)
theorem vC:∀(l:List Pt) (s:Sl),fre s->PtOk l->jD (yQ 0) (gZ (mUn (vW "tuple") (zD 0))) (zD 0) (l.map ptD) [s]=some ((l.filterMap ptE).map toD)
 |[],s,hs,h=>rfl
 |.pl d::l,s,hs,h=>by
  have ih:=vC l (.v d) trivial h.tail
  have e1:yQ 0 d [s]=some [.v d]:=zY (r:=[s]) rfl hs
  have e2:gZ (mUn (vW "tuple") (zD 0)) [.v d]=some false:=by
   unfold gZ
   rw[bG (f:=zD 0) (r:=[.v d]) (x:=d) rfl (h d (by simp))];rfl
  show jD _ _ _ (d::l.map ptD) [s]=_
  unfold jD
  rw[e1,Option.bind_some,e2,Option.bind_some,if_neg (by decide),ih];rfl
 |.ex e::l,s,hs,h=>by
  have ih:=vC l (.v (toD e)) trivial h.tail
  have e1:yQ 0 (toD e) [s]=some [.v (toD e)]:=zY (r:=[s]) rfl hs
  have e2:gZ (mUn (vW "tuple") (zD 0)) [.v (toD e)]=some true:=by
   unfold gZ
   rw[bG (f:=zD 0) (r:=[.v (toD e)]) (x:=toD e) rfl (XA e)];rfl
  have e3:zD 0 [.v (toD e)]=some (toD e):=rfl
  show jD _ _ _ (toD e::l.map ptD) [s]=_
  unfold jD
  rw[e1,Option.bind_some,e2,Option.bind_some,if_pos rfl,e3,Option.bind_some,ih];rfl
theorem pB(e:Ex):(pts e).length<=4:=by cases e<;>simp[pts]
theorem pT(e:Ex):∃as,jW [.v (toD e)]=some (.v (.lst ((ch e).map toD)),as):=by
 refine kN (r':=[.v (toD e)]) ?_
 show b4 [.v (toD e)]=_
 unfold b4
 refine j4 ?_
 unfold qI xZ
 have it:mIt (zD 0) [.v (toD e)]=some ((pts e).map ptD):=by
  unfold mIt
  rw[show zD 0 [.v (toD e)]=some (toD e) from rfl,oS];rfl
 have:=pB e
 rw[it,Option.bind_some,if_pos (by rw[List.length_map];exact Nat.lt_of_lt_of_le (show _<100 by lia) (by decide)),show rM [] 1 [.v (toD e)]=[.un] from rfl,vC _ .un trivial (zBQ e)];rfl
noncomputable def tn(es:List Ex):Nat:=(es.map nd).sum
theorem zA5(a b:List Ex):tn (a++b)=tn a+tn b:=by simp[tn]
theorem zCI(e:Ex):nd e=1+tn (ch e):=by cases e<;>simp[nd,tn,ch,pts,ptE,List.filterMap]<;>lia
theorem zA4(l:List Ex):l.length<=tn l:=by
 induction l with
 |nil=>exact Nat.le_refl 0
 |cons a l ih=>have:=zCI a;show l.length+1<=nd a+(l.map nd).sum;unfold tn at ih;lia
noncomputable def zFB:MS:=(z8 (J0 3 (zEP 2)) (z8 (sX (t8 1 (zD 3))) (sX (zII 2 (mUn zFZ (yI 1 jW (zA (zD 3) zQ)))))))
theorem vQ(x:Sl):∀(n:Nat) (es:List Ex) (F:List D) (s:Sl),fre s->tn es<=n->F.length+n<=10000->∃F' s',F'.length<=F.length+n/\∀m,j3 (n+1+m) (YX (rK 2)) zFB [x,.o F,.o (es.map toD),s]=some (.nx [x,.o F',.o [],s'])
 |n,[],F,s,hs,h1,h2=>⟨F,s,Nat.le_add_right ..,fun m=>by rw[show n+1+m=(n+m)+1 by lia];exact dW rfl⟩
 |0,e::es,F,s,hs,h1,h2=>by
  have:=zCI e
  have:tn (e::es)=nd e+tn es:=by simp[tn]
  lia
 |n+1,e0::es0,F,s,hs,h1,h2=>by
  obtain⟨es,e,he⟩:∃es e,e0::es0=es++[e]:=⟨(e0::es0).dropLast,(e0::es0).getLast (by simp),(List.dropLast_concat_getLast (by simp)).symm⟩
  rw[he] at h1 ⊢
  rw[zA5] at h1
  have hn:=zCI e
  have h1':tn es+nd e<=n+1:=by simpa [tn] using h1
  have hc:tn ((ch e).reverse)=tn (ch e):=by simp[tn,List.sum_reverse]
  have cl:=zA4 (ch e)
  have le:=zA4 es
  obtain⟨F',s',q1,q2⟩:=vQ x n (es++(ch e).reverse) (F++[toD e]) (.v (toD e)) trivial (by rw[zA5,hc];lia) (by simp;lia)
  refine⟨F',s',by simp at q1;lia,fun m=>?_⟩
  rw[show n+1+1+m=(n+1+m)+1 by lia]
  have em:(es++[e]).map toD=es.map toD++[toD e]:=by simp
  have cd:YX (rK 2) [x,.o F,.o ((es++[e]).map toD),s]=some true:=by rw[em];show some (!(es.map toD++[toD e]).isEmpty)=_;simp
  rw[oO (r':=[x,.o (F++[toD e]),.o ((es++(ch e).reverse).map toD),.v (toD e)]) cd ?_,q2 m]
  unfold zFB
  rw[em]
  have p1:J0 3 (zEP 2) [x,.o F,.o (es.map toD++[toD e]),s]=some (.nx [x,.o F,.o (es.map toD),.v (toD e)]):=by
   unfold J0
   rw[zF7 (S:=es.map toD) (d:=toD e) rfl,Option.bind_some]
   show(yQ 3 (toD e) [x,.o F,.o (es.map toD),s]).map Fl.nx=_
   rw[zY (r:=[x,.o F,.o (es.map toD),s]) (x:=s) rfl hs];rfl
  rw[yH p1]
  have p2:sX (t8 1 (zD 3)) [x,.o F,.o (es.map toD),.v (toD e)]=some (.nx [x,.o (F++[toD e]),.o (es.map toD),.v (toD e)]):=tF (oM (S:=F) rfl rfl (Nat.lt_of_lt_of_le (show F.length<20000 by lia) (by decide)))
  rw[yH p2]
  refine tF (d:=.non) ?_
  unfold zII
  have ci:yI 1 jW (zA (zD 3) zQ) [x,.o (F++[toD e]),.o (es.map toD),.v (toD e)]=some (.lst ((ch e).map toD)):=xL (p:=.v (.lst ((ch e).map toD))) (zF (x:=toD e) rfl zT) rfl (pT e)
  rw[bG (d:=.lst ((ch e).map toD).reverse) ci rfl,Option.bind_some]
  show(some ((ch e).map toD).reverse).bind _=_
  rw[Option.bind_some]
  show(some (es.map toD)).bind _=_
  rw[Option.bind_some,if_pos (by simp;exact Nat.le_trans (show _<=20000 by lia) (by decide))]
  show some (D.non,[x,Sl.o (F++[toD e]),.o (es.map toD++((ch e).map toD).reverse),.v (toD e)])=_
  simp
theorem tL{e:Ex}(h:nd e<=5000):∃F:List D,F.length<=5000/\∃as,qY [.v (toD e)]=some (.f F,as):=by
 have t1:tn [e]=nd e:=by simp[tn]
 obtain⟨F',s',q1,q2⟩:=vQ (.v (toD e)) (nd e) [e] [] .un trivial (by lia) (by simp;lia)
 refine⟨F',by simp at q1;lia,?_⟩
 have w:=q2 (WF-(nd e+1))
 rw[show nd e+1+(WF-(nd e+1))=WF by unfold WF;lia] at w
 unfold zFB at w
 refine⟨([.v (toD e),.o F',.o [],s']:En).take 1,?_⟩
 unfold qY mkF
 have b:jR [.v (toD e),.un,.un,.un]=some (.rf F' [.v (toD e),.o F',.o [],s']):=by
  unfold jR
  rw[yH (r':=[.v (toD e),.o [],.un,.un]) (by rfl),yH (r':=[.v (toD e),.o [],.o ([e].map toD),.un]) (by rfl),yH w];rfl
 show(jR [.v (toD e),.un,.un,.un]).bind _=_
 rw[b];rfl
noncomputable def zFC:MS:=(z8 (sX (t8 2 (zD 3))) (YG 3 (mUn bV (qI (uR 1 qY (zA (zD 4) zQ))))))
theorem kK(x y:Sl):∀(es:List Ex) (F:List Int) (i:Int) (s:Sl),fre s->(∀e∈es,nd e<=5000)->F.length+es.length<=1000->∃(F':List Int) (i':Int) (s':Sl),F'.length=F.length+es.length/\Z4 (yQ 4) zFC (es.map toD) [x,y,.o (F.map D.int),.v (.int i),s]=some (.nx [x,y,.o (F'.map D.int),.v (.int i'),s'])
 |[],F,i,s,hs,h,hl=>⟨F,i,s,rfl,rfl⟩
 |e::es,F,i,s,hs,h,hl=>by
  obtain⟨P,p1,as,p2⟩:=tL (h e (by simp))
  obtain⟨F',i',s',q1,q2⟩:=kK x y es (F++[i]) (i+(P.length:Int)) (.v (toD e)) trivial (fun a ha=>h a (by simp[ha])) (by simp at hl ⊢;lia)
  refine⟨F',i',s',by simp at q1 ⊢;lia,?_⟩
  rw[List.map_cons,cU (r1:=[x,y,.o (F.map D.int),.v (.int i),.v (toD e)]) (zY (i:=4) (x:=s) rfl hs) (r':=[x,y,.o ((F++[i]).map D.int),.v (.int (i+(P.length:Int))),.v (toD e)]) ?_,q2]
  unfold zFC
  rw[yH (tF (oM (i:=2) (S:=F.map D.int) (d:=.int i) rfl rfl (by rw[List.length_map];exact Nat.lt_of_lt_of_le (show F.length<2000 by simp at hl;lia) (by decide))))]
  have l1:mUn bV (qI (uR 1 qY (zA (zD 4) zQ))) [x,y,.o (F.map D.int++[D.int i]),.v (.int i),.v (toD e)]=some (.int (P.length:Int)):=by
   refine bG (x:=.lst P) ?_ rfl
   have p2':qY (([toD e]:List D).map Sl.v)=some (.f P,as):=p2
   unfold qI uR
   rw[zF (x:=toD e) (l:=[]) rfl zT,Option.bind_some,if_pos (show([toD e]:List D).length=1 from rfl),p2'];rfl
  show YG 3 _ [x,y,.o (F.map D.int++[D.int i]),.v (.int i),.v (toD e)]=_
  unfold YG
  show(mUn bV _ _).bind _=_
  rw[l1,List.map_append];rfl
theorem nQ(e:Ex)(i:Int)(h:nd e<=5000):∃F:List Int,F.length=(ch e).length/\∃as,y6 [.v (toD e),.v (.int i)]=some (.f (F.map D.int),as):=by
 have hn:=zCI e
 have cm:∀(l:List Ex),∀a∈l,nd a<=tn l:=fun l=>by
  induction l with
  |nil=>intro a ha;cases ha
  |cons b l ih=>
   intro a ha
   have e0:tn (b::l)=nd b+tn l:=by simp[tn]
   rcases List.mem_cons.mp ha with rfl|ha
   ·lia
   ·have:=ih a ha;lia
 have cl:(ch e).length<=4:=Nat.le_trans (List.length_filterMap_le ..) (pB e)
 obtain⟨F',i',s',q1,q2⟩:=kK (.v (toD e)) (.v (.int i)) (ch e) [] (i+1) .un trivial (fun a ha=>by have:=cm _ a ha;lia) (by simp;lia)
 refine⟨F',by simpa using q1,([.v (toD e),.v (.int i),.o (F'.map D.int),.v (.int i'),s']:En).take 2,?_⟩
 unfold y6 mkF
 have b:y3 [.v (toD e),.v (.int i),.un,.un,.un]=some (.rf (F'.map D.int) [.v (toD e),.v (.int i),.o (F'.map D.int),.v (.int i'),s']):=by
  unfold y3
  rw[yH (r':=[.v (toD e),.v (.int i),.o [],.un,.un]) (by rfl)]
  refine zZ (.int (i+1)) (r2:=[.v (toD e),.v (.int i),.o [],.v (.int (i+1)),.un]) (xQ rfl zI) (by rfl) ?_
  rw[yH (r':=[.v (toD e),.v (.int i),.o (F'.map D.int),.v (.int i'),s']) ?_]
  ·rfl
  ·unfold mX
   have it:mIt (yI 1 jW (zA (zD 0) zQ)) [.v (toD e),.v (.int i),.o [],.v (.int (i+1)),.un]=some ((ch e).map toD):=by
    have ci:yI 1 jW (zA (zD 0) zQ) [.v (toD e),.v (.int i),.o [],.v (.int (i+1)),.un]=some (.lst ((ch e).map toD)):=xL (p:=.v (.lst ((ch e).map toD))) (zF (x:=toD e) rfl zT) rfl (pT e)
    unfold mIt
    rw[ci];rfl
   rw[it]
   unfold zFC at q2
   exact q2
 show(y3 [.v (toD e),.v (.int i),.un,.un,.un]).bind _=_
 rw[b];rfl
inductive Mk:Ex->D->Prop
 |num (n:Int) (m:D):Mk (.num n) (.tup [.str [110,117,109],.int n,m])
 |two {w:List Nat} {a b:Ex} {x y:D} (m:D):Mk a x->Mk b y->Mk (.two w a b) (.tup [.str w,x,y,m])
 |nm (s:List Nat) (m:D):Mk (.nm s) (.tup [.str [110,97,109,101],.str s,m])
 |fn (s:List Nat) {e:Ex} {x:D} (m:D):Mk e x->Mk (.fn s e) (.tup [.str [102,110],.str s,x,m])
 |doo {a b:Ex} {x y:D} (m:D):Mk a x->Mk b y->Mk (.doo a b) (.tup [.str [100,111],x,y,m])
noncomputable def PR:List Pt->List D->Prop
 |[],ys=>ys=[]
 |.pl d::l,ys=>∃t,ys=d::t/\PR l t
 |.ex e::l,ys=>∃y t,ys=y::t/\Mk e y/\PR l t
theorem zJM{e:Ex}{ys:List D}{m:D}(h:PR (pts e) ys):Mk e (.tup (ys++[m])):=by
 cases e with
 |num n=>
  obtain⟨t,rfl,u,rfl,h⟩:=h
  cases (show u=[] from h)
  exact .num n m
 |two w a b=>
  obtain⟨t,rfl,x,u,rfl,hx,y,v,rfl,hy,h⟩:=h
  cases (show v=[] from h)
  exact .two m hx hy
 |nm s=>
  obtain⟨t,rfl,u,rfl,h⟩:=h
  cases (show u=[] from h)
  exact .nm s m
 |fn s e=>
  obtain⟨t,rfl,u,rfl,y,v,rfl,hy,h⟩:=h
  cases (show v=[] from h)
  exact .fn s m hy
 |doo a b=>
  obtain⟨t,rfl,x,u,rfl,hx,y,v,rfl,hy,h⟩:=h
  cases (show v=[] from h)
  exact .doo m hx hy
theorem W4:∀{l:List Pt} {ys:List D},PR l ys->ys.length=l.length
 |[],ys,h=>by cases (show ys=[] from h);rfl
 |.pl d::l,ys,h=>by obtain⟨t,rfl,h⟩:=h;simp[W4 h]
 |.ex e::l,ys,h=>by obtain⟨y,t,rfl,_,h⟩:=h;simp[W4 h]
noncomputable def zAD(m:MF):MS:=(sIf (gZ (mUn (vW "tuple") (zD 5))) (sX (Y1 4 (vS 3 m (kA (zD 5) (kA (zD 1) (dU (J2 3))))))) (sX (t8 4 (zD 5))))
theorem zE4{m:MF}{E I:Sl}{N:D}:∀(l:List Pt) (B:List Int) (P:List D) (s:Sl),fre s->PtOk l->(l.filterMap ptE).length<=B.length->P.length+l.length<=1000->(∀e,Pt.ex e∈l->∀i:Int,∃y,Mk e y/\∃as,m [.v (toD e),.v N,.v (.int i)]=some (.v y,as)) ->
  ∃(ys:List D) (B':List Int) (s':Sl),PR l ys/\Z4 (yQ 5) (zAD m) (l.map ptD) [E,.v N,I,.o (B.map D.int),.o P,s]=some (.nx [E,.v N,I,.o (B'.map D.int),.o (P++ys),s'])
 |[],B,P,s,hs,h1,h2,h3,h4=>⟨[],B,s,rfl,by rw[List.append_nil];rfl⟩
 |.pl d::l,B,P,s,hs,h1,h2,h3,h4=>by
  obtain⟨ys,B',s',q1,q2⟩:=zE4 (E:=E) (I:=I) l B (P++[d]) (.v d) trivial h1.tail h2 (by simp at h3 ⊢;lia) (fun e he=>h4 e (by simp[he]))
  refine⟨d::ys,B',s',⟨ys,rfl,q1⟩,?_⟩
  show Z4 _ _ (d::l.map ptD) _=_
  rw[cU (r1:=[E,.v N,I,.o (B.map D.int),.o P,.v d]) (zY (i:=5) (x:=s) rfl hs) (r':=[E,.v N,I,.o (B.map D.int),.o (P++[d]),.v d]) ?_,q2,List.append_assoc];rfl
  have e2:gZ (mUn (vW "tuple") (zD 5)) [E,.v N,I,.o (B.map D.int),.o P,.v d]=some false:=by
   unfold gZ
   rw[bG (f:=zD 5) (r:=[E,.v N,I,.o (B.map D.int),.o P,.v d]) (x:=d) rfl (h1 d (by simp))];rfl
  unfold zAD
  rw[YE e2]
  exact tF (oM (i:=4) (S:=P) rfl rfl (Nat.lt_of_lt_of_le (show P.length<2000 by simp at h3;lia) (by decide)))
 |.ex e::l,B,P,s,hs,h1,h2,h3,h4=>by
  match B,h2 with
  |[],h2=>simp[ptE] at h2
  |b::B,h2=>
   obtain⟨y,hy,as,ey⟩:=h4 e (by simp) b
   obtain⟨ys,B',s',q1,q2⟩:=zE4 (E:=E) (I:=I) l B (P++[y]) (.v (toD e)) trivial h1.tail (by simpa [ptE] using h2) (by simp at h3 ⊢;lia) (fun e he=>h4 e (by simp[he]))
   refine⟨y::ys,B',s',⟨y,ys,rfl,hy,q1⟩,?_⟩
   show Z4 _ _ (toD e::l.map ptD) _=_
   let R:En:=[E,.v N,I,.o ((b::B).map D.int),.o P,.v (toD e)]
   rw[cU (r1:=R) (zY (i:=5) (x:=s) rfl hs) (r':=[E,.v N,I,.o (B.map D.int),.o (P++[y]),.v (toD e)]) ?_,q2,List.append_assoc];rfl
   have e2:gZ (mUn (vW "tuple") (zD 5)) R=some true:=by
    unfold gZ
    rw[bG (f:=zD 5) (r:=R) (x:=toD e) rfl (XA e)];rfl
   unfold zAD
   rw[mW e2]
   have cx:vS 3 m (kA (zD 5) (kA (zD 1) (dU (J2 3)))) R=some (y,[E,.v N,I,.o (B.map D.int),.o P,.v (toD e)]):=by
    have xa:kA (zD 5) (kA (zD 1) (dU (J2 3))) R=some ([toD e,N,.int b],[E,.v N,I,.o (B.map D.int),.o P,.v (toD e)]):=rfl
    have ey':m (([toD e,N,.int b]:List D).map Sl.v)=some (.v y,as):=ey
    unfold vS
    rw[xa,Option.bind_some,if_pos (show([toD e,N,.int b]:List D).length=3 from rfl),ey'];rfl
   refine tF (d:=.non) ?_
   unfold Y1
   rw[cx,Option.bind_some]
   show(some P).bind _=_
   rw[Option.bind_some]
   show(some P).bind _=_
   rw[Option.bind_some,if_pos (Nat.lt_of_lt_of_le (show P.length<2000 by simp at h3;lia) (by decide))];rfl
theorem zJ5{e a:Ex}(h:Pt.ex a∈pts e):dp a<dp e/\nd a<nd e:=by
 cases e<;>simp[pts] at h
 ·rcases h with rfl|rfl
  ·exact⟨by show dp a<max (dp a) _+1;lia,by show nd a<1+nd a+_;lia⟩
  ·exact⟨by show dp a<max _ (dp a)+1;lia,by show nd a<1+_+nd a;lia⟩
 ·subst h;exact⟨by show dp a<dp a+1;lia,by show nd a<1+nd a;lia⟩
 ·rcases h with rfl|rfl
  ·exact⟨by show dp a<max (dp a) _+1;lia,by show nd a<1+nd a+_;lia⟩
  ·exact⟨by show dp a<max _ (dp a)+1;lia,by show nd a<1+_+nd a;lia⟩
theorem gY(N:D):∀(k:Nat) (e:Ex) (i:Int),dp e<k->nd e<=5000->∃d,Mk e d/\∃as,wZ k [.v (toD e),.v N,.v (.int i)]=some (.v d,as)
 |0,e,i,h,_=>by lia
 |k+1,e,i,h,hn=>by
  obtain⟨F,f1,fs,f2⟩:=nQ e i hn
  have pl:=pB e
  obtain⟨ys,B',s',q1,q2⟩:=zE4 (m:=wZ k) (E:=.v (toD e)) (I:=.v (.int i)) (N:=N) (pts e) F [] .un trivial (zBQ e) (Nat.le_of_eq f1.symm) (by simp;lia) (fun a ha j=>by
   have:=zJ5 ha
   exact gY N k a j (by lia) (by lia))
  have yl:=W4 q1
  let M:D:=.tup [N,.int i]
  refine⟨.tup (ys++[M]),zJM q1,kN (r':=[.v (toD e),.v N,.v (.int i),.o (B'.map D.int),.o ys,s']) ?_⟩
  show vE (wZ k) [.v (toD e),.v N,.v (.int i),.un,.un,.un]=_
  unfold vE
  have f2':y6 (([toD e,.int i]:List D).map Sl.v)=some (.f (F.map D.int),fs):=f2
  have s1:WR 3 (uR 2 y6 (zA (zD 0) (zA (zD 2) zQ))) [.v (toD e),.v N,.v (.int i),.un,.un,.un]=some (.nx [.v (toD e),.v N,.v (.int i),.o (F.map D.int),.un,.un]):=by
   unfold WR uR
   rw[zF (x:=toD e) (l:=[.int i]) rfl (zF rfl zT),Option.bind_some,if_pos (show([toD e,.int i]:List D).length=2 from rfl),f2'];rfl
  rw[yH s1,yH (r':=[.v (toD e),.v N,.v (.int i),.o (F.map D.int),.o [],.un]) (by rfl)]
  have s2:mX (yQ 5) (mIt (zD 0)) (zAD (wZ k)) [.v (toD e),.v N,.v (.int i),.o (F.map D.int),.o [],.un]=some (.nx [.v (toD e),.v N,.v (.int i),.o (B'.map D.int),.o ys,s']):=by
   unfold mX
   have it:mIt (zD 0) [.v (toD e),.v N,.v (.int i),.o (F.map D.int),.o [],.un]=some ((pts e).map ptD):=by
    unfold mIt
    rw[show zD 0 [.v (toD e),.v N,.v (.int i),.o (F.map D.int),.o [],.un]=some (toD e) from rfl,oS];rfl
   rw[it];exact q2
  unfold zAD at s2
  rw[yH s2]
  refine j4 ?_
  unfold Q1 zKQ
  have o4:rK 4 [.v (toD e),.v N,.v (.int i),.o (B'.map D.int),.o ys,s']=some ys:=rfl
  have l1:xB (zA (yW (zA (zD 1) (zA (zD 2) zQ))) zQ) [.v (toD e),.v N,.v (.int i),.o (B'.map D.int),.o ys,s']=some [M]:=rfl
  rw[o4,Option.bind_some,l1,Option.bind_some,if_pos (Nat.le_trans (show ys.length+([M]:List D).length<=100 by show ys.length+1<=100;lia) (by decide))];rfl
noncomputable abbrev tsk(d e:D)(b:Bool):D:=.tup [d,e,.bl b]
noncomputable def ky(s:List Nat):Key:=.inr ⟨s.toArray⟩
theorem nZ{s t:List Nat}(h:ky s=ky t):s=t:=by
 have h1:(⟨s.toArray⟩:Str)=⟨t.toArray⟩:=Sum.inr.inj h
 have h2:=congrArg (fun x:Str=>x.cps.toList) h1
 simpa using h2
section
variable{mo:Int}{df env:D}
theorem o8{n:Nat}{s:Int}{w c:List D}{t:D}{st:Mst}(h:d8 ⟨mo,s,w++[t],c,.non,df⟩=some st):bQ (n+1) ⟨mo,s,w++[t],c,.non,df⟩=bQ n st:=by
 show(if (w++[t]).isEmpty=false/\nonB .non=true then (d8 _).bind (bQ n) else _)=_
 rw[if_pos ⟨by simp,rfl⟩,h];rfl
theorem zFN{s:Int}{w c:List D}{e:D}:d8 ⟨mo,s,w++[tsk e env false],c,.non,df⟩=(yA ⟨mo,s,w,c,.non,df⟩ [e,env]).map (·.2):=by
 unfold d8
 rw[show(w++[tsk e env false]).getLast?=some (tsk e env false) by simp]
 show(yA ⟨mo,s,(w++[tsk e env false]).dropLast,c,.non,df⟩ _).map _=_
 rw[List.dropLast_concat]
theorem zFM{s:Int}{w c:List D}{e:D}:d8 ⟨mo,s,w++[tsk e env true],c,.non,df⟩=(yJ ⟨mo,s,w,c,.non,df⟩ [e]).bind fun p=>(wX p.2 [e,env,p.1]).map (·.2):=by
 unfold d8
 rw[show(w++[tsk e env true]).getLast?=some (tsk e env true) by simp]
 show(yJ ⟨mo,s,(w++[tsk e env true]).dropLast,c,.non,df⟩ _).bind _=_
 rw[List.dropLast_concat]
theorem wW{n:Nat}(h:n<=100000):n<sizeLine:=Nat.lt_of_le_of_lt h (by decide)
theorem beg{s:Int}{w c:List D}{e:D}(h:w.length<=100000):xF ⟨mo,s,w,c,.non,df⟩ [e,env]=some (.non,⟨mo,s,w++[tsk e env false],c,.non,df⟩):=if_pos (wW h)
theorem zIM{s:Int}{w c:List D}{W:List Nat}{r:List D}{n:Nat}{l:List Int}{ps:List D}(hl:(uU AH W).getD []=l)(hp:l.reverse.map (fun i=>ixD (.tup (.str W::r)) (.int i))=ps.map some)(hw:w.length+l.length<=90000):bQ (n+1) ⟨mo,s,w++[tsk (.tup (.str W::r)) env false],c,.non,df⟩=bQ n ⟨mo,s,w++tsk (.tup (.str W::r)) env true::ps.map (tsk · env false),c,.non,df⟩:=by
 refine o8 ?_
 rw[zFN]
 unfold yA
 show Option.map _ (if w.length<sizeLine then _ else none)=_
 rw[if_pos (show w.length<sizeLine from wW (by lia))]
 show((some ((uU AH W).getD [])).bind _).map _=_
 rw[hl,Option.bind_some]
 have hll:l.reverse.length=l.length:=List.length_reverse
 have push:∀(is:List Int) (ps w:List D),is.map (fun i=>ixD (.tup (.str W::r)) (.int i))=ps.map some->w.length+is.length<=95000->pA (.tup (.str W::r)) env is ⟨mo,s,w,c,.non,df⟩=some ⟨mo,s,w++ps.map (tsk · env false),c,.non,df⟩:=by
  intro is
  induction is with
  |nil=>intro ps w h _;cases ps with
   |nil=>simp[pA]
   |cons=>cases h
  |cons i is ih=>
   intro ps w h hw
   cases ps with
   |nil=>cases h
   |cons p ps=>
    rw[List.map_cons,List.map_cons] at h
    obtain⟨h1,h2⟩:=List.cons.inj h
    rw[List.length_cons] at hw
    unfold pA
    rw[h1,Option.bind_some,beg (by lia),Option.bind_some,ih ps _ h2 (by simp;lia)]
    simp
 rw[show zBP ⟨mo,s,w,c,.non,df⟩ (.tup [.tup (.str W::r),env,.bl true])=⟨mo,s,w++[tsk (.tup (.str W::r)) env true],c,.non,df⟩ from rfl,push _ ps _ hp (by simp;lia)]
 simp
theorem zH7{s:Int}{w c q:List D}{W:List Nat}{r:List D}{n:Nat}{l:List Int}{st:Mst}{mm:Mst->List D->Option (D×Mst)}{x:D}(hl:(uU AH W).getD []=l)(hq:q.length=l.length)(h4:l.length<=4)(hm:ways W=some mm)(h:mm ⟨mo,s,w,c,.non,df⟩ [.tup (.str W::r),env,.lst q]=some (x,st)):bQ (n+1) ⟨mo,s,w++[tsk (.tup (.str W::r)) env true],c++q,.non,df⟩=bQ n st:=by
 refine o8 ?_
 rw[zFM]
 unfold yJ
 show((some ((uU AH W).getD [])).bind _).bind _=_
 rw[hl,Option.bind_some,if_pos ⟨by show l.length<=(c++q).length;rw[List.length_append];lia,wW (by lia)⟩,Option.bind_some]
 have e1:(c++q).length-l.length=c.length:=by rw[List.length_append];lia
 show(wX ⟨mo,s,w,(c++q).take ((c++q).length-l.length),.non,df⟩ [_,_,.lst ((c++q).drop ((c++q).length-l.length))]).map _=_
 rw[e1,List.take_left,List.drop_left]
 unfold wX
 show(((ways W).bind fun mm=>(mm _ _).map _)).map _=_
 rw[hm,Option.bind_some,h];rfl
theorem tel{s:Int}{w c:List D}{v:D}(h:c.length<=100000):wJ ⟨mo,s,w,c,.non,df⟩ [v]=some (.non,⟨mo,s,w,c++[v],.non,df⟩):=if_pos (wW h)
theorem gE{n:Nat}{s:Int}{w c:List D}:bQ (n+1) ⟨mo,s,w,c,bL,df⟩=some ⟨mo,s,w,c,bL,df⟩:=by
 show(if _/\nonB bL=true then _ else _)=_
 rw[if_neg (fun z=>by have:=z.2;revert this;decide)]
end
structure Ev(df env d:D)(c:Nat)(v:D)(t h:Nat):Prop where
 run:∀(mo s0:Int) (w cm:List D) (n:Nat),w.length+h<=80000->cm.length+h<=80000->s0+c<=mo->bQ (t+n) ⟨mo,s0,w++[tsk d env false],cm,.non,df⟩=bQ n ⟨mo,s0+c,w,cm++[v],.non,df⟩
 tire:∀(mo s0:Int) (w cm:List D) (n:Nat),w.length+h<=80000->cm.length+h<=80000->s0<=mo->mo<s0+c->∃w' c',bQ (t+1+n) ⟨mo,s0,w++[tsk d env false],cm,.non,df⟩=some ⟨mo,mo,w',c',bL,df⟩
section
variable{df env:D}
theorem Ev.mono{d:D}{c:Nat}{v:D}{t h h':Nat}(r:Ev df env d c v t h)(hh:h<=h'):Ev df env d c v t h':=⟨fun mo s0 w cm n h1 h2=>r.run mo s0 w cm n (by lia) (by lia),fun mo s0 w cm n h1 h2=>r.tire mo s0 w cm n (by lia) (by lia)⟩
theorem pX{W:List Nat}{r:List D}{v:D}{mm:Mst->List D->Option (D×Mst)}(hl:(uU AH W).getD []=[])(hm:ways W=some mm)(h:∀(st:Mst),mm st [.tup (.str W::r),env,.lst []]=wJ st [v]):Ev df env (.tup (.str W::r)) 0 v 2 2:=by
 refine⟨fun mo s0 w cm n h1 h2 _=>?_,fun mo s0 w cm n h1 h2 h3 h4=>by simp at h4;lia⟩
 rw[show 2+n=(n+1)+1 by lia,zIM (l:=[]) (ps:=[]) hl rfl (by simp;lia)]
 have:=zH7 (mo:=mo) (df:=df) (env:=env) (s:=s0) (w:=w) (c:=cm) (q:=[]) (W:=W) (r:=r) (n:=n) (l:=[]) (x:=.non) hl rfl (by decide) hm ((h _).trans (tel (by lia)))
 rw[List.append_nil] at this
 rw[show s0+((0:Nat):Int)=s0 by simp]
 exact this
theorem JH(i:Int)(m:D):Ev df env (.tup [.str [110,117,109],.int i,m]) 0 (.int i) 2 2:=pX rfl rfl fun _=>rfl
theorem zDN(s:List Nat)(x m:D):Ev df env (.tup [.str [102,110],.str s,x,m]) 0 (.tup [.str [102,110],.str s,x,env]) 2 2:=pX rfl rfl fun _=>rfl
theorem qX{ks:List Key}{l:List D}{s:List Nat}{v:D}(m:D)(h:yS ks l (ky s)=some v):Ev df (.dct ks l) (.tup [.str [110,97,109,101],.str s,m]) 0 v 2 2:=pX (mm:=yX) rfl rfl fun st=>by
 unfold yX
 show(match yS ks l (ky s) with|some v=>wJ st [v]|none=>_)=_
 rw[h]
theorem zG7{ks kd:List Key}{l ld:List D}{s:List Nat}{d v:D}{c t h:Nat}(m:D)(h0:yS ks l (ky s)=none)(h1:yS kd ld (ky s)=some d)(r:Ev (.dct kd ld) (.dct [] []) d c v t h):Ev (.dct kd ld) (.dct ks l) (.tup [.str [110,97,109,101],.str s,m]) (c+1) v (t+2) (h+3):=by
 have st:∀(mo s0:Int) (w cm:List D) (n:Nat) (st:Mst),w.length+3<=80000->yX ⟨mo,s0,w,cm,.non,.dct kd ld⟩ [.tup [.str [110,97,109,101],.str s,m],.dct ks l,.lst []]=some (.non,st)->bQ ((n+1)+1) ⟨mo,s0,w++[tsk (.tup [.str [110,97,109,101],.str s,m]) (.dct ks l) false],cm,.non,.dct kd ld⟩=bQ n st:=fun mo s0 w cm n st hw q=>by
  rw[zIM (l:=[]) (ps:=[]) rfl rfl (by simp;lia)]
  have:=zH7 (mo:=mo) (df:=.dct kd ld) (env:=.dct ks l) (s:=s0) (w:=w) (c:=cm) (q:=[]) (W:=[110,97,109,101]) (r:=[.str s,m]) (n:=n) (l:=[]) (x:=.non) (mm:=yX) rfl rfl (by decide) rfl q
  rw[List.append_nil] at this
  exact this
 have fe:∀(mo s0:Int) (w cm:List D),yX ⟨mo,s0,w,cm,.non,.dct kd ld⟩ [.tup [.str [110,97,109,101],.str s,m],.dct ks l,.lst []]=(qJ ⟨mo,s0,w,cm,.non,.dct kd ld⟩ []).bind fun p=>match p.1,p.2.defs with
   |.bl true,.dct ks l=>(yS ks l (ky s)).bind fun d=>xF p.2 [d,.dct [] []]
   |.bl false,_=>some (.non,p.2)
   |_,_=>none:=fun mo s0 w cm=>by
  unfold yX
  show(match yS ks l (ky s) with|some v=>wJ _ [v]|none=>_)=_
  rw[h0];rfl
 have go:∀(mo s0:Int) (w cm:List D),w.length<=80000->s0<mo->yX ⟨mo,s0,w,cm,.non,.dct kd ld⟩ [.tup [.str [110,97,109,101],.str s,m],.dct ks l,.lst []]=some (.non,⟨mo,s0+1,w++[tsk d (.dct [] []) false],cm,.non,.dct kd ld⟩):=fun mo s0 w cm hw hs=>by
  rw[fe]
  unfold qJ
  show Option.bind (if mo<=s0 then _ else _) _=_
  rw[if_neg (show ¬mo<=s0 by lia),Option.bind_some]
  show(yS kd ld (ky s)).bind _=_
  rw[h1,Option.bind_some];exact beg (by lia)
 refine⟨fun mo s0 w cm n q1 q2 q3=>?_,fun mo s0 w cm n q1 q2 q3 q4=>?_⟩
 ·rw[show t+2+n=((t+n)+1)+1 by lia,st mo s0 w cm (t+n) _ (by lia) (go mo s0 w cm (by lia) (by lia)),r.run mo (s0+1) w cm n (by lia) (by lia) (by lia)]
  rw[show s0+1+(c:Int)=s0+((c+1:Nat):Int) by lia]
 ·by_cases z:s0<mo
  ·obtain⟨w',c',e⟩:=r.tire mo (s0+1) w cm n (by lia) (by lia) (by lia) (by lia)
   refine⟨w',c',?_⟩
   rw[show t+2+1+n=((t+1+n)+1)+1 by lia,st mo s0 w cm (t+1+n) _ (by lia) (go mo s0 w cm (by lia) z)]
   exact e
  ·obtain rfl:mo=s0:=by lia
   refine⟨w,cm,?_⟩
   rw[show t+2+1+n=((t+n+1)+1)+1 by lia,st mo mo w cm (t+n+1) ⟨mo,mo,w,cm,bL,.dct kd ld⟩ (by lia) (by
    rw[fe]
    unfold qJ
    show Option.bind (if mo<=mo then _ else _) _=_
    rw[if_pos (Int.le_refl _)];rfl)]
   exact gE
theorem dS{W:List Nat}(h:wd W):(uU AH W).getD []=[1,2]/\ways W=some yK:=by
 rcases h with rfl|rfl|rfl|rfl<;>exact⟨rfl,rfl⟩
theorem d7{W:List Nat}{x y m:D}{c1 c2:Nat}{v1 v2:D}{t1 t2 h:Nat}(hl:(uU AH W).getD []=[1,2])(rx:Ev df env x c1 v1 t1 h)(ry:Ev df env y c2 v2 t2 h):(∀(mo s0:Int) (w cm:List D) (n:Nat),w.length+(h+3)<=80000->cm.length+(h+3)<=80000->s0+c1+c2<=mo->bQ (1+t1+t2+n) ⟨mo,s0,w++[tsk (.tup [.str W,x,y,m]) env false],cm,.non,df⟩=bQ n ⟨mo,s0+c1+c2,w++[tsk (.tup [.str W,x,y,m]) env true],cm++[v1,v2],.non,df⟩) /\
  ∀(mo s0:Int) (w cm:List D) (n:Nat),w.length+(h+3)<=80000->cm.length+(h+3)<=80000->s0<=mo->mo<s0+c1+c2->∃w' c',bQ (1+t1+t2+1+n) ⟨mo,s0,w++[tsk (.tup [.str W,x,y,m]) env false],cm,.non,df⟩=some ⟨mo,mo,w',c',bL,df⟩:=by
 refine⟨fun mo s0 w cm n h1 h2 h3=>?_,fun mo s0 w cm n h1 h2 h3 h4=>?_⟩
 ·rw[show 1+t1+t2+n=(t1+(t2+n))+1 by lia,zIM (l:=[1,2]) (ps:=[y,x]) hl rfl (by simp;lia)]
  have e1:=rx.run mo s0 (w++[tsk (.tup [.str W,x,y,m]) env true,tsk y env false]) cm (t2+n) (by simp;lia) (by lia) (by lia)
  rw[List.append_assoc] at e1
  refine e1.trans ?_
  have e2:=ry.run mo (s0+c1) (w++[tsk (.tup [.str W,x,y,m]) env true]) (cm++[v1]) n (by simp;lia) (by simp;lia) (by lia)
  rw[List.append_assoc,List.append_assoc] at e2
  exact e2
 ·by_cases z:mo<s0+c1
  ·obtain⟨w',c',e1⟩:=rx.tire mo s0 (w++[tsk (.tup [.str W,x,y,m]) env true,tsk y env false]) cm (t2+n) (by simp;lia) (by lia) h3 z
   refine⟨w',c',?_⟩
   rw[show 1+t1+t2+1+n=(t1+1+(t2+n))+1 by lia,zIM (l:=[1,2]) (ps:=[y,x]) hl rfl (by simp;lia)]
   rw[List.append_assoc] at e1
   exact e1
  ·obtain⟨w',c',e2⟩:=ry.tire mo (s0+c1) (w++[tsk (.tup [.str W,x,y,m]) env true]) (cm++[v1]) n (by simp;lia) (by simp;lia) (by lia) (by lia)
   refine⟨w',c',?_⟩
   rw[show 1+t1+t2+1+n=(t1+(t2+1+n))+1 by lia,zIM (l:=[1,2]) (ps:=[y,x]) hl rfl (by simp;lia)]
   have e1:=rx.run mo s0 (w++[tsk (.tup [.str W,x,y,m]) env true,tsk y env false]) cm (t2+1+n) (by simp;lia) (by lia) (by lia)
   rw[List.append_assoc] at e1
   refine e1.trans ?_
   rw[List.append_assoc] at e2
   exact e2
theorem zDM{W:List Nat}{x y m:D}{c1 c2:Nat}{va vb:Int}{t1 t2 h:Nat}(hW:wd W)(ha:x4 va)(hb:x4 vb)(rx:Ev df env x c1 (.int va) t1 h)(ry:Ev df env y c2 (.int vb) t2 h):Ev df env (.tup [.str W,x,y,m]) (c1+c2) (.int (wk W va vb)) (t1+t2+2) (h+3):=by
 obtain⟨p1,p2⟩:=d7 (m:=m) (dS hW).1 rx ry
 refine⟨fun mo s0 w cm n h1 h2 h3=>?_,fun mo s0 w cm n h1 h2 h3 h4=>?_⟩
 ·rw[show t1+t2+2+n=1+t1+t2+(n+1) by lia,p1 mo s0 w cm (n+1) h1 h2 (by lia)]
  rw[zH7 (q:=[.int va,.int vb]) (l:=[1,2]) (x:=.non) (dS hW).1 rfl (by show 2<=4;decide) (dS hW).2 (st:=⟨mo,s0+c1+c2,w,cm++[.int (wk W va vb)],.non,df⟩) (by
   show(if x4 va/\x4 vb then wJ _ _ else none)=_
   rw[if_pos ⟨ha,hb⟩,tel (by lia)])]
  rw[show s0+(c1:Int)+(c2:Int)=s0+((c1+c2:Nat):Int) by lia]
 ·obtain⟨w',c',e⟩:=p2 mo s0 w cm (n+1) h1 h2 h3 (by lia)
  refine⟨w',c',?_⟩
  rw[show t1+t2+2+1+n=1+t1+t2+1+(n+1) by lia]
  exact e
theorem zAB{f a m body va v:D}{s:List Nat}{ks:List Key}{l:List D}{c1 c2 c3 t1 t2 t3 h:Nat}(hk:ks.length<=100000)(rf:Ev df env f c1 (.tup [.str [102,110],.str s,body,.dct ks l]) t1 h)(ra:Ev df env a c2 va t2 h)(rb:Ev df (.dct (qK ks l (ky s) va).1 (qK ks l (ky s) va).2) body c3 v t3 h):Ev df env (.tup [.str [100,111],f,a,m]) (c1+c2+1+c3) v (t1+t2+t3+2) (h+3):=by
 obtain⟨p1,p2⟩:=d7 (W:=[100,111]) (m:=m) rfl rf ra
 have go:∀(mo s0:Int) (w cm:List D),w.length<=80000->s0<mo->qD ⟨mo,s0,w,cm,.non,df⟩ [.tup [.str [100,111],f,a,m],env,.lst [.tup [.str [102,110],.str s,body,.dct ks l],va]]=some (.non,⟨mo,s0+1,w++[tsk body (.dct (qK ks l (ky s) va).1 (qK ks l (ky s) va).2) false],cm,.non,df⟩):=fun mo s0 w cm hw hs=>by
  unfold qD
  show(if ([102,110]:List Nat)=[102,110]/\ks.length<sizeLine then _ else none)=_
  rw[if_pos ⟨rfl,wW hk⟩]
  unfold qJ
  show Option.bind (if mo<=s0 then _ else _) _=_
  rw[if_neg (show ¬mo<=s0 by lia),Option.bind_some]
  exact beg (by lia)
 refine⟨fun mo s0 w cm n h1 h2 h3=>?_,fun mo s0 w cm n h1 h2 h3 h4=>?_⟩
 ·rw[show t1+t2+t3+2+n=1+t1+t2+((t3+n)+1) by lia,p1 mo s0 w cm ((t3+n)+1) h1 h2 (by lia)]
  rw[zH7 (q:=[.tup [.str [102,110],.str s,body,.dct ks l],va]) (l:=[1,2]) (x:=.non) rfl rfl (by show 2<=4;decide) rfl (go mo (s0+c1+c2) w cm (by lia) (by lia))]
  rw[rb.run mo (s0+c1+c2+1) w cm n (by lia) (by lia) (by lia),show s0+(c1:Int)+(c2:Int)+1+(c3:Int)=s0+((c1+c2+1+c3:Nat):Int) by lia]
 ·by_cases z:mo<s0+c1+c2
  ·obtain⟨w',c',e⟩:=p2 mo s0 w cm (t3+1+n) h1 h2 h3 (by lia)
   refine⟨w',c',?_⟩
   rw[show t1+t2+t3+2+1+n=1+t1+t2+1+(t3+1+n) by lia]
   exact e
  ·by_cases z2:s0+c1+c2<mo
   ·obtain⟨w',c',e⟩:=rb.tire mo (s0+c1+c2+1) w cm n (by lia) (by lia) (by lia) (by lia)
    refine⟨w',c',?_⟩
    rw[show t1+t2+t3+2+1+n=1+t1+t2+((t3+1+n)+1) by lia,p1 mo s0 w cm ((t3+1+n)+1) h1 h2 (by lia)]
    rw[zH7 (q:=[.tup [.str [102,110],.str s,body,.dct ks l],va]) (l:=[1,2]) (x:=.non) rfl rfl (by show 2<=4;decide) rfl (go mo (s0+c1+c2) w cm (by lia) z2)]
    exact e
   ·have em:s0+(c1:Int)+(c2:Int)=mo:=by lia
    refine⟨w,cm,?_⟩
    rw[show t1+t2+t3+2+1+n=1+t1+t2+((t3+n+1)+1) by lia,p1 mo s0 w cm ((t3+n+1)+1) h1 h2 (by lia),em]
    rw[zH7 (q:=[.tup [.str [102,110],.str s,body,.dct ks l],va]) (l:=[1,2]) (x:=.non) rfl rfl (by show 2<=4;decide) (mm:=qD) rfl (st:=⟨mo,mo,w,cm,bL,df⟩) (by
     unfold qD
     show(if ([102,110]:List Nat)=[102,110]/\ks.length<sizeLine then _ else none)=_
     rw[if_pos ⟨rfl,wW hk⟩]
     unfold qJ
     show Option.bind (if mo<=mo then _ else _) _=_
     rw[if_pos (Int.le_refl _)];rfl)]
    exact gE
end
theorem pK{k k':Key}{d:D}:∀(ks:List Key) (l:List D),ks.length=l.length->yS ks (List.zipWith (fun j e=>if j=k then d else e) ks l) k'=if k=k' then (yS ks l k').map (fun _=>d) else yS ks l k'
 |[],[],_=>by
  show none=_
  split<;>rfl
 |a::ks,b::l,h=>by
  have ih:=pK (k:=k) (k':=k') (d:=d) ks l (by simpa using h)
  rw[List.zipWith_cons_cons]
  unfold yS
  by_cases h1:a=k'
  ·subst h1
   rw[if_pos rfl,if_pos rfl]
   by_cases h2:k=a
   ·rw[if_pos h2,if_pos h2.symm];rfl
   ·rw[if_neg h2,if_neg (fun z=>h2 z.symm)]
  ·rw[if_neg h1,if_neg h1,ih]
 |[],_::_,h=>by cases h
 |_::_,[],h=>by cases h
theorem uS{k:Key}:∀(ks:List Key) (l:List D),ks.length=l.length->k∈ks->∃d,yS ks l k=some d
 |a::ks,b::l,h,hk=>by
  unfold yS
  by_cases h1:a=k
  ·exact⟨b,if_pos h1⟩
  ·rw[if_neg h1]
   rcases List.mem_cons.mp hk with z|z
   ·exact absurd z.symm h1
   ·exact uS ks l (by simpa using h) z
 |_::_,[],h,_=>by cases h
theorem pL{k k':Key}{d:D}:∀(ks:List Key) (l:List D),ks.length=l.length->k∉ks->yS (ks++[k]) (l++[d]) k'=if k=k' then some d else yS ks l k'
 |[],[],_,_=>by
  show yS [k] [d] k'=_
  unfold yS
  split
  ·rfl
  ·rfl
 |a::ks,b::l,h,hk=>by
  have ih:=pL (k:=k) (k':=k') (d:=d) ks l (by simpa using h) fun z=>hk (by simp[z])
  rw[List.cons_append,List.cons_append]
  unfold yS
  by_cases h1:a=k'
  ·rw[if_pos h1,if_pos h1,if_neg (fun z=>hk (by simp[z,h1]))]
  ·rw[if_neg h1,if_neg h1,ih]
 |[],_::_,h,_=>by cases h
 |_::_,[],h,_=>by cases h
theorem any_mem{k:Key}{ks:List Key}:(ks.any fun j=>decide (j=k))=true↔k∈ks:=by simp
theorem uT{ks:List Key}{l:List D}(h:ks.length=l.length)(k k':Key)(d:D):yS (qK ks l k d).1 (qK ks l k d).2 k'=if k=k' then some d else yS ks l k':=by
 unfold qK
 by_cases c:(ks.any fun j=>decide (j=k))=true
 ·rw[if_pos c]
  show yS ks (List.zipWith _ ks l) k'=_
  rw[pK ks l h]
  by_cases e:k=k'
  ·rw[if_pos e,if_pos e]
   obtain⟨z,hz⟩:=uS ks l h (e ▸ any_mem.mp c)
   rw[hz];rfl
  ·rw[if_neg e,if_neg e]
 ·rw[if_neg c]
  exact pL ks l h fun z=>c (any_mem.mpr z)
theorem YJ{ks:List Key}{l:List D}(h:ks.length=l.length)(k:Key)(d:D):(qK ks l k d).1.length=(qK ks l k d).2.length/\(qK ks l k d).1.length<=ks.length+1:=by
 unfold qK
 split
 ·exact⟨by show ks.length=(List.zipWith _ ks l).length;rw[List.length_zipWith,<-h,Nat.min_self],Nat.le_succ _⟩
 ·exact⟨by show(ks++[k]).length=(l++[d]).length;rw[List.length_append,List.length_append,h];rfl,by show(ks++[k]).length<=_;rw[List.length_append];exact Nat.le_refl _⟩
theorem WZ(ss:List (List Nat))(l:List D)(s:List Nat)(d:D):∃ss':List (List Nat),(qK (ss.map ky) l (ky s) d).1=ss'.map ky:=by
 unfold qK
 split
 ·exact⟨ss,rfl⟩
 ·exact⟨ss++[s],by show ss.map ky++[ky s]=_;rw[List.map_append];rfl⟩
inductive Ent where
 |num (v:Int)
 |fun(a b:Int) (c:Nat)
noncomputable def NUMB:List Nat:=[110,117,109,98,101,114]
noncomputable def FUNC:List Nat:=[102,117,110,99,116,105,111,110]
noncomputable def srt:Ent->List Nat
 |.num _=>NUMB
 |.fun _ _ _=>FUNC
noncomputable def w6:Ent->D
 |.num v=>.tup [.str NUMB,.int v]
 |.fun a b c=>.tup [.str FUNC,.int a,.int b,.int c]
noncomputable abbrev Env:=List (List Nat×Ent)
noncomputable def prD(p:List Nat×Ent):D:=.tup [.str p.1,w6 p.2]
noncomputable def bF(env:Env):D:=.lst (env.map prD)
noncomputable def lk(env:Env)(s:List Nat):Option Ent:=(env.reverse.find? fun p=>decide (p.1=s)).map (·.2)
theorem nY(env:Env)(x:List Nat)(e:Ent)(s:List Nat):lk (env++[(x,e)]) s=if x=s then some e else lk env s:=by
 unfold lk
 rw[List.reverse_append]
 show(List.find? _ ((x,e)::env.reverse)).map _=_
 rw[List.find?_cons]
 by_cases h:x=s
 ·rw[if_pos h];simp[h]
 ·rw[if_neg h];simp[h]
theorem WG{x:List Nat}{l:List (List Nat)}(h:x∈JZ l):x∈l:=by
 unfold JZ at h
 split at h
 ·rename_i q;exact q.choose_spec.1.mem_iff.mp h
 ·exact h
theorem oX:∀ss:List (List Nat),oY (ss.map ky)=some ss
 |[]=>rfl
 |s::ss=>by
  show(oY (ss.map ky)).map _=_
  rw[oX ss];simp
noncomputable def zFE:MS:=(YF 2 (zD 3) (zD 4))
theorem cA{E S:Sl}:∀(env2 env1:Env) (ss:List (List Nat)) (l:List D) (x y:Sl),fre x->fre y->ss.length=l.length->(∀s,yS (ss.map ky) l (ky s)=(lk env1 s).map w6)->ss.length+env2.length<=1000 ->
  ∃(ss':List (List Nat)) (l':List D) (x' y':Sl),ss'.length=l'.length/\ss'.length<=ss.length+env2.length/\(∀s,yS (ss'.map ky) l' (ky s)=(lk (env1++env2) s).map w6)/\Z4 (wY 2 (zX (yQ 3) (zX (yQ 4) qF))) zFE (env2.map prD) [E,S,.d (ss.map ky) l,x,y]=some (.nx [E,S,.d (ss'.map ky) l',x',y'])
 |[],env1,ss,l,x,y,hx,hy,hl,h,hb=>⟨ss,l,x,y,hl,Nat.le_refl _,by rw[List.append_nil];exact h,rfl⟩
 |p::env2,env1,ss,l,x,y,hx,hy,hl,h,hb=>by
  have hl':(ss.map ky).length=l.length:=by rw[List.length_map];exact hl
  obtain⟨s1,e1⟩:=WZ ss l p.1 (w6 p.2)
  have pl:=YJ hl' (ky p.1) (w6 p.2)
  rw[e1,List.length_map,List.length_map] at pl
  rw[List.length_cons] at hb
  obtain⟨ss',l',x',y',q1,q2,q3,q4⟩:=cA (E:=E) (S:=S) env2 (env1++[p]) s1 (qK (ss.map ky) l (ky p.1) (w6 p.2)).2 (.v (.str p.1)) (.v (w6 p.2)) trivial trivial pl.1 (fun s=>by
   rw[<-e1,uT hl',h s,show env1++[p]=env1++[(p.1,p.2)] from rfl,nY]
   by_cases c:p.1=s
   ·rw[if_pos c,if_pos (by rw[c])];rfl
   ·rw[if_neg c,if_neg (fun z=>c (nZ z))]) (by lia)
  refine⟨ss',l',x',y',q1,by rw[List.length_cons];lia,by rw[List.append_assoc] at q3;exact q3,?_⟩
  rw[List.map_cons,cU (d:=prD p) (r1:=[E,S,.d (ss.map ky) l,.v (.str p.1),.v (w6 p.2)]) (r:=[E,S,.d (ss.map ky) l,x,y]) (bdP (r1:=[E,S,.d (ss.map ky) l,.v (.str p.1),y]) (zY (i:=3) (x:=x) rfl hx) (zY (i:=4) (x:=y) rfl hy)) (r':=[E,S,.d (s1.map ky) (qK (ss.map ky) l (ky p.1) (w6 p.2)).2,.v (.str p.1),.v (w6 p.2)]) ?_]
  ·exact q4
  ·show(if (ss.map ky).length<sizeLine then some (Fl.nx [E,S,.d (qK (ss.map ky) l (ky p.1) (w6 p.2)).1 (qK (ss.map ky) l (ky p.1) (w6 p.2)).2,.v (.str p.1),.v (w6 p.2)]) else none)=_
   rw[if_pos (by rw[List.length_map];exact wW (by lia)),e1]
theorem pY(a b:List Nat)(ha:PyData.strOk ⟨a.toArray⟩=true)(hb:PyData.strOk ⟨b.toArray⟩=true):eqN 400 (.str a) (.str b)=some (.bl (decide (a=b))):=by
 have la:Y5 400 (.str a)=true:=by
  show(true && PyData.strOk ⟨a.toArray⟩ && true)=true
  rw[ha];rfl
 have lb:Y5 400 (.str b)=true:=by
  show(true && PyData.strOk ⟨b.toArray⟩ && true)=true
  rw[hb];rfl
 unfold eqN
 rw[if_pos ⟨la,lb⟩]
 show some (D.bl ((⟨a.toArray⟩:Str) == ⟨b.toArray⟩))=_
 congr 2
 by_cases c:a=b
 ·rw[decide_eq_true c,c];simp
 ·rw[decide_eq_false c]
  refine beq_eq_false_iff_ne.mpr fun z=>c ?_
  have z2:=congrArg (fun x:Str=>x.cps.toList) z
  simpa using z2
theorem nC(e:Ent):PyData.strOk ⟨(srt e).toArray⟩=true:=by
 have h1:PyData.strOk ⟨NUMB.toArray⟩=true:=by decide +kernel
 have h2:PyData.strOk ⟨FUNC.toArray⟩=true:=by decide +kernel
 cases e
 ·exact h1
 ·exact h2
theorem cB{ks:List Key}{l:List D}{env:Env}{S:List Nat}(hS:PyData.strOk ⟨S.toArray⟩=true)(h:∀s,yS ks l (ky s)=(lk env s).map w6):∀(L:List (List Nat)) (x:Sl),fre x->(∀s∈L,∃e,lk env s=some e) ->
  ∃ps:List (List Nat×Ent),(∀p∈ps,lk env p.1=some p.2/\srt p.2=S)/\ps.length<=L.length/\jD (yQ 2) (mBl (zG (eqN 400) (zG ixD (zC2 (rL (zD 1)) (zD 2)) (mC (.int 0))) (zD 0))) (yW (zA (zD 2) (zA (zC2 (rL (zD 1)) (zD 2)) zQ))) (L.map .str) [.v (.str S),.v (.dct ks l),x]=some (ps.map prD)
 |[],x,hx,hL=>⟨[],(fun _ z=>by cases z),Nat.le_refl _,rfl⟩
 |s::L,x,hx,hL=>by
  obtain⟨e,he⟩:=hL s (by simp)
  obtain⟨ps,q1,q2,q3⟩:=cB hS h L (.v (.str s)) trivial fun s hs=>hL s (by simp[hs])
  have e1:yQ 2 (.str s) [.v (.str S),.v (.dct ks l),x]=some [.v (.str S),.v (.dct ks l),.v (.str s)]:=zY (i:=2) (x:=x) rfl hx
  have e2:zC2 (rL (zD 1)) (zD 2) [.v (.str S),.v (.dct ks l),.v (.str s)]=some (w6 e):=by
   show yS ks l (ky s)=_
   rw[h s,he];rfl
  have e3:mBl (zG (eqN 400) (zG ixD (zC2 (rL (zD 1)) (zD 2)) (mC (.int 0))) (zD 0)) [.v (.str S),.v (.dct ks l),.v (.str s)]=some (decide (srt e=S)):=kW (zV (x:=.str (srt e)) (y:=.str S) (zV e2 zI (by cases e<;>exact mT _ _)) rfl (pY _ _ (nC e) hS))
  have e4:yW (zA (zD 2) (zA (zC2 (rL (zD 1)) (zD 2)) zQ)) [.v (.str S),.v (.dct ks l),.v (.str s)]=some (prD (s,e)):=yT (zF rfl (zF e2 zT)) (by show 2<=100;decide)
  rw[List.map_cons]
  unfold jD
  rw[e1,Option.bind_some,e3,Option.bind_some]
  by_cases c:srt e=S
  ·refine⟨(s,e)::ps,fun p hp=>?_,by rw[List.length_cons,List.length_cons];lia,?_⟩
   ·rcases List.mem_cons.mp hp with rfl|hp
    ·exact⟨he,c⟩
    ·exact q1 p hp
   ·rw[decide_eq_true c,if_pos rfl,e4,Option.bind_some,q3];rfl
  ·refine⟨ps,q1,by rw[List.length_cons];lia,?_⟩
   rw[decide_eq_false c,if_neg (by decide),q3]
theorem bB(env:Env)(hl:env.length<=60){S:List Nat}(hS:PyData.strOk ⟨S.toArray⟩=true):∃ps:List (List Nat×Ent),(∀p∈ps,lk env p.1=some p.2/\srt p.2=S)/\ps.length<=60/\∃as,xD [.v (bF env),.v (.str S)]=some (.v (.lst (ps.map prD)),as):=by
 obtain⟨ss,l,x',y',q1,q2,q3,q4⟩:=cA (E:=.v (bF env)) (S:=.v (.str S)) env [] [] [] .un .un trivial trivial rfl (fun s=>rfl) (by simp;lia)
 rw[List.nil_append] at q3
 rw[List.length_nil,Nat.zero_add] at q2
 have hin:∀s∈JZ ss,∃e,lk env s=some e:=fun s hs=>by
  have hm:ky s∈ss.map ky:=List.mem_map.mpr ⟨s,WG hs,rfl⟩
  obtain⟨d,hd⟩:=uS (ss.map ky) l (by rw[List.length_map];exact q1) hm
  rw[q3 s] at hd
  cases he:lk env s with
  |none=>rw[he] at hd;cases hd
  |some e=>exact⟨e,rfl⟩
 obtain⟨ps,p1,p2,p3⟩:=cB (ks:=ss.map ky) (l:=l) (env:=env) (S:=S) hS q3 (JZ ss) .un trivial hin
 rw[dE] at p2
 refine⟨ps,p1,by lia,kN (r':=[.v (bF env),.v (.str S),.v (.dct (ss.map ky) l),x',y']) ?_⟩
 show wR [.v (bF env),.v (.str S),.un,.un,.un]=_
 unfold wR
 rw[yH (r':=[.v (bF env),.v (.str S),.d [] [],.un,.un]) (by rfl)]
 have s1:mX (wY 2 (zX (yQ 3) (zX (yQ 4) qF))) (mIt (zD 0)) zFE [.v (bF env),.v (.str S),.d [] [],.un,.un]=some (.nx [.v (bF env),.v (.str S),.d (ss.map ky) l,x',y']):=by
  unfold mX
  rw[show mIt (zD 0) [.v (bF env),.v (.str S),.d [] [],.un,.un]=some (env.map prD) from rfl]
  exact q4
 unfold zFE at s1
 rw[yH s1]
 show jL _ [.v (bF env),.v (.str S),.v (.dct (ss.map ky) l),x',y']=_
 refine j4 ?_
 have it:mIt (qI (zC0 (rL (zD 2)))) [.v (bF env),.v (.str S),.v (.dct (ss.map ky) l),x',y']=some ((JZ ss).map .str):=by
  unfold mIt qI zC0
  rw[show rL (zD 2) [.v (bF env),.v (.str S),.v (.dct (ss.map ky) l),x',y']=some (ss.map ky,l) from rfl,Option.bind_some]
  show(Option.map D.lst ((oY (ss.map ky)).bind _)).bind Q7=_
  rw[oX,Option.bind_some,if_pos (by lia)];rfl
 unfold qI xZ at *
 rw[it,Option.bind_some,if_pos (by rw[List.length_map,dE];exact wW (by lia)),show rM [1,2] 3 [.v (bF env),.v (.str S),.v (.dct (ss.map ky) l),x',y']=[.v (.str S),.v (.dct (ss.map ky) l),.un] from rfl,p3];rfl
noncomputable def zIP(df:D):Ent->D->Prop
 |.num i,v=>v=.int i/\x4 i
 |.fun a b c,v=>∃(y:List Nat) (body:D) (ks:List Key) (l:List D) (t:Nat),v=.tup [.str [102,110],.str y,body,.dct ks l]/\ks.length<=1000/\t<=10+20*c/\c<=2/\∀i:Int,x4 i->Ev df (.dct (qK ks l (ky y) (.int i)).1 (qK ks l (ky y) (.int i)).2) body c (.int ((a*i+b) % 1000000)) t (10+5*c)
structure EnvR(df:D)(env:Env)(ks:List Key)(l:List D):Prop where
 len:ks.length=l.length
 le:ks.length<=env.length
 at_:∀s e,lk env s=some e->∃v,yS ks l (ky s)=some v/\zIP df e v
 no:∀s,lk env s=none->yS ks l (ky s)=none
theorem XF(df:D):EnvR df [] [] []:=⟨rfl,Nat.le_refl _,(fun s e h=>by cases h),fun s h=>rfl⟩
theorem EnvR.push{df:D}{env:Env}{ks:List Key}{l:List D}{x:List Nat}{e:Ent}{v:D}(h:EnvR df env ks l)(hv:zIP df e v):EnvR df (env++[(x,e)]) (qK ks l (ky x) v).1 (qK ks l (ky x) v).2:=by
 have pl:=YJ h.len (ky x) v
 refine⟨pl.1,by rw[List.length_append];have:=h.le;show _<=env.length+1;lia,fun s e' hs=>?_,fun s hs=>?_⟩
 ·rw[nY] at hs
  rw[uT h.len]
  by_cases c:x=s
  ·rw[if_pos c] at hs;cases hs
   rw[if_pos (by rw[c])];exact⟨v,rfl,hv⟩
  ·rw[if_neg c] at hs
   rw[if_neg (fun z=>c (nZ z))];exact h.at_ s e' hs
 ·rw[nY] at hs
  rw[uT h.len]
  by_cases c:x=s
  ·rw[if_pos c] at hs;cases hs
  ·rw[if_neg c] at hs
   rw[if_neg (fun z=>c (nZ z))];exact h.no s hs
noncomputable def ItemOk(df:D)(env:Env)(told:Ex)(ent:Ent)(c T:Nat):Prop:=∀ks l,EnvR df env ks l->∀d,Mk told d->∃v t,t<=T/\Ev df (.dct ks l) d c v t 60/\zIP df ent v
theorem qG(x:Int):x4 (x % 1000000):=⟨Int.emod_nonneg _ (by decide),Int.emod_lt_of_pos _ (by decide)⟩
theorem o6{i:Int}(h:x4 i):i % 1000000=i:=Int.emod_eq_of_lt h.1 h.2
inductive Leaf (env:Env):Ex->Int->Prop
 |num {i:Int} (h:x4 i):Leaf env (.num i) i
 |nm {s:List Nat} {i:Int} (h:lk env s=some (.num i)):Leaf env (.nm s) i
section
variable{df:D}{env:Env}
theorem pM{e:Ex}{i:Int}(h:Leaf env e i){ks:List Key}{l:List D}(hr:EnvR df env ks l){d:D}(hd:Mk e d):Ev df (.dct ks l) d 0 (.int i) 2 2/\x4 i:=by
 cases h with
 |num hi=>cases hd with|num _ m=>exact⟨JH i m,hi⟩
 |nm hs=>
  cases hd with
  |nm _ m=>
   obtain⟨v,h1,rfl,h3⟩:=hr.at_ _ _ hs
   exact⟨qX m h1,h3⟩
theorem ZG{e:Ex}{i:Int}(h:Leaf env e i):ItemOk df env e (.num i) 0 60:=fun ks l hr d hd=>by
 obtain⟨q1,q2⟩:=pM h hr hd
 exact⟨_,2,by decide,q1.mono (by decide),rfl,q2⟩
theorem ZF{e:Ex}{i k:Int}(h:Leaf env e i)(hk:x4 k):ItemOk df env (.two [43] e (.num k)) (.num ((i+k) % 1000000)) 0 60:=fun ks l hr d hd=>by
 cases hd with
 |two m ha hb=>
  obtain⟨q1,q2⟩:=pM h hr ha
  cases hb with
  |num _ m'=>exact⟨_,2+2+2,by decide,(zDM (W:=[43]) (.inl rfl) q2 hk q1 (JH k m')).mono (by decide),rfl,qG _⟩
theorem Q8{e:Ex}{i a b:Int}{c:Nat}{f:List Nat}(h:Leaf env e i)(hf:lk env f=some (.fun a b c)):ItemOk df env (.doo (.nm f) e) (.num ((a*i+b) % 1000000)) (c+1) 100:=fun ks l hr d hd=>by
 cases hd with
 |doo m ha hb=>
  obtain⟨q1,q2⟩:=pM h hr hb
  cases ha with
  |nm _ m'=>
   obtain⟨v,h1,y,body,ks',l',t,rfl,h3,h4,h6,h5⟩:=hr.at_ _ _ hf
   have q:=zAB (m:=m) (h:=20) (by lia) ((qX (df:=df) m' h1).mono (by decide)) (q1.mono (by decide)) ((h5 i q2).mono (by lia))
   rw[show 0+0+1+c=c+1 by lia] at q
   exact⟨_,_,by lia,q.mono (by decide),rfl,qG _⟩
theorem Y8{y:List Nat}{body:Ex}{a b:Int}{t:Nat}(ht:t<=10)(hl:env.length<=900)(h:∀(ks:List Key) (l:List D) (d:D),EnvR df env ks l->Mk body d->∀i:Int,x4 i->Ev df (.dct (qK ks l (ky y) (.int i)).1 (qK ks l (ky y) (.int i)).2) d 0 (.int ((a*i+b) % 1000000)) t 10):ItemOk df env (.fn y body) (.fun a b 0) 0 60:=fun ks l hr d hd=>by
 cases hd with
 |fn _ m hb=>exact⟨_,2,by decide,(zDN y _ m).mono (by decide),y,_,ks,l,t,rfl,by have:=hr.le;lia,ht,by decide,fun i hi=>h ks l _ hr hb i hi⟩
theorem oK{ks:List Key}{l:List D}(hr:EnvR df env ks l){y s:List Nat}{i:Int}:yS (qK ks l (ky y) (.int i)).1 (qK ks l (ky y) (.int i)).2 (ky s)=if y=s then some (.int i) else yS ks l (ky s):=by
 rw[uT hr.len]
 by_cases c:y=s
 ·rw[if_pos c,if_pos (by rw[c])]
 ·rw[if_neg c,if_neg (fun z=>c (nZ z))]
noncomputable def ar(e:Ex)(y:List Nat)(i v:Int):Int:=match e with
 |.nm s=>if s=y then i else v
 |_=>v
theorem JU(y:List Nat)(i v:Int):ar (.nm y) y i v=i:=if_pos rfl
theorem JV{e:Ex}{y:List Nat}(h:e≠.nm y)(i v:Int):ar e y i v=v:=by
 cases e with
 |nm s=>exact if_neg (fun z=>h (by rw[z]))
 |_=>rfl
theorem mU{e:Ex}{v:Int}(h:Leaf env e v){y:List Nat}{ks:List Key}{l:List D}(hr:EnvR df env ks l){d:D}(hd:Mk e d){i:Int}(hi:x4 i):Ev df (.dct (qK ks l (ky y) (.int i)).1 (qK ks l (ky y) (.int i)).2) d 0 (.int (ar e y i v)) 2 2/\x4 (ar e y i v):=by
 cases h with
 |num hv=>
  cases hd with
  |num _ m=>exact⟨JH v m,hv⟩
 |nm hs=>
  rename_i s
  cases hd with
  |nm _ m=>
   by_cases c:y=s
   ·subst c
    rw[JU]
    exact⟨qX m (by rw[oK hr,if_pos rfl]),hi⟩
   ·rw[JV (fun z=>c (Ex.nm.inj z).symm)]
    obtain⟨w,h1,rfl,h3⟩:=hr.at_ _ _ hs
    exact⟨qX m (by rw[oK hr,if_neg c];exact h1),h3⟩
theorem n9{e:Ex}{v:Int}(h:Leaf env e v)(hl:env.length<=900)(y:List Nat){o b:Int}(ho:(e=.nm y->o=1/\b=0)/\(e≠.nm y->o=0/\b=v)):ItemOk df env (.fn y e) (.fun o b 0) 0 60:=by
 refine Y8 (t:=2) (by decide) hl fun ks l d hr hd i hi=>?_
 obtain⟨q1,q2⟩:=mU h (y:=y) hr hd hi
 have q:(o*i+b) % 1000000=ar e y i v:=by
  by_cases c:e=.nm y
  ·obtain⟨rfl,rfl⟩:=ho.1 c
   rw[c,JU,show(1:Int)*i+0=i by lia];exact o6 hi
  ·obtain⟨rfl,rfl⟩:=ho.2 c
   rw[JV c] at q2 ⊢;rw[show(0:Int)*i+b=b by lia];exact o6 q2
 rw[q];exact q1.mono (by decide)
theorem Q9{e:Ex}{v:Int}(h:Leaf env e v)(hl:env.length<=900)(y:List Nat){o b:Int}(ho:(e=.nm y->o=1/\b=0)/\(e≠.nm y->o=0/\b=v)):ItemOk df env (.fn y (.two [43] (.nm y) e)) (.fun (1+o) b 0) 0 60:=by
 refine Y8 (t:=2+2+2) (by decide) hl fun ks l d hr hd i hi=>?_
 cases hd with
 |two m ha hb=>
  cases ha with
  |nm _ m'=>
   obtain⟨q1,q2⟩:=mU h (y:=y) hr hb hi
   have q:=zDM (m:=m) (W:=[43]) (.inl rfl) hi q2 (qX (df:=df) m' (by rw[oK hr,if_pos rfl])) q1
   have qe:((1+o)*i+b) % 1000000=wk [43] i (ar e y i v):=by
    show _=(i+_) % 1000000
    by_cases c:e=.nm y
    ·obtain⟨rfl,rfl⟩:=ho.1 c
     rw[c,JU];congr 1;lia
    ·obtain⟨rfl,rfl⟩:=ho.2 c
     rw[JV c];congr 1;lia
   rw[qe];exact q.mono (by decide)
theorem zCP(a b x:Int):(a*(x % 1000000)+b) % 1000000=(a*x+b) % 1000000:=by
 rw[Int.add_emod,Int.mul_emod,Int.emod_emod_of_dvd x (Int.dvd_refl _),<-Int.mul_emod,<-Int.add_emod]
theorem n8{y f:List Nat}{a b:Int}(hf:lk env f=some (.fun a b 0))(hy:y≠f)(hl:env.length<=900):ItemOk df env (.fn y (.doo (.nm f) (.doo (.nm f) (.nm y)))) (.fun (a*a) (a*b+b) 2) 0 60:=fun ks l hr d hd=>by
 cases hd with
 |fn _ m hb=>
  obtain⟨v,h1,y',body,ks',l',t,rfl,h3,h4,h6,h5⟩:=hr.at_ _ _ hf
  cases hb with
  |doo m1 ha hb=>
   cases ha with
   |nm _ m2=>
    cases hb with
    |doo m3 ha hb=>
     cases ha with
     |nm _ m4=>
      cases hb with
      |nm _ m5=>
       refine⟨_,2,by decide,(zDN y _ m).mono (by decide),y,_,ks,l,2+(2+2+t+2)+t+2,rfl,by have:=hr.le;lia,?_,by decide,fun i hi=>?_⟩
       rotate_left
       ·have hg:∀m,Ev df (.dct (qK ks l (ky y) (.int i)).1 (qK ks l (ky y) (.int i)).2) (.tup [.str [110,97,109,101],.str f,m]) 0 (.tup [.str [102,110],.str y',body,.dct ks' l']) 2 2:=fun m=>qX m (by rw[oK hr,if_neg hy];exact h1)
        have hv:Ev df (.dct (qK ks l (ky y) (.int i)).1 (qK ks l (ky y) (.int i)).2) (.tup [.str [110,97,109,101],.str y,m5]) 0 (.int i) 2 2:=qX m5 (by rw[oK hr,if_pos rfl])
        have q1:=zAB (m:=m3) (h:=10) (by lia) ((hg m4).mono (by decide)) (hv.mono (by decide)) (h5 i hi)
        have q2:=zAB (m:=m1) (h:=13) (by lia) ((hg m2).mono (by decide)) q1 ((h5 _ (qG _)).mono (by decide))
        have e:(a*a*i+(a*b+b)) % 1000000=(a*((a*i+b) % 1000000)+b) % 1000000:=by
         rw[zCP];congr 1
         rw[Int.mul_add,Int.mul_assoc,Int.add_assoc]
        rw[e]
        exact q2.mono (by decide)
       ·show 2+(2+2+t+2)+t+2<=10+20*2;lia
end
structure NmC(s:List Nat):Prop where
 len:s.length<=9
 ch:∀x∈s,x<1114112
theorem NmC.ok{s:List Nat}(h:NmC s):PyData.strOk ⟨s.toArray⟩=true:=by
 show Array.all _ _=true
 rw[Array.all_eq_true']
 intro x hx
 exact decide_eq_true (h.ch x (by simpa using hx))
noncomputable def X5:Ent->Prop
 |.num v=>x4 v
 |.fun a b c=>0<=a/\a<=4/\c<=2/\(c=0->a<=2)
structure EnvOk(env:Env):Prop where
 len:env.length<=60
 at_:∀s e,lk env s=some e->NmC s/\X5 e
noncomputable def gr:Ex->Prop
 |.num n=>x4 n
 |.two w a b=>wd w/\gr a/\gr b
 |.nm s=>NmC s
 |.fn x e=>NmC x/\gr e
 |.doo f a=>gr f/\gr a
structure Ly(d:D)(n:Nat):Prop where
 ok:okD d=true
 cl:(toP d).canLay0=true
 dp:(toP d).depth<=n
structure LyL(l:List D)(n:Nat):Prop where
 ok:zCD l=true
 cl:PyData.canLayAll0 (nB l)=true
 dp:PyData.depthAll (nB l)<=n
theorem kO{n:Nat}:LyL [] n:=⟨rfl,rfl,Nat.zero_le _⟩
theorem xJ{d:D}{l:List D}{n m:Nat}(h:Ly d m)(hl:LyL l n)(hm:m<=n):LyL (d::l) n:=by
 refine⟨?_,?_,?_⟩
 ·show(okD d && zCD l)=true;rw[h.ok,hl.ok];rfl
 ·show((toP d).canLay0 && PyData.canLayAll0 (nB l))=true;rw[h.cl,hl.cl];rfl
 ·show max (toP d).depth (PyData.depthAll (nB l))<=n;have:=h.dp;have:=hl.dp;lia
theorem nX{l:List D}{n:Nat}(h:LyL l n):Ly (.tup l) (n+1):=⟨h.ok,h.cl,Nat.succ_le_succ h.dp⟩
theorem zC4{l:List D}{n:Nat}(h:LyL l n):Ly (.lst l) (n+1):=⟨h.ok,h.cl,Nat.succ_le_succ h.dp⟩
theorem cS(i:Int):Ly (.int i) 0:=⟨rfl,rfl,Nat.le_refl _⟩
theorem cR{s:List Nat}(h:PyData.strOk ⟨s.toArray⟩=true):Ly (.str s) 0:=⟨rfl,h,Nat.le_refl _⟩
theorem Ly.n{d:D}{n:Nat}(h:Ly d n)(hn:n<=400):Y5 400 d=true:=by
 unfold Y5
 rw[h.ok,h.cl,decide_eq_true (Nat.le_trans h.dp hn)];rfl
theorem zJR{p:List Nat×Ent}(h:NmC p.1):Ly (prD p) 2:=by
 refine nX (n:=1) (xJ (cR h.ok) (xJ (m:=1) ?_ kO (Nat.le_refl _)) (by decide))
 cases hp:p.2 with
 |num v=>exact nX (n:=0) (xJ (cR (nC (.num v))) (xJ (cS v) kO (Nat.le_refl _)) (Nat.le_refl _))
 |«fun» a b c=>exact nX (n:=0) (xJ (cR (nC (.fun a b c))) (xJ (cS a) (xJ (cS b) (xJ (cS _) kO (Nat.le_refl _)) (Nat.le_refl _)) (Nat.le_refl _)) (Nat.le_refl _))
theorem zC3:∀{ps:List (List Nat×Ent)},(∀p∈ps,NmC p.1)->LyL (ps.map prD) 2
 |[],h=>kO
 |p::ps,h=>xJ (zJR (h p (by simp))) (zC3 fun q hq=>h q (by simp[hq])) (Nat.le_refl _)
theorem nR{f:ME}{r:En}{ps:List (List Nat×Ent)}(hp:∀p∈ps,NmC p.1)(h:f r=some (.lst (ps.map prD))):mBl (zG (neN 400) f (qI (xB zQ))) r=some (!ps.isEmpty):=by
 refine kW (zV (y:=.lst []) h rfl ?_)
 unfold neN
 rw[if_pos ⟨(zC4 (zC3 hp)).n (by decide),(zC4 (kO (n:=0))).n (by decide)⟩]
 cases ps with
 |nil=>rfl
 |cons p ps=>rfl
theorem zCH(a b:List Nat)(ha:PyData.strOk ⟨a.toArray⟩=true)(hb:PyData.strOk ⟨b.toArray⟩=true):neN 400 (.str a) (.str b)=some (.bl (!decide (a=b))):=by
 have q:=pY a b ha hb
 unfold eqN at q
 unfold neN
 rw[if_pos ⟨(cR ha).n (by decide),(cR hb).n (by decide)⟩] at q ⊢
 have q2:=Option.some.inj q
 rw[D.bl.inj q2]
theorem zJB{ps:List (List Nat×Ent)}(h:ps≠[]){r:En}{f g:ME}{n:Int}(hf:f r=some (.lst (ps.map prD)))(hg:g r=some (.int n)):∃p∈ps,zG ixD f (zG xX g (mUn bV f)) r=some (prD p):=by
 have l0:0<ps.length:=List.length_pos_iff.mpr h
 have hl:mUn bV f r=some (.int (ps.length:Int)):=bG hf (by show some (D.int ((ps.map prD).length:Int))=_;rw[List.length_map])
 have m0:0<=n % (ps.length:Int):=Int.emod_nonneg _ (by lia)
 have m1:n % (ps.length:Int)<ps.length:=Int.emod_lt_of_pos _ (by lia)
 obtain⟨j,hj⟩:=Int.eq_ofNat_of_zero_le m0
 have jl:j<ps.length:=by lia
 refine⟨ps[j],List.getElem_mem jl,zV hf (xP hg hl (by lia)) ?_⟩
 rw[hj]
 show atI (ps.map prD) (j:Int)=_
 refine xG ?_
 rw[List.getElem?_map,List.getElem?_eq_getElem jl];rfl
structure Itm(env:Env)(told:Ex)(ent:Ent)(c:Nat):Prop where
 g:gr told
 d:dp told<=3
 n:nd told<=8
 e:X5 ent
 ok:∀df,ItemOk df env told ent c 100
 cb:c<=3
noncomputable def itD(told:Ex)(ent:Ent)(c:Nat):D:=.tup [toD told,w6 ent,.int (c:Int)]
theorem ItemOk.mono{df:D}{env:Env}{told:Ex}{ent:Ent}{c T T':Nat}(h:ItemOk df env told ent c T)(hT:T<=T'):ItemOk df env told ent c T':=fun ks l hr d hd=>by
 obtain⟨v,t,h1,h2⟩:=h ks l hr d hd
 exact⟨v,t,Nat.le_trans h1 hT,h2⟩
theorem YA{e:Ent}(h:srt e=NUMB):∃v,e=.num v:=by
 cases e with
 |num v=>exact⟨v,rfl⟩
 |«fun» a b c=>exact absurd (show FUNC=NUMB from h) (by decide)
theorem YB{e:Ent}(h:srt e=FUNC):∃a b c,e=.fun a b c:=by
 cases e with
 |num v=>exact absurd (show NUMB=FUNC from h) (by decide)
 |«fun» a b c=>exact⟨a,b,c,rfl⟩
theorem zKN{r:En}:zG zEY (mC (.int 10)) (mC (.int 6)) r=some (.int 1000000):=rfl
theorem YT:PyData.strOk ⟨NUMB.toArray⟩=true:=nC (.num 0)
theorem XB:PyData.strOk ⟨FUNC.toArray⟩=true:=nC (.fun 0 0 0)
theorem Y4{env:Env}(he:EnvOk env){e:Ex}{i:Int}(h:Leaf env e i):gr e/\x4 i/\dp e=0/\nd e=1:=by
 cases h with
 |num h=>exact⟨h,h,rfl,rfl⟩
 |nm h=>exact⟨(he.at_ _ _ h).1,(he.at_ _ _ h).2,rfl,rfl⟩
theorem gQ{n:Int}(hn:0<=n){env:Env}(he:EnvOk env):∃told v c,Itm env told (.num v) c/\∃as,xT [.v (.int n),.v (bF env)]=some (.v (itD told (.num v) c),as):=by
 obtain⟨ps,p1,p2,p3⟩:=bB env he.len YT
 obtain⟨fs,f1,f2,f3⟩:=bB env he.len XB
 have pn:∀p∈ps,NmC p.1:=fun p hp=>(he.at_ _ _ (p1 p hp).1).1
 have fnn:∀p∈fs,NmC p.1:=fun p hp=>(he.at_ _ _ (f1 p hp).1).1
 let N:Sl:=.v (.int n)
 let Ev':Sl:=.v (bF env)
 let P:Sl:=.v (.lst (ps.map prD))
 let F:Sl:=.v (.lst (fs.map prD))
 let d0:Int:=n / 24 % 1000000
 have s0:x4 d0:=qG _
 let G3:MS:=(jL (yW (zA (zD 5) (zA (yW (zA (mC (.str [110,117,109,98,101,114])) (zA (zD 4) zQ))) (zA (zD 6) zQ)))))
 let G2:MS:=(z8 (sIf (wM (mBl (zG (neN 400) (zD 3) (qI (xB zQ)))) (mBl (zG eqA (zG xX (zD 0) (mC (.int 4))) (mC (.int 3))))) (z8 (rH (zG ixD (zD 3) (zG xX (zG xV (zD 0) (mC (.int 24))) (mUn bV (zD 3)))) (wY 2 (zX (yQ 7) (zX (yQ 8) qF)))) (z8 (xE 5 (yW (zA (mC (.str [100,111])) (zA (yW (zA (mC (.str [110,97,109,101])) (zA (zD 7) zQ))) (zA (zD 5) zQ))))) (z8 (xE 4 (zG xX (zG wI (zG vL (zG ixD (zD 8) (mC (.int 1))) (zD 4)) (zG ixD (zD 8) (mC (.int 2)))) (mC (.int 1000000)))) (xE 6 (zG wI (mC (.int 1)) (zG ixD (zD 8) (mC (.int 3)))))))) xY) G3)
 let G1:MS:=(z8 (sIf (mBl (zG eqA (zG xX (zD 0) (mC (.int 4))) (mC (.int 2)))) (z8 (xE 5 (yW (zA (mC (.str [43])) (zA (zD 5) (zA (yW (zA (mC (.str [110,117,109])) (zA (zG wI (mC (.int 1)) (zG xX (zG xV (zD 0) (mC (.int 24))) (mC (.int 7)))) zQ))) zQ))))) (xE 4 (zG xX (zG wI (zG wI (zD 4) (mC (.int 1))) (zG xX (zG xV (zD 0) (mC (.int 24))) (mC (.int 7)))) (mC (.int 1000000))))) xY) G2)
 let R:Ex->Int->Sl->Sl->En:=fun e i x7 x8=>[N,Ev',P,F,.v (.int i),.v (toD e),.v (.int 0),x7,x8]
 have step1:∃e i x7 x8,Leaf env e i/\fre x7/\fre x8/\∀z,G1 (R e i x7 x8)=z->xS [N,Ev',.un,.un,.un,.un,.un,.un,.un]=z:=by
  have start:∀z,z8 (sIf (wM (mBl (zG (neN 400) (zD 2) (qI (xB zQ)))) (mBl (zG gtD (zG xX (zD 0) (mC (.int 4))) (mC (.int 0))))) (z8 (rH (zG ixD (zD 2) (zG xX (zG xV (zD 0) (mC (.int 4))) (mUn bV (zD 2)))) (wY 2 (zX (yQ 7) (zX (yQ 8) qF)))) (z8 (xE 5 (yW (zA (mC (.str [110,97,109,101])) (zA (zD 7) zQ)))) (xE 4 (zG ixD (zD 8) (mC (.int 1)))))) xY) G1 (R (.num d0) d0 .un .un)=z->xS [N,Ev',.un,.un,.un,.un,.un,.un,.un]=z:=fun z h=>by
   unfold xS
   refine zZ (.lst (ps.map prD)) (r2:=[N,Ev',P,.un,.un,.un,.un,.un,.un]) (xL (p:=.v (.lst (ps.map prD))) (zF rfl (zF zI zT)) rfl p3) (by rfl) ?_
   refine zZ (.lst (fs.map prD)) (r2:=[N,Ev',P,F,.un,.un,.un,.un,.un]) (xL (p:=.v (.lst (fs.map prD))) (zF rfl (zF zI zT)) rfl f3) (by rfl) ?_
   refine zZ (.int d0) (r2:=[N,Ev',P,F,.v (.int d0),.un,.un,.un,.un]) (xP (wH rfl zI (by decide)) zKN (by decide)) (by rfl) ?_
   refine zZ (toD (.num d0)) (r2:=[N,Ev',P,F,.v (.int d0),.v (toD (.num d0)),.un,.un,.un]) (yT (zF zI (zF rfl zT)) (by show 2<=100;decide)) (by rfl) ?_
   exact zZ (.int 0) (r2:=R (.num d0) d0 .un .un) zI (by rfl) h
  have c1:mBl (zG (neN 400) (zD 2) (qI (xB zQ))) (R (.num d0) d0 .un .un)=some (!ps.isEmpty):=nR pn rfl
  have c2:mBl (zG gtD (zG xX (zD 0) (mC (.int 4))) (mC (.int 0))) (R (.num d0) d0 .un .un)=some (decide ((0:Int)<n % 4)):=zH6 (xP rfl zI (by decide)) zI
  by_cases hc:ps=[]\/¬(0:Int)<n % 4
  ·refine⟨.num d0,d0,.un,.un,.num s0,trivial,trivial,fun z h=>start z (j0 ?_ h)⟩
   unfold wM
   rw[c1,Option.bind_some]
   rcases hc with rfl|hc
   ·rfl
   ·rw[c2,decide_eq_false hc]
    cases ps.isEmpty<;>rfl
  ·have h1:ps≠[]:=fun z=>hc (.inl z)
   have h2:(0:Int)<n % 4:=Classical.byContradiction fun z=>hc (.inr z)
   obtain⟨p,hp,ep⟩:=zJB (r:=R (.num d0) d0 .un .un) (f:=zD 2) (g:=zG xV (zD 0) (mC (.int 4))) (n:=n / 4) h1 rfl (wH rfl zI (by decide))
   obtain⟨v,hv⟩:=YA (p1 p hp).2
   have lp:=(p1 p hp).1
   rw[hv] at lp
   refine⟨.nm p.1,v,.v (.str p.1),.v (w6 p.2),.nm lp,trivial,trivial,fun z h=>start z ?_⟩
   have ct:wM (mBl (zG (neN 400) (zD 2) (qI (xB zQ)))) (mBl (zG gtD (zG xX (zD 0) (mC (.int 4))) (mC (.int 0)))) (R (.num d0) d0 .un .un)=some true:=by
    unfold wM
    rw[c1,Option.bind_some,show(!ps.isEmpty)=true by cases ps with|nil=>exact absurd rfl h1|cons=>rfl,if_pos rfl,c2,decide_eq_true h2]
   rw[yH (r':=R (.nm p.1) v (.v (.str p.1)) (.v (w6 p.2))) ?_]
   ·exact h
   ·rw[mW ct]
    rw[yH (r':=R (.num d0) d0 (.v (.str p.1)) (.v (w6 p.2))) (by
     unfold rH
     rw[ep];rfl)]
    refine zZ (toD (.nm p.1)) (r2:=[N,Ev',P,F,.v (.int d0),.v (toD (.nm p.1)),.v (.int 0),.v (.str p.1),.v (w6 p.2)]) (yT (zF zI (zF rfl zT)) (by show 2<=100;decide)) (by rfl) ?_
    refine wL (d:=.int v) (zV (x:=w6 p.2) rfl zI ?_) (by rfl)
    rw[hv];exact xG (j:=1) rfl
 obtain⟨e,i,x7,x8,hle,h7,h8,e1⟩:=step1
 obtain⟨g1,g2,g3,g4⟩:=Y4 he hle
 have mm:zG xX (zD 0) (mC (.int 4)) (R e i x7 x8)=some (.int (n % 4)):=xP rfl zI (by decide)
 have q2:mBl (zG eqA (zG xX (zD 0) (mC (.int 4))) (mC (.int 2))) (R e i x7 x8)=some (decide (n % 4=2)):=kW (zV mm zI rfl)
 have fin:∀(told:Ex) (v:Int) (c:Nat) (a b:Sl),G3 [N,Ev',P,F,.v (.int v),.v (toD told),.v (.int (c:Int)),a,b]=some (.rt (itD told (.num v) c) [N,Ev',P,F,.v (.int v),.v (toD told),.v (.int (c:Int)),a,b]):=fun told v c a b=>j4 (yT (zF rfl (zF (yT (zF zI (zF rfl zT)) (by show 2<=100;decide)) (zF rfl zT))) (by show 3<=100;decide))
 have last:∀(e':Ex) (i':Int),n % 4≠3\/fs=[]->G2 (R e' i' x7 x8)=some (.rt (itD e' (.num i') 0) (R e' i' x7 x8)):=fun e' i' h=>by
  refine j0 ?_ (fin e' i' 0 x7 x8)
  have c1:mBl (zG (neN 400) (zD 3) (qI (xB zQ))) (R e' i' x7 x8)=some (!fs.isEmpty):=nR fnn rfl
  have c2:mBl (zG eqA (zG xX (zD 0) (mC (.int 4))) (mC (.int 3))) (R e' i' x7 x8)=some (decide (n % 4=3)):=kW (zV (xP (i:=n) (j:=4) rfl zI (by decide)) zI rfl)
  unfold wM
  rw[c1,Option.bind_some]
  rcases h with h|rfl
  ·rw[c2,decide_eq_false h]
   cases fs.isEmpty<;>rfl
  ·rfl
 by_cases h2:n % 4=2
 ·
  have k0:0<=n / 24 % 7:=Int.emod_nonneg _ (by decide)
  have k7:n / 24 % 7<7:=Int.emod_lt_of_pos _ (by decide)
  have sk:x4 (1+n / 24 % 7):=⟨by lia,by lia⟩
  refine⟨.two [43] e (.num (1+n / 24 % 7)),(i+(1+n / 24 % 7)) % 1000000,0,⟨⟨.inl rfl,g1,sk⟩,by show max (dp e) 0+1<=3;lia,by show 1+nd e+1<=8;lia,qG _,fun df=>(ZF hle sk).mono (by decide),by decide⟩,kN (r':=R (.two [43] e (.num (1+n / 24 % 7))) ((i+(1+n / 24 % 7)) % 1000000) x7 x8) (e1 _ ?_)⟩
  show z8 _ _ _=_
  rw[decide_eq_true h2] at q2
  rw[yH (r':=R (.two [43] e (.num (1+n / 24 % 7))) ((i+(1+n / 24 % 7)) % 1000000) x7 x8) ?_]
  ·exact last _ _ (.inl (by lia))
  ·rw[mW q2]
   refine zZ (toD (.two [43] e (.num (1+n / 24 % 7)))) (r2:=[N,Ev',P,F,.v (.int i),.v (toD (.two [43] e (.num (1+n / 24 % 7)))),.v (.int 0),x7,x8]) (yT (zF zI (zF rfl (zF (yT (zF zI (zF (xQ zI (xP (wH rfl zI (by decide)) zI (by decide))) zT)) (by show 2<=100;decide)) zT))) (by show 3<=100;decide)) (by rfl) ?_
   refine wL (d:=.int ((i+(1+n / 24 % 7)) % 1000000)) ?_ (by rfl)
   rw[show i+(1+n / 24 % 7)=i+1+n / 24 % 7 by lia]
   exact xP (xQ (xQ rfl zI) (xP (wH rfl zI (by decide)) zI (by decide))) zI (by decide)
 ·rw[decide_eq_false h2] at q2
  by_cases h3:n % 4≠3\/fs=[]
  ·exact⟨e,i,0,⟨g1,by lia,by lia,g2,fun df=>(ZG hle).mono (by decide),by decide⟩,kN (e1 _ (j0 q2 (last e i h3)))⟩
  ·have h4:n % 4=3:=Classical.byContradiction fun z=>h3 (.inl z)
   have h5:fs≠[]:=fun z=>h3 (.inr z)
   obtain⟨p,hp,ep⟩:=zJB (r:=R e i x7 x8) (f:=zD 3) (g:=zG xV (zD 0) (mC (.int 24))) (n:=n / 24) h5 rfl (wH rfl zI (by decide))
   obtain⟨a,b,c,hv⟩:=YB (f1 p hp).2
   have lp:=(f1 p hp).1
   rw[hv] at lp
   have ek:=(he.at_ _ _ lp)
   refine⟨.doo (.nm p.1) e,(a*i+b) % 1000000,c+1,⟨⟨ek.1,g1⟩,by show max 0 (dp e)+1<=3;lia,by show 1+1+nd e<=8;lia,qG _,fun df=>Q8 hle lp,by have:=ek.2;unfold X5 at this;lia⟩,kN (r':=[N,Ev',P,F,.v (.int ((a*i+b) % 1000000)),.v (toD (.doo (.nm p.1) e)),.v (.int ((c+1:Nat):Int)),.v (.str p.1),.v (w6 p.2)]) (e1 _ (j0 q2 ?_))⟩
   show z8 _ _ _=_
   have ct:wM (mBl (zG (neN 400) (zD 3) (qI (xB zQ)))) (mBl (zG eqA (zG xX (zD 0) (mC (.int 4))) (mC (.int 3)))) (R e i x7 x8)=some true:=by
    have c1:mBl (zG (neN 400) (zD 3) (qI (xB zQ))) (R e i x7 x8)=some (!fs.isEmpty):=nR fnn rfl
    have c2:mBl (zG eqA (zG xX (zD 0) (mC (.int 4))) (mC (.int 3))) (R e i x7 x8)=some (decide (n % 4=3)):=kW (zV mm zI rfl)
    unfold wM
    rw[c1,Option.bind_some,show(!fs.isEmpty)=true by cases fs with|nil=>exact absurd rfl h5|cons=>rfl,if_pos rfl,c2,decide_eq_true h4]
   let T:D:=toD (.doo (.nm p.1) e)
   let W:Int:=(a*i+b) % 1000000
   rw[yH (r':=[N,Ev',P,F,.v (.int W),.v T,.v (.int ((c+1:Nat):Int)),.v (.str p.1),.v (w6 p.2)]) ?_]
   ·exact fin _ _ _ _ _
   ·rw[mW ct]
    rw[yH (r':=R e i (.v (.str p.1)) (.v (w6 p.2))) (by
     unfold rH
     rw[ep,Option.bind_some,show prD p=.tup [.str p.1,w6 p.2] from rfl,bdP (r1:=R e i (.v (.str p.1)) x8) (r2:=R e i (.v (.str p.1)) (.v (w6 p.2))) (zY (i:=7) (x:=x7) rfl h7) (zY (i:=8) (x:=x8) rfl h8)];rfl)]
    have ex:∀(r:En) (j:Nat) (d:D),r[8]?=some (.v (w6 p.2))->([D.str FUNC,.int a,.int b,.int (c:Int)]:List D)[j]?=some d->zG ixD (zD 8) (mC (.int (j:Int))) r=some d:=fun r j d hr hj=>zV (x:=w6 p.2) (dX hr) zI (by rw[hv];exact xG hj)
    refine zZ T (r2:=[N,Ev',P,F,.v (.int i),.v T,.v (.int 0),.v (.str p.1),.v (w6 p.2)]) (yT (zF zI (zF (yT (zF zI (zF rfl zT)) (by show 2<=100;decide)) (zF rfl zT))) (by show 3<=100;decide)) (by rfl) ?_
    refine zZ (.int W) (r2:=[N,Ev',P,F,.v (.int W),.v T,.v (.int 0),.v (.str p.1),.v (w6 p.2)]) (xP (xQ (cP (ex _ 1 _ rfl rfl) rfl (by have:=ek.2;unfold X5 at this;lia)) (ex _ 2 _ rfl rfl)) zI (by decide)) (by rfl) ?_
    refine wL (d:=.int ((c+1:Nat):Int)) ?_ (by rfl)
    rw[show((c+1:Nat):Int)=1+(c:Int) by lia]
    exact xQ zI (ex _ 3 _ rfl rfl)
structure Nms(nms:List (List Nat)):Prop where
 len:nms.length=4
 nd:nms.Nodup
 ok:∀s∈nms,NmC s
theorem XC(f:List Nat):∀l:List (List Nat),l.Nodup->l.length<=(l.filter fun x=>!decide (x=f)).length+1
 |[],_=>Nat.zero_le _
 |a::l,h=>by
  rw[List.nodup_cons] at h
  have ih:=XC f l h.2
  by_cases c:a=f
  ·have e:(l.filter fun x=>!decide (x=f))=l:=List.filter_eq_self.mpr fun x hx=>by
    have:x≠f:=fun z=>h.1 (by rw[c,<-z];exact hx)
    simp[this]
   rw[List.filter_cons_of_neg (by simp[c]),e,List.length_cons];exact Nat.le_refl _
  ·rw[List.filter_cons_of_pos (by simp[c]),List.length_cons,List.length_cons];lia
theorem mK:∀(fs:List (List Nat×Ent)) (x:Sl),fre x->(∀p∈fs,srt p.2=FUNC)->∃fs0:List (List Nat×Ent),(∀p∈fs0,p∈fs/\∃a b,p.2=.fun a b 0)/\jD (yQ 0) (mBl (zG eqA (zG ixD (zG ixD (zD 0) (mC (.int 1))) (mC (.int 3))) (mC (.int 0)))) (zD 0) (fs.map prD) [x]=some (fs0.map prD)
 |[],x,hx,h=>⟨[],(fun _ z=>by cases z),rfl⟩
 |p::fs,x,hx,h=>by
  obtain⟨fs0,q1,q2⟩:=mK fs (.v (prD p)) trivial fun q hq=>h q (by simp[hq])
  obtain⟨a,b,c,hp⟩:=YB (h p (by simp))
  have e1:yQ 0 (prD p) [x]=some [.v (prD p)]:=zY (r:=[x]) rfl hx
  have e2:mBl (zG eqA (zG ixD (zG ixD (zD 0) (mC (.int 1))) (mC (.int 3))) (mC (.int 0))) [.v (prD p)]=some (decide ((c:Int)=0)):=by
   refine kW (zV (x:=.int (c:Int)) (y:=.int 0) (zV (x:=w6 p.2) (zV (x:=prD p) rfl zI (xG (j:=1) rfl)) zI ?_) zI rfl)
   rw[hp];exact xG (j:=3) rfl
  rw[List.map_cons]
  unfold jD
  rw[e1,Option.bind_some,e2,Option.bind_some]
  by_cases z:(c:Int)=0
  ·refine⟨p::fs0,fun q hq=>?_,?_⟩
   ·rcases List.mem_cons.mp hq with rfl|hq
    ·exact⟨by simp,a,b,by rw[hp,show c=0 by lia]⟩
    ·exact⟨List.mem_cons_of_mem _ (q1 q hq).1,(q1 q hq).2⟩
   ·rw[decide_eq_true z,if_pos rfl,show zD 0 [.v (prD p)]=some (prD p) from rfl,Option.bind_some,q2];rfl
  ·refine⟨fs0,fun q hq=>⟨List.mem_cons_of_mem _ (q1 q hq).1,(q1 q hq).2⟩,?_⟩
   rw[decide_eq_false z,if_neg (by decide),q2]
theorem b9{f:List Nat}(hf:NmC f):∀(l:List (List Nat)) (x:Sl),fre x->(∀s∈l,NmC s)->jD (yQ 1) (mBl (zG (neN 400) (zD 1) (zD 0))) (zD 1) (l.map .str) [.v (.str f),x]=some ((l.filter fun x=>!decide (x=f)).map .str)
 |[],x,hx,h=>rfl
 |s::l,x,hx,h=>by
  have ih:=b9 hf l (.v (.str s)) trivial fun q hq=>h q (by simp[hq])
  have e1:yQ 1 (.str s) [.v (.str f),x]=some [.v (.str f),.v (.str s)]:=zY (r:=[.v (.str f),x]) (i:=1) rfl hx
  have e2:mBl (zG (neN 400) (zD 1) (zD 0)) [.v (.str f),.v (.str s)]=some (!decide (s=f)):=kW (zV (x:=.str s) (y:=.str f) rfl rfl (zCH _ _ (h s (by simp)).ok hf.ok))
  rw[List.map_cons]
  unfold jD
  rw[e1,Option.bind_some,e2,Option.bind_some]
  by_cases c:s=f
  ·rw[decide_eq_true c,List.filter_cons_of_neg (by simp[c]),if_neg (by decide),ih]
  ·rw[decide_eq_false c,List.filter_cons_of_pos (by simp[c]),if_pos (by decide),show zD 1 [.v (.str f),.v (.str s)]=some (.str s) from rfl,Option.bind_some,ih];rfl
theorem WE{l:List (List Nat)}{r:En}{f g:ME}{i:Int}(hf:f r=some (.lst (l.map .str)))(hg:g r=some (.int i))(h0:0<=i)(h1:i<l.length):∃s∈l,zG ixD f g r=some (.str s):=by
 obtain⟨j,rfl⟩:=Int.eq_ofNat_of_zero_le h0
 have hj:j<l.length:=by lia
 refine⟨l[j],List.getElem_mem hj,zV hf hg ?_⟩
 show atI (l.map D.str) (j:Int)=_
 refine xG ?_
 rw[List.getElem?_map,List.getElem?_eq_getElem hj];rfl
theorem hU{n:Int}(hn:0<=n){env:Env}(he:EnvOk env){nms:List (List Nat)}(hN:Nms nms):∃told a b c,Itm env told (.fun a b c) 0/\∃as,xN [.v (.int n),.v (bF env),.v (.lst (nms.map .str))]=some (.v (itD told (.fun a b c) 0),as):=by
 obtain⟨ps,p1,p2,p3⟩:=bB env he.len YT
 obtain⟨fs,f1,f2,f3⟩:=bB env he.len XB
 obtain⟨f0,z1,z2⟩:=mK fs .un trivial fun p hp=>(f1 p hp).2
 have pn:∀p∈ps,NmC p.1:=fun p hp=>(he.at_ _ _ (p1 p hp).1).1
 have fnn:∀p∈f0,NmC p.1:=fun p hp=>(he.at_ _ _ (f1 p (z1 p hp).1).1).1
 have hl:env.length<=900:=Nat.le_trans he.len (by decide)
 let N:Sl:=.v (.int n)
 let E:Sl:=.v (bF env)
 let A:Sl:=.v (.lst (nms.map .str))
 let P:Sl:=.v (.lst (ps.map prD))
 let F:Sl:=.v (.lst (f0.map prD))
 have y4:0<=n / 3 % 4:=Int.emod_nonneg _ (by decide)
 have y5:n / 3 % 4<4:=Int.emod_lt_of_pos _ (by decide)
 obtain⟨y,hy,ey⟩:=WE (l:=nms) (r:=[N,E,A,P,F,.un,.un,.un,.un,.un,.un,.un]) (f:=zD 2) (g:=zG xX (zG xV (zD 0) (mC (.int 3))) (mC (.int 4))) (i:=n / 3 % 4) rfl (xP (wH rfl zI (by decide)) zI (by decide)) y4 (by rw[hN.len];exact y5)
 have yk:=hN.ok y hy
 let R:En:=[N,E,A,P,F,.v (.str y),.un,.un,.un,.un,.un,.un]
 let GA:MS:=(z8 (rH (zG ixD (zD 4) (zG xX (zG xV (zD 0) (mC (.int 12))) (mUn bV (zD 4)))) (wY 2 (zX (yQ 6) (zX (yQ 7) qF)))) (z8 (xE 5 (zG ixD (qI (xZ [6] 2 (mIt (zD 2)) (yQ 1) (mBl (zG (neN 400) (zD 1) (zD 0))) (zD 1))) (zG xX (zG xV (zD 0) (mC (.int 60))) (mC (.int 3))))) (z8 (xE 8 (yW (zA (mC (.str [102,110])) (zA (zD 5) (zA (yW (zA (mC (.str [100,111])) (zA (yW (zA (mC (.str [110,97,109,101])) (zA (zD 6) zQ))) (zA (yW (zA (mC (.str [100,111])) (zA (yW (zA (mC (.str [110,97,109,101])) (zA (zD 6) zQ))) (zA (yW (zA (mC (.str [110,97,109,101])) (zA (zD 5) zQ))) zQ)))) zQ)))) zQ))))) (jL (yW (zA (zD 8) (zA (yW (zA (mC (.str [102,117,110,99,116,105,111,110])) (zA (zG vL (zG ixD (zD 7) (mC (.int 1))) (zG ixD (zD 7) (mC (.int 1)))) (zA (zG wI (zG vL (zG ixD (zD 7) (mC (.int 1))) (zG ixD (zD 7) (mC (.int 2)))) (zG ixD (zD 7) (mC (.int 2)))) (zA (mC (.int 2)) zQ))))) (zA (mC (.int 0)) zQ))))))))
 let GR:MS:=(z8 (sIf (mBl (zG eqA (zG xX (zD 0) (mC (.int 3))) (mC (.int 1)))) (jL (yW (zA (yW (zA (mC (.str [102,110])) (zA (zD 5) (zA (zD 9) zQ)))) (zA (yW (zA (mC (.str [102,117,110,99,116,105,111,110])) (zA (mUn bZ (zD 11)) (zA (zG ixD (qI (xB (zA (zD 10) (zA (mC (.int 0)) zQ)))) (mUn bZ (zD 11))) (zA (mC (.int 0)) zQ))))) (zA (mC (.int 0)) zQ))))) xY) (jL (yW (zA (yW (zA (mC (.str [102,110])) (zA (zD 5) (zA (yW (zA (mC (.str [43])) (zA (yW (zA (mC (.str [110,97,109,101])) (zA (zD 5) zQ))) (zA (zD 9) zQ)))) zQ)))) (zA (yW (zA (mC (.str [102,117,110,99,116,105,111,110])) (zA (zG wI (mC (.int 1)) (mUn bZ (zD 11))) (zA (zG ixD (qI (xB (zA (zD 10) (zA (mC (.int 0)) zQ)))) (mUn bZ (zD 11))) (zA (mC (.int 0)) zQ))))) (zA (mC (.int 0)) zQ))))))
 let GC:MS:=(z8 (sIf (mBl (zG (neN 400) (zD 3) (qI (xB zQ)))) (z8 (rH (zG ixD (zD 3) (zG xX (zG xV (zD 0) (mC (.int 12))) (mUn bV (zD 3)))) (wY 2 (zX (yQ 6) (zX (yQ 7) qF)))) (z8 (xE 9 (yW (zA (mC (.str [110,97,109,101])) (zA (zD 6) zQ)))) (z8 (xE 10 (zG ixD (zD 7) (mC (.int 1)))) (xE 11 (zG (eqN 400) (zD 6) (zD 5)))))) xY) GR)
 let GB:MS:=(z8 (xE 9 (yW (zA (mC (.str [110,117,109])) (zA (zG xX (zG xV (zD 0) (mC (.int 60))) (zG zEY (mC (.int 10)) (mC (.int 6)))) zQ)))) (z8 (xE 10 (zG xX (zG xV (zD 0) (mC (.int 60))) (zG zEY (mC (.int 10)) (mC (.int 6))))) (z8 (xE 11 (mC (.bl false))) GC)))
 have start:∀z,z8 (sIf (wM (mBl (zG eqA (zG xX (zD 0) (mC (.int 3))) (mC (.int 0)))) (mBl (zG (neN 400) (zD 4) (qI (xB zQ))))) GA xY) GB R=z->xK [N,E,A,.un,.un,.un,.un,.un,.un,.un,.un,.un]=z:=fun z h=>by
  unfold xK
  refine zZ (.lst (ps.map prD)) (r2:=[N,E,A,P,.un,.un,.un,.un,.un,.un,.un,.un]) (xL (p:=.v (.lst (ps.map prD))) (zF rfl (zF zI zT)) rfl p3) (by rfl) ?_
  refine zZ (.lst (f0.map prD)) (r2:=[N,E,A,P,F,.un,.un,.un,.un,.un,.un,.un]) ?_ (by rfl) ?_
  ·have cb:yI 2 xD (zA (zD 1) (zA (mC (.str [102,117,110,99,116,105,111,110])) zQ)) [N,E,A,P,.un,.un,.un,.un,.un,.un,.un,.un]=some (.lst (fs.map prD)):=xL (p:=.v (.lst (fs.map prD))) (zF rfl (zF zI zT)) rfl f3
   have it:mIt (yI 2 xD (zA (zD 1) (zA (mC (.str [102,117,110,99,116,105,111,110])) zQ))) [N,E,A,P,.un,.un,.un,.un,.un,.un,.un,.un]=some (fs.map prD):=by
    unfold mIt
    rw[cb];rfl
   unfold qI xZ
   rw[it,Option.bind_some,if_pos (by rw[List.length_map];exact wW (by lia)),show rM [] 1 [N,E,A,P,.un,.un,.un,.un,.un,.un,.un,.un]=[.un] from rfl,z2];rfl
  exact zZ (.str y) (r2:=R) ey (by rfl) h
 have c1:mBl (zG eqA (zG xX (zD 0) (mC (.int 3))) (mC (.int 0))) R=some (decide (n % 3=0)):=kW (zV (xP (i:=n) (j:=3) rfl zI (by decide)) zI rfl)
 have c2:mBl (zG (neN 400) (zD 4) (qI (xB zQ))) R=some (!f0.isEmpty):=nR fnn rfl
 have tupl:∀(told:Ex) (a b:Int) (c:Nat) (ft fa fb fc:ME) (r:En),ft r=some (toD told)->fa r=some (.int a)->fb r=some (.int b)->fc r=some (.int (c:Int))->(jL (yW (zA ft (zA (yW (zA (mC (.str [102,117,110,99,116,105,111,110])) (zA fa (zA fb (zA fc zQ))))) (zA (mC (.int 0)) zQ))))) r=some (.rt (itD told (.fun a b c) 0) r):=fun told a b c ft fa fb fc r h1 h2 h3 h4=>j4 (yT (zF h1 (zF (yT (zF zI (zF h2 (zF h3 (zF h4 zT)))) (by show 4<=100;decide)) (zF zI zT))) (by show 3<=100;decide))
 by_cases hA:n % 3=0/\f0≠[]
 ·obtain⟨hA1,hA2⟩:=hA
  have ct:wM (mBl (zG eqA (zG xX (zD 0) (mC (.int 3))) (mC (.int 0)))) (mBl (zG (neN 400) (zD 4) (qI (xB zQ)))) R=some true:=by
   unfold wM
   rw[c1,decide_eq_true hA1,Option.bind_some,if_pos rfl,c2]
   cases f0 with
   |nil=>exact absurd rfl hA2
   |cons=>rfl
  obtain⟨p,hp,ep⟩:=zJB (r:=R) (f:=zD 4) (g:=zG xV (zD 0) (mC (.int 12))) (n:=n / 12) hA2 rfl (wH rfl zI (by decide))
  obtain⟨hp1,a,b,hv⟩:=z1 p hp
  have lp:=(f1 p hp1).1
  rw[hv] at lp
  have ek:=he.at_ _ _ lp
  let O:List (List Nat):=nms.filter fun x=>!decide (x=p.1)
  have oL:3<=O.length:=by have:=XC p.1 nms hN.nd;rw[hN.len] at this;show 3<=(nms.filter _).length;lia
  let R1:En:=[N,E,A,P,F,.v (.str y),.v (.str p.1),.v (w6 p.2),.un,.un,.un,.un]
  have q0:0<=n / 60 % 3:=Int.emod_nonneg _ (by decide)
  have q3:n / 60 % 3<3:=Int.emod_lt_of_pos _ (by decide)
  have co:qI (xZ [6] 2 (mIt (zD 2)) (yQ 1) (mBl (zG (neN 400) (zD 1) (zD 0))) (zD 1)) R1=some (.lst (O.map .str)):=by
   unfold qI xZ
   rw[show mIt (zD 2) R1=some (nms.map .str) from rfl,Option.bind_some,if_pos (by rw[List.length_map,hN.len];exact wW (by decide)),show rM [6] 2 R1=[.v (.str p.1),.un] from rfl,b9 ek.1 nms .un trivial hN.ok];rfl
  obtain⟨x,hx,ex⟩:=WE (l:=O) (r:=R1) (g:=zG xX (zG xV (zD 0) (mC (.int 60))) (mC (.int 3))) (i:=n / 60 % 3) co (xP (wH rfl zI (by decide)) zI (by decide)) q0 (by lia)
  have hx2:=List.mem_filter.mp hx
  have xf:x≠p.1:=by have:=hx2.2;simpa using this
  have xk:=hN.ok x hx2.1
  let T:Ex:=.fn x (.doo (.nm p.1) (.doo (.nm p.1) (.nm x)))
  let R2:En:=[N,E,A,P,F,.v (.str x),.v (.str p.1),.v (w6 p.2),.un,.un,.un,.un]
  let R3:En:=[N,E,A,P,F,.v (.str x),.v (.str p.1),.v (w6 p.2),.v (toD T),.un,.un,.un]
  have ek2:=ek.2
  unfold X5 at ek2
  have a2:0<=a*a/\a*a<=4:=⟨Int.mul_nonneg ek2.1 ek2.1,Int.le_trans (Int.mul_le_mul (ek2.2.2.2 rfl) (ek2.2.2.2 rfl) ek2.1 (by decide)) (by decide)⟩
  refine⟨T,a*a,a*b+b,2,⟨⟨xk,ek.1,ek.1,xk⟩,by show max 0 (max 0 0+1)+1+1<=3;decide,by show 1+(1+1+(1+1+1))<=8;decide,⟨a2.1,a2.2,by decide,fun z=>by cases z⟩,fun df=>(n8 lp xf hl).mono (by decide),by decide⟩,kN (r':=R3) (start _ (WJ ct ?_))⟩
  show z8 _ _ _=_
  rw[yH (r':=R1) (by unfold rH;rw[ep];rfl)]
  refine zZ (.str x) (r2:=R2) ex (by rfl) ?_
  have nm':∀(i:Nat) (s:List Nat),R2[i]?=some (.v (.str s))->yW (zA (mC (.str [110,97,109,101])) (zA (zD i) zQ)) R2=some (toD (.nm s)):=fun i s h=>yT (zF zI (zF (dX h) zT)) (by show 2<=100;decide)
  refine zZ (toD T) (r2:=R3) (yT (zF zI (zF rfl (zF (yT (zF zI (zF (nm' 6 p.1 rfl) (zF (yT (zF zI (zF (nm' 6 p.1 rfl) (zF (nm' 5 x rfl) zT))) (by show 3<=100;decide)) zT))) (by show 3<=100;decide)) zT))) (by show 3<=100;decide)) (by rfl) ?_
  have exx:∀(j:Nat) (d:D),([D.str FUNC,.int a,.int b,.int ((0:Nat):Int)]:List D)[j]?=some d->zG ixD (zD 7) (mC (.int (j:Int))) R3=some d:=fun j d hj=>zV (x:=w6 p.2) rfl zI (by rw[hv];exact xG hj)
  exact tupl T _ _ 2 _ _ _ _ R3 rfl (cP (exx 1 _ rfl) (exx 1 _ rfl) (by lia)) (xQ (cP (exx 1 _ rfl) (exx 2 _ rfl) (by lia)) (exx 2 _ rfl)) zI
 ·have cf:wM (mBl (zG eqA (zG xX (zD 0) (mC (.int 3))) (mC (.int 0)))) (mBl (zG (neN 400) (zD 4) (qI (xB zQ)))) R=some false:=by
   unfold wM
   rw[c1,Option.bind_some]
   by_cases h:n % 3=0
   ·rw[decide_eq_true h,if_pos rfl,c2]
    cases f0 with
    |nil=>rfl
    |cons=>exact absurd ⟨h,by simp⟩ hA
   ·rw[decide_eq_false h,if_neg (by decide)]
  let k0:Int:=n / 60 % 1000000
  have sk:x4 k0:=qG _
  let Rb:Sl->Sl->Ex->Int->Bool->En:=fun x6 x7 e v o=>[N,E,A,P,F,.v (.str y),x6,x7,.un,.v (toD e),.v (.int v),.v (.bl o)]
  have mid:∃x6 x7 e v o,Leaf env e v/\(e=.nm y->o=true)/\(e≠.nm y->o=false)/\∀z,GR (Rb x6 x7 e v o)=z->GB R=z:=by
   have s9:∀z,GC (Rb .un .un (.num k0) k0 false)=z->GB R=z:=fun z h=>by
    show z8 _ _ _=_
    refine zZ (toD (.num k0)) (r2:=[N,E,A,P,F,.v (.str y),.un,.un,.un,.v (toD (.num k0)),.un,.un]) (yT (zF zI (zF (xP (wH rfl zI (by decide)) zKN (by decide)) zT)) (by show 2<=100;decide)) (by rfl) ?_
    refine zZ (.int k0) (r2:=[N,E,A,P,F,.v (.str y),.un,.un,.un,.v (toD (.num k0)),.v (.int k0),.un]) (xP (wH rfl zI (by decide)) zKN (by decide)) (by rfl) ?_
    exact zZ (.bl false) (r2:=Rb .un .un (.num k0) k0 false) zI (by rfl) h
   have c3:mBl (zG (neN 400) (zD 3) (qI (xB zQ))) (Rb .un .un (.num k0) k0 false)=some (!ps.isEmpty):=nR pn rfl
   by_cases hp0:ps=[]
   ·refine⟨.un,.un,.num k0,k0,false,.num sk,(fun z=>by cases z),fun _=>rfl,fun z h=>s9 z ?_⟩
    rw[hp0] at c3
    exact j0 c3 h
   ·obtain⟨p,hp,ep⟩:=zJB (r:=Rb .un .un (.num k0) k0 false) (f:=zD 3) (g:=zG xV (zD 0) (mC (.int 12))) (n:=n / 12) hp0 rfl (wH rfl zI (by decide))
    obtain⟨v,hv⟩:=YA (p1 p hp).2
    have lp:=(p1 p hp).1
    rw[hv] at lp
    refine⟨.v (.str p.1),.v (w6 p.2),.nm p.1,v,decide (p.1=y),.nm lp,fun z=>decide_eq_true (Ex.nm.inj z),fun z=>decide_eq_false fun q=>z (by rw[q]),fun z h=>s9 z ?_⟩
    have c4:(!ps.isEmpty)=true:=by
     cases ps with
     |nil=>exact absurd rfl hp0
     |cons=>rfl
    rw[c4] at c3
    show z8 _ _ _=_
    rw[yH (r':=Rb (.v (.str p.1)) (.v (w6 p.2)) (.nm p.1) v (decide (p.1=y))) ?_]
    ·exact h
    ·rw[mW c3]
     rw[yH (r':=Rb (.v (.str p.1)) (.v (w6 p.2)) (.num k0) k0 false) (by unfold rH;rw[ep];rfl)]
     refine zZ (toD (.nm p.1)) (r2:=Rb (.v (.str p.1)) (.v (w6 p.2)) (.nm p.1) k0 false) (yT (zF zI (zF rfl zT)) (by show 2<=100;decide)) (by rfl) ?_
     refine zZ (.int v) (r2:=Rb (.v (.str p.1)) (.v (w6 p.2)) (.nm p.1) v false) (zV (x:=w6 p.2) rfl zI (by rw[hv];exact xG (j:=1) rfl)) (by rfl) ?_
     exact wL (d:=.bl (decide (p.1=y))) (zV (x:=.str p.1) (y:=.str y) rfl rfl (pY _ _ (pn p hp).ok yk.ok)) (by rfl)
  obtain⟨x6,x7,e,v,o,hle,ho1,ho2,em⟩:=mid
  obtain⟨g1,g2,g3,g4⟩:=Y4 he hle
  let oi:Int:=if o=true then 1 else 0
  let bi:Int:=if o=true then 0 else v
  have io:mUn bZ (zD 11) (Rb x6 x7 e v o)=some (.int oi):=by
   refine bG (x:=.bl o) rfl ?_
   cases o<;>rfl
  have ib:zG ixD (qI (xB (zA (zD 10) (zA (mC (.int 0)) zQ)))) (mUn bZ (zD 11)) (Rb x6 x7 e v o)=some (.int bi):=by
   refine zV (x:=.lst [.int v,.int 0]) rfl io ?_
   cases o
   ·exact mT _ _
   ·exact xG (j:=1) rfl
  have ho:(e=.nm y->oi=1/\bi=0)/\(e≠.nm y->oi=0/\bi=v):=by
   constructor
   ·intro z
    have:=ho1 z
    show(if o=true then (1:Int) else 0)=1/\(if o=true then (0:Int) else v)=0
    rw[if_pos this,if_pos this];exact⟨rfl,rfl⟩
   ·intro z
    have:=ho2 z
    show(if o=true then (1:Int) else 0)=0/\(if o=true then (0:Int) else v)=v
    rw[if_neg (by rw[this];decide),if_neg (by rw[this];decide)];exact⟨rfl,rfl⟩
  have oib:0<=oi/\oi<=1:=by
   show 0<=(if o=true then (1:Int) else 0)/\(if o=true then (1:Int) else 0)<=1
   split<;>exact⟨by decide,by decide⟩
  have c5:mBl (zG eqA (zG xX (zD 0) (mC (.int 3))) (mC (.int 1))) (Rb x6 x7 e v o)=some (decide (n % 3=1)):=kW (zV (xP (i:=n) (j:=3) rfl zI (by decide)) zI rfl)
  by_cases h1:n % 3=1
  ·rw[decide_eq_true h1] at c5
   refine⟨.fn y e,oi,bi,0,⟨⟨yk,g1⟩,by show dp e+1<=3;lia,by show 1+nd e<=8;lia,⟨oib.1,by lia,by decide,fun _=>by lia⟩,fun df=>(n9 hle hl y ho).mono (by decide),by decide⟩,kN (r':=Rb x6 x7 e v o) (start _ (j0 cf (em _ (WJ c5 ?_))))⟩
   exact tupl (.fn y e) oi bi 0 _ _ _ _ _ (yT (zF zI (zF rfl (zF rfl zT))) (by show 3<=100;decide)) io ib zI
  ·rw[decide_eq_false h1] at c5
   refine⟨.fn y (.two [43] (.nm y) e),1+oi,bi,0,⟨⟨yk,.inl rfl,yk,g1⟩,by show max 0 (dp e)+1+1<=3;lia,by show 1+(1+1+nd e)<=8;lia,⟨by lia,by lia,by decide,fun _=>by lia⟩,fun df=>(Q9 hle hl y ho).mono (by decide),by decide⟩,kN (r':=Rb x6 x7 e v o) (start _ (j0 cf (em _ (j0 c5 ?_))))⟩
   exact tupl (.fn y (.two [43] (.nm y) e)) (1+oi) bi 0 _ _ _ _ _ (yT (zF zI (zF rfl (zF (yT (zF zI (zF (yT (zF zI (zF rfl zT)) (by show 2<=100;decide)) (zF rfl zT))) (by show 3<=100;decide)) zT))) (by show 3<=100;decide)) (xQ zI io) ib zI
noncomputable abbrev Hd:=Option (List Nat×Int×Nat)
noncomputable abbrev Lrs:=List (List Nat×Ex)
inductive Lays (hd:Hd):Lrs->Env->Nat->Prop
 |nil:Lays hd [] [] 0
 |snoc {L:Lrs} {env:Env} {S:Nat} {x:List Nat} {told:Ex} {ent:Ent} {c:Nat}:Lays hd L env S->Itm env told ent c->NmC x->Lays hd (L++[(x,told)]) (env++[(x,ent)]) (S+c+1)
 |first {x nm:List Nat} {v:Int} {c:Nat}:hd=some (nm,v,c)->x4 v->NmC x->NmC nm->Lays hd [(x,.nm nm)] [(x,.num v)] (c+1+1)
noncomputable def QV(L:Lrs)(fin:Ex):Ex:=L.foldr (fun p t=>.doo (.fn p.1 t) p.2) fin
theorem uP(L:Lrs)(x:List Nat)(told fin:Ex):QV (L++[(x,told)]) fin=QV L (.doo (.fn x fin) told):=by
 unfold QV;rw[List.foldr_append];rfl
noncomputable def JW(df:D)(T H:Nat):Hd->Prop
 |none=>True
 |some (nm,v,c)=>∃kd ld d t,df=.dct kd ld/\yS kd ld (ky nm)=some d/\t<=T/\Ev df (.dct [] []) d c (.int v) t H
theorem dI{hd:Hd}{L:Lrs}{env:Env}{S:Nat}(h:Lays hd L env S):L.length=env.length:=by
 induction h with
 |nil=>rfl
 |snoc _ _ _ ih=>rw[List.length_append,List.length_append,ih];rfl
 |first=>rfl
theorem pN{hd:Hd}{L:Lrs}{env:Env}{S:Nat}(h:Lays hd L env S):∀s e,lk env s=some e->NmC s/\X5 e:=by
 induction h with
 |nil=>intro s e h;cases h
 |snoc _ hi hx ih=>
  intro s e h
  rw[nY] at h
  split at h
  ·rename_i c;cases h;subst c;exact⟨hx,hi.e⟩
  ·exact ih s e h
 |first _ hv hx _=>
  intro s e h
  rw[show ∀(x:List Nat) (e:Ent),[(x,e)]=[]++[(x,e)] from fun _ _=>rfl,nY] at h
  split at h
  ·rename_i c;cases h;subst c;exact⟨hx,hv⟩
  ·cases h
theorem zDA{hd:Hd}{L:Lrs}{env:Env}{S:Nat}(h:Lays hd L env S){df:D}{T H:Nat}(hh:JW df T H hd):L.length<=100->∀(fin:Ex) (v:Int) (cf tf hf:Nat),60<=hf->H+3<=hf->(∀ks l,EnvR df env ks l->∀d,Mk fin d->∃t,t<=tf/\Ev df (.dct ks l) d cf (.int v) t hf)->∀d,Mk (QV L fin) d->∃t,t<=tf+104*L.length+T+6/\Ev df (.dct [] []) d (S+cf) (.int v) t (hf+3*L.length):=by
 induction h with
 |nil=>
  intro _ fin v cf tf hf _ _ hfin d hd'
  obtain⟨t,h1,h2⟩:=hfin [] [] (XF df) d hd'
  exact⟨t,by lia,by rw[Nat.zero_add];exact h2⟩
 |snoc hl hi hx ih=>
  rename_i L env S x told ent c
  intro hlen fin v cf tf hf h60 hH hfin d hd'
  rw[List.length_append] at hlen ⊢
  have hlen':L.length+1<=100:=hlen
  rw[uP] at hd'
  obtain⟨t,h1,h2⟩:=ih (by lia) (.doo (.fn x fin) told) v (c+1+cf) (tf+104) (hf+3) (by lia) (by lia) (fun ks l hr d hm=>by
   cases hm with
   |doo m ha hb=>
    cases ha with
    |fn _ m' hf'=>
     obtain⟨v0,t0,q1,q2,q3⟩:=hi.ok df ks l hr _ hb
     obtain⟨t1,q4,q5⟩:=hfin _ _ (hr.push (x:=x) q3) _ hf'
     have le:=hr.le
     have ll:=dI hl
     have q:=zAB (m:=m) (h:=hf) (by lia) ((zDN (df:=df) (env:=.dct ks l) x _ m').mono (by lia)) (q2.mono h60) q5
     rw[show 0+c+1+cf=c+1+cf by lia] at q
     exact⟨_,by lia,q⟩) d hd'
  refine⟨t,?_,?_⟩
  ·show _<=tf+104*(L.length+1)+T+6;lia
  ·rw[show S+c+1+cf=S+(c+1+cf) by lia,show hf+3*(L.length+[(x,told)].length)=hf+3+3*L.length by show hf+3*(L.length+1)=_;lia]
   exact h2
 |first he hv hx hn=>
  rename_i x nm v0 c
  intro _ fin v cf tf hf h60 hH hfin d hd'
  subst he
  obtain⟨kd,ld,d0,t0,rfl,q1,q2,q3⟩:=hh
  have hd2:Mk (.doo (.fn x fin) (.nm nm)) d:=hd'
  cases hd2 with
  |doo m ha hb=>
   cases ha with
   |fn _ m' hf'=>
    cases hb with
    |nm _ m2=>
     obtain⟨t1,q4,q5⟩:=hfin _ _ ((XF (.dct kd ld)).push (x:=x) (e:=.num v0) (v:=.int v0) ⟨rfl,hv⟩) _ hf'
     have q:=zAB (m:=m) (h:=hf) (by show 0<=100000;decide) ((zDN (df:=.dct kd ld) (env:=.dct [] []) x _ m').mono (by lia)) ((zG7 m2 (ks:=[]) (l:=[]) rfl q1 q3).mono hH) q5
     rw[show 0+(c+1)+1+cf=c+1+1+cf by lia] at q
     exact⟨2+(t0+2)+t1+2,by show 2+(t0+2)+t1+2<=tf+104*1+T+6;lia,by show Ev _ _ _ _ _ _ (hf+3*1);exact q⟩
theorem zC8{hd:Hd}{L:Lrs}{env:Env}{S:Nat}(h:Lays hd L env S):∀fin:Ex,gr fin->dp fin<=3+2*(20-L.length)->L.length<=20->gr (QV L fin)/\dp (QV L fin)<=max 4 (dp fin)+2*L.length/\nd (QV L fin)<=nd fin+10*L.length:=by
 induction h with
 |nil=>intro fin g _ _;exact⟨g,by show dp fin<=max 4 (dp fin)+0;lia,Nat.le_refl _⟩
 |snoc hl hi hx ih=>
  rename_i L env S x told ent c
  intro fin g hd' hl'
  rw[List.length_append] at hd' hl' ⊢
  have hl2:L.length+1<=20:=hl'
  have hd2:dp fin<=3+2*(20-(L.length+1)):=hd'
  rw[uP]
  have d1:dp (.doo (.fn x fin) told)=max (dp fin+1) (dp told)+1:=rfl
  have n1:nd (.doo (.fn x fin) told)=1+(1+nd fin)+nd told:=rfl
  have:=hi.d
  have:=hi.n
  obtain⟨q1,q2,q3⟩:=ih (.doo (.fn x fin) told) ⟨⟨hx,g⟩,hi.g⟩ (by rw[d1];lia) (by lia)
  refine⟨q1,?_,?_⟩
  ·show _<=max 4 (dp fin)+2*(L.length+1);rw[d1] at q2;lia
  ·show _<=nd fin+10*(L.length+1);rw[n1] at q3;lia
 |first he hv hx hn=>
  rename_i x nm v0 c
  intro fin g _ _
  refine⟨⟨⟨hx,g⟩,hn⟩,?_,?_⟩
  ·show max (dp fin+1) 0+1<=max 4 (dp fin)+2*1;lia
  ·show 1+(1+nd fin)+1<=nd fin+10*1;lia
theorem zC9{hd:Hd}{L:Lrs}{env:Env}{S:Nat}(h:Lays hd L env S){B:Nat}(hb:∀nm v c,hd=some (nm,v,c)->c<=B):S<=B+4*L.length:=by
 induction h with
 |nil=>exact Nat.zero_le _
 |snoc hl hi hx ih=>rw[List.length_append];have:=hi.cb;show _<=B+4*(_+1);lia
 |first he _ _ _=>have:=hb _ _ _ he;show _<=B+4*1;lia
noncomputable def hdD:Hd->D
 |none=>.non
 |some (nm,v,c)=>itD (.nm nm) (.num v) (c+1)
noncomputable def J3(p:List Nat×Ex):D:=.tup [.str p.1,toD p.2]
noncomputable abbrev Fr(C:D)(st:Int)(nms:List (List Nat))(hd:Hd)(env:Env)(L:Lrs)(S:Nat)(x7 x8 x9 x10 x11 x12 x13:Sl):En:=
 [.v C,.v (.int st),.v (.lst (nms.map .str)),.v (hdD hd),.v (bF env),.o (L.map J3),.v (.int (S:Int)),x7,x8,x9,x10,x11,x12,x13]
noncomputable def zEI:MS:=(z8 (xE 9 (yI 2 yC (zA (zD 8) (zA (zG wI (zD 1) (zD 7)) zQ)))) (z8 (xE 10 (zG ixD (zD 2) (zG xX (zD 9) (mC (.int 4))))) (z8 (sIf (mBl (zG ltA (zG xX (yI 2 yC (zA (zD 8) (zA (zG wI (zG wI (mC (.int 300)) (zD 1)) (zD 7)) zQ))) (mC (.int 5))) (mC (.int 2)))) (xE 11 (yI 3 xN (zA (zG xV (zD 9) (mC (.int 4))) (zA (zD 4) (zA (zD 2) zQ))))) (xE 11 (yI 2 xT (zA (zG xV (zD 9) (mC (.int 4))) (zA (zD 4) zQ))))) (z8 (sIf (wM (mBl (zG eqA (zD 7) (mC (.int 0)))) (mBl (zG gR (zD 3) (mC .non)))) (xE 11 (zD 3)) xY) (z8 (sX (t8 5 (yW (zA (zD 10) (zA (zG ixD (zD 11) (mC (.int 0))) zQ))))) (z8 (xE 4 (zG wI (zD 4) (qI (xB (zA (yW (zA (zD 10) (zA (zG ixD (zD 11) (mC (.int 1))) zQ))) zQ))))) (xE 6 (zG wI (zG wI (zD 6) (zG ixD (zD 11) (mC (.int 2)))) (mC (.int 1))))))))))
theorem pO{C:D}{st:Int}{nms:List (List Nat)}(hN:Nms nms){hd:Hd}(hh:∀nm v c,hd=some (nm,v,c)->x4 v/\NmC nm){x12 x13:Sl}:∀(cs:List Int) (k:Nat) (L:Lrs) (env:Env) (S:Nat) (x7 x8 x9 x10 x11:Sl),fre x7->fre x8->fre x9->fre x10->fre x11->Lays hd L env S->L.length=k->k+cs.length<=20 ->
  ∃(L':Lrs) (env':Env) (S':Nat) (y7 y8 y9 y10 y11:Sl),fre y10/\fre y11/\Lays hd L' env' S'/\L'.length=k+cs.length/\Z4 (wY 2 (zX (yQ 7) (zX (yQ 8) qF))) zEI (((cs.map D.int).zipIdx k).map fun p=>.tup [.int (p.2:Nat),p.1]) (Fr C st nms hd env L S x7 x8 x9 x10 x11 x12 x13)=some (.nx (Fr C st nms hd env' L' S' y7 y8 y9 y10 y11 x12 x13))
 |[],k,L,env,S,x7,x8,x9,x10,x11,h7,h8,h9,h10,h11,hl,hk,hb=>⟨L,env,S,x7,x8,x9,x10,x11,h10,h11,hl,by simp[hk],rfl⟩
 |c::cs,k,L,env,S,x7,x8,x9,x10,x11,h7,h8,h9,h10,h11,hl,hk,hb=>by
  rw[List.length_cons] at hb
  have ll:=dI hl
  have he:EnvOk env:=⟨by lia,pN hl⟩
  obtain⟨n,n0,hm⟩:=vB c (st+(k:Int))
  obtain⟨m,m0,hm2⟩:=vB c (300+st+(k:Int))
  have n4:0<=n / 4:=Int.ediv_nonneg n0 (by decide)
  let K:Sl:=.v (.int (k:Int))
  let Cc:Sl:=.v (.int c)
  let Nn:Sl:=.v (.int n)
  let R1:En:=Fr C st nms hd env L S K Cc x9 x10 x11 x12 x13
  let R2:En:=Fr C st nms hd env L S K Cc Nn x10 x11 x12 x13
  obtain⟨x,hx,ex⟩:=WE (l:=nms) (r:=R2) (f:=zD 2) (g:=zG xX (zD 9) (mC (.int 4))) (i:=n % 4) rfl (xP rfl zI (by decide)) (Int.emod_nonneg _ (by decide)) (by rw[hN.len];exact Int.emod_lt_of_pos _ (by decide))
  have xk:=hN.ok x hx
  let X:Sl:=.v (.str x)
  let R3:En:=Fr C st nms hd env L S K Cc Nn X x11 x12 x13
  have it0:∃told ent cc,Itm env told ent cc/\(sIf (mBl (zG ltA (zG xX (yI 2 yC (zA (zD 8) (zA (zG wI (zG wI (mC (.int 300)) (zD 1)) (zD 7)) zQ))) (mC (.int 5))) (mC (.int 2)))) (xE 11 (yI 3 xN (zA (zG xV (zD 9) (mC (.int 4))) (zA (zD 4) (zA (zD 2) zQ))))) (xE 11 (yI 2 xT (zA (zG xV (zD 9) (mC (.int 4))) (zA (zD 4) zQ))))) R3=some (.nx (Fr C st nms hd env L S K Cc Nn X (.v (itD told ent cc)) x12 x13)):=by
   have ct:mBl (zG ltA (zG xX (yI 2 yC (zA (zD 8) (zA (zG wI (zG wI (mC (.int 300)) (zD 1)) (zD 7)) zQ))) (mC (.int 5))) (mC (.int 2))) R3=some (decide (m % 5<2)):=kW (zV (x:=.int (m % 5)) (y:=.int 2) (xP (xL (p:=.v (.int m)) (zF rfl (zF (xQ (xQ zI rfl) rfl) zT)) rfl hm2) zI (by decide)) zI rfl)
   by_cases q:m % 5<2
   ·obtain⟨told,a,b,cc,q1,q2⟩:=hU n4 he hN
    refine⟨told,_,0,q1,?_⟩
    rw[decide_eq_true q] at ct
    rw[mW ct]
    exact wL (d:=itD told (.fun a b cc) 0) (xL (p:=.v (itD told (.fun a b cc) 0)) (zF (wH rfl zI (by decide)) (zF rfl (zF rfl zT))) rfl q2) (zY (i:=11) (x:=x11) rfl h11)
   ·obtain⟨told,v,cc,q1,q2⟩:=gQ n4 he
    refine⟨told,_,cc,q1,?_⟩
    rw[decide_eq_false q] at ct
    rw[YE ct]
    exact wL (d:=itD told (.num v) cc) (xL (p:=.v (itD told (.num v) cc)) (zF (wH rfl zI (by decide)) (zF rfl zT)) rfl q2) (zY (i:=11) (x:=x11) rfl h11)
  obtain⟨told0,ent0,cc0,i1,i2⟩:=it0
  let R4:En:=Fr C st nms hd env L S K Cc Nn X (.v (itD told0 ent0 cc0)) x12 x13
  have it1:∃told ent cc,Lays hd (L++[(x,told)]) (env++[(x,ent)]) (S+cc+1)/\(sIf (wM (mBl (zG eqA (zD 7) (mC (.int 0)))) (mBl (zG gR (zD 3) (mC .non)))) (xE 11 (zD 3)) xY) R4=some (.nx (Fr C st nms hd env L S K Cc Nn X (.v (itD told ent cc)) x12 x13)):=by
   have c1:mBl (zG eqA (zD 7) (mC (.int 0))) R4=some (decide ((k:Int)=0)):=kW (zV (x:=.int (k:Int)) (y:=.int 0) rfl zI rfl)
   cases hd with
   |none=>
    refine⟨told0,ent0,cc0,.snoc hl i1 xk,?_⟩
    have c2:mBl (zG gR (zD 3) (mC .non)) R4=some false:=rfl
    have cf:wM (mBl (zG eqA (zD 7) (mC (.int 0)))) (mBl (zG gR (zD 3) (mC .non))) R4=some false:=by
     unfold wM
     rw[c1,Option.bind_some,c2]
     cases decide ((k:Int)=0)<;>rfl
    rw[YE cf];rfl
   |some q=>
    obtain⟨nm,v,c0⟩:=q
    by_cases z:k=0
    ·have l0:L=[]:=List.eq_nil_of_length_eq_zero (by lia)
     have e0:env=[]:=List.eq_nil_of_length_eq_zero (by lia)
     have s0:S=0:=by
      subst l0
      generalize hL:([]:Lrs)=L at hl
      cases hl with
      |nil=>rfl
      |snoc=>simp at hL
      |first=>cases hL
     subst l0;subst e0;subst s0
     obtain⟨sv,nk⟩:=hh nm v c0 rfl
     refine⟨.nm nm,.num v,c0+1,?_,?_⟩
     ·rw[Nat.zero_add]
      exact .first rfl sv xk nk
     ·have c2:mBl (zG gR (zD 3) (mC .non)) R4=some true:=rfl
      have ct:wM (mBl (zG eqA (zD 7) (mC (.int 0)))) (mBl (zG gR (zD 3) (mC .non))) R4=some true:=by
       unfold wM
       rw[c1,decide_eq_true (by lia),Option.bind_some,if_pos rfl,c2]
      rw[mW ct]
      exact wL (d:=itD (.nm nm) (.num v) (c0+1)) rfl rfl
    ·refine⟨told0,ent0,cc0,.snoc hl i1 xk,?_⟩
     have cf:wM (mBl (zG eqA (zD 7) (mC (.int 0)))) (mBl (zG gR (zD 3) (mC .non))) R4=some false:=by
      unfold wM
      rw[c1,decide_eq_false (by lia),Option.bind_some,if_neg (by decide)]
     rw[YE cf];rfl
  obtain⟨told,ent,cc,j1,j2⟩:=it1
  let I:Sl:=.v (itD told ent cc)
  obtain⟨L',env',S',y7,y8,y9,y10,y11,r1,r2,r3,r4,r5⟩:=pO (C:=C) (st:=st) hN hh (x12:=x12) (x13:=x13) cs (k+1) (L++[(x,told)]) (env++[(x,ent)]) (S+cc+1) K Cc Nn X I trivial trivial trivial trivial trivial j1 (by simp[hk]) (by lia)
  refine⟨L',env',S',y7,y8,y9,y10,y11,r1,r2,r3,by rw[List.length_cons];lia,?_⟩
  rw[List.map_cons,List.zipIdx_cons,List.map_cons]
  rw[cU (d:=.tup [.int (k:Nat),.int c]) (r:=Fr C st nms hd env L S x7 x8 x9 x10 x11 x12 x13) (r1:=R1) (bdP (r1:=Fr C st nms hd env L S K x8 x9 x10 x11 x12 x13) (zY (i:=7) (x:=x7) rfl h7) (zY (i:=8) (x:=x8) rfl h8)) (r':=Fr C st nms hd (env++[(x,ent)]) (L++[(x,told)]) (S+cc+1) K Cc Nn X I x12 x13) ?_]
  ·exact r5
  ·unfold zEI
   refine zZ (.int n) (r2:=R2) (xL (p:=.v (.int n)) (zF rfl (zF (xQ rfl rfl) zT)) rfl hm) (zY (i:=9) (x:=x9) rfl h9) ?_
   refine zZ (.str x) (r2:=R3) ex (zY (i:=10) (x:=x10) rfl h10) ?_
   rw[yH i2,yH j2]
   have g0:∀r:En,r[11]?=some I->zG ixD (zD 11) (mC (.int 0)) r=some (toD told):=fun r h=>zV (x:=itD told ent cc) (dX h) zI (mT _ _)
   have g1:∀r:En,r[11]?=some I->zG ixD (zD 11) (mC (.int 1)) r=some (w6 ent):=fun r h=>zV (x:=itD told ent cc) (dX h) zI (xG (j:=1) rfl)
   have g2:∀r:En,r[11]?=some I->zG ixD (zD 11) (mC (.int 2)) r=some (.int (cc:Int)):=fun r h=>zV (x:=itD told ent cc) (dX h) zI (xG (j:=2) rfl)
   have a5:sX (t8 5 (yW (zA (zD 10) (zA (zG ixD (zD 11) (mC (.int 0))) zQ)))) (Fr C st nms hd env L S K Cc Nn X I x12 x13)=some (.nx (Fr C st nms hd env (L++[(x,told)]) S K Cc Nn X I x12 x13)):=by
    refine tF (d:=.non) ?_
    have:=oM (i:=5) (r:=Fr C st nms hd env L S K Cc Nn X I x12 x13) (S:=L.map J3) (d:=J3 (x,told)) (f:=yW (zA (zD 10) (zA (zG ixD (zD 11) (mC (.int 0))) zQ))) rfl (yT (zF rfl (zF (g0 _ rfl) zT)) (by show 2<=100;decide)) (by rw[List.length_map];exact wW (by lia))
    rw[this,<-List.map_singleton (f:=J3),<-List.map_append];rfl
   rw[yH a5]
   refine zZ (bF (env++[(x,ent)])) (r2:=Fr C st nms hd (env++[(x,ent)]) (L++[(x,told)]) S K Cc Nn X I x12 x13) ?_ (by rfl) ?_
   ·unfold bF
    rw[List.map_append]
    exact zLY (l:=env.map prD) rfl (Y2 (l:=[prD (x,ent)]) (zF (yT (zF rfl (zF (g1 _ rfl) zT)) (by show 2<=100;decide)) zT) (by show 1<=100;decide)) (by simp;lia)
   ·refine wL (d:=.int ((S+cc+1:Nat):Int)) ?_ (by rfl)
    rw[show((S+cc+1:Nat):Int)=(S:Int)+(cc:Int)+1 by lia]
    exact xQ (xQ rfl (g2 _ rfl)) zI
noncomputable def zFD:MS:=(xE 12 (yW (zA (mC (.str [100,111])) (zA (yW (zA (mC (.str [102,110])) (zA (zD 10) (zA (zD 12) zQ)))) (zA (zD 13) zQ)))))
theorem gT{a0 a1 a2 a3 a4 a5 a6 a7 a8 a9 a11:Sl}:∀(L:Lrs) (fin:Ex) (x10 x13:Sl),fre x10->fre x13->∃y10 y13,Z4 (wY 2 (zX (yQ 10) (zX (yQ 13) qF))) zFD (L.map J3) [a0,a1,a2,a3,a4,a5,a6,a7,a8,a9,x10,a11,.v (toD fin),x13]=some (.nx [a0,a1,a2,a3,a4,a5,a6,a7,a8,a9,y10,a11,.v (toD (QV L.reverse fin)),y13])
 |[],fin,x10,x13,_,_=>⟨x10,x13,rfl⟩
 |p::L,fin,x10,x13,h10,h13=>by
  obtain⟨y10,y13,q⟩:=gT (a0:=a0) (a1:=a1) (a2:=a2) (a3:=a3) (a4:=a4) (a5:=a5) (a6:=a6) (a7:=a7) (a8:=a8) (a9:=a9) (a11:=a11) L (.doo (.fn p.1 fin) p.2) (.v (.str p.1)) (.v (toD p.2)) trivial trivial
  refine⟨y10,y13,?_⟩
  rw[List.map_cons,cU (d:=J3 p) (r:=[a0,a1,a2,a3,a4,a5,a6,a7,a8,a9,x10,a11,.v (toD fin),x13]) (r1:=[a0,a1,a2,a3,a4,a5,a6,a7,a8,a9,.v (.str p.1),a11,.v (toD fin),.v (toD p.2)]) (bdP (r1:=[a0,a1,a2,a3,a4,a5,a6,a7,a8,a9,.v (.str p.1),a11,.v (toD fin),x13]) (zY (i:=10) (x:=x10) rfl h10) (zY (i:=13) (x:=x13) rfl h13)) (r':=[a0,a1,a2,a3,a4,a5,a6,a7,a8,a9,.v (.str p.1),a11,.v (toD (.doo (.fn p.1 fin) p.2)),.v (toD p.2)]) ?_,q,List.reverse_cons,uP]
  exact wL (d:=toD (.doo (.fn p.1 fin) p.2)) (yT (zF zI (zF (yT (zF zI (zF rfl (zF rfl zT))) (by show 3<=100;decide)) (zF rfl zT))) (by show 3<=100;decide)) rfl
structure LayE(hd:Hd)(E:Ex)(v:Int)(c:Nat):Prop where
 g:gr E
 d:dp E<=20
 n:nd E<=200
 s:x4 v
 cb:∀B:Nat,(∀nm v c,hd=some (nm,v,c)->c<=B)->c<=B+40
 ev:∀(df:D) (T H:Nat),JW df T H hd->∀d,Mk E d->∃t,t<=T+1000/\Ev df (.dct [] []) d c (.int v) t (H+120)
theorem ZA{cs:List Int}(hc:cs.length<=8){st:Int}(h0:0<=st){nms:List (List Nat)}(hN:Nms nms){hd:Hd}(hh:∀nm v c,hd=some (nm,v,c)->x4 v/\NmC nm):∃E v c,LayE hd E v c/\∃as,xU [.v (.lst (cs.map .int)),.v (.int st),.v (.lst (nms.map .str)),.v (hdD hd)]=some (.v (itD E (.num v) c),as):=by
 let C:D:=.lst (cs.map .int)
 obtain⟨L,env,S,y7,y8,y9,y10,y11,r1,r2,r3,r4,r5⟩:=pO (C:=C) (st:=st) hN hh (x12:=.un) (x13:=.un) cs 0 [] [] 0 .un .un .un .un .un trivial trivial trivial trivial trivial .nil rfl (by lia)
 rw[Nat.zero_add] at r4
 have ll:=dI r3
 obtain⟨n,n0,hm⟩:=vB st (cs.length:Int)
 have s3:0<=st % 3:=Int.emod_nonneg _ (by decide)
 obtain⟨fin,v,cf,i1,i2⟩:=gQ (n:=n*4+1+st % 3) (by lia) (env:=env) ⟨by lia,pN r3⟩
 obtain⟨g1,g2,g3⟩:=zC8 r3 fin i1.g (by have:=i1.d;lia) (by lia)
 have fd:=i1.d
 have fn':=i1.n
 have fc:=i1.cb
 obtain⟨z10,z13,nl⟩:=gT (a0:=.v C) (a1:=.v (.int st)) (a2:=.v (.lst (nms.map .str))) (a3:=.v (hdD hd)) (a4:=.v (bF env)) (a5:=.z (L.map J3)) (a6:=.v (.int (S:Int))) (a7:=y7) (a8:=y8) (a9:=y9) (a11:=.v (itD fin (.num v) cf)) L.reverse fin y10 .un r1 trivial
 rw[List.reverse_reverse] at nl
 refine⟨QV L fin,v,S+cf,⟨g1,by lia,by lia,i1.e,fun B hB=>?_,fun df T H hH d hd'=>?_⟩,?_⟩
 ·have:=zC9 r3 hB;lia
 ·obtain⟨t,q1,q2⟩:=zDA r3 hH (by lia) fin v cf 100 (H+63) (by lia) (by lia) (fun ks l hr d hm=>by
   obtain⟨v',t,w1,w2,w3,_⟩:=i1.ok df ks l hr d hm
   subst w3
   exact⟨t,w1,w2.mono (by lia)⟩) d hd'
  exact⟨t,by lia,q2.mono (by lia)⟩
 ·refine kN (r':=[.v C,.v (.int st),.v (.lst (nms.map .str)),.v (hdD hd),.v (bF env),.o (L.map J3),.v (.int (S:Int)),y7,y8,y9,z10,.v (itD fin (.num v) cf),.v (toD (QV L fin)),z13]) ?_
  show wC [.v C,.v (.int st),.v (.lst (nms.map .str)),.v (hdD hd),.un,.un,.un,.un,.un,.un,.un,.un,.un,.un]=_
  unfold wC
  refine zZ (bF []) (r2:=[.v C,.v (.int st),.v (.lst (nms.map .str)),.v (hdD hd),.v (bF []),.un,.un,.un,.un,.un,.un,.un,.un,.un]) (by rfl) (by rfl) ?_
  rw[yH (r':=[.v C,.v (.int st),.v (.lst (nms.map .str)),.v (hdD hd),.v (bF []),.o [],.un,.un,.un,.un,.un,.un,.un,.un]) (by rfl)]
  refine zZ (.int 0) (r2:=Fr C st nms hd [] [] 0 .un .un .un .un .un .un .un) zI (by rfl) ?_
  have s1:mX (wY 2 (zX (yQ 7) (zX (yQ 8) qF))) (zC1 (zD 0)) zEI (Fr C st nms hd [] [] 0 .un .un .un .un .un .un .un)=some (.nx (Fr C st nms hd env L S y7 y8 y9 y10 y11 .un .un)):=by
   unfold mX
   rw[show zC1 (zD 0) (Fr C st nms hd [] [] 0 .un .un .un .un .un .un .un)=some (XG (cs.map .int)) from rfl]
   exact r5
  unfold zEI at s1
  rw[yH s1]
  have lc:mUn bV (zD 0) (Fr C st nms hd env L S y7 y8 y9 y10 y11 .un .un)=some (.int (cs.length:Int)):=bG (x:=C) rfl (by show some (D.int ((cs.map D.int).length:Int))=_;rw[List.length_map])
  have m4:zG vL (yI 2 yC (zA (zD 1) (zA (mUn bV (zD 0)) zQ))) (mC (.int 4)) (Fr C st nms hd env L S y7 y8 y9 y10 y11 .un .un)=some (.int (n*4)):=zV (x:=.int n) (y:=.int 4) (xL (p:=.v (.int n)) (zF rfl (zF lc zT)) rfl hm) zI (if_pos (.inr (by decide)))
  refine zZ (itD fin (.num v) cf) (r2:=Fr C st nms hd env L S y7 y8 y9 y10 (.v (itD fin (.num v) cf)) .un .un) (xL (p:=.v (itD fin (.num v) cf)) (zF (xQ (xQ m4 zI) (xP rfl zI (by decide))) (zF rfl zT)) rfl i2) (zY (i:=11) (x:=y11) rfl r2) ?_
  refine zZ (toD fin) (r2:=Fr C st nms hd env L S y7 y8 y9 y10 (.v (itD fin (.num v) cf)) (.v (toD fin)) .un) (zV (x:=itD fin (.num v) cf) rfl zI (mT _ _)) (by rfl) ?_
  have s2:sZ 5 (mX (wY 2 (zX (yQ 10) (zX (yQ 13) qF))) (nW (mZs 5)) zFD) (Fr C st nms hd env L S y7 y8 y9 y10 (.v (itD fin (.num v) cf)) (.v (toD fin)) .un)=some (.nx [.v C,.v (.int st),.v (.lst (nms.map .str)),.v (hdD hd),.v (bF env),.o (L.map J3),.v (.int (S:Int)),y7,y8,y9,z10,.v (itD fin (.num v) cf),.v (toD (QV L fin)),z13]):=by
   unfold sZ
   show((mX _ _ _ [.v C,.v (.int st),.v (.lst (nms.map .str)),.v (hdD hd),.v (bF env),.z (L.map J3),.v (.int (S:Int)),y7,y8,y9,y10,.v (itD fin (.num v) cf),.v (toD fin),.un])).bind _=_
   unfold mX
   rw[show nW (mZs 5) [.v C,.v (.int st),.v (.lst (nms.map .str)),.v (hdD hd),.v (bF env),.z (L.map J3),.v (.int (S:Int)),y7,y8,y9,y10,.v (itD fin (.num v) cf),.v (toD fin),.un]=some ((L.map J3).reverse) from rfl,Option.bind_some,<-List.map_reverse,nl];rfl
  unfold zFD at s2
  rw[yH s2]
  refine j4 ?_
  rw[show itD (QV L fin) (.num v) (S+cf)=.tup [toD (QV L fin),w6 (.num v),.int ((S:Int)+(cf:Int))] by unfold itD;rw[show((S+cf:Nat):Int)=(S:Int)+(cf:Int) by lia]]
  exact yT (zF rfl (zF (zV (x:=itD fin (.num v) cf) rfl zI (xG (j:=1) rfl)) (zF (xQ rfl (zV (x:=itD fin (.num v) cf) rfl zI (xG (j:=2) rfl))) zT))) (by show 3<=100;decide)
theorem WC(i:Int):∃as,Z3 [.v (.int i)]=some (.v (.int i),as):=by
 refine kN (r':=[.v (.int i),.o [.int i],.o [],.o [.int i],.v (.int i)]) ?_
 show oC [.v (.int i),.un,.un,.un,.un]=_
 unfold oC
 rw[yH (r':=[.v (.int i),.o [],.un,.un,.un]) (by rfl),yH (r':=[.v (.int i),.o [],.o [.int i],.un,.un]) (by rfl)]
 rw[yH (r':=[.v (.int i),.o [.int i],.o [],.un,.un]) ?_]
 ·rw[yH (r':=[.v (.int i),.o [.int i],.o [],.o [],.un]) (by rfl)]
  rw[yH (r':=[.v (.int i),.o [.int i],.o [],.o [.int i],.v (.int i)]) ?_]
  ·rfl
  ·rfl
 ·rw[show WF=(99998+1)+1 from rfl,oO (r':=[.v (.int i),.o [.int i],.o [],.un,.un]) (by rfl) (by rfl),dW (by rfl)]
noncomputable abbrev Pr:=List (List Nat×Ex)
noncomputable def prog(ps:Pr):List D:=ps.map fun p=>.tup [.str p.1,toD p.2]
noncomputable def MkP:Pr->List D->Prop
 |[],l=>l=[]
 |p::ps,l=>∃d t,l=d::t/\Mk p.2 d/\MkP ps t
noncomputable def zLG(ps:Pr):Prop:=∀p∈ps,dp p.2<40/\nd p.2<=1000
theorem XY:∀(ps:Pr) (x y:Sl),fre x->fre y->zLG ps->∃l:List D,MkP ps l/\jD (wY 2 (zX (yQ 0) (zX (yQ 1) qF))) YW (yW (zA (zD 0) (zA (yI 3 (wZ RF) (zA (zD 1) (zA (zD 0) (zA (mC (.int 0)) zQ)))) zQ))) (prog ps) [x,y]=some (List.zipWith (fun p d=>.tup [.str p.1,d]) ps l)
 |[],x,y,hx,hy,h=>⟨[],rfl,rfl⟩
 |p::ps,x,y,hx,hy,h=>by
  obtain⟨d,hd,e⟩:=gY (.str p.1) RF p.2 0 (h p (by simp)).1 (Nat.le_trans (h p (by simp)).2 (by decide))
  obtain⟨l,h1,h2⟩:=XY ps (.v (.str p.1)) (.v (toD p.2)) trivial trivial fun q hq=>h q (by simp[hq])
  refine⟨d::l,⟨d,l,rfl,hd,h1⟩,?_⟩
  have e1:wY 2 (zX (yQ 0) (zX (yQ 1) qF)) (.tup [.str p.1,toD p.2]) [x,y]=some [.v (.str p.1),.v (toD p.2)]:=bdP (r1:=[.v (.str p.1),y]) (zY (i:=0) (x:=x) rfl hx) (zY (i:=1) (x:=y) rfl hy)
  have e2:yW (zA (zD 0) (zA (yI 3 (wZ RF) (zA (zD 1) (zA (zD 0) (zA (mC (.int 0)) zQ)))) zQ)) [.v (.str p.1),.v (toD p.2)]=some (.tup [.str p.1,d]):=yT (zF rfl (zF (xL (p:=.v d) (zF rfl (zF rfl (zF zI zT))) rfl e) zT)) (by show 2<=100;decide)
  show jD _ _ _ (D.tup [.str p.1,toD p.2]::prog ps) [x,y]=_
  unfold jD
  rw[e1,Option.bind_some,show YW [.v (.str p.1),.v (toD p.2)]=some true from rfl,Option.bind_some,if_pos rfl,e2,Option.bind_some,h2];rfl
noncomputable def Ds(ps:Pr)(l:List D):List (Key×D):=List.zipWith (fun p d=>(ky p.1,d)) ps l
theorem pF:∀(ps:Pr) (l:List D),gM (List.zipWith (fun p d=>.tup [.str p.1,d]) ps l)=some (Ds ps l)
 |[],l=>rfl
 |p::ps,[]=>rfl
 |p::ps,d::l=>by
  have ih:=pF ps l
  show(gM (D.tup [.str p.1,d]::List.zipWith _ ps l))=_
  unfold gM
  rw[ih];rfl
theorem pW:∀(q:List (Key×D)) (ks:List Key) (l:List D),(∀p∈q,p.1∉ks)->(q.map (·.1)).Nodup->q.foldl (fun z p=>qK z.1 z.2 p.1 p.2) (ks,l)=(ks++q.map (·.1),l++q.map (·.2))
 |[],ks,l,h,hn=>by simp
 |p::q,ks,l,h,hn=>by
  have e:qK ks l p.1 p.2=(ks++[p.1],l++[p.2]):=by
   unfold qK
   rw[if_neg]
   intro z
   obtain⟨j,h1,h2⟩:=List.any_eq_true.mp z
   exact h p (by simp) (of_decide_eq_true h2 ▸ h1)
  rw[List.map_cons,List.nodup_cons] at hn
  rw[List.foldl_cons,e,pW q _ _ (fun p' hp hm=>by
   rcases List.mem_append.mp hm with z|z
   ·exact h p' (by simp[hp]) z
   ·have z':p'.1=p.1:=by simpa using z
    exact hn.1 (z' ▸ List.mem_map.mpr ⟨p',hp,rfl⟩)) hn.2]
  simp
theorem Y3:∀(q:List (Key×D)) (p:Key×D),p∈q->(q.map (·.1)).Nodup->yS (q.map (·.1)) (q.map (·.2)) p.1=some p.2
 |a::q,p,h,hn=>by
  rw[List.map_cons,List.nodup_cons] at hn
  rw[List.map_cons,List.map_cons]
  unfold yS
  rcases List.mem_cons.mp h with rfl|h
  ·rw[if_pos rfl]
  ·have ne:¬a.1=p.1:=fun z=>hn.1 (z ▸ List.mem_map.mpr ⟨p,h,rfl⟩)
   rw[if_neg ne]
   exact Y3 q p h hn.2
theorem XJ:∀{ps:Pr} {l:List D},MkP ps l->(Ds ps l).map (·.1)=ps.map fun p=>ky p.1
 |[],l,h=>by cases (show l=[] from h);rfl
 |p::ps,l,h=>by obtain⟨d,t,rfl,_,h⟩:=h;show ky p.1::(Ds ps t).map _=_;rw[XJ h];rfl
theorem zD1:∀{ps:Pr} {l:List D},MkP ps l->∀p∈ps,∃d,Mk p.2 d/\(ky p.1,d)∈Ds ps l
 |[],l,h,p,hp=>by cases hp
 |q::ps,l,h,p,hp=>by
  obtain⟨d,t,rfl,hd,h⟩:=h
  rcases List.mem_cons.mp hp with rfl|hp
  ·exact⟨d,hd,by show _∈(ky p.1,d)::Ds ps t;simp⟩
  ·obtain⟨d',h1,h2⟩:=zD1 h p hp
   exact⟨d',h1,by show _∈(ky q.1,d)::Ds ps t;simp[h2]⟩
theorem QR{ps:Pr}(h:(ps.map (·.1)).Nodup):(ps.map fun p=>ky p.1).Nodup:=by
 rw[show(ps.map fun p=>ky p.1)=(ps.map (·.1)).map ky by rw[List.map_map];rfl]
 generalize ps.map (·.1)=l at h
 induction l with
 |nil=>exact List.nodup_nil
 |cons a l ih=>
  rw[List.nodup_cons] at h
  rw[List.map_cons,List.nodup_cons]
  refine⟨fun z=>?_,ih h.2⟩
  obtain⟨b,h1,h2⟩:=List.mem_map.mp z
  exact h.1 (nZ h2 ▸ h1)
theorem zJ3{ps:Pr}(hp:zLG ps)(hl:ps.length<=1000)(hn:(ps.map (·.1)).Nodup):∃(ks:List Key) (l:List D),dd (.lst (prog ps))=some (.dct ks l)/\∀p∈ps,∃d,Mk p.2 d/\yS ks l (ky p.1)=some d:=by
 obtain⟨l,h1,h2⟩:=XY ps .un .un trivial trivial hp
 have nk:((Ds ps l).map (·.1)).Nodup:=by rw[XJ h1];exact QR hn
 refine⟨(Ds ps l).map (·.1),(Ds ps l).map (·.2),?_,fun p hp=>?_⟩
 ·unfold dd ddE zAJ Q2 Y0 xZ
  have it:mIt (zD 1) [.un,.v (.lst (prog ps)),.v (.int 0)]=some (prog ps):=rfl
  rw[it,Option.bind_some,if_pos (show(prog ps).length<sizeLine by unfold prog;rw[List.length_map];exact Nat.lt_of_le_of_lt hl (by decide)),show rM [] 2 [.un,.v (.lst (prog ps)),.v (.int 0)]=[.un,.un] from rfl,h2,Option.bind_some,pF]
  show some (D.dct (J9 (Ds ps l)).1 (J9 (Ds ps l)).2)=_
  unfold J9
  rw[pW _ _ _ (fun _ _ z=>by cases z) nk];rfl
 ·obtain⟨d,q1,q2⟩:=zD1 h1 p hp
  exact⟨d,q1,Y3 _ _ q2 nk⟩
theorem zDS{mo s v:Int}{df:D}:zIO ⟨mo,s,[],[.int v],.non,df⟩=some (.tup [.str [118,97,108,117,101],.int s,.int v]):=by
 obtain⟨as,ht⟩:=WC v
 have e:([D.int v]:List D).getLast?=some (.int v):=rfl
 unfold zIO
 show(([D.int v]:List D).getLast?.bind _)=_
 rw[e,Option.bind_some,ht];rfl
structure Sh(d:D)(n b:Nat):Prop where
 ok:okD d=true
 sh:(toP d).showable=true
 nd:(toP d).hasDict=false
 dp:(toP d).depth<=n
 ls:PyData.leavesShort 13 (toP d)=true
 bk:(toP d).bulk<=b
structure ShL(l:List D)(n b:Nat):Prop where
 ok:zCD l=true
 sh:PyData.showableAll (nB l)=true
 nd:PyData.hasDictAll (nB l)=false
 dp:PyData.depthAll (nB l)<=n
 ls:PyData.leavesShortAll 13 (nB l)=true
 bk:PyData.bulkAll (nB l)<=b
theorem kF{n:Nat}:ShL [] n 0:=⟨rfl,rfl,rfl,Nat.zero_le _,rfl,Nat.le_refl _⟩
theorem xA{d:D}{l:List D}{n m b c k:Nat}(h:Sh d m b)(hl:ShL l n c)(hm:m<=n)(hk:b+1+c<=k):ShL (d::l) n k:=by
 refine⟨?_,?_,?_,?_,?_,?_⟩
 ·show(okD d && zCD l)=true;rw[h.ok,hl.ok];rfl
 ·show((toP d).showable && PyData.showableAll (nB l))=true;rw[h.sh,hl.sh];rfl
 ·show((toP d).hasDict || PyData.hasDictAll (nB l))=false;rw[h.nd,hl.nd];rfl
 ·show max (toP d).depth (PyData.depthAll (nB l))<=n;have:=h.dp;have:=hl.dp;lia
 ·show(PyData.leavesShort 13 (toP d) && PyData.leavesShortAll 13 (nB l))=true;rw[h.ls,hl.ls];rfl
 ·show(toP d).bulk+1+PyData.bulkAll (nB l)<=k;have:=h.bk;have:=hl.bk;lia
theorem gC{l:List D}{n b:Nat}(h:ShL l n b):Sh (.tup l) (n+1) b:=⟨h.ok,h.sh,h.nd,Nat.succ_le_succ h.dp,h.ls,h.bk⟩
theorem uD{s:List Nat}(h:∀c∈s,c<16 ^ 8):Sh (.str s) 0 s.length:=by
 refine⟨rfl,rfl,rfl,Nat.le_refl _,?_,Nat.le_refl _⟩
 show(s.all fun c=>decide (c<16 ^ 8))=true
 exact List.all_eq_true.mpr fun c hc=>decide_eq_true (h c hc)
theorem zFQ{i:Int}(h:x4 i):Sh (.int i) 0 0:=by
 refine⟨rfl,?_,rfl,Nat.le_refl _,?_,Nat.le_refl _⟩
 ·show decide (i.natAbs.log2<1920)=true
  refine decide_eq_true ?_
  have h2:i.natAbs<2 ^ 20:=by have:=h.1;have:=h.2;lia
  by_cases z:i.natAbs=0
  ·rw[z];decide
  ·exact Nat.lt_trans ((Nat.log2_lt z).mpr h2) (by decide)
 ·show decide ((PyData.int i).shown.length<=13)=true
  refine decide_eq_true ?_
  rw[PyData.shown]
  exact Nat.le_trans (toString_length_le h.1 (k:=6) (by decide) h.2) (by decide)
theorem QU{s:List Nat}(h:NmC s):∀c∈s,c<16 ^ 8:=fun c hc=>Nat.lt_of_lt_of_le (h.ch c hc) (by decide)
theorem zFG{w:List Nat}(h:wd w):(∀c∈w,c<16 ^ 8)/\w.length=1:=by
 rcases h with rfl|rfl|rfl|rfl<;>decide
theorem YD:∀{e:Ex},gr e->Sh (toD e) (dp e+1) (20*nd e)
 |.num n,h=>gC (xA (uD (by decide)) (xA (zFQ h) kF (Nat.le_refl 0) (Nat.le_refl _)) (Nat.le_refl 0) (show 3+1+(0+1+0)<=20*1 by decide))
 |.two w a b,h=>by
  have ha:=YD h.2.1
  have hb:=YD h.2.2
  have hw:=zFG h.1
  refine gC (n:=max (dp a) (dp b)+1) (xA (uD hw.1) (xA ha (xA hb kF (by lia) (Nat.le_refl _)) (by lia) (Nat.le_refl _)) (Nat.zero_le _) ?_)
  show w.length+1+_<=20*(1+nd a+nd b);lia
 |.nm s,h=>gC (xA (uD (by decide)) (xA (uD (QU h)) kF (Nat.le_refl 0) (Nat.le_refl _)) (Nat.le_refl 0) (by have:=h.len;show 4+1+(s.length+1+0)<=20;lia))
 |.fn x e,h=>by
  have he:=YD h.2
  have:=h.1.len
  refine gC (n:=dp e+1) (xA (uD (by decide)) (xA (uD (QU h.1)) (xA he kF (by lia) (Nat.le_refl _)) (by lia) (Nat.le_refl _)) (Nat.zero_le _) ?_)
  show 2+1+(x.length+1+_)<=20*(1+nd e);lia
 |.doo a b,h=>by
  have ha:=YD h.1
  have hb:=YD h.2
  refine gC (n:=max (dp a) (dp b)+1) (xA (uD (by decide)) (xA ha (xA hb kF (by lia) (Nat.le_refl _)) (by lia) (Nat.le_refl _)) (Nat.zero_le _) ?_)
  show 2+1+_<=20*(1+nd a+nd b);lia
theorem YC:∀{ps:Pr},(∀p∈ps,(∀c∈p.1,c<16 ^ 8)/\p.1.length<=9/\gr p.2/\dp p.2<40/\nd p.2<=1000)->ShL (prog ps) 50 (20100*ps.length)
 |[],h=>kF
 |p::ps,h=>by
  obtain⟨h1,h2,h3,h4,h5⟩:=h p (by simp)
  have ih:=YC (ps:=ps) fun q hq=>h q (by simp[hq])
  refine xA (gC (xA (uD h1) (xA (YD h3) kF (Nat.le_refl _) (Nat.le_refl _)) (Nat.zero_le _) (Nat.le_refl _))) ih (by lia) ?_
  rw[List.length_cons];lia
theorem zBM{ps:Pr}(hl:ps.length<=50)(h:∀p∈ps,(∀c∈p.1,c<16 ^ 8)/\p.1.length<=9/\gr p.2/\dp p.2<40/\nd p.2<=1000):gF (prog ps)=true:=by
 have q:=YC h
 have e1:(toP (.lst (prog ps))).bulk<=2 ^ 20:=Nat.le_trans q.bk (by lia)
 have e2:=PyData.shown_fits_bulk (B:=13) (by decide) (by decide) (d:=toP (.lst (prog ps))) q.ls e1
 have e3:(toP (.lst (prog ps))).showable=true:=q.sh
 have e4:(toP (.lst (prog ps))).hasDict=false:=q.nd
 have e5:(toP (.lst (prog ps))).depth<=150:=by
  show PyData.depthAll (nB (prog ps))+1<=150
  have:=q.dp;lia
 unfold gF
 rw[q.ok,e3,e4,decide_eq_true e5,decide_eq_true e2];rfl
theorem zK9(s:List Nat)(hs:PyData.strOk ⟨s.toArray⟩=true)(a b:Int):Y5 400 (.tup [.str s,.int a,.int b])=true:=(nX (n:=0) (xJ (cR hs) (xJ (cS a) (xJ (cS b) kO (Nat.le_refl _)) (Nat.le_refl _)) (Nat.le_refl _))).n (by decide)
theorem zJS(s:List Nat)(hs:PyData.strOk ⟨s.toArray⟩=true)(a:Int):Y5 400 (.tup [.str s,.int a,.non])=true:=(nX (n:=0) (xJ (cR hs) (xJ (cS a) (xJ ⟨rfl,rfl,Nat.le_refl 0⟩ kO (Nat.le_refl _)) (Nat.le_refl _)) (Nat.le_refl _))).n (by decide)
theorem zLC(s:Str)(a b:Int):PyData.eqv (.tuple [.str s,.int a,.int b]) (.tuple [.str s,.int a,.int b])=true:=by simp[PyData.eqv,PyData.eqvAll]
theorem zJX(s:Str)(a:Int):PyData.eqv (.tuple [.str s,.int a,.none]) (.tuple [.str s,.int a,.none])=true:=by simp[PyData.eqv,PyData.eqvAll]
noncomputable def VAL:List Nat:=[118,97,108,117,101]
noncomputable def TIR:List Nat:=[116,105,114,101,100]
theorem zG8(a b:Int):eqN 400 (.tup [.str VAL,.int a,.int b]) (.tup [.str VAL,.int a,.int b])=some (.bl true):=by
 have h:=zK9 VAL (by decide +kernel) a b
 unfold eqN
 rw[if_pos ⟨h,h⟩]
 exact congrArg (fun z=>some (D.bl z)) (zLC _ a b)
theorem zGN(a b:Int):neN 400 (.tup [.str VAL,.int a,.int b]) (.tup [.str VAL,.int a,.int b])=some (.bl false):=by
 have h:=zK9 VAL (by decide +kernel) a b
 unfold neN
 rw[if_pos ⟨h,h⟩]
 exact congrArg (fun z=>some (D.bl (!z))) (zLC _ a b)
theorem zGO(a:Int):neN 400 (.tup [.str TIR,.int a,.non]) (.tup [.str TIR,.int a,.non])=some (.bl false):=by
 have h:=zJS TIR (by decide +kernel) a
 unfold neN
 rw[if_pos ⟨h,h⟩]
 exact congrArg (fun z=>some (D.bl (!z))) (zJX _ a)
theorem rP(i:Int):∃as,x0 [.v (.int i)]=some (.v (.bl true),as):=⟨_,rfl⟩
theorem dR{n i:Nat}{m:MF}{fs:ML}{r:En}{l ds:List D}{d:D}(h1:rK i r=some l)(h2:fs r=some ds)(h3:ds.length+1=n)(h4:∃as,m ((.lst l::ds).map .v)=some (.v d,as))(h5:apD l d=true):cQ n m i fs r=some d:=by
 obtain⟨as,h4⟩:=h4
 unfold cQ
 rw[h1,Option.bind_some,h2,Option.bind_some,if_pos h3,h4,Option.bind_some];exact if_pos h5
inductive Pg:Pr->Hd->Prop
 |nil:Pg [] none
 |snoc {ps:Pr} {hd:Hd} {E:Ex} {v:Int} {c:Nat} {nm:List Nat}:Pg ps hd->LayE hd E v c->NmC nm->Pg (ps++[(nm,E)]) (some (nm,v,c))
theorem zHV{ps:Pr}{hd:Hd}(h:Pg ps hd):∀p∈ps,NmC p.1/\gr p.2/\dp p.2<40/\nd p.2<=1000:=by
 induction h with
 |nil=>intro p hp;cases hp
 |snoc _ hl hn ih=>
  intro p hp
  rcases List.mem_append.mp hp with z|z
  ·exact ih p z
  ·rw[List.mem_singleton.mp z];exact⟨hn,hl.g,by have:=hl.d;show _<40;lia,by have:=hl.n;show _<=1000;lia⟩
theorem zHW{ps:Pr}{hd:Hd}(h:Pg ps hd):∀nm v c,hd=some (nm,v,c)->x4 v/\NmC nm/\c<=40*ps.length:=by
 induction h with
 |nil=>intro nm v c h;cases h
 |snoc _ hl hn ih=>
  intro nm v c h
  cases h
  rw[List.length_append]
  exact⟨hl.s,hn,by have:=hl.cb _ (fun nm v c e=>(ih nm v c e).2.2);show _<=40*(_+1);lia⟩
theorem zJD{ps:Pr}{hd:Hd}(h:Pg ps hd){kd:List Key}{ld:List D}:(∀p∈ps,∃d,Mk p.2 d/\yS kd ld (ky p.1)=some d)->JW (.dct kd ld) (1000*ps.length) (120*ps.length) hd:=by
 induction h with
 |nil=>intro _;trivial
 |snoc hp hl hn ih=>
  intro hm
  rename_i ps hd E v c nm
  have i1:=ih fun p hp=>hm p (by simp[hp])
  obtain⟨d,md,ld'⟩:=hm (nm,E) (by simp)
  obtain⟨t,t1,t2⟩:=hl.ev _ _ _ i1 d md
  rw[List.length_append]
  exact⟨kd,ld,d,t,rfl,ld',by show _<=1000*(ps.length+1);lia,t2.mono (by show _<=120*(ps.length+1);lia)⟩
noncomputable def zEM:List Nat:=[109,97,105,110]
section
variable{ps:Pr}{v:Int}{c:Nat}(hp:Pg ps (some (zEM,v,c)))(hl:ps.length<=20)(hn:(ps.map (·.1)).Nodup)
include hp hl hn
theorem WU{mo:Int}(h0:0<=mo):((c:Int)<=mo->∃as,dC [.v (.lst (prog ps)),.v (.int mo)]=some (.v (.tup [.str [118,97,108,117,101],.int (c:Int),.int v]),as))/\(mo<(c:Int)->∃as,dC [.v (.lst (prog ps)),.v (.int mo)]=some (.v (.tup [.str [116,105,114,101,100],.int mo,.non]),as)):=by
 have ok:=zHV hp
 obtain⟨ks,l,q1,q2⟩:=zJ3 (ps:=ps) (fun p z=>(ok p z).2.2) (by lia) hn
 have hh:=zJD hp (kd:=ks) (ld:=l) q2
 obtain⟨kd,ld,d,t,e0,e1,e2,e3⟩:=hh
 cases e0
 have start:∀(z:Option Mst) (y:Option D),bQ WF ⟨mo,0,[tsk d (.dct [] []) false],[],.non,.dct ks l⟩=z->z.bind zIO=y->dC [.v (.lst (prog ps)),.v (.int mo)]=y.map fun x=>(.v x,[.v (.lst (prog ps)),.v (.int mo)]):=fun z y h1 h2=>by
  unfold dC
  show(dd _).bind _=_
  rw[q1,Option.bind_some]
  unfold zKM
  show((yS ks l (ky zEM)).bind _).map _=_
  rw[e1,Option.bind_some]
  show((bQ WF ⟨mo,0,[tsk d (.dct [] []) false],[],.non,.dct ks l⟩).bind _).map _=_
  rw[h1,h2]
 refine⟨fun hm=>⟨[.v (.lst (prog ps)),.v (.int mo)],?_⟩,fun hm=>⟨[.v (.lst (prog ps)),.v (.int mo)],?_⟩⟩
 ·have w:=e3.run mo 0 [] [] (WF-t) (by simp;lia) (by simp;lia) (by lia)
  rw[show t+(WF-t)=WF by unfold WF;lia,show WF-t=(WF-t-1)+1 by unfold WF;lia] at w
  rw[show bQ ((WF-t-1)+1) ⟨mo,0+(c:Int),[],[]++[.int v],.non,.dct ks l⟩=some ⟨mo,0+(c:Int),[],[.int v],.non,.dct ks l⟩ from if_neg (fun z=>by cases z.1)] at w
  rw[start _ _ w (Option.bind_some ..),zDS,Int.zero_add];rfl
 ·obtain⟨w',c',w⟩:=e3.tire mo 0 [] [] (WF-t-1) (by simp;lia) (by simp;lia) h0 (by lia)
  rw[show t+1+(WF-t-1)=WF by unfold WF;lia] at w
  rw[start _ _ w (Option.bind_some ..)];rfl
end
noncomputable def bl5:List Nat:=[113,120,122,106,118]
theorem QW{c:Int}(hc:0<=c):∃nms:List (List Nat),Nms nms/\∃as,qZ [.v (.int c)]=some (.v (.lst (nms.map .str)),as):=by
 have z0:0<=c % 6:=Int.emod_nonneg _ (by decide)
 have z7:c % 6<6:=Int.emod_lt_of_pos _ (by decide)
 obtain⟨n,hn⟩:∃n:Nat,1+c % 6=(n:Int):=⟨(1+c % 6).toNat,by lia⟩
 let C:Sl:=.v (.int c)
 obtain⟨cs,c1,c2,c3⟩:=X1 (x:=zG ixD (mC (.str [113,120,122,106,118])) (zG xX (yI 2 yC (zA (zD 0) (zA (zG wI (mC (.int 30)) (zD 1)) zQ))) (mC (.int 5)))) (j:=1) (mk:=fun s=>[C,s]) (p:=(·∈bl5)) (fun s d hs=>zY (x:=s) rfl hs) ((List.range n).map fun i=>D.int ((0:Int)+(i:Nat))) .un trivial (fun d hd=>by
  obtain⟨i,_,rfl⟩:=List.mem_map.mp hd
  obtain⟨m,m0,hm⟩:=vB c (30+((0:Int)+(i:Nat)))
  obtain⟨ch,h1,h2⟩:=zJ6 (l:=bl5) (by decide) (i:=m % 5) (Int.emod_nonneg _ (by decide)) (Int.emod_lt_of_pos _ (by decide))
  exact⟨ch,h1,zV (x:=.str bl5) zI (xP (xL (p:=.v (.int m)) (zF rfl (zF (xQ zI rfl) zT)) rfl hm) zI (by decide)) h2⟩)
 rw[List.length_map,List.length_range] at c1
 obtain⟨b,z,hb⟩:∃b z,cs=b++[z]:=⟨cs.dropLast,cs.getLast (by intro q;rw[q] at c1;simp at c1;lia),(List.dropLast_concat_getLast _).symm⟩
 have low:∀x∈bl5,x<1114112/\x≠98/\x≠99/\x≠97:=by decide
 have cl:∀x∈cs,x<1114112:=fun x hx=>(low x (c2 x hx)).1
 have bl:∀x∈b,x<1114112:=fun x hx=>cl x (by rw[hb];simp[hx])
 have len:cs.length<=6:=by lia
 have bl':b.length+1=cs.length:=by rw[hb];simp
 have zz:z≠98:=(low z (c2 z (by rw[hb];simp))).2.1
 let W:List (List Nat):=[cs,cs++[97],b++[98],[99]++cs]
 have d1:cs≠cs++[97]:=fun q=>by have:=congrArg List.length q;simp at this
 have d2:cs≠b++[98]:=fun q=>by
  rw[hb] at q
  have:=List.append_cancel_left q
  exact zz (List.cons.inj this).1
 have d3:cs≠[99]++cs:=fun q=>by have:=congrArg List.length q;simp at this
 have d4:cs++[97]≠b++[98]:=fun q=>by have:=congrArg List.length q;simp at this;lia
 have d5:cs++[97]≠[99]++cs:=fun q=>by
  cases hcs:cs with
  |nil=>rw[hcs] at c1;simp at c1;lia
  |cons x t=>
   rw[hcs] at q
   have:=(List.cons.inj (show x::(t++[97])=99::(x::t) from q)).1
   exact(low x (c2 x (by rw[hcs];simp))).2.2.1 this
 have d6:b++[98]≠[99]++cs:=fun q=>by have:=congrArg List.length q;simp at this;lia
 refine⟨W,⟨rfl,?_,?_⟩,kN (r':=[C,.v (.str cs)]) ?_⟩
 ·refine List.nodup_cons.mpr ⟨fun q=>?_,List.nodup_cons.mpr ⟨fun q=>?_,List.nodup_cons.mpr ⟨fun q=>?_,List.nodup_cons.mpr ⟨(fun q=>by cases q),List.nodup_nil⟩⟩⟩⟩
  ·simp only[List.mem_cons,List.not_mem_nil,or_false] at q
   rcases q with q|q|q
   ·exact d1 q
   ·exact d2 q
   ·exact d3 q
  ·simp only[List.mem_cons,List.not_mem_nil,or_false] at q
   rcases q with q|q
   ·exact d4 q
   ·exact d5 q
  ·exact d6 (List.mem_singleton.mp q)
 ·intro s hs
  simp only[W,List.mem_cons,List.not_mem_nil,or_false] at hs
  rcases hs with rfl|rfl|rfl|rfl
  ·exact⟨by lia,cl⟩
  ·refine⟨by simp;lia,fun x hx=>?_⟩
   rcases List.mem_append.mp hx with q|q
   ·exact cl x q
   ·rw[List.mem_singleton.mp q];decide
  ·refine⟨by simp;lia,fun x hx=>?_⟩
   rcases List.mem_append.mp hx with q|q
   ·exact bl x q
   ·rw[List.mem_singleton.mp q];decide
  ·refine⟨by simp;lia,fun x hx=>?_⟩
   rcases List.mem_append.mp hx with q|q
   ·rw[List.mem_singleton.mp q];decide
   ·exact cl x q
 ·show wP [C,.un]=_
  unfold wP
  refine zZ (.str cs) (r2:=[C,.v (.str cs)]) ?_ (by rfl) (j4 ?_)
  ·unfold zE5
   rw[zI,Option.bind_some]
   show(Y0 _ _ _ _ _ _).bind _=_
   unfold Y0 xZ
   rw[zBK (n:=n) (hn ▸ xQ zI (xP rfl zI (by decide))) (by lia),Option.bind_some,if_pos (by rw[List.length_map,List.length_range];exact wW (by lia))]
   rw[show rM [0] 2 [C,.un]=[C,.un] from rfl,c3,Option.bind_some,oT,Option.bind_some,if_pos,pQ]
   have e:((cs.map fun c=>[c]).map List.length).sum=cs.length:=by
    rw[List.map_map]
    clear c2 c3 c1 hb cl d1 d2 d3 d4 d5 d6 len bl' W
    induction cs with
    |nil=>rfl
    |cons x t ih=>simp at ih ⊢;lia
   rw[e];simp;lia
  ·have ct:slD (.str cs) none (some (-1))=some (.str b):=by
    rw[WI (by lia),hb,(JQ b [z] (k:=-1) rfl (Nat.zero_lt_succ _)).2]
   refine Y2 (l:=W.map .str) (zF rfl (zF (zV (x:=.str cs) (y:=.str [97]) rfl zI (d9 (by simp;lia))) (zF (zV (x:=.str b) (y:=.str [98]) (zEW (x:=.str cs) rfl (by rfl) (vA (zGM zI)) ct) zI (d9 (by simp;lia))) (zF (zV (x:=.str [99]) (y:=.str cs) zI rfl (d9 (by simp;lia))) zT)))) (by show 4<=100;decide)
noncomputable def dn(M k:Nat):List Nat:=if k+1<M then [119,97+k] else zEM
noncomputable abbrev El(S:D)(F:Int)(nms:List (List Nat))(cs:List Int)(M:Nat)(P:List D)(hd:Hd)(x7 x8 x9 x10 x11:Sl):En:=
 [.v S,.v (.int F),.v (.lst (nms.map .str)),.v (.lst (cs.map .int)),.v (.int (M:Int)),.o P,.v (hdD hd),x7,x8,x9,x10,x11,.un,.un]
noncomputable def zEJ:MS:=(z8 (rH (yI 4 xU (zA (mSl (zD 3) (kJ (zG vL (mC (.int 8)) (zD 9))) (kJ (zG wI (zG vL (mC (.int 8)) (zD 9)) (mC (.int 8))))) (zA (zG wI (zG vL (mC (.int 8)) (zD 9)) (zG xX (zD 1) (mC (.int 7)))) (zA (zD 2) (zA (zD 6) zQ))))) (wY 3 (zX (yQ 10) (zX (yQ 8) (zX (yQ 7) qF))))) (z8 (xE 11 (mC (.str [109,97,105,110]))) (z8 (sIf (mBl (zG ltA (zD 9) (zG zAH (zD 4) (mC (.int 1))))) (xE 11 (zG wI (mC (.str [119])) (zG ixD (mC (.str [97,98,99,100,101,102,103,104,105,106,107,108,109,110])) (zD 9)))) xY) (z8 (sX (t8 5 (yW (zA (zD 11) (zA (zD 10) zQ))))) (xE 6 (yW (zA (yW (zA (mC (.str [110,97,109,101])) (zA (zD 11) zQ))) (zA (zD 8) (zA (zG wI (zD 7) (mC (.int 1))) zQ)))))))))
theorem W3(a b:Pr):prog (a++b)=prog a++prog b:=by unfold prog;rw[List.map_append]
theorem W2(a:Pr):(prog a).length=a.length:=by unfold prog;rw[List.length_map]
theorem zJ0{M k:Nat}(h:k<=13):NmC (dn M k):=by
 unfold dn
 split
 ·refine⟨by show 2<=9;decide,fun x hx=>?_⟩
  simp only[List.mem_cons,List.not_mem_nil,or_false] at hx
  rcases hx with rfl|rfl<;>lia
 ·exact⟨by decide,by decide⟩
theorem mG{S:D}{F:Int}{nms:List (List Nat)}(hN:Nms nms){cs:List Int}{M:Nat}(hM:M<=13):∀(r k:Nat) (ps:Pr) (hd:Hd) (x7 x8 x9 x10 x11:Sl),fre x7->fre x8->fre x9->fre x10->fre x11->k+r=M->Pg ps hd->ps.map (·.1)=(List.range k).map (dn M)->(∀nm v c,hd=some (nm,v,c)->nm=dn M (k-1)/\x7=.v (.int ((c:Nat):Int))/\x8=.v (w6 (.num v))) ->
  ∃(ps':Pr) (hd':Hd) (y7 y8 y9 y10 y11:Sl),Pg ps' hd'/\ps'.map (·.1)=(List.range M).map (dn M)/\(∀nm v c,hd'=some (nm,v,c)->nm=dn M (M-1)/\y7=.v (.int ((c:Nat):Int))/\y8=.v (w6 (.num v))) /\
   Z4 (yQ 9) zEJ ((List.range' k r).map fun k=>D.int ((0:Int)+(k:Nat))) (El S F nms cs M (prog ps) hd x7 x8 x9 x10 x11)=some (.nx (El S F nms cs M (prog ps') hd' y7 y8 y9 y10 y11))
 |0,k,ps,hd,x7,x8,x9,x10,x11,h7,h8,h9,h10,h11,hk,hp,hn,hx=>⟨ps,hd,x7,x8,x9,x10,x11,hp,by rw[hn];rw[show k=M by lia],by rw[show M=k by lia];rw[show M=k by lia] at hx;exact hx,rfl⟩
 |r+1,k,ps,hd,x7,x8,x9,x10,x11,h7,h8,h9,h10,h11,hk,hp,hn,hx=>by
  have pl:ps.length=k:=by have:=congrArg List.length hn;simpa using this
  have hh:=zHW hp
  let cut:List Int:=(cs.take (8*k+8)).drop (8*k)
  have cl:cut.length<=8:=by simp only[cut,List.length_drop,List.length_take];lia
  have f7:0<=F % 7:=Int.emod_nonneg _ (by decide)
  obtain⟨E,v,c,le,eq⟩:=ZA (cs:=cut) cl (st:=8*(k:Int)+F % 7) (by lia) hN (hd:=hd) (fun nm v c e=>⟨(hh nm v c e).1,(hh nm v c e).2.1⟩)
  have nk:NmC (dn M k):=zJ0 (by lia)
  have hp':Pg (ps++[(dn M k,E)]) (some (dn M k,v,c)):=.snoc hp le nk
  obtain⟨ps',hd',y7,y8,y9,y10,y11,q1,q2,q3,q4⟩:=mG (S:=S) (F:=F) hN (cs:=cs) hM r (k+1) (ps++[(dn M k,E)]) (some (dn M k,v,c)) (.v (.int (c:Int))) (.v (w6 (.num v))) (.v (.int (k:Int))) (.v (toD E)) (.v (.str (dn M k))) trivial trivial trivial trivial trivial (by lia) hp' (by rw[List.map_append,hn,List.range_succ,List.map_append];rfl) (fun nm v' c' e=>by cases e;exact⟨rfl,rfl,rfl⟩)
  refine⟨ps',hd',y7,y8,y9,y10,y11,q1,q2,q3,?_⟩
  ·rw[List.range'_succ,List.map_cons]
   have u9:yQ 9 (D.int ((0:Int)+(k:Nat))) (El S F nms cs M (prog ps) hd x7 x8 x9 x10 x11)=some (El S F nms cs M (prog ps) hd x7 x8 (.v (.int (k:Int))) x10 x11):=by
    rw[Int.zero_add];exact zY (i:=9) (x:=x9) rfl h9
   rw[cU u9 (r':=El S F nms cs M (prog (ps++[(dn M k,E)])) (some (dn M k,v,c)) (.v (.int (c:Int))) (.v (w6 (.num v))) (.v (.int (k:Int))) (.v (toD E)) (.v (.str (dn M k)))) ?_]
   ·exact q4
   ·let K:Sl:=.v (.int (k:Int))
    let R1:En:=El S F nms cs M (prog ps) hd x7 x8 K x10 x11
    have m8:∀r:En,r[9]?=some K->zG vL (mC (.int 8)) (zD 9) r=some (.int (8*(k:Int))):=fun r h=>cP zI (dX h) (by decide)
    have cu:mSl (zD 3) (kJ (zG vL (mC (.int 8)) (zD 9))) (kJ (zG wI (zG vL (mC (.int 8)) (zD 9)) (mC (.int 8)))) R1=some (.lst (cut.map .int)):=by
     refine zEW (x:=.lst (cs.map .int)) rfl (vA (m8 _ rfl)) (vA (xQ (m8 _ rfl) zI)) ?_
     show some (D.lst (oH (cs.map D.int) (some (8*(k:Int))) (some (8*(k:Int)+8))))=_
     rw[show(8:Int)*(k:Int)=((8*k:Nat):Int) by lia,show((8*k:Nat):Int)+8=((8*k+8:Nat):Int) by lia,X0,<-List.map_take,<-List.map_drop]
    have ca:yI 4 xU (zA (mSl (zD 3) (kJ (zG vL (mC (.int 8)) (zD 9))) (kJ (zG wI (zG vL (mC (.int 8)) (zD 9)) (mC (.int 8))))) (zA (zG wI (zG vL (mC (.int 8)) (zD 9)) (zG xX (zD 1) (mC (.int 7)))) (zA (zD 2) (zA (zD 6) zQ)))) R1=some (itD E (.num v) c):=xL (p:=.v (itD E (.num v) c)) (zF cu (zF (xQ (m8 _ rfl) (xP rfl zI (by decide))) (zF rfl (zF rfl zT)))) rfl eq
    unfold zEJ
    let V8:Sl:=.v (w6 (.num v))
    let V7:Sl:=.v (.int (c:Int))
    have s1:rH (yI 4 xU (zA (mSl (zD 3) (kJ (zG vL (mC (.int 8)) (zD 9))) (kJ (zG wI (zG vL (mC (.int 8)) (zD 9)) (mC (.int 8))))) (zA (zG wI (zG vL (mC (.int 8)) (zD 9)) (zG xX (zD 1) (mC (.int 7)))) (zA (zD 2) (zA (zD 6) zQ))))) (wY 3 (zX (yQ 10) (zX (yQ 8) (zX (yQ 7) qF)))) R1=some (.nx (El S F nms cs M (prog ps) hd V7 V8 K (.v (toD E)) x11)):=by
     unfold rH
     rw[ca,Option.bind_some]
     have a1:yQ 10 (toD E) R1=some (El S F nms cs M (prog ps) hd x7 x8 K (.v (toD E)) x11):=zY (i:=10) (x:=x10) rfl h10
     have a2:yQ 8 (w6 (.num v)) (El S F nms cs M (prog ps) hd x7 x8 K (.v (toD E)) x11)=some (El S F nms cs M (prog ps) hd x7 V8 K (.v (toD E)) x11):=zY (i:=8) (x:=x8) rfl h8
     have a3:yQ 7 (.int (c:Int)) (El S F nms cs M (prog ps) hd x7 V8 K (.v (toD E)) x11)=some (El S F nms cs M (prog ps) hd V7 V8 K (.v (toD E)) x11):=zY (i:=7) (x:=x7) rfl h7
     show((yQ 10 (toD E) _).bind fun z=>(yQ 8 (w6 (.num v)) z).bind fun z=>(yQ 7 (.int (c:Int)) z).bind fun z=>some z).map Fl.nx=_
     rw[a1,Option.bind_some,a2,Option.bind_some,a3];rfl
    rw[yH s1]
    refine zZ (.str zEM) (r2:=El S F nms cs M (prog ps) hd V7 V8 K (.v (toD E)) (.v (.str zEM))) zI (zY (i:=11) (x:=x11) rfl h11) ?_
    have s2:sIf (mBl (zG ltA (zD 9) (zG zAH (zD 4) (mC (.int 1))))) (xE 11 (zG wI (mC (.str [119])) (zG ixD (mC (.str [97,98,99,100,101,102,103,104,105,106,107,108,109,110])) (zD 9)))) xY (El S F nms cs M (prog ps) hd V7 V8 K (.v (toD E)) (.v (.str zEM)))=some (.nx (El S F nms cs M (prog ps) hd V7 V8 K (.v (toD E)) (.v (.str (dn M k))))):=by
     have ct:mBl (zG ltA (zD 9) (zG zAH (zD 4) (mC (.int 1)))) (El S F nms cs M (prog ps) hd V7 V8 K (.v (toD E)) (.v (.str zEM)))=some (decide ((k:Int)<(M:Int)-1)):=kW (zV (x:=.int (k:Int)) (y:=.int ((M:Int)-1)) rfl (zV rfl zI rfl) rfl)
     by_cases z:k+1<M
     ·rw[decide_eq_true (by lia)] at ct
      rw[mW ct,show dn M k=[119,97+k] from if_pos z]
      have a14:∀j:Nat,j<14->([97,98,99,100,101,102,103,104,105,106,107,108,109,110]:List Nat)[j]?=some (97+j):=by decide
      refine wL (d:=.str [119,97+k]) (zV (x:=.str [119]) (y:=.str [97+k]) zI (zV (x:=.str [97,98,99,100,101,102,103,104,105,106,107,108,109,110]) (y:=.int (k:Int)) zI rfl ?_) (d9 (by show 1+1<=100;decide))) (by rfl)
      show(if ([97,98,99,100,101,102,103,104,105,106,107,108,109,110]:List Nat).length<=sizeLine then (atI ([97,98,99,100,101,102,103,104,105,106,107,108,109,110]:List Nat) (k:Int)).map fun c=>D.str [c] else none)=_
      rw[if_pos (by decide),xG (a14 k (by lia))];rfl
     ·rw[decide_eq_false (by lia)] at ct
      rw[YE ct,show dn M k=zEM from if_neg z];rfl
    rw[yH s2]
    have s3:sX (t8 5 (yW (zA (zD 11) (zA (zD 10) zQ)))) (El S F nms cs M (prog ps) hd V7 V8 K (.v (toD E)) (.v (.str (dn M k))))=some (.nx (El S F nms cs M (prog (ps++[(dn M k,E)])) hd V7 V8 K (.v (toD E)) (.v (.str (dn M k))))):=by
     rw[W3]
     exact tF (oM (i:=5) (S:=prog ps) (d:=.tup [.str (dn M k),toD E]) rfl (yT (zF rfl (zF rfl zT)) (by show 2<=100;decide)) (by rw[W2];exact wW (by lia)))
    rw[yH s3]
    refine wL (d:=itD (.nm (dn M k)) (.num v) (c+1)) ?_ (by rfl)
    rw[show itD (.nm (dn M k)) (.num v) (c+1)=.tup [toD (.nm (dn M k)),w6 (.num v),.int ((c:Int)+1)] by unfold itD;rw[show((c+1:Nat):Int)=(c:Int)+1 by lia]]
    exact yT (zF (yT (zF zI (zF rfl zT)) (by show 2<=100;decide)) (zF rfl (zF (xQ rfl zI) zT))) (by show 3<=100;decide)
theorem zB1{ps:Pr}{hd:Hd}(h:Pg ps hd)(hp:ps≠[]):∃nm v c,hd=some (nm,v,c):=by
 cases h with
 |nil=>exact absurd rfl hp
 |snoc=>exact⟨_,_,_,rfl⟩
theorem gS{f:Nat->List Nat}:∀{l:List Nat},l.Nodup->(∀a∈l,∀b∈l,f a=f b->a=b)->(l.map f).Nodup
 |[],_,_=>List.nodup_nil
 |a::l,h,hi=>by
  rw[List.nodup_cons] at h
  rw[List.map_cons,List.nodup_cons]
  refine⟨fun z=>?_,gS h.2 fun x hx y hy=>hi x (by simp[hx]) y (by simp[hy])⟩
  obtain⟨b,hb,e⟩:=List.mem_map.mp z
  have:=hi b (by simp[hb]) a (by simp) e
  exact h.1 (this ▸ hb)
theorem JK(M:Nat):((List.range M).map (dn M)).Nodup:=by
 refine gS List.nodup_range fun a ha b hb e=>?_
 have ha:=List.mem_range.mp ha
 have hb:=List.mem_range.mp hb
 unfold dn at e
 by_cases c1:a+1<M
 ·by_cases c2:b+1<M
  ·rw[if_pos c1,if_pos c2] at e
   have:=(List.cons.inj (List.cons.inj e).2).1
   lia
  ·rw[if_pos c1,if_neg c2] at e
   exact absurd (List.cons.inj e).1 (by decide)
 ·by_cases c2:b+1<M
  ·rw[if_neg c1,if_pos c2] at e
   exact absurd (List.cons.inj e).1 (by decide)
  ·lia
theorem zCY(n:Nat)(hn:n<=62):∃M:Nat,1<=M/\M<=8/\1+max 0 ((n:Int)-1) / 8=(M:Int):=by
 refine⟨(1+max 0 ((n:Int)-1) / 8).toNat,?_,?_,?_⟩
 ·omega
 ·omega
 ·omega
theorem zCX{f g:ME}{r:En}{i j:Int}(h1:f r=some (.int i))(h2:g r=some (.int j)):zJP (zA f (zA g zQ)) r=some (.int (max i j)):=by
 unfold zJP
 rw[zF h1 (zF h2 zT)]
 show some (D.int (if j > i then j else i))=_
 congr 2
 split<;>lia
theorem law_math:∀ns:List Int,ns.length<=63->∃as,rD [.v (.lst (ns.map .int))]=some (.v (.bl true),as):=by
 intro ns hns
 obtain⟨c0,hc0⟩:=zEH ns 0
 obtain⟨F,F0,hF⟩:=vB c0 900
 obtain⟨nms,hN,hN2⟩:=QW F0
 let cs:List Int:=(ns.take 97).drop 1
 have cl:cs.length<=62:=by simp only[cs,List.length_drop,List.length_take];lia
 obtain⟨M,M1,M8,eM⟩:=zCY cs.length cl
 let S:D:=.lst (ns.map .int)
 obtain⟨ps,hd,y7,y8,y9,y10,y11,q1,q2,q3,q4⟩:=mG (S:=S) (F:=F) hN (cs:=cs) (M:=M) (by lia) M 0 [] none (.v (.int 0)) (.v (w6 (.num 0))) .un .un .un trivial trivial trivial trivial trivial (by lia) .nil rfl (fun nm v c e=>by cases e)
 have pl:ps.length=M:=by have:=congrArg List.length q2;simpa using this
 obtain⟨nm,v,c,rfl⟩:=zB1 q1 (fun z=>by rw[z] at pl;simp at pl;lia)
 obtain⟨rfl,rfl,rfl⟩:=q3 nm v c rfl
 have dm:dn M (M-1)=zEM:=if_neg (by lia)
 rw[dm] at q1 q4
 have pnd:(ps.map (·.1)).Nodup:=by rw[q2];exact JK M
 have hc:=(zHW q1 _ _ _ rfl)
 have ok:=zHV q1
 have rep:gF (prog ps)=true:=zBM (by lia) fun p hp=>⟨QU (ok p hp).1,(ok p hp).1.len,(ok p hp).2⟩
 have rb:=fun(mo:Int) (h:0<=mo)=>WU q1 (by lia) pnd (mo:=mo) h
 let P:List D:=prog ps
 let V:D:=.tup [.str VAL,.int (c:Int),.int v]
 let B:Sl->Sl->En:=fun a b=>[.v S,.v (.int F),.v (.lst (nms.map .str)),.v (.lst (cs.map .int)),.v (.int (M:Int)),.o P,.v (hdD (some (zEM,v,c))),.v (.int (c:Int)),.v (w6 (.num v)),y9,y10,y11,a,b]
 refine kN (r':=B (.v (gG P)) (.v V)) ?_
 show J8 [.v S,.un,.un,.un,.un,.un,.un,.un,.un,.un,.un,.un,.un,.un]=_
 unfold J8
 refine zZ (.int F) (r2:=[.v S,.v (.int F),.un,.un,.un,.un,.un,.un,.un,.un,.un,.un,.un,.un]) (xL (p:=.v (.int F)) (zF (xL (p:=.v (.int c0)) (zF (x:=S) rfl (zF zI zT)) rfl hc0) (zF zI zT)) rfl hF) (by rfl) ?_
 refine zZ (.lst (nms.map .str)) (r2:=[.v S,.v (.int F),.v (.lst (nms.map .str)),.un,.un,.un,.un,.un,.un,.un,.un,.un,.un,.un]) (xL (p:=.v (.lst (nms.map .str))) (zF rfl zT) rfl hN2) (by rfl) ?_
 refine zZ (.lst (cs.map .int)) (r2:=[.v S,.v (.int F),.v (.lst (nms.map .str)),.v (.lst (cs.map .int)),.un,.un,.un,.un,.un,.un,.un,.un,.un,.un]) ?_ (by rfl) ?_
 ·refine zEW (x:=S) rfl (vA zI) (vA zI) ?_
  show some (D.lst (oH (ns.map D.int) (some ((1:Nat):Int)) (some ((97:Nat):Int))))=_
  rw[X0,<-List.map_take,<-List.map_drop]
 refine zZ (.int (M:Int)) (r2:=[.v S,.v (.int F),.v (.lst (nms.map .str)),.v (.lst (cs.map .int)),.v (.int (M:Int)),.un,.un,.un,.un,.un,.un,.un,.un,.un]) ?_ (by rfl) ?_
 ·rw[<-eM]
  exact xQ zI (wH (zCX zI (zV (x:=.int (cs.length:Int)) (y:=.int 1) (bG (x:=.lst (cs.map .int)) rfl (by show some (D.int ((cs.map D.int).length:Int))=_;rw[List.length_map])) zI rfl)) zI (by decide))
 rw[yH (r':=[.v S,.v (.int F),.v (.lst (nms.map .str)),.v (.lst (cs.map .int)),.v (.int (M:Int)),.o [],.un,.un,.un,.un,.un,.un,.un,.un]) (by rfl)]
 refine zZ .non (r2:=[.v S,.v (.int F),.v (.lst (nms.map .str)),.v (.lst (cs.map .int)),.v (.int (M:Int)),.o [],.v .non,.un,.un,.un,.un,.un,.un,.un]) zI (by rfl) ?_
 refine zZ (.int 0) (r2:=[.v S,.v (.int F),.v (.lst (nms.map .str)),.v (.lst (cs.map .int)),.v (.int (M:Int)),.o [],.v .non,.v (.int 0),.un,.un,.un,.un,.un,.un]) zI (by rfl) ?_
 refine zZ (w6 (.num 0)) (r2:=El S F nms cs M (prog []) none (.v (.int 0)) (.v (w6 (.num 0))) .un .un .un) (yT (zF zI (zF zI zT)) (by show 2<=100;decide)) (by rfl) ?_
 have s7:mX (yQ 9) (YY (zD 4)) zEJ (El S F nms cs M (prog []) none (.v (.int 0)) (.v (w6 (.num 0))) .un .un .un)=some (.nx (B .un .un)):=by
  unfold mX
  rw[zBK (n:=M) rfl (by lia),Option.bind_some,List.range_eq_range']
  exact q4
 unfold zEJ at s7
 rw[yH s7]
 have own:∀a b:Sl,rK 5 (B a b)=some P:=fun _ _=>rfl
 have rp:∀a b:Sl,g8 (rK 5) (B a b)=some (gG P):=fun a b=>by
  unfold g8
  rw[own,Option.bind_some,if_pos rep]
 refine zZ (gG P) (r2:=B (.v (gG P)) .un) (rp _ _) (by rfl) ?_
 refine zZ V (r2:=B (.v (gG P)) (.v V)) (dR (own _ _) (zF zI zT) rfl ((rb 1000 (by decide)).1 (by lia)) (by rfl)) (by rfl) ?_
 let R9:En:=B (.v (gG P)) (.v V)
 have w:∀(f:ME) (i:Int),f R9=some (.int i)->YZ (gZ (yI 1 x0 (zA f zQ))) R9=some false:=fun f i h=>by
  unfold YZ gZ
  have cw:yI 1 x0 (zA f zQ) R9=some (.bl true):=xL (p:=.v (.bl true)) (zF h zT) rfl (rP i)
  rw[cw];rfl
 refine j0 ?_ ?_
 ·have a1:mBl (zG (neN 400) (zD 13) (yW (zA (mC (.str [118,97,108,117,101])) (zA (zD 7) (zA (zG ixD (zD 8) (mC (.int 1))) zQ))))) R9=some false:=kW (zV (x:=V) (y:=V) rfl (yT (zF zI (zF rfl (zF (zV (x:=w6 (.num v)) rfl zI (xG (j:=1) rfl)) zT))) (by show 3<=100;decide)) (zGN _ _))
  have a2:=w (zG ixD (zD 13) (mC (.int 1))) (c:Int) (zV (x:=V) rfl zI (xG (j:=1) rfl))
  have a3:=w (zG ixD (zD 13) (mC (.int 2))) v (zV (x:=V) rfl zI (xG (j:=2) rfl))
  unfold zJO
  rw[a1,Option.bind_some,if_neg (by decide),a2,Option.bind_some,if_neg (by decide),a3]
 have m1:zG zAH (zD 7) (mC (.int 1)) R9=some (.int ((c:Int)-1)):=zV rfl zI rfl
 refine j0 ?_ ?_
 ·unfold wM
  have g1:mBl (zG gtD (zD 7) (mC (.int 0))) R9=some (decide ((0:Int)<(c:Int))):=zH6 rfl zI
  rw[g1,Option.bind_some]
  by_cases h:0<c
  ·rw[decide_eq_true (by lia),if_pos rfl]
   exact kW (zV (x:=.tup [.str TIR,.int ((c:Int)-1),.non]) (y:=.tup [.str TIR,.int ((c:Int)-1),.non]) (dR (own _ _) (zF m1 zT) rfl ((rb ((c:Int)-1) (by lia)).2 (by lia)) (by rfl)) (yT (zF zI (zF m1 (zF zI zT))) (by show 3<=100;decide)) (zGO _))
  ·rw[decide_eq_false (by lia),if_neg (by decide)]
 refine j4 ?_
 have b1:zG (eqN 400) (cQ 2 dC 5 (zA (zD 7) zQ)) (zD 13) R9=some (.bl true):=zV (x:=V) (y:=V) (dR (own _ _) (zF rfl zT) rfl ((rb (c:Int) (by lia)).1 (Int.le_refl _)) (by rfl)) rfl (zG8 _ _)
 unfold zJQ
 rw[b1,Option.bind_some]
 show zG eqA (g8 (rK 5)) (zD 12) R9=_
 refine zV (x:=gG P) (y:=gG P) (rp _ _) rfl ?_
 show some (D.bl (decide (_=_)))=_
 rw[decide_eq_true rfl]
theorem zAL{α:Type}{l:List α}(h:l.length=1):∃a0,l=[a0]:=List.length_eq_one_iff.mp h
theorem zAK{α:Type}{l:List α}(h:l.length=2):∃a0 a1,l=[a0,a1]:=by
 cases l with
 |nil=>cases h
 |cons a0 l=>obtain⟨a1,rfl⟩:=zAL (Nat.succ.inj h);exact⟨a0,a1,rfl⟩
theorem zE7{α:Type}{l:List α}(h:l.length=3):∃a0 a1 a2,l=[a0,a1,a2]:=by
 cases l with
 |nil=>cases h
 |cons a0 l=>obtain⟨a1,a2,rfl⟩:=zAK (Nat.succ.inj h);exact⟨a0,a1,a2,rfl⟩
theorem zGV{α:Type}{l:List α}(h:l.length=4):∃a0 a1 a2 a3,l=[a0,a1,a2,a3]:=by
 cases l with
 |nil=>cases h
 |cons a0 l=>obtain⟨a1,a2,a3,rfl⟩:=zE7 (Nat.succ.inj h);exact⟨a0,a1,a2,a3,rfl⟩
noncomputable def mV(K:Fg)(n:Str)(st:Stmt):Prop:=∃(f:Addr) (od an:Option Addr) (sl:Array (Option Value)) (oc kV dc pm cd ct:Value),PySem.W.nsIn K mainGlobals n=some (some (.ref f))/\K.lookup f=some ⟨oc,od,.func (PySem.W.fnOf n n (jT st) (qE st) (zP st) .none kV dc pm an cd ct),sl⟩/\PySem.W.codeIn K cd n=true/\PySem.W.keepIn K (.ref f)=true
theorem dfo{K:Fg}{n:Str}{st:Stmt}{f:Addr}{od an:Option Addr}{sl:Array (Option Value)}{oc kV dc pm cd ct:Value}(a:PySem.W.nsIn K mainGlobals n=some (some (.ref f)))(l:K.lookup f=some ⟨oc,od,.func (PySem.W.fnOf n n (jT st) (qE st) (zP st) .none kV dc pm an cd ct),sl⟩)(c:PySem.W.codeIn K cd n=true)(k:PySem.W.keepIn K (.ref f)=true):mV K n st:=⟨f,od,an,sl,oc,kV,dc,pm,cd,ct,a,l,c,k⟩
theorem deo{K:Fg}{h:Heap}{mg:Str->Option Value}{n:Str}{i:Nat}{ps:List Str}(X:K.In h)(G:h.Ns mainGlobals mg)(D:mV K n (top i))(hb:∀{f:Addr} {d:FuncData},Fun K n n (top i) f d->Binds K d ps []):Nonempty (De K mg n i ps):=by
 obtain⟨f,_,_,_,_,_,_,_,_,_,a,l,c,k⟩:=D
 have F:=ZM (st:=top i) l c k
 exact⟨⟨f,_,F,PySem.W.mg_of X G a,hb F⟩⟩
noncomputable def FnK(K:Fg)(n q:Str)(st:Stmt)(f:Addr):Prop:=∃(od an:Option Addr) (sl:Array (Option Value)) (oc kV dc pm cd ct:Value),K.lookup f=some ⟨oc,od,.func (PySem.W.fnOf n q (jT st) (qE st) (zP st) .none kV dc pm an cd ct),sl⟩/\PySem.W.codeIn K cd q=true/\PySem.W.keepIn K (.ref f)=true
theorem fnk{K:Fg}{n q:Str}{st:Stmt}{f:Addr}{od an:Option Addr}{sl:Array (Option Value)}{oc kV dc pm cd ct:Value}(l:K.lookup f=some ⟨oc,od,.func (PySem.W.fnOf n q (jT st) (qE st) (zP st) .none kV dc pm an cd ct),sl⟩)(c:PySem.W.codeIn K cd q=true)(k:PySem.W.keepIn K (.ref f)=true):FnK K n q st f:=⟨od,an,sl,oc,kV,dc,pm,cd,ct,l,c,k⟩
theorem vM{K:Fg}{n q:Str}{st:Stmt}{f:Addr}{ps:List Str}(D:FnK K n q st f)(hb:∀{f:Addr} {d:FuncData},Fun K n q st f d->Binds K d ps []):∃m:Dm K n q st ps,m.a=f/\PySem.W.keepIn K (.ref f)=true:=by
 obtain⟨_,_,_,_,_,_,_,_,_,l,c,k⟩:=D
 have F:=ZM (st:=st) l c k
 exact⟨⟨f,_,F,hb F⟩,rfl,k⟩
theorem hV{K:Fg}{h:Heap}{mg:Str->Option Value}{n:Str}{i:Nat}{f:Addr}{ps:List Str}(X:K.In h)(G:h.Ns mainGlobals mg)(a:PySem.W.nsIn K mainGlobals n=some (some (.ref f)))(D:FnK K n n (top i) f)(hb:∀{f:Addr} {d:FuncData},Fun K n n (top i) f d->Binds K d ps []):∃m:De K mg n i ps,m.a=f:=by
 obtain⟨_,_,_,_,_,_,_,_,_,l,c,k⟩:=D
 have F:=ZM (st:=top i) l c k
 exact⟨⟨f,_,F,PySem.W.mg_of X G a,hb F⟩,rfl⟩
theorem itup_mk{K:Fg}{p:Addr}{ns:List Int}{od:Option Addr}{its:Array Value}{n:Nat}{sl:Array (Option Value)}(l:K.lookup p=some ⟨.type "tuple",od,.seq its n,sl⟩)(s:its.size<=sizeLine)(v:Vals (ns.map V.int) its.toList):rN K p ns:=⟨_,_,_,l,rfl,rfl,s,v⟩
theorem zGW{K:Fg}(hm:∀ns:List Int,ns.length<=63->∃as,rD [.v (.lst (ns.map .int))]=some (.v (.bl true),as))(H:Hp)(a:Addr)(ns:List Int)(hl:ns.length<=63)(hS:SqL K H a (ns.map V.int)):spD K 1 rD [.ref a] H (fun v _=>v=.bl true) (fun _ _ _=>False):=by
 have il:∀l:List Int,IsL K (fun _=>False) H (l.map D.int) (l.map V.int):=fun l=>by
  induction l with
  |nil=>exact IsL.nil
  |cons x l ih=>exact .cons (by rw[Is.int_iff]) ih
 obtain⟨as,e⟩:=hm ns hl
 refine⟨fun _=>False,[.v (.lst (ns.map .int))],_,as,rfl,R.args (ds:=[.lst (ns.map .int)]) noF (.cons (by rw[Is.lst_iff];exact⟨a,_,rfl,hS.imp (fun z=>⟨id,z⟩) id,il ns⟩) .nil),fun i l=>?_,e,fun v H' _ iv=>by rw[Is.bl_iff] at iv;exact iv⟩
 cases i with
 |zero=>exact⟨(fun z=>by cases z),(fun z=>by cases z),(fun _ z=>by cases z)⟩
 |succ i=>exact⟨(fun z=>by cases z),(fun z=>by cases z),(fun _ z=>by cases z)⟩
theorem all_mk{l:PySem.W.OpenLaw}{w:World}{K:Fg}{h:Heap}{mg:Str->Option Value}{fa:Addr}(X:K.In h)(G:h.Ns mainGlobals mg)(hfa:mg "law" = some (.ref fa))(D0:mV K "inner" (top 2))(D1:mV K "places" (top 1))(D2:mV K "inner_numbers" (top 4))(D3:mV K "sort_of" (top 9))(D4:mV K "binding" (top 10))(D5:mV K "worked" (top 11))(D6:mV K "held_in" (top 38))(D7:mV K "told_part" (top 39))(D8:mV K "told" (top 37))(D9:mV K "marked" (top 15))(D10:mV K "_law_cell" (top 41))(D11:mV K "_law_mixed" (top 42))(D12:mV K "_law_whole" (top 43))(D13:mV K "_law_bound" (top 44))(D14:mV K "_law_number" (top 45))(D15:mV K "_law_function" (top 46))(D16:mV K "_law_layers" (top 47))(D17:mV K "_law_names" (top 48))(D18:mV K "law" (top 49)){C B:Addr}(aC:PySem.W.nsIn K mainGlobals "Plain" = some (some (.ref C)))(aB:PySem.W.nsIn K mainGlobals "Reckoner" = some (some (.ref B)))(pg:PySem.W.plainGet K C Str.empty=true)(hd:PySem.W.hasDictIn K C=true)(po:PySem.W.plainOver K C=true)(sa:PySem.W.findIn K (.ref C) "__setattr__" = some (some (.builtin "object.__setattr__")))(mk:PySem.W.makesIn K C=true)(kc:PySem.W.keepIn K (.ref C)=true)(n_most:PySem.W.findIn K (.ref C) "most" = some none)(n_steps:PySem.W.findIn K (.ref C) "steps" = some none)(n_waiting:PySem.W.findIn K (.ref C) "waiting" = some none)(n_come:PySem.W.findIn K (.ref C) "come" = some none)(n_ended:PySem.W.findIn K (.ref C) "ended" = some none)(n_defs:PySem.W.findIn K (.ref C) "defs" = some none){f_rinit:Addr}(fc:PySem.W.findCls K (.ref B) (.type "type") "__init__" = some (.val (.ref f_rinit)))(cga:PySem.W.specialIn K (.ref B) "__getattribute__" = some (some (.builtin "type.__getattribute__")))(crd:PySem.W.readsIn K B (.type "type")=true)(chh:PySem.W.handedIn (.ref f_rinit)=true)(q_rinit:FnK K "__init__" "Reckoner.__init__" (bE 8 0) f_rinit){f_pinit:Addr}(a_pinit:PySem.W.findIn K (.ref C) "__init__" = some (some (.ref f_pinit)))(i_pinit:PySem.W.isFn K (.ref f_pinit)=true)(q_pinit:FnK K "__init__" "Plain.__init__" (bE 16 0) f_pinit){xF:Addr}(a_begin:PySem.W.findIn K (.ref C) "begin" = some (some (.ref xF)))(i_begin:PySem.W.isFn K (.ref xF)=true)(q_begin:FnK K "begin" "Reckoner.begin" (bE 8 1) xF){wJ:Addr}(a_tell:PySem.W.findIn K (.ref C) "tell" = some (some (.ref wJ)))(i_tell:PySem.W.isFn K (.ref wJ)=true)(q_tell:FnK K "tell" "Reckoner.tell" (bE 8 2) wJ){qJ:Addr}(a_step:PySem.W.findIn K (.ref C) "step" = some (some (.ref qJ)))(i_step:PySem.W.isFn K (.ref qJ)=true)(q_step:FnK K "step" "Reckoner.step" (bE 8 3) qJ){qN:Addr}(a_run_on:PySem.W.findIn K (.ref C) "run_on" = some (some (.ref qN)))(i_run_on:PySem.W.isFn K (.ref qN)=true)(q_run_on:FnK K "run_on" "Reckoner.run_on" (bE 8 4) qN){yA:Addr}(a_begin_parts:PySem.W.findIn K (.ref C) "begin_parts" = some (some (.ref yA)))(i_begin_parts:PySem.W.isFn K (.ref yA)=true)(q_begin_parts:FnK K "begin_parts" "Reckoner.begin_parts" (bE 8 5) yA){yJ:Addr}(a_parts_come:PySem.W.findIn K (.ref C) "parts_come" = some (some (.ref yJ)))(i_parts_come:PySem.W.isFn K (.ref yJ)=true)(q_parts_come:FnK K "parts_come" "Reckoner.parts_come" (bE 8 6) yJ){wX:Addr}(a_go_on:PySem.W.findIn K (.ref C) "go_on" = some (some (.ref wX)))(i_go_on:PySem.W.isFn K (.ref wX)=true)(q_go_on:FnK K "go_on" "Plain.go_on" (bE 16 1) wX){f_run:Addr}(a_run:PySem.W.nsIn K mainGlobals "run" = some (some (.ref f_run)))(q_run:FnK K "run" "run" (top 14) f_run){qO:Addr}(a_of_num:PySem.W.nsIn K mainGlobals "of_num" = some (some (.ref qO)))(q_of_num:FnK K "of_num" "of_num" (top 21) qO){yX:Addr}(a_of_name:PySem.W.nsIn K mainGlobals "of_name" = some (some (.ref yX)))(q_of_name:FnK K "of_name" "of_name" (top 22) yX){jS:Addr}(a_of_fn:PySem.W.nsIn K mainGlobals "of_fn" = some (some (.ref jS)))(q_of_fn:FnK K "of_fn" "of_fn" (top 23) jS){qD:Addr}(a_of_do:PySem.W.nsIn K mainGlobals "of_do" = some (some (.ref qD)))(q_of_do:FnK K "of_do" "of_do" (top 24) qD){yK:Addr}(a_of_working:PySem.W.nsIn K mainGlobals "of_working" = some (some (.ref yK)))(q_of_working:FnK K "of_working" "of_working" (top 35) yK){g_of_empty g_of_get g_of_with g_of_put g_of_less g_of_tag g_of_wide g_of_case g_of_never g_of_if:Addr}{p_WAYS:Addr}{es_WAYS:Array DictEntry}{n_WAYS:Nat}(c_WAYS:PySem.W.nsIn K mainGlobals "WAYS" = some (some (.ref p_WAYS)))(l_WAYS:K.lookup p_WAYS=some ⟨.type "dict",none,.dict es_WAYS n_WAYS,#[]⟩)(y_WAYS:(p_WAYS == sysModules)=false)(k_WAYS:PySem.W.KeysLit w.params es_WAYS.toList)(e_WAYS:rF es_WAYS.toList [([110,117,109],qO),([110,97,109,101],yX),([102,110],jS),([100,111],qD),([101,109,112,116,121],g_of_empty),([103,101,116],g_of_get),([119,105,116,104],g_of_with),([112,117,116],g_of_put),([108,101,115,115],g_of_less),([116,97,103],g_of_tag),([119,105,100,101],g_of_wide),([99,97,115,101],g_of_case),([110,101,118,101,114],g_of_never),([105,102],g_of_if),([43],yK),([45],yK),([42],yK),([60],yK)]){t_0 t_1 t_2 t_3 t_4 t_5 t_6 t_7 t_8 t_9 t_10 t_11 t_12 t_13:Addr}{p_AHEAD:Addr}{es_AHEAD:Array DictEntry}{n_AHEAD:Nat}(c_AHEAD:PySem.W.nsIn K mainGlobals "AHEAD" = some (some (.ref p_AHEAD)))(l_AHEAD:K.lookup p_AHEAD=some ⟨.type "dict",none,.dict es_AHEAD n_AHEAD,#[]⟩)(y_AHEAD:(p_AHEAD == sysModules)=false)(k_AHEAD:PySem.W.KeysLit w.params es_AHEAD.toList)(e_AHEAD:rF es_AHEAD.toList [([100,111],t_0),([103,101,116],t_1),([119,105,116,104],t_2),([112,117,116],t_3),([108,101,115,115],t_4),([116,97,103],t_5),([119,105,100,101],t_6),([99,97,115,101],t_7),([110,101,118,101,114],t_8),([105,102],t_9),([43],t_10),([45],t_11),([42],t_12),([60],t_13)])(j_0:rN K t_0 [1,2])(j_1:rN K t_1 [2])(j_2:rN K t_2 [2,3])(j_3:rN K t_3 [2,3])(j_4:rN K t_4 [2])(j_5:rN K t_5 [2])(j_6:rN K t_6 [2])(j_7:rN K t_7 [1])(j_8:rN K t_8 [1])(j_9:rN K t_9 [1])(j_10:rN K t_10 [1,2])(j_11:rN K t_11 [1,2])(j_12:rN K t_12 [1,2])(j_13:rN K t_13 [1,2])(z_bool:PySem.W.nsIn K mainGlobals "bool" = some none)(z_dict:PySem.W.nsIn K mainGlobals "dict" = some none)(z_enumerate:PySem.W.nsIn K mainGlobals "enumerate" = some none)(z_int:PySem.W.nsIn K mainGlobals "int" = some none)(z_isinstance:PySem.W.nsIn K mainGlobals "isinstance" = some none)(z_len:PySem.W.nsIn K mainGlobals "len" = some none)(z_max:PySem.W.nsIn K mainGlobals "max" = some none)(z_range:PySem.W.nsIn K mainGlobals "range" = some none)(z_repr:PySem.W.nsIn K mainGlobals "repr" = some none)(z_reversed:PySem.W.nsIn K mainGlobals "reversed" = some none)(z_sorted:PySem.W.nsIn K mainGlobals "sorted" = some none)(z_tuple:PySem.W.nsIn K mainGlobals "tuple" = some none){t_END_OF_NUMBERS:Tok}(c_END_OF_NUMBERS:PySem.W.nsIn K mainGlobals "END_OF_NUMBERS" = some (some (.int 1000000 t_END_OF_NUMBERS))){t_MOST_PARTS:Tok}(c_MOST_PARTS:PySem.W.nsIn K mainGlobals "MOST_PARTS" = some (some (.int 200 t_MOST_PARTS))):∃fd:FuncData,(∀(s:Shared) (v:Value),BindsTo s fd ⟨[v],[]⟩ [("_law_script",v)])/\∀base:Heap,K.In base->base.Ns mainGlobals mg->FnOk l.prog w K mg base CX0 47 fa fd ["_law_script"] (spD K 1 rD):=by
 obtain⟨f18,_,_,_,_,_,_,_,_,_,a18,l18,c18,k18⟩:=D18
 have e:=hfa.symm.trans (PySem.W.mg_of X G a18)
 cases e
 have F18:=ZM (st:=top 49) l18 c18 k18
 have b18:=F18.binds (ps:=["_law_script"]) fun _ _ _ _ _ _ us hl=>by obtain⟨_,rfl⟩:=zAL hl;rfl
 obtain⟨m_rinit,rfl,k_rinit⟩:=vM (ps:=["self", "most"]) q_rinit fun F=>F.binds (ps:=["self", "most"]) fun _ _ _ _ _ _ us hl=>by obtain⟨_,_,rfl⟩:=zAK hl;rfl
 obtain⟨m_pinit,rfl,k_pinit⟩:=vM (ps:=["self", "program", "most"]) q_pinit fun F=>F.binds (ps:=["self", "program", "most"]) fun _ _ _ _ _ _ us hl=>by obtain⟨_,_,_,rfl⟩:=zE7 hl;rfl
 obtain⟨m_begin,rfl,k_begin⟩:=vM (ps:=["self", "expression", "around"]) q_begin fun F=>F.binds (ps:=["self", "expression", "around"]) fun _ _ _ _ _ _ us hl=>by obtain⟨_,_,_,rfl⟩:=zE7 hl;rfl
 obtain⟨m_tell,rfl,k_tell⟩:=vM (ps:=["self", "value"]) q_tell fun F=>F.binds (ps:=["self", "value"]) fun _ _ _ _ _ _ us hl=>by obtain⟨_,_,rfl⟩:=zAK hl;rfl
 obtain⟨m_step,rfl,k_step⟩:=vM (ps:=["self"]) q_step fun F=>F.binds (ps:=["self"]) fun _ _ _ _ _ _ us hl=>by obtain⟨_,rfl⟩:=zAL hl;rfl
 obtain⟨m_run_on,rfl,k_run_on⟩:=vM (ps:=["self"]) q_run_on fun F=>F.binds (ps:=["self"]) fun _ _ _ _ _ _ us hl=>by obtain⟨_,rfl⟩:=zAL hl;rfl
 obtain⟨m_begin_parts,rfl,k_begin_parts⟩:=vM (ps:=["self", "expression", "around"]) q_begin_parts fun F=>F.binds (ps:=["self", "expression", "around"]) fun _ _ _ _ _ _ us hl=>by obtain⟨_,_,_,rfl⟩:=zE7 hl;rfl
 obtain⟨m_parts_come,rfl,k_parts_come⟩:=vM (ps:=["self", "expression"]) q_parts_come fun F=>F.binds (ps:=["self", "expression"]) fun _ _ _ _ _ _ us hl=>by obtain⟨_,_,rfl⟩:=zAK hl;rfl
 obtain⟨m_go_on,rfl,k_go_on⟩:=vM (ps:=["self", "expression", "bound", "parts"]) q_go_on fun F=>F.binds (ps:=["self", "expression", "bound", "parts"]) fun _ _ _ _ _ _ us hl=>by obtain⟨_,_,_,_,rfl⟩:=zGV hl;rfl
 obtain⟨d_run,rfl⟩:=hV (ps:=["program", "most"]) X G a_run q_run fun F=>F.binds (ps:=["program", "most"]) fun _ _ _ _ _ _ us hl=>by obtain⟨_,_,rfl⟩:=zAK hl;rfl
 obtain⟨d_of_num,rfl⟩:=hV (ps:=["plain", "expression", "bound", "parts"]) X G a_of_num q_of_num fun F=>F.binds (ps:=["plain", "expression", "bound", "parts"]) fun _ _ _ _ _ _ us hl=>by obtain⟨_,_,_,_,rfl⟩:=zGV hl;rfl
 obtain⟨d_of_name,rfl⟩:=hV (ps:=["plain", "expression", "bound", "parts"]) X G a_of_name q_of_name fun F=>F.binds (ps:=["plain", "expression", "bound", "parts"]) fun _ _ _ _ _ _ us hl=>by obtain⟨_,_,_,_,rfl⟩:=zGV hl;rfl
 obtain⟨d_of_fn,rfl⟩:=hV (ps:=["plain", "expression", "bound", "parts"]) X G a_of_fn q_of_fn fun F=>F.binds (ps:=["plain", "expression", "bound", "parts"]) fun _ _ _ _ _ _ us hl=>by obtain⟨_,_,_,_,rfl⟩:=zGV hl;rfl
 obtain⟨d_of_do,rfl⟩:=hV (ps:=["plain", "expression", "bound", "parts"]) X G a_of_do q_of_do fun F=>F.binds (ps:=["plain", "expression", "bound", "parts"]) fun _ _ _ _ _ _ us hl=>by obtain⟨_,_,_,_,rfl⟩:=zGV hl;rfl
 obtain⟨d_of_working,rfl⟩:=hV (ps:=["plain", "expression", "bound", "parts"]) X G a_of_working q_of_working fun F=>F.binds (ps:=["plain", "expression", "bound", "parts"]) fun _ _ _ _ _ _ us hl=>by obtain⟨_,_,_,_,rfl⟩:=zGV hl;rfl
 exact⟨_,fun s v=>.of_eq rfl,fun base _ _=>zGK ⟨Classical.choice (deo (ps:=["expression"]) X G D0 fun F=>F.binds (ps:=["expression"]) fun _ _ _ _ _ _ us hl=>by obtain⟨_,rfl⟩:=zAL hl;rfl),
  Classical.choice (deo (ps:=["E"]) X G D1 fun F=>F.binds (ps:=["E"]) fun _ _ _ _ _ _ us hl=>by obtain⟨_,rfl⟩:=zAL hl;rfl),
  Classical.choice (deo (ps:=["expression", "number"]) X G D2 fun F=>F.binds (ps:=["expression", "number"]) fun _ _ _ _ _ _ us hl=>by obtain⟨_,_,rfl⟩:=zAK hl;rfl),
  Classical.choice (deo (ps:=["value"]) X G D3 fun F=>F.binds (ps:=["value"]) fun _ _ _ _ _ _ us hl=>by obtain⟨_,rfl⟩:=zAL hl;rfl),
  Classical.choice (deo (ps:=["bound", "name", "value"]) X G D4 fun F=>F.binds (ps:=["bound", "name", "value"]) fun _ _ _ _ _ _ us hl=>by obtain⟨_,_,_,rfl⟩:=zE7 hl;rfl),
  Classical.choice (deo (ps:=["word", "first", "second"]) X G D5 fun F=>F.binds (ps:=["word", "first", "second"]) fun _ _ _ _ _ _ us hl=>by obtain⟨_,_,_,rfl⟩:=zE7 hl;rfl),
  Classical.choice (deo (ps:=["value"]) X G D6 fun F=>F.binds (ps:=["value"]) fun _ _ _ _ _ _ us hl=>by obtain⟨_,rfl⟩:=zAL hl;rfl),
  Classical.choice (deo (ps:=["value", "held"]) X G D7 fun F=>F.binds (ps:=["value", "held"]) fun _ _ _ _ _ _ us hl=>by obtain⟨_,_,rfl⟩:=zAK hl;rfl),
  Classical.choice (deo (ps:=["value"]) X G D8 fun F=>F.binds (ps:=["value"]) fun _ _ _ _ _ _ us hl=>by obtain⟨_,rfl⟩:=zAL hl;rfl),
  Classical.choice (deo (ps:=["expression", "name", "number"]) X G D9 fun F=>F.binds (ps:=["expression", "name", "number"]) fun _ _ _ _ _ _ us hl=>by obtain⟨_,_,_,rfl⟩:=zE7 hl;rfl),
  Classical.choice (deo (ps:=["_law_script", "_law_k"]) X G D10 fun F=>F.binds (ps:=["_law_script", "_law_k"]) fun _ _ _ _ _ _ us hl=>by obtain⟨_,_,rfl⟩:=zAK hl;rfl),
  Classical.choice (deo (ps:=["_law_cell_here", "_law_k"]) X G D11 fun F=>F.binds (ps:=["_law_cell_here", "_law_k"]) fun _ _ _ _ _ _ us hl=>by obtain⟨_,_,rfl⟩:=zAK hl;rfl),
  Classical.choice (deo (ps:=["_law_found"]) X G D12 fun F=>F.binds (ps:=["_law_found"]) fun _ _ _ _ _ _ us hl=>by obtain⟨_,rfl⟩:=zAL hl;rfl),
  Classical.choice (deo (ps:=["_law_env", "_law_sort"]) X G D13 fun F=>F.binds (ps:=["_law_env", "_law_sort"]) fun _ _ _ _ _ _ us hl=>by obtain⟨_,_,rfl⟩:=zAK hl;rfl),
  Classical.choice (deo (ps:=["_law_number_here", "_law_env"]) X G D14 fun F=>F.binds (ps:=["_law_number_here", "_law_env"]) fun _ _ _ _ _ _ us hl=>by obtain⟨_,_,rfl⟩:=zAK hl;rfl),
  Classical.choice (deo (ps:=["_law_number_here", "_law_env", "_law_names_here"]) X G D15 fun F=>F.binds (ps:=["_law_number_here", "_law_env", "_law_names_here"]) fun _ _ _ _ _ _ us hl=>by obtain⟨_,_,_,rfl⟩:=zE7 hl;rfl),
  Classical.choice (deo (ps:=["_law_cells", "_law_start", "_law_names_here", "_law_handed_on"]) X G D16 fun F=>F.binds (ps:=["_law_cells", "_law_start", "_law_names_here", "_law_handed_on"]) fun _ _ _ _ _ _ us hl=>by obtain⟨_,_,_,_,rfl⟩:=zGV hl;rfl),
  Classical.choice (deo (ps:=["_law_cell_here"]) X G D17 fun F=>F.binds (ps:=["_law_cell_here"]) fun _ _ _ _ _ _ us hl=>by obtain⟨_,rfl⟩:=zAL hl;rfl),
  ⟨_,_,F18,PySem.W.mg_of X G a18,b18⟩,
  C,
  B,
  PySem.W.mg_of X G aC,
  PySem.W.mg_of X G aB,
  ⟨pg,hd,po,sa⟩,
  n_most,
  n_steps,
  n_waiting,
  n_come,
  n_ended,
  n_defs,
  m_rinit,
  m_pinit,
  m_begin,
  m_tell,
  m_step,
  m_run_on,
  m_begin_parts,
  m_parts_come,
  m_go_on,
  ⟨a_begin,i_begin,k_begin⟩,
  ⟨a_tell,i_tell,k_tell⟩,
  ⟨a_step,i_step,k_step⟩,
  ⟨a_run_on,i_run_on,k_run_on⟩,
  ⟨a_begin_parts,i_begin_parts,k_begin_parts⟩,
  ⟨a_parts_come,i_parts_come,k_parts_come⟩,
  ⟨a_go_on,i_go_on,k_go_on⟩,
  ⟨mk,a_pinit,i_pinit,kc⟩,
  ⟨cga,crd,fc,chh,k_rinit⟩,
  d_run,
  d_of_num,
  d_of_name,
  d_of_fn,
  d_of_do,
  d_of_working,
  _,
  ⟨_,_,_,PySem.W.mg_of X G c_WAYS,y_WAYS,l_WAYS,k_WAYS,e_WAYS⟩,
  ⟨_,⟨_,_,_,PySem.W.mg_of X G c_AHEAD,y_AHEAD,l_AHEAD,k_AHEAD,e_AHEAD⟩,⟨_,_,rfl,j_0,⟨_,_,rfl,j_1,⟨_,_,rfl,j_2,⟨_,_,rfl,j_3,⟨_,_,rfl,j_4,⟨_,_,rfl,j_5,⟨_,_,rfl,j_6,⟨_,_,rfl,j_7,⟨_,_,rfl,j_8,⟨_,_,rfl,j_9,⟨_,_,rfl,j_10,⟨_,_,rfl,j_11,⟨_,_,rfl,j_12,⟨_,_,rfl,j_13,rfl⟩⟩⟩⟩⟩⟩⟩⟩⟩⟩⟩⟩⟩⟩⟩,
  rfl,
  rfl,
  rfl,
  rfl,
  rfl,
  rfl,
  rfl,
  rfl,PySem.W.mg_none_of X G z_bool,PySem.W.mg_none_of X G z_dict,PySem.W.mg_none_of X G z_enumerate,PySem.W.mg_none_of X G z_int,PySem.W.mg_none_of X G z_isinstance,PySem.W.mg_none_of X G z_len,PySem.W.mg_none_of X G z_max,PySem.W.mg_none_of X G z_range,PySem.W.mg_none_of X G z_repr,PySem.W.mg_none_of X G z_reversed,PySem.W.mg_none_of X G z_sorted,PySem.W.mg_none_of X G z_tuple,⟨_,PySem.W.mg_of X G c_END_OF_NUMBERS⟩,⟨_,PySem.W.mg_of X G c_MOST_PARTS⟩⟩⟩
theorem walk{l:PySem.W.OpenLaw}{q:Program}{loose:List Str}{XP:(Str->Option Value)->Heap->Prop}{YP:World->Heap->Prop}{d:DefRec}{K:Params->Fg}(hm:∀ns:List Int,ns.length<=63->∃as,rD [.v (.lst (ns.map .int))]=some (.v (.bl true),as))(hn:l.most=some 63)(hdf:d.params.defaults=[])(hY:∀(w:World) (h:Heap),YP w h->(K w.params).In h)(F:∀(w:World) (mg:Str->Option Value) (fa:Addr) (h:Heap),(K w.params).In h->h.Ns mainGlobals mg->mg d.name=some (.ref fa) ->
   ∃fd:FuncData,(∀(s:Shared) (u:Value),BindsTo s fd ⟨[u],[]⟩ [("_law_script",u)])/\∀base:Heap,(K w.params).In base->base.Ns mainGlobals mg->FnOk l.prog w (K w.params) mg base CX0 47 fa fd ["_law_script"] (spD (K w.params) 1 rD)):PySem.W.WalkO q loose XP YP l.row.toRowW d [] (fun f vs=>PySem.call f vs):=
 L2.walk_ofK (n:=63) (k:=47) (x:="_law_script") (CX:=CX0) (sp:=fun K=>spD K 1 rD) hn (by decide) hdf ⟨rfl,by decide,by decide,rfl⟩ hY F (fun K H a ns hl _ hS=>zGW hm H a ns hl hS) fun _ _ _ _ z=>z
end K42
/-! twins that no proof needs: where a constant of such a name stands, the head lays none -/
namespace PySem.W.Fast
noncomputable def tw18291907002455348589 : Nat := 0
noncomputable def tw14064552492636623851 : Nat := 0
noncomputable def tw12839555323371505541 : Nat := 0
noncomputable def tw16854935051902687071 : Nat := 0
noncomputable def tw1404359438438443448 : Nat := 0
noncomputable def tw12739581834400535934 : PySem.Program := PySem.Challenge.pw_fieldrows_k42_functions
theorem te12739581834400535934 : PySem.Challenge.pw_fieldrows_k42_functions = tw12739581834400535934 := rfl
noncomputable def tw17650464361446239078 : Nat := 0
noncomputable def tw1191381789308831235 : Nat := 0
noncomputable def tw1533775989278427740 : Nat := 0
noncomputable def tw17605652131224214309 : Nat := 0
noncomputable def tw13492923351579158612 : Nat := 0
noncomputable def tw979111130310122221 : Nat := 0
noncomputable def tw4249394125899061523 : Nat := 0
noncomputable def tw200095184772524253 : Nat := 0
noncomputable def tw1309951946645906000 : Nat := 0
noncomputable def tw10841033179274454524 : Nat := 0
noncomputable def tw280314272176980738 : Nat := 0
noncomputable def tw792822542222091580 : Nat := 0
end PySem.W.Fast
open PyProof.Rows PySem PySem.W
set_option maxRecDepth 100000 in
set_option maxHeartbeats 0 in
theorem PySem.Challenge.cw_fieldrows_k42_functions_holds : PySem.Challenge.rw_fieldrows_k42_functions.Holds := by
  w_on; o_law; k_head; (case hw => w_witness2)
  k_fill
  refine K42.walk (l := PySem.Challenge.rw_fieldrows_k42_functions) K42.law_math rfl rfl (fun w h Y => PySem.W.kIn_of Y) ?F
  case F =>
    intro w mg fa h KX G hmg
    refine' K42.all_mk KX G hmg (K42.dfo ?a0 ?l0 ?c0 ?k0) (K42.dfo ?a1 ?l1 ?c1 ?k1) (K42.dfo ?a2 ?l2 ?c2 ?k2) (K42.dfo ?a3 ?l3 ?c3 ?k3) (K42.dfo ?a4 ?l4 ?c4 ?k4) (K42.dfo ?a5 ?l5 ?c5 ?k5) (K42.dfo ?a6 ?l6 ?c6 ?k6) (K42.dfo ?a7 ?l7 ?c7 ?k7) (K42.dfo ?a8 ?l8 ?c8 ?k8) (K42.dfo ?a9 ?l9 ?c9 ?k9) (K42.dfo ?a10 ?l10 ?c10 ?k10) (K42.dfo ?a11 ?l11 ?c11 ?k11) (K42.dfo ?a12 ?l12 ?c12 ?k12) (K42.dfo ?a13 ?l13 ?c13 ?k13) (K42.dfo ?a14 ?l14 ?c14 ?k14) (K42.dfo ?a15 ?l15 ?c15 ?k15) (K42.dfo ?a16 ?l16 ?c16 ?k16) (K42.dfo ?a17 ?l17 ?c17 ?k17) (K42.dfo ?a18 ?l18 ?c18 ?k18) ?aC ?aB ?pg ?hd ?po ?sa ?mk ?kc ?n_most ?n_steps ?n_waiting ?n_come ?n_ended ?n_defs ?fc ?cga ?crd ?chh (K42.fnk ?l_rinit ?c_rinit ?k_rinit) ?a_pinit ?i_pinit (K42.fnk ?l_pinit ?c_pinit ?k_pinit) ?a_begin ?i_begin (K42.fnk ?l_begin ?c_begin ?k_begin) ?a_tell ?i_tell (K42.fnk ?l_tell ?c_tell ?k_tell) ?a_step ?i_step (K42.fnk ?l_step ?c_step ?k_step) ?a_run_on ?i_run_on (K42.fnk ?l_run_on ?c_run_on ?k_run_on) ?a_begin_parts ?i_begin_parts (K42.fnk ?l_begin_parts ?c_begin_parts ?k_begin_parts) ?a_parts_come ?i_parts_come (K42.fnk ?l_parts_come ?c_parts_come ?k_parts_come) ?a_go_on ?i_go_on (K42.fnk ?l_go_on ?c_go_on ?k_go_on) ?a_run (K42.fnk ?l_run ?c_run ?k_run) ?a_of_num (K42.fnk ?l_of_num ?c_of_num ?k_of_num) ?a_of_name (K42.fnk ?l_of_name ?c_of_name ?k_of_name) ?a_of_fn (K42.fnk ?l_of_fn ?c_of_fn ?k_of_fn) ?a_of_do (K42.fnk ?l_of_do ?c_of_do ?k_of_do) ?a_of_working (K42.fnk ?l_of_working ?c_of_working ?k_of_working) ?c_WAYS ?l_WAYS ?y_WAYS ?k_WAYS ?e_WAYS ?c_AHEAD ?l_AHEAD ?y_AHEAD ?k_AHEAD ?e_AHEAD (K42.itup_mk ?jl_0 ?js_0 ?jv_0) (K42.itup_mk ?jl_1 ?js_1 ?jv_1) (K42.itup_mk ?jl_2 ?js_2 ?jv_2) (K42.itup_mk ?jl_3 ?js_3 ?jv_3) (K42.itup_mk ?jl_4 ?js_4 ?jv_4) (K42.itup_mk ?jl_5 ?js_5 ?jv_5) (K42.itup_mk ?jl_6 ?js_6 ?jv_6) (K42.itup_mk ?jl_7 ?js_7 ?jv_7) (K42.itup_mk ?jl_8 ?js_8 ?jv_8) (K42.itup_mk ?jl_9 ?js_9 ?jv_9) (K42.itup_mk ?jl_10 ?js_10 ?jv_10) (K42.itup_mk ?jl_11 ?js_11 ?jv_11) (K42.itup_mk ?jl_12 ?js_12 ?jv_12) (K42.itup_mk ?jl_13 ?js_13 ?jv_13) ?z_bool ?z_dict ?z_enumerate ?z_int ?z_isinstance ?z_len ?z_max ?z_range ?z_repr ?z_reversed ?z_sorted ?z_tuple ?c_END_OF_NUMBERS ?c_MOST_PARTS
    (case a0 => k_is)
    (case l0 => k_is)
    (case c0 => k_is)
    (case k0 => k_is)
    (case a1 => k_is)
    (case l1 => k_is)
    (case c1 => k_is)
    (case k1 => k_is)
    (case a2 => k_is)
    (case l2 => k_is)
    (case c2 => k_is)
    (case k2 => k_is)
    (case a3 => k_is)
    (case l3 => k_is)
    (case c3 => k_is)
    (case k3 => k_is)
    (case a4 => k_is)
    (case l4 => k_is)
    (case c4 => k_is)
    (case k4 => k_is)
    (case a5 => k_is)
    (case l5 => k_is)
    (case c5 => k_is)
    (case k5 => k_is)
    (case a6 => k_is)
    (case l6 => k_is)
    (case c6 => k_is)
    (case k6 => k_is)
    (case a7 => k_is)
    (case l7 => k_is)
    (case c7 => k_is)
    (case k7 => k_is)
    (case a8 => k_is)
    (case l8 => k_is)
    (case c8 => k_is)
    (case k8 => k_is)
    (case a9 => k_is)
    (case l9 => k_is)
    (case c9 => k_is)
    (case k9 => k_is)
    (case a10 => k_is)
    (case l10 => k_is)
    (case c10 => k_is)
    (case k10 => k_is)
    (case a11 => k_is)
    (case l11 => k_is)
    (case c11 => k_is)
    (case k11 => k_is)
    (case a12 => k_is)
    (case l12 => k_is)
    (case c12 => k_is)
    (case k12 => k_is)
    (case a13 => k_is)
    (case l13 => k_is)
    (case c13 => k_is)
    (case k13 => k_is)
    (case a14 => k_is)
    (case l14 => k_is)
    (case c14 => k_is)
    (case k14 => k_is)
    (case a15 => k_is)
    (case l15 => k_is)
    (case c15 => k_is)
    (case k15 => k_is)
    (case a16 => k_is)
    (case l16 => k_is)
    (case c16 => k_is)
    (case k16 => k_is)
    (case a17 => k_is)
    (case l17 => k_is)
    (case c17 => k_is)
    (case k17 => k_is)
    (case a18 => k_is)
    (case l18 => k_is)
    (case c18 => k_is)
    (case k18 => k_is)
    (case aC => k_is)
    (case aB => k_is)
    (case pg => k_is)
    (case hd => k_is)
    (case po => k_is)
    (case sa => k_is)
    (case mk => k_is)
    (case kc => k_is)
    (case n_most => k_is)
    (case n_steps => k_is)
    (case n_waiting => k_is)
    (case n_come => k_is)
    (case n_ended => k_is)
    (case n_defs => k_is)
    (case fc => k_is)
    (case cga => k_is)
    (case crd => k_is)
    (case chh => rfl)
    (case l_rinit => k_is)
    (case c_rinit => k_is)
    (case k_rinit => k_is)
    (case a_pinit => k_is)
    (case i_pinit => k_is)
    (case l_pinit => k_is)
    (case c_pinit => k_is)
    (case k_pinit => k_is)
    (case a_begin => k_is)
    (case i_begin => k_is)
    (case l_begin => k_is)
    (case c_begin => k_is)
    (case k_begin => k_is)
    (case a_tell => k_is)
    (case i_tell => k_is)
    (case l_tell => k_is)
    (case c_tell => k_is)
    (case k_tell => k_is)
    (case a_step => k_is)
    (case i_step => k_is)
    (case l_step => k_is)
    (case c_step => k_is)
    (case k_step => k_is)
    (case a_run_on => k_is)
    (case i_run_on => k_is)
    (case l_run_on => k_is)
    (case c_run_on => k_is)
    (case k_run_on => k_is)
    (case a_begin_parts => k_is)
    (case i_begin_parts => k_is)
    (case l_begin_parts => k_is)
    (case c_begin_parts => k_is)
    (case k_begin_parts => k_is)
    (case a_parts_come => k_is)
    (case i_parts_come => k_is)
    (case l_parts_come => k_is)
    (case c_parts_come => k_is)
    (case k_parts_come => k_is)
    (case a_go_on => k_is)
    (case i_go_on => k_is)
    (case l_go_on => k_is)
    (case c_go_on => k_is)
    (case k_go_on => k_is)
    (case a_run => k_is)
    (case l_run => k_is)
    (case c_run => k_is)
    (case k_run => k_is)
    (case a_of_num => k_is)
    (case l_of_num => k_is)
    (case c_of_num => k_is)
    (case k_of_num => k_is)
    (case a_of_name => k_is)
    (case l_of_name => k_is)
    (case c_of_name => k_is)
    (case k_of_name => k_is)
    (case a_of_fn => k_is)
    (case l_of_fn => k_is)
    (case c_of_fn => k_is)
    (case k_of_fn => k_is)
    (case a_of_do => k_is)
    (case l_of_do => k_is)
    (case c_of_do => k_is)
    (case k_of_do => k_is)
    (case a_of_working => k_is)
    (case l_of_working => k_is)
    (case c_of_working => k_is)
    (case k_of_working => k_is)
    (case c_WAYS => k_is)
    (case l_WAYS => k_is)
    (case y_WAYS => decide)
    (case k_WAYS => repeat (first | exact trivial | refine ⟨⟨_, _, rfl, rfl⟩, ?_⟩))
    (case e_WAYS => repeat (first | exact rfl | refine ⟨_, _, rfl, ⟨_, rfl, rfl⟩, ?_⟩))
    (case c_AHEAD => k_is)
    (case l_AHEAD => k_is)
    (case y_AHEAD => decide)
    (case k_AHEAD => repeat (first | exact trivial | refine ⟨⟨_, _, rfl, rfl⟩, ?_⟩))
    (case e_AHEAD => repeat (first | exact rfl | refine ⟨_, _, rfl, ⟨_, rfl, rfl⟩, ?_⟩))
    (case jl_0 => k_is)
    (case js_0 => decide)
    (case jv_0 => repeat (first | exact .nil | refine .cons ⟨_, rfl⟩ ?_))
    (case jl_1 => k_is)
    (case js_1 => decide)
    (case jv_1 => repeat (first | exact .nil | refine .cons ⟨_, rfl⟩ ?_))
    (case jl_2 => k_is)
    (case js_2 => decide)
    (case jv_2 => repeat (first | exact .nil | refine .cons ⟨_, rfl⟩ ?_))
    (case jl_3 => k_is)
    (case js_3 => decide)
    (case jv_3 => repeat (first | exact .nil | refine .cons ⟨_, rfl⟩ ?_))
    (case jl_4 => k_is)
    (case js_4 => decide)
    (case jv_4 => repeat (first | exact .nil | refine .cons ⟨_, rfl⟩ ?_))
    (case jl_5 => k_is)
    (case js_5 => decide)
    (case jv_5 => repeat (first | exact .nil | refine .cons ⟨_, rfl⟩ ?_))
    (case jl_6 => k_is)
    (case js_6 => decide)
    (case jv_6 => repeat (first | exact .nil | refine .cons ⟨_, rfl⟩ ?_))
    (case jl_7 => k_is)
    (case js_7 => decide)
    (case jv_7 => repeat (first | exact .nil | refine .cons ⟨_, rfl⟩ ?_))
    (case jl_8 => k_is)
    (case js_8 => decide)
    (case jv_8 => repeat (first | exact .nil | refine .cons ⟨_, rfl⟩ ?_))
    (case jl_9 => k_is)
    (case js_9 => decide)
    (case jv_9 => repeat (first | exact .nil | refine .cons ⟨_, rfl⟩ ?_))
    (case jl_10 => k_is)
    (case js_10 => decide)
    (case jv_10 => repeat (first | exact .nil | refine .cons ⟨_, rfl⟩ ?_))
    (case jl_11 => k_is)
    (case js_11 => decide)
    (case jv_11 => repeat (first | exact .nil | refine .cons ⟨_, rfl⟩ ?_))
    (case jl_12 => k_is)
    (case js_12 => decide)
    (case jv_12 => repeat (first | exact .nil | refine .cons ⟨_, rfl⟩ ?_))
    (case jl_13 => k_is)
    (case js_13 => decide)
    (case jv_13 => repeat (first | exact .nil | refine .cons ⟨_, rfl⟩ ?_))
    (case z_bool => k_is)
    (case z_dict => k_is)
    (case z_enumerate => k_is)
    (case z_int => k_is)
    (case z_isinstance => k_is)
    (case z_len => k_is)
    (case z_max => k_is)
    (case z_range => k_is)
    (case z_repr => k_is)
    (case z_reversed => k_is)
    (case z_sorted => k_is)
    (case z_tuple => k_is)
    (case c_END_OF_NUMBERS => k_is)
    (case c_MOST_PARTS => k_is)
