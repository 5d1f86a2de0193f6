import PyProof.Rows.All
import Wide.All
import OpenK.AllK
import Wide.FinOn
import PySem.Challenge.RW_fieldrows_k47_values_told
import Lean
set_option Elab.async false
set_option linter.all false
set_option maxRecDepth 100000
set_option maxHeartbeats 4100000
open PySem renaming wpAny_bind → aa, wpAny_pure → ae
open Option renaming bind_some → ac
open PySem.Heap renaming get?_push_of_some → ad, lt_size → af, get?_push_size → ah
open List renaming size_toArray → ag, getElem?_eq_some_iff → ak, map_cons → ao, length_cons → av, getElem?_append_left → ax, length_map → ay, getElem?_map → ba, getElem?_eq_getElem → bb
open Nat renaming le_refl → al, ne_of_lt → ar, lt_of_lt_of_le → au
open Bool renaming false_ne_true → am
open Option.some renaming inj → aq
noncomputable abbrev Fg:=PySem.W.Frag
namespace L2
open PySem PySem.Spec PyProof.Rows
noncomputable abbrev Key:=Sum Int Str
noncomputable def cW:Key->Value->Bool
 |.inl k,v=>Value.isInt k v
 |.inr x,v=>Value.isStrOf x v
noncomputable def zMQ(w:World):Key->Int
 |.inl k=>hashInt k
 |.inr x=>hashStr w x
theorem yJ:∀{k:Key} {v:Value},cW k v=true->(∃i t,k=Sum.inl i/\v=Value.int i t)\/(∃x t,k=Sum.inr x/\v=Value.str x t)
 |.inl i,v,h=>by
  obtain⟨t,e⟩:=Value.isInt_shape (k:=i) (v:=v) h
  exact .inl ⟨i,t,rfl,e⟩
 |.inr x,v,h=>by
  obtain⟨t,e⟩:=Value.isStrOf_shape (x:=x) (v:=v) h
  exact .inr ⟨x,t,rfl,e⟩
theorem Z5(i:Int)(t:Tok):cW (.inl i) (.int i t)=true:=by simp[cW,Value.isInt]
theorem Z4(x:Str)(t:Tok):cW (.inr x) (.str x t)=true:=by simp[cW,Value.isStrOf]
theorem zHX(a b:Int):decide ((Sum.inl a:Key)=Sum.inl b)=(a == b):=by
 by_cases e:a=b
 ·subst e;simp
 ·have h:¬(Sum.inl a:Key)=Sum.inl b:=fun q=>e (Sum.inl.inj q)
  rw[decide_eq_false h]
  exact(beq_eq_false_iff_ne.mpr e).symm
theorem zHU(a b:Str):decide ((Sum.inr a:Key)=Sum.inr b)=decide (a=b):=by
 by_cases e:a=b
 ·subst e;simp
 ·have h:¬(Sum.inr a:Key)=Sum.inr b:=fun q=>e (Sum.inr.inj q)
  rw[decide_eq_false h,decide_eq_false e]
theorem zHW(a:Int)(b:Str):decide ((Sum.inl a:Key)=Sum.inr b)=false:=decide_eq_false (fun q=>nomatch q)
theorem zHV(a:Str)(b:Int):decide ((Sum.inr a:Key)=Sum.inl b)=false:=decide_eq_false (fun q=>nomatch q)
noncomputable def yI(prog:Program)(w:World):PySem.KeyKind prog w Key where
 is:=cW
 hash:=zMQ w
 inj:=fun v a b ha hb=>by
  rcases yJ ha with⟨i,t,rfl,rfl⟩|⟨x,t,rfl,rfl⟩
  ·rcases yJ hb with⟨j,u,rfl,e⟩|⟨y,u,rfl,e⟩
   ·injection e with e1 _;rw[e1]
   ·exact nomatch e
  ·rcases yJ hb with⟨j,u,rfl,e⟩|⟨y,u,rfl,e⟩
   ·exact nomatch e
   ·injection e with e1 _;rw[e1]
 byValue:=fun k v h=>by
  rcases yJ h with⟨i,t,rfl,rfl⟩|⟨x,t,rfl,rfl⟩<;>rfl
 pyHash:=fun hv h=>by
  rcases yJ hv with⟨i,t,rfl,rfl⟩|⟨x,t,rfl,rfl⟩
  ·exact wpAny_pyHash_int h
  ·exact wpAny_pyHash_str h
 eqBool:=fun hu hv h=>by
  rcases yJ hu with⟨i,t,rfl,rfl⟩|⟨x,t,rfl,rfl⟩
  ·rcases yJ hv with⟨j,u,rfl,rfl⟩|⟨y,u,rfl,rfl⟩
   ·rw[zHX] at h;exact wpAny_eqBool_int h
   ·rw[zHW] at h;exact SeqAt.EqAt.int_str i t y u _ _ _ _ h
  ·rcases yJ hv with⟨j,u,rfl,rfl⟩|⟨y,u,rfl,rfl⟩
   ·rw[zHV] at h;exact SeqAt.EqAt.str_int x t j u _ _ _ _ h
   ·rw[zHU] at h;exact wpAny_eqBool_str h
 «strs»:=fun k x t v h=>by
  rcases yJ h with⟨i,u,rfl,e⟩|⟨y,u,rfl,e⟩
  ·exact nomatch e
  ·injection e with e1 _
   subst e1
   cases v<;>rfl
theorem gR(prog:Program)(w:World)(i:Int)(t:Tok):(yI prog w).is (.inl i) (.int i t)=true:=Z5 i t
theorem gQ(prog:Program)(w:World)(x:Str)(t:Tok):(yI prog w).is (.inr x) (.str x t)=true:=Z4 x t
end L2
namespace L2
open PySem PySem.Spec PyProof.Rows
inductive V where
 |non|bl (b:Bool)|int (i:Int)|str (x:Str)|byt (b:Array UInt8)|flt (b:UInt64)|ref (a:Addr)|ty (n:String)
 deriving DecidableEq
noncomputable def RelV:V->Value->Prop
 |.non,u=>u=Value.none
 |.bl b,u=>u=Value.bool b
 |.int i,u=>∃t,u=Value.int i t
 |.str x,u=>∃t,u=Value.str x t
 |.byt b,u=>∃t,u=Value.bytes b t
 |.flt b,u=>∃t,u=Value.float b t
 |.ref a,u=>u=Value.ref a
 |.ty n,u=>u=Value.type n
noncomputable abbrev Vals:List V->List Value->Prop:=Paired RelV
theorem Vals.length{xs:List V}{us:List Value}(r:Vals xs us):xs.length=us.length:=Paired.length r
theorem Vals.get:∀{xs:List V} {us:List Value} {i:Nat} {x:V},Vals xs us->xs[i]?=some x->∃u,us[i]?=some u/\RelV x u
 |_,_,_,_,.nil,e=>by simp at e
 |_,_,0,_,.cons r _,e=>by simp at e;subst e;exact⟨_,rfl,r⟩
 |_,_,i+1,x,.cons _ t,e=>by
  obtain⟨u,h1,h2⟩:=Vals.get (i:=i) (x:=x) t (by simpa using e)
  exact⟨u,by simpa using h1,h2⟩
theorem Vals.append:∀{xs ys:List V} {us ws:List Value},Vals xs us->Vals ys ws->Vals (xs++ys) (us++ws)
 |_,_,_,_,.nil,s=>s
 |_,_,_,_,.cons r t,s=>.cons r (Vals.append t s)
theorem Vals.take:∀{xs:List V} {us:List Value} (n:Nat),Vals xs us->Vals (xs.take n) (us.take n)
 |_,_,0,_=>.nil
 |_,_,_+1,.nil=>.nil
 |_,_,n+1,.cons r t=>.cons r (Vals.take n t)
theorem Vals.drop:∀{xs:List V} {us:List Value} (n:Nat),Vals xs us->Vals (xs.drop n) (us.drop n)
 |_,_,0,r=>r
 |_,_,_+1,.nil=>.nil
 |_,_,n+1,.cons _ t=>Vals.drop n t
noncomputable def RelO:Option V->Option Value->Prop
 |some v,some u=>RelV v u
 |none,none=>True
 |_,_=>False
noncomputable def KV{κ:Type}:List (κ×V)->List (κ×Value)->Prop:=Paired fun(p:κ×V) (q:κ×Value)=>p.1=q.1/\RelV p.2 q.2
noncomputable def kV:Key->V
 |.inl i=>.int i
 |.inr x=>.str x
inductive HO where
 |lst (xs:List V)
 |tup (xs:List V)
 |dK (kvs:List (Key×V))|dT (kvs:List (List Key×V))
 |set (S:Int->Bool) (n:Nat)
 |ins (C dx:Addr) (fs:List (Str×V))
 |own (x:Addr)
 |xd (fs:List (Str×V))
 |met (f x:Addr)
 |rng (lo hi:Int)
 |frz (o:Obj) (u:HO)
 |tbl (ps:Array Value)
 |ext (φ:Heap->Prop)
noncomputable abbrev Hp:=Addr->Option HO
noncomputable def upd(H:Hp)(a:Addr)(o:HO):Hp:=fun b=>if b=a then some o else H b
theorem zK{H:Hp}{a:Addr}{o:HO}:upd H a o a=some o:=by unfold upd;rw[if_pos rfl]
theorem zI{H:Hp}{a b:Addr}{o:HO}(h:b≠a):upd H a o b=H b:=by unfold upd;rw[if_neg h]
theorem zFQ{H:Hp}{a b:Addr}{o u:HO}(h:H a=some o)(h':H b=some u)(d:o≠u):a≠b:=by
 intro e;subst e;rw[h] at h';exact d (aq h')
theorem y4{H:Hp}{a b:Addr}{o:HO}(h:H a=some o)(h':H b=none):a≠b:=by
 intro e;subst e;rw[h] at h';cases h'
noncomputable def qOf(ps:Array Value):Str:=match (ps[0]?:Option Value) with
 |some (.str q _)=>q
 |_=>""
noncomputable def zNQ(q:Str)(o:Obj):Prop:=∃vs t,o.data=.fields vs/\vs[1]?=some (.str q t)
noncomputable def zLJ(H:Hp)(h:Heap)(a:Addr)(q:Str):Prop:=∃ts:Array Value,h.get? a=some (PySem.W.tabObj ts)/\TriplesOk ts.toList/\∀pos cv,codeAmong pos ts.toList=some cv->∃c oc u,cv=.ref c/\H c=some (.frz oc u)/\zNQ q oc
section
variable(P:Program)(w:World)
noncomputable def ObjOk(H:Hp)(h:Heap)(a:Addr):HO->Prop
 |.lst xs=>xs.length<=sizeLine/\∃(its:List Value) (n:Nat),Vals xs its/\h.get? a=some { cls:=.type "list",data:=.seq its.toArray n }
 |.tup xs=>xs.length<=sizeLine/\∃its:List Value,Vals xs its/\IsTup h a its.toArray
 |.dK kvs=>kvs.length<=sizeLine/\(a == sysModules)=false/\∃vs,KV kvs vs/\h.DictOf (yI P w) a vs
 |.dT kvs=>kvs.length<=sizeLine/\(a == sysModules)=false/\∃xs:List (List Key×Addr×Value),
   Paired (fun(p:List Key×V) (q:List Key×Addr×Value)=>p.1=q.1/\H q.2.1=some (.tup (p.1.map kV))/\RelV p.2 q.2.2) kvs xs /\
   ∃o es ep,h.get? a=some o/\o.ExactDict/\o.data=.dict es ep/\es.toList=xs.map (entryOfKey (tupleKind (yI P w)))/\(xs.map (·.1)).Nodup
 |.set S n=>h.SetOf (intKind P w) a S n
 |.ins C dx fs=>H dx=some (.own a)/\fs.length<=1000/\dx≠a/\h.get? a=some (PySem.W.instObj C dx) /\
   ∃mA,h.Ns1 dx mA/\(∀f,RelO (fs.lookup f) (mA f))/\PySem.Within mA (fs.map (·.1))
 |.own _=>∃o,h.get? a=some o
 |.xd fs=>∃mA,h.Ns1 a mA/\∀f,RelO (fs.lookup f) (mA f)
 |.rng lo hi=>∃t u v,h.get? a=some { cls:=.type "range",data:=.fields #[.int lo t,.int hi u,.int 1 v] }
 |.frz o u=>h.get? a=some o/\ObjOk H h a u
 |.tbl ps=>zLJ H h a (qOf ps)
 |.met f x=>h.get? a=some (PySem.W.methodObj (.ref f) (.ref x))
 |.ext φ=>φ h/\(∃o,h.get? a=some o)/\∀h1 h2:Heap,φ h1->(∀o,h1.get? a=some o->h2.get? a=some o)->φ h2
noncomputable def HOk(H:Hp)(h:Heap):Prop:=∀a o,H a=some o->ObjOk P w H h a o
end
section
variable{P:Program}{w:World}{H H':Hp}{h h':Heap}{a:Addr}{o:HO}
theorem ObjOk.lt(x:ObjOk P w H h a o):a<h.objs.size:=by
 cases o with
 |lst xs=>obtain⟨_,_,_,_,e⟩:=x;exact af e
 |tup xs=>obtain⟨_,_,_,p⟩:=x;exact p.lt
 |dK kvs=>obtain⟨_,_,_,_,o,_,_,e,_⟩:=x;exact af e
 |dT kvs=>obtain⟨_,_,_,_,o,_,_,e,_⟩:=x;exact af e
 |set S n=>obtain⟨o,_,_,_,e,_⟩:=x;exact af e
 |ins C dx fs=>obtain⟨_,_,_,e,_⟩:=x;exact af e
 |own y=>obtain⟨_,e⟩:=x;exact af e
 |xd fs=>obtain⟨_,⟨_,_,_,e,_⟩,_⟩:=x;exact af e
 |rng lo hi=>obtain⟨_,_,_,e⟩:=x;exact af e
 |frz ob u=>obtain⟨e,_⟩:=x;exact af e
 |tbl ps=>obtain⟨_,e,_⟩:=x;exact af e
 |met f y=>exact af (show h.get? a=some _ from x)
 |ext φ=>obtain⟨_,⟨_,e⟩,_⟩:=x;exact af e
theorem Paired.mapP{α β:Type}{F G:α->β->Prop}:∀{l₁:List α} {l₂:List β},Paired F l₁ l₂->(∀a b,F a b->G a b)->Paired G l₁ l₂
 |_,_,.nil,_=>.nil
 |_,_,.cons r t,f=>.cons (f _ _ r) (Paired.mapP t f)
theorem ObjOk.stay(x:ObjOk P w H h a o)(k:∀b u,(b=a\/H b=some (.own a))->h.get? b=some u->h'.get? b=some u)(ho:∀b,H b=some (.own a)->H' b=some (.own a))(ht:∀b xs,H b=some (.tup xs)->H' b=some (.tup xs))(hf:∀b o u,H b=some (.frz o u)->H' b=some (.frz o u)):ObjOk P w H' h' a o:=by
 induction o with
 |lst xs=>obtain⟨z,its,n,r,e⟩:=x;exact⟨z,its,n,r,k _ _ (.inl rfl) e⟩
 |tup xs=>obtain⟨z,its,r,ob,e,c⟩:=x;exact⟨z,its,r,ob,k _ _ (.inl rfl) e,c⟩
 |dK kvs=>obtain⟨z,y,vs,r,ob,es,ep,e,c⟩:=x;exact⟨z,y,vs,r,ob,es,ep,k _ _ (.inl rfl) e,c⟩
 |dT kvs=>
  obtain⟨z,y,xs,r,ob,es,ep,e,c⟩:=x
  exact⟨z,y,xs,Paired.mapP r fun p q z=>⟨z.1,ht _ _ z.2.1,z.2.2⟩,ob,es,ep,k _ _ (.inl rfl) e,c⟩
 |set S n=>obtain⟨ob,es,ep,t,e,c⟩:=x;exact⟨ob,es,ep,t,k _ _ (.inl rfl) e,c⟩
 |ins C dx fs=>
  obtain⟨d,z,ne,e,mA,⟨od,es,ep,e2,c⟩,r⟩:=x
  exact⟨ho _ d,z,ne,k _ _ (.inl rfl) e,mA,⟨od,es,ep,k _ _ (.inr d) e2,c⟩,r⟩
 |own y=>obtain⟨ob,e⟩:=x;exact⟨ob,k _ _ (.inl rfl) e⟩
 |xd fs=>obtain⟨mA,⟨od,es,ep,e,c⟩,r⟩:=x;exact⟨mA,⟨od,es,ep,k _ _ (.inl rfl) e,c⟩,r⟩
 |rng lo hi=>obtain⟨t,u,v,e⟩:=x;exact⟨t,u,v,k _ _ (.inl rfl) e⟩
 |frz ob u ih=>obtain⟨e,q⟩:=x;exact⟨k _ _ (.inl rfl) e,ih q⟩
 |tbl ps=>obtain⟨ts,e,z,r⟩:=x;exact⟨ts,k _ _ (.inl rfl) e,z,fun p v q=>let ⟨c,oc,u,e1,e2,e3⟩:=r p v q;⟨c,oc,u,e1,hf _ _ _ e2,e3⟩⟩
 |met f y=>
  have e:h.get? a=some (PySem.W.methodObj (.ref f) (.ref y)):=x
  show h'.get? a=some (PySem.W.methodObj (.ref f) (.ref y))
  exact k a _ (.inl rfl) e
 |ext φ=>obtain⟨p,⟨o,e⟩,st⟩:=x;exact⟨st _ _ p fun o q=>k _ _ (.inl rfl) q,⟨o,k _ _ (.inl rfl) e⟩,st⟩
theorem HOk.lt(x:HOk P w H h)(e:H a=some o):a<h.objs.size:=(x a o e).lt
theorem HOk.fresh(x:HOk P w H h)(e:h.objs.size<=a):H a=none:=by
 cases q:H a with
 |none=>rfl
 |some u=>exact absurd (au (x.lt q) e) (Nat.lt_irrefl _)
theorem HOk.kept(x:HOk P w H h)(k:∀b u,h.get? b=some u->h'.get? b=some u):HOk P w H h':=fun a o e=>
 (x a o e).stay (fun b u _ q=>k b u q) (fun _ q=>q) (fun _ _ q=>q) fun _ _ _ q=>q
theorem HOk.laid(x:HOk P w H h)(k:∀b u,h.get? b=some u->h'.get? b=some u)(hp:h.objs.size<=a)(new:ObjOk P w (upd H a o) h' a o):HOk P w (upd H a o) h':=fun b u e=>by
 have hn:=x.fresh hp
 by_cases hb:b=a
 ·subst hb;rw[zK] at e;cases e;exact new
 ·rw[zI hb] at e
  exact(x b u e).stay (fun c v _ q=>k c v q) (fun c q=>by rw[zI (y4 q hn)];exact q) (fun c xs q=>by rw[zI (y4 q hn)];exact q) fun c o u q=>by rw[zI (y4 q hn)];exact q
end
noncomputable def Rd(H:Hp)(a:Addr)(u:HO):Prop:=H a=some u\/∃o,H a=some (.frz o u)
theorem Rd.ok{P:Program}{w:World}{H:Hp}{h:Heap}{a:Addr}{u:HO}(r:Rd H a u)(x:HOk P w H h):ObjOk P w H h a u:=by
 rcases r with r|⟨o,r⟩
 ·exact x a u r
 ·obtain⟨_,q⟩:=x a _ r
  exact q
noncomputable def Mut:Option HO->Prop
 |some (.lst _)=>True
 |some (.dK _)=>True
 |some (.dT _)=>True
 |some (.set _ _)=>True
 |some (.ins _ _ _)=>True
 |some (.ext _)=>True
 |_=>False
section
variable{P:Program}{w:World}{H:Hp}{h h':Heap}{x e:Addr}{o':HO}
theorem HOk.write(ok:HOk P w H h)(mu:Mut (H x))(he:e=x\/H e=some (.own x))(k:∀b u,b≠e->h.get? b=some u->h'.get? b=some u)(heo:∃u,h'.get? e=some u)(new:ObjOk P w (upd H x o') h' x o'):HOk P w (upd H x o') h':=fun b u q=>by
 have nown:∀c y,H c=some (.own y)->c≠x:=fun c y r z=>by subst z;rw[r] at mu;exact mu
 have ntup:∀c xs,H c=some (.tup xs)->c≠x:=fun c xs r z=>by subst z;rw[r] at mu;exact mu
 by_cases hb:b=x
 ·subst hb;rw[zK] at q;cases q;exact new
 ·rw[zI hb] at q
  by_cases hbe:b=e
  ·have q':H b=some (.own x):=by
    rcases he with z|z
    ·exact absurd (hbe.trans z) hb
    ·rw[hbe];exact z
   rw[q] at q';cases q'
   obtain⟨v,hv⟩:=heo
   exact⟨v,by rw[hbe];exact hv⟩
  ·refine(ok b u q).stay (fun c v hc r=>k c v ?_ r) (fun c r=>by rw[zI (nown c b r)];exact r) (fun c xs r=>by rw[zI (ntup c xs r)];exact r) fun c o u r=>by rw[zI (fun z=>by subst z;rw[r] at mu;exact mu)];exact r
   rcases hc with rfl|hc
   ·exact hbe
   ·rintro rfl
    rcases he with z|z
    ·exact nown c b hc z
    ·rw[hc] at z;cases z;exact hb rfl
end
structure Un(fs ex:List Addr)(H H':Hp)(h h':Heap):Prop where
 keep:∀b o,h.get? b=some o->H b=none->b∉fs->b∉ex->h'.get? b=some o
 slot:∀b o,h.get? b=some o->H b=none->b∈fs->b∉ex->∃sl,h'.get? b=some { o with slots:=sl }
 free:∀b o,h.get? b=some o->H b=none->b∉ex->H' b=none
 there:∀b o,h.get? b=some o->b∉ex->∃o',h'.get? b=some o'
 tups:∀b xs,H b=some (.tup xs)->H' b=some (.tup xs)
 frzs:∀b o u,H b=some (.frz o u)->H' b=some (.frz o u)
 tbls:∀b ps,H b=some (.tbl ps)->∃more,H' b=some (.tbl (ps++more))
section
variable{fs fs' ex ex':List Addr}{H H1 H2:Hp}{h h1 h2 h':Heap}{a x e:Addr}{o:HO}
theorem Un.any(u:Un fs ex H H1 h h1){b:Addr}{ob:Obj}(q:h.get? b=some ob)(n:H b=none)(hx:b∉ex):∃sl,h1.get? b=some { ob with slots:=sl }:=by
 by_cases hb:b∈fs
 ·exact u.slot b ob q n hb hx
 ·exact⟨ob.slots,u.keep b ob q n hb hx⟩
theorem Un.kept(k:∀b u,h.get? b=some u->h'.get? b=some u):Un fs ex H H h h':=
 ⟨fun b ob q _ _ _=>k b ob q,fun b ob q _ _ _=>⟨ob.slots,k b ob q⟩,fun _ _ _ n _=>n,fun b ob q _=>⟨ob,k b ob q⟩,fun _ _ q=>q,fun _ _ _ q=>q,fun _ ps q=>⟨#[],by rw[q];simp⟩⟩
theorem Un.refl:Un fs ex H H h h:=Un.kept fun _ _ q=>q
theorem Un.laid(k:∀b u,h.get? b=some u->h'.get? b=some u)(hp:h.objs.size<=a)(hn:H a=none):Un fs ex H (upd H a o) h h' where
 keep:=fun b u q _ _ _=>k b u q
 slot:=fun b u q _ _ _=>⟨u.slots,k b u q⟩
 free:=fun b u q n _=>by rw[zI (ar (au (af q) hp))];exact n
 there:=fun b u q _=>⟨u,k b u q⟩
 tups:=fun b xs q=>by rw[zI (y4 q hn)];exact q
 frzs:=fun b u xs q=>by rw[zI (y4 q hn)];exact q
 tbls:=fun b ps q=>⟨#[],by rw[zI (y4 q hn),q];simp⟩
theorem Un.write(mu:Mut (H x))(he:e=x\/H e=some (.own x))(k:∀b u,b≠e->h.get? b=some u->h'.get? b=some u)(heo:∃u,h'.get? e=some u):Un fs ex H (upd H x o) h h':=by
 have hx:∀b,H b=none->b≠x:=fun b n z=>by subst z;rw[n] at mu;exact mu
 have hb:∀b,H b=none->b≠e:=fun b n z=>by
  subst z
  rcases he with r|r
  ·exact hx b n r
  ·rw[n] at r;cases r
 have hm:∀b u,H b=some u->¬Mut (some u)->b≠x:=fun b u q nm z=>by subst z;rw[q] at mu;exact nm mu
 refine⟨fun b u q n _ _=>k b u (hb b n) q,fun b u q n _ _=>⟨u.slots,k b u (hb b n) q⟩,fun b u q n _=>by rw[zI (hx b n)];exact n,fun b u q _=>?_,
  fun b xs q=>by rw[zI (hm b _ q fun z=>z)];exact q,fun b u xs q=>by rw[zI (hm b _ q fun z=>z)];exact q,fun b ps q=>⟨#[],by rw[zI (hm b _ q fun z=>z),q];simp⟩⟩
 by_cases hbe:b=e
 ·subst hbe;exact heo
 ·exact⟨u,k b u hbe q⟩
end
noncomputable def trk(h:Heap)(H:Hp):List Addr:=(List.range h.objs.size).filter fun a=>(H a).isSome
noncomputable def zFC(h:Heap)(H:Hp):Heap:=PySem.W.hideAll h (trk h H)
theorem Z8(h:Heap)(H:Hp):(zFC h H).objs.size=h.objs.size:=PySem.W.hideAll_size _ _
theorem JJ{h:Heap}{H:Hp}{b:Addr}{o:Obj}(e:h.get? b=some o)(n:H b=none):(zFC h H).get? b=some o:=
 PySem.W.hideAll_get _ e fun hm=>by
  have q:(H b).isSome=true:=(List.mem_filter.mp hm).2
  rw[n] at q;simp at q
theorem zCZ{h:Heap}{H:Hp}{b:Addr}{o:Obj}(e:(zFC h H).get? b=some o):h.get? b=some o/\H b=none:=by
 have e':h.get? b=some o:=PySem.W.of_hideAll (trk h H) e
 refine⟨e',?_⟩
 cases q:H b with
 |none=>rfl
 |some x=>
  have hm:b∈trk h H:=List.mem_filter.mpr ⟨List.mem_range.mpr (af e'),by simp[q]⟩
  have z:(zFC h H).get? b=none:=PySem.W.hideAll_none (trk h H) hm
  rw[z] at e;cases e
end L2
namespace L2
open PySem PySem.Spec PyProof.Rows
structure Mod(K:Fg)(mg:Str->Option Value)(base:Heap):Prop where
 kin:K.In base
 glob:base.Ns mainGlobals mg
 blt:∃mb,base.Ns builtinsNs mb/\∀x:Str,x ≠ "__name__" -> mb x=bootBuiltins x
 nolimit:base.NoLimit
structure Cx where
 prog:Program
 w:World
 K:Fg
 mg:Str->Option Value
 base:Heap
 A:Around
 N:List Str
 s₀:Shared
 H₀:Hp
 env:Env
 outer:List Env
 stack:List Env
 ex:List Addr
 fn:Str->Bool
 calm:Bool
 pn:List (Addr×Obj)
 xe:Value->Shared->Prop
noncomputable def frs(l:List Env):List Addr:=l.filterMap (·.frame)
noncomputable abbrev Cx.fs(X:Cx):List Addr:=frs X.outer
noncomputable def Vis(sc:Scope)(x:Str):Prop:=sc.names.lookup x=some .local\/sc.names.lookup x=some .cell\/sc.names.lookup x=some .free
noncomputable def Loc(sc:Scope)(x:Str):Prop:=sc.names.lookup x=some .local\/sc.names.lookup x=some .cell
noncomputable def zNP(env:Env)(h:Heap)(m:Str->Option Value)(x:Str)(u:Value):Prop:=
 (env.kindOf x=some .local/\m x=some u)\/((env.kindOf x=some .cell\/env.kindOf x=some .free)/\∃c,env.cells.lookup x=some c/\h.IsCell c (some u))
noncomputable def zJN(K:Fg)(H:Hp):Prop:=True
structure FrF(K:Fg)(l:List Env)(H:Hp):Prop where
 fr:∀b∈frs l,H b=none
 tb:zJN K H
structure Cx.Ok(X:Cx):Prop where
 mod:Mod X.K X.mg X.base
 kind:X.env.scope.kind=.function
 glob:X.env.globals=mainGlobals
 blt:X.env.builtins=builtinsNs
 above:X.s₀.heap.objs.size<=X.env.locals
 inj:∀x y c,X.env.cells.lookup x=some c->X.env.cells.lookup y=some c->x=y
 has:∀x,(X.env.kindOf x=some .cell\/X.env.kindOf x=some .free)->∃c,X.env.cells.lookup x=some c
 cab:∀x c,X.fn x=true->X.env.cells.lookup x=some c->X.s₀.heap.objs.size<=c
 hd:X.calm=true->X.A.handled=none
 frames:X.A.frames=some X.stack
 stk:X.stack=X.outer\/(X.stack=X.env::X.outer/\X.env.frame=some X.env.locals)
 exf:∀b∈X.ex,b≠X.env.locals/\∀x c,X.env.cells.lookup x=some c->c≠b
 bs:∀b o,X.base.get? b=some o->X.s₀.heap.get? b=some o/\X.H₀ b=none
 bsz:X.base.objs.size<=X.s₀.heap.objs.size
 noex:∀b o,X.base.get? b=some o->b∉X.ex
 exfs:∀b∈X.ex,b∉X.fs
 funs:X.s₀.heap.FunFrames X.base X.outer
 frf:FrF X.K X.outer X.H₀
structure Inv(X:Cx)(pins:List (Addr×Obj))(σ:List (Option V))(H:Hp)(s:Shared):Prop where
 ok:X.Ok
 os:s.os=X.s₀.os
 bare:AllBare s.gens
 base:Un X.fs X.ex X.H₀ H X.s₀.heap s.heap
 loc:∃m,s.heap.Ns X.env.locals m/\∀(i:Nat) (x:Str) (v:V),X.N[i]?=some x->σ[i]?=some (some v)->Vis X.env.scope x->∃u,RelV v u/\zNP X.env s.heap m x u
 cell:∀x c,X.env.cells.lookup x=some c->∃v,s.heap.IsCell c v
 free:H X.env.locals=none
 freeC:∀x c,X.env.cells.lookup x=some c->H c=none
 pin:∀p∈X.pn++pins,s.heap.get? p.1=some p.2/\H p.1=none/\p.1≠X.env.locals/\p.1∉X.fs/\∀v,p.2.data≠.cell v
 hok:HOk X.prog X.w H s.heap
 len:σ.length=X.N.length
section
variable{X:Cx}{pins:List (Addr×Obj)}{σ:List (Option V)}{H H':Hp}{s:Shared}{h':Heap}
theorem Cx.Ok.nofr(ok:X.Ok){b:Addr}{o:Obj}(e:X.base.get? b=some o):b∉X.fs:=fun hb=>by
 have:=(ok.funs.mem hb).1
 rw[e] at this;cases this
theorem Inv.bs(I:Inv X pins σ H s):∀b o,X.base.get? b=some o->s.heap.get? b=some o/\H b=none:=fun b o e=>
 ⟨I.base.keep b o (I.ok.bs b o e).1 (I.ok.bs b o e).2 (I.ok.nofr e) (I.ok.noex b o e),I.base.free b o (I.ok.bs b o e).1 (I.ok.bs b o e).2 (I.ok.noex b o e)⟩
theorem Inv.bk(I:Inv X pins σ H s):∀b o,X.base.get? b=some o->s.heap.get? b=some o:=fun b o e=>(I.bs b o e).1
theorem Inv.mod(I:Inv X pins σ H s):Mod X.K X.mg X.base:=I.ok.mod
theorem Inv.kIn(I:Inv X pins σ H s):X.K.In s.heap:=I.ok.mod.kin.keeps I.bk
theorem Inv.lt(I:Inv X pins σ H s):X.env.locals<s.heap.objs.size:=let ⟨_,hn,_⟩:=I.loc;hn.lt
theorem Inv.sz(I:Inv X pins σ H s):X.s₀.heap.objs.size<=s.heap.objs.size:=Nat.le_trans I.ok.above (Nat.le_of_lt I.lt)
theorem Inv.nofs(I:Inv X pins σ H s){a:Addr}(h:s.heap.objs.size<=a):a∉X.fs:=fun hb=>by
 obtain⟨_,o,ho,_⟩:=I.ok.funs.mem hb
 exact absurd (au (af ho) (Nat.le_trans I.sz h)) (Nat.lt_irrefl _)
theorem Inv.cne(I:Inv X pins σ H s):∀x c,X.env.cells.lookup x=some c->c≠X.env.locals:=fun x c e z=>by
 obtain⟨v,o,ho,hd⟩:=I.cell x c e
 obtain⟨m,⟨o',es,ep,ho',hd',_⟩,_⟩:=I.loc
 rw[z,ho'] at ho;cases ho;rw[hd'] at hd;cases hd
theorem Inv.funs(I:Inv X pins σ H s):s.heap.FunFrames X.base X.outer:=by
 have all:∀(l:List Env),(∀b∈frs l,b∈X.fs)->X.s₀.heap.FunFrames X.base l->s.heap.FunFrames X.base l:=by
  intro l
  induction l with
  |nil=>intro _ _;trivial
  |cons env r ih=>
   intro hs hl
   obtain⟨hk,⟨L,o,hf,hn,ho,hd⟩,hr⟩:=hl
   have hL:L∈X.fs:=hs L (by unfold frs;rw[List.filterMap_cons,hf];exact List.mem_cons_self)
   obtain⟨sl,e⟩:=I.base.slot L o ho (I.ok.frf.fr L hL) hL fun z=>I.ok.exfs L z hL
   exact⟨hk,⟨L,_,hf,hn,e,hd⟩,ih (fun b hb=>hs b (by unfold frs;rw[List.filterMap_cons,hf];exact List.mem_cons_of_mem _ hb)) hr⟩
 exact all X.outer (fun _ hb=>hb) I.ok.funs
theorem Inv.stack(I:Inv X pins σ H s):s.heap.FunFrames X.base X.stack:=by
 rcases I.ok.stk with e|⟨e,hf⟩
 ·rw[e];exact I.funs
 ·rw[e]
  obtain⟨m,hn,_⟩:=I.loc
  refine .cons (by rw[I.ok.kind];decide) hf hn ?_ I.funs
  exact Heap.get?_none_of_le (Nat.le_trans I.ok.bsz I.ok.above)
theorem Inv.stkSub(I:Inv X pins σ H s):∀b∈frs X.stack,b∈X.env.locals::X.fs:=fun b hb=>by
 rcases I.ok.stk with e|⟨e,hf⟩
 ·rw[e] at hb;exact List.mem_cons_of_mem _ hb
 ·rw[e] at hb
  unfold frs at hb
  rw[List.filterMap_cons,hf] at hb
  exact hb
theorem Inv.stkFree(I:Inv X pins σ H s):∀b∈frs X.stack,H b=none:=fun b hb=>by
 rcases List.mem_cons.mp (I.stkSub b hb) with e|hb
 ·rw[e];exact I.free
 ·obtain⟨_,o,ho,_⟩:=I.ok.funs.mem hb
  exact I.base.free b o ho (I.ok.frf.fr b hb) fun z=>I.ok.exfs b z hb
theorem Inv.tabIn(I:Inv X pins σ H s):zJN X.K H:=
 trivial
theorem Inv.step{g':Array GenState}{t':Nat}{d':Drawn}{ch:List Addr}(I:Inv X pins σ H s)(hch:∀b∈ch,(b∈X.ex\/X.s₀.heap.objs.size<=b)/\b≠X.env.locals/\(∀x c,X.env.cells.lookup x=some c->c≠b)/\∀p∈X.pn++pins,p.1≠b)(keep:∀b o,b≠X.env.locals->b∉X.fs->b∉ch->s.heap.get? b=some o->H b=none->h'.get? b=some o)(slot:∀b o,b≠X.env.locals->b∈X.fs->b∉ch->s.heap.get? b=some o->H b=none->∃sl,h'.get? b=some { o with slots:=sl })(free:∀b o,b∉ch->s.heap.get? b=some o->H b=none->H' b=none)(there:∀b o,b∉ch->s.heap.get? b=some o->∃o',h'.get? b=some o')(tups:∀b xs,H b=some (.tup xs)->H' b=some (.tup xs))(frzs:∀b o u,H b=some (.frz o u)->H' b=some (.frz o u))(tbls:∀b ps,H b=some (.tbl ps)->∃more,H' b=some (.tbl (ps++more)))(ns:∀m,s.heap.Ns X.env.locals m->h'.Ns X.env.locals m)(hok:HOk X.prog X.w H' h')(hg:AllBare g'):Inv X pins σ H' { s with heap:=h',gens:=g',drawn:=d',toks:=t' }:=by
 have neL:∀b o,X.s₀.heap.get? b=some o->b≠X.env.locals:=fun b o e=>ar (au (af e) I.ok.above)
 have neC:∀b o,X.s₀.heap.get? b=some o->b∉X.ex->b∉ch:=fun b o e hx hb=>by
  rcases(hch b hb).1 with z|z
  ·exact hx z
  ·exact absurd (au (af e) z) (Nat.lt_irrefl _)
 have cellK:∀x c,X.env.cells.lookup x=some c->∀v,s.heap.IsCell c v->h'.IsCell c v:=fun x c e v ⟨o,ho,hd⟩=>by
  have nch:c∉ch:=fun z=>(hch c z).2.2.1 x c e rfl
  by_cases hc:c∈X.fs
  ·obtain⟨sl,q⟩:=slot c o (I.cne x c e) hc nch ho (I.freeC x c e)
   exact⟨_,q,hd⟩
  ·exact⟨o,keep c o (I.cne x c e) hc nch ho (I.freeC x c e),hd⟩
 refine⟨I.ok,I.os,hg,⟨fun b o e n hb hx=>?_,fun b o e n hb hx=>?_,fun b o e n hx=>?_,fun b o e hx=>?_,fun b xs e=>tups b xs (I.base.tups b xs e),fun b o xs e=>frzs b o xs (I.base.frzs b o xs e),fun b ps e=>?_⟩,?_,fun x c e=>?_,?_,fun x c e=>?_,fun p hp=>?_,hok,I.len⟩
 ·exact keep b o (neL b o e) hb (neC b o e hx) (I.base.keep b o e n hb hx) (I.base.free b o e n hx)
 ·obtain⟨sl,e1⟩:=I.base.slot b o e n hb hx
  obtain⟨sl',e2⟩:=slot b _ (neL b o e) hb (neC b o e hx) e1 (I.base.free b o e n hx)
  exact⟨sl',e2⟩
 ·obtain⟨o',e1⟩:=I.base.there b o e hx
  exact free b o' (neC b o e hx) e1 (I.base.free b o e n hx)
 ·obtain⟨o',e1⟩:=I.base.there b o e hx
  exact there b o' (neC b o e hx) e1
 ·obtain⟨m1,e1⟩:=I.base.tbls b ps e
  obtain⟨m2,e2⟩:=tbls b _ e1
  exact⟨m1++m2,by rw[e2,Array.append_assoc]⟩
 ·obtain⟨m,hn,hl⟩:=I.loc
  refine⟨m,ns m hn,fun i x v e1 e2 e3=>?_⟩
  obtain⟨u,r,l⟩:=hl i x v e1 e2 e3
  refine⟨u,r,?_⟩
  rcases l with l|⟨k,c,e,z⟩
  ·exact .inl l
  ·exact .inr ⟨k,c,e,cellK x c e _ z⟩
 ·obtain⟨v,z⟩:=I.cell x c e
  exact⟨v,cellK x c e v z⟩
 ·obtain⟨m,⟨o,_,_,ho,_⟩,_⟩:=I.loc
  exact free _ o (fun z=>(hch _ z).2.1 rfl) ho I.free
 ·obtain⟨v,o,ho,hd⟩:=I.cell x c e
  exact free c o (fun z=>(hch c z).2.2.1 x c e rfl) ho (I.freeC x c e)
 ·obtain⟨e,n,ne,nf,d⟩:=I.pin p hp
  have nch:p.1∉ch:=fun z=>(hch p.1 z).2.2.2 p hp rfl
  exact⟨keep p.1 p.2 ne nf nch e n,free p.1 p.2 nch e n,ne,nf,d⟩
theorem Inv.un{t':Nat}(I:Inv X pins σ H s)(u:Un X.fs [] H H' s.heap h')(hok:HOk X.prog X.w H' h'):Inv X pins σ H' { s with heap:=h',toks:=t' }:=by
 obtain⟨m,⟨o,es,ep,ho,r⟩,_⟩:=id I.loc
 obtain⟨sl,hL⟩:=u.any ho I.free (by simp)
 exact I.step (g':=s.gens) (d':=s.drawn) (ch:=[]) (fun _ z=>nomatch z) (fun b o _ hb _ e n=>u.keep b o e n hb (by simp)) (fun b o _ hb _ e n=>u.slot b o e n hb (by simp)) (fun b o _ e n=>u.free b o e n (by simp)) (fun b o _ e=>u.there b o e (by simp)) u.tups u.frzs u.tbls (fun m' hm=>by
  obtain⟨o',es',ep',ho',r'⟩:=hm
  rw[ho] at ho';cases ho'
  exact⟨_,es',ep',hL,r'⟩) hok I.bare
theorem Inv.call{g':Array GenState}{t':Nat}{d':Drawn}{ch:List Addr}(I:Inv X pins σ H s)(u:Un (frs X.stack) ch H H' s.heap h')(hok:HOk X.prog X.w H' h')(hg:AllBare g')(hch:∀b∈ch,(b∈X.ex\/X.s₀.heap.objs.size<=b)/\b≠X.env.locals/\(∀x c,X.env.cells.lookup x=some c->c≠b)/\∀p∈X.pn++pins,p.1≠b):Inv X pins σ H' { s with heap:=h',gens:=g',drawn:=d',toks:=t' }:=by
 obtain⟨m,⟨o,es,ep,ho,r⟩,_⟩:=id I.loc
 obtain⟨sl,hL⟩:=u.any ho I.free fun z=>(hch _ z).2.1 rfl
 exact I.step (ch:=ch) hch (fun b o hL hb hc e n=>u.keep b o e n (fun z=>(List.mem_cons.mp (I.stkSub b z)).elim hL hb) hc) (fun b o _ _ hc e n=>u.any e n hc) (fun b o hc e n=>u.free b o e n hc) (fun b o hc e=>u.there b o e hc) u.tups u.frzs u.tbls (fun m' hm=>by
  obtain⟨o',es',ep',ho',r'⟩:=hm
  rw[ho] at ho';cases ho'
  exact⟨_,es',ep',hL,r'⟩) hok hg
theorem Inv.turned{t':Nat}{it:Addr}(I:Inv X pins σ H s)(k:∀b o,b≠it->s.heap.get? b=some o->h'.get? b=some o)(hn:H it=none)(hL:it≠X.env.locals)(h1:it∈X.ex\/X.s₀.heap.objs.size<=it)(h2:∀x c,X.env.cells.lookup x=some c->c≠it)(h3:∀p∈X.pn++pins,p.1≠it):Inv X pins σ H { s with heap:=h',toks:=t' }:=by
 have nit:∀b u,H b=some u->b≠it:=fun b u e z=>by rw[z,hn] at e;cases e
 refine I.step (g':=s.gens) (d':=s.drawn) (ch:=[it]) (fun b hb=>?_) (fun b o _ _ hc e _=>k b o (fun z=>hc (by simp[z])) e) (fun b o _ _ hc e _=>⟨o.slots,k b o (fun z=>hc (by simp[z])) e⟩) (fun _ _ _ _ n=>n)
  (fun b o hc e=>⟨o,k b o (fun z=>hc (by simp[z])) e⟩) (fun _ _ e=>e) (fun _ _ _ e=>e) (fun b ps e=>⟨#[],by rw[e];simp⟩) (fun m hm=>?_) (fun b u e=>?_) I.bare
 ·have e:b=it:=by simpa using hb
  subst e
  exact⟨h1,hL,h2,h3⟩
 ·obtain⟨o,es,ep,ho,r⟩:=hm
  exact⟨o,es,ep,k _ o (Ne.symm hL) ho,r⟩
 ·refine(I.hok b u e).stay (fun c v hc q=>k c v ?_ q) (fun _ q=>q) (fun _ _ q=>q) fun _ _ _ q=>q
  rcases hc with z|z
  ·rw[z];exact nit b u e
  ·exact nit c _ z
theorem Inv.tok(I:Inv X pins σ H s)(t:Nat):Inv X pins σ H { s with toks:=t }:=I.un (h':=s.heap) (t':=t) Un.refl I.hok
theorem Inv.kept{t':Nat}(I:Inv X pins σ H s)(k:∀b u,s.heap.get? b=some u->h'.get? b=some u):Inv X pins σ H { s with heap:=h',toks:=t' }:=I.un (Un.kept k) (I.hok.kept k)
theorem Inv.laid{a:Addr}{o:HO}{t':Nat}(I:Inv X pins σ H s)(k:∀b u,s.heap.get? b=some u->h'.get? b=some u)(hp:s.heap.objs.size<=a)(new:ObjOk X.prog X.w (upd H a o) h' a o):Inv X pins σ (upd H a o) { s with heap:=h',toks:=t' }:=I.un (Un.laid k hp (I.hok.fresh hp)) (I.hok.laid k hp new)
theorem Inv.write{x e:Addr}{o:HO}{t':Nat}(I:Inv X pins σ H s)(mu:Mut (H x))(he:e=x\/H e=some (.own x))(k:∀b u,b≠e->s.heap.get? b=some u->h'.get? b=some u)(heo:∃u,h'.get? e=some u)(new:ObjOk X.prog X.w (upd H x o) h' x o):Inv X pins σ (upd H x o) { s with heap:=h',toks:=t' }:=I.un (Un.write mu he k heo) (I.hok.write mu he k heo new)
theorem Inv.pins_of{pins':List (Addr×Obj)}(I:Inv X pins σ H s)(h:∀p∈pins',s.heap.get? p.1=some p.2/\H p.1=none/\p.1≠X.env.locals/\p.1∉X.fs/\∀v,p.2.data≠.cell v):Inv X pins' σ H s:=
 ⟨I.ok,I.os,I.bare,I.base,I.loc,I.cell,I.free,I.freeC,fun p hp=>(List.mem_append.mp hp).elim (fun z=>I.pin p (List.mem_append_left _ z)) (h p),I.hok,I.len⟩
theorem pN{N:List Str}(hN:N.Nodup){i j:Nat}{x:Str}(a:N[i]?=some x)(b:N[j]?=some x):i=j:=by
 obtain⟨h1,e1⟩:=ak.mp a
 obtain⟨h2,e2⟩:=ak.mp b
 exact(List.getElem_inj hN).mp (e1.trans e2.symm)
theorem d8{M:Model}{A:Around}{E:Value->Shared->Prop}{i:Nat}{x:Str}{v:V}{u:Value}{Q:Unit->Shared->Prop}(I:Inv X pins σ H s)(hN:X.N.Nodup)(hi:X.N[i]?=some x)(hx:Loc X.env.scope x)(r:RelV v u)(h:∀s',Inv X pins (σ.set i (some v)) H s'->(∃a,Heap.SameBut a s.heap s'.heap/\(a=X.env.locals\/X.env.cells.lookup x=some a))->Q () s')(hf:X.fn x=true\/X.env.scope.names.lookup x=some .local:=by first|exact .inl rfl|exact .inr rfl|assumption):wpAny M A (storeName X.env x u) Q E s:=by
 obtain⟨m,hn,hl⟩:=id I.loc
 have hcls:(X.env.scope.kind == .class || (X.env.scope.kind == .module && X.env.locals != X.env.globals))=false:=by rw[I.ok.kind];rfl
 have hiσ:i<σ.length:=by rw[I.len];exact(ak.mp hi).1
 have cne:=I.cne
 have tracked:∀{a:Addr} {h':Heap},(∃o,s.heap.get? a=some o/\H a=none)->Heap.SameBut a s.heap h'->HOk X.prog X.w H h':=fun {a h'} ha hs b ob e=>by
  obtain⟨_,_,hfree⟩:=ha
  refine(I.hok b ob e).stay (fun c w' hc q=>(hs.2 c ?_).trans q) (fun _ q=>q) (fun _ _ q=>q) fun _ _ _ q=>q
  rintro rfl
  rcases hc with rfl|hc
  ·rw[hfree] at e;cases e
  ·rw[hfree] at hc;cases hc
 rcases hx with hk|hk
 ·refine wpAny_storeName_local hk hn (fun h' hn' hs=>?_) hcls
  obtain⟨oL,_,_,hoL,_⟩:=id hn
  refine h _ ⟨I.ok,I.os,I.bare,⟨fun b o e n hb hx=>?_,fun b o e n hb hx=>?_,I.base.free,fun b o e hx=>?_,I.base.tups,I.base.frzs,I.base.tbls⟩,⟨_,hn',fun j y v' e1 e2 e3=>?_⟩,fun y c e=>?_,I.free,I.freeC,fun p hp=>?_,tracked ⟨oL,hoL,I.free⟩ hs,by simpa using I.len⟩ ⟨_,hs,.inl rfl⟩
  ·exact(hs.2 b (ar (au (af e) I.ok.above))).trans (I.base.keep b o e n hb hx)
  ·obtain⟨sl,e1⟩:=I.base.slot b o e n hb hx
   exact⟨sl,(hs.2 b (ar (au (af e) I.ok.above))).trans e1⟩
  ·obtain⟨o',e1⟩:=I.base.there b o e hx
   exact⟨o',(hs.2 b (ar (au (af e) I.ok.above))).trans e1⟩
  ·by_cases hj:j=i
   ·subst hj
    rw[hi] at e1;cases e1
    rw[List.getElem?_set_self hiσ] at e2
    cases e2
    exact⟨u,r,.inl ⟨hk,by simp⟩⟩
   ·rw[List.getElem?_set_ne (Ne.symm hj)] at e2
    obtain⟨u',r',q⟩:=hl j y v' e1 e2 e3
    refine⟨u',r',?_⟩
    rcases q with⟨k,e⟩|⟨k,c,e,z⟩
    ·refine .inl ⟨k,?_⟩
     have:y≠x:=fun e=>hj (pN hN e1 (e ▸ hi))
     simp[this,e]
    ·exact .inr ⟨k,c,e,z.sameBut hs (cne y c e)⟩
  ·obtain⟨w',z⟩:=I.cell y c e
   exact⟨w',z.sameBut hs (cne y c e)⟩
  ·obtain⟨e,n,ne,nf,d⟩:=I.pin p hp
   exact⟨(hs.2 p.1 ne).trans e,n,ne,nf,d⟩
 ·have hfn:X.fn x=true:=by
   rcases hf with z|z
   ·exact z
   ·rw[z] at hk;cases hk
  obtain⟨c,hc⟩:=I.ok.has x (.inl hk)
  obtain⟨w',z⟩:=I.cell x c hc
  refine wpAny_storeName_cell I.ok.kind hk hc z (fun h' hc' hs=>?_)
  obtain⟨oc,hoc,hocd⟩:=id z
  refine h { s with heap:=h' } ⟨I.ok,I.os,I.bare,⟨fun b o e n hb hx=>?_,fun b o e n hb hx=>?_,I.base.free,fun b o e hx=>?_,I.base.tups,I.base.frzs,I.base.tbls⟩,⟨m,hn.sameBut hs (Ne.symm (cne x c hc)),fun j y v' e1 e2 e3=>?_⟩,fun y c' e=>?_,I.free,I.freeC,fun p hp=>?_,tracked ⟨oc,hoc,I.freeC x c hc⟩ hs,by simpa using I.len⟩ ⟨c,hs,.inr hc⟩
  ·exact(hs.2 b (ar (au (af e) (I.ok.cab x c hfn hc)))).trans (I.base.keep b o e n hb hx)
  ·obtain⟨sl,e1⟩:=I.base.slot b o e n hb hx
   exact⟨sl,(hs.2 b (ar (au (af e) (I.ok.cab x c hfn hc)))).trans e1⟩
  ·obtain⟨o',e1⟩:=I.base.there b o e hx
   exact⟨o',(hs.2 b (ar (au (af e) (I.ok.cab x c hfn hc)))).trans e1⟩
  ·by_cases hj:j=i
   ·subst hj
    rw[hi] at e1;cases e1
    rw[List.getElem?_set_self hiσ] at e2
    cases e2
    exact⟨u,r,.inr ⟨.inl hk,c,hc,hc'⟩⟩
   ·rw[List.getElem?_set_ne (Ne.symm hj)] at e2
    obtain⟨u',r',q⟩:=hl j y v' e1 e2 e3
    refine⟨u',r',?_⟩
    rcases q with q|⟨k,c',e,z'⟩
    ·exact .inl q
    ·refine .inr ⟨k,c',e,z'.sameBut hs ?_⟩
     rintro rfl
     exact hj (pN hN e1 (I.ok.inj _ _ _ e hc ▸ hi))
  ·by_cases hcc:c'=c
   ·subst hcc;exact⟨_,hc'⟩
   ·obtain⟨w2,z2⟩:=I.cell y c' e
    exact⟨w2,z2.sameBut hs hcc⟩
  ·obtain⟨e,n,ne,nf,d⟩:=I.pin p hp
   refine⟨(hs.2 p.1 ?_).trans e,n,ne,nf,d⟩
   intro q
   rw[q,hoc] at e
   have q':oc=p.2:=aq e
   exact d w' (by rw[<-q'];exact hocd)
theorem cZ{M:Model}{A:Around}{E:Value->Shared->Prop}{i:Nat}{x:Str}{v:V}{u:Value}{Q:Unit->Shared->Prop}(I:Inv X pins σ H s)(hN:X.N.Nodup)(hi:X.N[i]?=some x)(hx:Loc X.env.scope x)(r:RelV v u)(h:∀s',Inv X pins (σ.set i (some v)) H s'->Q () s')(hf:X.fn x=true\/X.env.scope.names.lookup x=some .local:=by first|exact .inl rfl|exact .inr rfl|assumption):wpAny M A (storeName X.env x u) Q E s:=
 d8 I hN hi hx r (fun s' I' _=>h s' I') hf
theorem Inv.call'{s':Shared}{ch:List Addr}(I:Inv X pins σ H s)(ho:s'.os=s.os)(u:Un (frs X.stack) ch H H' s.heap s'.heap)(hok:HOk X.prog X.w H' s'.heap)(hg:AllBare s'.gens)(hch:∀b∈ch,(b∈X.ex\/X.s₀.heap.objs.size<=b)/\b≠X.env.locals/\(∀x c,X.env.cells.lookup x=some c->c≠b)/\∀p∈X.pn++pins,p.1≠b):Inv X pins σ H' s':=by
 obtain⟨h',g',d',t',o'⟩:=s'
 have e:o'=s.os:=ho
 subst e
 exact I.call (g':=g') (t':=t') (d':=d') u hok hg hch
end
noncomputable abbrev XK:=Value->Option Addr->Hp->Prop
noncomputable abbrev St:=List (Option V)
noncomputable abbrev VK:=V->Hp->Prop
noncomputable abbrev TE:=St->Hp->VK->Prop
noncomputable abbrev TT:=St->Hp->(Bool->Hp->Prop)->Prop
noncomputable abbrev TA:=St->Hp->(List V->Hp->Prop)->Prop
structure Ends where
 nx:St->Hp->Prop
 rt:VK
 bk:St->Hp->Prop:=fun _ _=>False
 ct:St->Hp->Prop:=fun _ _=>False
noncomputable abbrev TS:=Ends->St->Hp->Prop
noncomputable def EP(X:Cx)(pins:List (Addr×Obj))(σ:St)(Q:VK)(u:Value)(s':Shared):Prop:=∃v H',Inv X pins σ H' s'/\RelV v u/\Q v H'
noncomputable def TP(X:Cx)(pins:List (Addr×Obj))(σ:St)(Q:Bool->Hp->Prop)(b:Bool)(s':Shared):Prop:=∃H',Inv X pins σ H' s'/\Q b H'
noncomputable def AP(X:Cx)(pins:List (Addr×Obj))(σ:St)(Q:List V->Hp->Prop)(us:List Value)(s':Shared):Prop:=∃vs H',Inv X pins σ H' s'/\Vals vs us/\Q vs H'
noncomputable def SP(X:Cx)(pins:List (Addr×Obj))(D:Ends)(f:Flow)(s':Shared):Prop:=
 match f with
 |.next=>∃σ' H',Inv X pins σ' H' s'/\D.nx σ' H'
 |.brk=>∃σ' H',Inv X pins σ' H' s'/\D.bk σ' H'
 |.cont=>∃σ' H',Inv X pins σ' H' s'/\D.ct σ' H'
 |.ret u=>∃v σ' H',Inv X pins σ' H' s'/\RelV v u/\D.rt v H'
noncomputable def PE(X:Cx)(e:Expr)(t:TE):Prop:=
 ∀(pins:List (Addr×Obj)) (s:Shared) (σ:St) (H:Hp) (Q:VK),Inv X pins σ H s->t σ H Q->wpAny (model X.prog X.w) X.A (eval e X.env) (EP X pins σ Q) X.xe s
noncomputable def PT(X:Cx)(e:Expr)(t:TT):Prop:=
 ∀(pins:List (Addr×Obj)) (s:Shared) (σ:St) (H:Hp) (Q:Bool->Hp->Prop),Inv X pins σ H s->t σ H Q->wpAny (model X.prog X.w) X.A (isTrue e X.env (eval e X.env)) (TP X pins σ Q) X.xe s
noncomputable def PW(X:Cx)(e:Expr)(t:TT):Prop:=
 ∀(whole:Sem Value) (pins:List (Addr×Obj)) (s:Shared) (σ:St) (H:Hp) (Q:Bool->Hp->Prop),Inv X pins σ H s->t σ H Q->wpAny (model X.prog X.w) X.A (isTrue e X.env whole) (TP X pins σ Q) X.xe s
theorem PW.pt{X:Cx}{e:Expr}{t:TT}(h:PW X e t):PT X e t:=h _
noncomputable def PA(X:Cx)(es:List Expr)(t:TA):Prop:=
 ∀(pos:Pos) (pins:List (Addr×Obj)) (s:Shared) (σ:St) (H:Hp) (Q:List V->Hp->Prop),Inv X pins σ H s->t σ H Q->wpAny (model X.prog X.w) X.A (spliced (backTo pos (starEach es X.env))) (AP X pins σ Q) X.xe s
noncomputable def PS(X:Cx)(st:Stmt)(t:TS):Prop:=
 ∀(pins:List (Addr×Obj)) (s:Shared) (σ:St) (H:Hp) (D:Ends),Inv X pins σ H s->t D σ H->wpAny (model X.prog X.w) X.A (exec st X.env) (SP X pins D) X.xe s
noncomputable def PSs(X:Cx)(st:List Stmt)(t:TS):Prop:=
 ∀(pins:List (Addr×Obj)) (s:Shared) (σ:St) (H:Hp) (D:Ends),Inv X pins σ H s->t D σ H->wpAny (model X.prog X.w) X.A (execs st X.env) (SP X pins D) X.xe s
theorem thn{α:Type}{t:Sem α}{Q Q':α->Shared->Prop}{M:Model}{A:Around}{E:Value->Shared->Prop}{s:Shared}(h:wpAny M A t Q E s)(hQ:∀a s,Q a s->Q' a s):wpAny M A t Q' E s:=wpAny_mono h hQ fun _ _ x=>x
end L2
namespace L2
open PySem PySem.Spec PyProof.Rows
section
variable{X:Cx}
noncomputable def j3(i:Nat):TE:=fun σ H Q=>∃v,σ[i]?=some (some v)/\Q v H
noncomputable def tC(v:V):TE:=fun _ H Q=>Q v H
theorem zGY{i:Nat}{x:Str}{pos:Pos}(hN:X.N[i]?=some x)(hv:Vis X.env.scope x)(hd:(x == ("__debug__" : Str))=false:=by decide)(hcd:(x == ("__classdict__" : Str))=false:=by decide):PE X (.Name x pos) (j3 i):=by
 intro pins s σ H Q I h
 obtain⟨v,e,h⟩:=h
 obtain⟨m,hn,hl⟩:=I.loc
 obtain⟨u,r,l⟩:=hl i x v hN e hv
 have fin:EP X pins σ Q u s:=⟨v,H,I,r,h⟩
 rcases l with⟨hk,hm⟩|⟨hk,c,hc,hcell⟩
 ·exact wpAny_Name (wpAny_loadName_local I.ok.kind hk hn hm fin) hd
 ·rcases hk with hk|hk
  ·exact wpAny_Name (wpAny_loadName_cell I.ok.kind hk hc hcell fin) hd
  ·exact wpAny_Name (wpAny_loadName_free I.ok.kind hk hc hcell fin hcd) hd
theorem nE{i j pos}:PE X (.Constant (.int i) j pos) (tC (.int i)):=fun _ _ _ H _ I h=>wpAny_Constant_int ⟨.int i,H,I.tok _,⟨_,rfl⟩,h⟩
theorem zKT{b j pos}:PE X (.Constant (.bool b) j pos) (tC (.bl b)):=fun _ _ _ H _ I h=>Constant_bool ⟨.bl b,H,I,rfl,h⟩
theorem zCO{j pos}:PE X (.Constant .none j pos) (tC .non):=fun _ _ _ H _ I h=>Constant_none ⟨.non,H,I,rfl,h⟩
theorem zGZ{x j pos}:PE X (.Constant (.str x) j pos) (tC (.str x)):=fun _ _ _ H _ I h=>Calls.Constant_str ⟨.str x,H,I.tok _,⟨_,rfl⟩,h⟩
noncomputable def Gl(X:Cx)(x:Str):Prop:=X.env.kindOf x=some .globalImplicit
theorem gY{E:Value->Shared->Prop}{pins:List (Addr×Obj)}{s:Shared}{σ:St}{H:Hp}{x:Str}{u:Value}{pos:Pos}{Q:Value->Shared->Prop}(I:Inv X pins σ H s)(hg:Gl X x)(hm:X.mg x=some u)(h:Q u s)(hd:(x == ("__debug__" : Str))=false:=by decide):wpAny (model X.prog X.w) X.A (eval (.Name x pos) X.env) Q E s:=
 Calls.Name_function_global I.ok.kind hg (Calls.loadGlobal_global (by rw[I.ok.glob];exact I.mod.glob.keeps I.bk) hm h) hd
theorem jN{E:Value->Shared->Prop}{pins:List (Addr×Obj)}{s:Shared}{σ:St}{H:Hp}{x:Str}{u:Value}{pos:Pos}{Q:Value->Shared->Prop}(I:Inv X pins σ H s)(hg:Gl X x)(hm:X.mg x=none)(hv:bootBuiltins x=some u)(h:Q u s)(hn:x ≠ "__name__" := by decide)(hd:(x == ("__debug__" : Str))=false:=by decide):wpAny (model X.prog X.w) X.A (eval (.Name x pos) X.env) Q E s:=by
 obtain⟨mb,h1,h2⟩:=I.mod.blt
 exact Calls.Name_function_global I.ok.kind hg (Calls.loadGlobal_builtin (by rw[I.ok.glob];exact I.mod.glob.keeps I.bk) hm (by rw[I.ok.blt];exact h1.keeps I.bk) ((h2 x hn).trans hv) h) hd
theorem XC{x:Str}{v:V}{u:Value}{pos:Pos}(hg:Gl X x)(hm:X.mg x=some u)(r:RelV v u)(hd:(x == ("__debug__" : Str))=false:=by decide):PE X (.Name x pos) (tC v):=
 fun _ _ _ H _ I h=>gY I hg hm ⟨v,H,I,r,h⟩ hd
theorem wM{x:Str}{v:V}{u:Value}{pos:Pos}(hg:Gl X x)(hm:X.mg x=none)(hv:bootBuiltins x=some u)(r:RelV v u)(hn:x ≠ "__name__" := by decide)(hd:(x == ("__debug__" : Str))=false:=by decide):PE X (.Name x pos) (tC v):=
 fun _ _ _ H _ I h=>jN I hg hm hv ⟨v,H,I,r,h⟩ hn hd
variable{a b:Expr}{ta tb:TE}{pos:Pos}
noncomputable def PC(X:Cx)(op:CmpOp)(a b:Expr)(t:TE):Prop:=
 ∀(pins:List (Addr×Obj)) (s:Shared) (σ:St) (H:Hp) (Q:VK),Inv X pins σ H s->t σ H Q ->
  wpAny (model X.prog X.w) X.A (eval a X.env) (fun v s₁=>wpAny (model X.prog X.w) X.A (eval b X.env) (fun u s₂=>wpAny (model X.prog X.w) X.A (compareOp op v u) (EP X pins σ Q) X.xe s₂) X.xe s₁) X.xe s
theorem pO(b:Expr){op:CmpOp}(h:op≠.In)(h2:op≠.NotIn):behindInMarks op b=false:=by
 have e1:(op == CmpOp.In)=false:=by cases op<;>first|rfl|exact absurd rfl h
 have e2:(op == CmpOp.NotIn)=false:=by cases op<;>first|rfl|exact absurd rfl h2
 cases b<;>simp[behindInMarks,e1,e2]
noncomputable def zM5(ta:TE):TE:=fun σ H Q=>ta σ H fun x H1=>Q (.bl (decide (x=.non))) H1
theorem RelV.none_iff{x:V}{v:Value}(r:RelV x v):(v == Value.none)=decide (x=.non):=by
 cases x with
 |non=>cases r;rfl
 |bl _=>cases r;rfl
 |int _=>obtain⟨t,rfl⟩:=r;rfl
 |str _=>obtain⟨t,rfl⟩:=r;rfl
 |byt _=>obtain⟨t,rfl⟩:=r;rfl
 |flt _=>obtain⟨t,rfl⟩:=r;rfl
 |ref _=>cases r;rfl
 |ty _=>cases r;rfl
theorem zG4{j pos'}(ha:PE X a ta):PC X .Is a (.Constant .none j pos') (zM5 ta):=by
 intro pins s σ H Q I h
 refine thn (ha pins s σ H _ I h) fun v s1 ⟨x,H1,I1,r1,q1⟩=>?_
 exact Constant_none (is_none_gen ⟨.bl _,H1,I1,by rw[r1.none_iff];rfl,q1⟩)
noncomputable def tB(t:TE):TT:=fun σ H Q=>t σ H fun x H1=>∃c,x=.bl c/\Q c H1
theorem zG2{op:CmpOp}{t:TE}(h:PC X op a b t)(h1:behindInMarks op b=false:=by first|exact pO _ (by decide) (by decide)|rfl):PE X (.Compare a [op] [b] pos) t:=fun pins s σ H Q I hw=>wpAny_Compare1 (h pins s σ H Q I hw) h1
theorem zB8{op:CmpOp}{t:TE}(h:PC X op a b t)(h1:behindInMarks op b=false:=by first|exact pO _ (by decide) (by decide)|rfl):PT X (.Compare a [op] [b] pos) (tB t):=by
 intro pins s σ H Q I hw
 refine wpAny_isTrue_Compare1 (thn (h pins s σ H _ I hw) fun v s1 h1=>thn h1 fun u s2 h2=>thn h2 fun c s3 ⟨x,H1,I1,r1,q1⟩=>?_) h1
 obtain⟨d,rfl,q⟩:=q1
 cases r1
 exact wpAny_truthy_bool ⟨H1,I1,q⟩
theorem zGS{e:Expr}{t:TE}(h:PE X e t)(he:∀whole,isTrue e X.env whole=(do let v <- whole;standAt e.pos;holding [v] (truthy v)):=by intro _;rfl):PT X e (tB t):=by
 intro pins s σ H Q I hw
 refine isTrue_plain (thn (h pins s σ H _ I hw) fun v s1 ⟨x,H1,I1,r1,q1⟩=>?_) (he _)
 obtain⟨d,rfl,q⟩:=q1
 cases r1
 exact wpAny_truthy_bool ⟨H1,I1,q⟩
variable{tA tB':TT}{rest:List Expr}
noncomputable def zM9(t u:TT):TT:=fun σ H Q=>t σ H fun c H1=>if c=true then u σ H1 Q else Q false H1
noncomputable def tOr(t u:TT):TT:=fun σ H Q=>t σ H fun c H1=>if c=true then Q true H1 else u σ H1 Q
noncomputable def zM4(t:TT):TT:=fun σ H Q=>t σ H fun c H1=>Q (!c) H1
theorem Y7(ha:PT X a tA):PW X (.BoolOp .And [a] pos) tA:=by
 intro wh pins s σ H Q I h
 refine isTrue_and (thn (ha pins s σ H Q I h) fun c s1 e=>?_)
 cases c with
 |true=>exact isTrue_and_nil e
 |false=>exact e
theorem zGQ(ha:PT X a tA):PW X (.BoolOp .Or [a] pos) tA:=by
 intro wh pins s σ H Q I h
 refine isTrue_or (thn (ha pins s σ H Q I h) fun c s1 e=>?_)
 cases c with
 |false=>exact isTrue_or_nil e
 |true=>exact e
theorem zB5(ha:PT X a tA)(hb:PW X (.BoolOp .And (b::rest) pos) tB'):PW X (.BoolOp .And (a::b::rest) pos) (zM9 tA tB'):=by
 intro wh pins s σ H Q I h
 refine isTrue_and (thn (ha pins s σ H _ I h) fun c s1 ⟨H1,I1,q1⟩=>?_)
 cases c with
 |true=>exact hb wh pins s1 σ H1 Q I1 q1
 |false=>exact⟨H1,I1,q1⟩
theorem zKO(ha:PT X a tA)(hb:PW X (.BoolOp .Or (b::rest) pos) tB'):PW X (.BoolOp .Or (a::b::rest) pos) (tOr tA tB'):=by
 intro wh pins s σ H Q I h
 refine isTrue_or (thn (ha pins s σ H _ I h) fun c s1 ⟨H1,I1,q1⟩=>?_)
 cases c with
 |true=>exact⟨H1,I1,q1⟩
 |false=>exact hb wh pins s1 σ H1 Q I1 q1
theorem zGT(ha:PT X a tA):PT X (.UnaryOp .Not a pos) (zM4 tA):=by
 intro pins s σ H Q I h
 exact isTrue_not (ha pins s σ H (fun c H1=>Q (!c) H1) I h)
noncomputable def zKH(ta tb:TE):TE:=fun σ H Q=>ta σ H fun x H1=>∃c,x=.bl c/\if c=true then tb σ H1 Q else Q (.bl false) H1
noncomputable def zKD(ta:TE):TE:=fun σ H Q=>ta σ H fun x H1=>∃c,x=.bl c/\Q (.bl (!c)) H1
theorem zG0{op}{t:TE}(h:PE X a t):PE X (.BoolOp op [a] pos) t:=fun pins s σ H Q I hw=>BoolOp_one (h pins s σ H Q I hw)
theorem zG3(ha:PE X a ta)(hb:PE X (.BoolOp .And (b::rest) pos) tb):PE X (.BoolOp .And (a::b::rest) pos) (zKH ta tb):=by
 intro pins s σ H Q I h
 refine BoolOp_and (thn (ha pins s σ H _ I h) fun v s1 ⟨x,H1,I1,r1,q1⟩=>?_)
 obtain⟨c,rfl,q1⟩:=q1
 cases r1
 refine wpAny_truthy_bool ?_
 cases c with
 |true=>exact hb pins s1 σ H1 Q I1 q1
 |false=>exact⟨.bl false,H1,I1,rfl,q1⟩
theorem zG1(ha:PE X a ta):PE X (.UnaryOp .Not a pos) (zKD ta):=by
 intro pins s σ H Q I h
 refine UnaryOp_ (thn (ha pins s σ H _ I h) fun v s1 ⟨x,H1,I1,r1,q1⟩=>?_)
 obtain⟨c,rfl,q1⟩:=q1
 cases r1
 exact not_of (wpAny_truthy_bool ⟨.bl (!c),H1,I1,rfl,q1⟩)
noncomputable def tIf(t:TT)(ta tb:TE):TE:=fun σ H Q=>t σ H fun c H1=>if c=true then ta σ H1 Q else tb σ H1 Q
theorem QQ{c:Expr}(hc:PT X c tA)(ha:PE X a ta)(hb:PE X b tb):PE X (.IfExp c a b pos) (tIf tA ta tb):=by
 intro pins s σ H Q I h
 refine wpAny_IfExp (thn (hc pins s σ H _ I h) fun d s1 ⟨H1,I1,q1⟩=>?_)
 cases d with
 |true=>exact ha pins s1 σ H1 Q I1 q1
 |false=>exact hb pins s1 σ H1 Q I1 q1
end
end L2
namespace L2
open PySem PySem.Spec PyProof.Rows
noncomputable def SqL(K:Fg)(H:Hp)(a:Addr)(xs:List V):Prop:=
 Rd H a (.lst xs) \/
  ∃(o:Obj) (its:Array Value) (n:Nat),K.lookup a=some o/\o.cls=.type "list" /\ o.dict=none/\o.data=.seq its n/\its.size<=sizeLine/\Vals xs its.toList
noncomputable def SqT(K:Fg)(H:Hp)(a:Addr)(xs:List V):Prop:=
 Rd H a (.tup xs) \/
  ∃(o:Obj) (its:Array Value) (n:Nat),K.lookup a=some o/\o.cls=.type "tuple" /\ o.data=.seq its n/\its.size<=sizeLine/\Vals xs its.toList
noncomputable def zNN:Value->Option V
 |.none=>some .non
 |.bool b=>some (.bl b)
 |.int i _=>some (.int i)
 |.str x _=>some (.str x)
 |.bytes b _=>some (.byt b)
 |.float b _=>some (.flt b)
 |.ref a=>some (.ref a)
 |.type n=>some (.ty n)
 |_=>none
theorem RelV.abs{x:V}{u:Value}(r:RelV x u):zNN u=some x:=by
 cases x with
 |non=>cases r;rfl
 |bl _=>cases r;rfl
 |int _=>obtain⟨t,rfl⟩:=r;rfl
 |str _=>obtain⟨t,rfl⟩:=r;rfl
 |byt _=>obtain⟨t,rfl⟩:=r;rfl
 |flt _=>obtain⟨t,rfl⟩:=r;rfl
 |ref _=>cases r;rfl
 |ty _=>cases r;rfl
theorem RelV.inj{x y:V}{u:Value}(r:RelV x u)(q:RelV y u):x=y:=aq (r.abs.symm.trans q.abs)
theorem Vals.inj:∀{xs ys:List V} {us:List Value},Vals xs us->Vals ys us->xs=ys
 |_,_,_,.nil,.nil=>rfl
 |_,_,_,.cons r t,.cons r' t'=>by rw[r.inj r',Vals.inj t t']
section
variable{X:Cx}{pins:List (Addr×Obj)}{σ:St}{H:Hp}{s:Shared}{a:Addr}{xs ys:List V}
theorem SqL.of{K:Fg}(h:H a=some (.lst xs)):SqL K H a xs:=.inl (.inl h)
theorem SqT.of{K:Fg}(h:H a=some (.tup xs)):SqT K H a xs:=.inl (.inl h)
theorem Inv.list(I:Inv X pins σ H s)(h:SqL X.K H a xs):∃its:List Value,Vals xs its/\PlainL s.heap a its.toArray/\xs.length<=sizeLine:=by
 rcases h with h|⟨o,its,n,hk,hc,hd,hs,hz,r⟩
 ·obtain⟨z,its,n,r,e⟩:=h.ok I.hok
  exact⟨its,r,⟨_,n,e,rfl,rfl,rfl⟩,z⟩
 ·refine⟨its.toList,r,⟨o,n,I.kIn a o hk,hc,hd,by simpa using hs⟩,?_⟩
  have e:=r.length
  simp only[Array.length_toList] at e
  omega
theorem Inv.tuple(I:Inv X pins σ H s)(h:SqT X.K H a xs):∃its:List Value,Vals xs its/\IsTup s.heap a its.toArray/\xs.length<=sizeLine:=by
 rcases h with h|⟨o,its,n,hk,hc,hs,hz,r⟩
 ·obtain⟨z,its,r,p⟩:=h.ok I.hok
  exact⟨its,r,p,z⟩
 ·refine⟨its.toList,r,⟨o,I.kIn a o hk,hc,n,by simpa using hs⟩,?_⟩
  have e:=r.length
  simp only[Array.length_toList] at e
  omega
theorem Inv.list_inj(I:Inv X pins σ H s)(h:SqL X.K H a xs)(h':SqL X.K H a ys):xs=ys:=by
 obtain⟨its,r,⟨o,n,e,_,_,d⟩,_⟩:=I.list h
 obtain⟨its',r',⟨o',n',e',_,_,d'⟩,_⟩:=I.list h'
 rw[e] at e';cases e'
 rw[d] at d'
 injection d' with d1 _
 have:its=its':=by simpa using congrArg Array.toList d1
 subst this
 exact r.inj r'
theorem Inv.tuple_inj(I:Inv X pins σ H s)(h:SqT X.K H a xs)(h':SqT X.K H a ys):xs=ys:=by
 obtain⟨its,r,⟨o,e,_,n,d⟩,_⟩:=I.tuple h
 obtain⟨its',r',⟨o',e',_,n',d'⟩,_⟩:=I.tuple h'
 rw[e] at e';cases e'
 rw[d] at d'
 injection d' with d1 _
 have:its=its':=by simpa using congrArg Array.toList d1
 subst this
 exact r.inj r'
end
noncomputable abbrev Cx.wish(X:Cx)(E:Value->Shared->Prop):Cx:={ X with xe:=E }
noncomputable abbrev Cx.nox(X:Cx):Cx:=X.wish fun _ _=>False
theorem Cx.Ok.wish{X:Cx}(ok:X.Ok)(E:Value->Shared->Prop):(X.wish E).Ok:=
 ⟨ok.mod,ok.kind,ok.glob,ok.blt,ok.above,ok.inj,ok.has,ok.cab,ok.hd,ok.frames,ok.stk,ok.exf,ok.bs,ok.bsz,ok.noex,ok.exfs,ok.funs,ok.frf⟩
theorem Cx.Ok.unwish{X:Cx}{E:Value->Shared->Prop}(ok:(X.wish E).Ok):X.Ok:=
 ⟨ok.mod,ok.kind,ok.glob,ok.blt,ok.above,ok.inj,ok.has,ok.cab,ok.hd,ok.frames,ok.stk,ok.exf,ok.bs,ok.bsz,ok.noex,ok.exfs,ok.funs,ok.frf⟩
section
variable{X:Cx}{pins:List (Addr×Obj)}{σ:St}{H:Hp}{s:Shared}{E:Value->Shared->Prop}
theorem Inv.wish(I:Inv X pins σ H s)(E:Value->Shared->Prop):Inv (X.wish E) pins σ H s:=⟨I.ok.wish E,I.os,I.bare,I.base,I.loc,I.cell,I.free,I.freeC,I.pin,I.hok,I.len⟩
theorem Inv.unwish(I:Inv (X.wish E) pins σ H s):Inv X pins σ H s:=⟨I.ok.unwish,I.os,I.bare,I.base,I.loc,I.cell,I.free,I.freeC,I.pin,I.hok,I.len⟩
theorem SP.unwish{D:Ends}{f:Flow}{s':Shared}(h:SP (X.wish E) pins D f s'):SP X pins D f s':=by
 cases f with
 |next=>obtain⟨σ',H',I,q⟩:=h;exact⟨σ',H',I.unwish,q⟩
 |brk=>obtain⟨σ',H',I,q⟩:=h;exact⟨σ',H',I.unwish,q⟩
 |cont=>obtain⟨σ',H',I,q⟩:=h;exact⟨σ',H',I.unwish,q⟩
 |ret u=>obtain⟨v,σ',H',I,r,q⟩:=h;exact⟨v,σ',H',I.unwish,r,q⟩
theorem PSs.nox{st:List Stmt}{t:TS}(h:PSs X.nox st t):PSs X st t:=fun pins s σ H D I hw=>
 wpAny_mono (h pins s σ H D (I.wish _) hw) (fun _ _ q=>q.unwish) fun _ _ z=>False.elim z
end
section
variable{X:Cx}{st:Stmt}{rest:List Stmt}{t u:TS}{e:Expr}{te:TE}{pos:Pos}
noncomputable def zKE:TS:=fun D σ H=>D.nx σ H
noncomputable def zIT(t u:TS):TS:=fun D σ H=>t { D with nx:=u D } σ H
theorem XA:PSs X [] zKE:=fun _ _ σ H _ I h=>wpAny_execs_nil ⟨σ,H,I,h⟩
theorem qL(h1:PS X st t)(h2:PSs X rest u):PSs X (st::rest) (zIT t u):=by
 intro pins s σ H D I h
 refine wpAny_execs_cons (thn (h1 pins s σ H { D with nx:=u D } I h) fun f s1 q=>?_)
 cases f with
 |next=>
  obtain⟨σ',H',I',q⟩:=q
  exact h2 pins s1 σ' H' D I' q
 |ret v=>exact q
 |brk=>exact q
 |cont=>exact q
theorem gG(h1:PS X st t):PSs X [st] t:=by
 intro pins s σ H D I h
 refine wpAny_execs_cons (thn (h1 pins s σ H D I h) fun f s1 q=>?_)
 cases f with
 |next=>exact wpAny_execs_nil q
 |ret v=>exact q
 |brk=>exact q
 |cont=>exact q
theorem Inv.quiet{pins:List (Addr×Obj)}{σ:St}{H:Hp}{s:Shared}(I:Inv X pins σ H s):interactive X.env=false:=by simp[interactive,I.ok.kind]
noncomputable def zIV(te:TE):TS:=fun D σ H=>te σ H fun _ H1=>D.nx σ H1
theorem pG(he:PE X e te)(hs:swapsWith e none pos.line X.env=pure false:=by rfl):PS X (.Expr e pos) (zIV te):=by
 intro pins s σ H D I h
 exact wpAny_Expr_any (thn (he pins s σ H _ I h) fun v s1 ⟨x,H1,I1,r1,q1⟩=>⟨σ,H1,I1,q1⟩) I.quiet hs
noncomputable def zM3(te:TE):TS:=fun D σ H=>te σ H D.rt
theorem t9(he:PE X e te):PS X (.Return (some e) pos) (zM3 te):=by
 intro pins s σ H D I h
 exact wpAny_Return_some (thn (he pins s σ H _ I h) fun v s1 ⟨x,H1,I1,r1,q1⟩=>⟨x,σ,H1,I1,r1,q1⟩)
noncomputable def zM6(c:TT)(t u:TS):TS:=fun D σ H=>c σ H fun b H1=>if b=true then t D σ H1 else u D σ H1
theorem zI2{c:Expr}{a b:List Stmt}{tc:TT}(hc:PT X c tc)(ha:PSs X a t)(hb:PSs X b u):PS X (.If c a b pos) (zM6 tc t u):=by
 intro pins s σ H D I h
 refine wpAny_If (thn (hc pins s σ H _ I h) fun d s1 ⟨H1,I1,q1⟩=>?_)
 cases d with
 |true=>exact ha pins s1 σ H1 D I1 q1
 |false=>exact hb pins s1 σ H1 D I1 q1
end
noncomputable abbrev TG:=V->St->Hp->(St->Hp->Prop)->Prop
noncomputable abbrev TGs:=List V->St->Hp->(St->Hp->Prop)->Prop
noncomputable def PG(X:Cx)(target:Expr)(t:TG):Prop:=
 ∀(pins:List (Addr×Obj)) (s:Shared) (σ:St) (H:Hp) (v:V) (u:Value) (Q:St->Hp->Prop),Inv X pins σ H s->RelV v u->t v σ H Q ->
  wpAny (model X.prog X.w) X.A (assign target X.env u) (fun _ s'=>∃σ' H',Inv X pins σ' H' s'/\Q σ' H') X.xe s
noncomputable def PGs(X:Cx)(ts:List Expr)(t:TGs):Prop:=
 ∀(pins:List (Addr×Obj)) (s:Shared) (σ:St) (H:Hp) (vs:List V) (us:List Value) (Q:St->Hp->Prop),Inv X pins σ H s->Vals vs us->t vs σ H Q ->
  wpAny (model X.prog X.w) X.A (assignInOrder ((assignEach ts X.env).map (·.2)) us) (fun _ s'=>∃σ' H',Inv X pins σ' H' s'/\Q σ' H') X.xe s
noncomputable abbrev TIp:=V->V->Hp->VK->Prop
noncomputable def PIp(X:Cx)(op:Operator)(t:TIp):Prop:=
 ∀(pins:List (Addr×Obj)) (s:Shared) (σ:St) (H:Hp) (x y:V) (v u:Value) (Q:VK),Inv X pins σ H s->RelV x v->RelV y u->t x y H Q ->
  wpAny (model X.prog X.w) X.A (inplaceOp op v u) (EP X pins σ Q) X.xe s
section
variable{X:Cx}{pos:Pos}
noncomputable def YA(i:Nat):TG:=fun v σ H Q=>Q (σ.set i (some v)) H
theorem pJ{i:Nat}{x:Str}(hN:X.N.Nodup)(hi:X.N[i]?=some x)(hx:Loc X.env.scope x)(hf:X.fn x=true\/X.env.scope.names.lookup x=some .local:=by first|exact .inl rfl|exact .inr rfl|assumption):PG X (.Name x pos) (YA i):=by
 intro pins s σ H v u Q I r h
 exact wpAny_assign_Name (cZ I hN hi hx r (fun s' I'=>⟨_,H,I',h⟩) hf)
noncomputable def zNI:TGs:=fun vs σ H Q=>vs=[]/\Q σ H
noncomputable def zK5(t:TG)(u:TGs):TGs:=fun vs σ H Q=>∃v r,vs=v::r/\t v σ H fun σ' H'=>u r σ' H' Q
theorem zCL:PGs X [] zNI:=by
 intro pins s σ H vs us Q I r h
 obtain⟨e,h⟩:=h
 subst e
 cases r
 exact assignInOrder_nil ⟨σ,H,I,h⟩
theorem QM{e:Expr}{es:List Expr}{t:TG}{u:TGs}(h1:PG X e t)(h2:PGs X es u)(hs:(assignEach (e::es) X.env).map (·.2)=assign e X.env::(assignEach es X.env).map (·.2):=by rfl):PGs X (e::es) (zK5 t u):=by
 intro pins s σ H vs us Q I r h
 obtain⟨v,vr,e1,h⟩:=h
 subst e1
 cases r with
 |cons r rr=>
  rw[hs]
  refine assignInOrder_cons (thn (h1 pins s σ H _ _ _ I r h) fun _ s1 ⟨σ1,H1,I1,q1⟩=>?_)
  exact h2 pins s1 σ1 H1 _ _ Q I1 rr q1
noncomputable def zNH(K:Fg)(n:Nat)(t:TGs):TG:=fun v σ H Q=>∃a xs,v=.ref a/\SqT K H a xs/\xs.length=n/\t xs σ H Q
theorem zGW{es:List Expr}{k:Nat}{t:TGs}{n:Nat}(hc:X.calm=true)(h:PGs X es t)(hn:(assignEach es X.env).length=n:=by rfl)(hst:(assignEach es X.env).findIdx? (·.1)=none:=by rfl):PG X (.Tuple es k pos) (zNH X.K n t):=by
 intro pins s σ H v u Q I r hw
 obtain⟨a,xs,e1,hq,hl,hw⟩:=hw
 subst e1
 cases r
 obtain⟨its,rv,ht,hz⟩:=I.tuple hq
 refine assign_Tuple_tuple (I.ok.hd hc) ht (by simp[hn,<-hl,rv.length]) hst fun h' hx=>?_
 have I1:Inv X pins σ H { s with heap:=h' }:=I.kept (t':=s.toks) fun b o e=>hx b o (ar (af e)) e
 exact h pins _ σ H xs _ Q I1 (by simpa using rv) hw
noncomputable def zLT(te:TE)(g:TG):TS:=fun D σ H=>te σ H fun x H1=>g x σ H1 D.nx
theorem zGV{tg e:Expr}{te:TE}{g:TG}(he:PE X e te)(hg:PG X tg g)(hs:swapsWithSole [tg] e pos.line X.env=pure false:=by rfl)(hw:swappedStores [tg] e X.env=pure none:=by rfl)(h1:(assignEach [tg] X.env).map (·.2)=[assign tg X.env]:=by rfl):PS X (.Assign [tg] e pos) (zLT te g):=by
 intro pins s σ H D I h
 refine wpAny_Assign_stores (thn (he pins s σ H _ I h) fun v s1 ⟨x,H1,I1,r1,q1⟩=>?_) hs hw
 rw[h1]
 exact thn (hg pins s1 σ H1 x v _ I1 r1 q1) fun _ s2 q=>q
theorem gH{i:Nat}{x:Str}{e:Expr}{te:TE}{pos':Pos}(hN:X.N.Nodup)(hi:X.N[i]?=some x)(hx:Loc X.env.scope x)(he:PE X e te)(hs:swapsWith e (some (.Name x pos')) pos.line X.env=pure false:=by rfl)(hf:X.fn x=true\/X.env.scope.names.lookup x=some .local:=by first|exact .inl rfl|exact .inr rfl|assumption):PS X (.Assign [.Name x pos'] e pos) (zLT te (YA i)):=by
 intro pins s σ H D I h
 refine wpAny_Assign_Name (thn (he pins s σ H _ I h) fun v s1 ⟨y,H1,I1,r1,q1⟩=>?_) hs
 exact cZ I1 hN hi hx r1 (fun s2 I2=>⟨_,H1,I2,q1⟩) hf
noncomputable def zM8(i:Nat)(te:TE)(ti:TIp):TS:=fun D σ H=>∃x,σ[i]?=some (some x)/\te σ H fun y H1=>ti x y H1 fun z H2=>D.nx (σ.set i (some z)) H2
theorem zGU{i:Nat}{x:Str}{e:Expr}{te:TE}{op:Operator}{ti:TIp}{pos':Pos}(hN:X.N.Nodup)(hi:X.N[i]?=some x)(hx:Loc X.env.scope x)(he:PE X e te)(ho:PIp X op ti)(hf:X.fn x=true\/X.env.scope.names.lookup x=some .local:=by first|exact .inl rfl|exact .inr rfl|assumption):PS X (.AugAssign (.Name x pos') op e pos) (zM8 i te ti):=by
 intro pins s σ H D I h
 obtain⟨v,e1,h⟩:=h
 obtain⟨m,hn,hl⟩:=I.loc
 have vis:Vis X.env.scope x:=by rcases hx with k|k;exact .inl k;exact .inr (.inl k)
 obtain⟨u,r,l⟩:=hl i x v hi e1 vis
 refine wpAny_AugAssign_Name ?_
 have go:wpAny (model X.prog X.w) X.A (eval e X.env) (fun w s₂=>wpAny (model X.prog X.w) X.A (inplaceOp op u w) (fun r s₃=>wpAny (model X.prog X.w) X.A (storeName X.env x r) (fun _=>SP X pins D .next) X.xe s₃) X.xe s₂) X.xe s:=by
  refine thn (he pins s σ H _ I h) fun w s1 ⟨y,H1,I1,r1,q1⟩=>?_
  refine thn (ho pins s1 σ H1 v y u w _ I1 r r1 q1) fun z s2 ⟨zv,H2,I2,r2,q2⟩=>?_
  exact cZ I2 hN hi hx r2 (fun s3 I3=>⟨_,H2,I3,q2⟩) hf
 rcases l with⟨hk,hm⟩|⟨hk,c,hc,hcell⟩
 ·exact wpAny_loadName_local I.ok.kind hk hn hm go
 ·rcases hk with hk|hk
  ·exact wpAny_loadName_cell I.ok.kind hk hc hcell go
  ·rcases hx with k|k
   ·have:X.env.scope.names.lookup x=some .free:=hk
    rw[k] at this;cases this
   ·have:X.env.scope.names.lookup x=some .free:=hk
    rw[k] at this;cases this
noncomputable def ipI(f:Int->Int->Int):TIp:=fun x y H Q=>∃i j,x=.int i/\y=.int j/\Q (.int (f i j)) H
theorem zH3:PIp X .Add (ipI fun i j=>i+j):=by
 intro pins s σ H x y v u Q I r1 r2 h
 obtain⟨i,j,e1,e2,q⟩:=h
 subst e1;subst e2
 obtain⟨t,rfl⟩:=r1
 obtain⟨t',rfl⟩:=r2
 exact iadd_int ⟨.int _,H,I.tok _,⟨_,rfl⟩,q⟩
end
section
variable{X:Cx}{pos:Pos}
noncomputable def zGG(c:TT)(tb:TS):TS:=fun D σ H=>∃W:Nat->St->Hp->Prop,(∃m,W m σ H)/\∀m σ H,W m σ H ->
 c σ H fun b H1=>if b=true then ∃N:St->Hp->Prop,(∀σ' H',N σ' H'->∃m',m'<m/\W m' σ' H')/\tb { D with nx:=N,ct:=N,bk:=D.nx } σ H1 else D.nx σ H1
theorem pF{c:Expr}{body:List Stmt}{tc:TT}{tb:TS}(hp:PassesOwn (model X.prog X.w) X.A X.env X.xe)(hc:PT X c tc)(hb:PSs X body tb):PS X (.While c body [] pos) (zGG tc tb):=by
 intro pins s σ H D I h
 obtain⟨W,⟨m0,w0⟩,turn⟩:=h
 refine wpAny_While (codeAny_whileLoop (fun n s'=>∃σ' H',Inv X pins σ' H' s'/\W n σ' H') ?_ m0 ⟨σ,H,I,w0⟩)
 rintro n s1 ⟨σ1,H1,I1,w1⟩
 refine wpAny_passesOwn hp (thn (hc pins s1 σ1 H1 _ I1 (turn n σ1 H1 w1)) fun b s2 ⟨H2,I2,q2⟩=>?_)
 cases b with
 |true=>
  obtain⟨N,hN,q2⟩:=q2
  rw[if_pos rfl]
  refine wpAny_passesOwn hp (thn (hb pins s2 σ1 H2 _ I2 q2) fun f s3 q3=>?_)
  cases f with
  |next=>
   obtain⟨σ3,H3,I3,n3⟩:=q3
   obtain⟨m',hm,w3⟩:=hN σ3 H3 n3
   exact⟨m',hm,σ3,H3,I3,w3⟩
  |cont=>
   obtain⟨σ3,H3,I3,n3⟩:=q3
   obtain⟨m',hm,w3⟩:=hN σ3 H3 n3
   exact⟨m',hm,σ3,H3,I3,w3⟩
  |brk=>exact q3
  |ret v=>exact q3
 |false=>
  rw[if_neg am]
  exact wpAny_execs_nil ⟨σ1,H2,I2,q2⟩
end
structure It where
 go:Nat->Hp->Prop
 yld:Nat->Hp->V->Hp->Prop
 stop:Nat->Hp->Prop
noncomputable def dQ(X:Cx)(pins:List (Addr×Obj))(H:Hp)(b:Addr):Prop:=
 H b=none/\b≠X.env.locals/\b∉X.fs/\(b∈X.ex\/X.s₀.heap.objs.size<=b)/\(∀x c,X.env.cells.lookup x=some c->c≠b)/\∀p∈X.pn++pins,p.1≠b
theorem Inv.fpOk{X:Cx}{pins:List (Addr×Obj)}{σ:St}{H H':Hp}{s:Shared}{b:Addr}(I:Inv X pins σ H s)(hb:s.heap.objs.size<=b)(hn:H' b=none):dQ X pins H' b:=by
 refine⟨hn,Nat.ne_of_gt (au I.lt hb),I.nofs hb,.inr (Nat.le_trans I.sz hb),fun x c e z=>?_,fun p hp z=>?_⟩
 ·obtain⟨v,q⟩:=I.cell x c e
  exact absurd (au q.lt (by rw[z];exact hb)) (Nat.lt_irrefl _)
 ·exact absurd (au (af (I.pin p hp).1) (by rw[z];exact hb)) (Nat.lt_irrefl _)
structure Turn(P:Program)(w:World)(K:Fg)(tg:Expr)(J:It)(fp:List Addr)(it:Addr)(tn:Nat->Heap->Prop):Prop where
 mem:it∈fp
 obj:∀i h,tn i h->∀b∈fp,∃o,h.get? b=some o/\∀v,o.data≠.cell v
 keep:∀i h h',tn i h->(∀b∈fp,∀o,h.get? b=some o->h'.get? b=some o)->tn i h'
 item:∀(X:Cx),X.prog=P->X.w=w->X.K=K->X.calm=true->∀(i:Nat) (pins:List (Addr×Obj)) (s:Shared) (σ:St) (H:Hp) (E:Value->Shared->Prop),Inv X pins σ H s->(∀b∈fp,dQ X pins H b)->tn i s.heap->J.go i H ->
  wpAny (model P w) X.A (pyNext (.ref it)) (fun r s1=>∃u,r=some u /\
   wpAny (model P w) X.A (letOwnedTupleGo tg (.ref it) u) (fun _ s2=>∃x H',Inv X pins σ H' s2/\RelV x u/\J.yld i H x H'/\tn (i+1) s2.heap/\∀b∈fp,H' b=none) E s1) E s
 done:∀(X:Cx),X.prog=P->X.w=w->X.K=K->X.calm=true->∀(i:Nat) (pins:List (Addr×Obj)) (s:Shared) (σ:St) (H:Hp) (E:Value->Shared->Prop),Inv X pins σ H s->(∀b∈fp,dQ X pins H b)->tn i s.heap->J.stop i H ->
  wpAny (model P w) X.A (pyNext (.ref it)) (fun r s1=>r=none/\Inv X pins σ H s1) E s
 self:∀(A:Around) (i:Nat) (s:Shared) (Q:Value->Shared->Prop) (E:Value->Shared->Prop),tn i s.heap->Q (.ref it) s->wpAny (model P w) A (pyIter (.ref it)) Q E s
noncomputable abbrev TI:=St->Hp->(It->Hp->Prop)->Prop
noncomputable def PIE(X:Cx)(pins:List (Addr×Obj))(σ:St)(tg:Expr)(R:It->Hp->Prop)(itv:Value)(s2:Shared):Prop:=
 ∃(it:Addr) (fp:List Addr) (tn:Nat->Heap->Prop) (J:It) (H':Hp),itv=.ref it/\Inv X pins σ H' s2/\Turn X.prog X.w X.K tg J fp it tn/\tn 0 s2.heap/\(∀b∈fp,dQ X pins H' b)/\R J H'
noncomputable def PI(X:Cx)(tg iter:Expr)(wi:TI):Prop:=
 ∀(pins:List (Addr×Obj)) (s:Shared) (σ:St) (H:Hp) (R:It->Hp->Prop),Inv X pins σ H s->wi σ H R ->
  wpAny (model X.prog X.w) X.A (eval iter X.env) (fun v s1=>wpAny (model X.prog X.w) X.A (pyIter v) (PIE X pins σ tg R) X.xe s1) X.xe s
theorem zAC{M:Model}{A:Around}{E:Value->Shared->Prop}{s:Shared}{tg:Expr}{it:Addr}{u:Value}{o:Obj}{n:String}{vs:Array Value}{Q:Unit->Shared->Prop}(ho:s.heap.get? it=some o)(hc:o.cls=.type n)(hd:o.data=.fields vs)(hn:["enumerate", "zip", "dict_itemiterator", "dict_reverseitemiterator", "odict_iterator", "itertools.zip_longest", "itertools.pairwise"].contains n=false)(hQ:Q () s):wpAny M A (letOwnedTupleGo tg (.ref it) u) Q E s:=by
 unfold letOwnedTupleGo
 cases tg<;>first
  |exact ae hQ
  |(cases u<;>first
    |exact ae hQ
    |(refine aa (wpAny_load ho ?_)
      rw[hc,hd]
      show wpAny M A (if (["enumerate", "zip", "dict_itemiterator", "dict_reverseitemiterator", "odict_iterator", "itertools.zip_longest", "itertools.pairwise"].contains n && vs[0]? == some (rawInt _))=true then _ else _) Q E s
      rw[if_neg (by intro h;rw[hn,Bool.false_and] at h;cases h)]
      exact ae hQ))
noncomputable def Itl(K:Fg)(a:Addr):It:=
 ⟨fun i H=>∃xs x,SqL K H a xs/\xs[i]?=some x,fun i H x H'=>H'=H/\∀xs,SqL K H a xs->xs[i]?=some x,fun i H=>∃xs,SqL K H a xs/\xs.length<=i⟩
noncomputable def Itt(K:Fg)(a:Addr):It:=
 ⟨fun i H=>∃xs x,SqT K H a xs/\xs[i]?=some x,fun i H x H'=>H'=H/\∀xs,SqT K H a xs->xs[i]?=some x,fun i H=>∃xs,SqT K H a xs/\xs.length<=i⟩
noncomputable def Itr(lo:Int)(n:Nat):It:=⟨fun i _=>i<n,fun i H x H'=>H'=H/\x=.int (lo+i),fun i _=>n<=i⟩
theorem tL{P:Program}{w:World}{K:Fg}{tg:Expr}(a it:Addr):Turn P w K tg (Itl K a) [it] it (fun i h=>h.IsListIter it a i) where
 mem:=by simp
 obj:=fun i h st b hb=>by
  have e:b=it:=by simpa using hb
  subst e
  obtain⟨o,e,c,d⟩:=st
  exact⟨o,e,fun v z=>by rw[d] at z;cases z⟩
 keep:=fun i h h' st k=>st.at fun o e=>k it (by simp) o e
 item:=by
  intro X hP hw hK hc i pins s σ H E I hf st hg
  subst hP hw hK
  obtain⟨xs,x,hq,hx⟩:=hg
  obtain⟨its,rv,p,hz⟩:=I.list hq
  obtain⟨u,hu,ru⟩:=rv.get hx
  obtain⟨f0,f1,f2,f3,f4,f5⟩:=hf it (by simp)
  refine wpAny_pyNext_list_item st p.isList (x:=u) (by simpa using hu) fun h' st' sb=>?_
  have I1:Inv X pins σ H { s with heap:=h' }:=I.turned (t':=s.toks) (fun b o hb e=>(sb.2 b hb).trans e) f0 f1 f3 f4 f5
  obtain⟨o,e,c,d⟩:=id st'
  exact⟨u,rfl,zAC (s:={ s with heap:=h' }) e c d (by decide) ⟨x,H,I1,ru,⟨rfl,fun ys hy=>by rw[I.list_inj hy hq];exact hx⟩,st',fun b hb=>(hf b hb).1⟩⟩
 done:=by
  intro X hP hw hK hc i pins s σ H E I hf st hg
  subst hP hw hK
  obtain⟨xs,hq,hx⟩:=hg
  obtain⟨its,rv,p,hz⟩:=I.list hq
  obtain⟨f0,f1,f2,f3,f4,f5⟩:=hf it (by simp)
  have hl:=rv.length
  exact wpAny_pyNext_list_end (I.ok.hd hc) st p.isList (by simp;omega) fun h' eb=>⟨rfl,I.turned (t':=s.toks) (fun b o hb e=>eb b o hb e) f0 f1 f3 f4 f5⟩
 self:=fun _ _ _ _ _ st h=>wpAny_pyIter_listiter st h
theorem mW{P:Program}{w:World}{K:Fg}{tg:Expr}(a it:Addr):Turn P w K tg (Itt K a) [it] it (fun i h=>h.IsTupleIter it a i) where
 mem:=by simp
 obj:=fun i h st b hb=>by
  have e:b=it:=by simpa using hb
  subst e
  obtain⟨o,e,c,d⟩:=st
  exact⟨o,e,fun v z=>by rw[d] at z;cases z⟩
 keep:=fun i h h' st k=>st.at fun o e=>k it (by simp) o e
 item:=by
  intro X hP hw hK hc i pins s σ H E I hf st hg
  subst hP hw hK
  obtain⟨xs,x,hq,hx⟩:=hg
  obtain⟨its,rv,p,hz⟩:=I.tuple hq
  obtain⟨u,hu,ru⟩:=rv.get hx
  obtain⟨f0,f1,f2,f3,f4,f5⟩:=hf it (by simp)
  refine wpAny_pyNext_tuple_item st (show s.heap.IsTuple a its.toArray from p) (x:=u) (by simpa using hu) fun h' st' sb=>?_
  have I1:Inv X pins σ H { s with heap:=h' }:=I.turned (t':=s.toks) (fun b o hb e=>(sb.2 b hb).trans e) f0 f1 f3 f4 f5
  obtain⟨o,e,c,d⟩:=id st'
  exact⟨u,rfl,zAC (s:={ s with heap:=h' }) e c d (by decide) ⟨x,H,I1,ru,⟨rfl,fun ys hy=>by rw[I.tuple_inj hy hq];exact hx⟩,st',fun b hb=>(hf b hb).1⟩⟩
 done:=by
  intro X hP hw hK hc i pins s σ H E I hf st hg
  subst hP hw hK
  obtain⟨xs,hq,hx⟩:=hg
  obtain⟨its,rv,p,hz⟩:=I.tuple hq
  obtain⟨f0,f1,f2,f3,f4,f5⟩:=hf it (by simp)
  have hl:=rv.length
  exact wpAny_pyNext_tuple_end (I.ok.hd hc) st (show s.heap.IsTuple a its.toArray from p) (by simp;omega) fun h' eb=>⟨rfl,I.turned (t':=s.toks) (fun b o hb e=>eb b o hb e) f0 f1 f3 f4 f5⟩
 self:=fun _ _ _ _ _ st h=>wpAny_pyIter_tupleiter st h
theorem mX{P:Program}{w:World}{K:Fg}{tg:Expr}(it:Addr)(lo:Int)(n:Nat):Turn P w K tg (Itr lo n) [it] it (fun i h=>IsRangeIter h it (lo+(i:Nat)*1) ((n:Int)-(i:Nat)) 1) where
 mem:=by simp
 obj:=fun i h st b hb=>by
  have e:b=it:=by simpa using hb
  subst e
  exact⟨_,st,fun v z=>by
   have z':Data.fields _=Data.cell v:=z
   cases z'⟩
 keep:=fun i h h' st k=>k it (by simp) _ st
 item:=by
  intro X hP hw hK hc i pins s σ H E I hf st hg
  subst hP hw hK
  obtain⟨f0,f1,f2,f3,f4,f5⟩:=hf it (by simp)
  have W:=Walks.range (prog:=X.prog) (w:=X.w) (I.ok.hd hc) it lo 1 n
  refine W.item i s _ _ hg st fun v h' tk hv st' kk=>?_
  obtain⟨t,rfl⟩:=hv
  have I1:Inv X pins σ H { s with heap:=h',toks:=tk }:=I.turned (fun b o hb e=>kk b o (by simpa using hb) e) f0 f1 f3 f4 f5
  refine⟨_,rfl,zAC (s:={ s with heap:=h',toks:=tk }) (n:="range_iterator") st' rfl rfl (by decide) ⟨.int (lo+i),H,I1,⟨t,?_⟩,⟨rfl,rfl⟩,st',fun b hb=>(hf b hb).1⟩⟩
  rw[Int.mul_one]
 done:=by
  intro X hP hw hK hc i pins s σ H E I hf st hg
  subst hP hw hK
  obtain⟨f0,f1,f2,f3,f4,f5⟩:=hf it (by simp)
  exact wpAny_pyNext_range_end (I.ok.hd hc) st (by have:n<=i:=hg;omega) fun h' eb=>⟨rfl,I.turned (t':=s.toks) (fun b o hb e=>eb b o hb e) f0 f1 f3 f4 f5⟩
 self:=fun _ _ _ _ _ st h=>wpAny_pyIter_rangeiter st h
end L2
namespace L2
open PySem PySem.Spec PyProof.Rows
section
variable{X:Cx}{tg:Expr}
theorem QF{pins:List (Addr×Obj)}{σ:St}{H:Hp}{s:Shared}{R:It->Hp->Prop}{E:Value->Shared->Prop}{lo hi:Int}{t u v:Tok}{tk:Nat}(I:Inv X pins σ H s)(h1 : -(2 ^ 62)<=lo)(h2:lo<2 ^ 62)(h3 : -(2 ^ 62)<=hi)(h4:hi<2 ^ 62)(q:R (Itr lo (hi-lo).toNat) H):wpAny (model X.prog X.w) X.A (pyIter (.ref s.heap.objs.size)) (PIE X pins σ tg R) E { s with heap:=s.heap.push { cls:=.type "range",data:=.fields #[.int lo t,.int hi u,.int 1 v] },toks:=tk }:=by
 refine wpAny_pyIter_range (IsRange.new ..) (small_one h1 h2 h3 h4) ?_
 have I1:Inv X pins σ H { s with heap:=s.heap.push { cls:=.type "range",data:=.fields #[.int lo t,.int hi u,.int 1 v] },toks:=tk }:=I.kept fun b o e=>ad _ e
 refine⟨(s.heap.push { cls:=.type "range",data:=.fields #[.int lo t,.int hi u,.int 1 v] }).objs.size,[(s.heap.push { cls:=.type "range",data:=.fields #[.int lo t,.int hi u,.int 1 v] }).objs.size],_,_,H,rfl,
  I1.kept (t':=tk) fun b o e=>ad _ e,mX _ lo (hi-lo).toNat,?_,fun b hb=>?_,q⟩
 ·have e1:lo+((0:Nat):Int)*1=lo:=by simp
  have e2:(((hi-lo).toNat:Nat):Int)-((0:Nat):Int)=Builtin.Range.rangeSize lo hi 1:=by rw[rangeSize_one];split<;>omega
  show IsRangeIter _ _ (lo+((0:Nat):Int)*1) ((((hi-lo).toNat:Nat):Int)-((0:Nat):Int)) 1
  rw[e1,e2]
  exact ah _ rfl
 ·have e:b=(s.heap.push { cls:=.type "range",data:=.fields #[.int lo t,.int hi u,.int 1 v] }).objs.size:=by simpa using hb
  subst e
  exact I1.fpOk (al _) (I1.hok.fresh (al _))
noncomputable def zK4(ta:TA):TI:=fun σ H R=>ta σ H fun vs H1=>∃j:Int,vs=[.int j]/\-(2 ^ 62)<=j/\j<2 ^ 62/\R (Itr 0 j.toNat) H1
theorem ZF{a:Expr}{ta:TA}{p pos:Pos}(hg:Gl X "range")(hm:X.mg "range" = none)(ha:PA X [a] ta)(hs:starEach [a] X.env=[(false,eval a X.env)]:=by rfl):PI X tg (.Call (.Name "range" p) [a] [] pos) (zK4 ta):=by
 intro pins s σ H R I h
 refine Call_ (jN I hg hm boot_range (PyProof.Rows.callWith_type1 (thn (ha pos pins s σ H _ I h) fun us s1 ⟨vs,H1,I1,r1,q1⟩=>?_) hs rfl))
 obtain⟨j,e,q1,q2,q⟩:=q1
 subst e
 cases r1 with
 |cons r rr=>
  cases rr
  obtain⟨t,rfl⟩:=r
  exact call_range_1 (QF I1 (by omega) (by omega) q1 q2 (by simpa using q))
noncomputable def zM7(wi:TI)(g:TG)(tb:TS):TS:=fun D σ H=>wi σ H fun J H1=>∃W:Nat->Nat->St->Hp->Prop,(∃m,W 0 m σ H1)/\∀i m σ H,W i m σ H ->
 (J.stop i H/\D.nx σ H)\/(J.go i H/\∃N:St->Hp->Prop,(∀σ' H',N σ' H'->∃m',m'<m/\W (i+1) m' σ' H')/\∀x H',J.yld i H x H'->g x σ H' fun σ2 H2=>tb { D with nx:=N,ct:=N,bk:=D.nx } σ2 H2)
noncomputable def gI(fp:List Addr)(h:Heap):List (Addr×Obj):=fp.filterMap fun b=>(h.get? b).map fun o=>(b,o)
theorem jM{fp:List Addr}{h:Heap}{b:Addr}{o:Obj}(hb:b∈fp)(e:h.get? b=some o):(b,o)∈gI fp h:=List.mem_filterMap.mpr ⟨b,hb,by rw[e];rfl⟩
theorem ZO{fp:List Addr}{h:Heap}{p:Addr×Obj}(hp:p∈gI fp h):p.1∈fp/\h.get? p.1=some p.2:=by
 obtain⟨b,hb,e⟩:=List.mem_filterMap.mp hp
 cases q:h.get? b with
 |none=>rw[q] at e;cases e
 |some o=>
  rw[q] at e
  have e':(b,o)=p:=aq e
  subst e'
  exact⟨hb,q⟩
theorem Inv.pinned{pins:List (Addr×Obj)}{σ:St}{H:Hp}{s:Shared}{fp:List Addr}(I:Inv X pins σ H s)(hf:∀b∈fp,dQ X pins H b)(ho:∀b∈fp,∃o,s.heap.get? b=some o/\∀v,o.data≠.cell v):Inv X (pins++gI fp s.heap) σ H s:=
 I.pins_of fun p hp=>(List.mem_append.mp hp).elim (fun z=>I.pin p (List.mem_append_right _ z)) fun z=>by
  obtain⟨hb,e⟩:=ZO z
  obtain⟨f0,f1,f2,_⟩:=hf p.1 hb
  obtain⟨o,e',d⟩:=ho p.1 hb
  rw[e] at e';cases e'
  exact⟨e,f0,f1,f2,d⟩
theorem Inv.unpinned{pins pl:List (Addr×Obj)}{σ:St}{H:Hp}{s:Shared}(I:Inv X (pins++pl) σ H s):Inv X pins σ H s:=I.pins_of fun p hp=>I.pin p (List.mem_append_right _ (List.mem_append_left _ hp))
theorem zB9{iter:Expr}{body:List Stmt}{wi:TI}{g:TG}{tb:TS}{pos:Pos}(hp:PassesOwn (model X.prog X.w) X.A X.env X.xe)(hc:X.calm=true)(hi:PI X tg iter wi)(hg:PG X tg g)(hb:PSs X body tb)(hs:∀x,foldedSetIterable iter X.env x=pure x:=by intro _;rfl):PS X (.For tg iter body [] pos) (zM7 wi g tb):=by
 intro pins s σ H D I h
 refine wpAny_For (thn (hi pins s σ H _ I h) fun v s1 h1=>thn h1 fun itv s2 h2=>?_) hs
 obtain⟨it,fp,tn,J,H2,e,I2,T,st2,f2,W,⟨m0,w0⟩,turn⟩:=h2
 subst e
 have stat:∀{H':Hp},(∀b∈fp,H' b=none)->∀b∈fp,dQ X pins H' b:=fun hn b hb=>⟨hn b hb,(f2 b hb).2⟩
 refine codeAny_forLoop_any (fun n s'=>∃i σ' H',Inv X pins σ' H' s'/\tn i s'.heap/\(∀b∈fp,H' b=none)/\W i n σ' H') ?_ m0 ⟨0,σ,H2,I2,st2,fun b hb=>(f2 b hb).1,w0⟩
 rintro n s3 ⟨i,σ3,H3,I3,st3,fr3,w3⟩
 rcases turn i n σ3 H3 w3 with⟨stop,qn⟩|⟨go,N,hN,step⟩
 ·refine wpAny_passesOwn hp (thn (T.done X rfl rfl rfl hc i pins s3 σ3 H3 X.xe I3 (stat fr3) st3 stop) fun r s4 ⟨hr,I4⟩=>?_)
  subst hr
  exact wpAny_execs_nil ⟨σ3,H3,I4,qn⟩
 ·refine wpAny_passesOwn hp (thn (T.item X rfl rfl rfl hc i pins s3 σ3 H3 X.xe I3 (stat fr3) st3 go) fun r s4 ⟨u,hr,h4⟩=>?_)
  subst hr
  refine wpAny_passesOwn hp (thn h4 fun _ s5 ⟨x,H5,I5,r5,y5,st5,fr5⟩=>?_)
  have I5':=I5.pinned (stat fr5) (T.obj _ _ st5)
  refine wpAny_passesOwn hp (thn (hg _ s5 σ3 H5 x u _ I5' r5 (step x H5 y5)) fun _ s6 ⟨σ6,H6,I6,q6⟩=>?_)
  refine wpAny_passesOwn hp (thn (hb _ s6 σ6 H6 _ I6 q6) fun f s7 q7=>?_)
  have again:∀{σ7:St} {H7:Hp},Inv X (pins++gI fp s5.heap) σ7 H7 s7->N σ7 H7->∃m,m<n/\∃i σ' H',Inv X pins σ' H' s7/\tn i s7.heap/\(∀b∈fp,H' b=none)/\W i m σ' H':=fun {σ7 H7} I7 n7=>by
   obtain⟨m',hm,w7⟩:=hN σ7 H7 n7
   refine⟨m',hm,i+1,σ7,H7,I7.unpinned,T.keep _ _ _ st5 fun b hb o e=>(I7.pin (b,o) (List.mem_append_right _ (List.mem_append_right _ (jM hb e)))).1,fun b hb=>?_,w7⟩
   obtain⟨o,e,d⟩:=T.obj _ _ st5 b hb
   exact(I7.pin (b,o) (List.mem_append_right _ (List.mem_append_right _ (jM hb e)))).2.1
  cases f with
  |next=>obtain⟨σ7,H7,I7,n7⟩:=q7;exact again I7 n7
  |cont=>obtain⟨σ7,H7,I7,n7⟩:=q7;exact again I7 n7
  |brk=>obtain⟨σ7,H7,I7,q7⟩:=q7;exact⟨σ7,H7,I7.unpinned,q7⟩
  |ret v=>obtain⟨x7,σ7,H7,I7,r7,q7⟩:=q7;exact⟨x7,σ7,H7,I7.unpinned,r7,q7⟩
end
end L2
namespace L2
open PySem PySem.Spec PyProof.Rows
noncomputable abbrev R2:=V->V->Hp->VK->Prop
noncomputable def OpR(X:Cx)(f:Value->Value->Sem Value)(r:R2):Prop:=
 ∀(pins:List (Addr×Obj)) (s:Shared) (σ:St) (H:Hp) (x y:V) (v u:Value) (Q:VK),Inv X pins σ H s->RelV x v->RelV y u->r x y H Q ->
  wpAny (model X.prog X.w) X.A (f v u) (EP X pins σ Q) X.xe s
noncomputable def UnR(X:Cx)(f:Value->Sem Value)(r:V->Hp->VK->Prop):Prop:=
 ∀(pins:List (Addr×Obj)) (s:Shared) (σ:St) (H:Hp) (x:V) (v:Value) (Q:VK),Inv X pins σ H s->RelV x v->r x H Q ->
  wpAny (model X.prog X.w) X.A (f v) (EP X pins σ Q) X.xe s
noncomputable def CallR(X:Cx)(f:Value)(r:List V->Hp->VK->Prop):Prop:=
 ∀(pins:List (Addr×Obj)) (s:Shared) (σ:St) (H:Hp) (xs:List V) (us:List Value) (Q:VK),Inv X pins σ H s->Vals xs us->r xs H Q ->
  wpAny (model X.prog X.w) X.A (call f us) (EP X pins σ Q) X.xe s
noncomputable def zNO(X:Cx)(r:V->Hp->(Bool->Hp->Prop)->Prop):Prop:=
 ∀(pins:List (Addr×Obj)) (s:Shared) (σ:St) (H:Hp) (x:V) (v:Value) (Q:Bool->Hp->Prop),Inv X pins σ H s->RelV x v->r x H Q ->
  wpAny (model X.prog X.w) X.A (truthy v) (TP X pins σ Q) X.xe s
noncomputable def tOp(r:R2)(ta tb:TE):TE:=fun σ H Q=>ta σ H fun x H1=>tb σ H1 fun y H2=>r x y H2 Q
noncomputable def tUn(r:V->Hp->VK->Prop)(ta:TE):TE:=fun σ H Q=>ta σ H fun x H1=>r x H1 Q
noncomputable def rI(C:Int->Int->Prop)(g:Int->Int->V):R2:=fun x y H Q=>∃i j,x=.int i/\y=.int j/\C i j/\Q (g i j) H
noncomputable def rI0(g:Int->Int->V):R2:=fun x y H Q=>∃i j,x=.int i/\y=.int j/\Q (g i j) H
noncomputable def rU(g:Int->V):V->Hp->VK->Prop:=fun x H Q=>∃i,x=.int i/\Q (g i) H
section
variable{X:Cx}{a b c:Expr}{ta tb tc:TE}{pos:Pos}
theorem zL5(ha:PE X a ta)(hb:PE X b tb){pins:List (Addr×Obj)}{s:Shared}{σ:St}{H:Hp}{R:V->V->Hp->Prop}(I:Inv X pins σ H s)(h:ta σ H fun x H1=>tb σ H1 fun y H2=>R x y H2){Q:Value->Shared->Prop}{f:Value->Value->Sem Value}(hf:∀v u s2 x y H2,Inv X pins σ H2 s2->RelV x v->RelV y u->R x y H2->wpAny (model X.prog X.w) X.A (f v u) Q X.xe s2):wpAny (model X.prog X.w) X.A (eval a X.env) (fun v s₁=>wpAny (model X.prog X.w) X.A (eval b X.env) (fun u s₂=>wpAny (model X.prog X.w) X.A (f v u) Q X.xe s₂) X.xe s₁) X.xe s:=by
 refine thn (ha pins s σ H _ I h) fun v s1 ⟨x,H1,I1,r1,q1⟩=>?_
 refine thn (hb pins s1 σ H1 _ I1 q1) fun u s2 ⟨y,H2,I2,r2,q2⟩=>?_
 exact hf v u s2 x y H2 I2 r1 r2 q2
theorem zI4{op:Operator}{r:R2}(ho:OpR X (binaryOp op) r)(ha:PE X a ta)(hb:PE X b tb):PE X (.BinOp a op b pos) (tOp r ta tb):=by
 intro pins s σ H Q I h
 exact wpAny_BinOp (zL5 ha hb I h fun v u s2 x y H2 I2 rx ry q=>ho pins s2 σ H2 x y v u Q I2 rx ry q)
theorem zI3{op:UnaryOp}{r:V->Hp->VK->Prop}(ho:UnR X (unaryOp op) r)(ha:PE X a ta):PE X (.UnaryOp op a pos) (tUn r ta):=by
 intro pins s σ H Q I h
 exact UnaryOp_ (thn (ha pins s σ H _ I h) fun v s1 ⟨x,H1,I1,r1,q1⟩=>ho pins s1 σ H1 x v Q I1 r1 q1)
theorem opI{f:Value->Value->Sem Value}{C:Int->Int->Prop}{g:Int->Int->Int}(rule:∀(i j:Int) (t u:Tok) (s:Shared) (Q:Value->Shared->Prop) (E:Value->Shared->Prop),C i j->Q (.int (g i j) s.toks) { s with toks:=s.toks+1 }->wpAny (model X.prog X.w) X.A (f (.int i t) (.int j u)) Q E s):OpR X f (rI C fun i j=>.int (g i j)):=by
 intro pins s σ H x y v u Q I rx ry h
 obtain⟨i,j,rfl,rfl,hc,q⟩:=h
 obtain⟨t,rfl⟩:=rx
 obtain⟨t',rfl⟩:=ry
 exact rule i j t t' s _ _ hc ⟨.int (g i j),H,I.tok _,⟨_,rfl⟩,q⟩
theorem zMM{f:Value->Value->Sem Value}{g:Int->Int->Int}(rule:∀(i j:Int) (t u:Tok) (s:Shared) (Q:Value->Shared->Prop) (E:Value->Shared->Prop),Q (.int (g i j) s.toks) { s with toks:=s.toks+1 }->wpAny (model X.prog X.w) X.A (f (.int i t) (.int j u)) Q E s):OpR X f (rI0 fun i j=>.int (g i j)):=by
 intro pins s σ H x y v u Q I rx ry h
 obtain⟨i,j,rfl,rfl,q⟩:=h
 obtain⟨t,rfl⟩:=rx
 obtain⟨t',rfl⟩:=ry
 exact rule i j t t' s _ _ ⟨.int (g i j),H,I.tok _,⟨_,rfl⟩,q⟩
theorem zKX{f:Value->Value->Sem Value}{g:Int->Int->Bool}(rule:∀(i j:Int) (t u:Tok) (s:Shared) (Q:Value->Shared->Prop) (E:Value->Shared->Prop),Q (.bool (g i j)) s->wpAny (model X.prog X.w) X.A (f (.int i t) (.int j u)) Q E s):OpR X f (rI0 fun i j=>.bl (g i j)):=by
 intro pins s σ H x y v u Q I rx ry h
 obtain⟨i,j,rfl,rfl,q⟩:=h
 obtain⟨t,rfl⟩:=rx
 obtain⟨t',rfl⟩:=ry
 exact rule i j t t' s _ _ ⟨.bl (g i j),H,I,rfl,q⟩
noncomputable def zMW(i j:Int):Prop:=0<j/\j<1073741824
noncomputable def zMV(i j:Int):Prop:=0<=j/\j<=1000000/\i.natAbs<2 ^ 64
noncomputable def CMul(i j:Int):Prop:=(-(2 ^ 64)<i/\i<2 ^ 64)\/(-(2 ^ 64)<j/\j<2 ^ 64)
theorem CMul.ok{i j:Int}(h:CMul i j):IntMulOk i j:=by
 rcases h with⟨h1,h2⟩|⟨h1,h2⟩
 ·exact .of_left (intBits_le_64 h1 h2)
 ·exact .of_right (intBits_le_64 h1 h2)
theorem op_add:OpR X (binaryOp .Add) (rI0 fun i j=>.int (i+j)):=zMM fun _ _ _ _ _ _ _ q=>add_int q
theorem QU:OpR X (binaryOp .Sub) (rI0 fun i j=>.int (i-j)):=zMM fun _ _ _ _ _ _ _ q=>sub_int q
theorem ZJ:OpR X (binaryOp .Mult) (rI CMul fun i j=>.int (i*j)):=opI fun _ _ _ _ _ _ _ hc q=>mul_int q hc.ok
theorem wN:OpR X (binaryOp .FloorDiv) (rI zMW fun i j=>.int (i / j)):=opI fun i j _ _ _ _ _ hc q=>by
 have h1:(0:Int)<j:=hc.1
 have h2:j<1073741824:=hc.2
 exact floordiv_int (by omega) (by rw[Int.fdiv_eq_ediv_of_nonneg i (by omega)];exact q) (.inl (PyProof.noPylong_small (by omega)))
theorem xN:OpR X (binaryOp .Mod) (rI (fun _ j=>0<j) fun i j=>.int (i % j)):=opI fun i j _ _ _ _ _ hc q=>by
 have h1:(0:Int)<j:=hc
 exact mod_int' (by omega) (by rw[Int.fmod_eq_emod_of_nonneg i (by omega)];exact q)
theorem zG5:OpR X (binaryOp .Pow) (rI zMV fun i j=>.int (i ^ j.toNat)):=opI fun _ _ _ _ _ _ _ hc q=>pow_int_small hc.1 hc.2.1 hc.2.2 q
theorem unI{f:Value->Sem Value}{g:Int->Int}(rule:∀(i:Int) (t:Tok) (s:Shared) (Q:Value->Shared->Prop) (E:Value->Shared->Prop),Q (.int (g i) s.toks) { s with toks:=s.toks+1 }->wpAny (model X.prog X.w) X.A (f (.int i t)) Q E s):UnR X f (rU fun i=>.int (g i)):=by
 intro pins s σ H x v Q I rx h
 obtain⟨i,rfl,q⟩:=h
 obtain⟨t,rfl⟩:=rx
 exact rule i t s _ _ ⟨.int (g i),H,I.tok _,⟨_,rfl⟩,q⟩
theorem zBD:UnR X (unaryOp .USub) (rU fun i=>.int (-i)):=unI fun _ _ _ _ _ q=>neg_int q
end
noncomputable def zLY:V->V->Bool
 |.non,.non=>true | .non,.int _=>true | .int _,.non=>true | .non,.bl _=>true | .bl _,.non=>true | .non,.str _=>true | .str _,.non=>true
 |.int _,.int _=>true | .bl _,.bl _=>true | .str _,.str _=>true | .byt _,.byt _=>true
 |.int _,.str _=>true | .str _,.int _=>true | .bl _,.str _=>true | .str _,.bl _=>true
 |_,_=>false
noncomputable def rEq:R2:=fun x y H Q=>zLY x y=true/\Q (.bl (decide (x=y))) H
noncomputable def rNe:R2:=fun x y H Q=>zLY x y=true/\Q (.bl (!decide (x=y))) H
theorem WB{i j:Int}:decide (V.int i=V.int j)=(i == j):=by
 rw[Bool.eq_iff_iff]
 simp
theorem zEP{i j:Bool}:decide (V.bl i=V.bl j)=(i == j):=by
 rw[Bool.eq_iff_iff]
 simp
theorem WA{i j:Str}:decide (V.str i=V.str j)=(i == j):=by
 rw[Bool.eq_iff_iff]
 simp
theorem WC{i j:Array UInt8}:decide (V.byt i=V.byt j)=(i.toList == j.toList):=by
 rw[Bool.eq_iff_iff]
 cases i
 cases j
 simp
section
variable{X:Cx}{a b c:Expr}{ta tb tc:TE}{pos:Pos}
theorem yO{pins:List (Addr×Obj)}{σ:St}{H:Hp}{s:Shared}{Q:VK}{k k':Bool}(I:Inv X pins σ H s)(q:Q (.bl k) H)(e:k=k'):EP X pins σ Q (.bool k') s:=by
 subst e
 exact⟨.bl k,H,I,rfl,q⟩
theorem zKW:OpR X (compareOp .Eq) rEq:=by
 intro pins s σ H x y v u Q I rx ry h
 obtain⟨hs,q⟩:=h
 cases x with
 |non=>
  cases rx
  cases y with
  |non=>cases ry;exact PySem.EqNone.eq_none_none (yO I q (by simp))
  |bl j=>cases ry;exact PySem.EqNone.eq_none_bool (yO I q (by simp))
  |int j=>obtain⟨t',rfl⟩:=ry;exact PySem.EqNone.eq_none_int (yO I q (by simp))
  |str j=>obtain⟨t',rfl⟩:=ry;exact PySem.EqNone.eq_none_str (yO I q (by simp))
  |_=>exact absurd (show false=true from hs) am
 |bl i=>
  cases rx
  cases y with
  |non=>cases ry;exact PySem.EqNone.eq_bool_none (yO I q (by simp))
  |bl j=>cases ry;exact eq_bool (yO I q zEP)
  |str j=>obtain⟨t',rfl⟩:=ry;exact PySem.EqMixed.eq_bool_str (yO I q (by simp))
  |_=>exact absurd (show false=true from hs) am
 |int i=>
  obtain⟨t,rfl⟩:=rx
  cases y with
  |non=>cases ry;exact PySem.EqNone.eq_int_none (yO I q (by simp))
  |int j=>obtain⟨t',rfl⟩:=ry;exact eq_int (yO I q WB)
  |str j=>obtain⟨t',rfl⟩:=ry;exact PySem.EqMixed.eq_int_str (yO I q (by simp))
  |_=>exact absurd (show false=true from hs) am
 |str i=>
  obtain⟨t,rfl⟩:=rx
  cases y with
  |non=>cases ry;exact PySem.EqNone.eq_str_none (yO I q (by simp))
  |bl j=>cases ry;exact PySem.EqMixed.eq_str_bool (yO I q (by simp))
  |int j=>obtain⟨t',rfl⟩:=ry;exact PySem.EqMixed.eq_str_int (yO I q (by simp))
  |str j=>obtain⟨t',rfl⟩:=ry;exact eq_str (yO I q WA)
  |_=>exact absurd (show false=true from hs) am
 |byt i=>
  obtain⟨t,rfl⟩:=rx
  cases y with
  |byt j=>obtain⟨t',rfl⟩:=ry;exact PySem.W.eq_bytes (yO I q WC)
  |_=>exact absurd (show false=true from hs) am
 |_=>cases y<;>exact absurd (show false=true from hs) am
theorem zKU:OpR X (compareOp .NotEq) rNe:=by
 intro pins s σ H x y v u Q I rx ry h
 obtain⟨hs,q⟩:=h
 cases x with
 |non=>
  cases rx
  cases y with
  |non=>cases ry;exact PySem.EqNone.ne_none_none (yO I q (by simp))
  |bl j=>cases ry;exact PySem.EqNone.ne_none_bool (yO I q (by simp))
  |int j=>obtain⟨t',rfl⟩:=ry;exact PySem.EqNone.ne_none_int (yO I q (by simp))
  |str j=>obtain⟨t',rfl⟩:=ry;exact PySem.EqNone.ne_none_str (yO I q (by simp))
  |_=>exact absurd (show false=true from hs) am
 |bl i=>
  cases rx
  cases y with
  |non=>cases ry;exact PySem.EqNone.ne_bool_none (yO I q (by simp))
  |bl j=>cases ry;exact ne_bool (yO I q (congrArg not zEP))
  |str j=>obtain⟨t',rfl⟩:=ry;exact PySem.EqMixed.ne_bool_str (yO I q (by simp))
  |_=>exact absurd (show false=true from hs) am
 |int i=>
  obtain⟨t,rfl⟩:=rx
  cases y with
  |non=>cases ry;exact PySem.EqNone.ne_int_none (yO I q (by simp))
  |int j=>obtain⟨t',rfl⟩:=ry;exact ne_int (yO I q (congrArg not WB))
  |str j=>obtain⟨t',rfl⟩:=ry;exact PySem.EqMixed.ne_int_str (yO I q (by simp))
  |_=>exact absurd (show false=true from hs) am
 |str i=>
  obtain⟨t,rfl⟩:=rx
  cases y with
  |non=>cases ry;exact PySem.EqNone.ne_str_none (yO I q (by simp))
  |bl j=>cases ry;exact PySem.EqMixed.ne_str_bool (yO I q (by simp))
  |int j=>obtain⟨t',rfl⟩:=ry;exact PySem.EqMixed.ne_str_int (yO I q (by simp))
  |str j=>obtain⟨t',rfl⟩:=ry;exact ne_str (yO I q (congrArg not WA))
  |_=>exact absurd (show false=true from hs) am
 |byt i=>
  obtain⟨t,rfl⟩:=rx
  cases y with
  |byt j=>obtain⟨t',rfl⟩:=ry;exact PySem.W.ne_bytes (yO I q (congrArg not WC))
  |_=>exact absurd (show false=true from hs) am
 |_=>cases y<;>exact absurd (show false=true from hs) am
theorem op_lt:OpR X (compareOp .Lt) (rI0 fun i j=>.bl (decide (i<j))):=zKX fun _ _ _ _ _ _ _ q=>lt_int q
theorem op_le:OpR X (compareOp .LtE) (rI0 fun i j=>.bl (decide (i<=j))):=zKX fun _ _ _ _ _ _ _ q=>le_int q
theorem zFO:OpR X (compareOp .Gt) (rI0 fun i j=>.bl (decide (j<i))):=zKX fun _ _ _ _ _ _ _ q=>gt_int q
theorem zKV:OpR X (compareOp .GtE) (rI0 fun i j=>.bl (decide (j<=i))):=zKX fun _ _ _ _ _ _ _ q=>ge_int q
theorem OpR.or{f:Value->Value->Sem Value}{r r':R2}(h:OpR X f r)(h':OpR X f r'):OpR X f (fun x y H Q=>r x y H Q\/r' x y H Q):=by
 intro pins s σ H x y v u Q I rx ry q
 rcases q with q|q
 ·exact h pins s σ H x y v u Q I rx ry q
 ·exact h' pins s σ H x y v u Q I rx ry q
theorem xH(b:Expr){op:CmpOp}(h:op≠.In:=by decide)(h2:op≠.NotIn:=by decide):behindInMarks op b=false:=by
 have e1:(op == CmpOp.In)=false:=by cases op<;>first|rfl|exact absurd rfl h
 have e2:(op == CmpOp.NotIn)=false:=by cases op<;>first|rfl|exact absurd rfl h2
 cases b<;>simp[behindInMarks,e1,e2]
theorem zCS{op:CmpOp}{r:R2}(ho:OpR X (compareOp op) r)(ha:PE X a ta)(hb:PE X b tb)(hm:behindInMarks op b=false):PE X (.Compare a [op] [b] pos) (tOp r ta tb):=by
 intro pins s σ H Q I h
 exact wpAny_Compare1 (zL5 ha hb I h fun v u s2 x y H2 I2 rx ry q=>ho pins s2 σ H2 x y v u Q I2 rx ry q) hm
noncomputable def zKB(t:TE):TT:=fun σ H Q=>t σ H fun x H'=>∃k,x=.bl k/\Q k H'
theorem Y9{op:CmpOp}{r:R2}(ho:OpR X (compareOp op) r)(ha:PE X a ta)(hb:PE X b tb)(hm:behindInMarks op b=false):PT X (.Compare a [op] [b] pos) (zKB (tOp r ta tb)):=by
 intro pins s σ H Q I h
 refine wpAny_isTrue_Compare1 (thn (ha pins s σ H _ I h) fun v s1 ⟨x,H1,I1,r1,q1⟩=>thn (hb pins s1 σ H1 _ I1 q1) fun u s2 ⟨y,H2,I2,r2,q2⟩=>
  thn (ho pins s2 σ H2 x y v u _ I2 r1 r2 q2) fun c s3 ⟨z,H3,I3,r3,k,e,q3⟩=>?_) hm
 subst e
 cases r3
 exact wpAny_truthy_bool ⟨H3,I3,q3⟩
noncomputable def zL6(K:Fg)(x:V)(H:Hp)(k:Bool):Prop:=
 match x with
 |.non=>k=false
 |.bl b=>k=b
 |.int i=>k=(i != 0)
 |.str y=>y.length<=sizeLine/\k=((y.length:Int) != 0)
 |.byt y=>y.size<=sizeLine/\k=((y.size:Int) != 0)
 |.ref p=>(∃xs,SqL K H p xs/\k = !xs.isEmpty)\/(∃xs,SqT K H p xs/\k = !xs.isEmpty)\/∃kvs,H p=some (.dK kvs)/\k = !kvs.isEmpty
 |_=>False
theorem nR{κ:Type}{kvs:List (κ×V)}{vs:List (κ×Value)}(r:KV kvs vs):(!vs.isEmpty) = !kvs.isEmpty:=by
 cases r<;>rfl
theorem bX{xs:List V}{its:List Value}(r:Vals xs its):(!its.toArray.isEmpty) = !xs.isEmpty:=by
 cases r<;>simp
theorem gU:(sizeLine:Nat)<2 ^ 63:=by rw[sizeLine_eq];decide
theorem zGD:zNO X (fun x H Q=>∃k,zL6 X.K x H k/\Q k H):=by
 intro pins s σ H x v Q I rx h
 obtain⟨k,e,q⟩:=h
 have hl:=gU
 have hs:sizeLine=16777216:=sizeLine_eq
 cases x with
 |non=>
  cases rx
  have e':k=false:=e
  subst e'
  exact truthy_none ⟨H,I,q⟩
 |bl b=>
  cases rx
  have e':k=b:=e
  subst e'
  exact wpAny_truthy_bool ⟨H,I,q⟩
 |int i=>
  obtain⟨t,rfl⟩:=rx
  have e':k=(i != 0):=e
  subst e'
  exact PySem.P.truthy_int ⟨H,I,q⟩
 |str y=>
  obtain⟨t,rfl⟩:=rx
  obtain⟨hy,e'⟩:y.length<=sizeLine/\k=((y.length:Int) != 0):=e
  subst e'
  exact PySem.P.truthy_str (by omega) ⟨H,I.tok _,q⟩
 |byt y=>
  obtain⟨t,rfl⟩:=rx
  obtain⟨hy,e'⟩:y.size<=sizeLine/\k=((y.size:Int) != 0):=e
  subst e'
  exact PySem.W.truthy_bytes (by omega) ⟨H,I.tok _,q⟩
 |ref p=>
  cases rx
  have e':(∃xs,SqL X.K H p xs/\k = !xs.isEmpty)\/(∃xs,SqT X.K H p xs/\k = !xs.isEmpty)\/∃kvs,H p=some (.dK kvs)/\k = !kvs.isEmpty:=e
  rcases e' with⟨xs,hx,e'⟩|⟨xs,hx,e'⟩|⟨kvs,hx,e'⟩
  ·subst e'
   obtain⟨its,r,pl,hz⟩:=I.list hx
   have hlen:=r.length
   exact wpAny_truthy_list pl.isList (by simp only[ag];omega) ⟨H,I.tok _,by rw[bX r];exact q⟩
  ·subst e'
   obtain⟨its,r,pl,hz⟩:=I.tuple hx
   have hlen:=r.length
   exact truthy_tuple pl (by simp only[ag];omega) ⟨H,I.tok _,by rw[bX r];exact q⟩
  ·subst e'
   obtain⟨hz,hS,vs,r,m⟩:kvs.length<=sizeLine/\(p == sysModules)=false/\∃vs,KV kvs vs/\s.heap.DictOf (yI X.prog X.w) p vs:=I.hok p _ hx
   have hlen:kvs.length=vs.length:=Paired.length r
   exact wpAny_truthy_dict hS m (by omega) ⟨H,I.tok _,by rw[nR r];exact q⟩
 |_=>exact(show False from e).elim
theorem dC(ha:PE X a ta)(he:∀whole,isTrue a X.env whole=(do let v <- whole;standAt a.pos;holding [v] (truthy v))):PT X a (fun σ H Q=>ta σ H fun x H'=>∃k,zL6 X.K x H' k/\Q k H'):=by
 intro pins s σ H Q I h
 exact isTrue_plain (thn (ha pins s σ H _ I h) fun v s1 ⟨x,H1,I1,r1,q1⟩=>zGD pins s1 σ H1 x v Q I1 r1 q1) (he _)
theorem op_add_str:OpR X (binaryOp .Add) (fun x y H Q=>∃i j,x=.str i/\y=.str j/\i.length+j.length<=sizeLine/\Q (.str (i++j)) H):=by
 intro pins s σ H x y v u Q I rx ry h
 obtain⟨i,j,rfl,rfl,hz,q⟩:=h
 obtain⟨t,rfl⟩:=rx
 obtain⟨t',rfl⟩:=ry
 exact add_str (fun t' tk=>⟨.str (i++j),H,I.tok _,⟨_,rfl⟩,q⟩) hz
theorem Y1{x:V}{us:List Value}(r:Vals [x] us):∃u,us=[u]/\RelV x u:=by
 cases r with
 |cons r1 r2=>cases r2;exact⟨_,rfl,r1⟩
end
end L2
namespace L2
open PySem PySem.Spec PyProof.Rows
structure ObjM(h:Heap)(x dx C:Addr)(mA:Str->Option Value):Prop where
 obj:h.get? x=some (PySem.W.instObj C dx)
 ns:h.Ns1 dx mA
 ne:dx≠x
theorem Z0{h:Heap}{dx:Addr}{mA:Str->Option Value}(n:h.Ns1 dx mA):∃od,h.get? dx=some od/\∀name,PySem.W.lookIn name od=some (mA name):=by
 obtain⟨o,es,ep,ho,hd,hk,_,hm⟩:=n
 refine⟨o,ho,fun name=>?_⟩
 have e:=hm name
 unfold nsFind findBy at e
 rw[<-Array.find?_toList] at e
 unfold PySem.W.lookIn
 rw[hd]
 dsimp only
 split
 ·rename_i y q
  rw[q] at e
  exact congrArg some e
 ·rename_i q
  rw[q] at e
  have a:es.toList.any (·.refKey)=false:=by
   rw[List.any_eq_false]
   intro y hy
   obtain⟨z,t,hkey⟩:=hk y (Array.mem_toList_iff.mp hy)
   simp[DictEntry.refKey,hkey]
  have a':¬es.toList.any (·.refKey)=true:=by rw[a];exact am
  rw[if_neg a']
  exact congrArg some e
theorem ObjM.look{h:Heap}{x dx C:Addr}{mA:Str->Option Value}(I:ObjM h x dx C mA):∃od,PySem.W.InstAt h x (PySem.W.instObj C dx) C (some od)/\∀name,PySem.W.lookIn name od=some (mA name):=
 let ⟨od,ho,hl⟩:=Z0 I.ns
 ⟨od,⟨I.obj,rfl,rfl,ho⟩,hl⟩
section
variable{prog:Program}{w:World}{A:Around}{E:Value->Shared->Prop}{s:Shared}{K:Fg}{x dx C f:Addr}{mA:Str->Option Value}{name:Str}{v:Value}
theorem zDZ{expr:Bool}{Q:Value->Shared->Prop}(X:K.In s.heap)(I:ObjM s.heap x dx C mA)(hg:PySem.W.plainGet K C name=true)(hh:PySem.W.hasDictIn K C=true)(ha:PySem.W.findIn K (.ref C) name=some none)(hv:mA name=some v)(hv':PySem.W.handedIn v=true)(h:Q v { s with toks:=s.toks+1 }):wpAny (model prog w) A (getAttr (.ref x) name expr) Q E s:=by
 obtain⟨od,J,hl⟩:=I.look
 exact PySem.W.get_value X J (PySem.W.plainGet_of hg).1 (PySem.W.findObj_own hh ha rfl (by rw[hl,hv])) hv' h
theorem JL{pl:Sem Bool}{Q:Value×List Value->Shared->Prop}(X:K.In s.heap)(I:ObjM s.heap x dx C mA)(hg:PySem.W.plainGet K C name=true)(hf:PySem.W.findIn K (.ref C) name=some (some (.ref f)))(ht:PySem.W.isFn K (.ref f)=true)(hv:mA name=none)(h:Q (.ref f,[.ref x]) s):wpAny (model prog w) A (getMethod (.ref x) name pl) Q E s:=by
 obtain⟨od,J,hl⟩:=I.look
 exact PySem.W.method_fn X J (PySem.W.plainGet_of hg).1 (PySem.W.plainGet_of hg).2 hf (beq_iff_eq.mp ht) (by show(PySem.W.lookIn name od).map (·.isSome)=some false;rw[hl,hv];rfl) h
theorem zBU{ns:List Str}{Q:Unit->Shared->Prop}(X:K.In s.heap)(I:ObjM s.heap x dx C mA)(hs:PySem.W.findIn K (.ref C) "__setattr__" = some (some (.builtin "object.__setattr__")))(hp:PySem.W.plainOver K C=true)(ht:PySem.W.takerIn K C name=some none)(hh:PySem.W.hasDictIn K C=true)(hw:PySem.Within mA ns)(hsz:ns.length<=sizeLine)(h:∀h',ObjM h' x dx C (fun y=>if y=name then some v else mA y)->Heap.SameBut dx s.heap h'->Q () { s with heap:=h',toks:=s.toks+2 }):wpAny (model prog w) A (setAttr (.ref x) name v) Q E s:=by
 obtain⟨od,J,hl⟩:=I.look
 refine PySem.W.set_plain X J hs (PySem.W.osa_open (s:={ s with toks:=s.toks+1 }) (r:=none) X J hp ht fun b=>?_)
 obtain⟨cd,hc,hd'⟩:=PySem.W.any_some hh
 have hx:s.heap.get? x=some ⟨.ref C,some dx,.plain,#[]⟩:=I.obj
 refine aa (ae (aa (aa (wpAny_loadPart hx (aa (PySem.W.Looks.here (s:={ s with toks:=s.toks+1 }) (PySem.W.looks_clsIn X hc) ?_))))))
 rw[hd']
 refine ae (a:=some dx) (aa (ae (aa ?_)))
 refine wpAny_nsSet1 (s:={ s with toks:=s.toks+1 }) I.ns fun h' hn2 hs2=>?_
 obtain⟨oD,esD,epD,hoD,hdD,hcD⟩:=hn2.count (PySem.Within.cons name v hw)
 refine aa (wpAny_lookBehind hoD (by rw[hdD];exact pastItsLine_dict (Nat.le_trans hcD (by rw[av];omega))) ?_)
 exact ae (h _ ⟨(hs2.2 _ (Ne.symm I.ne)).trans I.obj,hn2,I.ne⟩ hs2)
theorem Q9{R:Result->Shared->Prop}{vs:List Value}{kw:List (Str×Value)}(X:K.In s.heap)(hm:PySem.W.makesIn K C=true)(hi:PySem.W.findIn K (.ref C) "__init__" = some (some (.ref f)))(hf:PySem.W.typeIn K (.ref f)=some (.type "function"))(h:codeAny (model prog w) (A.under (.builtin "type.__call__" ⟨.ref C::vs,kw⟩)) (.call (.ref f) ⟨.ref (s.heap.objs.size+1)::vs,kw⟩) (PySem.W.InitBack (s.heap.objs.size+1) R)
   { s with heap:=(s.heap.push PySem.W.emptyDict).push (PySem.W.instObj C s.heap.objs.size) }):codeAny (model prog w) A (.call (.ref C) ⟨vs,kw⟩) R s:=by
 obtain⟨hh,g,d,t,os⟩:=s
 exact PySem.W.make_core (PySem.W.makes_of X hm) (PySem.W.looks_findIn X hi) (fun self=>PySem.W.bind_fn X self hf) (.inl rfl) h
end
noncomputable def rX(f:Str)(v:V):List (Str×V)->List (Str×V)
 |[]=>[(f,v)]
 |(g,x)::r=>if g=f then (g,v)::r else (g,x)::rX f v r
theorem vY(f g:Str)(v:V):∀fs:List (Str×V),(rX f v fs).lookup g=if g=f then some v else fs.lookup g
 |[]=>by
  show List.lookup g [(f,v)]=_
  by_cases h:g=f
  ·have hb:(g == f)=true:=beq_iff_eq.mpr h
   simp only[List.lookup,hb,if_pos h]
  ·have hb:(g == f)=false:=beq_eq_false_iff_ne.mpr h
   simp only[List.lookup,hb,if_neg h]
 |(k,x)::r=>by
  have ih:=vY f g v r
  rw[show rX f v ((k,x)::r)=(if k=f then (k,v)::r else (k,x)::rX f v r) from rfl]
  by_cases hk:k=f
  ·rw[if_pos hk]
   by_cases h:g=k
   ·have hb:(g == k)=true:=beq_iff_eq.mpr h
    simp only[List.lookup,hb,if_pos (h.trans hk)]
   ·have hb:(g == k)=false:=beq_eq_false_iff_ne.mpr h
    simp only[List.lookup,hb,if_neg (fun e:g=f=>h (e.trans hk.symm))]
  ·rw[if_neg hk]
   by_cases h:g=k
   ·have hb:(g == k)=true:=beq_iff_eq.mpr h
    simp only[List.lookup,hb,if_neg (fun e:g=f=>hk (h.symm.trans e))]
   ·have hb:(g == k)=false:=beq_eq_false_iff_ne.mpr h
    simp only[List.lookup,hb]
    exact ih
theorem u3(f:Str)(v:V):∀fs:List (Str×V),f∈(rX f v fs).map (·.1)/\∀g,g∈fs.map (·.1)->g∈(rX f v fs).map (·.1)
 |[]=>⟨by simp[rX],fun g h=>by simp at h⟩
 |(k,x)::r=>by
  obtain⟨i1,i2⟩:=u3 f v r
  rw[show rX f v ((k,x)::r)=(if k=f then (k,v)::r else (k,x)::rX f v r) from rfl]
  by_cases hk:k=f
  ·rw[if_pos hk]
   subst hk
   exact⟨by simp,fun g h=>by simpa using h⟩
  ·rw[if_neg hk]
   refine⟨?_,fun g h=>?_⟩
   ·rw[ao]
    exact List.mem_cons_of_mem _ i1
   ·rw[ao] at h ⊢
    rcases List.mem_cons.mp h with e|e
    ·exact List.mem_cons.mpr (.inl e)
    ·exact List.mem_cons_of_mem _ (i2 g e)
theorem v5(f:Str)(v:V):∀fs:List (Str×V),(rX f v fs).length<=fs.length+1
 |[]=>by simp[rX]
 |(k,x)::r=>by
  have ih:=v5 f v r
  rw[show rX f v ((k,x)::r)=(if k=f then (k,v)::r else (k,x)::rX f v r) from rfl]
  by_cases hk:k=f
  ·rw[if_pos hk,av,av];omega
  ·rw[if_neg hk,av,av];omega
theorem RelO.some_of{v:V}{o:Option Value}(r:RelO (some v) o):∃u,o=some u/\RelV v u:=by
 cases o with
 |none=>exact(show False from r).elim
 |some u=>exact⟨u,rfl,r⟩
theorem RelO.none_of{o:Option Value}(r:RelO none o):o=none:=by
 cases o with
 |none=>rfl
 |some u=>exact(show False from r).elim
theorem Z9{v:V}{u:Value}(r:RelV v u):PySem.W.handedIn u=true:=by
 cases v with
 |non=>cases (show u=Value.none from r);rfl
 |bl b=>cases (show u=Value.bool b from r);rfl
 |int i=>obtain⟨t,e⟩:=(show ∃t,u=Value.int i t from r);cases e;rfl
 |str x=>obtain⟨t,e⟩:=(show ∃t,u=Value.str x t from r);cases e;rfl
 |byt b=>obtain⟨t,e⟩:=(show ∃t,u=Value.bytes b t from r);cases e;rfl
 |flt b=>obtain⟨t,e⟩:=(show ∃t,u=Value.float b t from r);cases e;rfl
 |ref a=>cases (show u=Value.ref a from r);rfl
 |ty n=>cases (show u=Value.type n from r);rfl
section
variable{P:Program}{w:World}{H H':Hp}{h h':Heap}{a C dx:Addr}{fs fs':List (Str×V)}
theorem g0(hok:HOk P w H h)(e:H a=some (.ins C dx fs)):∃mA,ObjM h a dx C mA/\(∀f,RelO (fs.lookup f) (mA f))/\PySem.Within mA (fs.map (·.1))/\fs.length<=1000/\H dx=some (.own a):=by
 obtain⟨d,z,ne,ob,mA,n,r,q⟩:=(show ObjOk P w H h a (.ins C dx fs) from hok a _ e)
 exact⟨mA,⟨ob,n,ne⟩,r,q,z,d⟩
end
structure Cls(K:Fg)(C:Addr):Prop where
 pg:PySem.W.plainGet K C Str.empty=true
 hd:PySem.W.hasDictIn K C=true
 po:PySem.W.plainOver K C=true
 sa:PySem.W.findIn K (.ref C) "__setattr__" = some (some (.builtin "object.__setattr__"))
theorem Cls.get{K:Fg}{C:Addr}(c:Cls K C)(f:Str):PySem.W.plainGet K C f=true:=c.pg
noncomputable def NoAttr(K:Fg)(C:Addr)(f:Str):Prop:=PySem.W.findIn K (.ref C) f=some none
theorem NoAttr.taker{K:Fg}{C:Addr}{f:Str}(n:NoAttr K C f):PySem.W.takerIn K C f=some none:=by
 unfold PySem.W.takerIn
 rw[show PySem.W.findIn K (.ref C) f=some none from n]
 rfl
structure Meth(K:Fg)(C:Addr)(m:Str)(f:Addr):Prop where
 at_:PySem.W.findIn K (.ref C) m=some (some (.ref f))
 fn:PySem.W.isFn K (.ref f)=true
 kp:PySem.W.keepIn K (.ref f)=true
section
variable{X:Cx}{pins:List (Addr×Obj)}{σ:St}{H:Hp}{s:Shared}{a C dx:Addr}{fs:List (Str×V)}{f:Str}{v:V}{A:Around}{E:Value->Shared->Prop}
theorem bZ{b:Bool}{Q:Value->Shared->Prop}(I:Inv X pins σ H s)(e:H a=some (.ins C dx fs))(c:Cls X.K C)(n:NoAttr X.K C f)(l:fs.lookup f=some v)(h:∀u s',Inv X pins σ H s'->RelV v u->Q u s'):wpAny (model X.prog X.w) A (getAttr (.ref a) f b) Q E s:=by
 obtain⟨mA,O,r,_,_,_⟩:=g0 I.hok e
 obtain⟨u,hu,ru⟩:=RelO.some_of (v:=v) (o:=mA f) (by rw[<-l];exact r f)
 exact zDZ I.kIn O (c.get f) c.hd n hu (Z9 ru) (h u _ (I.tok _) ru)
theorem bY{m:Str}{g:Addr}{pl:Sem Bool}{Q:Value×List Value->Shared->Prop}(I:Inv X pins σ H s)(e:H a=some (.ins C dx fs))(c:Cls X.K C)(k:Meth X.K C m g)(l:fs.lookup m=none)(h:Q (.ref g,[.ref a]) s):wpAny (model X.prog X.w) A (getMethod (.ref a) m pl) Q E s:=by
 obtain⟨mA,O,r,_,_,_⟩:=g0 I.hok e
 have hn:mA m=none:=RelO.none_of (by rw[<-l];exact r m)
 exact JL I.kIn O (c.get m) k.at_ k.fn hn h
theorem bR{y:V}{u:Value}{Q:Unit->Shared->Prop}(I:Inv X pins σ H s)(e:H a=some (.ins C dx fs))(c:Cls X.K C)(n:NoAttr X.K C f)(hl:fs.length<1000)(ry:RelV y u)(h:∀s',Inv X pins σ (upd H a (.ins C dx (rX f y fs))) s'->Q () s'):wpAny (model X.prog X.w) A (setAttr (.ref a) f u) Q E s:=by
 obtain⟨mA,O,r,wi,_,ho⟩:=g0 I.hok e
 have hz:(fs.map (·.1)).length<=sizeLine:=by rw[ay,sizeLine_eq];omega
 refine zBU I.kIn O c.sa c.po n.taker c.hd wi hz fun h' O' sb=>h _ ?_
 have hd:∃o,h'.get? dx=some o:=let ⟨o,_,_,e',_⟩:=O'.ns;⟨o,e'⟩
 refine I.write (x:=a) (e:=dx) (by rw[e];exact True.intro) (.inr ho) (fun b q hb z=>(sb.2 b hb).trans z) hd ?_
 refine⟨by rw[zI O.ne];exact ho,?_,O.ne,O'.obj,_,O'.ns,fun g=>?_,fun g hg=>?_⟩
 ·have:=v5 f y fs;omega
 ·show RelO ((rX f y fs).lookup g) (if g=f then some u else mA g)
  rw[vY]
  by_cases q:g=f
  ·rw[if_pos q,if_pos q];exact ry
  ·rw[if_neg q,if_neg q];exact r g
 ·by_cases q:g=f
  ·rw[q];exact(u3 f y fs).1
  ·refine(u3 f y fs).2 g (wi g fun z=>hg ?_)
   show(if g=f then some u else mA g)=none
   rw[if_neg q];exact z
theorem Inv.made(I:Inv X pins σ H s):Inv X pins σ (upd (upd H s.heap.objs.size (.own (s.heap.objs.size+1))) (s.heap.objs.size+1) (.ins C s.heap.objs.size []))
  { s with heap:=(s.heap.push PySem.W.emptyDict).push (PySem.W.instObj C s.heap.objs.size) }:=by
 have e1:(s.heap.push PySem.W.emptyDict).get? s.heap.objs.size=some PySem.W.emptyDict:=ah s.heap rfl
 have e2:((s.heap.push PySem.W.emptyDict).push (PySem.W.instObj C s.heap.objs.size)).get? (s.heap.objs.size+1)=some (PySem.W.instObj C s.heap.objs.size):=by
  have:=ah (s.heap.push PySem.W.emptyDict) (o:=PySem.W.instObj C s.heap.objs.size) rfl
  rwa [Heap.size_push] at this
 have e3:(s.heap.push PySem.W.emptyDict).Ns s.heap.objs.size (fun _=>none):=⟨PySem.W.emptyDict,#[],_,e1,rfl,(fun e he=>absurd he (by simp)),fun _=>rfl⟩
 have I1:=I.laid (a:=s.heap.objs.size) (o:=.own (s.heap.objs.size+1)) (h':=s.heap.push PySem.W.emptyDict) (t':=s.toks) (fun b u q=>ad _ q) (al _) ⟨_,e1⟩
 refine I1.laid (a:=s.heap.objs.size+1) (o:=.ins C s.heap.objs.size []) (t':=s.toks) (fun b u q=>ad _ q) (Nat.le_of_eq (Heap.size_push _ _)) ?_
 have ne:s.heap.objs.size≠s.heap.objs.size+1:=ar (Nat.lt_succ_self _)
 refine⟨by rw[zI ne,zK],Nat.zero_le _,ne,e2,fun _=>none,(Heap.Ns1.of_empty e3).at fun o q=>ad _ q,fun _=>True.intro,fun y hy=>absurd rfl hy⟩
theorem zE2{prog:Program}{w:World}{env:Env}{e:Expr}{f:Str}{pos:Pos}{s:Shared}{Q:Value->Shared->Prop}(hb:attributeBase e f env (eval e env)=eval e env)(h:wpAny (model prog w) A (eval e env) (fun o s₁=>wpAny (model prog w) A (getAttr o f true) Q E s₁) E s):wpAny (model prog w) A (eval (.Attribute e f pos) env) Q E s:=
 Attribute_any_ h (by rw[arm_eval_Attribute,hb])
end
noncomputable def zL8(K:Fg)(ta:TE)(f:Str):TE:=fun σ H Q=>ta σ H fun x H1=>∃a C dx fs v,x=.ref a/\H1 a=some (.ins C dx fs)/\Cls K C/\NoAttr K C f/\fs.lookup f=some v/\Q v H1
noncomputable def zGJ(K:Fg)(ta tv:TE)(f:Str):TS:=fun D σ H=>tv σ H fun y H1=>ta σ H1 fun x H2=>∃a C dx fs,x=.ref a/\H2 a=some (.ins C dx fs)/\Cls K C/\NoAttr K C f/\fs.length<1000 /\
 D.nx σ (upd H2 a (.ins C dx (rX f y fs)))
noncomputable def zMU(X:Cx)(op:Operator)(rd:V->V->Hp->VK->Prop):Prop:=
 ∀(pins:List (Addr×Obj)) (s:Shared) (σ:St) (H:Hp) (x y:V) (u v:Value) (Q:VK),Inv X pins σ H s->RelV x u->RelV y v->rd x y H Q->wpAny (model X.prog X.w) X.A (inplaceOp op u v) (EP X pins σ Q) X.xe s
noncomputable def zBY(K:Fg)(ta tv:TE)(rd:V->V->Hp->VK->Prop)(f:Str):TS:=fun D σ H=>ta σ H fun x H1=>∃a C dx fs v,x=.ref a/\H1 a=some (.ins C dx fs)/\Cls K C/\NoAttr K C f/\fs.lookup f=some v /\
 tv σ H1 fun y H2=>rd v y H2 fun z H3=>∃dx' fs',H3 a=some (.ins C dx' fs')/\fs'.length<1000/\D.nx σ (upd H3 a (.ins C dx' (rX f z fs')))
section
variable{X:Cx}{o e value:Expr}{f:Str}{pos pos' tpos:Pos}{ta tv:TE}
theorem uO(he:PE X e ta)(hb:attributeBase e f X.env (eval e X.env)=eval e X.env):PE X (.Attribute e f pos) (zL8 X.K ta f):=by
 intro pins s σ H Q I h
 refine zE2 hb (thn (he pins s σ H _ I h) fun u s1 ⟨x,H1,I1,rx,a,C,dx,fs,v,ex,ea,c,n,l,q⟩=>?_)
 subst ex
 obtain rfl:u=Value.ref a:=rx
 exact bZ I1 ea c n l fun u' s2 I2 ru=>⟨v,H1,I2,ru,q⟩
theorem cJ(ha:PE X o ta)(hv:PE X value tv)(hs:swapsWith value (some (.Attribute o f pos')) pos.line X.env=pure false):PS X (.Assign [.Attribute o f pos'] value pos) (zGJ X.K ta tv f):=by
 intro pins s σ H D I h
 refine plainObj_wpAny_Assign_Attribute (thn (hv pins s σ H _ I h) fun u s1 ⟨y,H1,I1,ry,q⟩=>thn (ha pins s1 σ H1 _ I1 q) fun ov s2 ⟨x,H2,I2,rx,a,C,dx,fs,ex,ea,c,n,l,q2⟩=>?_) hs
 subst ex
 obtain rfl:ov=Value.ref a:=rx
 exact bR I2 ea c n l ry fun s3 I3=>⟨σ,_,I3,q2⟩
theorem ZB{op:Operator}{rd:V->V->Hp->VK->Prop}(ha:PE X o ta)(hv:PE X value tv)(hop:zMU X op rd):PS X (.AugAssign (.Attribute o f tpos) op value pos) (zBY X.K ta tv rd f):=by
 intro pins s σ H D I h
 refine wpAny_AugAssign_AttributeAny (thn (ha pins s σ H _ I h) fun ov s1 ⟨x,H1,I1,rx,a,C,dx,fs,v,ex,ea,c,n,l,q⟩=>?_)
 subst ex
 obtain rfl:ov=Value.ref a:=rx
 refine bZ I1 ea c n l fun u s2 I2 ru=>thn (hv pins s2 σ H1 _ I2 q) fun w3 s3 ⟨y,H2,I3,ry,q3⟩=>thn (hop pins s3 σ H2 v y u w3 _ I3 ru ry q3) fun w4 s4 ⟨z,H3,I4,rz,dx',fs',ea',l',q4⟩=>?_
 exact bR I4 ea' c n l' rz fun s5 I5=>⟨σ,_,I5,q4⟩
noncomputable def zNC:V->V->Hp->VK->Prop:=fun x y H Q=>∃i j,x=.int i/\y=.int j/\Q (.int (i+j)) H
theorem zH4:zMU X .Add zNC:=by
 rintro pins s σ H x y u v Q I rx ry ⟨i,j,rfl,rfl,q⟩
 obtain⟨t,rfl⟩:=(show ∃t,u=Value.int i t from rx)
 obtain⟨t',rfl⟩:=(show ∃t',v=Value.int j t' from ry)
 exact PyProof.Rows.iadd_int ⟨.int (i+j),H,I.tok _,⟨_,rfl⟩,q⟩
end
section
variable{X:Cx}{pins:List (Addr×Obj)}{σ:St}{H:Hp}{s:Shared}{A:Around}{E:Value->Shared->Prop}{Q:Value->Shared->Prop}{c:Value}{b:Bool}
inductive TyOf (K:Fg) (H:Hp):V->Value->Prop where
 |non:TyOf K H .non (.type "NoneType")
 |bl (x:Bool):TyOf K H (.bl x) (.type "bool")
 |int (i:Int):TyOf K H (.int i) (.type "int")
 |str (x:Str):TyOf K H (.str x) (.type "str")
 |flt (x:UInt64):TyOf K H (.flt x) (.type "float")
 |lst {a:Addr} {xs:List V} (e:H a=some (.lst xs)):TyOf K H (.ref a) (.type "list")
 |frz {a:Addr} {o:Obj} {xs:List V} (e:H a=some (.frz o (.lst xs))):TyOf K H (.ref a) (.type "list")
 |tup {a:Addr} {xs:List V} (e:H a=some (.tup xs)):TyOf K H (.ref a) (.type "tuple")
 |dK {a:Addr} {kvs:List (Key×V)} (e:H a=some (.dK kvs)):TyOf K H (.ref a) (.type "dict")
 |dT {a:Addr} {kvs:List (List Key×V)} (e:H a=some (.dT kvs)):TyOf K H (.ref a) (.type "dict")
 |ins {a C dx:Addr} {fs:List (Str×V)} (e:H a=some (.ins C dx fs)) (cl:Cls K C) (ha:PySem.W.findIn K (.ref C) "__class__" = some (some (.builtin "object.__class__")))
   (hn:PySem.W.specialIn K (.builtin "object.__class__") "__get__" = some (some (.builtin "getset_descriptor.__get__"))) (htk:PySem.W.takesIn K (.builtin "object.__class__")=some true)
   (hm:PySem.W.mroIn K C (.type "object")=some true):TyOf K H (.ref a) (.ref C)
theorem kR{x:V}{u t:Value}(I:Inv X pins σ H s)(rx:RelV x u)(ty:TyOf X.K H x t)(e:PySem.W.kitOne X.K t c=some b)(h:∀tk,Q (.bool b) { s with toks:=tk }):wpAny (model X.prog X.w) A (call (.builtin "isinstance") [u,c]) Q E s:=by
 cases ty with
 |non=>cases (show u=Value.none from rx);exact PySem.W.kia_one PySem.W.kitx_none I.kIn True.intro e (fun z=>nomatch z) h
 |bl y=>cases (show u=Value.bool y from rx);exact PySem.W.kia_one PySem.W.kitx_bool I.kIn True.intro e (fun z=>nomatch z) h
 |int i=>obtain⟨t,q⟩:=(show ∃t,u=Value.int i t from rx);cases q;exact PySem.W.kia_one PySem.W.kitx_int I.kIn True.intro e (fun z=>nomatch z) h
 |str y=>obtain⟨t,q⟩:=(show ∃t,u=Value.str y t from rx);cases q;exact PySem.W.kia_one PySem.W.kitx_str I.kIn True.intro e (fun z=>nomatch z) h
 |flt y=>obtain⟨t,q⟩:=(show ∃t,u=Value.float y t from rx);cases q;exact PySem.W.kia_one PySem.W.kitx_float I.kIn True.intro e (fun z=>nomatch z) h
 |@lst a xs ea=>
  cases (show u=Value.ref a from rx)
  obtain⟨_,_,n,_,h1⟩:=(show ObjOk X.prog X.w H s.heap a (.lst xs) from I.hok a _ ea)
  exact PySem.W.kia_one PySem.W.kitx_list I.kIn ⟨_,h1,rfl⟩ e (fun z=>nomatch z) h
 |@frz a ob xs ea=>
  cases (show u=Value.ref a from rx)
  obtain⟨_,_,_,n,_,h1⟩:=(show ObjOk X.prog X.w H s.heap a (.frz ob (.lst xs)) from I.hok a _ ea)
  exact PySem.W.kia_one PySem.W.kitx_list I.kIn ⟨_,h1,rfl⟩ e (fun z=>nomatch z) h
 |@tup a xs ea=>
  cases (show u=Value.ref a from rx)
  obtain⟨_,_,_,p⟩:=(show ObjOk X.prog X.w H s.heap a (.tup xs) from I.hok a _ ea)
  obtain⟨o,h1,h2,_⟩:=p
  exact PySem.W.kia_one PySem.W.kitx_tuple I.kIn ⟨o,h1,h2⟩ e (fun z=>nomatch z) h
 |@dK a kvs ea=>
  cases (show u=Value.ref a from rx)
  obtain⟨_,_,vs,_,p⟩:=(show ObjOk X.prog X.w H s.heap a (.dK kvs) from I.hok a _ ea)
  obtain⟨o,es,ep,h1,h2,_⟩:=p
  exact PySem.W.kia_one PySem.W.kitx_dict I.kIn ⟨o,h1,h2.1⟩ e (fun z=>nomatch z) h
 |@dT a kvs ea=>
  cases (show u=Value.ref a from rx)
  obtain⟨_,_,xs,_,o,es,ep,h1,h2,_⟩:=(show ObjOk X.prog X.w H s.heap a (.dT kvs) from I.hok a _ ea)
  exact PySem.W.kia_one PySem.W.kitx_dict I.kIn ⟨o,h1,h2.1⟩ e (fun z=>nomatch z) h
 |@ins a C dx fs ea cl ha hn htk hm=>
  cases (show u=Value.ref a from rx)
  obtain⟨mA,O,_⟩:=g0 I.hok ea
  obtain⟨od,J,_⟩:=O.look
  exact PySem.W.kia_one (PySem.W.kitx_own (cl.get _) cl.hd ha hn htk hm) I.kIn J e (fun z=>nomatch z) h
end
end L2
namespace L2
open PySem PySem.Spec PyProof.Rows
structure Room(k:Nat)(A:Around):Prop where
 hd:A.handled=none
 dp:A.depth+3*k+5<recursionLimit
 un:A.units+16*k+200<cLine
 gd:A.guards=some []
theorem Room.mono{j k:Nat}{A:Around}(r:Room k A)(h:j<=k):Room j A:=⟨r.hd,by have:=r.dp;omega,by have:=r.un;omega,r.gd⟩
theorem Room.deeper{k:Nat}{A:Around}(r:Room (k+1) A)(env:Env):Room k (A.deeper env):=
 ⟨r.hd,by have:=r.dp;show A.depth+1+3*k+5<_;omega,by have:=r.un;show A.units+3+16*k+200<_;omega,r.gd⟩
theorem nP{A:Around}{C:Addr}{us:List Value}{kw:List (Str×Value)}:(A.under (.builtin "type.__call__" ⟨.ref C::us,kw⟩)).depth=A.depth+1:=by
 first|rfl|simp[Around.under,Code.weight,Code.isCreation,Code.isGuard,Code.isCaller,Code.frames,Code.isFrame,guardIds]
theorem nO{A:Around}{C:Addr}{us:List Value}{kw:List (Str×Value)}:(A.under (.builtin "type.__call__" ⟨.ref C::us,kw⟩)).units=A.units+1:=by
 first|rfl|simp[Around.under,Code.cUnits,Code.frames,Code.isFrame]
theorem Room.make{k:Nat}{A:Around}(r:Room (k+1) A)(C:Addr)(us:List Value)(kw:List (Str×Value)):Room k (A.under (.builtin "type.__call__" ⟨.ref C::us,kw⟩)):=
 ⟨r.hd,by have:=r.dp;rw[nP];omega,by have:=r.un;rw[nO];omega,by first|exact r.gd|(show PySem.pushGuards _ A.guards=_;rw[r.gd];rfl)⟩
theorem Room.depth{k:Nat}{A:Around}(r:Room k A):A.depth<recursionLimit:=by have:=r.dp;omega
theorem Room.units0{k:Nat}{A:Around}(r:Room k A):A.units<cLine:=by have:=r.un;omega
noncomputable def zAP:TA:=fun _ H Q=>Q [] H
noncomputable def cR(ta:TE)(tr:TA):TA:=fun σ H Q=>ta σ H fun x H1=>tr σ H1 fun xs H2=>Q (x::xs) H2
section
variable{X:Cx}{e:Expr}{es:List Expr}{te:TE}{t:TA}{pos:Pos}
theorem y0:PA X [] zAP:=fun _ _ _ _ H Q I h=>Calls.spliced_nil ⟨[],H,I,.nil,h⟩
theorem zX(ha:PE X e te)(hr:PA X es t)(hs:starEach (e::es) X.env=(false,eval e X.env)::starEach es X.env:=by rfl):PA X (e::es) (cR te t):=by
 intro pos pins s σ H Q I h
 rw[hs]
 show wpAny _ _ (spliced ((false,eval e X.env)::backTo pos (starEach es X.env))) _ _ s
 refine Calls.spliced_cons (thn (ha pins s σ H _ I h) fun u s1 ⟨x,H1,I1,r1,q1⟩=>?_)
 exact thn (hr pos pins s1 σ H1 _ I1 q1) fun us s2 ⟨xs,H2,I2,r2,q2⟩=>⟨x::xs,H2,I2,.cons r1 r2,q2⟩
noncomputable def zM1(t:TA):TE:=fun σ H Q=>t σ H fun xs H1=>xs.length<=sizeLine/\∀p,H1 p=none->Q (.ref p) (upd H1 p (.tup xs))
noncomputable def zLS(t:TA):TE:=fun σ H Q=>t σ H fun xs H1=>xs.length<=sizeLine/\∀p,H1 p=none->Q (.ref p) (upd H1 p (.lst xs))
theorem zCM{x1}(h:PA X es t):PE X (.Tuple es x1 pos) (zM1 t):=by
 intro pins s σ H Q I hq
 refine wpAny_Tuple_spliced (thn (h pos pins s σ H _ I hq) fun us s1 ⟨xs,H1,I1,r,z,q⟩=>⟨by rw[<-r.length];exact z,?_⟩)
 have hf:H1 s1.heap.objs.size=none:=I1.hok.fresh (al _)
 refine⟨.ref s1.heap.objs.size,upd H1 s1.heap.objs.size (.tup xs),I1.laid (t':=s1.toks) (fun b u e=>ad _ e) (al _) ?_,rfl,q _ hf⟩
 exact⟨z,us,r,⟨_,ah _ rfl,rfl,_,rfl⟩⟩
theorem QP(h:PA X es t):PE X (.List es pos) (zLS t):=by
 intro pins s σ H Q I hq
 refine wpAny_List_spliced (thn (h pos pins s σ H _ I hq) fun us s1 ⟨xs,H1,I1,r,z,q⟩=>⟨by rw[<-r.length];exact z,?_⟩)
 have hf:H1 s1.heap.objs.size=none:=I1.hok.fresh (al _)
 refine⟨.ref s1.heap.objs.size,upd H1 s1.heap.objs.size (.lst xs),I1.laid (t':=s1.toks) (fun b u e=>ad _ e) (al _) ?_,rfl,q _ hf⟩
 exact⟨z,us,0,r,ah _ rfl⟩
end
noncomputable abbrev Sp:=List V->Hp->VK->XK->Prop
noncomputable abbrev CXT:=List Env->Hp->Shared->XK->Value->Shared->Prop
structure Env0(P:Program)(w:World)(K:Fg)(mg:Str->Option Value)(base:Heap)(A:Around)(outer:List Env)(s:Shared)(H:Hp):Prop where
 frames:A.frames=some outer
 mod:Mod K mg base
 bs:∀b o,base.get? b=some o->s.heap.get? b=some o/\H b=none
 bsz:base.objs.size<=s.heap.objs.size
 funs:s.heap.FunFrames base outer
 frf:FrF K outer H
 hok:HOk P w H s.heap
 bare:AllBare s.gens
noncomputable def CE(outer:List Env)(P:Program)(w:World)(H:Hp)(s:Shared)(Q:VK)(u:Value)(s':Shared):Prop:=
 ∃v H',s'.os=s.os/\AllBare s'.gens/\Un (frs outer) [] H H' s.heap s'.heap/\HOk P w H' s'.heap/\RelV v u/\Q v H'
noncomputable def CR(CX:CXT)(outer:List Env)(P:Program)(w:World)(H:Hp)(s:Shared)(Q:VK)(E:XK)(r:Result)(s':Shared):Prop:=
 match r with
 |.ok (.ret u)=>CE outer P w H s Q u s'
 |.ok _=>False
 |.error e=>CX outer H s E e s'
structure FnOk(P:Program)(w:World)(K:Fg)(mg:Str->Option Value)(base:Heap)(CX:CXT)(k:Nat)(f:Addr)(fd:FuncData)(ps:List Str)(sp:Sp):Prop where
 len:∀vs H Q E,sp vs H Q E->vs.length=ps.length
 run:∀(A:Around) (outer:List Env) (s:Shared) (H:Hp) (args:Args) (us:List Value) (vs:List V) (Q:VK) (E:XK),Room k A->Env0 P w K mg base A outer s H->BindsTo s fd args (ps.zip us)->Vals vs us->sp vs H Q E ->
  codeAny (model P w) A (.call (.ref f) args) (CR CX outer P w H s Q E) s
theorem FnOk.imp{P:Program}{w:World}{K:Fg}{mg:Str->Option Value}{base:Heap}{CX:CXT}{k:Nat}{f:Addr}{fd:FuncData}{ps:List Str}{sp sp':Sp}(F:FnOk P w K mg base CX k f fd ps sp)(h:∀vs H Q E,sp' vs H Q E->sp vs H Q E):FnOk P w K mg base CX k f fd ps sp':=
 ⟨fun vs H Q E q=>F.len vs H Q E (h _ _ _ _ q),fun A outer s H args us vs Q E hr he hb hv hs=>F.run A outer s H args us vs Q E hr he hb hv (h _ _ _ _ hs)⟩
theorem Env0.make{P:Program}{w:World}{K:Fg}{mg:Str->Option Value}{base:Heap}{A:Around}{outer:List Env}{s:Shared}{H:Hp}(e:Env0 P w K mg base A outer s H)(C:Addr)(us:List Value)(kw:List (Str×Value)):Env0 P w K mg base (A.under (.builtin "type.__call__" ⟨.ref C::us,kw⟩)) outer s H:=⟨by first|exact e.frames|(simpa [Around.under,Code.envs,Code.isFrame,pushEnvs] using e.frames),e.mod,e.bs,e.bsz,e.funs,e.frf,e.hok,e.bare⟩
section
variable{X:Cx}{pins:List (Addr×Obj)}{σ:St}{H:Hp}{s s':Shared}
theorem Inv.env0(I:Inv X pins σ H s):Env0 X.prog X.w X.K X.mg X.base X.A X.stack s H:=
 ⟨I.ok.frames,I.ok.mod,I.bs,Nat.le_trans I.ok.bsz I.sz,I.stack,⟨I.stkFree,I.tabIn⟩,I.hok,I.bare⟩
theorem Inv.after{Q:VK}{u:Value}(I:Inv X pins σ H s)(h:CE X.stack X.prog X.w H s Q u s'):EP X pins σ Q u s':=by
 obtain⟨v,H',os,bare,un,hok,r,q⟩:=h
 obtain⟨hh,g,d,t,os'⟩:=s'
 obtain rfl:os'=s.os:=os
 exact⟨v,H',I.call (h':=hh) (g':=g) (d':=d) (t':=t) (ch:=[]) un hok bare (fun b z=>absurd z (by simp)),r,q⟩
end
noncomputable def zFI(sp:Sp)(dvs:List V)(E:XK)(t:TA):TE:=fun σ H Q=>t σ H fun vs H1=>sp (vs++dvs) H1 Q E
noncomputable def zIU(C:Addr)(m:Str)(sp:Sp)(dvs:List V)(E:XK)(ta:TE)(t:TA):TE:=fun σ H Q=>ta σ H fun x H1=>∃a dx fs,x=.ref a/\H1 a=some (.ins C dx fs)/\fs.lookup m=none /\
 t σ H1 fun vs H2=>sp (x::(vs++dvs)) H2 Q E
noncomputable def zKF(C:Addr)(sp:Sp)(dvs:List V)(E:XK)(t:TA):TE:=fun σ H Q=>t σ H fun vs H1=>∀x dx,H1 x=none->H1 dx=none->dx≠x ->
 sp (.ref x::(vs++dvs)) (upd (upd H1 dx (.own x)) x (.ins C dx [])) (fun v H2=>v=.non/\Q (.ref x) H2) E
noncomputable def Binds(K:Fg)(fd:FuncData)(ps:List Str)(ds:List Value):Prop:=
 ∀(s:Shared) (us:List Value),K.In s.heap->(us++ds).length=ps.length->BindsTo s fd ⟨us,[]⟩ (ps.zip (us++ds))
theorem Binds.all{K:Fg}{fd:FuncData}{ps:List Str}(h:∀us:List Value,us.length=ps.length->bindArgs fd ⟨us,[]⟩=pure (ps.zip us)):Binds K fd ps []:=fun s us _ hl=>by
 rw[List.append_nil] at hl ⊢
 exact .of_eq (h us hl)
noncomputable def bE(CX:CXT)(X:Cx)(E:XK):Prop:=∀(pins:List (Addr×Obj)) (σ:St) (H:Hp) (s:Shared) (e:Value) (s':Shared),Inv X pins σ H s->CX X.stack H s E e s'->X.xe e s'
section
variable{X:Cx}{CX:CXT}{k:Nat}{f C:Addr}{fd:FuncData}{ps:List Str}{sp:Sp}{dvs:List V}{ds:List Value}{E:XK}{x m:Str}{p pos apos:Pos}{e o:Expr}{es:List Expr}{ta:TE}{t:TA}
theorem nC{pins:List (Addr×Obj)}{σ:St}{H:Hp}{s:Shared}{Q:VK}{us:List Value}{vs:List V}(F:FnOk X.prog X.w X.K X.mg X.base CX k f fd ps sp)(hr:Room k X.A)(hb:Binds X.K fd ps ds)(hd:Vals dvs ds)(hx:bE CX X E)(I:Inv X pins σ H s)(r:Vals vs us)(h:sp (vs++dvs) H Q E):wpAny (model X.prog X.w) X.A (call (.ref f) us) (EP X pins σ Q) X.xe s:=by
 have r2:Vals (vs++dvs) (us++ds):=r.append hd
 have hl:(us++ds).length=ps.length:=by rw[<-r2.length];exact F.len _ _ _ _ h
 refine wpAny_call (codeAny_mono (F.run X.A X.stack s H ⟨us,[]⟩ (us++ds) (vs++dvs) Q E hr I.env0 (hb s us I.kIn hl) r2 h) fun r s' hq=>?_)
 cases r with
 |error e=>exact hx pins σ H s e s' I hq
 |ok fl=>
  cases fl with
  |ret u=>exact I.after hq
  |next=>exact False.elim hq
  |brk=>exact False.elim hq
  |cont=>exact False.elim hq
theorem vV(F:FnOk X.prog X.w X.K X.mg X.base CX k f fd ps sp)(hr:Room k X.A)(hg:Gl X x)(hm:X.mg x=some (.ref f))(hk:PySem.W.keepIn X.K (.ref f)=true)(hb:Binds X.K fd ps ds)(hd:Vals dvs ds)(hx:bE CX X E)(ha:PA X (e::es) t)(hdb:(x == ("__debug__" : Str))=false:=by decide)(he:starEach (e::es) X.env=(false,eval e X.env)::starEach es X.env:=by rfl)(hpl:(backTo pos (starEach es X.env)).any (·.1)=false:=by rfl):PE X (.Call (.Name x p) (e::es) [] pos) (zFI sp dvs E t):=by
 intro pins s σ H Q I h
 refine wpAny_Call_Name_kw (gY I hg hm ?_ hdb)
 refine PySem.W.callWith_K (h₀:=X.base) I.ok.mod.kin hk (thn (ha pos pins s σ H _ I h) fun us s1 ⟨vs,H1,I1,r,q⟩=>⟨I1.kIn,?_⟩) he hpl
 exact nC F hr hb hd hx I1 r q
theorem zCP{pl:Sem Bool}(he:PE X o ta)(c:Cls X.K C)(hm:Meth X.K C m f)(F:FnOk X.prog X.w X.K X.mg X.base CX k f fd ps sp)(hr:Room k X.A)(hb:Binds X.K fd ps ds)(hd:Vals dvs ds)(hx:bE CX X E)(ha:PA X (e::es) t)(hst:starEach (e::es) X.env=(false,eval e X.env)::starEach es X.env:=by rfl)(hpl:(backTo pos (starEach es X.env)).any (·.1)=false:=by rfl)(ht:eval (.Call (.Attribute o m apos) (e::es) [] pos) X.env=(do
   let ov <- eval o X.env
   standAt apos.atName
   let (f,first) <- holding [ov] (getMethod ov m pl)
   callWith pos f first (backTo pos (starEach (e::es) X.env)) (backToKw pos (keywordEach [] X.env))):=by rfl):PE X (.Call (.Attribute o m apos) (e::es) [] pos) (zIU C m sp dvs E ta t):=by
 intro pins s σ H Q I h
 refine PySem.W.methodCall_KW (pl:=pl) (thn (he pins s σ H _ I h) fun u s1 ⟨x,H1,I1,rx,a,dx,fs,ex,ea,l,q⟩=>?_) ht
 subst ex
 obtain rfl:u=Value.ref a:=rx
 refine bY I1 ea c hm l ?_
 refine PySem.W.callWith_K (first:=[.ref a]) (h₀:=X.base) I.ok.mod.kin hm.kp (thn (ha pos pins s1 σ H1 _ I1 q) fun us s2 ⟨vs,H2,I2,r,q2⟩=>⟨I2.kIn,?_⟩) hst hpl
 exact nC (us:=.ref a::us) (vs:=.ref a::vs) F hr hb hd hx I2 (.cons rfl r) q2
theorem QO{pl:Sem Bool}(he:PE X o ta)(c:Cls X.K C)(hm:Meth X.K C m f)(F:FnOk X.prog X.w X.K X.mg X.base CX k f fd ps sp)(hr:Room k X.A)(hb:Binds X.K fd ps ds)(hd:Vals dvs ds)(hx:bE CX X E)(ht:eval (.Call (.Attribute o m apos) [] [] pos) X.env=(do
   let ov <- eval o X.env
   standAt apos.atName
   let (f,first) <- holding [ov] (getMethod ov m pl)
   callWith pos f first (backTo pos (starEach [] X.env)) (backToKw pos (keywordEach [] X.env))):=by rfl):PE X (.Call (.Attribute o m apos) [] [] pos) (zIU C m sp dvs E ta zAP):=by
 intro pins s σ H Q I h
 refine PySem.W.methodCall_KW (pl:=pl) (thn (he pins s σ H _ I h) fun u s1 ⟨x,H1,I1,rx,a,dx,fs,ex,ea,l,q⟩=>?_) ht
 subst ex
 obtain rfl:u=Value.ref a:=rx
 refine bY I1 ea c hm l ?_
 exact PySem.W.callWith_K0 (first:=[.ref a]) I1.kIn hm.kp (nC (us:=[.ref a]) (vs:=[.ref a]) F hr hb hd hx I1 (.cons rfl .nil) q)
structure Mk(K:Fg)(C f:Addr):Prop where
 makes:PySem.W.makesIn K C=true
 init:PySem.W.findIn K (.ref C) "__init__" = some (some (.ref f))
 fn:PySem.W.isFn K (.ref f)=true
 kp:PySem.W.keepIn K (.ref C)=true
theorem QC{pins:List (Addr×Obj)}{σ:St}{H:Hp}{s:Shared}{Q:VK}{us:List Value}{vs:List V}(M:Mk X.K C f)(F:FnOk X.prog X.w X.K X.mg X.base CX k f fd ps sp)(hr:Room (k+1) X.A)(hb:Binds X.K fd ps ds)(hd:Vals dvs ds)(hx:bE CX X E)(I:Inv X pins σ H s)(r:Vals vs us)(h:∀x dx,H x=none->H dx=none->dx≠x->sp (.ref x::(vs++dvs)) (upd (upd H dx (.own x)) x (.ins C dx [])) (fun v H2=>v=.non/\Q (.ref x) H2) E):wpAny (model X.prog X.w) X.A (call (.ref C) us) (EP X pins σ Q) X.xe s:=by
 have hq:=h (s.heap.objs.size+1) s.heap.objs.size (I.hok.fresh (Nat.le_succ _)) (I.hok.fresh (al _)) (ar (Nat.lt_succ_self _))
 have I2:=Inv.made (C:=C) I
 have r2:Vals (V.ref (s.heap.objs.size+1)::(vs++dvs)) (Value.ref (s.heap.objs.size+1)::(us++ds)):=.cons rfl (r.append hd)
 have hl:(Value.ref (s.heap.objs.size+1)::us++ds).length=ps.length:=by
  have e:=r2.length
  rw[F.len _ _ _ _ hq] at e
  exact e.symm
 refine wpAny_call (Q9 (f:=f) I.kIn M.makes M.init (beq_iff_eq.mp M.fn) (codeAny_mono (F.run _ X.stack _ _ ⟨Value.ref (s.heap.objs.size+1)::us,[]⟩ (Value.ref (s.heap.objs.size+1)::(us++ds)) _ _ E (hr.make C us [])
  (I2.env0.make C us []) (hb _ (Value.ref (s.heap.objs.size+1)::us) I2.kIn hl) r2 hq) fun r s' hq'=>?_))
 cases r with
 |error e=>exact hx pins σ _ _ e s' I2 hq'
 |ok fl=>
  cases fl with
  |ret u=>
   obtain⟨v,H',I3,rv,ev,q3⟩:=I2.after hq'
   subst ev
   exact⟨rv,⟨V.ref (s.heap.objs.size+1),H',I3,rfl,q3⟩⟩
  |next=>exact False.elim hq'
  |brk=>exact False.elim hq'
  |cont=>exact False.elim hq'
theorem zCQ(M:Mk X.K C f)(F:FnOk X.prog X.w X.K X.mg X.base CX k f fd ps sp)(hr:Room (k+1) X.A)(hg:Gl X x)(hm:X.mg x=some (.ref C))(hb:Binds X.K fd ps ds)(hd:Vals dvs ds)(hx:bE CX X E)(ha:PA X (e::es) t)(hdb:(x == ("__debug__" : Str))=false:=by decide)(he:starEach (e::es) X.env=(false,eval e X.env)::starEach es X.env:=by rfl)(hpl:(backTo pos (starEach es X.env)).any (·.1)=false:=by rfl):PE X (.Call (.Name x p) (e::es) [] pos) (zKF C sp dvs E t):=by
 intro pins s σ H Q I h
 refine wpAny_Call_Name_kw (gY I hg hm ?_ hdb)
 refine PySem.W.callWith_K (h₀:=X.base) I.ok.mod.kin M.kp (thn (ha pos pins s σ H _ I h) fun us s1 ⟨vs,H1,I1,r,q⟩=>⟨I1.kIn,?_⟩) he hpl
 exact QC M F hr hb hd hx I1 r q
end
section
variable{X:Cx}{CX:CXT}{k:Nat}{f C:Addr}{fd:FuncData}{ps ks:List Str}{sp:Sp}{E:XK}{x m:Str}{p pos apos kpos:Pos}{e o:Expr}{es:List Expr}{kws:List Keyword}{te ta:TE}{t tk:TA}{nm:Option Str}
variable{g:List Value->List Value->List Value}{gV:List V->List V->List V}
end
structure FnScope(N P:List Str)(sc:Scope):Prop where
 kind:sc.kind=.function
 co:sc.isCoroutine=false
 gen:sc.isGenerator=false
 nd:N.Nodup
 pre:N.take P.length=P
 par:∀x∈P,sc.names.lookup x=some .local\/sc.names.lookup x=some .cell
 nofree:∀y∈sc.names,y.2≠.free
theorem mG{kindOf:Str->Option NameKind}{x:Str}:∀{binds:List (Str×Value)} {m:Str->Option Value},(∀v,(x,v)∉binds)->bindL kindOf binds m x=m x
 |[],_,_=>rfl
 |(n,v)::r,m,h=>by
  unfold bindL
  rw[mG fun w hw=>h w (List.mem_cons_of_mem _ hw)]
  split
  ·have:x≠n:=by rintro rfl;exact h v List.mem_cons_self
   simp[this]
  ·rfl
theorem mI{kindOf:Str->Option NameKind}{x:Str}:∀{binds:List (Str×Value)} {m:Str->Option Value},(∀v,(x,v)∉binds)->bindC kindOf binds m x=m x
 |[],_,_=>rfl
 |(n,v)::r,m,h=>by
  unfold bindC
  rw[mI fun w hw=>h w (List.mem_cons_of_mem _ hw)]
  split
  ·rfl
  ·have:x≠n:=by rintro rfl;exact h v List.mem_cons_self
   simp[this]
theorem mH{kindOf:Str->Option NameKind}{x:Str}{v:Value}:∀{P:List Str} {vs:List Value} {i:Nat} {m:Str->Option Value},P.Nodup->P[i]?=some x->vs[i]?=some v->kindOf x=some .local ->
  bindL kindOf (P.zip vs) m x=some v
 |[],_,_,_,_,h,_,_=>by simp at h
 |_::_,[],_,_,_,_,h,_=>by simp at h
 |p::P,w::vs,0,m,nd,h1,h2,hk=>by
  simp at h1 h2;subst h1;subst h2
  show bindL kindOf ((p,w)::P.zip vs) m p=_
  unfold bindL
  rw[mG fun v hv=>(List.nodup_cons.mp nd).1 (List.of_mem_zip hv).1,if_pos hk]
  simp
 |p::P,w::vs,i+1,m,nd,h1,h2,hk=>by
  show bindL kindOf ((p,w)::P.zip vs) m x=_
  unfold bindL
  exact mH (i:=i) (List.nodup_cons.mp nd).2 (by simpa using h1) (by simpa using h2) hk
theorem mJ{kindOf:Str->Option NameKind}{x:Str}{v:Value}:∀{P:List Str} {vs:List Value} {i:Nat} {m:Str->Option Value},P.Nodup->P[i]?=some x->vs[i]?=some v->kindOf x≠some .local ->
  bindC kindOf (P.zip vs) m x=some v
 |[],_,_,_,_,h,_,_=>by simp at h
 |_::_,[],_,_,_,_,h,_=>by simp at h
 |p::P,w::vs,0,m,nd,h1,h2,hk=>by
  simp at h1 h2;subst h1;subst h2
  show bindC kindOf ((p,w)::P.zip vs) m p=_
  unfold bindC
  rw[mI fun v hv=>(List.nodup_cons.mp nd).1 (List.of_mem_zip hv).1,if_neg hk]
  simp
 |p::P,w::vs,i+1,m,nd,h1,h2,hk=>by
  show bindC kindOf ((p,w)::P.zip vs) m x=_
  unfold bindC
  exact mJ (i:=i) (List.nodup_cons.mp nd).2 (by simpa using h1) (by simpa using h2) hk
noncomputable def start(N:List Str)(vs:List V):St:=vs.map some++List.replicate (N.length-vs.length) none
noncomputable def zFE(CX:CXT)(P:Program)(w:World)(K:Fg)(mg:Str->Option Value)(base:Heap)(N:List Str)(qual:Str)(scope:Scope)(f:Addr)(cd:Value)(A:Around)(outer:List Env)(s:Shared)(H:Hp)(E:XK):Cx where
 prog:=P
 w:=w
 K:=K
 mg:=mg
 base:=base
 A:=A.deeper (envOfC qual scope s.heap.objs.size f cd)
 N:=N
 s₀:=s
 H₀:=H
 env:=envOfC qual scope s.heap.objs.size f cd
 outer:=outer
 stack:=envOfC qual scope s.heap.objs.size f cd::outer
 ex:=[]
 calm:=true
 fn:=fun _=>true
 pn:=[]
 xe:=fun e s'=>wpAny (model P w) (A.deeper (envOfC qual scope s.heap.objs.size f cd)) (leaving (envOfC qual scope s.heap.objs.size f cd) e) (fun _ s''=>CX outer H s E e s'') (fun e' s''=>CX outer H s E e' s'') s'
theorem rM{sc:Scope}{n:Nat}{x:Str}(h:sc.names.lookup x=some .cell):∃c,(cellsFrom n sc.names []).lookup x=some c:=by
 have q:=PySem.W.cellsFrom_some sc.names n [] (.inl h)
 exact Option.isSome_iff_exists.mp q
theorem Z7{CX:CXT}{P:Program}{w:World}{K:Fg}{mg:Str->Option Value}{base:Heap}{N ps:List Str}{qual:Str}{scope:Scope}{f:Addr}{cd:Value}{A:Around}{outer:List Env}{s s1:Shared}{H:Hp}{E:XK}{us:List Value}{vs:List V}(S:FnScope N ps scope)(hd:A.handled=none)(e0:Env0 P w K mg base A outer s H)(hl:vs.length=ps.length)(r:Vals vs us)(x:InCallC s s.heap.objs.size (bindL (envOfC qual scope s.heap.objs.size f cd).kindOf (ps.zip us) fun _=>none) (cellsFrom (s.heap.objs.size+1) scope.names []) (bindC (envOfC qual scope s.heap.objs.size f cd).kindOf (ps.zip us) fun _=>none) s1):Inv (zFE CX P w K mg base N qual scope f cd A outer s H E) [] (start N vs) H s1:=by
 have hpl:ps.length<=N.length:=by have:=congrArg List.length S.pre;rw[List.length_take] at this;omega
 obtain⟨h1,tk,rfl,hk⟩:=x.done
 have noA:∀b:Addr,b∉(zFE CX P w K mg base N qual scope f cd A outer s H E).ex:=fun b z=>absurd (show b∈([]:List Addr) from z) (by simp)
 refine⟨⟨e0.mod,S.kind,rfl,rfl,al _,fun y z c h1 h2=>?_,fun y hy=>?_,fun y c _ h=>?_,fun _=>hd,Around.frames_deeper e0.frames,.inr ⟨rfl,rfl⟩,fun b z=>absurd z (noA b),e0.bs,e0.bsz,fun b _ _=>noA b,fun b z=>absurd z (noA b),e0.funs,e0.frf⟩,
  rfl,e0.bare,Un.kept hk,⟨_,x.toInCall.ns,fun i y v h1 h2 h3=>?_⟩,fun y c h=>⟨_,x.cell y c h⟩,e0.hok.fresh (al _),fun y c h=>?_,fun p hp=>absurd (show p∈([]:List (Addr×Obj)) from hp) (by simp),e0.hok.kept hk,?_⟩
 ·exact name_of_addr x.apart (PySem.mem_of_lookup h1) (PySem.mem_of_lookup h2)
 ·have hy:scope.names.lookup y=some .cell\/scope.names.lookup y=some .free:=hy
  rcases hy with hy|hy
  ·exact rM hy
  ·exact absurd rfl (S.nofree _ (PySem.mem_of_lookup hy))
 ·exact Nat.le_of_lt (x.above y c (PySem.mem_of_lookup h))
 ·have hi:i<vs.length:=by
   unfold start at h2
   by_cases hi:i<vs.length
   ·exact hi
   ·rw[List.getElem?_append_right (by simpa using hi)] at h2
    rw[List.getElem?_replicate] at h2
    split at h2<;>cases h2
  have ha:vs[i]?=some v:=by
   unfold start at h2
   rw[ax (by simpa using hi),ba] at h2
   cases e:vs[i]? with
   |none=>rw[e] at h2;cases h2
   |some a=>rw[e] at h2;cases h2;rfl
  obtain⟨u,hu,rv⟩:=r.get ha
  have hp:ps[i]?=some y:=by
   rw[<-S.pre,List.getElem?_take_of_lt (by omega)];exact h1
  have ndP:ps.Nodup:=by rw[<-S.pre];exact S.nd.sublist (List.take_sublist _ _)
  refine⟨u,rv,?_⟩
  rcases S.par y (List.mem_of_getElem? hp) with k|k
  ·exact .inl ⟨k,mH ndP hp hu k⟩
  ·obtain⟨c,e⟩:=rM (n:=s.heap.objs.size+1) k
   refine .inr ⟨.inl k,c,e,?_⟩
   have q:=x.cell y c e
   rw[mJ ndP hp hu (by show scope.names.lookup y≠_;rw[k];decide)] at q
   exact q
 ·exact e0.hok.fresh (Nat.le_of_lt (x.above y c (PySem.mem_of_lookup h)))
 ·unfold start
  show _=N.length
  rw[List.length_append,ay,List.length_replicate]
  omega
theorem zJG{CX:CXT}{P:Program}{w:World}{K:Fg}{mg:Str->Option Value}{base:Heap}{k:Nat}{f:Addr}{name qual:Str}{params:Arguments}{body:List Stmt}{scope:Scope}{dV kV doc pm cdv ct oc:Value}{an od:Option Addr}{osl:Array (Option Value)}{N ps:List Str}{sp:Sp}(lk:K.lookup f=some ⟨oc,od,.func (PySem.W.fnOf name qual params body scope dV kV doc pm an cdv ct),osl⟩)(hcd:PySem.W.codeIn K cdv qual=true)(S:FnScope N ps scope)(len:∀vs H Q E,sp vs H Q E->vs.length=ps.length)(hbody:∀(A:Around) (outer:List Env) (s:Shared) (H:Hp) (vs:List V) (Q:VK) (E:XK),Room k (A.deeper (envOfC qual scope s.heap.objs.size f cdv))->sp vs H Q E ->
   ∃t,PSs (zFE CX P w K mg base N qual scope f cdv A outer s H E) body t/\t { nx:=fun _ H'=>Q .non H',rt:=Q } (start N vs) H):FnOk P w K mg base CX (k+1) f (PySem.W.fnOf name qual params body scope dV kV doc pm an cdv ct) ps sp:=by
 refine⟨len,fun A outer s H args us vs Q E hr e0 hb r hsp=>?_⟩
 have hl:=len _ _ _ _ hsp
 have KX:K.In s.heap:=e0.mod.kin.keeps fun b o e=>(e0.bs b o e).1
 have lim:s.heap.NoLimit:=e0.mod.nolimit.keeps fun b o e=>(e0.bs b o e).1
 have hkind:∀y∈ps.zip us,scope.names.lookup y.1=some .local\/(scope.names.lookup y.1=some .cell/\((cellsFrom (s.heap.objs.size+1) scope.names []).lookup y.1).isSome=true):=fun⟨n,v⟩ hy=>by
  rcases S.par n (List.of_mem_zip hy).1 with q|q
  ·exact .inl q
  ·exact .inr ⟨q,PySem.W.cellsFrom_some _ _ _ (.inl q)⟩
 refine codeAny_call_function hr.depth (KX _ _ lk) rfl S.co S.gen rfl (PySem.W.codeRec_of KX hcd) (hb _ _ _ _ ?_)
 refine wpAny_newFunctionEnv_cells S.kind hkind fun env he s1 x=>?_
 subst he
 refine⟨lim.keeps x.toInCall.keep,codeAny_func ?_⟩
 obtain⟨t,ht,hq⟩:=hbody A outer s H vs Q E (hr.deeper _) hsp
 have I:Inv (zFE CX P w K mg base N qual scope f cdv A outer s H E) [] (start N vs) H s1:=Z7 S hr.hd e0 hl r x
 refine wpAny_mono (ht [] s1 (start N vs) H _ I hq) (fun fl s' hs=>?_) fun e s' hs=>hs
 have fin:∀{σ':St} {H':Hp} {v:V} {u:Value},Inv (zFE CX P w K mg base N qual scope f cdv A outer s H E) [] σ' H' s'->RelV v u->Q v H'->CE outer P w H s Q u s':=
  fun {σ' H' v u} J rv q=>⟨v,H',J.os,J.bare,J.base,J.hok,rv,q⟩
 cases fl with
 |ret u=>
  obtain⟨v,σ',H',J,rv,q⟩:=hs
  exact fin J rv q
 |next=>
  obtain⟨σ',H',J,q⟩:=hs
  exact fin (v:=V.non) (u:=Value.none) J rfl q
 |brk=>
  obtain⟨_,_,_,q⟩:=hs
  exact False.elim q
 |cont=>
  obtain⟨_,_,_,q⟩:=hs
  exact False.elim q
end L2
namespace L2
open PySem PySem.Spec PyProof.Rows
section
variable{X:Cx}{x:Str}{p pos:Pos}{e:Expr}{es:List Expr}{t:TA}{id T:String}{r:List V->Hp->VK->Prop}
noncomputable def tCB(r:List V->Hp->VK->Prop)(t:TA):TE:=fun σ H Q=>t σ H fun vs H1=>r vs H1 Q
theorem jU(hc:CallR X (.builtin id) r)(hg:Gl X x)(hm:X.mg x=none)(hv:bootBuiltins x=some (.builtin id))(ha:PA X (e::es) t)(hn:x ≠ "__name__" := by decide)(hdb:(x == ("__debug__" : Str))=false:=by decide)(he:starEach (e::es) X.env=(false,eval e X.env)::starEach es X.env:=by rfl)(hpl:(backTo pos (starEach es X.env)).any (·.1)=false:=by rfl):PE X (.Call (.Name x p) (e::es) [] pos) (tCB r t):=by
 intro pins s σ H Q I h
 refine wpAny_Call_Name_kw (jN I hg hm hv ?_ hn hdb)
 exact PyProof.Rows.callWith_builtin1 (thn (ha pos pins s σ H _ I h) fun us s1 ⟨vs,H1,I1,r1,q1⟩=>hc pins s1 σ H1 vs us Q I1 r1 q1) he hpl
theorem kJ(hc:CallR X (.type T) r)(hg:Gl X x)(hm:X.mg x=none)(hv:bootBuiltins x=some (.type T))(ha:PA X (e::es) t)(hn:x ≠ "__name__" := by decide)(hdb:(x == ("__debug__" : Str))=false:=by decide)(he:starEach (e::es) X.env=(false,eval e X.env)::starEach es X.env:=by rfl)(hpl:(backTo pos (starEach es X.env)).any (·.1)=false:=by rfl):PE X (.Call (.Name x p) (e::es) [] pos) (tCB r t):=by
 intro pins s σ H Q I h
 refine wpAny_Call_Name_kw (jN I hg hm hv ?_ hn hdb)
 exact PyProof.Rows.callWith_type1 (thn (ha pos pins s σ H _ I h) fun us s1 ⟨vs,H1,I1,r1,q1⟩=>hc pins s1 σ H1 vs us Q I1 r1 q1) he hpl
end
end L2
namespace HT
open PySem PyProof.Rows
section
open PySem.SeqAt
open PySem.AutoSeq1 (wpAny_loadPart')
open PySem.MeetsSeq PySem.MeetsSeq2 PySem.MeetsSeq3
end
section
variable{prog:Program}{w:World}{A:Around}{E:Value->Shared->Prop}{s:Shared}
theorem cat_tup{t b:Addr}{vs ws:List Value}{Q:Value->Shared->Prop}(ht:IsTup s.heap t vs.toArray)(hb:IsTup s.heap b ws.toArray)(hv:vs≠[])(h1:ws=[]->Q (.ref t) s)(h2:ws≠[]->Q (.ref s.heap.objs.size) { s with heap:=s.heap.push { cls:=.type "tuple",data:=.seq (vs++ws).toArray } })(hsz:vs.length+ws.length<=sizeLine):wpAny (model prog w) A (binaryOp .Add (.ref t) (.ref b)) Q E s:=by
 obtain⟨⟨cls,dd,data,sl⟩,ho,hc,n,hd⟩:=id ht
 obtain⟨⟨cls2,dd2,data2,sl2⟩,ho2,hc2,n2,hd2⟩:=id hb
 simp only at hc hd hc2 hd2
 subst hc hd hc2 hd2
 have e:vs.toArray++ws.toArray=(vs++ws).toArray:=by simp
 by_cases hw:ws=[]
 ·exact concat_meets ⟨_,ho,rfl⟩ ⟨_,ho2,rfl⟩ noFill_tuple_add seq_tuple_add PySem.F.slot_tuple_add PySem.F.entry_tuple_add (PySem.F.args_tuple_add_2 _ _)
   (tuple_addW1 t b vs.toArray ws.toArray n n2 dd dd2 sl sl2 (by simpa using hv) (by simp[hw])) ⟨ho,ho2,h1 hw⟩
 ·refine concat_meets ⟨_,ho,rfl⟩ ⟨_,ho2,rfl⟩ noFill_tuple_add seq_tuple_add PySem.F.slot_tuple_add PySem.F.entry_tuple_add (PySem.F.args_tuple_add_2 _ _)
   (tuple_addW2 t b vs.toArray ws.toArray n n2 dd dd2 sl sl2 (by simpa using hv) (by simpa using hw) (by rw[ag,ag];exact hsz)) ⟨ho,ho2,?_⟩
  rw[e]
  exact h2 hw
noncomputable def sIx(n d:Nat):Option Int->Nat
 |none=>d
 |some v=>if v<0 then (v+(n:Int)).toNat else min v.toNat n
theorem sIx_none(n d:Nat):sIx n d none=d:=rfl
theorem sIx_nat(n d k:Nat):sIx n d (some (k:Int))=min k n:=by
 show(if (k:Int)<0 then ((k:Int)+(n:Int)).toNat else min (k:Int).toNat n)=min k n
 rw[if_neg (by omega),Int.toNat_natCast]
theorem sIx_le(n d:Nat)(hd:d<=n)(o:Option Int):sIx n d o<=n:=by
 cases o with
 |none=>exact hd
 |some v=>
  show(if v<0 then (v+(n:Int)).toNat else min v.toNat n)<=n
  by_cases hv:v<0
  ·rw[if_pos hv];omega
  ·rw[if_neg hv];exact Nat.min_le_right _ _
theorem WK(v:Int)(n d:Nat):(if v<0 then max (v+(n:Int)) 0 else min v (n:Int))=((sIx n d (some v):Nat):Int):=by
 show(if v<0 then max (v+(n:Int)) 0 else min v (n:Int))=(((if v<0 then (v+(n:Int)).toNat else min v.toNat n):Nat):Int)
 by_cases hv:v<0
 ·simp only[if_pos hv];omega
 ·simp only[if_neg hv];omega
theorem oF(lo hi:Option Int)(n:Nat):Builtin.Slice.sliceAdjust lo hi 1 (n:Int)=(((sIx n 0 lo:Nat):Int),((sIx n n hi:Nat):Int)):=by
 have h1:¬((1:Int)<0):=by omega
 unfold Builtin.Slice.sliceAdjust
 simp only[h1,if_false]
 refine Prod.ext ?_ ?_
 ·cases lo with
  |none=>rfl
  |some v=>exact WK v n 0
 ·cases hi with
  |none=>rfl
  |some v=>exact WK v n n
theorem nD(i j:Nat):Builtin.Slice.slicePlaces (i:Int) (j:Int) 1=j-i:=by
 unfold Builtin.Slice.slicePlaces
 have h1:(1:Int) > 0:=by omega
 simp only[h1,if_true,Int.ediv_one]
 split<;>omega
theorem bQ{v:Value}{o:Option Int}{Q:Option Int->Shared->Prop}(p:IsPart v o)(h:Q o s):wpAny (model prog w) A (Builtin.Slice.slicePartIndex v) Q E s:=by
 cases p with
 |none=>exact slicePart_none h
 |int i t=>exact slicePart_int h
theorem j4{sl:Addr}{vl vu:Value}{lo hi:Option Int}{n:Nat}{Q:Int×Int×Nat->Shared->Prop}(hs:s.heap.IsSliceOf sl vl vu .none)(pl:IsPart vl lo)(pu:IsPart vu hi)(h:Q (((sIx n 0 lo:Nat):Int),1,sIx n n hi-sIx n 0 lo) s):wpAny (model prog w) A (Builtin.Slice.sliceApplied (.ref sl) (pure (n:Int))) Q E s:=by
 obtain⟨os,hos,hcs,hds⟩:=id hs
 unfold Builtin.Slice.sliceApplied Builtin.Slice.sliceFields
 refine aa (aa (wpAny_field hos hds (x:=vl) rfl (aa (wpAny_field hos hds (x:=vu) rfl (aa (wpAny_field hos hds (x:=.none) rfl (ae ?_)))))))
 refine aa (slicePart_none ?_)
 show wpAny _ _ (if ((1:Int) == 0)=true then _ else _) _ _ s
 rw[if_neg (by decide)]
 refine aa (bQ pl (aa (bQ pu (aa (ae ?_)))))
 show wpAny _ _ (match Builtin.Slice.sliceAdjust lo hi 1 (n:Int) with|(lo,hi)=>pure (lo,(1:Int),Builtin.Slice.slicePlaces lo hi 1)) _ _ s
 rw[oF lo hi n]
 show wpAny _ _ (pure (((sIx n 0 lo:Nat):Int),(1:Int),Builtin.Slice.slicePlaces ((sIx n 0 lo:Nat):Int) ((sIx n n hi:Nat):Int) 1)) _ _ s
 rw[nD]
 exact ae h
theorem QL(xs:Array Value)(i k:Nat):((List.range k).filterMap fun(m:Nat)=>xs[((i:Int)+(m:Int)*1).toNat]?).toArray=((xs.toList.drop i).take k).toArray:=by
 have e:(fun(m:Nat)=>xs[((i:Int)+(m:Int)*1).toNat]?)=fun m=>xs[i+m]?:=by
  funext m
  have:((i:Int)+(m:Int)*1).toNat=i+m:=by omega
  rw[this]
 rw[e]
 have:=pick_run xs i k
 rw[List.filterMap_map] at this
 have e2:((fun x=>xs[x]?) ∘ fun x=>i+x)=fun m=>xs[i+m]?:=rfl
 rw[e2] at this
 rw[this]
theorem getItem_tuple_cut{t sl:Addr}{items:Array Value}{vl vu:Value}{lo hi:Option Int}{Q:Value->Shared->Prop}(ht:IsTup s.heap t items)(hs:s.heap.IsSliceOf sl vl vu .none)(pl:IsPart vl lo)(pu:IsPart vu hi)(hw:¬(sIx items.size 0 lo=0/\sIx items.size items.size hi=items.size))(h:Q (.ref s.heap.objs.size) { s with heap:=s.heap.push { cls:=.type "tuple",data:=.seq ((items.toList.drop (sIx items.size 0 lo)).take (sIx items.size items.size hi-sIx items.size 0 lo)).toArray } })(hsz:items.size<=sizeLine):wpAny (model prog w) A (getItem (.ref t) (.ref sl)) Q E s:=by
 have htake:sizeOk (.seq ((items.toList.drop (sIx items.size 0 lo)).take (sIx items.size items.size hi-sIx items.size 0 lo)).toArray):=by
  show((items.toList.drop (sIx items.size 0 lo)).take (sIx items.size items.size hi-sIx items.size 0 lo)).toArray.size<=sizeLine
  rw[ag,List.length_take,List.length_drop,Array.length_toList]
  omega
 have hj:sIx items.size items.size hi<=items.size:=sIx_le _ _ (al _) hi
 obtain⟨os,hos,hcs,hds⟩:=id hs
 have hTs:s.TypeIs (.ref sl) "slice" := ⟨os,hos,hcs⟩
 unfold getItem
 try with_reducible refine wpAny_holding ?_
 first|refine aa (ae ?_)|skip
 refine aa (wpAny_sequenceKey ht.typeIs (by decide) ?_)
 refine aa (wpAny_callSpecial?_slot (name:=Str.ofString "__getitem__") ht.typeIs PyProof.Rows.slot_tuple_getitem
  (wpAny_call_entry PyProof.Rows.slot_tuple_getitem ht.typeIs entry_tuple_getitem ?_ (args_tuple_getitem _ _)))
 show wpAny _ _ (Builtin.Tuple.tupleItemsOf (.ref t) >>= _) _ _ s
 refine aa (tupleItemsOf_ ht ?_)
 refine aa (wpAny_typeOf hTs ?_)
 rw[if_pos (by decide)]
 refine aa (j4 hs pl pu ?_)
 have hno:¬((((sIx items.size 0 lo:Nat):Int) == 0 && (1:Int) == 1 && (sIx items.size items.size hi-sIx items.size 0 lo) == items.size)=true):=by
  intro q
  rw[Bool.and_eq_true,Bool.and_eq_true] at q
  have q1:((sIx items.size 0 lo:Nat):Int)=0:=eq_of_beq q.1.1
  have q2:sIx items.size items.size hi-sIx items.size 0 lo=items.size:=eq_of_beq q.2
  exact hw ⟨by omega,by omega⟩
 show wpAny _ _ (if (((sIx items.size 0 lo:Nat):Int) == 0 && (1:Int) == 1 && (sIx items.size items.size hi-sIx items.size 0 lo) == items.size)=true then _ else _) _ _ s
 rw[if_neg hno,QL]
 first
  |exact aa (m:=Builtin.Tuple.tupleExact _) (wpAny_newObj_type (ae ⟨_,rfl,ae h⟩) htake)
  |exact aa (m:=Builtin.Tuple.tupleExact _) (wpAny_newObj_type (aa (ae (ae ⟨_,rfl,ae h⟩))) htake)
  |exact aa (aa (m:=Builtin.Tuple.tupleExact _) (wpAny_newObj_type (ae (ae ⟨_,rfl,ae h⟩)) htake))
  |exact aa (aa (m:=Builtin.Tuple.tupleExact _) (wpAny_newObj_type (ae ⟨_,rfl,ae h⟩) htake))
end
end HT
namespace L2
open PySem PySem.Spec PyProof.Rows
noncomputable abbrev TO:=St->Hp->(Option Int->Hp->Prop)->Prop
noncomputable def PO(X:Cx)(e:Option Expr)(t:TO):Prop:=
 ∀(pins:List (Addr×Obj)) (s:Shared) (σ:St) (H:Hp) (Q:Option Int->Hp->Prop),Inv X pins σ H s->t σ H Q ->
  wpAny (model X.prog X.w) X.A (evalPart e X.env) (fun u s'=>∃o H',Inv X pins σ H' s'/\IsPart u o/\Q o H') X.xe s
noncomputable def zBO:TO:=fun _ H Q=>Q none H
noncomputable def zKC(t:TE):TO:=fun σ H Q=>t σ H fun x H1=>∃i,x=.int i/\Q (some i) H1
section
variable{X:Cx}{e:Expr}{te:TE}{lo hi:Option Expr}{tl th:TO}{pos p2:Pos}
theorem zCG:PO X none zBO:=by
 intro pins s σ H Q I h
 rw[evalPart_none]
 exact ae ⟨none,H,I,.none,h⟩
theorem zCF(h:PE X e te):PO X (some e) (zKC te):=by
 intro pins s σ H Q I hw
 rw[evalPart_some]
 refine thn (h pins s σ H _ I hw) fun u s1 ⟨x,H1,I1,r1,q1⟩=>?_
 obtain⟨i,rfl,q⟩:=q1
 obtain⟨t,rfl⟩:=r1
 exact⟨some i,H1,I1,.int i t,q⟩
noncomputable def SlR(X:Cx)(r:V->Option Int->Option Int->Hp->VK->Prop):Prop:=
 ∀(pins:List (Addr×Obj)) (s:Shared) (σ:St) (H:Hp) (x:V) (v vl vu:Value) (lo hi:Option Int) (sl:Addr) (Q:VK),Inv X pins σ H s->RelV x v->s.heap.IsSliceOf sl vl vu .none->IsPart vl lo->IsPart vu hi->r x lo hi H Q ->
  ∃T id,typeLookup (.type T) "__getitem__" = pure (some (.builtin id))/\s.TypeIs v T/\wpAny (model X.prog X.w) X.A (getItem v (.ref sl)) (EP X pins σ Q) X.xe s
theorem SlR.or{r r':V->Option Int->Option Int->Hp->VK->Prop}(h:SlR X r)(h':SlR X r'):SlR X (fun x lo hi H Q=>r x lo hi H Q\/r' x lo hi H Q):=by
 intro pins s σ H x v vl vu lo hi sl Q I rx hs pl pu q
 rcases q with q|q
 ·exact h pins s σ H x v vl vu lo hi sl Q I rx hs pl pu q
 ·exact h' pins s σ H x v vl vu lo hi sl Q I rx hs pl pu q
noncomputable def tSl(r:V->Option Int->Option Int->Hp->VK->Prop)(te:TE)(tl th:TO):TE:=fun σ H Q=>te σ H fun x H1=>tl σ H1 fun l H2=>th σ H2 fun u H3=>r x l u H3 Q
theorem QN{r:V->Option Int->Option Int->Hp->VK->Prop}(hr:SlR X r)(he:PE X e te)(hl:PO X lo tl)(hu:PO X hi th):PE X (.Subscript e (.Slice lo hi none p2) pos) (tSl r te tl th):=by
 intro pins s σ H Q I h
 refine Subscript_ (thn (he pins s σ H _ I h) fun v s1 ⟨x,H1,I1,r1,q1⟩=>?_)
 refine wpAny_Slice (thn (hl pins s1 σ H1 _ I1 q1) fun vl s2 ⟨l,H2,I2,pl,q2⟩=>thn (hu pins s2 σ H2 _ I2 q2) fun vu s3 ⟨u,H3,I3,pu,q3⟩=>?_)
 rw[evalPart_none]
 refine ae ?_
 have I4:Inv X pins σ H3 { s3 with heap:=s3.heap.push { cls:=.type "slice",data:=.fields #[vl,vu,.none] } }:=I3.kept (t':=s3.toks) fun b ob q=>ad _ q
 obtain⟨T,id,hT,ht,hg⟩:=hr pins { s3 with heap:=s3.heap.push { cls:=.type "slice",data:=.fields #[vl,vu,.none] } } σ H3 x v vl vu l u s3.heap.objs.size Q I4 r1 (Heap.IsSliceOf.new ..) pl pu q3
 show wpAny (model X.prog X.w) X.A (subscriptTail e (.Slice lo hi none p2) v (.ref s3.heap.objs.size)) (EP X pins σ Q) X.xe { s3 with heap:=s3.heap.push { cls:=.type "slice",data:=.fields #[vl,vu,.none] } }
 exact tail_any (ops:=[.ref s3.heap.objs.size,v]) ht hT hg (by with_unfolding_all rfl)
noncomputable def zF1(xs:List V)(lo hi:Option Int):List V:=(xs.drop (HT.sIx xs.length 0 lo)).take (HT.sIx xs.length xs.length hi-HT.sIx xs.length 0 lo)
theorem v6(xs:List V)(lo hi:Option Int):(zF1 xs lo hi).length<=xs.length:=by
 unfold zF1
 rw[List.length_take,List.length_drop]
 omega
noncomputable def zMA(K:Fg):V->Option Int->Option Int->Hp->VK->Prop:=fun x lo hi H Q=>∃a xs,x=.ref a/\SqT K H a xs /\
 ¬(HT.sIx xs.length 0 lo=0/\HT.sIx xs.length xs.length hi=xs.length)/\∀p,H p=none->Q (.ref p) (upd H p (.tup (zF1 xs lo hi)))
theorem sl_tup:SlR X (zMA X.K):=by
 intro pins s σ H x v vl vu lo hi sl Q I rx hs pl pu h
 obtain⟨a,xs,rfl,hx,hw,q⟩:=h
 cases rx
 obtain⟨its,r,ht,hz⟩:=I.tuple hx
 have hlen:its.toArray.size=xs.length:=by rw[ag];exact r.length.symm
 refine⟨"tuple",_,PyProof.Rows.slot_tuple_getitem.lookup,ht.typeIs,?_⟩
 refine HT.getItem_tuple_cut ht hs pl pu (by rw[hlen];exact hw) ?_ (by rw[hlen];exact hz)
 rw[hlen]
 refine⟨.ref s.heap.objs.size,_,I.laid (t':=s.toks) (o:=.tup (zF1 xs lo hi)) (fun b ob q=>ad _ q) (al _) ?_,rfl,q _ (I.hok.fresh (al _))⟩
 exact⟨Nat.le_trans (v6 xs lo hi) hz,_,(r.drop (HT.sIx xs.length 0 lo)).take (HT.sIx xs.length xs.length hi-HT.sIx xs.length 0 lo),IsTup.new _ _⟩
noncomputable def zI0(K:Fg):R2:=fun x y H Q=>∃a b xs ys,x=.ref a/\y=.ref b/\SqT K H a xs/\SqT K H b ys/\xs≠[]/\xs.length+ys.length<=sizeLine /\
 (ys=[]->Q (.ref a) H)/\(ys≠[]->∀p,H p=none->Q (.ref p) (upd H p (.tup (xs++ys))))
theorem Vals.nil_iff{xs:List V}{us:List Value}(r:Vals xs us):us=[]↔xs=[]:=by
 cases r with
 |nil=>simp
 |cons _ _=>simp
theorem zCW:OpR X (binaryOp .Add) (zI0 X.K):=by
 intro pins s σ H x y v u Q I rx ry h
 obtain⟨a,b,xs,ys,rfl,rfl,ha,hb,hx,hz,q1,q2⟩:=h
 cases rx
 cases ry
 obtain⟨its,r1,p1,_⟩:=I.tuple ha
 obtain⟨its2,r2,p2,_⟩:=I.tuple hb
 refine HT.cat_tup p1 p2 (fun z=>hx (r1.nil_iff.mp z)) (fun z=>⟨.ref a,H,I,rfl,q1 (r2.nil_iff.mp z)⟩) (fun z=>?_) (by rw[<-r1.length,<-r2.length];exact hz)
 refine⟨.ref s.heap.objs.size,_,I.laid (t':=s.toks) (o:=.tup (xs++ys)) (fun b ob q=>ad _ q) (al _) ?_,rfl,q2 (fun w=>z (r2.nil_iff.mpr w)) _ (I.hok.fresh (al _))⟩
 exact⟨by rw[List.length_append];exact hz,_,r1.append r2,IsTup.new _ _⟩
end
end L2
namespace L2
open PySem PySem.Spec PyProof.Rows
noncomputable def ixN(n:Nat)(i:Int):Option Nat:=if 0<=i then (if i<n then some i.toNat else none) else if -(n:Int)<=i then some (i+n).toNat else none
noncomputable def atI{α:Type}(xs:List α)(i:Int):Option α:=(ixN xs.length i).bind fun j=>xs[j]?
theorem zDT{n:Nat}{i:Int}{j:Nat}(h:ixN n i=some j):seqIndex? i n=some j/\j<n/\-(n:Int)<=i/\i<n:=by
 unfold ixN at h
 by_cases h0:0<=i
 ·rw[if_pos h0] at h
  by_cases h1:i<n
  ·rw[if_pos h1] at h
   have e:i.toNat=j:=aq h
   exact⟨by rw[seqIndex_of h0 h1,e],by omega,by omega,h1⟩
  ·rw[if_neg h1] at h;cases h
 ·rw[if_neg h0] at h
  by_cases h1 : -(n:Int)<=i
  ·rw[if_pos h1] at h
   have e:(i+n).toNat=j:=aq h
   exact⟨by rw[seqIndex_neg (by omega) h1,e],by omega,h1,by omega⟩
  ·rw[if_neg h1] at h;cases h
theorem rR{α:Type}{xs:List α}{i:Int}{v:α}(h:atI xs i=some v):∃j,seqIndex? i xs.length=some j/\xs[j]?=some v/\j<xs.length/\-(xs.length:Int)<=i/\i<xs.length:=by
 unfold atI at h
 cases e:ixN xs.length i with
 |none=>rw[e] at h;cases h
 |some j=>
  rw[e] at h
  obtain⟨h1,h2,h3,h4⟩:=zDT e
  exact⟨j,h1,h,h2,h3,h4⟩
theorem cB{α:Type}{xs:List α}{j:Nat}{v:α}(h:xs[j]?=some v):atI xs (j:Int)=some v:=by
 have hj:j<xs.length:=(ak.mp h).1
 have e:ixN xs.length (j:Int)=some j:=by
  unfold ixN
  rw[if_pos (by omega),if_pos (by omega)];simp
 unfold atI;rw[e];exact h
theorem JZ{α:Type}(xs:List α)(v:α):atI (xs++[v]) (-1)=some v:=by
 have hl:(xs++[v]).length=xs.length+1:=by simp
 have e:ixN (xs++[v]).length (-1)=some xs.length:=by
  unfold ixN
  rw[hl,if_neg (by decide),if_pos (by omega)]
  congr 1
  omega
 unfold atI
 rw[e]
 show(xs++[v])[xs.length]?=some v
 simp
noncomputable def v8(b:Expr):Prop:=∀o i,subscripted b false o i=operate [o,i] (getItem o i)
noncomputable def IxR(X:Cx)(r:R2):Prop:=
 ∀(value slice:Expr) (pins:List (Addr×Obj)) (s:Shared) (σ:St) (H:Hp) (x y:V) (v u:Value) (Q:VK),Inv X pins σ H s->RelV x v->RelV y u->r x y H Q ->
  subscripted slice false v u=operate [v,u] (getItem v u)->wpAny (model X.prog X.w) X.A (subscriptTail value slice v u) (EP X pins σ Q) X.xe s
noncomputable def MtR(X:Cx)(id:String)(r:V->List V->Hp->VK->Prop):Prop:=
 ∀(pins:List (Addr×Obj)) (s:Shared) (σ:St) (H:Hp) (x:V) (xs:List V) (v:Value) (us:List Value) (Q:VK),Inv X pins σ H s->RelV x v->Vals xs us->r x xs H Q ->
  wpAny (model X.prog X.w) X.A (call (.builtin id) (v::us)) (EP X pins σ Q) X.xe s
section
variable{X:Cx}{a b:Expr}{ta tb:TE}{pos:Pos}
theorem IxR.or{r r':R2}(h:IxR X r)(h':IxR X r'):IxR X (fun x y H Q=>r x y H Q\/r' x y H Q):=by
 intro value slice pins s σ H x y v u Q I rx ry q hs
 rcases q with q|q
 ·exact h value slice pins s σ H x y v u Q I rx ry q hs
 ·exact h' value slice pins s σ H x y v u Q I rx ry q hs
theorem zCR{r:R2}(hr:IxR X r)(ha:PE X a ta)(hb:PE X b tb)(hs:v8 b):PE X (.Subscript a b pos) (tOp r ta tb):=by
 intro pins s σ H Q I h
 exact Subscript_ (zL5 ha hb I h fun v u s2 x y H2 I2 rx ry q=>hr a b pins s2 σ H2 x y v u Q I2 rx ry q (hs _ _))
noncomputable def zMJ(K:Fg):R2:=fun x y H Q=>∃p xs i v,x=.ref p/\y=.int i/\SqL K H p xs/\atI xs i=some v/\Q v H
noncomputable def zMH(K:Fg):R2:=fun x y H Q=>∃p xs i v,x=.ref p/\y=.int i/\SqT K H p xs/\atI xs i=some v/\Q v H
noncomputable def zMI:R2:=fun x y H Q=>∃z i c,x=.str z/\y=.int i/\z.length<=sizeLine/\atI z.cps.toList i=some c/\Q (.str ⟨#[c]⟩) H
theorem ix_list:IxR X (zMJ X.K):=by
 intro value slice pins s σ H x y v u Q I rx ry h hs
 obtain⟨p,xs,i,z,rfl,rfl,hq,he,q⟩:=h
 cases rx
 obtain⟨t,rfl⟩:=ry
 obtain⟨its,r,pl,hz⟩:=I.list hq
 obtain⟨j,h1,h2,h3,h4,h5⟩:=rR he
 obtain⟨w,ew,rw'⟩:=r.get h2
 have hl:=r.length
 have hn:=gU
 have fin:EP X pins σ Q w s:=⟨z,H,I,rw',q⟩
 by_cases h0:0<=i
 ·have hj:i.toNat=j:=by
   rw[seqIndex_of h0 h5] at h1
   exact aq h1
  exact item_listR pl.isList h0 (by omega) (by rw[hj];simpa using ew) fin hs
 ·have hj:(i+(its.toArray.size:Int)).toNat=j:=by
   rw[seqIndex_neg (by omega) h4] at h1
   rw[ag,<-hl]
   exact aq h1
  exact subscriptTail_builtinR (x:=w) pl.isList.typeIs slot_list_getitem.lookup
   (wpAny_getItem_list_neg (Q:=fun r s'=>r=w/\EP X pins σ Q r s') pl.isList (by omega) (by rw[ag]<;>omega) (by omega) (by rw[hj];simpa using ew) ⟨rfl,fin⟩) hs
theorem ix_tup:IxR X (zMH X.K):=by
 intro value slice pins s σ H x y v u Q I rx ry h hs
 obtain⟨p,xs,i,z,rfl,rfl,hq,he,q⟩:=h
 cases rx
 obtain⟨t,rfl⟩:=ry
 obtain⟨its,r,pl,hz⟩:=I.tuple hq
 obtain⟨j,h1,h2,h3,h4,h5⟩:=rR he
 obtain⟨w,ew,rw'⟩:=r.get h2
 have hl:=r.length
 have hn:=gU
 have fin:EP X pins σ Q w s:=⟨z,H,I,rw',q⟩
 exact subscriptTail_builtinR (x:=w) pl.typeIs slot_tuple_getitem.lookup
  (getItem_tuple (j:=j) (Q:=fun r s'=>r=w/\EP X pins σ Q r s') pl (by omega) (by omega) (by rw[ag,<-hl];exact h1) (by simpa using ew) ⟨rfl,fin⟩) hs
theorem zHY:IxR X zMI:=by
 intro value slice pins s σ H x y v u Q I rx ry h hs
 obtain⟨z,i,c,rfl,rfl,hz,he,q⟩:=h
 obtain⟨t,rfl⟩:=rx
 obtain⟨t',rfl⟩:=ry
 obtain⟨j,h1,h2,h3,h4,h5⟩:=rR he
 have hl:z.cps.toList.length=z.length:=by simp[Str.length]
 rw[hl] at h1 h4 h5
 have hn:=gU
 exact tail_any (typeIs_str s z t) slot_str_getitem.lookup (getItem_str (c:=c) (by
  have e1:decide (i < -(2 ^ 63:Int))=false:=decide_eq_false (by omega)
  have e2:decide (i ≥ 2 ^ 63)=false:=decide_eq_false (by omega)
  rw[e1,e2,Bool.or_false]) (by rw[h1];simpa using h2) ⟨.str ⟨#[c]⟩,H,I.tok _,⟨_,rfl⟩,q⟩) hs
noncomputable def rIx(K:Fg):R2:=fun x y H Q=>zMJ K x y H Q\/zMH K x y H Q\/zMI x y H Q
theorem zDS:IxR X (rIx X.K):=ix_list.or (ix_tup.or zHY)
theorem cF(lo hi:Option Int)(n:Nat):(sliceBounds lo hi none n).1=((HT.sIx n 0 lo:Nat):Int)/\(sliceBounds lo hi none n).2.1=((HT.sIx n n hi:Nat):Int)/\(sliceBounds lo hi none n).2.2=1:=by
 refine⟨?_,?_,rfl⟩
 ·cases lo with
  |none=>simp[sliceBounds,HT.sIx]
  |some i=>
   simp only[sliceBounds,HT.sIx,Option.getD_none,show(1:Int) > 0 by decide,if_true]
   by_cases h:i<0
   ·simp only[h,if_true]<;>omega
   ·simp only[h,if_false]<;>omega
 ·cases hi with
  |none=>simp[sliceBounds,HT.sIx]
  |some i=>
   simp only[sliceBounds,HT.sIx,Option.getD_none,show(1:Int) > 0 by decide,if_true]
   by_cases h:i<0
   ·simp only[h,if_true]<;>omega
   ·simp only[h,if_false]<;>omega
theorem uI(its:List Value)(lo hi:Option Int):slicePick its.toArray lo hi none=((its.drop (HT.sIx its.length 0 lo)).take (HT.sIx its.length its.length hi-HT.sIx its.length 0 lo)).toArray:=by
 obtain⟨h1,h2,h3⟩:=cF lo hi its.toArray.size
 unfold slicePick
 rw[h1,h2,h3]
 simp only[sliceRange_one,pick_run,ag]<;>rfl
noncomputable def zMC(K:Fg):V->Option Int->Option Int->Hp->VK->Prop:=fun x lo hi H Q=>∃a xs,x=.ref a/\SqL K H a xs/\∀p,H p=none->Q (.ref p) (upd H p (.lst (zF1 xs lo hi)))
theorem sl_list:SlR X (zMC X.K):=by
 intro pins s σ H x v vl vu lo hi sl Q I rx hs pl pu h
 obtain⟨a,xs,rfl,hx,q⟩:=h
 cases rx
 obtain⟨its,r,ht,hz⟩:=I.list hx
 have hlen:=r.length
 refine⟨"list",_,slot_list_getitem.lookup,ht.isList.typeIs,?_⟩
 refine wpAny_getItem_list_slice ht.isList hs pl pu .none (by simp) ?_ (by rw[ag]<;>omega)
 rw[uI,<-hlen]
 refine⟨.ref s.heap.objs.size,_,I.laid (t':=s.toks) (o:=.lst (zF1 xs lo hi)) (fun b ob q=>ad _ q) (al _) ?_,rfl,q _ (I.hok.fresh (al _))⟩
 exact⟨Nat.le_trans (v6 xs lo hi) hz,_,0,(r.drop (HT.sIx xs.length 0 lo)).take (HT.sIx xs.length xs.length hi-HT.sIx xs.length 0 lo),ah _ rfl⟩
noncomputable def b6:V->Bool
 |.non=>true
 |.bl _=>true
 |.int _=>true
 |.str _=>true
 |_=>false
noncomputable def eqV:V->V->Bool
 |.non,.non=>true
 |.bl a,.bl b=>a == b
 |.bl a,.int b=>(if a then 1 else 0) == b
 |.int a,.bl b=>a == (if b then 1 else 0)
 |.int a,.int b=>a == b
 |.str a,.str b=>a == b
 |_,_=>false
theorem zIC{A:Around}{s:Shared}{y x:V}{u v:Value}(ry:RelV y u)(rx:RelV x v)(fy:b6 y=true)(fx:b6 x=true):SeqAt.EqAt A s u v (eqV y x):=by
 cases y with
 |non=>
  cases ry
  cases x with
  |non=>cases rx;exact SeqAt.EqAt.same _
  |bl b=>cases rx;exact SeqAt.EqAt.none_bool b
  |int b=>obtain⟨t,rfl⟩:=rx;exact SeqAt.EqAt.none_int b t
  |str b=>obtain⟨t,rfl⟩:=rx;exact SeqAt.EqAt.none_str b t
  |_=>exact absurd (show false=true from fx) am
 |bl a=>
  cases ry
  cases x with
  |non=>cases rx;exact SeqAt.EqAt.bool_none a
  |bl b=>cases rx;exact SeqAt.EqAt.bool_bool a b
  |int b=>obtain⟨t,rfl⟩:=rx;exact SeqAt.EqAt.bool_int a b t
  |str b=>obtain⟨t,rfl⟩:=rx;exact SeqAt.EqAt.bool_str a b t
  |_=>exact absurd (show false=true from fx) am
 |int a=>
  obtain⟨t',rfl⟩:=ry
  cases x with
  |non=>cases rx;exact SeqAt.EqAt.int_none a t'
  |bl b=>cases rx;exact SeqAt.EqAt.int_bool a t' b
  |int b=>obtain⟨t,rfl⟩:=rx;exact SeqAt.EqAt.int_int a t' b t
  |str b=>obtain⟨t,rfl⟩:=rx;exact SeqAt.EqAt.int_str a t' b t
  |_=>exact absurd (show false=true from fx) am
 |str a=>
  obtain⟨t',rfl⟩:=ry
  cases x with
  |non=>cases rx;exact SeqAt.EqAt.str_none a t'
  |bl b=>cases rx;exact SeqAt.EqAt.str_bool a t' b
  |int b=>obtain⟨t,rfl⟩:=rx;exact SeqAt.EqAt.str_int a t' b t
  |str b=>obtain⟨t,rfl⟩:=rx;exact SeqAt.EqAt.str_str a t' b t
  |_=>exact absurd (show false=true from fx) am
 |_=>exact absurd (show false=true from fy) am
theorem call_len_seq:CallR X (.builtin "len") (fun xs H Q=>∃p ys,xs=[.ref p]/\(SqL X.K H p ys\/SqT X.K H p ys)/\Q (.int ys.length) H):=by
 intro pins s σ H xs us Q I r h
 obtain⟨p,ys,rfl,hq,q⟩:=h
 obtain⟨u,rfl,rx⟩:=Y1 r
 cases rx
 have hn:=gU
 rcases hq with hq|hq
 ·obtain⟨its,r',pl,hz⟩:=I.list hq
  have hlen:=r'.length
  exact Calls.call_len_list pl.isList (by simp only[ag]<;>omega) ⟨.int ys.length,H,I.tok _,⟨s.toks+1,by rw[ag,hlen]⟩,q⟩
 ·obtain⟨its,r',pl,hz⟩:=I.tuple hq
  have hlen:=r'.length
  exact len_tuple pl (by simp only[ag]<;>omega) ⟨.int ys.length,H,I.tok _,⟨s.toks+1,by rw[ag,hlen]⟩,q⟩
theorem cO:CallR X (.builtin "len") (fun xs H Q=>∃z,xs=[.str z]/\z.length<=sizeLine/\Q (.int z.length) H):=by
 intro pins s σ H xs us Q I r h
 obtain⟨z,rfl,hz,q⟩:=h
 obtain⟨u,rfl,t,rfl⟩:=Y1 r
 have hn:=gU
 exact len_str (by omega) ⟨.int z.length,H,I.tok _,⟨_,rfl⟩,q⟩
theorem CallR.or{f:Value}{r r':List V->Hp->VK->Prop}(h:CallR X f r)(h':CallR X f r'):CallR X f (fun xs H Q=>r xs H Q\/r' xs H Q):=by
 intro pins s σ H xs us Q I rs q
 rcases q with q|q
 ·exact h pins s σ H xs us Q I rs q
 ·exact h' pins s σ H xs us Q I rs q
theorem bD:CallR X (.type "tuple") (fun xs H Q=>∃p ys,xs=[.ref p]/\((SqL X.K H p ys/\∀l,H l=none->Q (.ref l) (upd H l (.tup ys)))\/(SqT X.K H p ys/\Q (.ref p) H))):=by
 intro pins s σ H xs us Q I r h
 obtain⟨p,ys,rfl,h⟩:=h
 obtain⟨u,rfl,rx⟩:=Y1 r
 cases rx
 rcases h with⟨hq,q⟩|⟨hq,q⟩
 ·obtain⟨its,r',pl,hz⟩:=I.list hq
  have hlen:=r'.length
  refine call_tuple_list pl.isList (fun h' kp=>?_) (by simp only[ag]<;>omega)
  have I1:Inv X pins σ H { s with heap:=h' }:=I.kept (t':=s.toks) kp
  have I2:Inv X pins σ (upd H h'.objs.size (.tup ys)) { s with heap:=h'.push { cls:=.type "tuple",data:=.seq its.toArray } }:=
   I1.laid (t':=s.toks) (fun b o e=>ad _ e) (al _) (show ObjOk X.prog X.w _ _ _ (.tup ys) from⟨hz,its,r',IsTup.new _ _⟩)
  exact⟨.ref h'.objs.size,_,I2,rfl,q _ (I1.hok.fresh (al _))⟩
 ·obtain⟨its,r',pl,hz⟩:=I.tuple hq
  exact call_tuple_same pl ⟨.ref p,H,I,rfl,q⟩
noncomputable def tyV(K:Fg)(T:String)(x:V)(H:Hp):Prop:=match x with
 |.str _=>T = "str"
 |.int _=>T = "int"
 |.ref p=>(T = "list" /\ ∃xs,SqL K H p xs)\/(T = "tuple" /\ ∃o,K.lookup p=some o/\o.cls=.type "tuple" /\ o.dict=none) \/
   (T = "dict" /\ ((∃kvs,H p=some (.dK kvs))\/∃kvs,H p=some (.dT kvs)))\/(T = "set" /\ ∃S n,H p=some (.set S n))
 |_=>False
theorem zBI{pins:List (Addr×Obj)}{σ:St}{H:Hp}{s:Shared}{T:String}{x:V}{v:Value}(I:Inv X pins σ H s)(r:RelV x v)(ty:tyV X.K T x H):s.TypeIs v T/\∀a,v=.ref a->∃ob,s.heap.get? a=some ob/\ob.dict=none:=by
 cases x with
 |str z=>
  obtain⟨t,rfl⟩:=r
  cases (show T = "str" from ty)
  exact⟨typeIs_str s z t,fun _ e=>nomatch e⟩
 |int i=>
  obtain⟨t,rfl⟩:=r
  cases (show T = "int" from ty)
  exact⟨typeIs_int s i t,fun _ e=>nomatch e⟩
 |ref p=>
  cases r
  rcases ty with⟨rfl,xs,hq⟩|⟨rfl,o,hk,hc,hd⟩|⟨rfl,hk⟩|⟨rfl,S,n,hk⟩
  ·obtain⟨its,_,pl,_⟩:=I.list hq
   refine⟨pl.isList.typeIs,fun a e=>?_⟩
   cases e
   obtain⟨o,n,e,c,hd,_⟩:=pl
   exact⟨o,e,hd⟩
  ·refine⟨⟨o,I.kIn p o hk,hc⟩,fun a e=>?_⟩
   cases e
   exact⟨o,I.kIn _ o hk,hd⟩
  ·have z:∃o,s.heap.get? p=some o/\o.ExactDict:=by
    rcases hk with⟨kvs,hk⟩|⟨kvs,hk⟩
    ·obtain⟨_,_,_,_,o,_,_,e,ex,_⟩:=I.hok p _ hk
     exact⟨o,e,ex⟩
    ·obtain⟨_,_,_,_,o,_,_,e,ex,_⟩:=I.hok p _ hk
     exact⟨o,e,ex⟩
   obtain⟨o,e,ex⟩:=z
   refine⟨⟨o,e,ex.1⟩,fun a e2=>?_⟩
   cases e2
   exact⟨o,e,ex.2.1⟩
  ·obtain⟨o,_,_,_,e,ex,_⟩:=I.hok p _ hk
   refine⟨⟨o,e,ex.1⟩,fun a e2=>?_⟩
   cases e2
   exact⟨o,e,ex.2.1⟩
 |_=>exact False.elim ty
noncomputable def zL9(K:Fg)(T:String)(r:V->List V->Hp->VK->Prop)(to:TE):TE:=fun σ H Q=>to σ H fun x H1=>tyV K T x H1/\r x [] H1 Q
noncomputable def tBM(K:Fg)(T:String)(r:V->List V->Hp->VK->Prop)(to:TE)(t:TA):TE:=fun σ H Q=>to σ H fun x H1=>tyV K T x H1/\t σ H1 fun xs H2=>r x xs H2 Q
variable{o e:Expr}{es:List Expr}{to:TE}{t:TA}{name:Str}{apos cpos:Pos}{T id:String}{r:V->List V->Hp->VK->Prop}
theorem ZG(pa:PlainAttrs T)(slot:Slot T name id)(hty:typeOf (.builtin id)=pure (.type "method_descriptor"))(hm:MtR X id r)(ho:PE X o to)(hbase:attributeBase o name X.env (eval o X.env)=eval o X.env:=by rfl)(hline:(apos.endLine == cpos.line)=true:=by rfl):PE X (.Call (.Attribute o name apos) [] [] cpos) (zL9 X.K T r to):=by
 intro pins s σ H Q I h
 refine wpAny_Call_method0_late hbase hline (thn (ho pins s σ H _ I h) fun v s1 ⟨x,H1,I1,r1,ty,q1⟩=>?_)
 obtain⟨h1,h2⟩:=zBI I1 r1 ty
 exact⟨T,id,pa,slot,hty,h1,h2,Calls.callWith_builtin rfl (PySem.evalArgs_none (hm pins s1 σ H1 x [] v [] Q I1 r1 .nil q1))⟩
theorem ZH(pa:PlainAttrs T)(slot:Slot T name id)(hty:typeOf (.builtin id)=pure (.type "method_descriptor"))(hm:MtR X id r)(ho:PE X o to)(ha:PA X (e::es) t)(hbase:attributeBase o name X.env (eval o X.env)=eval o X.env:=by rfl)(hfew:((backTo cpos (starEach (e::es) X.env)).all (fun x=>!x.1) && (backToKw cpos (keywordEach [] X.env)).all (fun x=>x.1.isSome)
   && decide ((e::es).length+([]:List Keyword).length+(if ([]:List Keyword).isEmpty then 0 else 1)<30))=true:=by rfl)(hline:(apos.endLine == cpos.line)=true:=by rfl)(hs:starEach (e::es) X.env=(false,eval e X.env)::starEach es X.env:=by rfl)(hplain:(backTo cpos (starEach es X.env)).any (·.1)=false:=by rfl):PE X (.Call (.Attribute o name apos) (e::es) [] cpos) (tBM X.K T r to t):=by
 intro pins s σ H Q I h
 refine wpAny_Call_method_late hbase hfew hline rfl (thn (ho pins s σ H _ I h) fun v s1 ⟨x,H1,I1,r1,ty,q1⟩=>?_)
 obtain⟨h1,h2⟩:=zBI I1 r1 ty
 refine⟨T,id,pa,slot,hty,h1,h2,?_⟩
 have hA:=ha cpos pins s1 σ H1 _ I1 q1
 rw[hs] at hA ⊢
 refine Calls.callWith_builtin (by show(false || (backTo cpos (starEach es X.env)).any (·.1))=false;rw[hplain]<;>rfl) (Calls.evalArgs_plain ?_)
 exact thn hA fun us s2 ⟨vs,H2,I2,r2,q2⟩=>hm pins s2 σ H2 x vs v us Q I2 r1 r2 q2
end
end L2
namespace L2
open PySem PySem.Spec PyProof.Rows
noncomputable def MtM(X:Cx)(id:String)(r:V->List V->Hp->VK->Prop):Prop:=
 ∀(pins:List (Addr×Obj)) (s:Shared) (σ:St) (H:Hp) (x:V) (xs:List V) (v:Value) (us:List Value) (Q:VK),Inv X pins σ H s->RelV x v->Vals xs us->r x xs H Q ->
  wpAny (model X.prog X.w) X.A (call (.builtin id) (v::us)) (EP X pins σ Q) X.xe s
theorem Vals.one:∀{x:V} {us:List Value},Vals [x] us->∃u,us=[u]/\RelV x u
 |_,_,.cons r .nil=>⟨_,rfl,r⟩
theorem Vals.two:∀{x y:V} {us:List Value},Vals [x,y] us->∃u v,us=[u,v]/\RelV x u/\RelV y v
 |_,_,_,.cons r (.cons q .nil)=>⟨_,_,rfl,r,q⟩
theorem Vals.zero:∀{us:List Value},Vals [] us->us=[]
 |_,.nil=>rfl
theorem Vals.dropLast{xs:List V}{us:List Value}(h:Vals xs us):Vals xs.dropLast us.dropLast:=by
 induction h with
 |nil=>exact .nil
 |cons r t ih=>
  cases t with
  |nil=>exact .nil
  |cons q t'=>exact .cons r ih
theorem Vals.eraseIdx:∀{xs:List V} {us:List Value} (i:Nat),Vals xs us->Vals (xs.eraseIdx i) (us.eraseIdx i)
 |_,_,_,.nil=>.nil
 |_,_,0,.cons _ t=>t
 |_,_,i+1,.cons r t=>.cons r (Vals.eraseIdx i t)
theorem Vals.reverse{xs:List V}{us:List Value}(h:Vals xs us):Vals xs.reverse us.reverse:=by
 induction h with
 |nil=>exact .nil
 |cons r t ih=>rw[List.reverse_cons,List.reverse_cons];exact Vals.append ih (.cons r .nil)
theorem nW{α:Type}(l:List α):l.eraseIdx (l.length-1)=l.dropLast:=by
 induction l with
 |nil=>rfl
 |cons a r ih=>
  cases r with
  |nil=>rfl
  |cons b r=>
   have e:(a::b::r).length-1=((b::r).length-1)+1:=by
    have h1:(a::b::r).length=r.length+2:=rfl
    have h2:(b::r).length=r.length+1:=rfl
    omega
   rw[e,List.eraseIdx_cons_succ,ih]
   all_goals rfl
theorem gW{α:Type}:∀(l:List α) (i:Nat),(l.eraseIdx i).length<=l.length
 |[],_=>al _
 |_::_,0=>Nat.le_succ _
 |_::r,i+1=>Nat.succ_le_succ (gW r i)
section
variable{X:Cx}{pins:List (Addr×Obj)}{σ:St}{H:Hp}{s:Shared}{l b:Addr}{xs ys zs:List V}
theorem Inv.lset{its its':List Value}{n:Nat}{f:Array Value->Array Value}{t':Nat}(I:Inv X pins σ H s)(hH:H l=some (.lst xs))(e:s.heap.get? l=some { cls:=.type "list",data:=.seq its.toArray n })(hf:f its.toArray=its'.toArray)(hv:Vals ys its')(hz:ys.length<=sizeLine):Inv X pins σ (upd H l (.lst ys)) { s with heap:=s.heap.update l (Obj.mapSeq f),toks:=t' }:=by
 have q:=PySem.IsL.update e f
 rw[hf] at q
 refine I.write (x:=l) (e:=l) (by rw[hH];exact trivial) (.inl rfl) (fun b' u hb hu=>(Heap.get?_update_other s.heap (Obj.mapSeq f) (Ne.symm hb)).trans hu) ⟨_,q⟩ ?_
 exact⟨hz,its',_,hv,q⟩
theorem Inv.lnew{its:List Value}{t':Nat}(I:Inv X pins σ H s)(hv:Vals ys its)(hz:ys.length<=sizeLine):Inv X pins σ (upd H s.heap.objs.size (.lst ys)) { s with heap:=s.heap.push { cls:=.type "list",data:=.seq its.toArray },toks:=t' }:=
 I.laid (fun _ _ q=>ad _ q) (al _) ⟨hz,its,0,hv,ah _ rfl⟩
theorem Inv.fresh(I:Inv X pins σ H s):H s.heap.objs.size=none:=I.hok.fresh (al _)
theorem Inv.lstM(I:Inv X pins σ H s)(hH:H l=some (.lst xs)):xs.length<=sizeLine/\∃(its:List Value) (n:Nat),Vals xs its/\xs.length=its.length/\s.heap.get? l=some { cls:=.type "list",data:=.seq its.toArray n }:=by
 obtain⟨z,its,n,r,e⟩:=I.hok l _ hH
 exact⟨z,its,n,r,r.length,e⟩
theorem Q2{n:Nat}(h:n<=sizeLine):Builtin.List.listTooLong n=false:=by
 unfold Builtin.List.listTooLong
 exact decide_eq_false (by omega)
end
section
variable{X:Cx}
noncomputable def zB4:V->List V->Hp->VK->Prop:=fun x vs H Q=>∃l xs y,x=.ref l/\vs=[y]/\H l=some (.lst xs)/\xs.length<sizeLine/\Q .non (upd H l (.lst (xs++[y])))
theorem jK:MtM X "list.append" zB4:=by
 intro pins s σ H x vs v us Q I rx rv h
 obtain⟨l,xs,y,rfl,rfl,hH,hz,q⟩:=h
 cases rx
 obtain⟨u,rfl,ru⟩:=rv.one
 obtain⟨z,its,n,r,hl,e⟩:=I.lstM hH
 refine call_meets F.slot_list_append ⟨_,e,rfl⟩ F.entry_list_append (F.args_list_append_2 _ _) (PySem.list_append l its.toArray n u (by rw[ag];omega)) ⟨e,?_⟩
 refine⟨.non,_,I.lset (its':=its++[u]) hH e (by simp) (r.append (.cons ru .nil)) ?_,rfl,q⟩
 rw[List.length_append,List.length_singleton]
 omega
noncomputable def zMD:V->List V->Hp->VK->Prop:=fun x vs H Q=>∃l xs y,x=.ref l/\vs=[]/\H l=some (.lst xs)/\xs[xs.length-1]?=some y/\Q y (upd H l (.lst xs.dropLast))
theorem ZR:MtM X "list.pop" zMD:=by
 intro pins s σ H x vs v us Q I rx rv h
 obtain⟨l,xs,y,rfl,rfl,hH,hy,q⟩:=h
 cases rx
 have hus:=rv.zero
 subst hus
 obtain⟨z,its,n,r,hl,e⟩:=I.lstM hH
 obtain⟨u,hu,ru⟩:=r.get hy
 have hy':its.toArray[its.toArray.size-1]?=some u:=by
  show its.toArray[its.length-1]?=some u
  rw[<-Array.getElem?_toList,<-hl]
  exact hu
 refine call_meets F.slot_list_pop ⟨_,e,rfl⟩ F.entry_list_pop (F.args_list_pop_1 _) (MeetsSeq.list_pop_last l its.toArray n u hy' (by rw[ag];omega)) ⟨e,?_⟩
 refine⟨y,_,I.lset (its':=its.dropLast) hH e ?_ r.dropLast ?_,ru,q⟩
 ·show its.toArray.eraseIdxIfInBounds (its.toArray.size-1)=its.dropLast.toArray
  rw[ag,List.eraseIdxIfInBounds_toArray,nW]
 ·rw[List.length_dropLast]
  omega
noncomputable def zGP:V->List V->Hp->VK->Prop:=fun x vs H Q=>∃l xs i k y,x=.ref l/\vs=[.int i]/\H l=some (.lst xs)/\-(2 ^ 63)<=i/\i<2 ^ 63/\seqIndex? i xs.length=some k/\xs[k]?=some y/\Q y (upd H l (.lst (xs.eraseIdx k)))
theorem Q6:MtM X "list.pop" zGP:=by
 intro pins s σ H x vs v us Q I rx rv h
 obtain⟨l,xs,i,k,y,rfl,rfl,hH,h1,h2,hk,hy,q⟩:=h
 cases rx
 obtain⟨u,rfl,ru⟩:=rv.one
 obtain⟨t,rfl⟩:=ru
 obtain⟨z,its,n,r,hl,e⟩:=I.lstM hH
 obtain⟨w,hw,rw'⟩:=r.get hy
 refine call_meets F.slot_list_pop ⟨_,e,rfl⟩ F.entry_list_pop (F.args_list_pop_2 _ _)
  (MeetsSeq.list_pop_at l its.toArray n i t k w (fitsIndex_both h1 h2) (by rw[ag,<-hl];exact hk) (by rw[<-Array.getElem?_toList];exact hw) (by rw[ag];omega)) ⟨e,?_⟩
 refine⟨y,_,I.lset (its':=its.eraseIdx k) hH e ?_ (r.eraseIdx k) ?_,rw',q⟩
 ·show its.toArray.eraseIdxIfInBounds k=(its.eraseIdx k).toArray
  rw[List.eraseIdxIfInBounds_toArray]
 ·have:=gW xs k
  omega
end
end L2
namespace Att
open PySem PySem.W PySem.Calls PyProof.Rows
theorem kT{P:Params}{h:Heap}:∀(ns:List Int) (vs:List Value),WellAll P h vs (ns.map WData.int)->IntsAre vs ns:=by
 intro ns
 induction ns with
 |nil=>
  intro vs w
  rw[List.map_nil] at w
  cases w
  exact .nil
 |cons n ns ih=>
  intro vs w
  rw[ao] at w
  cases w with
  |cons a b=>
   cases a
   exact .cons _ _ (ih _ b)
theorem tT{l:OpenLaw}{n:Nat}(hn:l.most=some n){P:Params}{h:Heap}{args:List WData}{vals:List Value}(hpre:l.row.toRowW.claim.pre args=true)(hwl:WellAll P h vals args):∃a vs ns,vals=[Value.ref a]/\args=[WData.list (ns.map WData.int)]/\h.get? a=some { cls:=.type "list",data:=.seq vs.toArray }/\IntsAre vs ns/\ns.length<=n:=by
 have hsh:WShape.hasAll [] args [.list .int]=true:=(pre_splitW hpre).1
 have hc:l.pre.holds [] { args:=args } = true:=(pre_splitW hpre).2
 obtain⟨d,r,rfl,h1,h2⟩:=hasAllW_cons hsh
 obtain rfl:=hasAllW_nil h2
 obtain⟨xs,rfl,h3⟩:=hasW_list h1
 obtain⟨ns,rfl⟩:=items_int h3
 have hlen:ns.length<=n:=by
  unfold OpenLaw.pre at hc
  have h4:(WTm.not (.lt (.lit (.int (n:Int))) (.len (.arg 0)))).holds [] { args:=[.list (ns.map .int)] } = true:=by
   have h4:=(holds_andW hc).1
   rw[hn] at h4
   exact h4
  have h5:=condW_of h4 (w_not (w_lt w_lit (w_len_list (w_arg rfl))))
  rw[ay] at h5
  refine Nat.le_of_not_lt fun q=>?_
  have q':(n:Int)<((ns.length:Nat):Int):=by omega
  first
   |(rw[decide_eq_true q'] at h5;exact absurd h5 (by decide))
   |(simp at h5;omega)
 cases hwl with
 |cons w1 w2=>
  cases w2
  cases w1 with
  |list ho hall=>exact⟨_,_,ns,rfl,rfl,ho,kT ns _ hall,hlen⟩
theorem ZD(l:OpenLaw)(args:List WData):l.row.toRowW.claim.post args (.bool true) args=true:=
 postW_of (r:=l.row.toRowW) (X:=(true == true))
  (show WShape.has [] (.bool true) .bool=true by first|rfl|decide|simp[WShape.has,WShape.arms,WShape.armsAll])
  (show(WTm.eq .res (.lit (.bool true))).value [] { args:=args,res:=some (.bool true),after:=args } = some (.bool (true == true)) from w_eq_bool (w_res rfl) w_lit) rfl
theorem attach_call{l:OpenLaw}{n:Nat}{q:Program}{loose:List Str}{XP:(Str->Option Value)->Heap->Prop}{YP:World->Heap->Prop}{d:DefRec}(hn:l.most=some n)(hdf:d.params.defaults=[])(call:∀(w:World) (s₀ s₁:Shared) (mg mb:Str->Option Value) (fa:Addr) (o:Obj) (pm cd doc:Value) (a:Addr) (vs:List Value) (ns:List Int),
   Ground q loose [] XP w s₀ mg mb s₁.heap->YP w s₁.heap ->
   s₁.heap.get? fa=some o->o.data=.func (docDef d.name d.params d.body d.scope pm cd doc)->s₁.heap.CodeRec cd d.name->mg d.name=some (.ref fa) ->
   s₁.heap.get? a=some { cls:=.type "list",data:=.seq vs.toArray }->IntsAre vs ns->ns.length<=n->s₁.gens = #[] ->
   codeAny (model l.prog w) callerA (.call (.ref fa) ⟨[.ref a],[]⟩) (fun r s'=>r=.ok (.ret (.bool true))/\OldK s₁.heap s'.heap/\s'.os=s₁.os/\AllBare s'.gens) s₁):WalkO q loose XP YP l.row.toRowW d [] (fun f vs=>PySem.call f vs):=by
 intro w s₀ s₁ mg mb G Y fa o pm cd doc dV kV ho hd hcd hD hmg hg args vals as hpre hlay hrd hwl hlo
 obtain rfl:dV=.none:=Dflts.none hD hdf
 obtain rfl:kV=.none:=Dflts.noKw hD
 obtain⟨a,vs,ns,rfl,rfl,hobj,hints,hlen⟩:=tT hn hpre hwl
 refine enter_call (codeAny_mono (call w s₀ s₁ mg mb fa o pm cd doc a vs ns G Y ho (fd_plain hd) hcd hmg hobj hints hlen hg) fun r s' hq=>?_)
 obtain⟨rfl,h2,h3,h4⟩:=hq
 exact⟨.inl ⟨.bool true,.bool true,[],rfl,fun _=>rfl,.bool true,ZD l _,fun _=>⟨List.Pairwise.nil,fun _ hm=>(nomatch hm)⟩⟩,h2,h3,h4⟩
end Att
namespace L2
open PySem PySem.Spec PyProof.Rows
theorem dX:∀{vs:List Value} {ns:List Int},IntsAre vs ns->Vals (ns.map V.int) vs
 |_,_,.nil=>.nil
 |_,_,.cons n t h=>.cons ⟨t,rfl⟩ (dX h)
noncomputable def zLL(H:Hp):Prop:=∀b,H b=none\/∃o xs,H b=some (.frz o (.lst xs))
theorem JF{P:Program}{w:World}{K:Fg}{mg mb:Str->Option Value}{CX:CXT}{k:Nat}{fa a:Addr}{fd:FuncData}{x:Str}{sp:Sp}{s₁:Shared}{vs:List Value}{ns:List Int}(KX:K.In s₁.heap)(hns:s₁.heap.Ns mainGlobals mg)(hb:s₁.heap.Ns builtinsNs mb)(hbb:∀x:Str,x ≠ "__name__" -> mb x=bootBuiltins x)(hlim:s₁.heap.NoLimit)(hg:s₁.gens = #[])(ha:s₁.heap.get? a=some { cls:=.type "list",data:=.seq vs.toArray })(hi:IntsAre vs ns)(hl:ns.length<=sizeLine)(hr:Room k callerA)(F:∀base:Heap,K.In base->base.Ns mainGlobals mg->FnOk P w K mg base CX k fa fd [x] sp)(hbind:∀(s:Shared) (u:Value),BindsTo s fd ⟨[u],[]⟩ [(x,u)])(hsp:∀H:Hp,zLL H->SqL K H a (ns.map V.int)->sp [.ref a] H (fun v _=>v=.bl true) fun _ _ _=>False)(hCX:∀H e s',CX [] H s₁ (fun _ _ _=>False) e s'->False):codeAny (model P w) callerA (.call (.ref fa) ⟨[.ref a],[]⟩) (fun r s'=>r=.ok (.ret (.bool true))/\OldK s₁.heap s'.heap/\s'.os=s₁.os/\AllBare s'.gens) s₁:=by
 have rv:=dX hi
 have lenV:=hi.length
 have core:∀H:Hp,zLL H->SqL K H a (ns.map V.int)->HOk P w H s₁.heap->(∀b,H b≠none->b=a)->(H a≠none->K.lookup a=none) ->
   codeAny (model P w) callerA (.call (.ref fa) ⟨[.ref a],[]⟩) (fun r s'=>r=.ok (.ret (.bool true))/\OldK s₁.heap s'.heap/\s'.os=s₁.os/\AllBare s'.gens) s₁:=by
  intro H hO hS hok hA hK
  have base_of:∀{b:Addr} {o:Obj},s₁.heap.get? b=some o->H b=none->(zFC s₁.heap H).get? b=some o:=fun e n=>JJ e n
  have noA:∀{b:Addr} {o:Obj} {es:Array DictEntry} {ep:Nat},s₁.heap.get? b=some o->o.data=.dict es ep->H b=none:=fun {b o es ep} e d=>by
   cases q:H b with
   |none=>rfl
   |some u=>
    have e':b=a:=hA b (by rw[q];simp)
    subst e'
    rw[ha] at e;cases e
    have d':Data.seq vs.toArray _=Data.dict es ep:=d
    cases d'
  have nsK:∀{b:Addr} {m:Str->Option Value},s₁.heap.Ns b m->(zFC s₁.heap H).Ns b m:=fun {b m} ⟨o,es,ep,e,d,r⟩=>⟨o,es,ep,base_of e (noA e d),d,r⟩
  have hKb:K.In (zFC s₁.heap H):=fun b o e=>base_of (KX b o e) (by
   cases q:H b with
   |none=>rfl
   |some u=>
    have e':b=a:=hA b (by rw[q];simp)
    subst e'
    rw[hK (by rw[q];simp)] at e;cases e)
  have hM:Mod K mg (zFC s₁.heap H):=⟨hKb,nsK hns,⟨mb,nsK hb,hbb⟩,let ⟨mc,h1,h2⟩:=hlim;⟨mc,nsK h1,h2⟩⟩
  have e0:Env0 P w K mg (zFC s₁.heap H) callerA [] s₁ H:=⟨rfl,hM,fun b o e=>zCZ e,Nat.le_of_eq (Z8 _ _),trivial,⟨fun b hb=>absurd (show b∈([]:List Addr) from hb) (by simp),trivial⟩,hok,.of_eq hg⟩
  refine codeAny_mono ((F _ hKb (nsK hns)).run callerA [] s₁ H ⟨[.ref a],[]⟩ [.ref a] [.ref a] _ _ hr e0 (hbind s₁ (.ref a)) (.cons rfl .nil) (hsp H hO hS)) fun r s' h=>?_
  cases r with
  |error e=>exact(hCX H e s' h).elim
  |ok fl=>
   cases fl with
   |next=>exact False.elim h
   |brk=>exact False.elim h
   |cont=>exact False.elim h
   |ret u=>
    obtain⟨v,H',os,bare,un,hok',r',q⟩:=h
    have q':v=.bl true:=q
    subst q'
    obtain rfl:u=Value.bool true:=r'
    refine⟨rfl,OldK.of_keep fun b o e=>?_,os,bare⟩
    cases q:H b with
    |none=>exact un.keep b o e q (by intro z;exact absurd (show b∈([]:List Addr) from z) (by simp)) (by simp)
    |some u=>
     rcases hO b with z|⟨ob,xs,z⟩
     ·rw[q] at z;cases z
     ·have z2:=un.frzs b ob _ z
      obtain⟨e1,_⟩:=hok b _ z
      obtain⟨e2,_⟩:=hok' b _ z2
      rw[e] at e1;cases e1
      exact e2
 cases hk:K.lookup a with
 |some o=>
  have e:=KX a o hk
  rw[ha] at e
  cases e
  refine core (fun _=>none) (fun _=>.inl rfl) (.inr ⟨_,vs.toArray,_,hk,rfl,rfl,rfl,by rw[ag,lenV];exact hl,by simpa using rv⟩) (fun b u z=>by have z':(none:Option HO)=some u:=z;cases z') (fun b z=>absurd rfl z) fun z=>absurd rfl z
 |none=>
  refine core (fun b=>if b=a then some (.frz { cls:=.type "list",data:=.seq vs.toArray } (.lst (ns.map V.int))) else none) (fun b=>?_) (.inl (.inr ⟨{ cls:=.type "list",data:=.seq vs.toArray },if_pos rfl⟩)) (fun b u z=>?_) (fun b z=>?_) fun _=>hk
  ·by_cases hb:b=a
   ·exact .inr ⟨_,_,if_pos hb⟩
   ·exact .inl (if_neg hb)
  ·by_cases hb:b=a
   ·have z':=(if_pos hb).symm.trans z
    cases z'
    subst hb
    exact⟨ha,by rw[ay];exact hl,vs,_,rv,ha⟩
   ·have z':=(if_neg hb).symm.trans z
    cases z'
  ·by_cases hb:b=a
   ·exact hb
   ·exact absurd (if_neg hb) z
end L2
namespace L2
open PySem PySem.Spec PyProof.Rows
theorem zA5{l:PySem.W.OpenLaw}{n k:Nat}{q:Program}{loose:List Str}{XP:(Str->Option Value)->Heap->Prop}{YP:World->Heap->Prop}{d:DefRec}{K:Params->Fg}{CX:World->CXT}{sp:World->Sp}{x:Str}(hn:l.most=some n)(hn2:n<=sizeLine)(hdf:d.params.defaults=[])(hr:Room k callerA)(hY:∀(w:World) (h:Heap),YP w h->(K w.params).In h)(F:∀(w:World) (mg:Str->Option Value) (fa:Addr) (h:Heap),(K w.params).In h->h.Ns mainGlobals mg->mg d.name=some (.ref fa) ->
   ∃fd:FuncData,(∀(s:Shared) (u:Value),BindsTo s fd ⟨[u],[]⟩ [(x,u)]) /\
    ∀base:Heap,(K w.params).In base->base.Ns mainGlobals mg->FnOk l.prog w (K w.params) mg base (CX w) k fa fd [x] (sp w))(hsp:∀(w:World) (H:Hp) (a:Addr) (ns:List Int),ns.length<=n->zLL H->SqL (K w.params) H a (ns.map V.int)->sp w [.ref a] H (fun v _=>v=.bl true) fun _ _ _=>False)(hCX:∀(w:World) (H:Hp) (s:Shared) (e:Value) (s':Shared),CX w [] H s (fun _ _ _=>False) e s'->False):PySem.W.WalkO q loose XP YP l.row.toRowW d [] (fun f vs=>PySem.call f vs):=by
 refine Att.attach_call hn hdf fun w s₀ s₁ mg mb fa o pm cd doc a vs ns G Y ho hd hcd hmg hobj hints hlen hg=>?_
 have KX:=hY w _ Y
 obtain⟨fd,hb,hF⟩:=F w mg fa _ KX G.T.g hmg
 exact JF KX G.T.g G.T.b G.T.builtins G.T.nolimit hg hobj hints (Nat.le_trans hlen hn2) hr hF hb (fun H hO hS=>hsp w H a ns hlen hO hS) fun H e s'=>hCX w H s₁ e s'
theorem walk_ofK{l:PySem.W.OpenLaw}{n k:Nat}{q:Program}{loose:List Str}{XP:(Str->Option Value)->Heap->Prop}{YP:World->Heap->Prop}{d:DefRec}{K:Params->Fg}{CX:CXT}{sp:Fg->Sp}{x:Str}(hn:l.most=some n)(hn2:n<=sizeLine)(hdf:d.params.defaults=[])(hr:Room k callerA)(hY:∀(w:World) (h:Heap),YP w h->(K w.params).In h)(F:∀(w:World) (mg:Str->Option Value) (fa:Addr) (h:Heap),(K w.params).In h->h.Ns mainGlobals mg->mg d.name=some (.ref fa) ->
   ∃fd:FuncData,(∀(s:Shared) (u:Value),BindsTo s fd ⟨[u],[]⟩ [(x,u)]) /\
    ∀base:Heap,(K w.params).In base->base.Ns mainGlobals mg->FnOk l.prog w (K w.params) mg base CX k fa fd [x] (sp (K w.params)))(hsp:∀(K:Fg) (H:Hp) (a:Addr) (ns:List Int),ns.length<=n->zLL H->SqL K H a (ns.map V.int)->sp K [.ref a] H (fun v _=>v=.bl true) fun _ _ _=>False)(hCX:∀(H:Hp) (s:Shared) (e:Value) (s':Shared),CX [] H s (fun _ _ _=>False) e s'->False):PySem.W.WalkO q loose XP YP l.row.toRowW d [] (fun f vs=>PySem.call f vs):=
 zA5 (K:=K) (CX:=fun _=>CX) (sp:=fun w=>sp (K w.params)) hn hn2 hdf hr hY F (fun w H a ns h1 h2 h3=>hsp (K w.params) H a ns h1 h2 h3) fun _ H s e s'=>hCX H s e s'
end L2
namespace L2
open PySem PySem.Spec PyProof.Rows
noncomputable def jY(s:Stmt):Arguments:=match s with
 |.FunctionDef _ a _ _ _ _ _ _ _ _=>a
 |_=>{ posonlyargs:=[],args:=[],vararg:=none,kwonlyargs:=[],kw_defaults:=[],kwarg:=none,defaults:=[] }
noncomputable def wX(s:Stmt):List Stmt:=match s with
 |.FunctionDef _ _ b _ _ _ _ _ _ _=>b
 |_=>[]
noncomputable def zP(s:Stmt):Scope:=match s with
 |.FunctionDef _ _ _ _ _ _ sc _ _ _=>sc
 |_=>{ kind:=.function,names:=[],isGenerator:=false,isCoroutine:=false }
noncomputable abbrev CX0:CXT:=fun _ _ _ _ _ _=>False
noncomputable abbrev E0:XK:=fun _ _ _=>False
theorem cS{X:Cx}:bE CX0 X E0:=fun _ _ _ _ _ _ _ h=>h.elim
structure Fun(K:Fg)(x qual:Str)(st:Stmt)(f:Addr)(fd:FuncData):Prop where
 ex:∃(oc:Value) (od:Option Addr) (kV doc pm:Value) (an:Option Addr) (cdv ct:Value) (osl:Array (Option Value)),
  fd=PySem.W.fnOf x qual (jY st) (wX st) (zP st) .none kV doc pm an cdv ct/\K.lookup f=some ⟨oc,od,.func fd,osl⟩/\PySem.W.codeIn K cdv qual=true
 kp:PySem.W.keepIn K (.ref f)=true
section
variable{P:Program}{w:World}{K:Fg}{mg:Str->Option Value}{base:Heap}
theorem Fun.ok{x qual:Str}{st:Stmt}{f:Addr}{fd:FuncData}{N ps:List Str}{k:Nat}{sp:Sp}(F:Fun K x qual st f fd)(S:FnScope N ps (zP st))(len:∀vs H Q E,sp vs H Q E->vs.length=ps.length)(hbody:∀(cdv:Value) (A:Around) (outer:List Env) (s:Shared) (H:Hp) (vs:List V) (Q:VK) (E:XK),Room k (A.deeper (envOfC qual (zP st) s.heap.objs.size f cdv))->sp vs H Q E ->
   ∃t,PSs (zFE CX0 P w K mg base N qual (zP st) f cdv A outer s H E).nox (wX st) t/\t { nx:=fun _ H'=>Q .non H',rt:=Q } (start N vs) H):FnOk P w K mg base CX0 (k+1) f fd ps sp:=by
 obtain⟨oc,od,kV,doc,pm,an,cdv,ct,osl,rfl,lk,hcd⟩:=F.ex
 refine zJG lk hcd S len fun A outer s H vs Q E hr hsp=>?_
 obtain⟨t,h,q⟩:=hbody cdv A outer s H vs Q E hr hsp
 exact⟨t,h.nox,q⟩
theorem Fun.binds{x qual:Str}{st:Stmt}{f:Addr}{fd:FuncData}{ps:List Str}(F:Fun K x qual st f fd)(h:∀(kV doc pm:Value) (an:Option Addr) (cdv ct:Value) (us:List Value),us.length=ps.length->bindArgs (PySem.W.fnOf x qual (jY st) (wX st) (zP st) .none kV doc pm an cdv ct) ⟨us,[]⟩=pure (ps.zip us)):Binds K fd ps []:=by
 obtain⟨oc,od,kV,doc,pm,an,cdv,ct,osl,rfl,lk,hcd⟩:=F.ex
 exact .all (h kV doc pm an cdv ct)
theorem YB{x qual:Str}{st:Stmt}{f:Addr}{oc:Value}{od an:Option Addr}{osl:Array (Option Value)}{kV doc pm cdv ct:Value}(l:K.lookup f=some ⟨oc,od,.func (PySem.W.fnOf x qual (jY st) (wX st) (zP st) .none kV doc pm an cdv ct),osl⟩)(c:PySem.W.codeIn K cdv qual=true)(k:PySem.W.keepIn K (.ref f)=true):Fun K x qual st f (PySem.W.fnOf x qual (jY st) (wX st) (zP st) .none kV doc pm an cdv ct):=⟨⟨oc,od,kV,doc,pm,an,cdv,ct,osl,rfl,l,c⟩,k⟩
end
section
variable{X:Cx}
theorem pv(i:Nat){x:Str}{pos:Pos}(hN:X.N[i]?=some x:=by rfl)(hv:Vis X.env.scope x:=by first|exact Or.inl rfl|exact Or.inr (Or.inl rfl)|exact Or.inr (Or.inr rfl))(hd:(x == ("__debug__" : Str))=false:=by decide)(hcd:(x == ("__classdict__" : Str))=false:=by decide):PE X (.Name x pos) (j3 i):=zGY hN hv hd hcd
end
theorem zJT{A B:Prop}(h:B):if false=true then A else B:=by
 rw[if_neg am]
 exact h
theorem zJS{A B:Prop}(h:A):if true=true then A else B:=by
 rw[if_pos rfl]
 exact h
noncomputable def Same(H H':Hp):Prop:=∀b o,H b=some o->H' b=some o
theorem Same.refl(H:Hp):Same H H:=fun _ _ h=>h
theorem Same.trans{H H1 H2:Hp}(a:Same H H1)(b:Same H1 H2):Same H H2:=fun c o h=>b c o (a c o h)
theorem Same.free{H H':Hp}(e:Same H H'){l:Addr}(h:H' l=Option.none):H l=Option.none:=by
 cases q:H l with
 |none=>rfl
 |some o=>
  rw[e l o q] at h
  cases h
theorem Same.seq{K:Fg}{H H':Hp}{a:Addr}{xs:List V}(e:Same H H')(h:SqL K H a xs):SqL K H' a xs:=by
 rcases h with(h|⟨o,h⟩)|h
 ·exact .inl (.inl (e _ _ h))
 ·exact .inl (.inr ⟨o,e _ _ h⟩)
 ·exact .inr h
end L2
namespace DD
open PySem PySem.Spec PyProof.Rows L2
noncomputable abbrev St:=L2.St
inductive D where
 |non|bl (b:Bool)|int (i:Int)|str (s:List Nat)|tup (l:List D)|lst (l:List D)|ty (n:String)|ref (a:Addr)|dct (ks:List Key) (l:List D)
noncomputable def LsAt(K:Fg)(O:Addr->Prop)(H:Hp)(a:Addr)(xs:List V):Prop:=
 (¬O a/\Rd H a (.lst xs))\/∃(o:Obj) (its:Array Value) (n:Nat),K.lookup a=some o/\o.cls=.type "list" /\ o.dict=none/\o.data=.seq its n/\its.size<=sizeLine/\Vals xs its.toList
theorem LsAt.sq{K:Fg}{O:Addr->Prop}{H:Hp}{a:Addr}{xs:List V}(h:LsAt K O H a xs):SqL K H a xs:=h.imp (·.2) id
mutual
noncomputable def Is(K:Fg)(O:Addr->Prop)(H:Hp):D->V->Prop
 |.non,v=>v=.non
 |.bl b,v=>v=.bl b
 |.int i,v=>v=.int i
 |.str s,v=>v=.str ⟨s.toArray⟩
 |.ty n,v=>v=.ty n
 |.ref a,v=>v=.ref a
 |.tup l,v=>∃a xs,v=.ref a/\SqT K H a xs/\IsL K O H l xs
 |.lst l,v=>∃a xs,v=.ref a/\LsAt K O H a xs/\IsL K O H l xs
 |.dct ks l,v=>∃a kvs,v=.ref a/\¬O a/\Rd H a (.dK kvs)/\kvs.map (·.1)=ks/\IsL K O H l (kvs.map (·.2))
noncomputable def IsL(K:Fg)(O:Addr->Prop)(H:Hp):List D->List V->Prop
 |[],vs=>vs=[]
 |d::l,vs=>∃v r,vs=v::r/\Is K O H d v/\IsL K O H l r
end
noncomputable def Mb:HO->Prop
 |.lst _=>True
 |.dK _=>True
 |.frz _ (.dK _)=>True
 |.ins _ _ _=>True
 |_=>False
noncomputable def qR(O:Addr->Prop)(H:Hp):Prop:=∀a,O a->∃o,H a=some o/\Mb o
noncomputable def vK(O:Addr->Prop)(H H':Hp):Prop:=∀b o,H b=some o->¬O b->H' b=some o
theorem Rd.some{H:Hp}{a:Addr}{u:HO}(h:Rd H a u):∃o,H a=some o:=by
 rcases h with h|⟨o,h⟩
 ·exact⟨_,h⟩
 ·exact⟨_,h⟩
theorem SqT.keep{K:Fg}{O:Addr->Prop}{H H':Hp}{a:Addr}{xs:List V}(k:vK O H H')(o:qR O H)(h:SqT K H a xs):SqT K H' a xs:=by
 rcases h with(h|⟨ob,h⟩)|h
 ·exact .inl (.inl (k _ _ h fun z=>by obtain⟨ys,q,m⟩:=o a z;rw[h] at q;cases q;exact m))
 ·exact .inl (.inr ⟨ob,k _ _ h fun z=>by obtain⟨ys,q,m⟩:=o a z;rw[h] at q;cases q;exact m⟩)
 ·exact .inr h
theorem Rd.keep{O:Addr->Prop}{H H':Hp}{a:Addr}{u:HO}(k:vK O H H')(n:¬O a)(h:Rd H a u):Rd H' a u:=by
 rcases h with h|⟨ob,h⟩
 ·exact .inl (k _ _ h n)
 ·exact .inr ⟨ob,k _ _ h n⟩
mutual
theorem Is.mono{K:Fg}{O O':Addr->Prop}{H H':Hp}(k:vK O H H')(ol:qR O H)(oo:∀a,O' a->H a≠none->O a):∀(d:D) (v:V),Is K O H d v->Is K O' H' d v
 |.non,v,h=>by unfold Is at h ⊢;exact h
 |.bl b,v,h=>by unfold Is at h ⊢;exact h
 |.int i,v,h=>by unfold Is at h ⊢;exact h
 |.str s,v,h=>by unfold Is at h ⊢;exact h
 |.ty n,v,h=>by unfold Is at h ⊢;exact h
 |.ref a,v,h=>by unfold Is at h ⊢;exact h
 |.tup l,v,h=>by
  unfold Is at h ⊢
  obtain⟨a,xs,e,q,r⟩:=h
  exact⟨a,xs,e,SqT.keep k ol q,IsL.mono k ol oo l xs r⟩
 |.lst l,v,h=>by
  unfold Is at h ⊢
  obtain⟨a,xs,e,nq,r⟩:=h
  refine⟨a,xs,e,?_,IsL.mono k ol oo l xs r⟩
  rcases nq with⟨n,q⟩|q
  ·exact .inl ⟨fun z=>n (oo a z (by obtain⟨o,q⟩:=Rd.some q;rw[q];simp)),Rd.keep k n q⟩
  ·exact .inr q
 |.dct ks l,v,h=>by
  unfold Is at h ⊢
  obtain⟨a,kvs,e,n,q,e2,r⟩:=h
  exact⟨a,kvs,e,fun z=>n (oo a z (by obtain⟨o,q⟩:=Rd.some q;rw[q];simp)),Rd.keep k n q,e2,IsL.mono k ol oo l _ r⟩
theorem IsL.mono{K:Fg}{O O':Addr->Prop}{H H':Hp}(k:vK O H H')(ol:qR O H)(oo:∀a,O' a->H a≠none->O a):∀(l:List D) (vs:List V),IsL K O H l vs->IsL K O' H' l vs
 |[],vs,h=>by unfold IsL at h ⊢;exact h
 |d::l,vs,h=>by
  unfold IsL at h ⊢
  obtain⟨v,r,e,h1,h2⟩:=h
  exact⟨v,r,e,Is.mono k ol oo d v h1,IsL.mono k ol oo l r h2⟩
end
theorem Same.kp{H H':Hp}(s:Same H H')(O:Addr->Prop):vK O H H':=fun b o e _=>s b o e
theorem Is.same{K:Fg}{O:Addr->Prop}{H H':Hp}{d:D}{v:V}(s:Same H H')(ol:qR O H)(h:Is K O H d v):Is K O H' d v:=Is.mono (Same.kp s O) ol (fun _ z _=>z) d v h
theorem IsL.same{K:Fg}{O:Addr->Prop}{H H':Hp}{l:List D}{vs:List V}(s:Same H H')(ol:qR O H)(h:IsL K O H l vs):IsL K O H' l vs:=IsL.mono (Same.kp s O) ol (fun _ z _=>z) l vs h
section
variable{K:Fg}{O:Addr->Prop}{H:Hp}
theorem IsL.length:∀{l:List D} {vs:List V},IsL K O H l vs->l.length=vs.length
 |[],vs,h=>by unfold IsL at h;subst h;rfl
 |d::l,vs,h=>by unfold IsL at h;obtain⟨v,r,rfl,_,h2⟩:=h;simp[IsL.length h2]
theorem IsL.get:∀{l:List D} {vs:List V} {i:Nat} {d:D},IsL K O H l vs->l[i]?=some d->∃v,vs[i]?=some v/\Is K O H d v
 |[],_,_,_,_,e=>by simp at e
 |d::l,vs,0,d',h,e=>by
  unfold IsL at h;obtain⟨v,r,rfl,h1,h2⟩:=h
  simp at e;subst e;exact⟨v,rfl,h1⟩
 |d::l,vs,i+1,d',h,e=>by
  unfold IsL at h;obtain⟨v,r,rfl,h1,h2⟩:=h
  obtain⟨u,q1,q2⟩:=IsL.get (i:=i) h2 (by simpa using e)
  exact⟨u,by simpa using q1,q2⟩
theorem IsL.nil:IsL K O H [] []:=by unfold IsL;rfl
theorem IsL.cons{d:D}{v:V}{l:List D}{vs:List V}(h:Is K O H d v)(t:IsL K O H l vs):IsL K O H (d::l) (v::vs):=by unfold IsL;exact⟨v,vs,rfl,h,t⟩
theorem IsL.append:∀{l m:List D} {vs us:List V},IsL K O H l vs->IsL K O H m us->IsL K O H (l++m) (vs++us)
 |[],_,_,_,h,t=>by unfold IsL at h;subst h;exact t
 |d::l,m,vs,us,h,t=>by unfold IsL at h;obtain⟨v,r,rfl,h1,h2⟩:=h;exact .cons h1 (IsL.append h2 t)
theorem IsL.take:∀{l:List D} {vs:List V} (n:Nat),IsL K O H l vs->IsL K O H (l.take n) (vs.take n)
 |_,_,0,_=>by simpa using IsL.nil
 |[],_,_+1,h=>by unfold IsL at h;subst h;simpa using IsL.nil
 |d::l,vs,n+1,h=>by unfold IsL at h;obtain⟨v,r,rfl,h1,h2⟩:=h;exact .cons h1 (IsL.take n h2)
theorem IsL.drop:∀{l:List D} {vs:List V} (n:Nat),IsL K O H l vs->IsL K O H (l.drop n) (vs.drop n)
 |_,_,0,h=>h
 |[],_,_+1,h=>by unfold IsL at h;subst h;simpa using IsL.nil
 |d::l,vs,n+1,h=>by unfold IsL at h;obtain⟨v,r,rfl,h1,h2⟩:=h;exact IsL.drop n h2
theorem IsL.reverse:∀{l:List D} {vs:List V},IsL K O H l vs->IsL K O H l.reverse vs.reverse
 |[],_,h=>by unfold IsL at h;subst h;exact IsL.nil
 |d::l,vs,h=>by
  unfold IsL at h;obtain⟨v,r,rfl,h1,h2⟩:=h
  rw[List.reverse_cons,List.reverse_cons];exact(IsL.reverse h2).append (.cons h1 .nil)
theorem IsL.inv1{d:D}{vs:List V}(h:IsL K O H [d] vs):∃v,vs=[v]/\Is K O H d v:=by
 unfold IsL at h
 obtain⟨v,r,rfl,h1,h2⟩:=h
 unfold IsL at h2;subst h2
 exact⟨v,rfl,h1⟩
theorem IsL.inv2{d e:D}{vs:List V}(h:IsL K O H [d,e] vs):∃v u,vs=[v,u]/\Is K O H d v/\Is K O H e u:=by
 unfold IsL at h
 obtain⟨v,r,rfl,h1,h2⟩:=h
 obtain⟨u,rfl,h3⟩:=h2.inv1
 exact⟨v,u,rfl,h1,h3⟩
theorem Is.int_iff{i:Int}{v:V}:Is K O H (.int i) v↔v=.int i:=by unfold Is;exact Iff.rfl
theorem Is.bl_iff{b:Bool}{v:V}:Is K O H (.bl b) v↔v=.bl b:=by unfold Is;exact Iff.rfl
theorem Is.str_iff{s:List Nat}{v:V}:Is K O H (.str s) v↔v=.str ⟨s.toArray⟩:=by unfold Is;exact Iff.rfl
theorem Is.non_iff{v:V}:Is K O H .non v↔v=.non:=by unfold Is;exact Iff.rfl
theorem Is.ref_iff{a:Addr}{v:V}:Is K O H (.ref a) v↔v=.ref a:=by unfold Is;exact Iff.rfl
theorem Is.tup_iff{l:List D}{v:V}:Is K O H (.tup l) v↔∃a xs,v=.ref a/\SqT K H a xs/\IsL K O H l xs:=by unfold Is;exact Iff.rfl
theorem Is.lst_iff{l:List D}{v:V}:Is K O H (.lst l) v↔∃a xs,v=.ref a/\LsAt K O H a xs/\IsL K O H l xs:=by unfold Is;exact Iff.rfl
theorem Is.dct_iff{ks:List Key}{l:List D}{v:V}:Is K O H (.dct ks l) v↔∃a kvs,v=.ref a/\¬O a/\Rd H a (.dK kvs)/\kvs.map (·.1)=ks/\IsL K O H l (kvs.map (·.2)):=by unfold Is;exact Iff.rfl
end
inductive Sl where
 |un|v (d:D)|o (l:List D)|p (l:List D)|z (l:List D)|d (ks:List Key) (l:List D)
noncomputable abbrev En:=List Sl
noncomputable def Sl.own:Sl->Option (List D)
 |.o l=>some l
 |.p l=>some l
 |.z l=>some l
 |.d _ l=>some l
 |_=>none
noncomputable def Sl.mt:Sl->Option (List D)
 |.o l=>some l
 |.p l=>some l
 |.d _ l=>some l
 |_=>none
noncomputable def Sl.ls:Sl->Option (List D)
 |.o l=>some l
 |.p l=>some l
 |.z l=>some l
 |_=>none
noncomputable def Sl.ml:Sl->Option (List D)
 |.o l=>some l
 |.p l=>some l
 |_=>none
theorem zDB{x:Sl}{l:List D}(h:x.ml=some l):x.mt=some l/\x.ls=some l:=by
 cases x<;>first|(cases h;exact⟨rfl,rfl⟩)|cases h
theorem zHN{x:Option Sl}{l:List D}(h:x.bind Sl.ml=some l):x.bind Sl.mt=some l:=by
 cases x with
 |none=>cases h
 |some x=>exact(zDB (x:=x) h).1
theorem zHQ{x:Sl}{l:List D}(h:x.ls=some l):x.own=some l:=by
 cases x<;>first|(cases h;rfl)|cases h
theorem qW{x:Option Sl}{l:List D}(h:x.bind Sl.ls=some l):x.bind Sl.own=some l:=by
 cases x with
 |none=>cases h
 |some x=>exact zHQ (x:=x) h
theorem zCU{x:Option Sl}{l:List D}(h:x.bind Sl.own=some l):x.bind Sl.ls=some l\/∃ks,x=some (.d ks l):=by
 cases x with
 |none=>cases h
 |some x=>cases x<;>first|(cases h;exact .inl rfl)|(cases h;exact .inr ⟨_,rfl⟩)|cases h
noncomputable def AtS(q:Sl->Option (List D))(r:En)(σ:St)(a:Addr):Prop:=∃(i:Nat) (l:List D),(r[i]?).bind q=some l/\σ[i]?=some (some (.ref a))
noncomputable abbrev wK:=AtS Sl.own
noncomputable abbrev MutAt:=AtS Sl.mt
theorem kP{x:Sl}{l:List D}(h:x.mt=some l):x.own=some l:=by
 cases x<;>first|(cases h;rfl)|cases h
theorem MutAt.own{r:En}{σ:St}{a:Addr}(h:MutAt r σ a):wK r σ a:=by
 obtain⟨i,l,e,q⟩:=h
 obtain⟨x,e1,e2⟩:=Option.bind_eq_some_iff.mp e
 exact⟨i,l,by rw[e1];exact kP e2,q⟩
noncomputable def Ow(O0:Addr->Prop)(r:En)(σ:St):Addr->Prop:=fun a=>O0 a\/wK r σ a
structure R(K:Fg)(O0:Addr->Prop)(H:Hp)(r:En)(σ:St):Prop where
 len:r.length=σ.length
 val:∀(i:Nat) (d:D),r[i]?=some (.v d)->∃v,σ[i]?=some (some v)/\Is K (Ow O0 r σ) H d v
 own:∀(i:Nat) (l:List D),(r[i]?).bind Sl.ls=some l->∃a xs,σ[i]?=some (some (.ref a))/\H a=some (.lst xs)/\IsL K (Ow O0 r σ) H l xs
 apart:∀(i j:Nat) (a:Addr) (l m:List D),(r[i]?).bind Sl.own=some l->(r[j]?).bind Sl.own=some m->σ[i]?=some (some (.ref a))->σ[j]?=some (some (.ref a))->i=j
 o0:qR O0 H
 loc:∀(i:Nat) (l:List D) (a:Addr),(r[i]?=some (.o l)\/r[i]?=some (.z l)\/∃ks,r[i]?=some (.d ks l))->σ[i]?=some (some (.ref a))->¬O0 a
 par:∀(i:Nat) (l:List D) (a:Addr),r[i]?=some (.p l)->σ[i]?=some (some (.ref a))->O0 a
 dct:∀(i:Nat) (ks:List Key) (l:List D),r[i]?=some (.d ks l)->∃a kvs,σ[i]?=some (some (.ref a))/\H a=some (.dK kvs)/\kvs.map (·.1)=ks/\IsL K (Ow O0 r σ) H l (kvs.map (·.2))
theorem R.obj{K:Fg}{O0:Addr->Prop}{H:Hp}{r:En}{σ:St}(h:R K O0 H r σ){j:Nat}{m:List D}(e:(r[j]?).bind Sl.own=some m):∃a o,σ[j]?=some (some (.ref a))/\H a=some o/\Mb o:=by
 rcases zCU e with e|⟨ks,e⟩
 ·obtain⟨a,xs,e1,e2,_⟩:=h.own j m e
  exact⟨a,_,e1,e2,trivial⟩
 ·obtain⟨a,kvs,e1,e2,_⟩:=h.dct j ks m e
  exact⟨a,_,e1,e2,trivial⟩
theorem R.ol{K:Fg}{O0:Addr->Prop}{H:Hp}{r:En}{σ:St}(h:R K O0 H r σ):qR (Ow O0 r σ) H:=fun a z=>by
 rcases z with z|⟨i,l,e,q⟩
 ·exact h.o0 a z
 ·rcases zCU e with e|⟨ks,e⟩
  ·obtain⟨b,xs,e1,e2,_⟩:=h.own i l e
   rw[q] at e1;cases e1
   exact⟨.lst xs,e2,trivial⟩
  ·obtain⟨b,kvs,e1,e2,_⟩:=h.dct i ks l e
   rw[q] at e1;cases e1
   exact⟨.dK kvs,e2,trivial⟩
theorem R.nofresh{K:Fg}{O0:Addr->Prop}{H:Hp}{r:En}{σ:St}(h:R K O0 H r σ){a:Addr}(n:H a=none):¬Ow O0 r σ a:=fun z=>by
 obtain⟨o,e,_⟩:=h.ol a z
 rw[n] at e;cases e
theorem R.same{K:Fg}{O0:Addr->Prop}{H H':Hp}{r:En}{σ:St}(h:R K O0 H r σ)(s:Same H H'):R K O0 H' r σ where
 len:=h.len
 val:=fun i d e=>by obtain⟨v,e1,q⟩:=h.val i d e;exact⟨v,e1,q.same s h.ol⟩
 own:=fun i l e=>by obtain⟨a,xs,e1,e2,q⟩:=h.own i l e;exact⟨a,xs,e1,s _ _ e2,q.same s h.ol⟩
 dct:=fun i ks l e=>by obtain⟨a,kvs,e1,e2,e3,q⟩:=h.dct i ks l e;exact⟨a,kvs,e1,s _ _ e2,e3,q.same s h.ol⟩
 apart:=h.apart
 o0:=fun a z=>by obtain⟨xs,e,m⟩:=h.o0 a z;exact⟨xs,s _ _ e,m⟩
 loc:=h.loc
 par:=h.par
structure Kp(H:Hp)(r:En)(σ:St)(H':Hp)(r':En)(σ':St):Prop where
 keep:vK (MutAt r σ) H H'
 live:∀b,H' b=none->H b=none
 lst:∀b o,H b=some o->Mb o->∃o',H' b=some o'/\Mb o'
 new:∀b,wK r' σ' b->wK r σ b\/H b=none
 mnew:∀b,MutAt r' σ' b->MutAt r σ b\/H b=none
 par:∀(i:Nat) (l:List D),r[i]?=some (.p l)->(∃l',r'[i]?=some (.p l'))/\σ'[i]?=σ[i]?
 fz:∀(i:Nat) (l:List D),r[i]?=some (.z l)->r'[i]?=some (.z l)/\σ'[i]?=σ[i]?
theorem Kp.of_same{H H':Hp}(r:En)(σ:St)(s:Same H H'):Kp H r σ H' r σ:=
 ⟨fun b o e _=>s b o e,fun b e=>s.free e,fun b o e m=>⟨o,s _ _ e,m⟩,fun b z=>.inl z,fun b z=>.inl z,fun i l e=>⟨⟨l,e⟩,rfl⟩,fun i l e=>⟨e,rfl⟩⟩
theorem Kp.refl(H:Hp)(r:En)(σ:St):Kp H r σ H r σ:=.of_same r σ (Same.refl H)
theorem Kp.trans{H H1 H2:Hp}{r r1 r2:En}{σ σ1 σ2:St}(a:Kp H r σ H1 r1 σ1)(b:Kp H1 r1 σ1 H2 r2 σ2):Kp H r σ H2 r2 σ2 where
 keep:=fun c o e n=>b.keep c o (a.keep c o e n) fun z=>(a.mnew c z).elim n fun q=>by rw[e] at q;cases q
 live:=fun c e=>a.live c (b.live c e)
 lst:=fun c o e m=>by obtain⟨o1,q,m1⟩:=a.lst c o e m;exact b.lst c o1 q m1
 new:=fun c z=>(b.new c z).elim (a.new c) fun q=>.inr (a.live c q)
 mnew:=fun c z=>(b.mnew c z).elim (a.mnew c) fun q=>.inr (a.live c q)
 par:=fun i l e=>by
  obtain⟨⟨l1,e1⟩,q1⟩:=a.par i l e
  obtain⟨⟨l2,e2⟩,q2⟩:=b.par i l1 e1
  exact⟨⟨l2,e2⟩,q2.trans q1⟩
 fz:=fun i l e=>by
  obtain⟨e1,q1⟩:=a.fz i l e
  obtain⟨e2,q2⟩:=b.fz i l e1
  exact⟨e2,q2.trans q1⟩
theorem PE.conseq{X:Cx}{e:Expr}{t t':TE}(h:PE X e t)(i:∀σ H Q,t' σ H Q->t σ H Q):PE X e t':=fun pins s σ H Q I q=>h pins s σ H Q I (i σ H Q q)
theorem PT.conseq{X:Cx}{e:Expr}{t t':TT}(h:PT X e t)(i:∀σ H Q,t' σ H Q->t σ H Q):PT X e t':=fun pins s σ H Q I q=>h pins s σ H Q I (i σ H Q q)
theorem PA.conseq{X:Cx}{e:List Expr}{t t':TA}(h:PA X e t)(i:∀σ H Q,t' σ H Q->t σ H Q):PA X e t':=fun pos pins s σ H Q I q=>h pos pins s σ H Q I (i σ H Q q)
theorem PS.conseq{X:Cx}{st:Stmt}{t t':TS}(h:PS X st t)(i:∀D σ H,t' D σ H->t D σ H):PS X st t':=fun pins s σ H D I q=>h pins s σ H D I (i D σ H q)
theorem PSs.conseq{X:Cx}{st:List Stmt}{t t':TS}(h:PSs X st t)(i:∀D σ H,t' D σ H->t D σ H):PSs X st t':=fun pins s σ H D I q=>h pins s σ H D I (i D σ H q)
noncomputable abbrev ME:=En->Option D
noncomputable abbrev ML:=En->Option (List D)
noncomputable abbrev MB:=En->Option Bool
noncomputable def lE(K:Fg)(f:ME):TE:=fun σ H Q=>∃O0 r d,R K O0 H r σ/\f r=some d/\∀v H',Same H H'->Is K (Ow O0 r σ) H' d v->Q v H'
noncomputable def lT(K:Fg)(f:MB):TT:=fun σ H Q=>∃O0 r b,R K O0 H r σ/\f r=some b/\∀H',Same H H'->Q b H'
noncomputable def lA(K:Fg)(f:ML):TA:=fun σ H Q=>∃O0 r l,R K O0 H r σ/\f r=some l/\∀vs H',Same H H'->IsL K (Ow O0 r σ) H' l vs->Q vs H'
noncomputable def lF(K:Fg)(f:ML):TE:=fun σ H Q=>∃O0 r l,R K O0 H r σ/\f r=some l/\∀a xs H',Same H H'->H a=none->H' a=some (.lst xs)->IsL K (fun b=>Ow O0 r σ b\/b=a) H' l xs->Q (.ref a) H'
noncomputable def lB(K:Fg)(f:ML):TE:=fun σ H Q=>∃O0 r l,R K O0 H r σ/\f r=some l/\∀a xs H',Same H H'->SqL K H' a xs->IsL K (Ow O0 r σ) H' l xs->Q (.ref a) H'
noncomputable def lX(K:Fg)(f:En->Option (D×En)):TE:=fun σ H Q=>∃O0 r d r',R K O0 H r σ/\f r=some (d,r')/\∀v H',R K O0 H' r' σ->Kp H r σ H' r' σ->Is K (Ow O0 r' σ) H' d v->Q v H'
noncomputable def DE(X:Cx)(e:Expr)(f:ME):Prop:=PE X e (lE X.K f)
noncomputable def DT(X:Cx)(e:Expr)(f:MB):Prop:=PT X e (lT X.K f)
noncomputable def DA(X:Cx)(es:List Expr)(f:ML):Prop:=PA X es (lA X.K f)
noncomputable def DF(X:Cx)(e:Expr)(f:ML):Prop:=PE X e (lF X.K f)
noncomputable def DB(X:Cx)(e:Expr)(f:ML):Prop:=PE X e (lB X.K f)
noncomputable def DX(X:Cx)(e:Expr)(f:En->Option (D×En)):Prop:=PE X e (lX X.K f)
inductive Fl where
 |nx (r:En)|bk (r:En)|ct (r:En)|rt (d:D) (r:En)|rf (l:List D) (r:En)|rg (ks:List Key) (l:List D) (r:En)
noncomputable abbrev MS:=En->Option Fl
noncomputable def FrA(H:Hp)(r:En)(σ:St)(a:Addr):Prop:=H a=none\/∃(i:Nat) (l:List D),(r[i]?=some (.o l)\/∃ks,r[i]?=some (.d ks l))/\σ[i]?=some (some (.ref a))
noncomputable def PostS(K:Fg)(O0:Addr->Prop)(H:Hp)(r:En)(σ:St)(Dn:Ends):Fl->Prop
 |.nx r'=>∀σ' H',R K O0 H' r' σ'->Kp H r σ H' r' σ'->Dn.nx σ' H'
 |.bk r'=>∀σ' H',R K O0 H' r' σ'->Kp H r σ H' r' σ'->Dn.bk σ' H'
 |.ct r'=>∀σ' H',R K O0 H' r' σ'->Kp H r σ H' r' σ'->Dn.ct σ' H'
 |.rt d r'=>∀v σ' H',R K O0 H' r' σ'->Kp H r σ H' r' σ'->Is K O0 H' d v->Dn.rt v H'
 |.rf l r'=>∀a xs σ' H',R K O0 H' r' σ'->Kp H r σ H' r' σ'->FrA H r σ a->¬O0 a->H' a=some (.lst xs)->IsL K (fun b=>O0 b\/b=a) H' l xs->Dn.rt (.ref a) H'
 |.rg ks l r'=>∀a kvs σ' H',R K O0 H' r' σ'->Kp H r σ H' r' σ'->FrA H r σ a->¬O0 a->H' a=some (.dK kvs)->kvs.map (·.1)=ks->IsL K (fun b=>O0 b\/b=a) H' l (kvs.map (·.2))->Dn.rt (.ref a) H'
noncomputable def lS(K:Fg)(g:MS):TS:=fun Dn σ H=>∃O0 r fl,R K O0 H r σ/\g r=some fl/\PostS K O0 H r σ Dn fl
noncomputable def DS(X:Cx)(st:Stmt)(g:MS):Prop:=PS X st (lS X.K g)
noncomputable def DSs(X:Cx)(st:List Stmt)(g:MS):Prop:=PSs X st (lS X.K g)
theorem PostS.before{K:Fg}{O0:Addr->Prop}{H H1:Hp}{r r1:En}{σ σ1:St}{Dn:Ends}{fl:Fl}(R1:R K O0 H1 r1 σ1)(k:Kp H r σ H1 r1 σ1)(h:PostS K O0 H r σ Dn fl):PostS K O0 H1 r1 σ1 Dn fl:=by
 have fra:∀a,FrA H1 r1 σ1 a->FrA H r σ a:=fun a z=>by
  rcases z with z|⟨i,l,e,q⟩
  ·exact .inl (k.live a z)
  ·have eo:(r1[i]?).bind Sl.own=some l:=by rcases e with e|⟨ks,e⟩<;>rw[e]<;>rfl
   have np:∀l2,r1[i]?≠some (.p l2):=fun l2 z=>by rcases e with e|⟨ks,e⟩<;>rw[e] at z<;>cases z
   have nz:∀l2,r1[i]?≠some (.z l2):=fun l2 z=>by rcases e with e|⟨ks,e⟩<;>rw[e] at z<;>cases z
   rcases k.new a ⟨i,l,eo,q⟩ with⟨j,m,e2,q2⟩|z
   ·cases ej:r[j]? with
    |none=>rw[ej] at e2;cases e2
    |some x=>
     rw[ej] at e2
     cases x with
     |un=>cases e2
     |v d=>cases e2
     |o l'=>exact .inr ⟨j,l',.inl ej,q2⟩
     |p l'=>
      obtain⟨⟨l2,e3⟩,q3⟩:=k.par j l' ej
      have:=R1.apart i j a l l2 eo (by rw[e3];rfl) q (q3.trans q2)
      subst this
      exact absurd e3 (np _)
     |z l'=>
      obtain⟨e3,q3⟩:=k.fz j l' ej
      have:=R1.apart i j a l l' eo (by rw[e3];rfl) q (q3.trans q2)
      subst this
      exact absurd e3 (nz _)
     |d ks l'=>exact .inr ⟨j,l',.inr ⟨ks,ej⟩,q2⟩
   ·exact .inl z
 cases fl with
 |nx r'=>exact fun σ' H' h1 h2=>h σ' H' h1 (k.trans h2)
 |bk r'=>exact fun σ' H' h1 h2=>h σ' H' h1 (k.trans h2)
 |ct r'=>exact fun σ' H' h1 h2=>h σ' H' h1 (k.trans h2)
 |rt d r'=>exact fun v σ' H' h1 h2 h3=>h v σ' H' h1 (k.trans h2) h3
 |rf l r'=>exact fun a xs σ' H' h1 h2 h3 h4 h5 h6=>h a xs σ' H' h1 (k.trans h2) (fra a h3) h4 h5 h6
 |rg ks l r'=>exact fun a xs σ' H' h1 h2 h3 h4 h5 h6 h7=>h a xs σ' H' h1 (k.trans h2) (fra a h3) h4 h5 h6 h7
noncomputable def mC(d:D):ME:=fun _=>some d
noncomputable def zE(i:Nat):ME:=fun r=>match r[i]? with
 |some (.v d)=>some d
 |_=>none
noncomputable def dF(i:Nat):ML:=fun r=>(r[i]?).bind Sl.ls
noncomputable def zJ(m:D->D->Option D)(f g:ME):ME:=fun r=>(f r).bind fun x=>(g r).bind fun y=>m x y
noncomputable def mUn(m:D->Option D)(f:ME):ME:=fun r=>(f r).bind m
noncomputable def zU:ML:=fun _=>some []
noncomputable def zD(f:ME)(g:ML):ML:=fun r=>(f r).bind fun x=>(g r).bind fun l=>some (x::l)
noncomputable def xI(f:ML):ME:=fun r=>(f r).bind fun l=>if l.length<=sizeLine then some (.tup l) else none
noncomputable def vX(f:ML):ML:=fun r=>(f r).bind fun l=>if l.length<=sizeLine then some l else none
noncomputable def uA(f:ML):ME:=fun r=>(f r).map .lst
noncomputable def zFA(f g:ME):ME:=fun r=>(f r).bind fun d=>match d with
 |.bl true=>g r
 |.bl false=>some (.bl false)
 |_=>none
noncomputable def zMN:D->Option D
 |.bl b=>some (.bl !b)
 |_=>none
noncomputable def zAA(f g:MB):MB:=fun r=>(f r).bind fun b=>if b=true then g r else some false
noncomputable def zL0(f g:MB):MB:=fun r=>(f r).bind fun b=>if b=true then some true else g r
noncomputable def XM(f:MB):MB:=fun r=>(f r).map (!·)
noncomputable def mIf(c:MB)(f g:ME):ME:=fun r=>(c r).bind fun b=>if b=true then f r else g r
noncomputable def blD:D->Option Bool
 |.bl b=>some b
 |_=>none
noncomputable def mBl(f:ME):MB:=fun r=>(f r).bind blD
noncomputable def zLR:D->Option Bool
 |.non=>some false
 |.bl b=>some b
 |.int i=>some (i != 0)
 |.str s=>if s.length<=sizeLine then some (!s.isEmpty) else none
 |.tup l=>some (!l.isEmpty)
 |.lst l=>some (!l.isEmpty)
 |_=>none
noncomputable def mO(fl:ML):MB:=fun r=>(fl r).map fun l=>!l.isEmpty
noncomputable def uX(f:ME):MB:=fun r=>(f r).bind zLR
section
variable{X:Cx}{pos:Pos}{a b c:Expr}{f g:ME}
theorem bind_some{α β:Type}{o:Option α}{h:α->Option β}{y:β}(e:o.bind h=some y):∃x,o=some x/\h x=some y:=by
 cases o with
 |none=>cases e
 |some x=>exact⟨x,rfl,e⟩
theorem zJL{t:TE}(h:PE X a t)(i:∀O0 σ H r d Q,R X.K O0 H r σ->f r=some d->(∀v H',Same H H'->Is X.K (Ow O0 r σ) H' d v->Q v H')->t σ H Q):DE X a f:=
 PE.conseq h fun σ H Q ⟨O0,r,d,hR,e,q⟩=>i O0 σ H r d Q hR e q
theorem zB(i:Nat){x:Str}(h:PE X (.Name x pos) (j3 i)):DE X (.Name x pos) (zE i):=
 zJL h fun O0 σ H r d Q hR e q=>by
  unfold zE at e
  have e':r[i]?=some (.v d):=by
   split at e
   ·rename_i d' h;cases e;exact h
   ·cases e
  obtain⟨v,e1,q1⟩:=hR.val i d e'
  exact⟨v,e1,q v H (Same.refl H) q1⟩
theorem cN(i:Nat){x:Str}(h:PE X (.Name x pos) (j3 i)):DB X (.Name x pos) (dF i):=
 PE.conseq h fun σ H Q ⟨O0,r,l,hR,e,q⟩=>by
  obtain⟨a,xs,e1,e2,q1⟩:=hR.own i l e
  exact⟨.ref a,e1,q a xs H (Same.refl H) (SqL.of e2) q1⟩
theorem h8{v:V}{d:D}(h:PE X a (tC v))(hd:∀O H,Is X.K O H d v):DE X a (mC d):=
 zJL h fun O0 σ H r d' Q hR e q=>by
  unfold mC at e
  cases e
  exact q v H (Same.refl H) (hd _ _)
theorem zF{i j}:DE X (.Constant (.int i) j pos) (mC (.int i)):=h8 nE fun O H=>by unfold Is;rfl
theorem rJ{i j}:DE X (.Constant (.bool i) j pos) (mC (.bl i)):=h8 zKT fun O H=>by unfold Is;rfl
theorem zIK{j}:DE X (.Constant .none j pos) (mC .non):=h8 zCO fun O H=>by unfold Is;rfl
theorem zY{x:Str}{s:List Nat}{j}(e:x.cps.toList=s:=by rfl):DE X (.Constant (.str x) j pos) (mC (.str s)):=h8 zGZ fun O H=>by
 unfold Is;subst e;simp
noncomputable def OpD(K:Fg)(r2:R2)(m:D->D->Option D):Prop:=∀(O:Addr->Prop) (H:Hp) (dx dy d:D) (vx vy:V) (Q:VK),qR O H->Is K O H dx vx->Is K O H dy vy->m dx dy=some d->(∀v H',Same H H'->Is K O H' d v->Q v H')->r2 vx vy H Q
theorem two{ta tb:TE}{r2:R2}{m:D->D->Option D}(hd:OpD X.K r2 m){σ:St}{H:Hp}{Q:VK}(h:lE X.K (zJ m f g) σ H Q):tOp r2 (lE X.K f) (lE X.K g) σ H Q:=by
 obtain⟨O0,r,d,hR,e,q⟩:=h
 obtain⟨x,e1,e⟩:=bind_some e
 obtain⟨y,e2,e⟩:=bind_some e
 refine⟨O0,r,x,hR,e1,fun v1 H1 s1 i1=>⟨O0,r,y,hR.same s1,e2,fun v2 H2 s2 i2=>?_⟩⟩
 exact hd (Ow O0 r σ) H2 x y d v1 v2 Q (hR.same (s1.trans s2)).ol (i1.same s2 (hR.same s1).ol) i2 e fun v H' s' i'=>q v H' ((s1.trans s2).trans s') i'
theorem zR{op:Operator}{r2:R2}{m:D->D->Option D}(ho:OpR X (binaryOp op) r2)(hd:OpD X.K r2 m)(ha:DE X a f)(hb:DE X b g):DE X (.BinOp a op b pos) (zJ m f g):=
 PE.conseq (zI4 ho ha hb) fun σ H Q h=>two (ta:=lE X.K f) (tb:=lE X.K g) hd h
theorem YL{op:CmpOp}{r2:R2}{m:D->D->Option D}(ho:OpR X (compareOp op) r2)(hd:OpD X.K r2 m)(ha:DE X a f)(hb:DE X b g)(hm:behindInMarks op b=false):DE X (.Compare a [op] [b] pos) (zJ m f g):=
 PE.conseq (zCS ho ha hb hm) fun σ H Q h=>two (ta:=lE X.K f) (tb:=lE X.K g) hd h
theorem xU{op:CmpOp}{r2:R2}{m:D->D->Option D}(ho:OpR X (compareOp op) r2)(hd:OpD X.K r2 m)(ha:DE X a f)(hb:DE X b g)(hm:behindInMarks op b=false):DT X (.Compare a [op] [b] pos) (mBl (zJ m f g)):=by
 refine PT.conseq (Y9 ho ha hb hm) fun σ H Q h=>?_
 obtain⟨O0,r,k,hR,e,q⟩:=h
 obtain⟨d,e1,e⟩:=bind_some e
 refine two (ta:=lE X.K f) (tb:=lE X.K g) (m:=m) hd ⟨O0,r,d,hR,e1,fun v H' s' i'=>?_⟩
 cases d<;>first|cases e|skip
 rw[Is.bl_iff] at i'
 exact⟨_,i',q H' s'⟩
theorem zLC{op:UnaryOp}{r1:V->Hp->VK->Prop}{m:D->Option D}(ho:UnR X (unaryOp op) r1)(hd:∀(O:Addr->Prop) (H:Hp) (dx d:D) (vx:V) (Q:VK),Is X.K O H dx vx->m dx=some d->(∀v,Is X.K O H d v->Q v H)->r1 vx H Q)(ha:DE X a f):DE X (.UnaryOp op a pos) (mUn m f):=by
 refine PE.conseq (zI3 ho ha) fun σ H Q h=>?_
 obtain⟨O0,r,d,hR,e,q⟩:=h
 obtain⟨x,e1,e⟩:=bind_some e
 exact⟨O0,r,x,hR,e1,fun v1 H1 s1 i1=>hd _ H1 x d v1 Q i1 e fun v i=>q v H1 s1 i⟩
theorem YK{op}(h:DE X a f):DE X (.BoolOp op [a] pos) f:=zG0 h
theorem oA{rest:List Expr}(ha:DE X a f)(hb:DE X (.BoolOp .And (b::rest) pos) g):DE X (.BoolOp .And (a::b::rest) pos) (zFA f g):=by
 refine PE.conseq (zG3 ha hb) fun σ H Q h=>?_
 obtain⟨O0,r,d,hR,e,q⟩:=h
 obtain⟨x,e1,e⟩:=bind_some e
 refine⟨O0,r,x,hR,e1,fun v1 H1 s1 i1=>?_⟩
 cases x with
 |bl k=>
  rw[Is.bl_iff] at i1
  refine⟨k,i1,?_⟩
  cases k with
  |true=>
   rw[if_pos rfl]
   exact⟨O0,r,d,hR.same s1,e,fun v H' s' i'=>q v H' (s1.trans s') i'⟩
  |false=>
   rw[if_neg am]
   cases e
   exact q _ H1 s1 (by rw[Is.bl_iff])
 |_=>cases e
theorem zIJ(ha:DE X a f):DE X (.UnaryOp .Not a pos) (mUn zMN f):=by
 refine PE.conseq (zG1 ha) fun σ H Q h=>?_
 obtain⟨O0,r,d,hR,e,q⟩:=h
 obtain⟨x,e1,e⟩:=bind_some e
 refine⟨O0,r,x,hR,e1,fun v1 H1 s1 i1=>?_⟩
 cases x with
 |bl k=>
  rw[Is.bl_iff] at i1
  cases e
  exact⟨k,i1,q _ H1 s1 (by rw[Is.bl_iff])⟩
 |_=>cases e
section
variable{tf tg:MB}
theorem zED(ha:DT X a tf):PW X (.BoolOp .And [a] pos) (lT X.K tf):=Y7 ha
theorem zEC(ha:DT X a tf):PW X (.BoolOp .Or [a] pos) (lT X.K tf):=zGQ ha
theorem PW.conseq{e:Expr}{t t':TT}(h:PW X e t)(i:∀σ H Q,t' σ H Q->t σ H Q):PW X e t':=fun wh pins s σ H Q I q=>h wh pins s σ H Q I (i σ H Q q)
theorem zID{rest:List Expr}(ha:DT X a tf)(hb:PW X (.BoolOp .And (b::rest) pos) (lT X.K tg)):PW X (.BoolOp .And (a::b::rest) pos) (lT X.K (zAA tf tg)):=by
 refine PW.conseq (zB5 ha hb) fun σ H Q h=>?_
 obtain⟨O0,r,d,hR,e,q⟩:=h
 obtain⟨x,e1,e⟩:=bind_some e
 refine⟨O0,r,x,hR,e1,fun H1 s1=>?_⟩
 cases x with
 |true=>
  rw[if_pos rfl]
  exact⟨O0,r,d,hR.same s1,e,fun H' s'=>q H' (s1.trans s')⟩
 |false=>
  rw[if_neg am]
  cases e
  exact q H1 s1
theorem zJJ{rest:List Expr}(ha:DT X a tf)(hb:PW X (.BoolOp .Or (b::rest) pos) (lT X.K tg)):PW X (.BoolOp .Or (a::b::rest) pos) (lT X.K (zL0 tf tg)):=by
 refine PW.conseq (zKO ha hb) fun σ H Q h=>?_
 obtain⟨O0,r,d,hR,e,q⟩:=h
 obtain⟨x,e1,e⟩:=bind_some e
 refine⟨O0,r,x,hR,e1,fun H1 s1=>?_⟩
 cases x with
 |true=>
  rw[if_pos rfl]
  cases e
  exact q H1 s1
 |false=>
  rw[if_neg am]
  exact⟨O0,r,d,hR.same s1,e,fun H' s'=>q H' (s1.trans s')⟩
theorem zL3(h:PW X a (lT X.K tf)):DT X a tf:=h.pt
theorem zIE(ha:DT X a tf):DT X (.UnaryOp .Not a pos) (XM tf):=by
 refine PT.conseq (zGT ha) fun σ H Q h=>?_
 obtain⟨O0,r,d,hR,e,q⟩:=h
 unfold XM at e
 cases e1:tf r with
 |none=>rw[e1] at e;cases e
 |some k=>
  rw[e1] at e;cases e
  exact⟨O0,r,k,hR,e1,fun H1 s1=>q H1 s1⟩
theorem zBK{K:Fg}{O:Addr->Prop}{H:Hp}{d:D}{v:V}{k:Bool}(h:Is K O H d v)(e:zLR d=some k):zL6 K v H k:=by
 cases d with
 |dct ks l=>cases e
 |non=>rw[Is.non_iff] at h;subst h;cases e;rfl
 |bl b=>rw[Is.bl_iff] at h;subst h;cases e;rfl
 |int i=>rw[Is.int_iff] at h;subst h;cases e;rfl
 |str s=>
  rw[Is.str_iff] at h;subst h
  simp only[zLR] at e
  split at e
  ·rename_i hl
   cases e
   refine⟨by simpa [Str.length] using hl,?_⟩
   cases s with
   |nil=>rfl
   |cons c r=>
    have:((r.length:Int)+1)≠0:=by omega
    simpa [Str.length] using this
  ·cases e
 |tup l=>
  rw[Is.tup_iff] at h;obtain⟨a,xs,rfl,hs,hl⟩:=h;cases e
  refine .inr (.inl ⟨xs,hs,?_⟩)
  have:=hl.length
  cases l<;>cases xs<;>simp_all
 |lst l=>
  rw[Is.lst_iff] at h;obtain⟨a,xs,rfl,hs,hl⟩:=h;cases e
  refine .inl ⟨xs,hs.sq,?_⟩
  have:=hl.length
  cases l<;>cases xs<;>simp_all
 |ty n=>cases e
 |ref a=>cases e
theorem vS(ha:DE X a f)(he:∀whole,isTrue a X.env whole=(do let v <- whole;standAt a.pos;holding [v] (truthy v)):=by intro _;rfl):DT X a (uX f):=by
 refine PT.conseq (dC ha he) fun σ H Q h=>?_
 obtain⟨O0,r,d,hR,e,q⟩:=h
 obtain⟨x,e1,e⟩:=bind_some e
 exact⟨O0,r,x,hR,e1,fun v1 H1 s1 i1=>⟨d,zBK i1 e,q H1 s1⟩⟩
theorem X0{fl:ML}(ha:DB X a fl)(he:∀whole,isTrue a X.env whole=(do let v <- whole;standAt a.pos;holding [v] (truthy v)):=by intro _;rfl):DT X a (mO fl):=by
 refine PT.conseq (dC ha he) fun σ H Q h=>?_
 obtain⟨O0,r,d,hR,e,q⟩:=h
 unfold mO at e
 cases e1:fl r with
 |none=>rw[e1] at e;cases e
 |some l=>
  rw[e1] at e;cases e
  refine⟨O0,r,l,hR,e1,fun a xs H1 s1 i1 i2=>⟨_,.inl ⟨xs,i1,?_⟩,q H1 s1⟩⟩
  have:=i2.length
  cases l<;>cases xs<;>simp_all
theorem zLD(hc:DT X c tf)(ha:DE X a f)(hb:DE X b g):DE X (.IfExp c a b pos) (mIf tf f g):=by
 refine PE.conseq (QQ hc ha hb) fun σ H Q h=>?_
 obtain⟨O0,r,d,hR,e,q⟩:=h
 obtain⟨x,e1,e⟩:=bind_some e
 refine⟨O0,r,x,hR,e1,fun H1 s1=>?_⟩
 cases x with
 |true=>rw[if_pos rfl];exact⟨O0,r,d,hR.same s1,e,fun v H' s' i'=>q v H' (s1.trans s') i'⟩
 |false=>rw[if_neg am];exact⟨O0,r,d,hR.same s1,e,fun v H' s' i'=>q v H' (s1.trans s') i'⟩
end
section
variable{es:List Expr}{fs:ML}
theorem zO:DA X [] zU:=PA.conseq y0 fun σ H Q ⟨O0,r,l,hR,e,q⟩=>by
 unfold zU at e;cases e
 exact q [] H (Same.refl H) .nil
theorem zA(ha:DE X a f)(hr:DA X es fs)(hs:starEach (a::es) X.env=(false,eval a X.env)::starEach es X.env:=by rfl):DA X (a::es) (zD f fs):=by
 refine PA.conseq (zX ha hr hs) fun σ H Q h=>?_
 obtain⟨O0,r,d,hR,e,q⟩:=h
 obtain⟨x,e1,e⟩:=bind_some e
 obtain⟨l,e2,e⟩:=bind_some e
 cases e
 exact⟨O0,r,x,hR,e1,fun v1 H1 s1 i1=>⟨O0,r,l,hR.same s1,e2,fun vs H2 s2 i2=>q _ H2 (s1.trans s2) (.cons (i1.same s2 (hR.same s1).ol) i2)⟩⟩
theorem zT{H:Hp}{p:Addr}{o:HO}(n:H p=none):Same H (upd H p o):=fun b u e=>by rw[zI (y4 e n)];exact e
theorem zZ{x1}(h:DA X es fs):DE X (.Tuple es x1 pos) (xI fs):=by
 refine PE.conseq (zCM h) fun σ H Q h=>?_
 obtain⟨O0,r,d,hR,e,q⟩:=h
 obtain⟨l,e1,e⟩:=bind_some e
 split at e
 ·rename_i hl
  cases e
  refine⟨O0,r,l,hR,e1,fun vs H1 s1 i1=>⟨by rw[<-i1.length];exact hl,fun p hp=>q _ _ (s1.trans (zT hp)) ?_⟩⟩
  rw[Is.tup_iff]
  exact⟨p,vs,rfl,SqT.of zK,i1.same (zT hp) (hR.same s1).ol⟩
 ·cases e
theorem jQ(h:DA X es fs):DF X (.List es pos) (vX fs):=by
 refine PE.conseq (QP h) fun σ H Q h=>?_
 obtain⟨O0,r,l',hR,e,q⟩:=h
 obtain⟨l,e1,e⟩:=bind_some e
 split at e
 ·rename_i hl
  have e':l=l':=aq e
  subst e'
  refine⟨O0,r,l,hR,e1,fun vs H1 s1 i1=>⟨by rw[<-i1.length];exact hl,fun p hp=>q _ _ _ (s1.trans (zT hp)) (s1.free hp) zK ?_⟩⟩
  refine IsL.mono (Same.kp (zT hp) _) (hR.same s1).ol (fun a z n=>?_) _ vs i1
  rcases z with z|z
  ·exact z
  ·subst z;exact absurd hp n
 ·cases e
theorem zFD{fl:ML}(h:DF X a fl):DE X a (uA fl):=by
 refine PE.conseq h fun σ H Q h=>?_
 obtain⟨O0,r,d,hR,e,q⟩:=h
 unfold uA at e
 cases e1:fl r with
 |none=>rw[e1] at e;cases e
 |some l=>
  rw[e1] at e;cases e
  refine⟨O0,r,l,hR,e1,fun p xs H1 s1 n1 e2 i1=>q _ H1 s1 ?_⟩
  rw[Is.lst_iff]
  have ol:qR (fun b=>Ow O0 r σ b\/b=p) H1:=fun b z=>z.elim (fun z=>(hR.same s1).ol b z) fun z=>by subst z;exact⟨.lst xs,e2,trivial⟩
  exact⟨p,xs,rfl,.inl ⟨hR.nofresh n1,.inl e2⟩,IsL.mono (Same.kp (Same.refl H1) _) ol (fun a z _=>.inl z) l xs i1⟩
end
end
noncomputable def xY:MS:=fun r=>some (.nx r)
noncomputable def yT(g h:MS):MS:=fun r=>(g r).bind fun fl=>match fl with
 |.nx r'=>h r'
 |x=>some x
noncomputable def yN(i:Nat)(d:D)(r:En):Option En:=match r[i]? with
 |some (.p _)=>none
 |some (.z _)=>none
 |some _=>some (r.set i (.v d))
 |none=>none
noncomputable def zLW(i:Nat)(l:List D)(r:En):Option En:=match r[i]? with
 |some (.p _)=>none
 |some (.z _)=>none
 |some _=>some (r.set i (.o l))
 |none=>none
noncomputable def wT(i:Nat)(f:ME):MS:=fun r=>(f r).bind fun d=>(yN i d r).map .nx
noncomputable def QB(i:Nat)(f:ML):MS:=fun r=>(f r).bind fun l=>(zLW i l r).map .nx
noncomputable def kH(f:ME):MS:=fun r=>(f r).map fun d=>.rt d r
noncomputable def gD(i:Nat):MS:=fun r=>match r[i]? with
 |some (.o l)=>some (.rf l r)
 |_=>none
noncomputable def sIf(c:MB)(g h:MS):MS:=fun r=>(c r).bind fun b=>if b=true then g r else h r
noncomputable def sX(f:En->Option (D×En)):MS:=fun r=>(f r).map fun p=>.nx p.2
noncomputable def J5(i:Nat)(f:En->Option (D×En)):MS:=fun r=>(f r).bind fun p=>(yN i p.1 p.2).map .nx
noncomputable def wS:Nat->MB->MS->MS
 |0,_,_=>fun _=>none
 |n+1,c,g=>fun r=>(c r).bind fun b=>if b=true then (g r).bind fun fl=>match fl with
   |.nx r'=>wS n c g r'
   |.ct r'=>wS n c g r'
   |.bk r'=>some (.nx r')
   |x=>some x
  else some (.nx r)
noncomputable def YC(bd:D->En->Option En)(g:MS):List D->MS
 |[],r=>some (.nx r)
 |d::l,r=>(bd d r).bind fun r1=>(g r1).bind fun fl=>match fl with
   |.nx r'=>YC bd g l r'
   |.ct r'=>YC bd g l r'
   |.bk r'=>some (.nx r')
   |x=>some x
noncomputable def tW(bd:D->En->Option En)(it:ML)(g:MS):MS:=fun r=>(it r).bind fun l=>YC bd g l r
theorem zC{α:Type}{l:List α}{i j:Nat}{x:α}(h:i≠j):(l.set i x)[j]?=l[j]?:=by rw[List.getElem?_set];simp[h]
theorem zG{α:Type}{l:List α}{i:Nat}{x:α}(h:i<l.length):(l.set i x)[i]?=some x:=by rw[List.getElem?_set];simp[h]
section
variable{K:Fg}{O0:Addr->Prop}{H H1:Hp}{r:En}{σ:St}{i:Nat}{d:D}{v:V}
theorem dD{q:Sl->Option (List D)}(hq:∀d,q (.v d)=none){a:Addr}{x:Option V}(h:AtS q (r.set i (.v d)) (σ.set i x) a):AtS q r σ a:=by
 obtain⟨j,l,e,q'⟩:=h
 by_cases hj:i=j
 ·subst hj
  by_cases hl:i<r.length
  ·rw[zG hl] at e
   have e':q (.v d)=some l:=e
   rw[hq] at e';cases e'
  ·rw[List.getElem?_eq_none (by simpa using hl)] at e;cases e
 ·rw[zC hj] at e q'
  exact⟨j,l,e,q'⟩
theorem R.setv(h:R K O0 H r σ)(hi:i<r.length)(np:∀l,r[i]?≠some (.p l)/\r[i]?≠some (.z l))(hv:Is K (Ow O0 r σ) H d v):R K O0 H (r.set i (.v d)) (σ.set i (some v))/\Kp H r σ H (r.set i (.v d)) (σ.set i (some v)):=by
 have his:i<σ.length:=by rw[<-h.len];exact hi
 have sub:∀a,Ow O0 (r.set i (.v d)) (σ.set i (some v)) a->H a≠none->Ow O0 r σ a:=fun a z _=>z.elim .inl fun z=>.inr (dD (fun _=>rfl) z)
 have ne:∀(j:Nat) (l:List D),((r.set i (.v d))[j]?).bind Sl.own=some l->i≠j:=fun j l e z=>by subst z;rw[zG hi] at e;cases e
 refine⟨⟨by simp[h.len],fun j d' e=>?_,fun j l e=>?_,fun j k a l m e1 e2 q1 q2=>?_,h.o0,fun j l a e q=>?_,fun j l a e q=>?_,fun j ks l e=>?_⟩,⟨fun b o e _=>e,fun b e=>e,fun b o e m=>⟨o,e,m⟩,fun b z=>.inl (dD (fun _=>rfl) z),fun b z=>.inl (dD (fun _=>rfl) z),fun j l e=>?_,fun j l e=>?_⟩⟩
 ·by_cases hj:i=j
  ·subst hj
   rw[zG hi] at e;cases e
   exact⟨v,zG his,Is.mono (Same.kp (Same.refl H) _) h.ol sub _ _ hv⟩
  ·rw[zC hj] at e
   obtain⟨u,e1,q⟩:=h.val j d' e
   exact⟨u,by rw[zC hj];exact e1,Is.mono (Same.kp (Same.refl H) _) h.ol sub _ _ q⟩
 ·have hj:=ne j l (qW e)
  rw[zC hj] at e
  obtain⟨a,xs,e1,e2,q⟩:=h.own j l e
  exact⟨a,xs,by rw[zC hj];exact e1,e2,IsL.mono (Same.kp (Same.refl H) _) h.ol sub _ _ q⟩
 ·have hj:=ne j l e1
  have hk:=ne k m e2
  rw[zC hj] at e1 q1
  rw[zC hk] at e2 q2
  exact h.apart j k a l m e1 e2 q1 q2
 ·have hj:i≠j:=ne j l (by rcases e with e|e|⟨ks,e⟩<;>rw[e]<;>rfl)
  rw[zC hj] at e q
  exact h.loc j l a e q
 ·have hj:i≠j:=ne j l (by rw[e];rfl)
  rw[zC hj] at e q
  exact h.par j l a e q
 ·have hj:=ne j l (by rw[e];rfl)
  rw[zC hj] at e
  obtain⟨a,kvs,e1,e2,e3,q⟩:=h.dct j ks l e
  exact⟨a,kvs,by rw[zC hj];exact e1,e2,e3,IsL.mono (Same.kp (Same.refl H) _) h.ol sub _ _ q⟩
 ·have hj:i≠j:=fun z=>by subst z;exact(np l).1 e
  exact⟨⟨l,by rw[zC hj];exact e⟩,zC hj⟩
 ·have hj:i≠j:=fun z=>by subst z;exact(np l).2 e
  exact⟨by rw[zC hj];exact e,zC hj⟩
theorem R.seto{l:List D}{xs:List V}{p:Addr}(h:R K O0 H r σ)(s:Same H H1)(n:H p=none)(e:H1 p=some (.lst xs))(hl:IsL K (fun b=>Ow O0 r σ b\/b=p) H1 l xs)(hi:i<r.length)(np:∀l,r[i]?≠some (.p l)/\r[i]?≠some (.z l)):R K O0 H1 (r.set i (.o l)) (σ.set i (some (.ref p)))/\Kp H r σ H1 (r.set i (.o l)) (σ.set i (some (.ref p))):=by
 have his:i<σ.length:=by rw[<-h.len];exact hi
 have ow:∀{q:Sl->Option (List D)} a,AtS q (r.set i (.o l)) (σ.set i (some (.ref p))) a->AtS q r σ a\/a=p:=fun {q} a z=>by
  obtain⟨j,m,e1,q1⟩:=z
  by_cases hj:i=j
  ·subst hj
   rw[zG his] at q1;cases q1;exact .inr rfl
  ·rw[zC hj] at e1 q1
   exact .inl ⟨j,m,e1,q1⟩
 have sub:∀a,Ow O0 (r.set i (.o l)) (σ.set i (some (.ref p))) a->H a≠none->Ow O0 r σ a:=fun a z nn=>z.elim .inl fun z=>(ow a z).elim .inr fun z=>by subst z;exact absurd n nn
 have olp:qR (fun b=>Ow O0 r σ b\/b=p) H1:=fun b z=>z.elim (fun z=>(h.same s).ol b z) fun z=>by subst z;exact⟨.lst xs,e,trivial⟩
 refine⟨⟨by simp[h.len],fun j d' e1=>?_,fun j m e1=>?_,fun j k a l1 m e1 e2 q1 q2=>?_,(h.same s).o0,fun j m a e1 q=>?_,fun j m a e1 q=>?_,fun j ks m e1=>?_⟩,⟨fun b o e1 _=>s b o e1,fun b e1=>s.free e1,fun b o e1 mb=>⟨o,s _ _ e1,mb⟩,fun b z=>(ow b z).imp id fun z=>by subst z;exact n,fun b z=>(ow b z).imp id fun z=>by subst z;exact n,fun j m e1=>?_,fun j m e1=>?_⟩⟩
 ·have hj:i≠j:=fun z=>by subst z;rw[zG hi] at e1;cases e1
  rw[zC hj] at e1
  obtain⟨u,e2,q⟩:=h.val j d' e1
  exact⟨u,by rw[zC hj];exact e2,Is.mono (Same.kp s _) h.ol sub _ _ q⟩
 ·by_cases hj:i=j
  ·subst hj
   rw[zG hi] at e1;cases e1
   refine⟨p,xs,zG his,e,IsL.mono (Same.kp (Same.refl H1) _) olp (fun a z _=>z.elim (fun z=>.inl (.inl z)) fun z=>(ow a z).imp .inr id) _ _ hl⟩
  ·rw[zC hj] at e1
   obtain⟨a,ys,e2,e3,q⟩:=h.own j m e1
   exact⟨a,ys,by rw[zC hj];exact e2,s _ _ e3,IsL.mono (Same.kp s _) h.ol sub _ _ q⟩
 ·have out:∀(j:Nat) (m:List D) (a:Addr),i≠j->((r.set i (.o l))[j]?).bind Sl.own=some m->(σ.set i (some (.ref p)))[j]?=some (some (.ref a))->a≠p:=fun j m a hj e1 q1 z=>by
   rw[zC hj] at e1 q1
   obtain⟨b,ys,e2,e3,_⟩:=h.obj e1
   rw[q1] at e2;cases e2
   subst z
   rw[n] at e3;cases e3
  by_cases hj:i=j
  ·by_cases hk:i=k
   ·exact hj.symm.trans hk
   ·subst hj
    rw[zG his] at q1;cases q1
    exact absurd rfl (out k m p hk e2 q2)
  ·by_cases hk:i=k
   ·subst hk
    rw[zG his] at q2;cases q2
    exact absurd rfl (out j l1 p hj e1 q1)
   ·rw[zC hj] at e1 q1
    rw[zC hk] at e2 q2
    exact h.apart j k a l1 m e1 e2 q1 q2
 ·by_cases hj:i=j
  ·subst hj
   rw[zG his] at q;cases q
   exact fun z=>by obtain⟨ys,e3,_⟩:=h.o0 p z;rw[n] at e3;cases e3
  ·rw[zC hj] at e1 q
   exact h.loc j m a e1 q
 ·have hj:i≠j:=fun z=>by subst z;rw[zG hi] at e1;cases e1
  rw[zC hj] at e1 q
  exact h.par j m a e1 q
 ·have hj:i≠j:=fun z=>by subst z;rw[zG hi] at e1;cases e1
  rw[zC hj] at e1
  obtain⟨a,kvs,e2,e3,e4,q⟩:=h.dct j ks m e1
  exact⟨a,kvs,by rw[zC hj];exact e2,s _ _ e3,e4,IsL.mono (Same.kp s _) h.ol sub _ _ q⟩
 ·have hj:i≠j:=fun z=>by subst z;exact(np m).1 e1
  exact⟨⟨m,by rw[zC hj];exact e1⟩,zC hj⟩
 ·have hj:i≠j:=fun z=>by subst z;exact(np m).2 e1
  exact⟨by rw[zC hj];exact e1,zC hj⟩
theorem qB{r':En}(e:yN i d r=some r'):i<r.length/\(∀l,r[i]?≠some (.p l)/\r[i]?≠some (.z l))/\r'=r.set i (.v d):=by
 unfold yN at e
 cases e1:r[i]? with
 |none=>rw[e1] at e;cases e
 |some x=>
  have hi:i<r.length:=(ak.mp e1).1
  rw[e1] at e
  cases x with
  |p l=>cases e
  |z l=>cases e
  |_=>cases e;exact⟨hi,fun l=>⟨(fun z=>by cases z),(fun z=>by cases z)⟩,rfl⟩
theorem tR{r':En}{l:List D}(e:zLW i l r=some r'):i<r.length/\(∀l,r[i]?≠some (.p l)/\r[i]?≠some (.z l))/\r'=r.set i (.o l):=by
 unfold zLW at e
 cases e1:r[i]? with
 |none=>rw[e1] at e;cases e
 |some x=>
  have hi:i<r.length:=(ak.mp e1).1
  rw[e1] at e
  cases x with
  |p l=>cases e
  |z l=>cases e
  |_=>cases e;exact⟨hi,fun l=>⟨(fun z=>by cases z),(fun z=>by cases z)⟩,rfl⟩
theorem map_some{α β:Type}{o:Option α}{h:α->β}{y:β}(e:o.map h=some y):∃x,o=some x/\h x=y:=by
 cases o with
 |none=>cases e
 |some x=>exact⟨x,rfl,aq e⟩
theorem Is.less{O:Addr->Prop}(h:R K O0 H r σ)(hi:Is K (Ow O0 r σ) H1 d v)(s:Same H H1):Is K O0 H1 d v:=Is.mono (Same.kp (Same.refl H1) _) (h.same s).ol (fun _ z _=>.inl z) _ _ hi
end
section
variable{X:Cx}{pos:Pos}{e:Expr}{f:ME}{fl:ML}{g h:MS}{st:Stmt}{rest:List Stmt}
theorem x9:DSs X [] xY:=PSs.conseq XA fun Dn σ H ⟨O0,r,f',hR,e,q⟩=>by
 unfold xY at e;cases e
 exact q σ H hR (Kp.refl H r σ)
theorem zM(h1:DS X st g)(h2:DSs X rest h):DSs X (st::rest) (yT g h):=by
 refine PSs.conseq (qL h1 h2) fun Dn σ H hq=>?_
 obtain⟨O0,r,fl,hR,e,q⟩:=hq
 obtain⟨f1,e1,e2⟩:=bind_some e
 cases f1 with
 |nx r1=>exact⟨O0,r,.nx r1,hR,e1,fun σ' H' R' k=>⟨O0,r1,fl,R',e2,q.before R' k⟩⟩
 |bk r1=>cases e2;exact⟨O0,r,_,hR,e1,q⟩
 |ct r1=>cases e2;exact⟨O0,r,_,hR,e1,q⟩
 |rt d r1=>cases e2;exact⟨O0,r,_,hR,e1,q⟩
 |rf l r1=>cases e2;exact⟨O0,r,_,hR,e1,q⟩
 |rg ks l r1=>cases e2;exact⟨O0,r,_,hR,e1,q⟩
theorem zW(h1:DS X st g):DSs X [st] g:=gG h1
theorem yS(i:Nat){x:Str}{pos':Pos}(he:DE X e f)(hN:X.N.Nodup)(hi:X.N[i]?=some x:=by rfl)(hx:Loc X.env.scope x:=by first|exact Or.inl rfl|exact Or.inr rfl)(hs:swapsWith e (some (.Name x pos')) pos.line X.env=pure false:=by rfl)(hf:X.fn x=true\/X.env.scope.names.lookup x=some .local:=by first|exact .inl rfl|exact .inr rfl):DS X (.Assign [.Name x pos'] e pos) (wT i f):=by
 refine PS.conseq (gH hN hi hx he hs hf) fun Dn σ H hq=>?_
 obtain⟨O0,r,fl,hR,e,q⟩:=hq
 obtain⟨d,e1,e2⟩:=bind_some e
 obtain⟨r',e3,rfl⟩:=map_some e2
 obtain⟨hl,np,rfl⟩:=qB e3
 refine⟨O0,r,d,hR,e1,fun v H1 s1 i1=>?_⟩
 obtain⟨R1,k1⟩:=(hR.same s1).setv hl np i1
 exact q _ H1 R1 ((Kp.of_same r σ s1).trans k1)
theorem kU(i:Nat){x:Str}{pos':Pos}(he:DF X e fl)(hN:X.N.Nodup)(hi:X.N[i]?=some x:=by rfl)(hx:Loc X.env.scope x:=by first|exact Or.inl rfl|exact Or.inr rfl)(hs:swapsWith e (some (.Name x pos')) pos.line X.env=pure false:=by rfl)(hf:X.fn x=true\/X.env.scope.names.lookup x=some .local:=by first|exact .inl rfl|exact .inr rfl):DS X (.Assign [.Name x pos'] e pos) (QB i fl):=by
 refine PS.conseq (gH hN hi hx he hs hf) fun Dn σ H hq=>?_
 obtain⟨O0,r,fl',hR,e,q⟩:=hq
 obtain⟨l,e1,e2⟩:=bind_some e
 obtain⟨r',e4,rfl⟩:=map_some e2
 obtain⟨hl,np,rfl⟩:=tR e4
 refine⟨O0,r,l,hR,e1,fun p xs H1 s1 n1 e3 i1=>?_⟩
 obtain⟨R1,k1⟩:=hR.seto s1 n1 e3 i1 hl np
 exact q _ H1 R1 k1
theorem y3(he:DE X e f):DS X (.Return (some e) pos) (kH f):=by
 refine PS.conseq (t9 he) fun Dn σ H hq=>?_
 obtain⟨O0,r,fl,hR,e,q⟩:=hq
 obtain⟨d,e1,rfl⟩:=map_some e
 exact⟨O0,r,d,hR,e1,fun v H1 s1 i1=>q v σ H1 (hR.same s1) (Kp.of_same r σ s1) (Is.less (O:=O0) hR i1 s1)⟩
theorem hE(i:Nat){x:Str}{pos':Pos}(h:PE X (.Name x pos') (j3 i)):DS X (.Return (some (.Name x pos')) pos) (gD i):=by
 refine PS.conseq (t9 h) fun Dn σ H hq=>?_
 obtain⟨O0,r,fl',hR,e,q⟩:=hq
 unfold gD at e
 have⟨l,e1,e2⟩:∃l,r[i]?=some (.o l)/\fl'=.rf l r:=by
  split at e
  ·rename_i l h;cases e;exact⟨l,h,rfl⟩
  ·cases e
 subst e2
 obtain⟨a,xs,q1,q2,q3⟩:=hR.own i l (by rw[e1];rfl)
 refine⟨.ref a,q1,q a xs σ H hR (Kp.refl H r σ) (.inr ⟨i,l,.inl e1,q1⟩) (hR.loc i l a (.inl e1) q1) q2 ?_⟩
 exact IsL.mono (Same.kp (Same.refl H) _) hR.ol (fun b z _=>z.elim .inl fun z=>by subst z;exact .inr ⟨i,l,by rw[e1];rfl,q1⟩) _ _ q3
theorem qY{c:Expr}{sa sb:List Stmt}{tc:MB}(hc:DT X c tc)(ha:DSs X sa g)(hb:DSs X sb h):DS X (.If c sa sb pos) (sIf tc g h):=by
 refine PS.conseq (zI2 hc ha hb) fun Dn σ H hq=>?_
 obtain⟨O0,r,fl',hR,e,q⟩:=hq
 obtain⟨k,e1,e2⟩:=bind_some e
 refine⟨O0,r,k,hR,e1,fun H1 s1=>?_⟩
 have R1:=hR.same s1
 have q1:=PostS.before R1 (Kp.of_same r σ s1) q
 cases k with
 |true=>rw[if_pos rfl] at e2;exact zJS ⟨O0,r,fl',R1,e2,q1⟩
 |false=>rw[if_neg am] at e2;exact zJT ⟨O0,r,fl',R1,e2,q1⟩
theorem zAG{fx:En->Option (D×En)}(he:DX X e fx)(hs:swapsWith e none pos.line X.env=pure false:=by rfl):DS X (.Expr e pos) (sX fx):=by
 refine PS.conseq (pG he hs) fun Dn σ H hq=>?_
 obtain⟨O0,r,fl',hR,e,q⟩:=hq
 obtain⟨⟨d,r'⟩,e1,rfl⟩:=map_some e
 exact⟨O0,r,d,r',hR,e1,fun v H1 R1 k1 i1=>q σ H1 R1 k1⟩
theorem zEH(i:Nat){x:Str}{pos':Pos}{fx:En->Option (D×En)}(he:DX X e fx)(hN:X.N.Nodup)(hi:X.N[i]?=some x:=by rfl)(hx:Loc X.env.scope x:=by first|exact Or.inl rfl|exact Or.inr rfl)(hs:swapsWith e (some (.Name x pos')) pos.line X.env=pure false:=by rfl)(hf:X.fn x=true\/X.env.scope.names.lookup x=some .local:=by first|exact .inl rfl|exact .inr rfl):DS X (.Assign [.Name x pos'] e pos) (J5 i fx):=by
 refine PS.conseq (gH hN hi hx he hs hf) fun Dn σ H hq=>?_
 obtain⟨O0,r,fl,hR,e,q⟩:=hq
 obtain⟨⟨d,r1⟩,e1,e2⟩:=bind_some e
 obtain⟨r',e3,rfl⟩:=map_some e2
 obtain⟨hl,np,rfl⟩:=qB e3
 refine⟨O0,r,d,r1,hR,e1,fun v H1 R1 k1 i1=>?_⟩
 obtain⟨R2,k2⟩:=R1.setv hl np i1
 exact q _ H1 R2 (k1.trans k2)
theorem dM(n:Nat){c:Expr}{body:List Stmt}{tc:MB}(hp:PassesOwn (model X.prog X.w) X.A X.env X.xe)(hc:DT X c tc)(hb:DSs X body g):DS X (.While c body [] pos) (wS n tc g):=by
 refine PS.conseq (pF hp hc hb) fun Dn σ H hq=>?_
 obtain⟨O0,r,fl,hR,e,q⟩:=hq
 refine⟨fun m σ1 H1=>∃r1,R X.K O0 H1 r1 σ1/\Kp H r σ H1 r1 σ1/\wS m tc g r1=some fl,⟨n,r,hR,Kp.refl H r σ,e⟩,?_⟩
 rintro m σ1 H1 ⟨r1,R1,k1,e1⟩
 cases m with
 |zero=>cases e1
 |succ m=>
  obtain⟨b,e2,e3⟩:=bind_some e1
  refine⟨O0,r1,b,R1,e2,fun H2 s2=>?_⟩
  have R2:=R1.same s2
  have k2:=k1.trans (Kp.of_same r1 σ1 s2)
  cases b with
  |false=>
   rw[if_neg am] at e3
   cases e3
   exact zJT (q σ1 H2 R2 k2)
  |true=>
   rw[if_pos rfl] at e3
   obtain⟨f1,e4,e5⟩:=bind_some e3
   refine zJS ⟨fun σ3 H3=>∃r3,R X.K O0 H3 r3 σ3/\Kp H r σ H3 r3 σ3/\wS m tc g r3=some fl,fun σ3 H3 z=>⟨m,Nat.lt_succ_self m,z⟩,O0,r1,f1,R2,e4,?_⟩
   cases f1 with
   |nx r3=>exact fun σ3 H3 R3 k3=>⟨r3,R3,k2.trans k3,e5⟩
   |ct r3=>exact fun σ3 H3 R3 k3=>⟨r3,R3,k2.trans k3,e5⟩
   |bk r3=>cases e5;exact fun σ3 H3 R3 k3=>q σ3 H3 R3 (k2.trans k3)
   |rt d r3=>cases e5;exact PostS.before R2 k2 q
   |rf l r3=>cases e5;exact PostS.before R2 k2 q
   |rg ks l r3=>cases e5;exact PostS.before R2 k2 q
end
noncomputable def lG(K:Fg)(bd:D->En->Option En):TG:=fun v σ H Q=>∃O0 r d r',R K O0 H r σ/\Is K (Ow O0 r σ) H d v/\bd d r=some r'/\∀σ',R K O0 H r' σ'->Kp H r σ H r' σ'->Q σ' H
noncomputable def DG(X:Cx)(tg:Expr)(bd:D->En->Option En):Prop:=PG X tg (lG X.K bd)
noncomputable def zFF(K:Fg)(O M:Addr->Prop)(H0:Hp)(J:It)(l:List D):Prop:=∀(i:Nat) (H:Hp) (O':Addr->Prop),vK M H0 H->(∀a,O' a->H0 a≠none->O a) ->
 (i<l.length->J.go i H/\∀x H',J.yld i H x H'->Same H H'/\∀d,l[i]?=some d->Is K O' H' d x)/\(i=l.length->J.stop i H)
noncomputable def lI(K:Fg)(it:ML):TI:=fun σ H Rr=>∃O0 r l,R K O0 H r σ/\it r=some l/\∀J H',Same H H'->zFF K (Ow O0 r σ) (MutAt r σ) H' J l->Rr J H'
noncomputable def DI(X:Cx)(tg iter:Expr)(it:ML):Prop:=PI X tg iter (lI X.K it)
theorem PG.conseq{X:Cx}{e:Expr}{t t':TG}(h:PG X e t)(i:∀v σ H Q,t' v σ H Q->t v σ H Q):PG X e t':=fun pins s σ H v u Q I r q=>h pins s σ H v u Q I r (i v σ H Q q)
theorem PI.conseq{X:Cx}{tg e:Expr}{t t':TI}(h:PI X tg e t)(i:∀σ H Q,t' σ H Q->t σ H Q):PI X tg e t':=fun pins s σ H Q I q=>h pins s σ H Q I (i σ H Q q)
theorem kW{α:Type}{l:List α}{i:Nat}{d:α}(h:l[i]?=some d):l.drop i=d::l.drop (i+1):=by
 obtain⟨lt,eq⟩:=ak.mp h
 rw[<-eq,List.drop_eq_getElem_cons lt]
section
variable{X:Cx}{pos:Pos}{tg iter:Expr}{bd:D->En->Option En}{it:ML}{g:MS}{body:List Stmt}
theorem nX(hp:PassesOwn (model X.prog X.w) X.A X.env X.xe)(hc:X.calm=true)(hi:DI X tg iter it)(hg:DG X tg bd)(hb:DSs X body g)(hs:∀x,foldedSetIterable iter X.env x=pure x:=by intro _;rfl):DS X (.For tg iter body [] pos) (tW bd it g):=by
 refine PS.conseq (zB9 hp hc hi hg hb hs) fun Dn σ H hq=>?_
 obtain⟨O0,r,fl,hR,e,q⟩:=hq
 obtain⟨l,e1,e2⟩:=bind_some e
 refine⟨O0,r,l,hR,e1,fun J H0 s0 yl=>?_⟩
 have R0:=hR.same s0
 refine⟨fun i m σ1 H1=>m=l.length-i/\i<=l.length/\∃r1,R X.K O0 H1 r1 σ1/\Kp H0 r σ H1 r1 σ1/\YC bd g (l.drop i) r1=some fl,⟨l.length,by simp,Nat.zero_le _,r,R0,Kp.refl H0 r σ,by simpa using e2⟩,?_⟩
 rintro i m σ1 H1 ⟨rfl,hil,r1,R1,k1,e3⟩
 have k0:=(Kp.of_same r σ s0).trans k1
 obtain⟨y1,y2⟩:=yl i H1 (Ow O0 r1 σ1) k1.keep fun a z n=>z.elim .inl fun z=>(k1.new a z).elim .inr fun z=>absurd z n
 by_cases hlt:i<l.length
 ·obtain⟨go,yd⟩:=y1 hlt
  have hd:l[i]?=some l[i]:=by simp[hlt]
  rw[kW hd] at e3
  obtain⟨r2,e4,e5⟩:=bind_some e3
  obtain⟨f1,e6,e7⟩:=bind_some e5
  refine .inr ⟨go,fun σ3 H3=>∃r3,R X.K O0 H3 r3 σ3/\Kp H0 r σ H3 r3 σ3/\YC bd g (l.drop (i+1)) r3=some fl,fun σ3 H3 z=>⟨l.length-(i+1),by omega,rfl,hlt,z⟩,fun x H2 yx=>?_⟩
  obtain⟨s2,ix⟩:=yd x H2 yx
  have R2:=R1.same s2
  refine⟨O0,r1,l[i],r2,R2,ix _ hd,e4,fun σ2 R2' k2=>⟨O0,r2,f1,R2',e6,?_⟩⟩
  have k3:=(k1.trans (Kp.of_same r1 σ1 s2)).trans k2
  have k4:=(k0.trans (Kp.of_same r1 σ1 s2)).trans k2
  cases f1 with
  |nx r3=>exact fun σ3 H3 R3 kk=>⟨r3,R3,k3.trans kk,e7⟩
  |ct r3=>exact fun σ3 H3 R3 kk=>⟨r3,R3,k3.trans kk,e7⟩
  |bk r3=>cases e7;exact fun σ3 H3 R3 kk=>q σ3 H3 R3 (k4.trans kk)
  |rt d r3=>cases e7;exact PostS.before R2' k4 q
  |rf l' r3=>cases e7;exact PostS.before R2' k4 q
  |rg ks l' r3=>cases e7;exact PostS.before R2' k4 q
 ·have hl:l.drop i=[]:=List.drop_eq_nil_of_le (by omega)
  rw[hl] at e3
  cases e3
  exact .inl ⟨y2 (by omega),q σ1 H1 R1 k0⟩
theorem xJ(i:Nat){x:Str}(hN:X.N.Nodup)(hi:X.N[i]?=some x:=by rfl)(hx:Loc X.env.scope x:=by first|exact Or.inl rfl|exact Or.inr rfl)(hf:X.fn x=true\/X.env.scope.names.lookup x=some .local:=by first|exact .inl rfl|exact .inr rfl):DG X (.Name x pos) (yN i):=by
 refine PG.conseq (pJ hN hi hx hf) fun v σ H Q h=>?_
 obtain⟨O0,r,d,r',hR,iv,e,q⟩:=h
 obtain⟨hl,np,rfl⟩:=qB e
 obtain⟨R1,k1⟩:=hR.setv hl np iv
 exact q _ R1 k1
noncomputable def jG:List D->En->Option En:=fun l r=>if l.isEmpty then some r else none
noncomputable def yE(b:D->En->Option En)(bs:List D->En->Option En):List D->En->Option En:=fun l r=>match l with
 |[]=>none
 |d::t=>(b d r).bind fun r1=>bs t r1
noncomputable def lGs(K:Fg)(bs:List D->En->Option En):TGs:=fun vs σ H Q=>∃O0 r l r',R K O0 H r σ/\IsL K (Ow O0 r σ) H l vs/\bs l r=some r'/\∀σ',R K O0 H r' σ'->Kp H r σ H r' σ'->Q σ' H
noncomputable def DGs(X:Cx)(ts:List Expr)(bs:List D->En->Option En):Prop:=PGs X ts (lGs X.K bs)
theorem PGs.conseq{e:List Expr}{t t':TGs}(h:PGs X e t)(i:∀v σ H Q,t' v σ H Q->t v σ H Q):PGs X e t':=fun pins s σ H v u Q I r q=>h pins s σ H v u Q I r (i v σ H Q q)
theorem b9:DGs X [] jG:=by
 refine PGs.conseq zCL fun vs σ H Q h=>?_
 obtain⟨O0,r,l,r',hR,il,e,q⟩:=h
 unfold jG at e
 cases l with
 |nil=>
  unfold IsL at il
  cases e
  exact⟨il,q σ hR (Kp.refl H r σ)⟩
 |cons d l=>cases e
theorem wA{e:Expr}{es:List Expr}{bs:List D->En->Option En}(h1:DG X e bd)(h2:DGs X es bs)(hs:(assignEach (e::es) X.env).map (·.2)=assign e X.env::(assignEach es X.env).map (·.2):=by rfl):DGs X (e::es) (yE bd bs):=by
 refine PGs.conseq (QM h1 h2 hs) fun vs σ H Q h=>?_
 obtain⟨O0,r,l,r',hR,il,e,q⟩:=h
 cases l with
 |nil=>cases e
 |cons d t=>
  unfold IsL at il
  obtain⟨v,us,rfl,i1,i2⟩:=il
  obtain⟨r1,e1,e2⟩:=bind_some e
  refine⟨v,us,rfl,O0,r,d,r1,hR,i1,e1,fun σ1 R1 k1=>⟨O0,r1,t,r',R1,?_,e2,fun σ2 R2 k2=>q σ2 R2 (k1.trans k2)⟩⟩
  exact IsL.mono (Same.kp (Same.refl H) _) hR.ol (fun a z n=>z.elim .inl fun z=>(k1.new a z).elim .inr fun z=>absurd z n) _ _ i2
end
inductive Rs where
 |v (d:D)|f (l:List D)|g (ks:List Key) (l:List D)
noncomputable abbrev MF:=List Sl->Option (Rs×List Sl)
structure PostF(K:Fg)(O0:Addr->Prop)(H:Hp)(as:List Sl)(vs:List V)(H':Hp)(as':List Sl):Prop where
 keep:vK (MutAt as (vs.map some)) H H'
 live:∀b,H' b=none->H b=none
 lst:∀b o,H b=some o->Mb o->∃o',H' b=some o'/\Mb o'
 par:∀(i:Nat) (l:List D),as[i]?=some (.p l)->∃l' a xs,as'[i]?=some (.p l')/\vs[i]?=some (.ref a)/\H' a=some (.lst xs)/\IsL K O0 H' l' xs
noncomputable def RsP(K:Fg)(O0:Addr->Prop)(H:Hp)(as:List Sl)(vs:List V)(as':List Sl)(Q:VK):Rs->Prop
 |.v d=>∀v H',PostF K O0 H as vs H' as'->Is K O0 H' d v->Q v H'
 |.f l=>∀a xs H',PostF K O0 H as vs H' as'->H a=none->H' a=some (.lst xs)->IsL K (fun b=>O0 b\/b=a) H' l xs->Q (.ref a) H'
 |.g ks l=>∀a kvs H',PostF K O0 H as vs H' as'->H a=none->H' a=some (.dK kvs)->kvs.map (·.1)=ks->IsL K (fun b=>O0 b\/b=a) H' l (kvs.map (·.2))->Q (.ref a) H'
noncomputable def spD(K:Fg)(n:Nat)(m:MF):Sp:=fun vs H Q _=>∃O0 as rs as',as.length=n/\R K O0 H as (vs.map some)/\(∀(i:Nat) (l:List D),as[i]?≠some (.o l)/\as[i]?≠some (.z l)/\∀ks,as[i]?≠some (.d ks l))/\m as=some (rs,as')/\RsP K O0 H as vs as' Q rs
noncomputable def mkF(n N:Nat)(g:MS):MF:=fun as=>(g (as++List.replicate (N-n) .un)).bind fun fl=>match fl with
 |.rt d r'=>some (.v d,r'.take n)
 |.rf l r'=>some (.f l,r'.take n)
 |.rg ks l r'=>some (.g ks l,r'.take n)
 |.nx r'=>some (.v .non,r'.take n)
 |_=>none
section
variable{P:Program}{w:World}{K:Fg}{mg:Str->Option Value}{base:Heap}
theorem gL{q:Sl->Option (List D)}(hq:q .un=none){as:List Sl}{vs:List V}{k n:Nat}{a:Addr}(hl:as.length=vs.length):AtS q (as++List.replicate k .un) (vs.map some++List.replicate n none) a↔AtS q as (vs.map some) a:=by
 constructor
 ·rintro ⟨i,l,e,q'⟩
  by_cases hi:i<as.length
  ·rw[ax hi] at e
   rw[ax (by simp;omega)] at q'
   exact⟨i,l,e,q'⟩
  ·rw[List.getElem?_append_right (by omega),List.getElem?_replicate] at e
   split at e
   ·have e':q .un=some l:=e
    rw[hq] at e';cases e'
   ·cases e
 ·rintro ⟨i,l,e,q'⟩
  have hi:i<as.length:=by
   cases e1:as[i]? with
   |none=>rw[e1] at e;cases e
   |some x=>exact(ak.mp e1).1
  exact⟨i,l,by rw[ax hi];exact e,by rw[ax (by simp;omega)];exact q'⟩
theorem R.start{O0:Addr->Prop}{H:Hp}{as:List Sl}{vs:List V}{k:Nat}(h:R K O0 H as (vs.map some)):R K O0 H (as++List.replicate k .un) (vs.map some++List.replicate k none):=by
 have hl:as.length=vs.length:=by simpa using h.len
 have own:∀a,Ow O0 (as++List.replicate k .un) (vs.map some++List.replicate k none) a->H a≠none->Ow O0 as (vs.map some) a:=fun a z _=>z.imp id (gL rfl hl).mp
 have pre:∀(i:Nat) (x:Sl),(as++List.replicate k .un)[i]?=some x->x≠.un->as[i]?=some x/\(vs.map some++List.replicate k none)[i]?=(vs.map some)[i]?:=fun i x e n=>by
  by_cases hi:i<as.length
  ·rw[ax hi] at e
   exact⟨e,ax (by simp;omega)⟩
  ·rw[List.getElem?_append_right (by omega),List.getElem?_replicate] at e
   split at e
   ·cases e;exact absurd rfl n
   ·cases e
 have preO:∀{q:Sl->Option (List D)} (hq:q .un=none) (i:Nat) (l:List D),((as++List.replicate k .un)[i]?).bind q=some l->(as[i]?).bind q=some l/\(vs.map some++List.replicate k none)[i]?=(vs.map some)[i]?:=fun {q} hq i l e=>by
  cases e1:(as++List.replicate k .un)[i]? with
  |none=>rw[e1] at e;cases e
  |some x=>
   obtain⟨q1,q2⟩:=pre i x e1 (by rintro rfl;rw[e1] at e;have e':q .un=some l:=e;rw[hq] at e';cases e')
   rw[e1] at e
   exact⟨by rw[q1];exact e,q2⟩
 refine⟨by simp[hl],fun i d e=>?_,fun i l e=>?_,fun i j a l m e1 e2 q1 q2=>?_,h.o0,fun i l a e q=>?_,fun i l a e q=>?_,fun i ks l e=>?_⟩
 ·obtain⟨q1,q2⟩:=pre i _ e (by intro z;cases z)
  obtain⟨v,e3,q3⟩:=h.val i d q1
  exact⟨v,q2.trans e3,Is.mono (Same.kp (Same.refl H) _) h.ol own _ _ q3⟩
 ·obtain⟨q1,q2⟩:=preO (q:=Sl.ls) rfl i l e
  obtain⟨a,xs,e3,e4,q3⟩:=h.own i l q1
  exact⟨a,xs,q2.trans e3,e4,IsL.mono (Same.kp (Same.refl H) _) h.ol own _ _ q3⟩
 ·obtain⟨p1,p2⟩:=preO (q:=Sl.own) rfl i l e1
  obtain⟨p3,p4⟩:=preO (q:=Sl.own) rfl j m e2
  exact h.apart i j a l m p1 p3 (p2 ▸ q1) (p4 ▸ q2)
 ·rcases e with e|e|⟨ks,e⟩
  ·obtain⟨p1,p2⟩:=pre i _ e (by intro z;cases z)
   exact h.loc i l a (.inl p1) (p2 ▸ q)
  ·obtain⟨p1,p2⟩:=pre i _ e (by intro z;cases z)
   exact h.loc i l a (.inr (.inl p1)) (p2 ▸ q)
  ·obtain⟨p1,p2⟩:=pre i _ e (by intro z;cases z)
   exact h.loc i l a (.inr (.inr ⟨ks,p1⟩)) (p2 ▸ q)
 ·obtain⟨p1,p2⟩:=pre i _ e (by intro z;cases z)
  exact h.par i l a p1 (p2 ▸ q)
 ·obtain⟨p1,p2⟩:=pre i _ e (by intro z;cases z)
  obtain⟨a,kvs,e3,e4,e5,q3⟩:=h.dct i ks l p1
  exact⟨a,kvs,p2.trans e3,e4,e5,IsL.mono (Same.kp (Same.refl H) _) h.ol own _ _ q3⟩
theorem zK6{x qual:Str}{st:Stmt}{f:Addr}{fd:FuncData}{N ps:List Str}{k:Nat}{g:MS}(F:Fun K x qual st f fd)(S:FnScope N ps (zP st))(n:Nat)(nN:Nat)(hn:ps.length=n:=by rfl)(hN:N.length=nN:=by rfl)(hb:∀(cdv:Value),fd.code=cdv->∀(A:Around) (outer:List Env) (s:Shared) (H:Hp) (E:XK),Room k (A.deeper (envOfC qual (zP st) s.heap.objs.size f cdv)) ->
   DSs (zFE CX0 P w K mg base N qual (zP st) f cdv A outer s H E).nox (wX st) g):FnOk P w K mg base CX0 (k+1) f fd ps (spD K n (mkF n nN g)):=by
 subst hn hN
 obtain⟨oc,od,kV,doc,pm,an,cdv,ct,osl,rfl,lk,hcd⟩:=F.ex
 refine zJG lk hcd S (fun vs H Q E h=>?_) (fun A outer s H vs Q E hr h=>?_)
 ·obtain⟨O0,as,rs,as',hl,hR,_⟩:=h
  have:=hR.len
  simp at this;omega
 ·obtain⟨O0,as,rs,as',hl,hR,no,e,q⟩:=h
  have hlv:as.length=vs.length:=by simpa using hR.len
  refine⟨_,PSs.nox (hb cdv rfl A outer s H E hr),?_⟩
  obtain⟨fl,e1,e2⟩:=bind_some e
  have hst:L2.start N vs=vs.map some++List.replicate (N.length-ps.length) none:=by unfold L2.start;rw[<-hlv,hl]
  rw[hst]
  have R0:=R.start (k:=N.length-ps.length) hR
  have fin:∀(σ':St) (H':Hp) (r':En),R K O0 H' r' σ'->Kp H (as++List.replicate (N.length-ps.length) .un) (vs.map some++List.replicate (N.length-ps.length) none) H' r' σ'->PostF K O0 H as vs H' (r'.take ps.length):=fun σ' H' r' R' k'=>by
   refine⟨fun b o eb nb=>k'.keep b o eb fun z=>nb ((gL rfl hlv).mp z),k'.live,k'.lst,fun i l ei=>?_⟩
   have hi:i<as.length:=(ak.mp ei).1
   obtain⟨⟨l',e3⟩,e4⟩:=k'.par i l (by rw[ax hi];exact ei)
   rw[ax (by simp;omega)] at e4
   obtain⟨a,xs,e5,e6,e7⟩:=R'.own i l' (by rw[e3];rfl)
   rw[e4] at e5
   have ev:vs[i]?=some (.ref a):=by
    rw[ba] at e5
    cases e8:vs[i]? with
    |none=>rw[e8] at e5;cases e5
    |some y=>rw[e8] at e5;cases e5;rfl
   exact⟨l',a,xs,by rw[List.getElem?_take_of_lt (by omega)];exact e3,ev,e6,IsL.mono (Same.kp (Same.refl H') _) R'.ol (fun _ z _=>.inl z) _ _ e7⟩
  refine⟨O0,_,fl,R0,e1,?_⟩
  cases fl with
  |nx r'=>cases e2;exact fun σ' H' R' k'=>q .non H' (fin σ' H' r' R' k') (by rw[Is.non_iff])
  |bk r'=>cases e2
  |ct r'=>cases e2
  |rt d r'=>cases e2;exact fun v σ' H' R' k' i'=>q v H' (fin σ' H' r' R' k') i'
  |rf l r'=>
   cases e2
   refine fun a xs σ' H' R' k' fr no0 ea il=>q a xs H' (fin σ' H' r' R' k') ?_ ea il
   rcases fr with z|⟨i,m,ei,_⟩
   ·exact z
   ·exfalso
    by_cases hi:i<as.length
    ·rw[ax hi] at ei
     rcases ei with ei|⟨ks,ei⟩
     ·exact(no i m).1 ei
     ·exact(no i m).2.2 ks ei
    ·rw[List.getElem?_append_right (by omega),List.getElem?_replicate] at ei
     rcases ei with ei|⟨ks,ei⟩<;>split at ei<;>cases ei
  |rg ks l r'=>
   cases e2
   refine fun a kvs σ' H' R' k' fr no0 ea ek il=>q a kvs H' (fin σ' H' r' R' k') ?_ ea ek il
   rcases fr with z|⟨i,m,ei,_⟩
   ·exact z
   ·exfalso
    by_cases hi:i<as.length
    ·rw[ax hi] at ei
     rcases ei with ei|⟨ks',ei⟩
     ·exact(no i m).1 ei
     ·exact(no i m).2.2 ks' ei
    ·rw[List.getElem?_append_right (by omega),List.getElem?_replicate] at ei
     rcases ei with ei|⟨ks',ei⟩<;>split at ei<;>cases ei
theorem nV{x qual:Str}{st:Stmt}{f:Addr}{fd:FuncData}{N ps:List Str}{k:Nat}{g:MS}(F:Fun K x qual st f fd)(S:FnScope N ps (zP st))(n:Nat)(nN:Nat)(hn:ps.length=n:=by rfl)(hN:N.length=nN:=by rfl)(hb:∀(cdv:Value) (A:Around) (outer:List Env) (s:Shared) (H:Hp) (E:XK),Room k (A.deeper (envOfC qual (zP st) s.heap.objs.size f cdv)) ->
   DSs (zFE CX0 P w K mg base N qual (zP st) f cdv A outer s H E).nox (wX st) g):FnOk P w K mg base CX0 (k+1) f fd ps (spD K n (mkF n nN g)):=zK6 F S n nN hn hN fun cdv _=>hb cdv
theorem zMR{f:Addr}{fd:FuncData}{ps:List Str}{k:Nat}(n:Nat):FnOk P w K mg base CX0 k f fd ps (spD K n fun _=>none):=
 ⟨(fun vs H Q E h=>by obtain⟨_,_,_,_,_,_,_,e,_⟩:=h;cases e),(fun A outer s H args us vs Q E _ _ _ _ h=>by obtain⟨_,_,_,_,_,_,_,e,_⟩:=h;cases e)⟩
end
noncomputable def rsD:Rs->D
 |.v d=>d
 |.f l=>.lst l
 |.g ks l=>.dct ks l
noncomputable def yG(n:Nat)(m:MF)(fs:ML):ME:=fun r=>(fs r).bind fun ds=>if ds.length=n then (m (ds.map .v)).map fun p=>rsD p.1 else none
noncomputable def uZ(n:Nat)(m:MF)(fs:ML):ML:=fun r=>(fs r).bind fun ds=>if ds.length=n then (m (ds.map .v)).bind fun p=>match p.1 with
 |.f l=>some l
 |_=>none
 else none
section
variable{K:Fg}
theorem R.args{O:Addr->Prop}{H:Hp}{ds:List D}{vs:List V}(ol:qR O H)(h:IsL K O H ds vs):R K O H (ds.map .v) (vs.map some):=by
 have no:∀(i:Nat) (l:List D),((ds.map Sl.v)[i]?).bind Sl.own≠some l:=fun i l e=>by
  rw[ba] at e
  cases e1:ds[i]? with
  |none=>rw[e1] at e;cases e
  |some x=>rw[e1] at e;cases e
 refine⟨by simp[h.length],fun i d e=>?_,fun i l e=>absurd (qW e) (no i l),fun i j a l m e1=>absurd e1 (no i l),ol,fun i l a e=>absurd (show((ds.map Sl.v)[i]?).bind Sl.own=some l by rcases e with e|e|⟨_,e⟩<;>rw[e]<;>rfl) (no i l),fun i l a e=>absurd (show((ds.map Sl.v)[i]?).bind Sl.own=some l by rw[e];rfl) (no i l),fun i ks l e=>absurd (show((ds.map Sl.v)[i]?).bind Sl.own=some l by rw[e];rfl) (no i l)⟩
 rw[ba] at e
 cases e1:ds[i]? with
 |none=>rw[e1] at e;cases e
 |some x=>
  rw[e1] at e;cases e
  obtain⟨v,e2,q⟩:=h.get e1
  exact⟨v,by rw[ba,e2];rfl,Is.mono (Same.kp (Same.refl H) _) ol (fun a z _=>z.elim id fun⟨j,l,ej,_⟩=>absurd ej (no j l)) _ _ q⟩
theorem QT{ds:List D}{σ:St}{a:Addr}:¬MutAt (ds.map .v) σ a:=fun⟨i,l,e,_⟩=>by
 rw[ba] at e
 cases e1:ds[i]? with
 |none=>rw[e1] at e;cases e
 |some x=>rw[e1] at e;cases e
theorem PostF.same{O0:Addr->Prop}{H H':Hp}{ds:List D}{vs:List V}{as':List Sl}(h:PostF K O0 H (ds.map .v) vs H' as'):Same H H':=fun b o e=>h.keep b o e QT
end
section
variable{X:Cx}{k n:Nat}{f:Addr}{fd:FuncData}{ps:List Str}{m:MF}{x:Str}{p pos:Pos}{e:Expr}{es:List Expr}{fs:ML}
theorem bP{O0:Addr->Prop}{r:En}{σ:St}{H H1:Hp}{ds:List D}{vs:List V}{rs:Rs}{as':List Sl}{Q:VK}{E:XK}(hR:R X.K O0 H r σ)(s1:Same H H1)(il:IsL X.K (Ow O0 r σ) H1 ds vs)(hl:ds.length=n)(em:m (ds.map .v)=some (rs,as'))(q:RsP X.K (Ow O0 r σ) H1 (ds.map .v) vs as' Q rs):spD X.K n m (vs++[]) H1 Q E:=by
 rw[List.append_nil]
 refine⟨Ow O0 r σ,ds.map .v,rs,as',by simpa using hl,R.args (hR.same s1).ol il,fun i l=>?_,em,q⟩
 rw[ba]
 cases e1:ds[i]? with
 |none=>exact⟨(fun z=>by cases z),(fun z=>by cases z),(fun _ z=>by cases z)⟩
 |some y=>exact⟨(fun z=>by cases z),(fun z=>by cases z),(fun _ z=>by cases z)⟩
theorem yK(F:FnOk X.prog X.w X.K X.mg X.base CX0 k f fd ps (spD X.K n m))(hr:Room k X.A)(hg:Gl X x)(hm:X.mg x=some (.ref f))(hk:PySem.W.keepIn X.K (.ref f)=true)(hb:Binds X.K fd ps [])(ha:DA X (e::es) fs)(hdb:(x == ("__debug__" : Str))=false:=by decide)(he:starEach (e::es) X.env=(false,eval e X.env)::starEach es X.env:=by rfl)(hpl:(backTo pos (starEach es X.env)).any (·.1)=false:=by rfl):DE X (.Call (.Name x p) (e::es) [] pos) (yG n m fs):=by
 refine PE.conseq (vV (E:=fun _ _ _=>False) (dvs:=[]) F hr hg hm hk hb .nil cS ha hdb he hpl) fun σ H Q h=>?_
 obtain⟨O0,r,d,hR,e,q⟩:=h
 obtain⟨ds,e1,e2⟩:=bind_some e
 split at e2
 ·rename_i hl
  obtain⟨⟨rs,as'⟩,e3,rfl⟩:=map_some e2
  refine⟨O0,r,ds,hR,e1,fun vs H1 s1 il=>bP hR s1 il hl e3 ?_⟩
  cases rs with
  |v d=>exact fun v H2 pf iv=>q v H2 (s1.trans pf.same) iv
  |f l=>
   refine fun a xs H2 pf na ea il2=>q _ H2 (s1.trans pf.same) ?_
   have R1:=hR.same s1
   have olp:qR (fun b=>Ow O0 r σ b\/b=a) H2:=fun b z=>z.elim (fun z=>(R1.same pf.same).ol b z) fun z=>by subst z;exact⟨.lst xs,ea,trivial⟩
   show Is X.K (Ow O0 r σ) H2 (.lst l) (.ref a)
   rw[Is.lst_iff]
   exact⟨a,xs,rfl,.inl ⟨R1.nofresh na,.inl ea⟩,IsL.mono (Same.kp (Same.refl H2) _) olp (fun _ z _=>.inl z) _ _ il2⟩
  |g ks l=>
   refine fun a kvs H2 pf na ea ek il2=>q _ H2 (s1.trans pf.same) ?_
   have olp:qR (fun b=>Ow O0 r σ b\/b=a) H2:=fun b z=>z.elim (fun z=>((hR.same s1).same pf.same).ol b z) fun z=>by subst z;exact⟨.dK kvs,ea,trivial⟩
   show Is X.K (Ow O0 r σ) H2 (.dct ks l) (.ref a)
   rw[Is.dct_iff]
   exact⟨a,kvs,rfl,(hR.same s1).nofresh na,.inl ea,ek,IsL.mono (Same.kp (Same.refl H2) _) olp (fun _ z _=>.inl z) _ _ il2⟩
 ·cases e2
theorem X9(F:FnOk X.prog X.w X.K X.mg X.base CX0 k f fd ps (spD X.K n m))(hr:Room k X.A)(hg:Gl X x)(hm:X.mg x=some (.ref f))(hk:PySem.W.keepIn X.K (.ref f)=true)(hb:Binds X.K fd ps [])(ha:DA X (e::es) fs)(hdb:(x == ("__debug__" : Str))=false:=by decide)(he:starEach (e::es) X.env=(false,eval e X.env)::starEach es X.env:=by rfl)(hpl:(backTo pos (starEach es X.env)).any (·.1)=false:=by rfl):DF X (.Call (.Name x p) (e::es) [] pos) (uZ n m fs):=by
 refine PE.conseq (vV (E:=fun _ _ _=>False) (dvs:=[]) F hr hg hm hk hb .nil cS ha hdb he hpl) fun σ H Q h=>?_
 obtain⟨O0,r,l,hR,e,q⟩:=h
 obtain⟨ds,e1,e2⟩:=bind_some e
 split at e2
 ·rename_i hl
  obtain⟨⟨rs,as'⟩,e3,e4⟩:=bind_some e2
  refine⟨O0,r,ds,hR,e1,fun vs H1 s1 il=>bP hR s1 il hl e3 ?_⟩
  cases rs with
  |v d=>cases e4
  |f l'=>cases e4;exact fun a xs H2 pf na ea il2=>q a xs H2 (s1.trans pf.same) (s1.free na) ea il2
  |g ks l'=>cases e4
 ·cases e2
end
section
variable{X:Cx}{tg l:Expr}{f:ME}{p pos:Pos}
noncomputable def zDV:D->Option (List D)
 |.lst l=>some l
 |.tup l=>some l
 |_=>none
noncomputable def mIt(f:ME):ML:=fun r=>(f r).bind zDV
theorem qD{l:List D}{i:Nat}(h:i<l.length):∃d,l[i]?=some d:=⟨l[i],by simp[h]⟩
theorem zA1{K:Fg}{O M:Addr->Prop}(mo:∀a,M a->O a){H:Hp}{a:Addr}{xs:List V}{ds:List D}(ol:qR O H)(rd:∀H1,vK M H H1->SqL K H1 a xs)(il:IsL K O H ds xs):zFF K O M H (Itl K a) ds:=by
 intro i H1 O' kp oo
 have kp':vK O H H1:=fun b o e n=>kp b o e fun z=>n (mo b z)
 have rd1:SqL K H1 a xs:=rd H1 kp
 refine⟨fun hi=>⟨?_,fun x H' y=>?_⟩,fun hi=>⟨xs,rd1,by rw[<-il.length];exact Nat.le_of_eq hi.symm⟩⟩
 ·obtain⟨d,e⟩:=qD hi
  obtain⟨v,e1,_⟩:=il.get e
  exact⟨xs,v,rd1,e1⟩
 ·obtain⟨rfl,y⟩:=y
  refine⟨Same.refl _,fun d e=>?_⟩
  obtain⟨v,e1,q⟩:=il.get e
  have:=y xs rd1
  rw[e1] at this;cases this
  exact Is.mono kp' ol oo _ _ q
theorem zA0{K:Fg}{O M:Addr->Prop}(mo:∀a,M a->O a){H:Hp}{a:Addr}{xs:List V}{ds:List D}(ol:qR O H)(rd:SqT K H a xs)(il:IsL K O H ds xs):zFF K O M H (Itt K a) ds:=by
 intro i H1 O' kp oo
 have kp':vK O H H1:=fun b o e n=>kp b o e fun z=>n (mo b z)
 have rd1:SqT K H1 a xs:=SqT.keep kp' ol rd
 refine⟨fun hi=>⟨?_,fun x H' y=>?_⟩,fun hi=>⟨xs,rd1,by rw[<-il.length];exact Nat.le_of_eq hi.symm⟩⟩
 ·obtain⟨d,e⟩:=qD hi
  obtain⟨v,e1,_⟩:=il.get e
  exact⟨xs,v,rd1,e1⟩
 ·obtain⟨rfl,y⟩:=y
  refine⟨Same.refl _,fun d e=>?_⟩
  obtain⟨v,e1,q⟩:=il.get e
  have:=y xs rd1
  rw[e1] at this;cases this
  exact Is.mono kp' ol oo _ _ q
theorem zCI{tl:TE}(hl:PE X l tl):PI X tg l (fun σ H Rr=>tl σ H fun x H1=>∃a,x=.ref a/\(((∃xs,SqL X.K H1 a xs)/\Rr (Itl X.K a) H1)\/((∃xs,SqT X.K H1 a xs)/\Rr (Itt X.K a) H1))):=by
 intro pins s σ H R I h
 refine thn (hl pins s σ H _ I h) fun v s1 ⟨x,H1,I1,r1,q1⟩=>?_
 obtain⟨a,e,q⟩:=q1
 subst e
 cases r1
 rcases q with⟨⟨xs,hq⟩,q⟩|⟨⟨xs,hq⟩,q⟩
 ·obtain⟨its,rv,p,hz⟩:=I1.list hq
  refine wpAny_pyIter_list p.isList ?_
  refine⟨s1.heap.objs.size,[s1.heap.objs.size],_,_,H1,rfl,I1.kept (t':=s1.toks) fun b o e=>ad _ e,tL a _,⟨_,ah _ rfl,rfl,rfl⟩,fun b hb=>?_,q⟩
  have e:b=s1.heap.objs.size:=by simpa using hb
  subst e
  exact I1.fpOk (al _) (I1.hok.fresh (al _))
 ·obtain⟨its,rv,p,hz⟩:=I1.tuple hq
  refine wpAny_pyIter_tuple (show s1.heap.IsTuple a its.toArray from p) ?_
  refine⟨s1.heap.objs.size,[s1.heap.objs.size],_,_,H1,rfl,I1.kept (t':=s1.toks) fun b o e=>ad _ e,mW a _,⟨_,ah _ rfl,rfl,rfl⟩,fun b hb=>?_,q⟩
  have e:b=s1.heap.objs.size:=by simpa using hb
  subst e
  exact I1.fpOk (al _) (I1.hok.fresh (al _))
theorem hV(hl:DE X l f):DI X tg l (mIt f):=by
 refine PI.conseq (zCI hl) fun σ H Rr h=>?_
 obtain⟨O0,r,ds,hR,e,q⟩:=h
 obtain⟨d,e1,e2⟩:=bind_some e
 refine⟨O0,r,d,hR,e1,fun v H1 s1 i1=>?_⟩
 have ol:=(hR.same s1).ol
 cases d with
 |lst l'=>
  cases e2
  rw[Is.lst_iff] at i1
  obtain⟨a,xs,rfl,rd,il⟩:=i1
  exact⟨a,rfl,.inl ⟨⟨xs,rd.sq⟩,q _ H1 s1 (zA1 (fun a z=>.inr z.own) ol (fun H2 k2=>rd.imp (fun z=>Rd.keep k2 (fun y=>z.1 (.inr y.own)) z.2) id) il)⟩⟩
 |tup l'=>
  cases e2
  rw[Is.tup_iff] at i1
  obtain⟨a,xs,rfl,rd,il⟩:=i1
  exact⟨a,rfl,.inr ⟨⟨xs,rd⟩,q _ H1 s1 (zA0 (fun a z=>.inr z.own) ol rd il)⟩⟩
 |_=>cases e2
noncomputable def zIX(lo:Int)(n:Nat):List D:=(List.range n).map fun i=>.int (lo+(i:Nat))
theorem zF7{K:Fg}{O M:Addr->Prop}{H:Hp}(lo:Int)(n:Nat):zFF K O M H (Itr lo n) (zIX lo n):=by
 intro i H1 O' kp oo
 have hl:(zIX lo n).length=n:=by simp[zIX]
 refine⟨fun hi=>⟨by rw[hl] at hi;exact hi,fun x H' y=>?_⟩,fun hi=>by rw[hl] at hi;exact Nat.le_of_eq hi.symm⟩
 obtain⟨rfl,rfl⟩:=y
 refine⟨Same.refl _,fun d e=>?_⟩
 rw[hl] at hi
 unfold zIX at e
 rw[ba,List.getElem?_range hi] at e
 cases e
 rw[Is.int_iff]
noncomputable def intD:D->Option Int
 |.int i=>some i
 |_=>none
noncomputable def XL(f:ME):ML:=fun r=>(f r).bind fun d=>(intD d).bind fun j=>if -(2 ^ 62)<=j/\j<2 ^ 62 then some (zIX 0 j.toNat) else none
theorem u5{d:D}{i:Int}(e:intD d=some i):d=.int i:=by
 cases d<;>first|cases e;rfl|cases e
theorem X6(hg:Gl X "range")(hm:X.mg "range" = none)(ha:DE X l f)(hs:starEach [l] X.env=[(false,eval l X.env)]:=by rfl):DI X tg (.Call (.Name "range" p) [l] [] pos) (XL f):=by
 refine PI.conseq (ZF hg hm (zX ha y0 hs) hs) fun σ H Rr h=>?_
 obtain⟨O0,r,ds,hR,e,q⟩:=h
 obtain⟨d,e1,e2⟩:=bind_some e
 obtain⟨j,e3,e4⟩:=bind_some e2
 cases u5 e3
 split at e4
 ·rename_i hj
  cases e4
  refine⟨O0,r,_,hR,e1,fun v H1 s1 i1=>?_⟩
  rw[Is.int_iff] at i1
  exact⟨j,by rw[i1],hj.1,hj.2,q _ H1 s1 (zF7 0 _)⟩
 ·cases e4
end
noncomputable def YQ(env:Env):List (Str×NameKind)->List (Str×Addr)->List (Str×Addr)
 |[],acc=>acc
 |(n,k)::r,acc=>if k=.free then YQ env r ((n,(env.cells.lookup n).getD 0)::acc) else YQ env r acc
theorem vJ{env:Env}:∀(names:List (Str×NameKind)) (acc:List (Str×Addr)),(∀y∈names,y.2=.free->∃c,env.cells.lookup y.1=some c) ->
  (forIn names acc (fun(x:Str×NameKind) (cs:List (Str×Addr))=>match x with
   |(name,kind)=>if (kind == NameKind.free)=true then do let a <- cellOf env name;pure (ForInStep.yield ((name,a)::cs)) else pure (ForInStep.yield cs)):Sem (List (Str×Addr)))=pure (YQ env names acc)
 |[],acc,_=>rfl
 |(n,k)::r,acc,h=>by
  rw[List.forIn_cons]
  by_cases hk:k=.free
  ·obtain⟨c,hc⟩:=h (n,k) List.mem_cons_self hk
   have ih:=vJ r ((n,c)::acc) fun y hy=>h y (List.mem_cons_of_mem _ hy)
   subst hk
   show((do let a <- cellOf env n;pure (ForInStep.yield ((n,a)::acc))) >>= _:Sem _)=_
   unfold cellOf
   rw[hc]
   unfold YQ
   rw[if_pos rfl,hc]
   exact ih
  ·have hb:(k == NameKind.free)=false:=by simpa using hk
   have ih:=vJ r acc fun y hy=>h y (List.mem_cons_of_mem _ hy)
   unfold YQ
   rw[if_neg hk]
   simp only[hb]
   exact ih
theorem jZ{scope:Scope}{env:Env}(h:∀y∈scope.names,y.2=.free->∃c,env.cells.lookup y.1=some c):closureFor scope env=pure (YQ env scope.names []):=by
 unfold closureFor
 have:=vJ (env:=env) scope.names [] h
 first
  |exact this
  |(simp only[bind_pure];exact this)
  |(rw[<-this];rfl)
theorem dO{env:Env}{x:Str}{c:Addr}:∀(names:List (Str×NameKind)) (acc:List (Str×Addr)),(∀y∈names,y.2=.free->∃c,env.cells.lookup y.1=some c)->(∀c,acc.lookup x=some c->env.cells.lookup x=some c) ->
  (YQ env names acc).lookup x=some c->env.cells.lookup x=some c
 |[],acc,_,ha,e=>ha c e
 |(n,k)::r,acc,h,ha,e=>by
  unfold YQ at e
  split at e
  ·rename_i hk
   refine dO r _ (fun y hy=>h y (List.mem_cons_of_mem _ hy)) (fun c' e'=>?_) e
   rw[List.lookup_cons] at e'
   split at e'
   ·rename_i hx
    have hx':x=n:=by simpa using hx
    subst hx'
    obtain⟨c2,q⟩:=h (x,k) List.mem_cons_self hk
    rw[q] at e' ⊢
    simpa using e'
   ·exact ha c' e'
  ·exact dO r _ (fun y hy=>h y (List.mem_cons_of_mem _ hy)) ha e
theorem dP{env:Env}{x:Str}:∀(names:List (Str×NameKind)) (acc:List (Str×Addr)),(∃c,acc.lookup x=some c)->∃c,(YQ env names acc).lookup x=some c
 |[],acc,h=>h
 |(n,k)::r,acc,h=>by
  unfold YQ
  split
  ·refine dP r _ ?_
   rw[List.lookup_cons]
   split
   ·exact⟨_,rfl⟩
   ·exact h
  ·exact dP r _ h
theorem bC{env:Env}{x:Str}:∀(names:List (Str×NameKind)) (acc:List (Str×Addr)),(x,NameKind.free)∈names->∃c,(YQ env names acc).lookup x=some c
 |[],_,h=>nomatch h
 |(n,k)::r,acc,h=>by
  unfold YQ
  rcases List.mem_cons.mp h with z|z
  ·cases z
   rw[if_pos rfl]
   refine dP r _ ?_
   rw[List.lookup_cons]
   simp
  ·split
   ·exact bC r _ z
   ·exact bC r _ z
theorem qU{env:Env}:∀{names:List (Str×NameKind)} {x:Str} {k:NameKind},(names.map fun(n,k)=>if (k == NameKind.free && env.scope.kind == .function && env.kindOf n == some .cell) then (n,NameKind.cell) else (n,k)).lookup x=some k ->
  ∃k',names.lookup x=some k'/\(k=k'\/(k'=.free/\k=.cell))
 |[],_,_,h=>by simp at h
 |(n,k0)::r,x,k,h=>by
  have h':List.lookup x ((if (k0 == NameKind.free && env.scope.kind == .function && env.kindOf n == some .cell)=true then (n,NameKind.cell) else (n,k0))::(r.map fun(n,k)=>if (k == NameKind.free && env.scope.kind == .function && env.kindOf n == some .cell) then (n,NameKind.cell) else (n,k)))=some k:=h
  rw[List.lookup_cons]
  by_cases hc:(k0 == NameKind.free && env.scope.kind == .function && env.kindOf n == some .cell)=true
  ·rw[if_pos hc,List.lookup_cons] at h'
   split at h'
   ·rename_i hx
    cases h'
    refine⟨k0,rfl,.inr ⟨?_,rfl⟩⟩
    simp only[Bool.and_eq_true,beq_iff_eq] at hc
    exact hc.1.1
   ·rename_i hx
    exact qU h'
  ·rw[if_neg hc,List.lookup_cons] at h'
   split at h'
   ·rename_i hx
    cases h'
    exact⟨k0,rfl,.inl rfl⟩
   ·rename_i hx
    exact qU h'
theorem kI{env:Env}:∀{names:List (Str×NameKind)} {x:Str},names.lookup x=some .free ->
  let l:=(names.map fun(n,k)=>if (k == NameKind.free && env.scope.kind == .function && env.kindOf n == some .cell) then (n,NameKind.cell) else (n,k));l.lookup x=some .cell\/l.lookup x=some .free
 |[],_,h=>by simp at h
 |(n,k0)::r,x,h=>by
  show List.lookup x ((if (k0 == NameKind.free && env.scope.kind == .function && env.kindOf n == some .cell)=true then (n,NameKind.cell) else (n,k0))::_)=_\/List.lookup x ((if (k0 == NameKind.free && env.scope.kind == .function && env.kindOf n == some .cell)=true then (n,NameKind.cell) else (n,k0))::_)=_
  rw[List.lookup_cons] at h
  cases hx:x == n with
  |true=>
   rw[hx] at h
   cases h
   split
   ·left;rw[List.lookup_cons,hx]
   ·right;rw[List.lookup_cons,hx]
  |false=>
   rw[hx] at h
   have ih:=kI (env:=env) h
   split
   ·rw[List.lookup_cons,hx];exact ih
   ·rw[List.lookup_cons,hx];exact ih
noncomputable def cxC(X:Cx)(N':List Str)(scope:Scope)(C:Addr)(fp:List Addr)(s:Shared)(H:Hp):Cx where
 prog:=X.prog
 w:=X.w
 K:=X.K
 mg:=X.mg
 base:=X.base
 A:=X.A
 N:=N'
 s₀:=s
 H₀:=H
 env:=compEnvC scope (YQ X.env scope.names []) C X.env
 outer:=X.stack
 stack:=X.stack
 ex:=fp
 fn:=fun _=>false
 calm:=X.calm
 pn:=[]
 xe:=fun _ _=>False
structure CmpOk(X:Cx)(N':List Str)(cap:List Nat)(scope:Scope):Prop where
 kind:scope.kind=.function
 nc:∀y∈scope.names,y.2≠.cell
 nm:∀y∈scope.names,y.2=.local->scope.names.lookup y.1=some .local
 fr:∀y∈scope.names,y.2=.free->X.env.kindOf y.1=some .cell\/X.env.kindOf y.1=some .free
 capt:∀(i j:Nat),cap[i]?=some j->∃x,N'[i]?=some x/\X.N[j]?=some x/\scope.names.lookup x=some .free
 len:cap.length<=N'.length
noncomputable def zAR(cap:List Nat)(n:Nat)(σ:St):St:=(cap.map fun j=>(σ[j]?).getD none)++List.replicate (n-cap.length) none
section
variable{X:Cx}{pins:List (Addr×Obj)}{σ:St}{H:Hp}{s:Shared}{N':List Str}{cap:List Nat}{scope:Scope}{fp:List Addr}
theorem CmpOk.hasc(o:CmpOk X N' cap scope)(ok:X.Ok):∀y∈scope.names,y.2=.free->∃c,X.env.cells.lookup y.1=some c:=fun y hy e=>ok.has y.1 (o.fr y hy e)
theorem CmpOk.sub(o:CmpOk X N' cap scope)(ok:X.Ok){x:Str}{c:Addr}(e:(YQ X.env scope.names []).lookup x=some c):X.env.cells.lookup x=some c:=dO scope.names [] (o.hasc ok) (fun _ z=>by simp at z) e
theorem JI(o:CmpOk X N' cap scope)(I:Inv X pins σ H s)(hfp:∀b∈fp,dQ X pins H b)(hlt:∀b∈fp,b<s.heap.objs.size){h':Heap}{t':Nat}(ns:h'.Ns s.heap.objs.size (fun _=>none))(kp:∀b u,s.heap.get? b=some u->h'.get? b=some u):Inv (cxC X N' scope s.heap.objs.size fp s H) [] (zAR cap N'.length σ) H { s with heap:=h',toks:=t' }:=by
 have hf:H s.heap.objs.size=none:=I.hok.fresh (al _)
 have nofp:∀b∈fp,b∉frs X.stack:=fun b hb z=>by
  obtain⟨f0,f1,f2,f3,f4,f5⟩:=hfp b hb
  rcases List.mem_cons.mp (I.stkSub b z) with q|q
  ·exact f1 q
  ·exact f2 q
 have ok':(cxC X N' scope s.heap.objs.size fp s H).Ok:=by
  refine⟨I.ok.mod,o.kind,I.ok.glob,I.ok.blt,al _,fun x y c e1 e2=>I.ok.inj x y c (o.sub I.ok e1) (o.sub I.ok e2),fun x hx=>?_,fun x c z=>(by cases z),I.ok.hd,I.ok.frames,.inl rfl,fun b hb=>⟨ar (hlt b hb),fun x c e=>(hfp b hb).2.2.2.2.1 x c (o.sub I.ok e)⟩,
   fun b ob e=>I.bs b ob e,Nat.le_trans I.ok.bsz I.sz,fun b ob e hb=>?_,nofp,I.stack,⟨I.stkFree,I.tabIn⟩⟩
  ·have key:scope.names.lookup x=some .free:=by
    rcases hx with hx|hx
    ·obtain⟨k',e1,e2⟩:=qU (env:=X.env) (names:=scope.names) (x:=x) (k:=.cell) hx
     rcases e2 with e2|e2
     ·subst e2;exact absurd rfl (o.nc _ (PySem.mem_of_lookup e1))
     ·rw[e2.1] at e1;exact e1
    ·obtain⟨k',e1,e2⟩:=qU (env:=X.env) (names:=scope.names) (x:=x) (k:=.free) hx
     rcases e2 with e2|e2
     ·subst e2;exact e1
     ·exact absurd e2.2 (by decide)
   exact bC scope.names [] (PySem.mem_of_lookup key)
  ·rcases(hfp b hb).2.2.2.1 with z|z
   ·exact I.ok.noex b ob e z
   ·exact absurd (au (au (af e) I.ok.bsz) z) (Nat.lt_irrefl _)
 refine⟨ok',rfl,I.bare,Un.kept kp,⟨fun _=>none,ns,fun i x v hN hs hv=>?_⟩,fun x c e=>?_,hf,fun x c e=>I.freeC x c (o.sub I.ok e),fun p hp=>?_,I.hok.kept kp,?_⟩
 ·have hN:N'[i]?=some x:=hN
  by_cases hi:i<cap.length
  ·unfold zAR at hs
   rw[ax (by simpa using hi),ba] at hs
   obtain⟨j,hj⟩:∃j,cap[i]?=some j:=⟨cap[i],by simp[hi]⟩
   rw[hj] at hs
   have hs':σ[j]?=some (some v):=by
    have hs'':(σ[j]?).getD none=some v:=aq hs
    cases e:σ[j]? with
    |none=>rw[e] at hs'';cases hs''
    |some y=>rw[e] at hs'';have:y=some v:=hs'';rw[this]
   obtain⟨x',e1,e2,e3⟩:=o.capt i j hj
   rw[hN] at e1;cases e1
   have hk:=o.fr (x,.free) (PySem.mem_of_lookup e3) rfl
   obtain⟨m,hn,hl⟩:=I.loc
   have hvis:Vis X.env.scope x:=hk.elim (fun z=>.inr (.inl z)) fun z=>.inr (.inr z)
   obtain⟨u,r,lk⟩:=hl j x v e2 hs' hvis
   refine⟨u,r,.inr ⟨kI (env:=X.env) e3,?_⟩⟩
   rcases lk with⟨z,_⟩|⟨_,c,hc,hcell⟩
   ·have z':X.env.kindOf x=some .local:=z
    rw[z'] at hk
    rcases hk with hk|hk<;>cases hk
   ·obtain⟨c',hc'⟩:=bC (env:=X.env) scope.names [] (PySem.mem_of_lookup e3)
    have hcc:=o.sub I.ok hc'
    rw[hc] at hcc;cases hcc
    obtain⟨ob,q1,q2⟩:=hcell
    exact⟨c,hc',ob,kp _ _ q1,q2⟩
  ·unfold zAR at hs
   rw[List.getElem?_append_right (by simpa using Nat.le_of_not_lt hi),List.getElem?_replicate] at hs
   split at hs<;>cases hs
 ·obtain⟨v,ob,q1,q2⟩:=I.cell x c (o.sub I.ok e)
  exact⟨v,ob,kp _ _ q1,q2⟩
 ·exact absurd (show p∈([]:List (Addr×Obj)) from hp) (by simp)
 ·unfold zAR
  show _=N'.length
  rw[List.length_append,ay,List.length_replicate]
  have:=o.len
  omega
theorem kS{H2:Hp}{σ2:St}{s2:Shared}{h':Heap}(I:Inv X pins σ H s)(hfp:∀b∈fp,dQ X pins H b)(J:Inv (cxC X N' scope s.heap.objs.size fp s H) [] σ2 H2 s2)(sb:Heap.SameBut s.heap.objs.size s2.heap h'):Inv X pins σ H2 { s2 with heap:=h' }:=by
 have hb:Un (frs X.stack) fp H H2 s.heap s2.heap:=J.base
 have ne:∀b o,s.heap.get? b=some o->b≠s.heap.objs.size:=fun b o e=>ar (af e)
 have fr:H2 s.heap.objs.size=none:=J.free
 refine I.call' (s':={ s2 with heap:=h' }) (ch:=fp) J.os ?_ ?_ J.bare fun b hb=>⟨(hfp b hb).2.2.2.1,(hfp b hb).2.1,(hfp b hb).2.2.2.2.1,(hfp b hb).2.2.2.2.2⟩
 ·refine⟨fun b o e n h1 h2=>?_,fun b o e n h1 h2=>?_,fun b o e n h2=>hb.free b o e n h2,fun b o e h2=>?_,hb.tups,hb.frzs,hb.tbls⟩
  ·exact sb.extBut b o (ne b o e) (hb.keep b o e n h1 h2)
  ·obtain⟨sl,q⟩:=hb.slot b o e n h1 h2
   exact⟨sl,sb.extBut b _ (ne b o e) q⟩
  ·obtain⟨o',q⟩:=hb.there b o e h2
   exact⟨o',sb.extBut b _ (ne b o e) q⟩
 ·intro b u e
  have nb:∀c w,H2 c=some w->c≠s.heap.objs.size:=fun c w q z=>by rw[z,fr] at q;cases q
  refine(J.hok b u e).stay (fun c v hc q=>sb.extBut c v ?_ q) (fun _ q=>q) (fun _ _ q=>q) fun _ _ _ q=>q
  rcases hc with z|z
  ·rw[z];exact nb b u e
  ·exact nb c _ z
noncomputable def W0(tc:Option TT)(te:TE)(K1:V->Hp->Prop)(K0:Hp->Prop):St->Hp->Prop:=fun σ H=>match tc with
 |none=>te σ H K1
 |some c=>c σ H fun b H1=>if b=true then te σ H1 K1 else K0 H1
noncomputable def zBP(cap:List Nat)(n:Nat)(wi:TI)(g:TG)(tc:Option TT)(te:TE):TE:=fun σ H Q=>wi σ H fun J H1=>∀p,H1 p=none->∃W:Nat->Nat->List V->St->Hp->Prop,(∃m,W 0 m [] (zAR cap n σ) (upd H1 p (.lst [])))/\∀i m ys σ2 H2,W i m ys σ2 H2->H2 p=some (.lst ys)/\ys.length<sizeLine /\
 ((J.stop i H2/\Q (.ref p) H2)\/(J.go i H2/\∀x H3,J.yld i H2 x H3->g x σ2 H3 fun σ4 H4=>W0 tc te (fun y H5=>H5 p=some (.lst ys)/\∃m',m'<m/\W (i+1) m' (ys++[y]) σ4 (upd H5 p (.lst (ys++[y])))) (fun H5=>∃m',m'<m/\W (i+1) m' ys σ4 H5) σ4 H4))
theorem mD{prog:Program}{w:World}{A:Around}{Z:Result->Shared->Prop}{t0:Shared}{elt tgt src:Expr}{tests:List Expr}{scope:Scope}{pos:Pos}{it out:Value}{env:Env}(W:Nat->Shared->Prop)(each:∀k t,W k t->wpAny (model prog w) A (pyNext it) (fun got t1=>match got with
   |none=>Z (.ok .next) t1
   |some y=>wpAny (model prog w) A (letOwnedTupleGo tgt it y) (fun _ t2=>wpAny (model prog w) A (assign tgt env y) (fun _ t3=>
     wpAny (model prog w) A (forIn tests true fun c b=>if b=true then do let ok <- isTrue c env (eval c env);pure (ForInStep.yield ok) else pure (ForInStep.yield b)) (fun good t4=>
      if good=true then wpAny (model prog w) A (eval elt env) (fun x t5=>
       wpAny (model prog w) A (call (.builtin "list.append") [out,x]) (fun _ t6=>∃j,j<k/\W j t6) (fun _ _=>False) t5) (fun _ _=>False) t4
      else ∃j,j<k/\W j t4) (fun _ _=>False) t3) (fun _ _=>False) t2) (fun _ _=>False) t1) (fun _ _=>False) t)(k:Nat)(h0:W k t0):codeAny (model prog w) A (.compLoop (.ListComp elt [⟨tgt,src,tests,0⟩] scope pos) 0 it out env) Z t0:=by
 refine codeAny_loop rfl W (fun k t hW=>?_) k h0
 show wpAny _ A ((compTurn (.ListComp elt [⟨tgt,src,tests,0⟩] scope pos) 0 it out env).onRaise (fun x=>do noteFrame x env;theTreesLotGoes x)) _ _ t
 refine wpAny_noted ?_
 rw[compTurn_list]
 refine aa (wpAny_standAt (aa (wpAny_mono (each k t hW) (fun got t1 g1=>?_) fun _ _ no=>no.elim)))
 cases got with
 |none=>exact ae g1
 |some y=>
  refine aa (wpAny_mono g1 (fun _ t2 g2=>aa (wpAny_mono g2 (fun _ t3 g3=>aa (wpAny_mono g3 (fun good t4 g4=>?_) fun _ _ no=>no.elim)) fun _ _ no=>no.elim)) fun _ _ no=>no.elim)
  cases good with
  |false=>exact ae ⟨rfl,g4⟩
  |true=>
   exact aa (aa (wpAny_mono g4 (fun x t5 g5=>aa (wpAny_mono g5 (fun _ t6 g6=>ae (ae ⟨rfl,g6⟩)) fun _ _ no=>no.elim)) fun _ _ no=>no.elim))
theorem h9{elt tg iter:Expr}{ifs:List Expr}{pos:Pos}{g:TG}{tc:Option TT}{te:TE}{J:It}{it:Addr}{tn:Nat->Heap->Prop}{Q:VK}{RR:Value->Addr->Result->Shared->Prop}(hc:X.calm=true)(o:CmpOk X N' cap scope)(hg:∀C fp s H,PG (cxC X N' scope C fp s H) tg g)(ht:match (generalizing:=false) tc with|none=>ifs=[]|some c=>∃e,ifs=[e]/\∀C fp s H,PT (cxC X N' scope C fp s H) e c)(he:∀C fp s H,PE (cxC X N' scope C fp s H) elt te)(I:Inv X pins σ H s)(T:Turn X.prog X.w X.K tg J fp it tn)(st:tn 0 s.heap)(hfp:∀b∈fp,dQ X pins H b)(hw:∀p,H p=none->∃W:Nat->Nat->List V->St->Hp->Prop,(∃m,W 0 m [] (zAR cap N'.length σ) (upd H p (.lst [])))/\∀i m ys σ2 H2,W i m ys σ2 H2->H2 p=some (.lst ys)/\ys.length<sizeLine /\
   ((J.stop i H2/\Q (.ref p) H2)\/(J.go i H2/\∀x H3,J.yld i H2 x H3->g x σ2 H3 fun σ4 H4=>W0 tc te (fun y H5=>H5 p=some (.lst ys)/\∃m',m'<m/\W (i+1) m' (ys++[y]) σ4 (upd H5 p (.lst (ys++[y])))) (fun H5=>∃m',m'<m/\W (i+1) m' ys σ4 H5) σ4 H4)))(hRR:∀(p:Addr) (s3 s':Shared) (H3 H2:Hp) (σ2:St),Inv X pins σ H3 s3->(∀b∈fp,dQ X pins H3 b)->Inv (cxC X N' scope s3.heap.objs.size fp s3 H3) [] σ2 H2 s'->Q (.ref p) H2->RR (.ref p) s3.heap.objs.size (.ok .next) s'):wpAny (model X.prog X.w) X.A (newList []) (fun acc s₃=>wpAny (model X.prog X.w) X.A (newFunctionEnv scope X.env.globals (YQ X.env scope.names []) [] X.env.qual none .none (some X.env)) (fun cenv s₄=>
   codeAny (model X.prog X.w) X.A (.compStart (.ListComp elt [⟨tg,iter,ifs,0⟩] scope pos) 0 (.ref it) acc { cenv with scope:=relabel scope X.env }) (RR acc cenv.locals) s₄) X.xe s₃) X.xe s:=by
 refine wpAny_newObj_type ?_
 obtain⟨W,⟨m0,w0⟩,turn⟩:=hw s.heap.objs.size (I.hok.fresh (al _))
 have nfp:∀b∈fp,b<s.heap.objs.size:=fun b hb=>by
  obtain⟨ob,e,_⟩:=T.obj 0 _ st b hb
  exact af e
 have I3:=I.lnew (its:=[]) (ys:=[]) (t':=s.toks) .nil (Nat.zero_le _)
 generalize hs3:({ s with heap:=s.heap.push { cls:=.type "list",data:=.seq ([]:List Value).toArray },toks:=s.toks }:Shared)=s3 at I3
 have hs3':({ s with heap:=s.heap.push { cls:=.type "list",dict:=none,data:=.seq ([]:List Value).toArray } }:Shared)=s3:=hs3
 have hf3:∀b∈fp,dQ X pins (upd H s.heap.objs.size (.lst [])) b:=fun b hb=>⟨by rw[zI (ar (nfp b hb))];exact(hfp b hb).1,(hfp b hb).2⟩
 have st3:tn 0 s3.heap:=T.keep 0 _ _ st fun b _ ob e=>by rw[<-hs3];exact ad _ e
 have nfp3:∀b∈fp,b<s3.heap.objs.size:=fun b hb=>by
  obtain⟨ob,e,_⟩:=T.obj 0 _ st3 b hb
  exact af e
 refine wpAny_newFunctionEnv o.nc (by intro y hy;simp at hy) (fun h₁ hns₁ hsb₁=>?_) o.kind
 have old:∀b ob,s3.heap.get? b=some ob->h₁.get? b=some ob:=fun b ob e=>hsb₁.extBut b ob (ar (af e)) (ad _ e)
 have I4:=JI (t':=s3.toks+([]:List (Str×Value)).length) o I3 hf3 nfp3 (by simpa using hns₁) old
 have st4:tn 0 h₁:=T.keep 0 _ _ st3 fun b _ ob e=>old b ob e
 have fpC:∀H',(∀b∈fp,H' b=none)->∀b∈fp,dQ (cxC X N' scope s3.heap.objs.size fp s3 (upd H s.heap.objs.size (.lst []))) [] H' b:=fun H' hn b hb=>by
  refine⟨hn b hb,ar (nfp3 b hb),I4.ok.exfs b hb,.inl hb,(I4.ok.exf b hb).2,fun p hp=>absurd (show p∈([]:List (Addr×Obj)) from hp) (by simp)⟩
 have loop:codeAny (model X.prog X.w) X.A (.compLoop (.ListComp elt [⟨tg,iter,ifs,0⟩] scope pos) 0 (.ref it) (.ref s.heap.objs.size) (compEnvC scope (YQ X.env scope.names []) s3.heap.objs.size X.env)) (RR (.ref s.heap.objs.size) s3.heap.objs.size) { s3 with heap:=h₁,toks:=s3.toks+([]:List (Str×Value)).length }:=by
  refine mD (fun n s'=>∃i ys σ' H',Inv (cxC X N' scope s3.heap.objs.size fp s3 (upd H s.heap.objs.size (.lst []))) [] σ' H' s'/\tn i s'.heap/\(∀b∈fp,H' b=none)/\W i n ys σ' H') ?_ m0 ⟨0,[],_,_,I4,st4,fun b hb=>(hf3 b hb).1,w0⟩
  rintro n s5 ⟨i,ys,σ5,H5,I5,st5,fr5,w5⟩
  obtain⟨hp5,hz5,br⟩:=turn i n ys σ5 H5 w5
  rcases br with⟨stop,q⟩|⟨go,step⟩
  ·refine thn (T.done (cxC X N' scope s3.heap.objs.size fp s3 (upd H s.heap.objs.size (.lst []))) rfl rfl rfl hc i [] s5 _ H5 (fun _ _=>False) I5 (fpC H5 fr5) st5 stop) fun r s6 ⟨hr,I6⟩=>?_
   subst hr
   exact hRR _ s3 s6 _ H5 _ I3 hf3 I6 q
  ·refine thn (T.item (cxC X N' scope s3.heap.objs.size fp s3 (upd H s.heap.objs.size (.lst []))) rfl rfl rfl hc i [] s5 _ H5 (fun _ _=>False) I5 (fpC H5 fr5) st5 go) fun r s6 ⟨u,hr,h6⟩=>?_
   subst hr
   refine thn h6 fun _ s7 ⟨x,H7,I7,r7,y7,st7,fr7⟩=>?_
   have I7':=I7.pinned (fpC H7 fr7) (T.obj _ _ st7)
   refine thn (hg _ _ _ _ _ s7 _ H7 x u _ I7' r7 (step x H7 y7)) fun _ s8 ⟨σ8,H8,I8,q8⟩=>?_
   have again:∀{H9:Hp} {σ9:St} {s9:Shared} {ys':List V},Inv (cxC X N' scope s3.heap.objs.size fp s3 (upd H s.heap.objs.size (.lst []))) ([]++gI fp s7.heap) σ9 H9 s9->(∃m',m'<n/\W (i+1) m' ys' σ9 H9) ->
     ∃m,m<n/\∃i ys σ' H',Inv (cxC X N' scope s3.heap.objs.size fp s3 (upd H s.heap.objs.size (.lst []))) [] σ' H' s9/\tn i s9.heap/\(∀b∈fp,H' b=none)/\W i m ys σ' H':=fun {H9 σ9 s9 ys'} I9 z=>by
    obtain⟨m',hm,w9⟩:=z
    refine⟨m',hm,i+1,ys',σ9,H9,I9.unpinned,T.keep _ _ _ st7 fun b hb ob e=>(I9.pin (b,ob) (List.mem_append_right _ (List.mem_append_right _ (jM hb e)))).1,fun b hb=>?_,w9⟩
    obtain⟨ob,e,d⟩:=T.obj _ _ st7 b hb
    exact(I9.pin (b,ob) (List.mem_append_right _ (List.mem_append_right _ (jM hb e)))).2.1
   have app:∀{s9:Shared} {H9:Hp} {y:V} {u9:Value},Inv (cxC X N' scope s3.heap.objs.size fp s3 (upd H s.heap.objs.size (.lst []))) ([]++gI fp s7.heap) σ8 H9 s9->RelV y u9->(H9 s.heap.objs.size=some (.lst ys)/\∃m',m'<n/\W (i+1) m' (ys++[y]) σ8 (upd H9 s.heap.objs.size (.lst (ys++[y])))) ->
     wpAny (model X.prog X.w) X.A (call (.builtin "list.append") [.ref s.heap.objs.size,u9]) (fun _ s₅=>∃m,m<n/\∃i ys σ' H',Inv (cxC X N' scope s3.heap.objs.size fp s3 (upd H s.heap.objs.size (.lst []))) [] σ' H' s₅/\tn i s₅.heap/\(∀b∈fp,H' b=none)/\W i m ys σ' H') (fun _ _=>False) s9:=fun {s9 H9 y u9} I9 r9 z9=>by
    refine thn (jK (X:=cxC X N' scope s3.heap.objs.size fp s3 (upd H s.heap.objs.size (.lst []))) _ s9 σ8 H9 (.ref s.heap.objs.size) [y] (.ref s.heap.objs.size) [u9] (fun _ H'=>∃m',m'<n/\W (i+1) m' (ys++[y]) σ8 H') I9 rfl (.cons r9 .nil) ⟨_,ys,y,rfl,rfl,z9.1,hz5,z9.2⟩) fun _ s10 ⟨_,H10,I10,_,z10⟩=>?_
    exact again I10 z10
   cases tc with
   |none=>
    have hi:ifs=[]:=ht
    subst hi
    refine wpAny_tests_nil ?_
    rw[if_pos rfl]
    exact thn (he _ _ _ _ _ s8 σ8 H8 _ I8 q8) fun u9 s9 ⟨y,H9,I9,r9,z9⟩=>app I9 r9 z9
   |some c=>
    obtain⟨e,he1,hce⟩:=ht
    subst he1
    refine wpAny_tests_one (thn (hce _ _ _ _ _ s8 σ8 H8 _ I8 q8) fun b s9 ⟨H9,I9,q9⟩=>?_)
    cases b with
    |false=>
     rw[if_neg am] at q9 ⊢
     exact again I9 q9
    |true=>
     rw[if_pos rfl] at q9 ⊢
     exact thn (he _ _ _ _ _ s9 σ8 H9 _ I9 q9) fun u10 s10 ⟨y,H10,I10,r10,z10⟩=>app I10 r10 z10
 exact codeAny_compStart_list loop (T.self X.A 0 _ _ _ st4 loop)
end
section
variable{X:Cx}{N':List Str}{cap:List Nat}{scope:Scope}{elt tg iter:Expr}{ifs:List Expr}{pos:Pos}{wi:TI}{g:TG}{tc:Option TT}{te:TE}
theorem uN(hc:X.calm=true)(o:CmpOk X N' cap scope)(hi:PI X tg iter wi)(hg:∀C fp s H,PG (cxC X N' scope C fp s H) tg g)(ht:match (generalizing:=false) tc with|none=>ifs=[]|some c=>∃e,ifs=[e]/\∀C fp s H,PT (cxC X N' scope C fp s H) e c)(he:∀C fp s H,PE (cxC X N' scope C fp s H) elt te)(hs:∀x,foldedSetIterable iter X.env x=pure x:=by intro _;rfl):PE X (.ListComp elt [⟨tg,iter,ifs,0⟩] scope pos) (zBP cap N'.length wi g tc te):=by
 intro pins s σ H Q I h
 rw[eval_ListComp]
 refine wpAny_comprehension_free (use:=none) rfl hs (jZ (o.hasc I.ok)) o.kind o.nm (thn (hi pins s σ H _ I h) fun xv s1 h1=>thn h1 fun itv s2 h2=>?_)
 obtain⟨it,fp,tn,J,H2,rfl,I2,T,st2,f2,hw⟩:=h2
 refine h9 (Q:=Q) hc o hg ht he I2 T st2 f2 hw ?_
 intro p s3 s' H3 H4 σ4 I3 f3 J4 q
 obtain⟨m,hn,_⟩:=J4.loc
 exact⟨m,hn,fun h' sb=>⟨.ref p,H4,kS I3 f3 J4 sb,rfl,q⟩⟩
theorem QH{i:Nat}{y:Str}{py spos:Pos}(hc:X.calm=true)(o:CmpOk X N' cap scope)(hi:PI X tg iter wi)(hg:∀C fp s H,PG (cxC X N' scope C fp s H) tg g)(ht:match (generalizing:=false) tc with|none=>ifs=[]|some c=>∃e,ifs=[e]/\∀C fp s H,PT (cxC X N' scope C fp s H) e c)(he:∀C fp s H,PE (cxC X N' scope C fp s H) elt te)(hN:X.N.Nodup)(hy:X.N[i]?=some y)(hx:Loc X.env.scope y)(hf:X.fn y=true\/X.env.scope.names.lookup y=some .local)(hsw:swapsWith (.ListComp elt [⟨tg,iter,ifs,0⟩] scope pos) (some (.Name y py)) spos.line X.env=pure true)(hs:∀x,foldedSetIterable iter X.env x=pure x:=by intro _;rfl):PS X (.Assign [.Name y py] (.ListComp elt [⟨tg,iter,ifs,0⟩] scope pos) spos) (zLT (zBP cap N'.length wi g tc te) (YA i)):=by
 intro pins s σ H D I h
 rw[exec_Assign_Name_used _ _ _ _ hsw];refine aa (wpAny_standAt (aa ?_))
 show wpAny _ X.A (do let _ <- comprehension (.ListComp elt [⟨tg,iter,ifs,0⟩] scope pos) scope X.env _ (newList []) false (eval iter X.env) (some (assign (.Name y py) X.env))) _ _ s
 refine aa (wpAny_mono (wpAny_comprehension_free (use:=some (assign (.Name y py) X.env)) (Q:=fun _ s'=>SP X pins D .next s') rfl hs (jZ (o.hasc I.ok)) o.kind o.nm
  (thn (hi pins s σ H _ I h) fun xv s1 h1=>thn h1 fun itv s2 h2=>?_)) (fun _ s' hq=>ae (ae hq)) fun _ _ e=>e)
 obtain⟨it,fp,tn,J,H2,rfl,I2,T,st2,f2,hw⟩:=h2
 refine h9 (Q:=fun v H1=>YA i v σ H1 D.nx) hc o hg ht he I2 T st2 f2 hw ?_
 intro p s3 s' H3 H4 σ4 I3 f3 J4 q
 obtain⟨m,hn,_⟩:=J4.loc
 have I5:Inv X pins σ H4 s':=kS I3 f3 J4 (Heap.SameBut.refl _ _)
 have fc:dQ X pins H4 s3.heap.objs.size:=I3.fpOk (al _) J4.free
 show wpAny _ X.A (assign (.Name y py) X.env (.ref p)) _ _ _
 refine wpAny_assign_Name (d8 (v:=.ref p) I5 hN hy hx rfl (fun s6 I6 ⟨a,sb,ha⟩=>?_) hf)
 have hne:s3.heap.objs.size≠a:=by
  rcases ha with ha|ha
  ·rw[ha];exact fc.2.1
  ·exact fun z=>fc.2.2.2.2.1 y a ha z.symm
 refine⟨m,hn.sameBut sb hne,fun h' sb'=>⟨_,H4,?_,q⟩⟩
 exact I6.turned (t':=s6.toks) (it:=s3.heap.objs.size) (fun b ob hb e=>sb'.extBut b ob hb e) fc.1 fc.2.1 fc.2.2.2.1 fc.2.2.2.2.1 fc.2.2.2.2.2
end
noncomputable def jT:D->D->Option D
 |.int i,.int j=>some (.int (i+j))
 |.str s,.str t=>if s.length+t.length<=sizeLine then some (.str (s++t)) else none
 |.lst l,.lst m=>if l.length+m.length<=sizeLine then some (.lst (l++m)) else none
 |.tup l,.tup m=>if l.length+m.length<=sizeLine/\l.isEmpty=false/\m.isEmpty=false then some (.tup (l++m)) else none
 |_,_=>none
noncomputable def zFJ:D->D->Option D
 |.int i,.int j=>some (.int (i-j))
 |_,_=>none
noncomputable def zC4:D->D->Option D
 |.int i,.int j=>if (-(2 ^ 64)<i/\i<2 ^ 64)\/(-(2 ^ 64)<j/\j<2 ^ 64) then some (.int (i*j)) else none
 |_,_=>none
noncomputable def wJ:D->D->Option D
 |.int i,.int j=>if 0<j/\j<1073741824 then some (.int (i / j)) else none
 |_,_=>none
noncomputable def wY:D->D->Option D
 |.int i,.int j=>if 0<j then some (.int (i % j)) else none
 |_,_=>none
noncomputable def zKP:D->D->Option D
 |.int i,.int j=>if 0<=j/\j<=1000000/\i.natAbs<2 ^ 64 then some (.int (i ^ j.toNat)) else none
 |_,_=>none
noncomputable def zHG:D->Option D
 |.int i=>some (.int (-i))
 |_=>none
noncomputable def gtD:D->D->Option D
 |.int i,.int j=>some (.bl (decide (j<i)))
 |_,_=>none
noncomputable def eqS:D->D->Option Bool
 |.int i,.int j=>some (decide (i=j))
 |.str s,.str t=>some (decide (s=t))
 |.bl a,.bl b=>some (decide (a=b))
 |.non,.non=>some true
 |.non,.int _=>some false
 |.int _,.non=>some false
 |.non,.str _=>some false
 |.str _,.non=>some false
 |.int _,.str _=>some false
 |.str _,.int _=>some false
 |_,_=>none
noncomputable def eqD(x y:D):Option D:=(eqS x y).map .bl
noncomputable def neD(x y:D):Option D:=(eqS x y).map fun b=>.bl !b
section
variable{X:Cx}
noncomputable def zI1(K:Fg):R2:=fun x y H Q=>∃l b xs zs,x=.ref l/\y=.ref b/\SqL K H l xs/\SqL K H b zs/\xs.length+zs.length<=sizeLine/\∀p,H p=none->Q (.ref p) (upd H p (.lst (xs++zs)))
theorem op_catR:OpR X (binaryOp .Add) (zI1 X.K):=by
 intro pins s σ H x y v u Q I rx ry h
 obtain⟨l,b,xs,zs,rfl,rfl,hH,hB,hz,q⟩:=h
 cases rx
 cases ry
 obtain⟨its,r,⟨⟨cls,dd,data,sl⟩,n,e,hc,hd0,hd⟩,z⟩:=I.list hH
 obtain⟨its2,r2,⟨⟨cls2,dd2,data2,sl2⟩,n2,e2,hc2,hd02,hd2⟩,z2⟩:=I.list hB
 have hl:=r.length
 have hl2:=r2.length
 cases (show cls=_ from hc);cases (show dd=_ from hd0);cases (show data=_ from hd)
 cases (show cls2=_ from hc2);cases (show dd2=_ from hd02);cases (show data2=_ from hd2)
 refine concat_meets ⟨_,e,rfl⟩ ⟨_,e2,rfl⟩ noFill_list_add seq_list_add PySem.F.slot_list_add PySem.F.entry_list_add (PySem.F.args_list_add_2 _ _) (list_addW l b its.toArray its2.toArray n n2 none none sl sl2 (by rw[ag,ag];omega)) ⟨e,e2,?_⟩
 have ea:its.toArray++its2.toArray=(its++its2).toArray:=by simp
 rw[ea]
 exact⟨.ref _,_,I.lnew (t':=s.toks) (r.append r2) (by rw[List.length_append];omega),rfl,q _ I.fresh⟩
noncomputable def zIZ(K:Fg):R2:=fun x y H Q=>rI0 (fun i j=>.int (i+j)) x y H Q\/(∃i j,x=.str i/\y=.str j/\i.length+j.length<=sizeLine/\Q (.str (i++j)) H)\/zI1 K x y H Q\/zI0 K x y H Q
theorem xL:OpR X (binaryOp .Add) (zIZ X.K):=op_add.or (op_add_str.or (op_catR.or zCW))
theorem oQ(s t:List Nat):((⟨s.toArray⟩:Str)++(⟨t.toArray⟩:Str))=(⟨(s++t).toArray⟩:Str):=by
 show(⟨s.toArray++t.toArray⟩:Str)=_
 simp
theorem jD(s:List Nat):(⟨s.toArray⟩:Str).length=s.length:=by simp[Str.length]
theorem xM{K:Fg}:OpD K (zIZ K) jT:=by
 intro O H dx dy d vx vy Q ol ix iy e q
 unfold jT at e
 split at e
 ·have e:=aq e
  subst e
  rw[Is.int_iff] at ix iy
  exact .inl ⟨_,_,ix,iy,q _ H (Same.refl H) (by rw[Is.int_iff])⟩
 ·rename_i s t
  split at e
  ·rename_i hl
   cases e
   rw[Is.str_iff] at ix iy
   refine .inr (.inl ⟨_,_,ix,iy,by rw[jD,jD];exact hl,q _ H (Same.refl H) ?_⟩)
   rw[Is.str_iff,oQ]
  ·cases e
 ·rename_i l m
  split at e
  ·rename_i hl
   cases e
   rw[Is.lst_iff] at ix iy
   obtain⟨a,xs,rfl,hs,il⟩:=ix
   obtain⟨b,ys,rfl,hs2,il2⟩:=iy
   have e1:=il.length
   have e2:=il2.length
   refine .inr (.inr (.inl ⟨a,b,xs,ys,rfl,rfl,hs.sq,hs2.sq,by omega,fun p hp=>q _ _ (zT hp) ?_⟩))
   rw[Is.lst_iff]
   refine⟨p,_,rfl,.inl ⟨fun z=>?_,.inl zK⟩,(il.append il2).same (zT hp) ol⟩
   obtain⟨zs,ez,_⟩:=ol p z
   rw[hp] at ez;cases ez
  ·cases e
 ·rename_i l m
  split at e
  ·rename_i hl
   cases e
   rw[Is.tup_iff] at ix iy
   obtain⟨a,xs,rfl,hs,il⟩:=ix
   obtain⟨b,ys,rfl,hs2,il2⟩:=iy
   have e1:=il.length
   have e2:=il2.length
   refine .inr (.inr (.inr ⟨a,b,xs,ys,rfl,rfl,hs,hs2,?_,by omega,fun z=>?_,fun _ p hp=>q _ _ (zT hp) ?_⟩))
   ·rintro rfl
    have:l=[]:=by simpa using e1
    subst this
    simp at hl
   ·subst z
    have:m=[]:=by simpa using e2
    subst this
    simp at hl
   ·rw[Is.tup_iff]
    exact⟨p,_,rfl,SqT.of zK,(il.append il2).same (zT hp) ol⟩
  ·cases e
 ·cases e
theorem zK0{K:Fg}{C:Int->Int->Prop}{g:Int->Int->V}{m:D->D->Option D}(h:∀dx dy d,m dx dy=some d->∃i j,dx=.int i/\dy=.int j/\C i j/\∀O H,Is K O H d (g i j)):OpD K (rI C g) m:=by
 intro O H dx dy d vx vy Q ol ix iy e q
 obtain⟨i,j,rfl,rfl,hc,hd⟩:=h dx dy d e
 rw[Is.int_iff] at ix iy
 exact⟨i,j,ix,iy,hc,q _ H (Same.refl H) (hd O H)⟩
theorem zI7{K:Fg}{g:Int->Int->V}{m:D->D->Option D}(h:∀dx dy d,m dx dy=some d->∃i j,dx=.int i/\dy=.int j/\∀O H,Is K O H d (g i j)):OpD K (rI0 g) m:=by
 intro O H dx dy d vx vy Q ol ix iy e q
 obtain⟨i,j,rfl,rfl,hd⟩:=h dx dy d e
 rw[Is.int_iff] at ix iy
 exact⟨i,j,ix,iy,q _ H (Same.refl H) (hd O H)⟩
theorem Q1{K:Fg}:OpD K (rI0 fun i j=>.int (i-j)) zFJ:=zI7 fun dx dy d e=>by
 unfold zFJ at e
 split at e
 ·cases e;exact⟨_,_,rfl,rfl,fun O H=>by rw[Is.int_iff]⟩
 ·cases e
theorem ZQ{K:Fg}:OpD K (rI CMul fun i j=>.int (i*j)) zC4:=zK0 fun dx dy d e=>by
 unfold zC4 at e
 split at e
 ·split at e
  ·rename_i hc;cases e;exact⟨_,_,rfl,rfl,hc,fun O H=>by rw[Is.int_iff]⟩
  ·cases e
 ·cases e
theorem wO{K:Fg}:OpD K (rI zMW fun i j=>.int (i / j)) wJ:=zK0 fun dx dy d e=>by
 unfold wJ at e
 split at e
 ·split at e
  ·rename_i hc;cases e;exact⟨_,_,rfl,rfl,hc,fun O H=>by rw[Is.int_iff]⟩
  ·cases e
 ·cases e
theorem xO{K:Fg}:OpD K (rI (fun _ j=>0<j) fun i j=>.int (i % j)) wY:=zK0 fun dx dy d e=>by
 unfold wY at e
 split at e
 ·split at e
  ·rename_i hc;cases e;exact⟨_,_,rfl,rfl,hc,fun O H=>by rw[Is.int_iff]⟩
  ·cases e
 ·cases e
theorem zHD{K:Fg}:OpD K (rI zMV fun i j=>.int (i ^ j.toNat)) zKP:=zK0 fun dx dy d e=>by
 unfold zKP at e
 split at e
 ·split at e
  ·rename_i hc;cases e;exact⟨_,_,rfl,rfl,hc,fun O H=>by rw[Is.int_iff]⟩
  ·cases e
 ·cases e
theorem zFP{K:Fg}:OpD K (rI0 fun i j=>.bl (decide (j<i))) gtD:=zI7 fun dx dy d e=>by
 unfold gtD at e
 split at e
 ·cases e;exact⟨_,_,rfl,rfl,fun O H=>by rw[Is.bl_iff]⟩
 ·cases e
theorem zD6{K:Fg}{O:Addr->Prop}{H:Hp}{dx dy:D}{vx vy:V}{b:Bool}(ix:Is K O H dx vx)(iy:Is K O H dy vy)(e:eqS dx dy=some b):zLY vx vy=true/\decide (vx=vy)=b:=by
 cases dx<;>cases dy<;>first|(simp only[eqS,reduceCtorEq] at e;done)|skip
 all_goals simp only[eqS,Option.some.injEq] at e
 all_goals subst e
 all_goals first|rw[Is.int_iff] at ix|rw[Is.str_iff] at ix|rw[Is.bl_iff] at ix|rw[Is.non_iff] at ix
 all_goals first|rw[Is.int_iff] at iy|rw[Is.str_iff] at iy|rw[Is.bl_iff] at iy|rw[Is.non_iff] at iy
 all_goals subst ix iy
 all_goals refine⟨rfl,?_⟩
 all_goals simp
theorem zKZ{K:Fg}:OpD K rEq eqD:=by
 intro O H dx dy d vx vy Q ol ix iy e q
 obtain⟨b,e1,rfl⟩:=map_some e
 obtain⟨h1,h2⟩:=zD6 ix iy e1
 exact⟨h1,q _ H (Same.refl H) (by rw[Is.bl_iff,h2])⟩
theorem zKY{K:Fg}:OpD K rNe neD:=by
 intro O H dx dy d vx vy Q ol ix iy e q
 obtain⟨b,e1,rfl⟩:=map_some e
 obtain⟨h1,h2⟩:=zD6 ix iy e1
 exact⟨h1,q _ H (Same.refl H) (by rw[Is.bl_iff,h2])⟩
noncomputable def b7:D->Bool
 |.int _=>true
 |.str _=>true
 |_=>false
noncomputable def eqF:D->D->Bool
 |.int i,.int j=>decide (i=j)
 |.str s,.str t=>decide (s=t)
 |_,_=>false
theorem zD2{K:Fg}{O:Addr->Prop}{H:Hp}{d:D}{v:V}(h:Is K O H d v)(f:b7 d=true):b6 v=true:=by
 cases d<;>first|(cases f;done)|skip
 ·rw[Is.int_iff] at h;subst h;rfl
 ·rw[Is.str_iff] at h;subst h;rfl
theorem zIB{K:Fg}{O:Addr->Prop}{H:Hp}{d e:D}{v u:V}(h:Is K O H d v)(f:b7 d=true)(h':Is K O H e u)(f':b7 e=true):eqV v u=eqF d e:=by
 cases d<;>first|(cases f;done)|skip
 all_goals cases e<;>first|(cases f';done)|skip
 all_goals first|rw[Is.int_iff] at h|rw[Is.str_iff] at h
 all_goals first|rw[Is.int_iff] at h'|rw[Is.str_iff] at h'
 all_goals subst h h'
 ·simp[eqV,eqF]
  rw[Bool.beq_eq_decide_eq]
 ·rfl
 ·rfl
 ·rename_i s t
  simp only[eqV,eqF]
  by_cases z:s=t
  ·subst z;simp
  ·rw[decide_eq_false z,beq_eq_false_iff_ne]
   intro z'
   have:s.toArray=t.toArray:=by injection z'
   exact z (by simpa using this)
end
noncomputable def ixD:D->D->Option D
 |.lst l,.int i=>atI l i
 |.tup l,.int i=>atI l i
 |.str s,.int i=>if s.length<=sizeLine then (atI s i).map fun c=>.str [c] else none
 |_,_=>none
theorem rQ{α β:Type}{l:List α}{m:List β}{i:Int}{x:α}(hl:l.length=m.length)(e:atI l i=some x):∃j:Nat,l[j]?=some x/\∀y,m[j]?=some y->atI m i=some y:=by
 unfold atI at e ⊢
 obtain⟨j,e1,e2⟩:=bind_some e
 exact⟨j,e2,fun y ey=>by rw[<-hl,e1];exact ey⟩
noncomputable def zJB(fl:ML)(g:ME):ME:=fun r=>(fl r).bind fun l=>(g r).bind fun d=>(intD d).bind fun i=>atI l i
noncomputable def J9(fl:ML):ME:=fun r=>(fl r).map fun l=>.int l.length
section
variable{X:Cx}{pos:Pos}{a b:Expr}{f g:ME}
theorem zI6{K:Fg}:OpD K (rIx K) ixD:=by
 intro O H dx dy d vx vy Q ol ix iy e q
 unfold ixD at e
 split at e
 ·rename_i l i
  rw[Is.lst_iff] at ix
  rw[Is.int_iff] at iy
  obtain⟨p,xs,rfl,hs,il⟩:=ix
  obtain⟨j,e1,e2⟩:=rQ il.length e
  obtain⟨v,e3,iv⟩:=il.get e1
  exact .inl ⟨p,xs,i,v,rfl,iy,hs.sq,e2 v e3,q _ H (Same.refl H) iv⟩
 ·rename_i l i
  rw[Is.tup_iff] at ix
  rw[Is.int_iff] at iy
  obtain⟨p,xs,rfl,hs,il⟩:=ix
  obtain⟨j,e1,e2⟩:=rQ il.length e
  obtain⟨v,e3,iv⟩:=il.get e1
  exact .inr (.inl ⟨p,xs,i,v,rfl,iy,hs,e2 v e3,q _ H (Same.refl H) iv⟩)
 ·rename_i s i
  split at e
  ·rename_i hl
   obtain⟨c,e1,rfl⟩:=map_some e
   rw[Is.str_iff] at ix
   rw[Is.int_iff] at iy
   exact .inr (.inr ⟨_,i,c,ix,iy,by rw[jD];exact hl,by simpa using e1,q _ H (Same.refl H) (by rw[Is.str_iff])⟩)
  ·cases e
 ·cases e
theorem yQ(ha:DE X a f)(hb:DE X b g)(hs:v8 b:=by intro _ _;rfl):DE X (.Subscript a b pos) (zJ ixD f g):=
 PE.conseq (zCR zDS ha hb hs) fun σ H Q h=>two (ta:=lE X.K f) (tb:=lE X.K g) zI6 h
theorem zEV{fl:ML}(ha:DB X a fl)(hb:DE X b g)(hs:v8 b:=by intro _ _;rfl):DE X (.Subscript a b pos) (zJB fl g):=by
 refine PE.conseq (zCR ix_list ha hb hs) fun σ H Q h=>?_
 obtain⟨O0,r,d,hR,e,q⟩:=h
 obtain⟨l,e1,e⟩:=bind_some e
 obtain⟨d',e2,e⟩:=bind_some e
 obtain⟨i,e3,e⟩:=bind_some e
 cases u5 e3
 refine⟨O0,r,l,hR,e1,fun p xs H1 s1 rd il=>⟨O0,r,_,hR.same s1,e2,fun v2 H2 s2 i2=>?_⟩⟩
 rw[Is.int_iff] at i2
 obtain⟨j,e4,e5⟩:=rQ il.length e
 obtain⟨v,e6,iv⟩:=il.get e4
 exact⟨p,xs,i,v,rfl,i2,s2.seq rd,e5 v e6,q v H2 (s1.trans s2) (iv.same s2 (hR.same s1).ol)⟩
noncomputable def gX:D->Option D
 |.lst l=>some (.int l.length)
 |.tup l=>some (.int l.length)
 |.str s=>if s.length<=sizeLine then some (.int s.length) else none
 |_=>none
theorem mE:CallR X (.builtin "len") (fun xs H Q=>(∃p ys,xs=[.ref p]/\(SqL X.K H p ys\/SqT X.K H p ys)/\Q (.int ys.length) H)\/(∃z,xs=[.str z]/\z.length<=sizeLine/\Q (.int z.length) H)):=call_len_seq.or cO
theorem zDO{K:Fg}{O:Addr->Prop}{H:Hp}{x d:D}{v:V}{Q:VK}(i1:Is K O H x v)(e:gX x=some d)(q:∀v,Is K O H d v->Q v H):(∃p ys,[v]=[.ref p]/\(SqL K H p ys\/SqT K H p ys)/\Q (.int ys.length) H)\/(∃z,[v]=[.str z]/\z.length<=sizeLine/\Q (.int z.length) H):=by
 cases x<;>first|(simp only[gX,reduceCtorEq] at e;done)|skip
 ·simp only[gX] at e
  split at e
  ·rename_i hl
   cases e
   rw[Is.str_iff] at i1
   subst i1
   exact .inr ⟨_,rfl,by rw[jD];exact hl,q _ (by rw[Is.int_iff,jD])⟩
  ·cases e
 ·simp only[gX,Option.some.injEq] at e
  subst e
  rw[Is.tup_iff] at i1
  obtain⟨p,ys,rfl,hs,il⟩:=i1
  exact .inl ⟨p,ys,rfl,.inr hs,q _ (by rw[Is.int_iff,il.length])⟩
 ·simp only[gX,Option.some.injEq] at e
  subst e
  rw[Is.lst_iff] at i1
  obtain⟨p,ys,rfl,hs,il⟩:=i1
  exact .inl ⟨p,ys,rfl,.inl hs.sq,q _ (by rw[Is.int_iff,il.length])⟩
theorem hZ{p':Pos}(hg:Gl X "len")(hm:X.mg "len" = none)(ha:DE X a f)(hs:starEach [a] X.env=(false,eval a X.env)::starEach [] X.env:=by rfl):DE X (.Call (.Name "len" p') [a] [] pos) (mUn gX f):=by
 refine PE.conseq (jU mE hg hm PySem.boot_len (zX ha y0 hs) (he:=hs)) fun σ H Q h=>?_
 obtain⟨O0,r,d,hR,e,q⟩:=h
 obtain⟨x,e1,e2⟩:=bind_some e
 exact⟨O0,r,x,hR,e1,fun v H1 s1 i1=>zDO i1 e2 fun v' iv=>q v' H1 s1 iv⟩
theorem zET{p':Pos}{fl:ML}(hg:Gl X "len")(hm:X.mg "len" = none)(ha:DB X a fl)(hs:starEach [a] X.env=(false,eval a X.env)::starEach [] X.env:=by rfl):DE X (.Call (.Name "len" p') [a] [] pos) (J9 fl):=by
 refine PE.conseq (jU mE hg hm PySem.boot_len (zX ha y0 hs) (he:=hs)) fun σ H Q h=>?_
 obtain⟨O0,r,d,hR,e,q⟩:=h
 obtain⟨l,e1,rfl⟩:=map_some e
 exact⟨O0,r,l,hR,e1,fun p xs H1 s1 rd il=>.inl ⟨p,xs,rfl,.inl rd,q _ H1 s1 (by rw[Is.int_iff,il.length])⟩⟩
noncomputable def tyN:D->Option String
 |.non=>some "NoneType"
 |.bl _=>some "bool"
 |.int _=>some "int"
 |.str _=>some "str"
 |.tup _=>some "tuple"
 |.lst _=>some "list"
 |_=>none
noncomputable def subN:List (String×String×Bool):=[("bool", "int",true),("NoneType", "int",false),("NoneType", "str",false),("NoneType", "bool",false),("NoneType", "tuple",false),("NoneType", "list",false),
 ("bool", "str",false),("bool", "tuple",false),("bool", "list",false),("int", "bool",false),("int", "str",false),("int", "tuple",false),("int", "list",false),
 ("str", "int",false),("str", "bool",false),("str", "tuple",false),("str", "list",false),("tuple", "int",false),("tuple", "bool",false),("tuple", "str",false),("tuple", "list",false),
 ("list", "int",false),("list", "bool",false),("list", "str",false),("list", "tuple",false)]
noncomputable def zDX(t T:String):Option Bool:=if t=T then some true else (subN.find? fun x=>x.1 == t && x.2.1 == T).map (·.2.2)
noncomputable def qX(T:String)(d:D):Option D:=(tyN d).bind fun t=>(zDX t T).map .bl
theorem zBQ(K:Fg):∀p∈subN,PySem.W.kitOne K (.type p.1) (.type p.2.1)=some p.2.2:=by
 unfold subN
 repeat (first|exact List.forall_mem_nil _|refine List.forall_mem_cons.mpr ⟨rfl,?_⟩)
theorem zHT(K:Fg){t T:String}{b:Bool}(e:zDX t T=some b):PySem.W.kitOne K (.type t) (.type T)=some b:=by
 unfold zDX at e
 split at e
 ·rename_i h;subst h;cases e;unfold PySem.W.kitOne;rw[if_pos (by simp)]
 ·obtain⟨⟨x,y,c⟩,e1,e2⟩:=map_some e
  have hm:=List.mem_of_find?_eq_some e1
  have hp:=List.find?_some e1
  simp only[Bool.and_eq_true,beq_iff_eq] at hp
  obtain⟨rfl,rfl⟩:=hp
  subst e2
  exact(zBQ K _ hm).trans rfl
noncomputable def TyA(K:Fg)(H:Hp)(x:V)(t:String):Prop:=match x with
 |.non=>t = "NoneType"
 |.bl _=>t = "bool"
 |.int _=>t = "int"
 |.str _=>t = "str"
 |.ref a=>(t = "list" /\ ∃xs,SqL K H a xs)\/(t = "tuple" /\ ∃xs,SqT K H a xs)
 |_=>False
theorem mF:CallR X (.builtin "isinstance") (fun xs H Q=>∃x t T b,xs=[x,.ty T]/\TyA X.K H x t/\zDX t T=some b/\Q (.bl b) H):=by
 intro pins s σ H xs us Q I r h
 obtain⟨x,t,T,b,rfl,ht,e,q⟩:=h
 obtain⟨u,v,rfl,r1,r2⟩:=Vals.two r
 cases (show v=Value.type T from r2)
 have e':=zHT X.K e
 have fin:∀tk,EP X pins σ Q (.bool b) { s with toks:=tk }:=fun tk=>⟨.bl b,H,I.tok tk,rfl,q⟩
 cases x with
 |non=>cases (show t=_ from ht);exact kR I r1 (.non) e' fin
 |bl y=>cases (show t=_ from ht);exact kR I r1 (.bl y) e' fin
 |int i=>cases (show t=_ from ht);exact kR I r1 (.int i) e' fin
 |str y=>cases (show t=_ from ht);exact kR I r1 (.str y) e' fin
 |ref a=>
  cases (show u=Value.ref a from r1)
  rcases(show(t = "list" /\ ∃xs,SqL X.K H a xs)\/(t = "tuple" /\ ∃xs,SqT X.K H a xs) from ht) with⟨rfl,xs,hs⟩|⟨rfl,xs,hs⟩
  ·obtain⟨its,_,⟨o,n,h1,h2,_⟩,_⟩:=I.list hs
   exact PySem.W.kia_one PySem.W.kitx_list I.kIn ⟨o,h1,h2⟩ e' (fun z=>nomatch z) fin
  ·obtain⟨its,_,⟨o,h1,h2,_⟩,_⟩:=I.tuple hs
   exact PySem.W.kia_one PySem.W.kitx_tuple I.kIn ⟨o,h1,h2⟩ e' (fun z=>nomatch z) fin
 |_=>exact False.elim ht
theorem zGC{K:Fg}{O:Addr->Prop}{H:Hp}{d:D}{v:V}{t:String}(h:Is K O H d v)(e:tyN d=some t):TyA K H v t:=by
 cases d<;>first|(simp only[tyN,reduceCtorEq] at e;done)|skip
 all_goals simp only[tyN,Option.some.injEq] at e
 all_goals subst e
 ·rw[Is.non_iff] at h;subst h;rfl
 ·rw[Is.bl_iff] at h;subst h;rfl
 ·rw[Is.int_iff] at h;subst h;rfl
 ·rw[Is.str_iff] at h;subst h;rfl
 ·rw[Is.tup_iff] at h;obtain⟨a,xs,rfl,hs,_⟩:=h;exact .inr ⟨rfl,xs,hs⟩
 ·rw[Is.lst_iff] at h;obtain⟨a,xs,rfl,hs,_⟩:=h;exact .inl ⟨rfl,xs,hs.sq⟩
theorem y6{p' pt:Pos}{x:Str}{T:String}(hg:Gl X "isinstance")(hm:X.mg "isinstance" = none)(ha:DE X a f)(hT:PE X (.Name x pt) (tC (.ty T)))(hs:starEach [a,.Name x pt] X.env=(false,eval a X.env)::starEach [.Name x pt] X.env:=by rfl)(hs2:starEach [.Name x pt] X.env=(false,eval (.Name x pt) X.env)::starEach [] X.env:=by rfl):DE X (.Call (.Name "isinstance" p') [a,.Name x pt] [] pos) (mUn (qX T) f):=by
 refine PE.conseq (jU mF hg hm PyProof.Rows.boot_isinstance (zX ha (zX hT y0 hs2) hs) (he:=hs)) fun σ H Q h=>?_
 obtain⟨O0,r,d,hR,e,q⟩:=h
 obtain⟨x,e1,e2⟩:=bind_some e
 obtain⟨t,e3,e4⟩:=bind_some e2
 obtain⟨b,e5,rfl⟩:=map_some e4
 exact⟨O0,r,x,hR,e1,fun v H1 s1 i1=>⟨v,t,T,b,rfl,zGC i1 e3,e5,q _ H1 s1 (by rw[Is.bl_iff])⟩⟩
end
noncomputable def zC9(r:En)(i:Nat):Option (List D):=(r[i]?).bind Sl.ml
noncomputable def QG(i:Nat)(l:List D)(r:En):Option En:=match r[i]? with
 |some (.o _)=>some (r.set i (.o l))
 |some (.p _)=>some (r.set i (.p l))
 |_=>none
section
variable{K:Fg}{O0:Addr->Prop}{H H':Hp}{r:En}{σ:St}{i:Nat}{a:Addr}{l l':List D}
theorem uM{r':En}(e:QG i l' r=some r'):∃x y,r[i]?=some x/\r'=r.set i y/\y.own=some l'/\y.mt=some l'/\(∃l,x.mt=some l)/\(∀m,y=.p m↔m=l'/\∃n,x=.p n)/\(∀m,y=.o m↔m=l'/\∃n,x=.o n)/\(∀m,y≠.z m)/\y.ls=some l'/\∀ks m,y≠.d ks m:=by
 unfold QG at e
 cases e1:r[i]? with
 |none=>rw[e1] at e;cases e
 |some x=>
  rw[e1] at e
  cases x with
  |o n=>cases e;exact⟨.o n,.o l',rfl,rfl,rfl,rfl,⟨n,rfl⟩,fun m=>⟨(fun z=>by cases z),(fun⟨_,_,z⟩=>by cases z)⟩,fun m=>⟨(fun z=>by cases z;exact⟨rfl,n,rfl⟩),(fun⟨z,_⟩=>by subst z;rfl)⟩,(fun m z=>by cases z),rfl,(fun ks m z=>by cases z)⟩
  |p n=>cases e;exact⟨.p n,.p l',rfl,rfl,rfl,rfl,⟨n,rfl⟩,fun m=>⟨(fun z=>by cases z;exact⟨rfl,n,rfl⟩),(fun⟨z,_⟩=>by subst z;rfl)⟩,fun m=>⟨(fun z=>by cases z),(fun⟨_,_,z⟩=>by cases z)⟩,(fun m z=>by cases z),rfl,(fun ks m z=>by cases z)⟩
  |_=>cases e
theorem R.put{r':En}{xs':List V}(h:R K O0 H r σ)(e:QG i l' r=some r')(ha:σ[i]?=some (some (.ref a)))(kp:∀b o,b≠a->H b=some o->H' b=some o)(lv:∀b,b≠a->H' b=none->H b=none)(e':H' a=some (.lst xs'))(il:IsL K (Ow O0 r σ) H' l' xs'):R K O0 H' r' σ/\Kp H r σ H' r' σ:=by
 obtain⟨x,y,ex,rfl,yo,ym,⟨l0,xm⟩,yp,yoo,yz,yl,yd⟩:=uM e
 have hi:i<r.length:=(ak.mp ex).1
 have own_i:wK r σ a:=⟨i,l0,by rw[ex];exact kP xm,ha⟩
 have mut_i:MutAt r σ a:=⟨i,l0,by rw[ex];exact xm,ha⟩
 have atO:∀b,wK (r.set i y) σ b->wK r σ b:=fun b ⟨j,m,e1,q1⟩=>by
  by_cases hj:i=j
  ·subst hj;rw[ha] at q1;cases q1;exact own_i
  ·rw[zC hj] at e1;exact⟨j,m,e1,q1⟩
 have atM:∀b,MutAt (r.set i y) σ b->MutAt r σ b:=fun b ⟨j,m,e1,q1⟩=>by
  by_cases hj:i=j
  ·subst hj;rw[ha] at q1;cases q1;exact mut_i
  ·rw[zC hj] at e1;exact⟨j,m,e1,q1⟩
 have sub:∀b,Ow O0 (r.set i y) σ b->H b≠none->Ow O0 r σ b:=fun b z _=>z.imp id (atO b)
 have sub':∀b,Ow O0 (r.set i y) σ b->H' b≠none->Ow O0 r σ b:=fun b z _=>z.imp id (atO b)
 have keep:vK (Ow O0 r σ) H H':=fun b o e1 n=>kp b o (fun z=>n (by subst z;exact .inr own_i)) e1
 have lst:∀b o,H b=some o->Mb o->∃o',H' b=some o'/\Mb o':=fun b o e1 mb=>by
  by_cases hb:b=a
  ·subst hb;exact⟨.lst xs',e',trivial⟩
  ·exact⟨o,kp b _ hb e1,mb⟩
 have ol':qR (Ow O0 r σ) H':=fun b z=>by obtain⟨o,q,mb⟩:=h.ol b z;exact lst b o q mb
 refine⟨⟨by simp[h.len],fun j d e1=>?_,fun j m e1=>?_,fun j k b m n e1 e2 q1 q2=>?_,fun b z=>?_,fun j m b e1 q1=>?_,fun j m b e1 q1=>?_,fun j ks m e1=>?_⟩,⟨fun b o e1 n=>kp b o (fun z=>n (by subst z;exact mut_i)) e1,fun b e1=>?_,lst,fun b z=>.inl (atO b z),fun b z=>.inl (atM b z),fun j m e1=>?_,fun j m e1=>?_⟩⟩
 ·have hj:i≠j:=fun z=>by subst z;rw[zG hi] at e1;cases e1;cases yo
  rw[zC hj] at e1
  obtain⟨v,q1,q2⟩:=h.val j d e1
  exact⟨v,q1,Is.mono keep h.ol sub _ _ q2⟩
 ·by_cases hj:i=j
  ·subst hj
   rw[zG hi] at e1
   have:l'=m:=by have e1':y.ls=some m:=e1;rw[yl] at e1';exact aq e1'
   subst this
   exact⟨a,xs',ha,e',IsL.mono (Same.kp (Same.refl H') _) ol' sub' _ _ il⟩
  ·rw[zC hj] at e1
   obtain⟨b,ys,q1,q2,q3⟩:=h.own j m e1
   have hb:b≠a:=fun z=>by
    subst z
    exact hj (h.apart i j b l0 m (by rw[ex];exact kP xm) (qW e1) ha q1)
   exact⟨b,ys,q1,kp b _ hb q2,IsL.mono keep h.ol sub _ _ q3⟩
 ·have get:∀(j:Nat) (m:List D),((r.set i y)[j]?).bind Sl.own=some m->∃m',(r[j]?).bind Sl.own=some m':=fun j m e1=>by
   by_cases hj:i=j
   ·subst hj;exact⟨l0,by rw[ex];exact kP xm⟩
   ·rw[zC hj] at e1;exact⟨m,e1⟩
  obtain⟨m',z1⟩:=get j m e1
  obtain⟨n',z2⟩:=get k n e2
  exact h.apart j k b m' n' z1 z2 q1 q2
 ·obtain⟨o,q,mb⟩:=h.o0 b z;exact lst b o q mb
 ·by_cases hj:i=j
  ·subst hj
   rw[zG hi] at e1
   rcases e1 with e1|e1|⟨ks,e1⟩
   ·obtain⟨_,n,z⟩:=(yoo m).mp (aq e1)
    exact h.loc i n b (.inl (by rw[ex,z])) q1
   ·exact absurd (aq e1) (yz m)
   ·exact absurd (aq e1) (yd ks m)
  ·rw[zC hj] at e1
   exact h.loc j m b e1 q1
 ·by_cases hj:i=j
  ·subst hj
   rw[zG hi] at e1
   obtain⟨_,n,z⟩:=(yp m).mp (aq e1)
   exact h.par i n b (by rw[ex,z]) q1
  ·rw[zC hj] at e1
   exact h.par j m b e1 q1
 ·have hj:i≠j:=fun z=>by subst z;rw[zG hi] at e1;exact yd ks m (aq e1)
  rw[zC hj] at e1
  obtain⟨b,kvs,q1,q2,q4,q3⟩:=h.dct j ks m e1
  have hb:b≠a:=fun z=>by
   subst z
   exact hj (h.apart i j b l0 m (by rw[ex];exact kP xm) (by rw[e1];rfl) ha q1)
  exact⟨b,kvs,q1,kp b _ hb q2,q4,IsL.mono keep h.ol sub _ _ q3⟩
 ·by_cases hb:b=a
  ·subst hb;rw[e'] at e1;cases e1
  ·exact lv b hb e1
 ·by_cases hj:i=j
  ·subst hj
   rw[ex] at e1
   exact⟨⟨l',by rw[zG hi,(yp l').mpr ⟨rfl,m,aq e1⟩]⟩,rfl⟩
  ·exact⟨⟨m,by rw[zC hj];exact e1⟩,rfl⟩
 ·have hj:i≠j:=fun z=>by subst z;rw[ex] at e1;cases e1;cases xm
  exact⟨by rw[zC hj];exact e1,rfl⟩
theorem R.upd{r':En}{xs xs':List V}(h:R K O0 H r σ)(e:QG i l' r=some r')(ha:σ[i]?=some (some (.ref a)))(hx:H a=some (.lst xs))(il:IsL K (Ow O0 r σ) H l' xs'):R K O0 (upd H a (.lst xs')) r' σ/\Kp H r σ (upd H a (.lst xs')) r' σ:=by
 have own_a:Ow O0 r σ a:=by
  obtain⟨x,y,ex,_,_,_,⟨l0,xm⟩,_⟩:=uM e
  exact .inr ⟨i,l0,by rw[ex];exact kP xm,ha⟩
 refine h.put e ha (fun b o hb e1=>by rw[zI hb];exact e1) (fun b hb e1=>by rw[zI hb] at e1;exact e1) zK ?_
 exact IsL.mono (fun b o e1 n=>by rw[zI (fun z=>n (by subst z;exact own_a))];exact e1) h.ol (fun _ z _=>z) _ _ il
end
noncomputable def rY(i:Nat)(f:ME):En->Option (D×En):=fun r=>(f r).bind fun d=>(zC9 r i).bind fun l=>if l.length<sizeLine then (QG i (l++[d]) r).map fun r'=>(.non,r') else none
noncomputable def cV(i:Nat)(f:En->Option (D×En)):En->Option (D×En):=fun r0=>(f r0).bind fun p=>(zC9 r0 i).bind fun _=>(zC9 p.2 i).bind fun l=>if l.length<sizeLine then (QG i (l++[p.1]) p.2).map fun r'=>(.non,r') else none
noncomputable def gT(i:Nat):En->Option (D×En):=fun r=>(zC9 r i).bind fun l=>(l[l.length-1]?).bind fun d=>(QG i l.dropLast r).map fun r'=>(d,r')
noncomputable def zHO(i:Nat)(f:ME):En->Option (D×En):=fun r=>(f r).bind fun d=>(zDV d).bind fun m=>(zC9 r i).bind fun l=>if l.length+m.length<=sizeLine then (QG i (l++m) r).map fun r'=>(.non,r') else none
theorem IsL.dropLast{K:Fg}{O:Addr->Prop}{H:Hp}{l:List D}{vs:List V}(h:IsL K O H l vs):IsL K O H l.dropLast vs.dropLast:=by
 rw[List.dropLast_eq_take,List.dropLast_eq_take,h.length]
 exact h.take _
section
variable{X:Cx}{apos cpos pn:Pos}{e:Expr}{f:ME}{x:Str}{i:Nat}
theorem ZT{K:Fg}{O0:Addr->Prop}{H:Hp}{r:En}{σ:St}{l:List D}(h:R K O0 H r σ)(e:zC9 r i=some l):∃a xs,σ[i]?=some (some (.ref a))/\H a=some (.lst xs)/\IsL K (Ow O0 r σ) H l xs:=by
 obtain⟨y,e1,e2⟩:=bind_some e
 exact h.own i l (by rw[e1];exact(zDB e2).2)
theorem qF(i:Nat){x:Str}(h:PE X (.Name x pn) (j3 i))(he:DE X e f)(hline:(apos.endLine == cpos.line)=true:=by rfl)(hbase:attributeBase (.Name x pn) "append" X.env (eval (.Name x pn) X.env)=eval (.Name x pn) X.env:=by rfl)(hfew:((backTo cpos (starEach [e] X.env)).all (fun x=>!x.1) && (backToKw cpos (keywordEach [] X.env)).all (fun x=>x.1.isSome) && decide ([e].length+([]:List Keyword).length+(if ([]:List Keyword).isEmpty then 0 else 1)<30))=true:=by rfl)(hs:starEach [e] X.env=(false,eval e X.env)::starEach [] X.env:=by rfl):DX X (.Call (.Attribute (.Name x pn) "append" apos) [e] [] cpos) (rY i f):=by
 refine PE.conseq (ZH PySem.F.plainAttrs_list PySem.F.slot_list_append PySem.F.type_list_append jK h (zX he y0 hs) hbase hfew hline hs) fun σ H Q hq=>?_
 obtain⟨O0,r,d',r',hR,e,q⟩:=hq
 obtain⟨d,e1,e⟩:=bind_some e
 obtain⟨l,e2,e⟩:=bind_some e
 split at e
 ·rename_i hl
  obtain⟨r2,e3,e4⟩:=map_some e
  cases e4
  obtain⟨a,xs,q1,q2,q3⟩:=ZT hR e2
  refine⟨.ref a,q1,.inl ⟨rfl,xs,SqL.of q2⟩,O0,r,d,hR,e1,fun v H1 s1 i1=>?_⟩
  have R1:=hR.same s1
  obtain⟨R2,k2⟩:=R1.upd (xs':=xs++[v]) e3 q1 (s1 _ _ q2) ((q3.same s1 hR.ol).append (.cons i1 .nil))
  exact⟨a,xs,v,rfl,rfl,s1 _ _ q2,by rw[<-q3.length];exact hl,q _ _ R2 ((Kp.of_same r σ s1).trans k2) (by rw[Is.non_iff])⟩
 ·cases e
theorem vI(i:Nat){x:Str}{fx:En->Option (D×En)}(h:PE X (.Name x pn) (j3 i))(he:DX X e fx)(hline:(apos.endLine == cpos.line)=true:=by rfl)(hbase:attributeBase (.Name x pn) "append" X.env (eval (.Name x pn) X.env)=eval (.Name x pn) X.env:=by rfl)(hfew:((backTo cpos (starEach [e] X.env)).all (fun x=>!x.1) && (backToKw cpos (keywordEach [] X.env)).all (fun x=>x.1.isSome) && decide ([e].length+([]:List Keyword).length+(if ([]:List Keyword).isEmpty then 0 else 1)<30))=true:=by rfl)(hs:starEach [e] X.env=(false,eval e X.env)::starEach [] X.env:=by rfl):DX X (.Call (.Attribute (.Name x pn) "append" apos) [e] [] cpos) (cV i fx):=by
 refine PE.conseq (ZH PySem.F.plainAttrs_list PySem.F.slot_list_append PySem.F.type_list_append jK h (zX he y0 hs) hbase hfew hline hs) fun σ H Q hq=>?_
 obtain⟨O0,r,d',r',hR,e,q⟩:=hq
 obtain⟨⟨d,r1⟩,e1,e⟩:=bind_some e
 obtain⟨l0,e0,e⟩:=bind_some e
 obtain⟨l,e2,e⟩:=bind_some e
 split at e
 ·rename_i hl
  obtain⟨r2,e3,e4⟩:=map_some e
  cases e4
  obtain⟨a0,xs0,p1,p2,p3⟩:=ZT hR e0
  refine⟨.ref a0,p1,.inl ⟨rfl,xs0,SqL.of p2⟩,O0,r,d,r1,hR,e1,fun v H1 R1 k1 i1=>?_⟩
  obtain⟨a,xs,q1,q2,q3⟩:=ZT R1 e2
  rw[p1] at q1;cases q1
  obtain⟨R2,k2⟩:=R1.upd (xs':=xs++[v]) e3 p1 q2 (q3.append (.cons i1 .nil))
  exact⟨_,xs,v,rfl,rfl,q2,by rw[<-q3.length];exact hl,q _ _ R2 (k1.trans k2) (by rw[Is.non_iff])⟩
 ·cases e
theorem JP(i:Nat){x:Str}(h:PE X (.Name x pn) (j3 i))(hbase:attributeBase (.Name x pn) "pop" X.env (eval (.Name x pn) X.env)=eval (.Name x pn) X.env:=by rfl)(hline:(apos.endLine == cpos.line)=true:=by rfl):DX X (.Call (.Attribute (.Name x pn) "pop" apos) [] [] cpos) (gT i):=by
 refine PE.conseq (ZG PySem.F.plainAttrs_list PySem.F.slot_list_pop PySem.F.type_list_pop ZR h hbase hline) fun σ H Q hq=>?_
 obtain⟨O0,r,d',r',hR,e,q⟩:=hq
 obtain⟨l,e2,e⟩:=bind_some e
 obtain⟨d,e1,e⟩:=bind_some e
 obtain⟨r2,e3,e4⟩:=map_some e
 have e5:d=d':=congrArg Prod.fst e4
 have e6:r2=r':=congrArg Prod.snd e4
 subst e5 e6
 obtain⟨a,xs,q1,q2,q3⟩:=ZT hR e2
 obtain⟨v,ev,iv⟩:=q3.get e1
 obtain⟨R2,k2⟩:=hR.upd (xs':=xs.dropLast) e3 q1 q2 q3.dropLast
 refine⟨.ref a,q1,.inl ⟨rfl,xs,SqL.of q2⟩,a,xs,v,rfl,rfl,q2,by rw[<-q3.length];exact ev,q _ _ R2 k2 ?_⟩
 have own_a:Ow O0 r σ a:=by
  obtain⟨y,z1,z2⟩:=bind_some e2
  exact .inr ⟨i,l,by rw[z1];exact kP (zDB z2).1,q1⟩
 have ow2:∀b,Ow O0 r2 σ b->H b≠none->Ow O0 r σ b:=fun b z n=>z.imp id fun z=>(k2.new b z).elim id fun z=>absurd z n
 exact Is.mono (fun b o e1 n=>by rw[zI (fun z=>n (by subst z;exact own_a))];exact e1) hR.ol ow2 _ _ iv
end
noncomputable def zLI:Option Sl->Sl
 |some (.v d)=>.v d
 |_=>.un
noncomputable def rZ(cap:List Nat)(n:Nat)(r:En):En:=(cap.map fun j=>zLI r[j]?)++List.replicate (n-cap.length) .un
noncomputable def jR(bd:D->En->Option En)(c:MB)(x:ME):List D->En->Option (List D)
 |[],_=>some []
 |d::t,r=>(bd d r).bind fun r1=>(c r1).bind fun b=>if b=true then (x r1).bind fun y=>(jR bd c x t r1).map (y::·) else jR bd c x t r1
noncomputable def cT:MB:=fun _=>some true
noncomputable def qV(cap:List Nat)(n:Nat)(it:ML)(bd:D->En->Option En)(c:MB)(x:ME):ML:=fun r=>(it r).bind fun l=>if l.length<sizeLine then jR bd c x l (rZ cap n r) else none
noncomputable def vL(cap:List Nat)(n:Nat)(it:ML)(bd:D->En->Option En)(x:ME):ML:=qV cap n it bd cT x
theorem R.cap{K:Fg}{O0:Addr->Prop}{H H2:Hp}{r:En}{σ:St}{cap:List Nat}{n:Nat}{p:Addr}{ys:List V}(h:R K O0 H r σ)(s:Same H H2)(hp:H p=none)(ep:H2 p=some (.lst ys)):R K (fun b=>Ow O0 r σ b\/b=p) H2 (rZ cap n r) (zAR cap n σ):=by
 have noO:∀(i:Nat) (l:List D),((rZ cap n r)[i]?).bind Sl.own≠some l:=fun i l e=>by
  unfold rZ at e
  by_cases hi:i<cap.length
  ·rw[ax (by simpa using hi),ba] at e
   obtain⟨j,hj⟩:∃j,cap[i]?=some j:=⟨cap[i],by simp[hi]⟩
   rw[hj] at e
   have e':(zLI r[j]?).own=some l:=e
   cases ej:r[j]? with
   |none=>rw[ej] at e';cases e'
   |some y=>rw[ej] at e';cases y<;>cases e'
  ·rw[List.getElem?_append_right (by simpa using Nat.le_of_not_lt hi),List.getElem?_replicate] at e
   split at e<;>cases e
 have ol:qR (fun b=>Ow O0 r σ b\/b=p) H2:=fun b z=>z.elim (fun z=>(h.same s).ol b z) fun z=>by subst z;exact⟨.lst ys,ep,trivial⟩
 refine⟨by simp[rZ,zAR],fun i d e=>?_,fun i l e=>absurd (qW e) (noO i l),fun i j a l m e1=>absurd e1 (noO i l),ol,fun i l a e=>absurd (show((rZ cap n r)[i]?).bind Sl.own=some l by rcases e with e|e|⟨_,e⟩<;>rw[e]<;>rfl) (noO i l),fun i l a e=>absurd (show((rZ cap n r)[i]?).bind Sl.own=some l by rw[e];rfl) (noO i l),fun i ks l e=>absurd (show((rZ cap n r)[i]?).bind Sl.own=some l by rw[e];rfl) (noO i l)⟩
 unfold rZ at e
 by_cases hi:i<cap.length
 ·rw[ax (by simpa using hi),ba] at e
  obtain⟨j,hj⟩:∃j,cap[i]?=some j:=⟨cap[i],by simp[hi]⟩
  rw[hj] at e
  have e':zLI r[j]?=.v d:=aq e
  have ej:r[j]?=some (.v d):=by
   cases ej:r[j]? with
   |none=>rw[ej] at e';cases e'
   |some y=>rw[ej] at e';cases y<;>cases e';rfl
  obtain⟨v,e1,q⟩:=h.val j d ej
  refine⟨v,?_,?_⟩
  ·unfold zAR
   rw[ax (by simpa using hi),ba,hj]
   show some ((σ[j]?).getD none)=_
   rw[e1];rfl
  ·refine Is.mono (Same.kp s _) h.ol (fun a z nn=>?_) _ _ q
   rcases z with(z|z)|⟨k,l,ek,_⟩
   ·exact z
   ·subst z;exact absurd hp nn
   ·exact absurd ek (noO k l)
 ·rw[List.getElem?_append_right (by simpa using Nat.le_of_not_lt hi),List.getElem?_replicate] at e
  split at e<;>cases e
section
variable{X:Cx}{N':List Str}{cap:List Nat}{scope:Scope}{elt tg iter:Expr}{ifs:List Expr}{pos:Pos}{it:ML}{bd:D->En->Option En}{c:MB}{x:ME}
theorem bA{tc:Option TT}(htc:∀{σ:St} {H:Hp} {K1:V->Hp->Prop} {K0:Hp->Prop} {te:TE},(lT X.K c σ H fun b H1=>if b=true then te σ H1 K1 else K0 H1)->W0 tc te K1 K0 σ H)(n:Nat){σ:St}{H:Hp}{Q:VK}(h:lF X.K (qV cap n it bd c x) σ H Q):zBP cap n (lI X.K it) (lG X.K bd) tc (lE X.K x) σ H Q:=by
 obtain⟨O0,r,out,hR,e,q⟩:=h
 obtain⟨l,e1,e2⟩:=bind_some e
 split at e2
 ·rename_i hlen
  refine⟨O0,r,l,hR,e1,fun J H1 s1 yl p hp=>?_⟩
  have hpH:H p=none:=s1.free hp
  refine⟨fun i m ys σ2 H2=>m=l.length-i/\i<=l.length/\ys.length<=i/\H2 p=some (.lst ys)/\Same H1 H2/\∃r2 dn rest,R X.K (fun b=>Ow O0 r σ b\/b=p) H2 r2 σ2/\(∀a,¬wK r2 σ2 a)/\IsL X.K (fun b=>Ow O0 r σ b\/b=p) H2 dn ys/\jR bd c x (l.drop i) r2=some rest/\dn++rest=out,
   ⟨l.length,by simp,Nat.zero_le _,al _,zK,zT hp,rZ cap n r,[],out,?_,?_,.nil,by simpa using e2,rfl⟩,?_⟩
  ·exact R.cap hR (s1.trans (zT hp)) hpH zK
  ·rintro a ⟨i,l',e',_⟩
   unfold rZ at e'
   by_cases hi:i<cap.length
   ·rw[ax (by simpa using hi),ba] at e'
    obtain⟨j,hj⟩:∃j,cap[i]?=some j:=⟨cap[i],by simp[hi]⟩
    rw[hj] at e'
    have e'':(zLI r[j]?).own=some l':=e'
    cases ej:r[j]? with
    |none=>rw[ej] at e'';cases e''
    |some y=>rw[ej] at e'';cases y<;>cases e''
   ·rw[List.getElem?_append_right (by simpa using Nat.le_of_not_lt hi),List.getElem?_replicate] at e'
    split at e'<;>cases e'
  ·rintro i m ys σ2 H2 ⟨rfl,hil,hyl,hp2,s2,r2,dn,rest,R2,no2,il2,e3,eo⟩
   refine⟨hp2,by omega,?_⟩
   obtain⟨y1,y2⟩:=yl i H2 (fun b=>Ow O0 r σ b\/b=p) (Same.kp s2 _) fun a z nn=>z.elim id fun z=>by subst z;exact absurd hp nn
   by_cases hlt:i<l.length
   ·obtain⟨go,yd⟩:=y1 hlt
    have hd:l[i]?=some l[i]:=by simp[hlt]
    rw[kW hd] at e3
    obtain⟨r3,e4,e5⟩:=bind_some e3
    obtain⟨b,e6,e7⟩:=bind_some e5
    refine .inr ⟨go,fun v H3 yv=>?_⟩
    obtain⟨s3,iv⟩:=yd v H3 yv
    have R3:=R2.same s3
    have ow2:∀a,Ow (fun b=>Ow O0 r σ b\/b=p) r2 σ2 a->Ow O0 r σ a\/a=p:=fun a z=>z.elim id fun z=>absurd z (no2 a)
    refine⟨_,r2,l[i],r3,R3,?_,e4,fun σ4 R4 k4=>?_⟩
    ·exact Is.mono (Same.kp (Same.refl H3) _) R3.o0 (fun a z _=>ow2 a z) _ _ (iv _ hd)
    have no4:∀a,¬wK r3 σ4 a:=fun a z=>by
     rcases k4.new a z with z'|z'
     ·exact no2 a z'
     ·obtain⟨xs,ex,_⟩:=R4.ol a (.inr z)
      rw[z'] at ex;cases ex
    have ow4:∀a,Ow (fun b=>Ow O0 r σ b\/b=p) r3 σ4 a->Ow O0 r σ a\/a=p:=fun a z=>z.elim id fun z=>absurd z (no4 a)
    refine htc ⟨_,r3,b,R4,e6,fun H5 s5=>?_⟩
    have R5:=R4.same s5
    cases b with
    |false=>
     rw[if_neg am] at e7
     refine zJT ⟨l.length-(i+1),by omega,rfl,hlt,by omega,(s3.trans s5) _ _ hp2,s2.trans (s3.trans s5),r3,dn,rest,R5,no4,?_,e7,eo⟩
     exact il2.same (s3.trans s5) R2.o0
    |true=>
     rw[if_pos rfl] at e7
     obtain⟨y,e8,e9⟩:=bind_some e7
     obtain⟨rest',e10,e11⟩:=map_some e9
     refine zJS ⟨_,r3,y,R5,e8,fun u H6 s6 iu=>?_⟩
     have s26:=s3.trans (s5.trans s6)
     have hp6:=s26 _ _ hp2
     have R6:=R5.same s6
     have kk:vK (fun b=>Ow O0 r σ b\/b=p) H6 (upd H6 p (.lst (ys++[u]))):=fun b' o e' nn=>by rw[zI (fun z=>nn (.inr z))];exact e'
     refine⟨hp6,l.length-(i+1),by omega,rfl,hlt,by simp;omega,zK,?_,r3,dn++[y],rest',?_,no4,?_,e10,?_⟩
     ·intro b' o e'
      have hb:b'≠p:=fun z=>by subst z;rw[hp] at e';cases e'
      rw[zI hb]
      exact s26 _ _ (s2 _ _ e')
     ·refine⟨R6.len,fun j d ej=>?_,fun j m ej=>?_,R6.apart,fun b' z=>?_,R6.loc,R6.par,fun j ks m ej=>?_⟩
      ·obtain⟨w,q1,q2⟩:=R6.val j d ej
       exact⟨w,q1,Is.mono (fun b' o e' nn=>kk b' o e' fun z=>nn (.inl z)) R6.ol (fun _ z _=>z) _ _ q2⟩
      ·obtain⟨a',xs',q1,q2,_⟩:=R6.own j m ej
       exact absurd ⟨j,m,qW ej,q1⟩ (no4 a')
      ·rcases z with z|z
       ·by_cases hb:b'=p
        ·subst hb;exact⟨_,zK,trivial⟩
        ·rw[zI hb];exact R6.o0 b' (.inl z)
       ·subst z;exact⟨_,zK,trivial⟩
      ·obtain⟨a',kvs,q1,q2,_⟩:=R6.dct j ks m ej
       exact absurd ⟨j,m,by rw[ej];rfl,q1⟩ (no4 a')
     ·have i1:=il2.same s26 R2.o0
      have i2:Is X.K (fun b=>Ow O0 r σ b\/b=p) H6 y u:=Is.mono (Same.kp (Same.refl H6) _) R6.ol (fun a z _=>.inl z) _ _ iu
      exact IsL.mono kk R6.o0 (fun _ z _=>z) _ _ (i1.append (.cons i2 .nil))
     ·rw[<-eo,<-e11];simp
   ·have hl:l.drop i=[]:=List.drop_eq_nil_of_le (by omega)
    rw[hl] at e3
    have e3':some []=some rest:=e3
    cases e3'
    rw[List.append_nil] at eo
    subst eo
    exact .inl ⟨y2 (by omega),q p ys H2 (s1.trans s2) hpH hp2 il2⟩
 ·cases e2
theorem hX(hc:X.calm=true)(o:CmpOk X N' cap scope)(hi:DI X tg iter it)(hg:∀C fp s H,DG (cxC X N' scope C fp s H) tg bd)(he:∀C fp s H,DE (cxC X N' scope C fp s H) elt x)(n:Nat)(hn:N'.length=n:=by rfl)(hs:∀x,foldedSetIterable iter X.env x=pure x:=by intro _;rfl):DF X (.ListComp elt [⟨tg,iter,[],0⟩] scope pos) (vL cap n it bd x):=by
 subst hn
 exact PE.conseq (uN (g:=lG X.K bd) (te:=lE X.K x) (tc:=none) hc o hi hg rfl he hs) fun σ H Q h=>bA (tc:=none) (fun {σ H K1 K0 te} z=>by
  obtain⟨O0,r,b,hR,e,q⟩:=z
  unfold cT at e;cases e
  have z1:(if true=true then te σ H K1 else K0 H):=q H (Same.refl H)
  rw[if_pos rfl] at z1
  exact z1) N'.length h
theorem YI{ce:Expr}(hc:X.calm=true)(o:CmpOk X N' cap scope)(hi:DI X tg iter it)(hg:∀C fp s H,DG (cxC X N' scope C fp s H) tg bd)(ht:∀C fp s H,DT (cxC X N' scope C fp s H) ce c)(he:∀C fp s H,DE (cxC X N' scope C fp s H) elt x)(n:Nat)(hn:N'.length=n:=by rfl)(hs:∀x,foldedSetIterable iter X.env x=pure x:=by intro _;rfl):DF X (.ListComp elt [⟨tg,iter,[ce],0⟩] scope pos) (qV cap n it bd c x):=by
 subst hn
 exact PE.conseq (uN (g:=lG X.K bd) (te:=lE X.K x) (tc:=some (lT X.K c)) hc o hi hg ⟨ce,rfl,ht⟩ he hs) fun σ H Q h=>bA (tc:=some (lT X.K c)) (fun z=>z) N'.length h
end
noncomputable def CapOk(X:Cx)(scope:Scope):List Nat->List Str->Prop
 |[],_=>True
 |j::t,x::r=>X.N[j]?=some x/\scope.names.lookup x=some .free/\CapOk X scope t r
 |_::_,[]=>False
theorem CapOk.get{X:Cx}{scope:Scope}:∀{cap:List Nat} {N':List Str},CapOk X scope cap N'->∀(i j:Nat),cap[i]?=some j->∃x,N'[i]?=some x/\X.N[j]?=some x/\scope.names.lookup x=some .free
 |[],_,_,i,j,e=>by simp at e
 |k::t,[],h,_,_,_=>False.elim h
 |k::t,x::r,h,0,j,e=>by
  have e':k=j:=by simpa using e
  subst e'
  exact⟨x,rfl,h.1,h.2.1⟩
 |k::t,x::r,h,i+1,j,e=>by
  obtain⟨y,q1,q2⟩:=CapOk.get h.2.2 i j (by simpa using e)
  exact⟨y,by simpa using q1,q2⟩
theorem CapOk.len{X:Cx}{scope:Scope}:∀{cap:List Nat} {N':List Str},CapOk X scope cap N'->cap.length<=N'.length
 |[],_,_=>Nat.zero_le _
 |k::t,[],h=>False.elim h
 |k::t,x::r,h=>Nat.succ_le_succ (CapOk.len h.2.2)
theorem bB{X:Cx}{N':List Str}{cap:List Nat}{scope:Scope}(kind:scope.kind=.function:=by rfl)(nc:∀y∈scope.names,y.2≠.cell:=by decide +kernel)(nm:∀y∈scope.names,y.2=.local->scope.names.lookup y.1=some .local:=by decide +kernel)(fr:∀y∈scope.names,y.2=.free->X.env.kindOf y.1=some .cell\/X.env.kindOf y.1=some .free:=by repeat (first|exact List.forall_mem_nil _|refine List.forall_mem_cons.mpr ⟨fun e=>(by first|exact absurd e (by decide)|exact .inl rfl|exact .inr rfl),?_⟩))(capt:CapOk X scope cap N':=by repeat (first|exact trivial|refine⟨rfl,rfl,?_⟩)):CmpOk X N' cap scope:=⟨kind,nc,nm,fr,capt.get,capt.len⟩
end DD
namespace ZZ
open PySem
section
variable{prog:Program}{w:World}{A:Around}{E:Value->Shared->Prop}{s:Shared}
theorem zJ9{ti tu:Addr}{k:Nat}{ys:Array Value}{y:Value}{Q:Value->Shared->Prop}(h1:s.heap.IsTupleIter ti tu k)(h2:s.heap.IsTuple tu ys)(h3:ys[k]?=some y)(h4:∀g,g.IsTupleIter ti tu (k+1)->Heap.SameBut ti s.heap g->Q y { s with heap:=g }):wpAny (model prog w) A (Builtin.SmallTypes.nextOf (.ref ti)) Q E s:=by
 obtain⟨a,ha,ca,da⟩:=id h1
 obtain⟨b,hb,_,nb,db⟩:=h2
 unfold Builtin.SmallTypes.nextOf;refine aa (wpAny_callSpecial?_slot (name:=Str.ofString "__next__") h1.typeIs F.slot_tuple_iterator_next (wpAny_call_entry F.slot_tuple_iterator_next h1.typeIs F.entry_tuple_iterator_next (?_) (F.args_tuple_iterator_next_1 _)))
 show wpAny _ _ (field (.ref ti) 0 >>= _) _ _ s;refine aa (wpAny_field ha da (x:=.ref tu) rfl (?_))
 show wpAny _ _ (if (Value.ref tu == Value.none)=true then _ else _) _ _ s;rw[if_neg (show ¬((Value.ref tu == Value.none)=true) from am)]
 show wpAny _ _ (field (.ref ti) 1 >>= _) _ _ s;refine aa (wpAny_field ha da (x:=.int k 0) rfl (?_))
 show wpAny _ _ (seqItems? (.ref tu) >>= _) _ _ s;refine aa (wpAny_seqItems hb db (?_));simp only[Int.toNat_natCast,h3]
 refine aa (wpAny_setField ha da (by simp) (ae ⟨y,rfl,ae (h4 _ (?_) (Heap.SameBut.update ..))⟩))
 refine⟨_,Heap.get?_update_self _ ha (Obj.isFreed_of_fields (Obj.data_mapFields da _)),(Obj.cls_mapFields ..).trans ca,?_⟩;rw[Obj.data_mapFields da];simp[rawInt]
theorem zM0{ti tu:Addr}{k:Nat}{ys:Array Value}{Q:Value->Shared->Prop}(hh:A.handled=none)(h1:s.heap.IsTupleIter ti tu k)(h2:s.heap.IsTuple tu ys)(h3:ys[k]?=none)(h4:∀g e,Heap.ExtBut ti s.heap g->(∃o,g.get? e=some o/\o.cls=.type "StopIteration")->E (.ref e) { s with heap:=g }):wpAny (model prog w) A (Builtin.SmallTypes.nextOf (.ref ti)) Q E s:=by
 obtain⟨a,ha,ca,da⟩:=id h1
 obtain⟨b,hb,_,nb,db⟩:=h2
 unfold Builtin.SmallTypes.nextOf;refine aa (wpAny_callSpecial?_slot (name:=Str.ofString "__next__") h1.typeIs F.slot_tuple_iterator_next (wpAny_call_entry F.slot_tuple_iterator_next h1.typeIs F.entry_tuple_iterator_next (?_) (F.args_tuple_iterator_next_1 _)))
 show wpAny _ _ (field (.ref ti) 0 >>= _) _ _ s;refine aa (wpAny_field ha da (x:=.ref tu) rfl (?_))
 show wpAny _ _ (if (Value.ref tu == Value.none)=true then _ else _) _ _ s;rw[if_neg (show ¬((Value.ref tu == Value.none)=true) from am)]
 show wpAny _ _ (field (.ref ti) 1 >>= _) _ _ s;refine aa (wpAny_field ha da (x:=.int k 0) rfl (?_))
 show wpAny _ _ (seqItems? (.ref tu) >>= _) _ _ s;refine aa (wpAny_seqItems hb db (?_));simp only[Int.toNat_natCast,h3]
 refine aa (wpAny_rule (aa (wpAny_setField ha da (by simp) (?_))));show wpAny _ _ (newExc (.type "StopIteration") [] >>= _) _ _ _
 refine aa (?_);simp only[newExc,newTuple];refine aa (wpAny_newObj_type (?_) (by size_fits))
 refine aa (m:=firstArgMember _ _) (wpAny_of_eq (a:=Value.none) (by first|rfl|(simp only[firstArgMember];rfl)) (?_));refine wpAny_newObj_type (?_) (by size_fits)
 simp only[raiseNew];refine aa (wpAny_handled (?_));first|rw[show A.in1.handled=none from hh]|rw[hh]
 refine aa (ae (wpAny_throw (?_)));exact h4 _ _ (((Heap.SameBut.update ..).extBut.push _).push _) ⟨_,ah _ rfl,rfl⟩
end
theorem drawsT{prog:Program}{w:World}{A:Around}(hh:A.handled=none)(ti tu:Addr)(ne:tu≠ti)(ys:Array Value):Draws prog w A ti [ti,tu] ys.size (fun i v=>ys[i]?=some v) (fun i h=>h.IsTupleIter ti tu i/\h.IsTuple tu ys) where
 live:=fun _ _ st=>let ⟨o,e,_⟩:=st.1;⟨o,e⟩
 frame:=fun _ _ _ st k=>⟨st.1.at fun o e=>k ti (by simp) o e,st.2.at fun o e=>k tu (by simp) o e⟩
 item:=fun i s Q E hi st q=>zJ9 st.1 st.2 (y:=ys[i]) (by simp[hi]) fun g a b=>q _ g s.toks (by simp[hi]) ⟨a,st.2.at fun o e=>b.extBut _ _ ne e⟩ b
 done:=fun s Q E st q=>zM0 hh st.1 st.2 (by simp) q
structure Ap(z a b i j:Addr)(f g:List Addr):Prop where
 az:a≠z
 bz:b≠z
 iz:i≠z
 jz:j≠z
 ab:a≠b
 ai:a≠i
 aj:a≠j
 bi:b≠i
 bj:b≠j
 ij:i≠j
 fz:z∉f
 fb:b∉f
 fj:j∉f
 gz:z∉g
 gb:b∉g
 gi:i∉g
section
variable{prog:Program}{w:World}{A:Around}{E:Value->Shared->Prop}{s:Shared}{z a b i j:Addr}{f g:List Addr}{n m k:Nat}{P R:Nat->Value->Prop}{S U:Nat->Heap->Prop}{p q:Value}
theorem zJY{Q:Value->Shared->Prop}(D:Draws prog w A i f n P S)(C:Draws prog w A j g m R U)(ap:Ap z a b i j f g)(hz:IsZip s.heap z a b .none)(ha:IsPair s.heap a (.ref i) (.ref j))(hb:IsPair s.heap b p q)(hS:S k s.heap)(hU:U k s.heap)(hn:k<n)(hm:k<m)(h:∀x y g' tk,P k x->R k y->IsZip g' z a b (rawInt s.heap.objs.size)->IsPair g' b x y->S (k+1) g'->U (k+1) g'->IsPair g' s.heap.objs.size x y->g'.objs.size=s.heap.objs.size+1 ->
   (∀c o,c≠z->c≠b->c≠i->c≠j->s.heap.get? c=some o->g'.get? c=some o)->Q (.ref s.heap.objs.size) { s with heap:=g',toks:=tk }):wpAny (model prog w) A (Builtin.«zip.__next__» ⟨[.ref z],[]⟩) (fun r s'=>∃y,r=.done (.ret y)/\Q y s') E s:=by
 show wpAny _ _ (field (.ref z) 2 >>= _) _ _ _;refine aa (wpAny_field hz rfl (x:=.bool false) rfl (?_))
 show wpAny _ _ (field (.ref z) 3 >>= _) _ _ _;refine aa (wpAny_field hz rfl (x:=.ref a) rfl (aa (wpAny_seqItems ha rfl (?_))))
 show wpAny _ _ (Builtin.SmallTypes.ownedTupleIsFree (.ref z) >>= _) _ _ _;refine aa (?_);unfold Builtin.SmallTypes.ownedTupleIsFree
 refine aa (wpAny_field hz rfl (x:=.none) rfl (ae (?_)));simp only[if_true];refine aa (wpAny_rule (aa (wpAny_field hz rfl (x:=.ref b) rfl (?_))))
 refine aa (wpAny_setField_rec hz (by simp) fun g1 z1 t1=>?_)
 replace z1:IsZip g1 z a b .ellipsis:=z1
 have keep1:∀{c:Addr} {o:Obj},c≠z->s.heap.get? c=some o->g1.get? c=some o:=fun n e=>t1.extBut _ _ n e
 refine aa (?_);simp only[List.zipIdx_cons,List.zipIdx_nil,List.forIn_cons,List.forIn_nil];refine aa (aa (wpAny_onRaise (?_)))
 show wpAny _ _ (Builtin.SmallTypes.nextOf (.ref i) >>= _) _ _ _
 refine aa (D.item k _ _ _ hn (D.frame _ _ _ hS fun c hc o e=>keep1 (fun w'=>ap.fz (w' ▸ hc)) e) fun x g2 tk2 Px S2 t2=>ae (?_))
 have b2:IsPair g2 b p q:=t2.extBut _ _ ap.bi (keep1 ap.bz hb)
 refine aa (wpAny_seqItems b2 rfl (aa (wpAny_updateSeq_pair b2 fun g3 b3 t3=>?_)))
 replace b3:IsPair g3 b x q:=b3
 refine aa (wpAny_letGo (ae (?_)));refine aa (aa (wpAny_onRaise (?_)))
 show wpAny _ _ (Builtin.SmallTypes.nextOf (.ref j) >>= _) _ _ _
 have U3:U k g3:=C.frame _ _ _ hU fun c hc o e=>t3.extBut _ _ (fun w'=>ap.gb (w' ▸ hc)) (t2.extBut _ _ (fun w'=>ap.gi (w' ▸ hc)) (keep1 (fun w'=>ap.gz (w' ▸ hc)) e))
 refine aa (C.item k _ _ _ hm U3 fun y g4 tk4 Ry U4 t4=>ae (?_))
 have b4:IsPair g4 b x q:=t4.extBut _ _ ap.bj b3
 refine aa (wpAny_seqItems b4 rfl (aa (wpAny_updateSeq_pair b4 fun g5 b5 t5=>?_)))
 replace b5:IsPair g5 b x y:=b5
 refine aa (wpAny_letGo (ae (ae (?_))));refine aa (wpAny_seqItems b5 rfl (aa (wpAny_newTuple (?_))))
 have sz:g5.objs.size=s.heap.objs.size:=by rw[t5.1,t4.1,t3.1,t2.1,t1.1]
 have z5:IsZip g5 z a b .ellipsis:=t5.extBut _ _ ap.bz.symm (t4.extBut _ _ ap.jz.symm (t3.extBut _ _ ap.bz.symm (t2.extBut _ _ ap.iz.symm z1)))
 have k5:∀c o,c≠z->c≠b->c≠i->c≠j->s.heap.get? c=some o->g5.get? c=some o:=fun c o c1 c2 c3 c4 e=>t5.extBut _ _ c2 (t4.extBut _ _ c4 (t3.extBut _ _ c2 (t2.extBut _ _ c3 (keep1 c1 e))))
 have S5:S (k+1) g5:=D.frame _ _ _ S2 fun c hc o e=>t5.extBut _ _ (fun w'=>ap.fb (w' ▸ hc)) (t4.extBut _ _ (fun w'=>ap.fj (w' ▸ hc)) (t3.extBut _ _ (fun w'=>ap.fb (w' ▸ hc)) e))
 have U5:U (k+1) g5:=C.frame _ _ _ U4 fun c hc o e=>t5.extBut _ _ (fun w'=>ap.gb (w' ▸ hc)) e
 have zl:z<g5.objs.size:=af z5
 show wpAny _ _ (Builtin.SmallTypes.ownedTupleHandOut (.ref z) (.ref g5.objs.size) >>= _) _ _ _;refine aa (?_);unfold Builtin.SmallTypes.ownedTupleHandOut
 have z6:IsZip (g5.push { cls:=.type "tuple",data:=.seq #[x,y] }) z a b .ellipsis:=ad _ z5
 refine aa (wpAny_setField_rec z6 (by simp) fun g7 z7 t7=>?_)
 replace z7:IsZip g7 z a b (rawInt g5.objs.size):=z7
 refine wpAny_setField_rec z7 (by simp) fun g8 z8 t8=>?_
 replace z8:IsZip g8 z a b (rawInt g5.objs.size):=z8
 have up:∀c o,c≠z->g5.get? c=some o->g8.get? c=some o:=fun c o c1 e=>t8.extBut _ _ c1 (t7.extBut _ _ c1 (ad _ e))
 have p8:IsPair g8 g5.objs.size x y:=t8.extBut _ _ (Nat.ne_of_gt zl) (t7.extBut _ _ (Nat.ne_of_gt zl) (ah _ rfl))
 have s8:g8.objs.size=g5.objs.size+1:=by rw[t8.1,t7.1,Heap.size_push]
 rw[sz] at z8 p8 s8
 refine ae ⟨_,rfl,(?_)⟩;show Q (.ref g5.objs.size) _;rw[sz]
 exact h x y g8 _ Px Ry z8 (up _ _ ap.bz b5) (D.frame _ _ _ S5 fun c hc o e=>up c o (fun w'=>ap.fz (w' ▸ hc)) e) (C.frame _ _ _ U5 fun c hc o e=>up c o (fun w'=>ap.gz (w' ▸ hc)) e) p8 s8 fun c o c1 c2 c3 c4 e=>up c o c1 (k5 c o c1 c2 c3 c4 e)
theorem zMZ{Q:Fin->Shared->Prop}(D:Draws prog w A i f n P S)(C:Draws prog w A j g m R U)(ap:Ap z a b i j f g)(hz:IsZip s.heap z a b .none)(ha:IsPair s.heap a (.ref i) (.ref j))(hb:IsPair s.heap b p q)(hS:S k s.heap)(hU:U k s.heap)(hk:(k=n)\/(k<n/\k=m))(h:∀g' e,(∀c o,c≠z->c≠b->c≠i->c≠j->s.heap.get? c=some o->g'.get? c=some o)->(∃o,g'.get? e=some o/\o.cls=.type "StopIteration")->∀tk,E (.ref e) { s with heap:=g',toks:=tk }):wpAny (model prog w) A (PySem.Builtin.«zip.__next__» ⟨[.ref z],[]⟩) Q E s:=by
 show wpAny _ _ (field (.ref z) 2 >>= _) _ _ _;refine aa (wpAny_field hz rfl (x:=.bool false) rfl (?_))
 show wpAny _ _ (field (.ref z) 3 >>= _) _ _ _;refine aa (wpAny_field hz rfl (x:=.ref a) rfl (aa (wpAny_seqItems ha rfl (?_))))
 show wpAny _ _ (Builtin.SmallTypes.ownedTupleIsFree (.ref z) >>= _) _ _ _;refine aa (?_);unfold Builtin.SmallTypes.ownedTupleIsFree
 refine aa (wpAny_field hz rfl (x:=.none) rfl (ae (?_)));simp only[if_true];refine aa (wpAny_rule (aa (wpAny_field hz rfl (x:=.ref b) rfl (?_))))
 refine aa (wpAny_setField_rec hz (by simp) fun g1 z1 t1=>?_)
 replace z1:IsZip g1 z a b .ellipsis:=z1
 have keep1:∀{c:Addr} {o:Obj},c≠z->s.heap.get? c=some o->g1.get? c=some o:=fun n e=>t1.extBut _ _ n e
 refine aa (?_);simp only[List.zipIdx_cons,List.zipIdx_nil,List.forIn_cons,List.forIn_nil];refine aa (aa (wpAny_onRaise (?_)))
 show wpAny _ _ (Builtin.SmallTypes.nextOf (.ref i) >>= _) _ _ _
 have S1:S k g1:=D.frame _ _ _ hS fun c hc o e=>keep1 (fun w'=>ap.fz (w' ▸ hc)) e
 rcases hk with hk|⟨hn,hk⟩
 ·subst hk
  refine aa (D.done _ _ _ S1 fun g2 e t2 he=>?_)
  obtain⟨oe,ho,ce⟩:=he
  have z2:IsZip g2 z a b .ellipsis:=t2 _ _ ap.iz.symm z1
  have ez:e≠z:=fun x=>by subst x;rw[z2] at ho;cases ho;simp at ce
  exact wpAny_setField_rec z2 (by simp) fun g3 _ t3=>h g3 e (fun c o c1 _ c3 _ x=>t3.extBut _ _ c1 (t2 _ _ c3 (keep1 c1 x))) ⟨oe,t3.extBut _ _ ez ho,ce⟩ _
 ·subst hk
  refine aa (D.item k _ _ _ hn S1 fun x g2 tk2 Px S2 t2=>ae (?_))
  have b2:IsPair g2 b p q:=t2.extBut _ _ ap.bi (keep1 ap.bz hb)
  refine aa (wpAny_seqItems b2 rfl (aa (wpAny_updateSeq_pair b2 fun g3 b3 t3=>?_)))
  refine aa (wpAny_letGo (ae (?_)));refine aa (aa (wpAny_onRaise (?_)))
  show wpAny _ _ (Builtin.SmallTypes.nextOf (.ref j) >>= _) _ _ _
  have U3:U k g3:=C.frame _ _ _ hU fun c hc o e=>t3.extBut _ _ (fun w'=>ap.gb (w' ▸ hc)) (t2.extBut _ _ (fun w'=>ap.gi (w' ▸ hc)) (keep1 (fun w'=>ap.gz (w' ▸ hc)) e))
  refine aa (C.done _ _ _ U3 fun g4 e t4 he=>?_)
  obtain⟨oe,ho,ce⟩:=he
  have z4:IsZip g4 z a b .ellipsis:=t4 _ _ ap.jz.symm (t3.extBut _ _ ap.bz.symm (t2.extBut _ _ ap.iz.symm z1))
  have ez:e≠z:=fun x=>by subst x;rw[z4] at ho;cases ho;simp at ce
  exact wpAny_setField_rec z4 (by simp) fun g5 _ t5=>h g5 e (fun c o c1 c2 c3 c4 x=>t5.extBut _ _ c1 (t4 _ _ c4 (t3.extBut _ _ c2 (t2.extBut _ _ c3 (keep1 c1 x))))) ⟨oe,t5.extBut _ _ ez ho,ce⟩ _
end
open PySem
noncomputable abbrev tI(t:Addr):Obj:={ cls:=.type "tuple_iterator",data:=.fields #[.ref t,.int 0 0] }
noncomputable abbrev tP(u v:Value):Obj:={ cls:=.type "tuple",data:=.seq #[u,v] }
noncomputable abbrev tZ(a b:Addr):Obj:={ cls:=.type "zip",data:=.fields #[.none,.bool false,.bool false,.ref a,.ref b] }
noncomputable abbrev zH(h:Heap)(t u:Addr):Heap:=((((h.push (tI t)).push (tI u)).push (tP (.ref h.objs.size) (.ref (h.push (tI t)).objs.size))).push (tP .none .none)).push (tZ ((h.push (tI t)).push (tI u)).objs.size (((h.push (tI t)).push (tI u)).push (tP (.ref h.objs.size) (.ref (h.push (tI t)).objs.size))).objs.size)
theorem zMX(t u:Addr)(xs ys:Array Value):Meets (Builtin.«zip.__new__» ⟨[.type "zip",.ref t,.ref u],[]⟩) (fun _ R s=>s.heap.IsTuple t xs/\s.heap.IsTuple u ys/\R (.ok (.ret (.ref ((((s.heap.push (tI t)).push (tI u)).push (tP (.ref s.heap.objs.size) (.ref (s.heap.push (tI t)).objs.size))).push (tP .none .none)).objs.size))) { s with heap:=zH s.heap t u }):=
 .of_wp fun prog w A R s h=>by
  obtain⟨hp,g,d,tk,os⟩:=s;obtain⟨h1,h2,h⟩:=h
  have hsub:=sub_zip
  have L1:Heap.IsTuple (Shared.heap ⟨hp,g,d,tk,os⟩) t xs:=h1
  have L2:Heap.IsTuple (Shared.heap ⟨hp.push (tI t),g,d,tk,os⟩) u ys:=h2.at fun o e=>ad _ e
  wp_walk using wpAny_pyIter_tuple L1,wpAny_pyIter_tuple L2
  exact⟨_,rfl,h⟩
section
variable{prog:Program}{w:World}{A:Around}{E:Value->Shared->Prop}{s:Shared}
theorem zcall{t u:Addr}{xs ys:Array Value}{Q:Value->Shared->Prop}(h1:s.heap.IsTuple t xs)(h2:s.heap.IsTuple u ys)(h:∀g,IsZip g (s.heap.objs.size+4) (s.heap.objs.size+2) (s.heap.objs.size+3) .none->IsPair g (s.heap.objs.size+2) (.ref s.heap.objs.size) (.ref (s.heap.objs.size+1))->IsPair g (s.heap.objs.size+3) .none .none ->
   g.IsTupleIter s.heap.objs.size t 0->g.IsTupleIter (s.heap.objs.size+1) u 0->(∀c o,s.heap.get? c=some o->g.get? c=some o)->Q (.ref (s.heap.objs.size+4)) { s with heap:=g }):wpAny (model prog w) A (call (.type "zip") [.ref t,.ref u]) Q E s:=by
 refine callType_new F.called_zip (by decide) (F.typeCall_zip_2 _ _) (F.newCall_zip_2 _ _) (fun obj=>F.args_object_init_3 obj _ _) F.entry_zip_new (zMX t u xs ys) ⟨h1,h2,?_⟩
 have z1:(s.heap.push (tI t)).objs.size=s.heap.objs.size+1:=Heap.size_push ..
 have z2:((s.heap.push (tI t)).push (tI u)).objs.size=s.heap.objs.size+2:=by rw[Heap.size_push,z1]
 have z3:(((s.heap.push (tI t)).push (tI u)).push (tP (.ref s.heap.objs.size) (.ref (s.heap.push (tI t)).objs.size))).objs.size=s.heap.objs.size+3:=by rw[Heap.size_push,z2]
 have z4:((((s.heap.push (tI t)).push (tI u)).push (tP (.ref s.heap.objs.size) (.ref (s.heap.push (tI t)).objs.size))).push (tP .none .none)).objs.size=s.heap.objs.size+4:=by rw[Heap.size_push,z3]
 have kp:∀c o,s.heap.get? c=some o->(zH s.heap t u).get? c=some o:=fun c o x=>ad _ (ad _ (ad _ (ad _ (ad _ x))))
 have g1:(zH s.heap t u).get? s.heap.objs.size=some (tI t):=ad _ (ad _ (ad _ (ad _ (ah _ rfl))))
 have g2:(zH s.heap t u).get? (s.heap.push (tI t)).objs.size=some (tI u):=ad _ (ad _ (ad _ (ah _ rfl)))
 have g3:(zH s.heap t u).get? ((s.heap.push (tI t)).push (tI u)).objs.size=some (tP (.ref s.heap.objs.size) (.ref (s.heap.push (tI t)).objs.size)):=ad _ (ad _ (ah _ rfl))
 have g4:(zH s.heap t u).get? (((s.heap.push (tI t)).push (tI u)).push (tP (.ref s.heap.objs.size) (.ref (s.heap.push (tI t)).objs.size))).objs.size=some (tP .none .none):=ad _ (ah _ rfl)
 have g5:(zH s.heap t u).get? ((((s.heap.push (tI t)).push (tI u)).push (tP (.ref s.heap.objs.size) (.ref (s.heap.push (tI t)).objs.size))).push (tP .none .none)).objs.size=some (tZ ((s.heap.push (tI t)).push (tI u)).objs.size (((s.heap.push (tI t)).push (tI u)).push (tP (.ref s.heap.objs.size) (.ref (s.heap.push (tI t)).objs.size))).objs.size):=ah _ rfl
 rw[z4] at g5 ⊢
 rw[z3] at g4 g5
 rw[z2] at g3 g5
 rw[z1] at g2 g3
 exact⟨⟨_,g5,rfl⟩,h _ g5 g3 g4 ⟨_,g1,rfl,rfl⟩ ⟨_,g2,rfl,rfl⟩ kp⟩
theorem znextI{z a b i j:Addr}{f g:List Addr}{n m k:Nat}{P R:Nat->Value->Prop}{S U:Nat->Heap->Prop}{p q:Value}{Q:Option Value->Shared->Prop}(D:Draws prog w A.in1 i f n P S)(C:Draws prog w A.in1 j g m R U)(ap:Ap z a b i j f g)(hz:IsZip s.heap z a b .none)(ha:IsPair s.heap a (.ref i) (.ref j))(hb:IsPair s.heap b p q)(hS:S k s.heap)(hU:U k s.heap)(hn:k<n)(hm:k<m)(h:∀x y g' tk,P k x->R k y->IsZip g' z a b (rawInt s.heap.objs.size)->IsPair g' b x y->S (k+1) g'->U (k+1) g'->IsPair g' s.heap.objs.size x y->g'.objs.size=s.heap.objs.size+1 ->
   (∀c o,c≠z->c≠b->c≠i->c≠j->s.heap.get? c=some o->g'.get? c=some o)->Q (some (.ref s.heap.objs.size)) { s with heap:=g',toks:=tk }):wpAny (model prog w) A (pyNext (.ref z)) Q E s:=by
 have hT:s.TypeIs (.ref z) "zip" := ⟨_,hz,rfl⟩;unfold pyNext
 refine aa (wpAny_attempt (wpAny_callSpecial?_slot (name:=Str.ofString "__next__") hT F.slot_zip_next (wpAny_call_entry F.slot_zip_next hT F.entry_zip_next (?_) (F.args_zip_next_1 _))))
 refine wpAny_mono (zJY (Q:=fun v s'=>Q (some v) s') D C ap hz ha hb hS hU hn hm h) (fun fin s' hq=>?_) fun _ _ x=>x
 obtain⟨v,e,hq⟩:=hq
 exact⟨v,e,ae hq⟩
theorem znextE{z a b i j:Addr}{f g:List Addr}{n m k:Nat}{P R:Nat->Value->Prop}{S U:Nat->Heap->Prop}{p q:Value}{Q:Option Value->Shared->Prop}(D:Draws prog w A.in1 i f n P S)(C:Draws prog w A.in1 j g m R U)(ap:Ap z a b i j f g)(hz:IsZip s.heap z a b .none)(ha:IsPair s.heap a (.ref i) (.ref j))(hb:IsPair s.heap b p q)(hS:S k s.heap)(hU:U k s.heap)(hk:(k=n)\/(k<n/\k=m))(h:∀g' tk,(∀c o,c≠z->c≠b->c≠i->c≠j->s.heap.get? c=some o->g'.get? c=some o)->Q none { s with heap:=g',toks:=tk }):wpAny (model prog w) A (pyNext (.ref z)) Q E s:=by
 have hT:s.TypeIs (.ref z) "zip" := ⟨_,hz,rfl⟩;unfold pyNext
 refine aa (wpAny_attempt (wpAny_callSpecial?_slot (name:=Str.ofString "__next__") hT F.slot_zip_next (wpAny_call_entry F.slot_zip_next hT F.entry_zip_next (zMZ D C ap hz ha hb hS hU hk fun g' e kp he tk=>?_) (F.args_zip_next_1 _))))
 obtain⟨o,ho,hc⟩:=he
 refine aa (wpAny_isInstance (T:="StopIteration") (b:=true) ⟨o,ho,hc⟩ isSubtype_stop (?_))
 exact ae (h _ _ kp)
end
end ZZ
namespace DD
open PySem PySem.Spec PyProof.Rows L2
section
variable{X:Cx}{pins:List (Addr×Obj)}{σ:St}{H:Hp}{s:Shared}{h':Heap}
theorem dG{t':Nat}{ch:List Addr}{T:Addr}{vs:List V}{its:List Value}(I:Inv X pins σ H s)(hch:∀b∈ch,dQ X pins H b)(hT:s.heap.objs.size<=T)(kp:∀b o,b∉ch->s.heap.get? b=some o->h'.get? b=some o)(hz:vs.length<=sizeLine)(hv:Vals vs its)(ht:IsTup h' T its.toArray):Inv X pins σ (upd H T (.tup vs)) { s with heap:=h',toks:=t' }:=by
 have hn:H T=none:=I.hok.fresh hT
 have old:∀{b:Addr} {o:Obj},s.heap.get? b=some o->b≠T:=fun e=>ar (au (af e) hT)
 have tr:∀{b:Addr} {u:HO},H b=some u->b≠T:=fun e=>y4 e hn
 have trc:∀{b:Addr} {u:HO},H b=some u->b∉ch:=fun {b u} e z=>by rw[(hch b z).1] at e;cases e
 refine I.step (g':=s.gens) (d':=s.drawn) (ch:=ch) (fun b hb=>⟨(hch b hb).2.2.2.1,(hch b hb).2.1,(hch b hb).2.2.2.2.1,(hch b hb).2.2.2.2.2⟩) (fun b o _ _ hc e _=>kp b o hc e) (fun b o _ _ hc e _=>⟨o.slots,kp b o hc e⟩)
  (fun b o _ e n=>by rw[zI (old e)];exact n) (fun b o hc e=>⟨o,kp b o hc e⟩) (fun b xs e=>by rw[zI (tr e)];exact e) (fun b o u e=>by rw[zI (tr e)];exact e) (fun b ps e=>⟨#[],by rw[zI (tr e),e];simp⟩) (fun m hm=>?_) (fun b u e=>?_) I.bare
 ·obtain⟨o,es,ep,ho,r⟩:=hm
  exact⟨o,es,ep,kp _ o (fun z=>(hch _ z).2.1 rfl) ho,r⟩
 ·by_cases hb:b=T
  ·subst hb
   rw[zK] at e;cases e
   exact⟨hz,its,hv,ht⟩
  ·rw[zI hb] at e
   refine(I.hok b u e).stay (fun c v hc q=>kp c v ?_ q) (fun c q=>by rw[zI (tr q)];exact q) (fun c xs q=>by rw[zI (tr q)];exact q) fun c o u q=>by rw[zI (tr q)];exact q
   rcases hc with z|z
   ·rw[z];exact trc e
   ·exact trc z
theorem u4{t':Nat}{ch:List Addr}(I:Inv X pins σ H s)(hch:∀b∈ch,dQ X pins H b)(kp:∀b o,b∉ch->s.heap.get? b=some o->h'.get? b=some o):Inv X pins σ H { s with heap:=h',toks:=t' }:=by
 have trc:∀{b:Addr} {u:HO},H b=some u->b∉ch:=fun {b u} e z=>by rw[(hch b z).1] at e;cases e
 refine I.step (g':=s.gens) (d':=s.drawn) (ch:=ch) (fun b hb=>⟨(hch b hb).2.2.2.1,(hch b hb).2.1,(hch b hb).2.2.2.2.1,(hch b hb).2.2.2.2.2⟩) (fun b o _ _ hc e _=>kp b o hc e) (fun b o _ _ hc e _=>⟨o.slots,kp b o hc e⟩)
  (fun b o _ e n=>n) (fun b o hc e=>⟨o,kp b o hc e⟩) (fun b xs e=>e) (fun b o u e=>e) (fun b ps e=>⟨#[],by rw[e];simp⟩) (fun m hm=>?_) (fun b u e=>?_) I.bare
 ·obtain⟨o,es,ep,ho,r⟩:=hm
  exact⟨o,es,ep,kp _ o (fun z=>(hch _ z).2.1 rfl) ho,r⟩
 ·refine(I.hok b u e).stay (fun c v hc q=>kp c v ?_ q) (fun _ q=>q) (fun _ _ q=>q) fun _ _ _ q=>q
  rcases hc with z|z
  ·rw[z];exact trc e
  ·exact trc z
end
theorem YO{h:Heap}{a b:Addr}{o o':Obj}{n m:String}(e:h.get? a=some o)(c:o.cls=.type n)(e':h.get? b=some o')(c':o'.cls=.type m)(d:n≠m):a≠b:=by
 rintro rfl
 rw[e] at e';cases e'
 rw[c] at c';injection c' with q;exact d q
noncomputable def ItE(K:Fg)(a:Addr):It:=
 ⟨fun i H=>∃xs x,SqL K H a xs/\xs[i]?=some x,fun i H x H'=>∃T y,x=.ref T/\H T=none/\H'=upd H T (.tup [.int i,y])/\∀xs,SqL K H a xs->xs[i]?=some y,fun i H=>∃xs,SqL K H a xs/\xs.length=i⟩
theorem tM{P:Program}{w:World}{K:Fg}{elts:List Expr}{k:Nat}{tp:Pos}(a e it:Addr)(hei:e≠it):Turn P w K (.Tuple elts k tp) (ItE K a) [e,it] e (fun i h=>(∃old,IsEnum h e it i old)/\h.IsListIter it a i) where
 mem:=by simp
 obj:=fun i h st b hb=>by
  obtain⟨⟨old,h1⟩,o,h2,h3,h4⟩:=st
  have hb':b=e\/b=it:=by simpa using hb
  rcases hb' with rfl|rfl
  ·exact⟨_,h1,fun v z=>by cases z⟩
  ·exact⟨o,h2,fun v z=>by rw[h4] at z;cases z⟩
 keep:=fun i h g st kp=>⟨let ⟨old,h1⟩:=st.1;⟨old,kp e (by simp) _ h1⟩,st.2.at fun o q=>kp it (by simp) o q⟩
 item:=by
  intro X hP hw hK hc i pins s σ H E I hf st hg
  subst hP hw hK
  obtain⟨xs,x,hq,hx⟩:=hg
  obtain⟨its,rv,p,hz⟩:=I.list hq
  obtain⟨u,hu,ru⟩:=rv.get hx
  obtain⟨oa,na,ea,ca,_⟩:=id p
  obtain⟨⟨old,h1⟩,oi,h2,h3,h4⟩:=id st
  have hae:a≠e:=YO ea ca h1 rfl (by decide)
  have hai:a≠it:=YO ea ca h2 h3 (by decide)
  have W:=WalksT.enumerate (prog:=X.prog) (w:=X.w) (A:=X.A) (I.ok.hd hc) e it a hei hae hai its.toArray
  have hi:i<its.toArray.size:=by
   obtain⟨q,_⟩:=ak.mp hu
   simpa using q
  refine W.item i s _ _ hi ⟨st.1,st.2,p.isList⟩ fun T vals g tk pt hT isT mid kp=>⟨_,rfl,W.go elts k tp i T _ _ _ mid fun g2 st2 kp2=>?_⟩
  obtain⟨t,y,hy,rfl⟩:=pt
  have hy':y=u:=by
   have:its[i]?=some y:=by simpa using hy
   rw[hu] at this;exact(aq this).symm
  subst hy'
  have isT2:IsTup g2 T #[.int i t,y]:=by
   obtain⟨o,q1,q2⟩:=isT
   exact⟨o,kp2 T o (W.apart i T _ mid) q1,q2⟩
  refine⟨.ref T,upd H T (.tup [.int i,x]),dG (s:=s) (t':=tk) I (its:=[.int i t,y]) (ch:=[e,it]) hf hT (fun b o hb q=>kp2 b o hb (kp b o hb q)) (by show 2<=sizeLine;decide) (.cons ⟨t,rfl⟩ (.cons ru .nil)) isT2,rfl,⟨T,x,rfl,I.hok.fresh hT,rfl,fun ys hys=>by rw[I.list_inj hys hq];exact hx⟩,⟨st2.1,st2.2.1⟩,fun b hb=>?_⟩
  have hbT:b≠T:=by
   have hb':b=e\/b=it:=by simpa using hb
   rcases hb' with rfl|rfl
   ·exact ar (au (af h1) hT)
   ·exact ar (au (af h2) hT)
  rw[zI hbT]
  exact(hf b hb).1
 done:=by
  intro X hP hw hK hc i pins s σ H E I hf st hg
  subst hP hw hK
  obtain⟨xs,hq,hx⟩:=hg
  obtain⟨its,rv,p,hz⟩:=I.list hq
  obtain⟨oa,na,ea,ca,_⟩:=id p
  obtain⟨⟨old,h1⟩,oi,h2,h3,h4⟩:=id st
  have hae:a≠e:=YO ea ca h1 rfl (by decide)
  have hai:a≠it:=YO ea ca h2 h3 (by decide)
  have W:=WalksT.enumerate (prog:=X.prog) (w:=X.w) (A:=X.A) (I.ok.hd hc) e it a hei hae hai its.toArray
  have hl:its.toArray.size=i:=by rw[ag,<-rv.length];exact hx
  exact W.done s _ _ (by rw[hl];exact⟨st.1,st.2,p.isList⟩) fun g tk kp=>⟨rfl,u4 I hf kp⟩
 self:=fun _ _ _ _ _ st h=>let ⟨⟨_,h1⟩,_⟩:=st;wpAny_pyIter_enum h1 h
noncomputable def ItZ(sq:Hp->Addr->List V->Prop)(a b:Addr):It:=
 ⟨fun i H=>∃xs ys x y,sq H a xs/\sq H b ys/\xs[i]?=some x/\ys[i]?=some y,fun i H x H'=>∃T u v,x=.ref T/\H T=none/\H'=upd H T (.tup [u,v])/\(∀xs,sq H a xs->xs[i]?=some u)/\∀ys,sq H b ys->ys[i]?=some v,fun i H=>∃xs ys,sq H a xs/\sq H b ys/\(xs.length=i\/(i<xs.length/\ys.length=i))⟩
theorem zJF{X:Cx}{pins:List (Addr×Obj)}{σ:St}{H:Hp}{s:Shared}{a b:Addr}{o:Obj}(I:Inv X pins σ H s)(h:X.K.lookup a=some o)(f:dQ X pins H b):a≠b:=by
 rintro rfl
 have e:=I.ok.mod.kin a o h
 rcases f.2.2.2.1 with z|z
 ·exact I.ok.noex a o e z
 ·exact absurd (au (au (af e) I.ok.bsz) z) (Nat.lt_irrefl _)
theorem zJE{X:Cx}{pins:List (Addr×Obj)}{H:Hp}{a b:Addr}{u:HO}(h:Rd H a u)(f:dQ X pins H b):a≠b:=by
 rintro rfl
 obtain⟨o,e⟩:=Rd.some h
 rw[f.1] at e;cases e
structure Dw(K:Fg)(sq:Hp->Addr->List V->Prop)(isI:Heap->Addr->Addr->Nat->Prop)(nm:String):Prop where
 get:∀{X:Cx} {pins σ H s a xs},X.K=K->Inv X pins σ H s->sq H a xs->∃its:List Value,Vals xs its/\xs.length<=sizeLine/\∃o,s.heap.get? a=some o/\o.cls=.type nm/\∃n,o.data=.seq its.toArray n
 inj:∀{X:Cx} {pins σ H s a xs ys},X.K=K->Inv X pins σ H s->sq H a xs->sq H a ys->xs=ys
 ne:∀{X:Cx} {pins σ H s a xs b},X.K=K->Inv X pins σ H s->sq H a xs->dQ X pins H b->a≠b
 it:∀{h i a k},isI h i a k->∃o,h.get? i=some o/\∃vs,o.data=.fields vs
 at_:∀{h h':Heap} {i a k},isI h i a k->(∀o,h.get? i=some o->h'.get? i=some o)->isI h' i a k
 dr:∀{prog w A} (_:A.handled=none) (i a:Addr) (_:a≠i) (ys:Array Value),Draws prog w A i [i,a] ys.size (fun k v=>ys[k]?=some v) (fun k h=>isI h i a k/\∃o,h.get? a=some o/\o.cls=.type nm/\∃n,o.data=.seq ys n)
theorem dw_list(K:Fg):Dw K (SqL K) Heap.IsListIter "list" where
 get:=fun {X pins σ H s a xs} hK I h=>by
  subst hK
  obtain⟨its,r,⟨o,n,e,c,_,d⟩,z⟩:=I.list h
  exact⟨its,r,z,o,e,c,n,d⟩
 inj:=fun {X pins σ H s a xs ys} hK I h g=>by subst hK;exact I.list_inj h g
 ne:=fun {X pins σ H s a xs b} hK I h f=>by
  subst hK
  rcases h with h|⟨o,_,_,hk,_⟩
  ·exact zJE h f
  ·exact zJF I hk f
 it:=fun {h i a k} ⟨o,e,c,d⟩=>⟨o,e,_,d⟩
 at_:=fun h k=>h.at k
 dr:=fun hh i a ne ys=>Draws.list hh i a ne ys
theorem zEB(K:Fg):Dw K (SqT K) Heap.IsTupleIter "tuple" where
 get:=fun {X pins σ H s a xs} hK I h=>by
  subst hK
  obtain⟨its,r,⟨o,e,c,n,d⟩,z⟩:=I.tuple h
  exact⟨its,r,z,o,e,c,n,d⟩
 inj:=fun {X pins σ H s a xs ys} hK I h g=>by subst hK;exact I.tuple_inj h g
 ne:=fun {X pins σ H s a xs b} hK I h f=>by
  subst hK
  rcases h with h|⟨o,_,_,hk,_⟩
  ·exact zJE h f
  ·exact zJF I hk f
 it:=fun {h i a k} ⟨o,e,c,d⟩=>⟨o,e,_,d⟩
 at_:=fun h k=>h.at k
 dr:=fun hh i a ne ys=>ZZ.drawsT hh i a ne ys
structure ZA(z p q i j:Addr):Prop where
 pz:p≠z
 qz:q≠z
 iz:i≠z
 jz:j≠z
 pq:p≠q
 pi:p≠i
 pj:p≠j
 qi:q≠i
 qj:q≠j
 ij:i≠j
theorem oJ{P:Program}{w:World}{K:Fg}{elts:List Expr}{k:Nat}{tp:Pos}{sq:Hp->Addr->List V->Prop}{isI:Heap->Addr->Addr->Nat->Prop}{nm:String}(W:Dw K sq isI nm)(a b z p q i j:Addr)(ap:ZA z p q i j):Turn P w K (.Tuple elts k tp) (ItZ sq a b) [z,p,q,i,j] z (fun n h=>IsZip h z p q .none/\IsPair h p (.ref i) (.ref j)/\(∃u v,IsPair h q u v)/\isI h i a n/\isI h j b n) where
 mem:=by simp
 obj:=fun n h st c hc=>by
  obtain⟨h1,h2,⟨u,v,h3⟩,h4,h5⟩:=st
  obtain⟨oi,ei,vi,di⟩:=W.it h4
  obtain⟨oj,ej,vj,dj⟩:=W.it h5
  have hc':c=z\/c=p\/c=q\/c=i\/c=j:=by simpa using hc
  rcases hc' with rfl|rfl|rfl|rfl|rfl
  ·exact⟨_,h1,fun v z=>by cases z⟩
  ·exact⟨_,h2,fun v z=>by cases z⟩
  ·exact⟨_,h3,fun v z=>by cases z⟩
  ·exact⟨_,ei,fun v z=>by rw[di] at z;cases z⟩
  ·exact⟨_,ej,fun v z=>by rw[dj] at z;cases z⟩
 keep:=fun n h g st kp=>by
  obtain⟨h1,h2,⟨u,v,h3⟩,h4,h5⟩:=st
  exact⟨kp z (by simp) _ h1,kp p (by simp) _ h2,⟨u,v,kp q (by simp) _ h3⟩,W.at_ h4 fun o e=>kp i (by simp) o e,W.at_ h5 fun o e=>kp j (by simp) o e⟩
 item:=by
  intro X hP hw hK hc n pins s σ H E I hf st hg
  subst hP hw
  obtain⟨xs,ys,x,y,hx,hy,ex,ey⟩:=hg
  obtain⟨its,rv,hzx,oa,ea,ca,na,da⟩:=W.get hK I hx
  obtain⟨its2,rv2,hzy,ob,eb,cb,nb,db⟩:=W.get hK I hy
  obtain⟨u,hu,ru⟩:=rv.get ex
  obtain⟨v,hv,rw'⟩:=rv2.get ey
  obtain⟨h1,h2,⟨u0,v0,h3⟩,h4,h5⟩:=st
  have fa:∀c∈[z,p,q,i,j],a≠c:=fun c hc=>W.ne hK I hx (hf c hc)
  have fb:∀c∈[z,p,q,i,j],b≠c:=fun c hc=>W.ne hK I hy (hf c hc)
  have hn:n<its.toArray.size:=by obtain⟨q',_⟩:=ak.mp hu;simpa using q'
  have hm:n<its2.toArray.size:=by obtain⟨q',_⟩:=ak.mp hv;simpa using q'
  have ap':ZZ.Ap z p q i j [i,a] [j,b]:=⟨ap.pz,ap.qz,ap.iz,ap.jz,ap.pq,ap.pi,ap.pj,ap.qi,ap.qj,ap.ij,
   by simp;exact⟨ap.iz.symm,(fa z (by simp)).symm⟩,by simp;exact⟨ap.qi,(fa q (by simp)).symm⟩,by simp;exact⟨ap.ij.symm,(fa j (by simp)).symm⟩,by simp;exact⟨ap.jz.symm,(fb z (by simp)).symm⟩,by simp;exact⟨ap.qj,(fb q (by simp)).symm⟩,by simp;exact⟨ap.ij,(fb i (by simp)).symm⟩⟩
  refine ZZ.znextI (W.dr (A:=X.A.in1) (I.ok.hd hc) i a (fa i (by simp)) its.toArray) (W.dr (A:=X.A.in1) (I.ok.hd hc) j b (fb j (by simp)) its2.toArray) ap' h1 h2 h3 ⟨h4,oa,ea,ca,na,da⟩ ⟨h5,ob,eb,cb,nb,db⟩ hn hm fun x' y' g tk px py z1 q1 s1 u1 t1 sz kp=>⟨_,rfl,?_⟩
  refine wpAny_letOwnedTupleGo_zip z1 fun g2 z2 sb=>?_
  have hx':x'=u:=by
   have:its[n]?=some x':=by simpa using px
   rw[hu] at this;exact(aq this).symm
  have hy':y'=v:=by
   have:its2[n]?=some y':=by simpa using py
   rw[hv] at this;exact(aq this).symm
  subst hx' hy'
  have zl:z<s.heap.objs.size:=af h1
  have kp2:∀c o,c∉[z,q,i,j]->s.heap.get? c=some o->g2.get? c=some o:=fun c o hc e=>by
   simp at hc
   exact sb.extBut _ _ hc.1 (kp c o hc.1 hc.2.1 hc.2.2.1 hc.2.2.2 e)
  have isT:IsTup g2 s.heap.objs.size #[x',y']:=⟨_,sb.extBut _ _ (Nat.ne_of_gt zl) t1,rfl,_,rfl⟩
  have hf':∀c∈[z,q,i,j],dQ X pins H c:=fun c hc=>hf c (by simp at hc ⊢;rcases hc with h|h|h|h<;>simp[h])
  refine⟨.ref s.heap.objs.size,upd H s.heap.objs.size (.tup [x,y]),dG (s:=s) (t':=tk) I (its:=[x',y']) (ch:=[z,q,i,j]) hf' (al _) kp2 (by show 2<=sizeLine;decide) (.cons ru (.cons rw' .nil)) isT,rfl,⟨_,x,y,rfl,I.hok.fresh (al _),rfl,fun zs hzs=>by rw[W.inj hK I hzs hx];exact ex,fun zs hzs=>by rw[W.inj hK I hzs hy];exact ey⟩,?_,fun c hc=>?_⟩
  ·refine⟨z2,sb.extBut _ _ ap.pz (kp p _ ap.pz ap.pq ap.pi ap.pj h2),⟨_,_,sb.extBut _ _ ap.qz q1⟩,W.at_ s1.1 fun o e=>sb.extBut _ _ ap.iz e,W.at_ u1.1 fun o e=>sb.extBut _ _ ap.jz e⟩
  ·have hlt:c<s.heap.objs.size:=by
    obtain⟨oi,ei,_⟩:=W.it h4
    obtain⟨oj,ej,_⟩:=W.it h5
    simp at hc
    rcases hc with rfl|rfl|rfl|rfl|rfl
    ·exact zl
    ·exact af h2
    ·exact af h3
    ·exact af ei
    ·exact af ej
   rw[zI (ar hlt)]
   exact(hf c hc).1
 done:=by
  intro X hP hw hK hc n pins s σ H E I hf st hg
  subst hP hw
  obtain⟨xs,ys,hx,hy,hl⟩:=hg
  obtain⟨its,rv,hzx,oa,ea,ca,na,da⟩:=W.get hK I hx
  obtain⟨its2,rv2,hzy,ob,eb,cb,nb,db⟩:=W.get hK I hy
  obtain⟨h1,h2,⟨u0,v0,h3⟩,h4,h5⟩:=st
  have fa:∀c∈[z,p,q,i,j],a≠c:=fun c hc=>W.ne hK I hx (hf c hc)
  have fb:∀c∈[z,p,q,i,j],b≠c:=fun c hc=>W.ne hK I hy (hf c hc)
  have e1:=rv.length
  have e2:=rv2.length
  have ap':ZZ.Ap z p q i j [i,a] [j,b]:=⟨ap.pz,ap.qz,ap.iz,ap.jz,ap.pq,ap.pi,ap.pj,ap.qi,ap.qj,ap.ij,
   by simp;exact⟨ap.iz.symm,(fa z (by simp)).symm⟩,by simp;exact⟨ap.qi,(fa q (by simp)).symm⟩,by simp;exact⟨ap.ij.symm,(fa j (by simp)).symm⟩,by simp;exact⟨ap.jz.symm,(fb z (by simp)).symm⟩,by simp;exact⟨ap.qj,(fb q (by simp)).symm⟩,by simp;exact⟨ap.ij,(fb i (by simp)).symm⟩⟩
  have hf':∀c∈[z,q,i,j],dQ X pins H c:=fun c hc=>hf c (by simp at hc ⊢;rcases hc with h|h|h|h<;>simp[h])
  refine ZZ.znextE (W.dr (A:=X.A.in1) (I.ok.hd hc) i a (fa i (by simp)) its.toArray) (W.dr (A:=X.A.in1) (I.ok.hd hc) j b (fb j (by simp)) its2.toArray) ap' h1 h2 h3 ⟨h4,oa,ea,ca,na,da⟩ ⟨h5,ob,eb,cb,nb,db⟩ ?_ fun g tk kp=>⟨rfl,u4 I hf' fun c o hc e=>?_⟩
  ·simp only[ag]
   rcases hl with h|⟨h,h'⟩
   ·left;omega
   ·right;omega
  ·simp at hc
   exact kp c o hc.1 hc.2.1 hc.2.2.1 hc.2.2.2 e
 self:=fun _ _ _ _ _ st h=>wpAny_pyIter_zip st.1 h
section
variable{X:Cx}{pos:Pos}{a b c:Expr}{f g h:ME}
theorem zIL(ha:DE X a f):DE X (.UnaryOp .USub a pos) (mUn zHG f):=zLC zBD (fun O H dx d vx Q i e q=>by
 cases dx<;>first|(simp only[zHG,reduceCtorEq] at e;done)|skip
 simp only[zHG,Option.some.injEq] at e
 subst e
 rw[Is.int_iff] at i
 exact⟨_,i,q _ (by rw[Is.int_iff])⟩) ha
noncomputable def leA:D->D->Option D
 |.int i,.int j=>some (.bl (decide (i<=j)))
 |.str s,.str t=>some (.bl (!decide (t<s)))
 |_,_=>none
theorem zG9:OpR X (compareOp .LtE) (fun x y H Q=>∃i j,x=.str i/\y=.str j/\Q (.bl (!decide (j.cps.toList<i.cps.toList))) H):=by
 intro pins s σ H x y v u Q I rx ry hq
 obtain⟨i,j,rfl,rfl,q⟩:=hq
 obtain⟨t,rfl⟩:=rx
 obtain⟨t',rfl⟩:=ry
 exact PySem.P.le_str ⟨.bl _,H,I,rfl,q⟩
noncomputable def zMG:R2:=fun x y H Q=>rI0 (fun i j=>.bl (decide (i<=j))) x y H Q\/∃i j,x=.str i/\y=.str j/\Q (.bl (!decide (j.cps.toList<i.cps.toList))) H
theorem zHA:OpR X (compareOp .LtE) zMG:=op_le.or zG9
theorem zHF{K:Fg}:OpD K zMG leA:=by
 intro O H dx dy d vx vy Q ol ix iy e q
 unfold leA at e
 split at e
 ·have e:=aq e
  subst e
  rw[Is.int_iff] at ix iy
  exact .inl ⟨_,_,ix,iy,q _ H (Same.refl H) (by rw[Is.bl_iff])⟩
 ·have e:=aq e
  subst e
  rw[Is.str_iff] at ix iy
  exact .inr ⟨_,_,ix,iy,q _ H (Same.refl H) (by rw[Is.bl_iff])⟩
 ·cases e
noncomputable def JA(fl:ML):ME:=fun r=>(fl r).map .tup
theorem n8{p':Pos}{fl:ML}(hg:Gl X "tuple")(hm:X.mg "tuple" = none)(ha:DB X a fl)(hs:starEach [a] X.env=(false,eval a X.env)::starEach [] X.env:=by rfl):DE X (.Call (.Name "tuple" p') [a] [] pos) (JA fl):=by
 refine PE.conseq (kJ bD hg hm PyProof.Rows.boot_tuple (zX ha y0 hs) (he:=hs)) fun σ H Q hq=>?_
 obtain⟨O0,r,d,hR,e,q⟩:=hq
 obtain⟨l,e1,rfl⟩:=map_some e
 refine⟨O0,r,l,hR,e1,fun p xs H1 s1 sq il=>⟨p,xs,rfl,.inl ⟨sq,fun t ht=>q _ _ (s1.trans (zT ht)) ?_⟩⟩⟩
 rw[Is.tup_iff]
 exact⟨t,xs,rfl,SqT.of zK,il.same (zT ht) (hR.same s1).ol⟩
theorem zLF{fl:ML}(h:DF X a fl):DB X a fl:=by
 refine PE.conseq h fun σ H Q hq=>?_
 obtain⟨O0,r,l,hR,e,q⟩:=hq
 refine⟨O0,r,l,hR,e,fun p xs H1 s1 n1 e1 il=>q p xs H1 s1 (SqL.of e1) ?_⟩
 have ol:qR (fun b=>Ow O0 r σ b\/b=p) H1:=fun b z=>z.elim (fun z=>(hR.same s1).ol b z) fun z=>by subst z;exact⟨.lst xs,e1,trivial⟩
 exact IsL.mono (Same.kp (Same.refl H1) _) ol (fun a z _=>.inl z) l xs il
end
noncomputable def zJP(f:ME)(bd:D->En->Option En):MS:=fun r=>(f r).bind fun d=>(bd d r).map .nx
theorem zIG{X:Cx}{pos:Pos}{tg e:Expr}{f:ME}{bd:D->En->Option En}(he:DE X e f)(hg:DG X tg bd)(hs:swapsWithSole [tg] e pos.line X.env=pure false:=by rfl)(hw:swappedStores [tg] e X.env=pure none:=by rfl)(h1:(assignEach [tg] X.env).map (·.2)=[assign tg X.env]:=by rfl):DS X (.Assign [tg] e pos) (zJP f bd):=by
 refine PS.conseq (zGV he hg hs hw h1) fun Dn σ H hq=>?_
 obtain⟨O0,r,fl,hR,e,q⟩:=hq
 obtain⟨d,e1,e2⟩:=bind_some e
 obtain⟨r',e3,rfl⟩:=map_some e2
 refine⟨O0,r,d,hR,e1,fun v H1 s1 i1=>⟨O0,r,d,r',hR.same s1,i1,e3,fun σ' R' k'=>q σ' H1 R' ((Kp.of_same r σ s1).trans k')⟩⟩
open PySem PySem.Spec PyProof.Rows L2 PySem.StrLaws
noncomputable def rK{α:Type}(xs:List α)(lo hi:Option Int):List α:=(xs.drop (HT.sIx xs.length 0 lo)).take (HT.sIx xs.length xs.length hi-HT.sIx xs.length 0 lo)
theorem o9(n d:Nat)(hd:d<=n)(o:Option Int):HT.sIx n d o<=n:=HT.sIx_le n d hd o
theorem gA(lo hi:Option Int)(n:Nat):Builtin.Str.strSliceIndices lo hi 1 n=Builtin.Str.strSliceIndices (some ((HT.sIx n 0 lo:Nat):Int)) (some ((HT.sIx n n hi:Nat):Int)) 1 n:=by
 have key:∀(v:Option Int) (d:Nat),d<=n->(match v with|none=>(d:Int)|some i=>max 0 (min (if i<0 then i+(n:Int) else i) (n:Int)))=max 0 (min (if ((HT.sIx n d v:Nat):Int)<0 then ((HT.sIx n d v:Nat):Int)+(n:Int) else ((HT.sIx n d v:Nat):Int)) (n:Int)):=by
  intro v d hd
  have hle:=o9 n d hd v
  have h0:¬(((HT.sIx n d v:Nat):Int)<0):=by omega
  rw[if_neg h0]
  cases v with
  |none=>
   have e:HT.sIx n d none=d:=rfl
   rw[e];show(d:Int)=_;omega
  |some i=>
   have e:HT.sIx n d (some i)=if i<0 then (i+(n:Int)).toNat else min i.toNat n:=rfl
   show max 0 (min (if i<0 then i+(n:Int) else i) (n:Int))=_
   rw[e] at hle ⊢
   split<;>split at hle<;>omega
 have e1:(1:Int) > 0:=by omega
 unfold PySem.Builtin.Str.strSliceIndices
 simp only[e1,if_true]
 have k1:=key lo 0 (Nat.zero_le _)
 have k2:=key hi n (al _)
 cases lo<;>cases hi<;>simp only at k1 k2 ⊢<;>rw[<-k1,<-k2]<;>rfl
theorem kD(x:Str)(lo hi:Option Int):sliceText x lo hi=⟨(rK x.cps.toList lo hi).toArray⟩:=by
 have hl:x.cps.toList.length=x.length:=by simp[Str.length]
 unfold rK
 rw[hl]
 have ha:=o9 x.length 0 (Nat.zero_le _) lo
 have hb:=o9 x.length x.length (al _) hi
 have e:sliceText x lo hi=sliceText x (some ((HT.sIx x.length 0 lo:Nat):Int)) (some ((HT.sIx x.length x.length hi:Nat):Int)):=by
  unfold sliceText
  rw[gA lo hi x.length]
 rw[e]
 by_cases hab:HT.sIx x.length 0 lo<=HT.sIx x.length x.length hi
 ·exact sliceText_nat x hab hb
 ·have z:HT.sIx x.length x.length hi-HT.sIx x.length 0 lo=0:=by omega
  rw[z,List.take_zero]
  have em:Builtin.Str.strSliceIndices (some ((HT.sIx x.length 0 lo:Nat):Int)) (some ((HT.sIx x.length x.length hi:Nat):Int)) 1 x.length=[]:=by
   have e1:(1:Int) > 0:=by omega
   unfold PySem.Builtin.Str.strSliceIndices
   simp only[e1,if_true]
   have h0:¬(((HT.sIx x.length 0 lo:Nat):Int)<0):=by omega
   have h1:¬(((HT.sIx x.length x.length hi:Nat):Int)<0):=by omega
   rw[if_neg h0,if_neg h1]
   unfold PySem.sliceRange
   simp only[e1,if_true]
   split
   ·omega
   ·rfl
  unfold sliceText
  rw[em]
  split
  ·rename_i q
   have q':x.length=0:=by
                  have:0=x.length:=by simpa using q
                  exact this.symm
   apply Str.ext'
   have:x.cps.size=0:=q'
   exact Array.eq_empty_of_size_eq_zero this
  ·rfl
section
variable{X:Cx}{pos p2:Pos}{a b:Expr}{f g:ME}
noncomputable def zMB:V->Option Int->Option Int->Hp->VK->Prop:=fun x lo hi H Q=>∃z,x=.str z/\z.length<=sizeLine/\Q (.str ⟨(rK z.cps.toList lo hi).toArray⟩) H
theorem JW{α:Type}(xs:List α)(lo hi:Option Int):(rK xs lo hi).length<=xs.length:=by
 unfold rK
 rw[List.length_take,List.length_drop]
 omega
theorem tQ:SlR X zMB:=by
 intro pins s σ H x v vl vu lo hi sl Q I rx hs pl pu hq
 obtain⟨z,rfl,hz,q⟩:=hq
 obtain⟨t,rfl⟩:=rx
 refine⟨"str",_,PySem.F.slot_str_getitem.lookup,typeIs_str _ _ _,?_⟩
 have main:∀(l u:Option (Int×Tok)),l.map (·.1)=lo->u.map (·.1)=hi->s.heap.IsSlice sl l u none->wpAny (model X.prog X.w) X.A (getItem (.str z t) (.ref sl)) (EP X pins σ Q) X.xe s:=by
  intro l u hl hu hsl
  refine wpAny_getItem_str_slice hsl rfl ?_
  have e:∀t' k,EP X pins σ Q (.str (sliceText z lo hi) t') { s with toks:=k }:=fun t' k=>⟨.str _,H,I.tok k,⟨t',rfl⟩,by rw[kD];exact q⟩
  have hle:(sliceText z lo hi).length<=sizeLine:=by
   rw[kD,jD]
   have:=JW z.cps.toList lo hi
   have h2:z.cps.toList.length=z.length:=by simp[Str.length]
   omega
  unfold sliceMade slicePicked
  rw[hl,hu]
  exact post_val_or_str ⟨hle,e⟩
 obtain⟨o,h1,h2,h3⟩:=hs
 cases pl with
 |none=>cases pu with
  |none=>exact main none none rfl rfl ⟨o,h1,h2,h3⟩
  |int j tj=>exact main none (some (j,tj)) rfl rfl ⟨o,h1,h2,h3⟩
 |int i ti=>cases pu with
  |none=>exact main (some (i,ti)) none rfl rfl ⟨o,h1,h2,h3⟩
  |int j tj=>exact main (some (i,ti)) (some (j,tj)) rfl rfl ⟨o,h1,h2,h3⟩
noncomputable abbrev MO:=En->Option (Option Int)
noncomputable def XH:MO:=fun _=>some none
noncomputable def uT(f:ME):MO:=fun r=>(f r).bind fun d=>(intD d).map some
noncomputable def lO(K:Fg)(f:MO):TO:=fun σ H Q=>∃O0 r o,R K O0 H r σ/\f r=some o/\∀H',Same H H'->Q o H'
noncomputable def DO(X:Cx)(e:Option Expr)(f:MO):Prop:=PO X e (lO X.K f)
theorem PO.conseq{e:Option Expr}{t t':TO}(h:PO X e t)(i:∀σ H Q,t' σ H Q->t σ H Q):PO X e t':=fun pins s σ H Q I q=>h pins s σ H Q I (i σ H Q q)
theorem X5:DO X none XH:=PO.conseq zCG fun σ H Q ⟨O0,r,o,hR,e,q⟩=>by
 unfold XH at e;cases e
 exact q H (Same.refl H)
theorem hI(ha:DE X a f):DO X (some a) (uT f):=PO.conseq (zCF ha) fun σ H Q ⟨O0,r,o,hR,e,q⟩=>by
 obtain⟨d,e1,e2⟩:=bind_some e
 obtain⟨i,e3,rfl⟩:=map_some e2
 cases u5 e3
 exact⟨O0,r,_,hR,e1,fun v H1 s1 i1=>⟨i,by rw[Is.int_iff] at i1;exact i1,q H1 s1⟩⟩
noncomputable def slD(d:D)(lo hi:Option Int):Option D:=match d with
 |.lst l=>some (.lst (rK l lo hi))
 |.tup l=>if HT.sIx l.length 0 lo=0/\HT.sIx l.length l.length hi=l.length then none else some (.tup (rK l lo hi))
 |.str s=>if s.length<=sizeLine then some (.str (rK s lo hi)) else none
 |_=>none
noncomputable def mSl(f:ME)(lo hi:MO):ME:=fun r=>(f r).bind fun d=>(lo r).bind fun i=>(hi r).bind fun j=>slD d i j
noncomputable def zNA(K:Fg):V->Option Int->Option Int->Hp->VK->Prop:=fun x lo hi H Q=>zMC K x lo hi H Q\/zMA K x lo hi H Q\/zMB x lo hi H Q
theorem IsL.cut{K:Fg}{O:Addr->Prop}{H:Hp}{l:List D}{xs:List V}(h:IsL K O H l xs)(lo hi:Option Int):IsL K O H (rK l lo hi) (zF1 xs lo hi):=by
 unfold rK zF1
 rw[h.length]
 exact(h.drop _).take _
theorem zFZ{lo hi:Option Expr}{fl fh:MO}(ha:DE X a f)(hl:DO X lo fl)(hh:DO X hi fh):DE X (.Subscript a (.Slice lo hi none p2) pos) (mSl f fl fh):=by
 refine PE.conseq (QN (r:=zNA X.K) (sl_list.or (sl_tup.or tQ)) ha hl hh) fun σ H Q hq=>?_
 obtain⟨O0,r,d,hR,e,q⟩:=hq
 obtain⟨x,e1,e⟩:=bind_some e
 obtain⟨i,e2,e⟩:=bind_some e
 obtain⟨j,e3,e⟩:=bind_some e
 refine⟨O0,r,x,hR,e1,fun v H1 s1 i1=>⟨O0,r,i,hR.same s1,e2,fun H2 s2=>⟨O0,r,j,hR.same (s1.trans s2),e3,fun H3 s3=>?_⟩⟩⟩
 have s13:=(s1.trans s2).trans s3
 have R3:=hR.same s13
 have i3:=i1.same (s2.trans s3) (hR.same s1).ol
 cases x<;>first|(simp only[slD,reduceCtorEq] at e;done)|skip
 ·simp only[slD] at e
  split at e
  ·rename_i hl'
   cases e
   rw[Is.str_iff] at i3
   refine .inr (.inr ⟨_,i3,by rw[jD];exact hl',q _ H3 s13 (by rw[Is.str_iff])⟩)
  ·cases e
 ·simp only[slD] at e
  split at e
  ·cases e
  ·rename_i hw
   cases e
   rw[Is.tup_iff] at i3
   obtain⟨p,xs,rfl,hs,il⟩:=i3
   refine .inr (.inl ⟨p,xs,rfl,hs,by rw[<-il.length];exact hw,fun t ht=>q _ _ (s13.trans (zT ht)) ?_⟩)
   rw[Is.tup_iff]
   exact⟨t,_,rfl,SqT.of zK,(il.cut i j).same (zT ht) R3.ol⟩
 ·simp only[slD,Option.some.injEq] at e
  subst e
  rw[Is.lst_iff] at i3
  obtain⟨p,xs,rfl,hs,il⟩:=i3
  refine .inl ⟨p,xs,rfl,hs.sq,fun t ht=>q _ _ (s13.trans (zT ht)) ?_⟩
  rw[Is.lst_iff]
  exact⟨t,_,rfl,.inl ⟨R3.nofresh ht,.inl zK⟩,(il.cut i j).same (zT ht) R3.ol⟩
end
open PySem PySem.Spec PyProof.Rows L2 PySem.StrLaws
section
variable{prog:Program}{w:World}{A:Around}{E:Value->Shared->Prop}{s:Shared}
theorem zGO(n:Nat):Builtin.Slice.sliceAdjust none none (-1) (n:Int)=((n:Int)-1,-1):=by
 unfold Builtin.Slice.sliceAdjust
 simp
theorem zGM(n:Nat):Builtin.Slice.slicePlaces ((n:Int)-1) (-1) (-1)=n:=by
 unfold Builtin.Slice.slicePlaces
 have h1:¬((-1:Int) > 0):=by omega
 simp only[h1,if_false]
 split
 ·have : -(-1:Int)=1:=by omega
  rw[this,Int.ediv_one];omega
 ·omega
theorem zGN{sl:Addr}{t:Tok}{n:Nat}{Q:Int×Int×Nat->Shared->Prop}(hs:s.heap.IsSliceOf sl .none .none (.int (-1) t))(h:Q ((n:Int)-1,-1,n) s):wpAny (model prog w) A (Builtin.Slice.sliceApplied (.ref sl) (pure (n:Int))) Q E s:=by
 obtain⟨os,ho,hc,hd⟩:=id hs
 unfold Builtin.Slice.sliceApplied Builtin.Slice.sliceFields
 refine aa (aa (wpAny_field ho hd (x:=.none) rfl (aa (wpAny_field ho hd (x:=.none) rfl (aa (wpAny_field ho hd (x:=.int (-1) t) rfl (ae (?_))))))))
 refine aa (slicePart_int (?_));show wpAny _ _ (if ((-1:Int) == 0)=true then _ else _) _ _ s;rw[if_neg (by decide)]
 refine aa (slicePart_none (aa (slicePart_none (aa (ae (?_))))))
 show wpAny _ _ (match Builtin.Slice.sliceAdjust none none (-1) (n:Int) with|(lo,hi)=>pure (lo,(-1:Int),Builtin.Slice.slicePlaces lo hi (-1))) _ _ s
 rw[zGO n];show wpAny _ _ (pure ((n:Int)-1,(-1:Int),Builtin.Slice.slicePlaces ((n:Int)-1) (-1) (-1))) _ _ s;rw[zGM]
 exact ae h
theorem zD1{α β:Type}{F:α->Option β}{G:α->β}:∀(l:List α),(∀m∈l,F m=some (G m))->l.filterMap F=l.map G
 |[],_=>rfl
 |a::l,h=>by
  rw[List.filterMap_cons,h a List.mem_cons_self,ao,zD1 l fun m hm=>h m (List.mem_cons_of_mem _ hm)]
theorem QE(xs:Array Value):((List.range xs.size).filterMap fun(m:Nat)=>xs[((xs.size:Int)-1+(m:Int)*(-1)).toNat]?).toArray=xs.toList.reverse.toArray:=by
 congr 1
 apply List.ext_getElem?
 intro k
 have e:∀m,m<xs.size->xs[((xs.size:Int)-1+(m:Int)*(-1)).toNat]?=some (xs.toList.reverse.getD m .none):=by
  intro m hm
  have h1:((xs.size:Int)-1+(m:Int)*(-1)).toNat=xs.size-1-m:=by omega
  rw[h1,List.getD_eq_getElem?_getD,List.getElem?_reverse (by simpa using hm)]
  have h2:xs.size-1-m<xs.size:=by omega
  simp[h2]
 have e2:(List.range xs.size).filterMap (fun(m:Nat)=>xs[((xs.size:Int)-1+(m:Int)*(-1)).toNat]?)=(List.range xs.size).map fun m=>xs.toList.reverse.getD m .none:=by
  exact zD1 _ fun m hm=>e m (List.mem_range.mp hm)
 rw[e2,ba]
 by_cases hk:k<xs.size
 ·rw[List.getElem?_range hk,bb (by simpa using hk)]
  simp[List.getD_eq_getElem?_getD,hk]
 ·rw[List.getElem?_eq_none (by simpa using hk),List.getElem?_eq_none (by simpa using hk)];rfl
theorem zB3{t sl:Addr}{its:Array Value}{tk:Tok}{Q:Value->Shared->Prop}(ht:IsTup s.heap t its)(hs:s.heap.IsSliceOf sl .none .none (.int (-1) tk))(hsz:its.size<=sizeLine)(h:Q (.ref s.heap.objs.size) { s with heap:=s.heap.push { cls:=.type "tuple",data:=.seq its.toList.reverse.toArray } }):wpAny (model prog w) A (getItem (.ref t) (.ref sl)) Q E s:=by
 have hz:sizeOk (.seq its.toList.reverse.toArray):=by show its.toList.reverse.toArray.size<=sizeLine;simpa using hsz
 obtain⟨os,ho,hc,hd⟩:=id hs
 have hT:s.TypeIs (.ref sl) "slice" := ⟨os,ho,hc⟩
 unfold getItem
 try with_reducible refine wpAny_holding ?_
 first|refine aa (ae ?_)|skip
 refine aa (wpAny_sequenceKey ht.typeIs (by decide) ?_)
 refine aa (wpAny_callSpecial?_slot (name:=Str.ofString "__getitem__") ht.typeIs PyProof.Rows.slot_tuple_getitem (wpAny_call_entry PyProof.Rows.slot_tuple_getitem ht.typeIs entry_tuple_getitem (?_) (args_tuple_getitem _ _)))
 show wpAny _ _ (Builtin.Tuple.tupleItemsOf (.ref t) >>= _) _ _ s;refine aa (tupleItemsOf_ ht (aa (wpAny_typeOf hT (?_))));rw[if_pos (by decide)];refine aa (zGN hs (?_))
 show wpAny _ _ (if (((its.size:Int)-1) == 0 && (-1:Int) == 1 && its.size == its.size)=true then _ else _) _ _ s
 rw[if_neg (by simp),QE]
 first
  |exact aa (m:=Builtin.Tuple.tupleExact _) (wpAny_newObj_type (ae ⟨_,rfl,ae h⟩) hz)
  |exact aa (m:=Builtin.Tuple.tupleExact _) (wpAny_newObj_type (aa (ae (ae ⟨_,rfl,ae h⟩))) hz)
  |exact aa (aa (m:=Builtin.Tuple.tupleExact _) (wpAny_newObj_type (ae (ae ⟨_,rfl,ae h⟩)) hz))
  |exact aa (aa (m:=Builtin.Tuple.tupleExact _) (wpAny_newObj_type (ae ⟨_,rfl,ae h⟩) hz))
end
section
variable{X:Cx}{pos p2 p3:Pos}{a b:Expr}{f g:ME}{j:Nat}
noncomputable def zM2(K:Fg)(ta:TE):TE:=fun σ H Q=>ta σ H fun x H1=>(∃p xs,x=.ref p/\SqL K H1 p xs/\∀q,H1 q=none->Q (.ref q) (upd H1 q (.lst xs.reverse)))\/(∃p xs,x=.ref p/\SqT K H1 p xs/\∀q,H1 q=none->Q (.ref q) (upd H1 q (.tup xs.reverse)))
theorem zCN{ta:TE}(he:PE X a ta):PE X (.Subscript a (.Slice none none (some (.UnaryOp .USub (.Constant (.int 1) j p3) pos)) p2) pn) (zM2 X.K ta):=by
 intro pins s σ H Q I h
 refine Subscript_ (thn (he pins s σ H _ I h) fun v s1 ⟨x,H1,I1,r1,q1⟩=>?_)
 refine wpAny_Slice ?_
 rw[evalPart_none]
 refine ae (ae ?_);rw[evalPart_some]
 have hst:PE X (.UnaryOp .USub (.Constant (.int 1) j p3) pos) (tUn (rU fun i=>.int (-i)) (tC (.int 1))):=zI3 zBD nE
 refine thn (hst pins s1 σ H1 (fun w H'=>w=.int (-1)/\H'=H1) I1 ⟨1,rfl,rfl,rfl⟩) fun u s2 ⟨y,H2,I2,r2,q2,eH⟩=>?_
 subst eH q2
 obtain⟨t,rfl⟩:=r2
 have I4:Inv X pins σ H2 { s2 with heap:=s2.heap.push { cls:=.type "slice",data:=.fields #[.none,.none,.int (-1) t] } }:=I2.kept (t':=s2.toks) fun b ob q=>ad _ q
 have hsl:({ s2 with heap:=s2.heap.push { cls:=.type "slice",data:=.fields #[.none,.none,.int (-1) t] } }:Shared).heap.IsSliceOf s2.heap.objs.size .none .none (.int (-1) t):=Heap.IsSliceOf.new ..
 rcases q1 with⟨p,xs,rfl,hx,q⟩|⟨p,xs,rfl,hx,q⟩
 ·cases r1
  obtain⟨its,r,pl,hz⟩:=I4.list hx
  have hlen:=r.length
  refine tail_any (ops:=[.ref p,.ref s2.heap.objs.size]) pl.isList.typeIs slot_list_getitem.lookup (wpAny_getItem_list_slice pl.isList hsl .none .none (.int (-1) t) (by simp) ?_ (by simp only[ag];omega)) (by with_unfolding_all rfl)
  rw[PySem.W.krv_pick]
  exact⟨.ref _,_,I4.lnew (t':=s2.toks) r.reverse (by rw[List.length_reverse];exact hz),rfl,q _ I4.fresh⟩
 ·cases r1
  obtain⟨its,r,pl,hz⟩:=I4.tuple hx
  have hlen:=r.length
  refine tail_any (ops:=[.ref p,.ref s2.heap.objs.size]) pl.typeIs PyProof.Rows.slot_tuple_getitem.lookup (zB3 pl hsl (by simp only[ag];omega) ?_) (by with_unfolding_all rfl)
  refine⟨.ref _,_,I4.laid (t':=s2.toks) (o:=.tup xs.reverse) (fun b ob q=>ad _ q) (al _) ?_,rfl,q _ (I4.hok.fresh (al _))⟩
  exact⟨by rw[List.length_reverse];exact hz,_,r.reverse,IsTup.new _ _⟩
noncomputable def zFM:D->Option D
 |.lst l=>some (.lst l.reverse)
 |.tup l=>some (.tup l.reverse)
 |_=>none
theorem zEQ(ha:DE X a f):DE X (.Subscript a (.Slice none none (some (.UnaryOp .USub (.Constant (.int 1) j p3) pos)) p2) pn) (mUn zFM f):=by
 refine PE.conseq (zCN ha) fun σ H Q hq=>?_
 obtain⟨O0,r,d,hR,e,q⟩:=hq
 obtain⟨x,e1,e2⟩:=bind_some e
 refine⟨O0,r,x,hR,e1,fun v H1 s1 i1=>?_⟩
 have R1:=hR.same s1
 cases x<;>first|(simp only[zFM,reduceCtorEq] at e2;done)|skip
 ·simp only[zFM,Option.some.injEq] at e2
  subst e2
  rw[Is.tup_iff] at i1
  obtain⟨p,xs,rfl,hs,il⟩:=i1
  refine .inr ⟨p,xs,rfl,hs,fun t ht=>q _ _ (s1.trans (zT ht)) ?_⟩
  rw[Is.tup_iff]
  exact⟨t,_,rfl,SqT.of zK,il.reverse.same (zT ht) R1.ol⟩
 ·simp only[zFM,Option.some.injEq] at e2
  subst e2
  rw[Is.lst_iff] at i1
  obtain⟨p,xs,rfl,hs,il⟩:=i1
  refine .inl ⟨p,xs,rfl,hs.sq,fun t ht=>q _ _ (s1.trans (zT ht)) ?_⟩
  rw[Is.lst_iff]
  exact⟨t,_,rfl,.inl ⟨R1.nofresh ht,.inl zK⟩,il.reverse.same (zT ht) R1.ol⟩
noncomputable def tO:List D->Option (List (List Nat))
 |[]=>some []
 |.str s::r=>(tO r).map (s::·)
 |_=>none
noncomputable def XS(sep:List Nat):List (List Nat)->List Nat
 |[]=>[]
 |[s]=>s
 |s::r=>s++sep++XS sep r
theorem oP{K:Fg}{O:Addr->Prop}{H:Hp}:∀{l:List D} {ss:List (List Nat)} {vs:List V},tO l=some ss->IsL K O H l vs->vs=ss.map fun s=>V.str ⟨s.toArray⟩
 |[],ss,vs,e,il=>by cases e;unfold IsL at il;subst il;rfl
 |d::l,ss,vs,e,il=>by
  unfold IsL at il
  obtain⟨v,r,rfl,i1,i2⟩:=il
  cases d<;>first|(simp only[tO,reduceCtorEq] at e;done)|skip
  simp only[tO] at e
  obtain⟨ms,e1,rfl⟩:=map_some e
  rw[Is.str_iff] at i1
  rw[i1,oP e1 i2];rfl
theorem bO:∀{ss:List (List Nat)} {us:List Value},Vals (ss.map fun s=>V.str ⟨s.toArray⟩) us->StrsAre us (ss.map fun s=>(⟨s.toArray⟩:Str))
 |[],us,r=>by rw[List.map_nil] at r;cases r;exact .nil
 |s::ss,us,r=>by
  rw[ao] at r
  cases r with
  |cons r1 r2=>
   obtain⟨t,e⟩:=r1
   subst e
   exact .cons _ t (bO r2)
theorem XR(sep:List Nat):∀ss:List (List Nat),Str.join (⟨sep.toArray⟩:Str) (ss.map fun s=>(⟨s.toArray⟩:Str))=⟨(XS sep ss).toArray⟩
 |[]=>rfl
 |[s]=>rfl
 |s::t::r=>by
  have ih:=XR sep (t::r)
  show(⟨s.toArray⟩:Str)++⟨sep.toArray⟩++Str.join _ ((t::r).map fun s=>(⟨s.toArray⟩:Str))=_
  rw[ih,oQ,oQ]
  rfl
noncomputable def zKL(K:Fg):V->List V->Hp->VK->Prop:=fun x vs H Q=>∃sep p ss,x=.str ⟨sep.toArray⟩/\vs=[.ref p]/\SqL K H p (ss.map fun s=>V.str ⟨s.toArray⟩)/\(ss.map List.length).sum+ss.length*sep.length<=16777216/\Q (.str ⟨(XS sep ss).toArray⟩) H
theorem zC6:MtR X "str.join" (zKL X.K):=by
 intro pins s σ H x vs v us Q I rx rv hq
 obtain⟨sep,p,ss,rfl,rfl,hs,hl,q⟩:=hq
 obtain⟨t,rfl⟩:=rx
 obtain⟨u,rfl,ru⟩:=Vals.one rv
 cases ru
 obtain⟨its,r,pl,hz⟩:=I.list hs
 refine join_list pl.isList (ys:=ss.map fun s=>(⟨s.toArray⟩:Str)) (by simpa using bO r) ?_ fun t' k=>⟨.str _,H,I.tok k,⟨t',rfl⟩,?_⟩
 ·have e:(ss.map fun s=>(⟨s.toArray⟩:Str)).map (·.length)=ss.map List.length:=by rw[List.map_map];exact List.map_congr_left fun s _=>jD s
  rw[e,ay,jD];exact hl
 ·show Q (.str (Txt.join _ _)) H
  unfold Txt.join
  rw[glued_eq_join,XR];exact q
noncomputable def zFU(f:ME)(fl:ML):ME:=fun r=>(f r).bind fun d=>match d with
 |.str sep=>(fl r).bind fun l=>(tO l).bind fun ss=>if (ss.map List.length).sum+ss.length*sep.length<=16777216 then some (.str (XS sep ss)) else none
 |_=>none
theorem zEU{fl:ML}{apos cpos:Pos}(ho:DE X a f)(ha:DB X b fl)(hbase:attributeBase a "join" X.env (eval a X.env)=eval a X.env:=by rfl)(hline:(apos.endLine == cpos.line)=true:=by rfl)(hfew:((backTo cpos (starEach [b] X.env)).all (fun x=>!x.1) && (backToKw cpos (keywordEach [] X.env)).all (fun x=>x.1.isSome) && decide ([b].length+([]:List Keyword).length+(if ([]:List Keyword).isEmpty then 0 else 1)<30))=true:=by rfl)(hs:starEach [b] X.env=(false,eval b X.env)::starEach [] X.env:=by rfl):DE X (.Call (.Attribute a "join" apos) [b] [] cpos) (zFU f fl):=by
 refine PE.conseq (ZH PySem.F.plainAttrs_str PySem.F.slot_str_join PySem.F.type_str_join zC6 ho (zX ha y0 hs) hbase hfew hline hs) fun σ H Q hq=>?_
 obtain⟨O0,r,d,hR,e,q⟩:=hq
 obtain⟨x,e1,e2⟩:=bind_some e
 refine⟨O0,r,x,hR,e1,fun v H1 s1 i1=>?_⟩
 cases x<;>first|(simp only[reduceCtorEq] at e2;done)|skip
 simp only at e2
 obtain⟨l,e3,e4⟩:=bind_some e2
 obtain⟨ss,e5,e6⟩:=bind_some e4
 rw[Is.str_iff] at i1
 subst i1
 split at e6
 ·rename_i hl
  cases e6
  refine⟨rfl,O0,r,l,hR.same s1,e3,fun p xs H2 s2 sq il=>?_⟩
  have ex:=oP e5 il
  subst ex
  exact⟨_,p,ss,rfl,rfl,sq,hl,q _ H2 (s1.trans s2) (by rw[Is.str_iff])⟩
 ·cases e6
end
open PySem PySem.Spec PyProof.Rows L2 PySem.StrLaws PySem.Builtin.Str
section
variable{X:Cx}{a b:Expr}{f g:ME}{p pos:Pos}{elts:List Expr}{k:Nat}{tp:Pos}
noncomputable def z2(F:V->V->Hp->Prop):List V->Hp->Prop
 |[x,y],H=>F x y H
 |_,_=>False
theorem zAX{F:V->V->Hp->Prop}:∀{vs:List V} {H:Hp},z2 F vs H->∃x y,vs=[x,y]/\F x y H
 |[x,y],_,h=>⟨x,y,rfl,h⟩
 |[],_,h=>h.elim
 |[_],_,h=>h.elim
 |_::_::_::_,_,h=>h.elim
noncomputable def z1(F:V->Hp->Prop):List V->Hp->Prop
 |[x],H=>F x H
 |_,_=>False
theorem tE{F:V->Hp->Prop}:∀{vs:List V} {H:Hp},z1 F vs H->∃x,vs=[x]/\F x H
 |[x],_,h=>⟨x,rfl,h⟩
 |[],_,h=>h.elim
 |_::_::_,_,h=>h.elim
theorem adn(n:Nat){i j:Nat}(h:i≠j):@Ne Addr (n+i:Nat) (n+j:Nat):=fun e=>h (Nat.add_left_cancel (show n+i=n+j from e))
theorem zJW(n:Nat){j:Nat}(h:0≠j):@Ne Addr (n:Nat) (n+j:Nat):=fun e=>h (Nat.add_left_cancel (show n+0=n+j from e))
theorem za5(n:Nat):ZA (n+4) (n+2) (n+3) n (n+1):=⟨adn n (by decide),adn n (by decide),zJW n (by decide),adn n (by decide),adn n (by decide),(zJW n (by decide)).symm,adn n (by decide),(zJW n (by decide)).symm,adn n (by decide),zJW n (by decide)⟩
noncomputable def mS(l m:List D):List D:=List.zipWith (fun x y=>.tup [x,y]) l m
theorem dR{l m:List D}{i:Nat}{d:D}(h:(mS l m)[i]?=some d):∃x y,l[i]?=some x/\m[i]?=some y/\d=.tup [x,y]:=by
 unfold mS at h
 rw[List.getElem?_zipWith] at h
 cases e1:l[i]? with
 |none=>rw[e1] at h;cases h
 |some x=>
  cases e2:m[i]? with
  |none=>rw[e1,e2] at h;cases h
  |some y=>rw[e1,e2] at h;cases h;exact⟨x,y,rfl,rfl,rfl⟩
theorem zAZ{K:Fg}{O M:Addr->Prop}{sq:Hp->Addr->List V->Prop}(mo:∀a,M a->O a){H:Hp}{u v:Addr}{xs ys:List V}{l m:List D}(ol:qR O H)(kx:∀H1,vK M H H1->sq H1 u xs)(ky:∀H1,vK M H H1->sq H1 v ys)(il:IsL K O H l xs)(im:IsL K O H m ys):zFF K O M H (ItZ sq u v) (mS l m):=by
 intro i H1 O' kp oo
 have kp':vK O H H1:=fun b o e n=>kp b o e fun z=>n (mo b z)
 have hlen:(mS l m).length=min l.length m.length:=by simp[mS]
 refine⟨fun hi=>⟨?_,fun x H' y=>?_⟩,fun hi=>⟨xs,ys,kx H1 kp,ky H1 kp,?_⟩⟩
 ·obtain⟨d,e⟩:=qD hi
  obtain⟨dx,dy,e1,e2,_⟩:=dR e
  obtain⟨vx,q1,_⟩:=il.get e1
  obtain⟨vy,q2,_⟩:=im.get e2
  exact⟨xs,ys,vx,vy,kx H1 kp,ky H1 kp,q1,q2⟩
 ·obtain⟨T,p,q,rfl,nT,rfl,h1,h2⟩:=y
  refine⟨zT nT,fun d e=>?_⟩
  obtain⟨dx,dy,e1,e2,rfl⟩:=dR e
  obtain⟨vx,q1,i1⟩:=il.get e1
  obtain⟨vy,q2,i2⟩:=im.get e2
  have p1:=h1 xs (kx H1 kp)
  have p2:=h2 ys (ky H1 kp)
  rw[q1] at p1;rw[q2] at p2
  cases p1;cases p2
  have kk:vK O H (upd H1 T (.tup [p,q])):=fun b o e' n=>by
   have:=kp' b o e' n
   rw[zI (y4 this nT)];exact this
  rw[Is.tup_iff]
  exact⟨T,_,rfl,SqT.of zK,.cons (Is.mono kk ol oo _ _ i1) (.cons (Is.mono kk ol oo _ _ i2) .nil)⟩
 ·have e1:=il.length
  have e2:=im.length
  rw[hlen] at hi
  omega
theorem zDR{K:Fg}{O M:Addr->Prop}(mo:∀a,M a->O a){H:Hp}{a:Addr}{xs:List V}(h:LsAt K O H a xs):∀H1,vK M H H1->SqL K H1 a xs:=fun H1 k=>h.imp (fun z=>Rd.keep k (fun y=>z.1 (mo _ y)) z.2) id
theorem zFW{K:Fg}{O M:Addr->Prop}(mo:∀a,M a->O a){H:Hp}{a:Addr}{xs:List V}(ol:qR O H)(h:SqT K H a xs):∀H1,vK M H H1->SqT K H1 a xs:=fun H1 k=>SqT.keep (fun b o e n=>k b o e fun z=>n (mo b z)) ol h
theorem zCJ{ta:TE}(hg:Gl X "enumerate")(hm:X.mg "enumerate" = none)(ha:PE X a ta)(hs:starEach [a] X.env=[(false,eval a X.env)]:=by rfl):PI X (.Tuple elts k tp) (.Call (.Name "enumerate" p) [a] [] pos) (fun σ H R=>ta σ H fun x H1=>∃u,x=.ref u/\(∃xs,SqL X.K H1 u xs)/\R (ItE X.K u) H1):=by
 intro pins s σ H R I h
 have hA:PA X [a] (cR ta zAP):=zX ha y0 (by rw[hs];rfl)
 refine Call_ (jN I hg hm PyProof.Rows.boot_enumerate (PyProof.Rows.callWith_type1 (thn (hA pos pins s σ H (z1 fun x H1=>∃u,x=.ref u/\(∃xs,SqL X.K H1 u xs)/\R (ItE X.K u) H1) I h) fun us s1 ⟨vs,H1,I1,r1,q1⟩=>?_) hs rfl))
 obtain⟨_,rfl,u,rfl,⟨xs,hx⟩,q⟩:=tE q1
 obtain⟨uu,rfl,ru⟩:=Vals.one r1
 cases ru
 obtain⟨its,_,pl,_⟩:=I1.list hx
 refine call_enumerate_list pl.isList fun h' z1 z2 _ kp=>wpAny_pyIter_enum z1 ?_
 refine⟨_,[s1.heap.objs.size+1,s1.heap.objs.size],_,_,H1,rfl,I1.kept (t':=s1.toks) kp,tM u _ _ (zJW _ (by decide)).symm,⟨⟨_,z1⟩,z2⟩,fun b hb=>?_,q⟩
 have hle:s1.heap.objs.size<=b:=by
  simp only[List.not_mem_nil,List.mem_cons,or_false] at hb
  rcases hb with h|h
  ·rw[h];exact Nat.le_add_right _ _
  ·rw[h];exact al _
 exact I1.fpOk hle (I1.hok.fresh hle)
noncomputable def YG(l:List D):List D:=l.zipIdx.map fun p=>.tup [.int (p.2:Nat),p.1]
noncomputable def ZV(f:ME):ML:=fun r=>(f r).bind fun d=>match d with
 |.lst l=>some (YG l)
 |_=>none
theorem rD{l:List D}{i:Nat}{d:D}(h:(YG l)[i]?=some d):∃x,l[i]?=some x/\d=.tup [.int i,x]:=by
 unfold YG at h
 rw[ba,List.getElem?_zipIdx] at h
 cases e1:l[i]? with
 |none=>rw[e1] at h;cases h
 |some x=>rw[e1] at h;simp at h;exact⟨x,rfl,h.symm⟩
theorem X7(hg:Gl X "enumerate")(hm:X.mg "enumerate" = none)(ha:DE X a f)(hs:starEach [a] X.env=[(false,eval a X.env)]:=by rfl):DI X (.Tuple elts k tp) (.Call (.Name "enumerate" p) [a] [] pos) (ZV f):=by
 refine PI.conseq (zCJ hg hm ha hs) fun σ H Rr hq=>?_
 obtain⟨O0,r,ds,hR,e,q⟩:=hq
 obtain⟨x,e1,e⟩:=bind_some e
 refine⟨O0,r,x,hR,e1,fun v1 H1 s1 i1=>?_⟩
 have R1:=hR.same s1
 cases x<;>first|(simp only[reduceCtorEq] at e;done)|skip
 rename_i l
 simp only[Option.some.injEq] at e
 subst e
 rw[Is.lst_iff] at i1
 obtain⟨u,xs,rfl,hx,il⟩:=i1
 refine⟨u,rfl,⟨xs,hx.sq⟩,q _ H1 s1 ?_⟩
 intro i H2 O' kp oo
 have kp':vK (Ow O0 r σ) H1 H2:=fun b o e n=>kp b o e fun z=>n (.inr z.own)
 have sq2:=zDR (M:=MutAt r σ) (fun a z=>.inr z.own) hx H2 kp
 have hlen:(YG l).length=l.length:=by simp[YG]
 refine⟨fun hi=>⟨?_,fun y H' yy=>?_⟩,fun hi=>⟨xs,sq2,by rw[<-il.length,<-hlen];exact hi.symm⟩⟩
 ·obtain⟨d,ed⟩:=qD hi
  obtain⟨dx,ex,_⟩:=rD ed
  obtain⟨vx,q1,_⟩:=il.get ex
  exact⟨xs,vx,sq2,q1⟩
 ·obtain⟨T,w,rfl,nT,rfl,h1⟩:=yy
  refine⟨zT nT,fun d ed=>?_⟩
  obtain⟨dx,ex,rfl⟩:=rD ed
  obtain⟨vx,q1,i1⟩:=il.get ex
  have p1:=h1 xs sq2
  rw[q1] at p1
  cases p1
  have kk:vK (Ow O0 r σ) H1 (upd H2 T (.tup [.int i,w])):=fun b o e' n=>by
   have:=kp' b o e' n
   rw[zI (y4 this nT)];exact this
  rw[Is.tup_iff]
  exact⟨T,_,rfl,SqT.of zK,.cons (by rw[Is.int_iff]) (.cons (Is.mono kk R1.ol oo _ _ i1) .nil)⟩
end
noncomputable def frZ(i:Nat)(r:En):Option En:=match r[i]? with
 |some (.o l)=>some (r.set i (.z l))
 |_=>none
noncomputable def unZ(i:Nat)(r:En):Option En:=match r[i]? with
 |some (.z l)=>some (r.set i (.o l))
 |_=>none
noncomputable def unF(i:Nat):Fl->Option Fl
 |.nx r=>(unZ i r).map .nx
 |.bk r=>(unZ i r).map .bk
 |.ct r=>(unZ i r).map .ct
 |.rt d r=>(unZ i r).map (.rt d)
 |.rf _ _=>none
 |.rg _ _ _=>none
noncomputable def sZ(i:Nat)(g:MS):MS:=fun r=>(frZ i r).bind fun r1=>(g r1).bind (unF i)
theorem R.swap{K:Fg}{O0:Addr->Prop}{H:Hp}{r:En}{σ:St}{i:Nat}{l:List D}{y:Sl}(h:R K O0 H r σ)(hy:(r[i]?=some (.o l)/\y=.z l)\/(r[i]?=some (.z l)/\y=.o l)):R K O0 H (r.set i y) σ/\∀b,wK (r.set i y) σ b↔wK r σ b:=by
 have eo:(r[i]?).bind Sl.own=some l:=by rcases hy with⟨e,_⟩|⟨e,_⟩<;>rw[e]<;>rfl
 have yo:y.own=some l:=by rcases hy with⟨_,e⟩|⟨_,e⟩<;>rw[e]<;>rfl
 have hi:i<r.length:=by
  rcases hy with⟨e,_⟩|⟨e,_⟩<;>exact(ak.mp e).1
 have own:∀j,((r.set i y)[j]?).bind Sl.own=(r[j]?).bind Sl.own:=fun j=>by
  by_cases hj:i=j
  ·subst hj;rw[zG hi,eo];exact yo
  ·rw[zC hj]
 have lss:∀j,((r.set i y)[j]?).bind Sl.ls=(r[j]?).bind Sl.ls:=fun j=>by
  by_cases hj:i=j
  ·subst hj;rw[zG hi];rcases hy with⟨e,e2⟩|⟨e,e2⟩<;>rw[e,e2]<;>rfl
  ·rw[zC hj]
 have at_:∀b,wK (r.set i y) σ b↔wK r σ b:=fun b=>⟨fun⟨j,m,e,q⟩=>⟨j,m,by rw[<-own j];exact e,q⟩,fun⟨j,m,e,q⟩=>⟨j,m,by rw[own j];exact e,q⟩⟩
 have ow:∀b,Ow O0 (r.set i y) σ b->H b≠none->Ow O0 r σ b:=fun b z _=>z.imp id (at_ b).mp
 refine⟨⟨by simp[h.len],fun j d ej=>?_,fun j m ej=>?_,fun j k b m n e4 e5=>?_,h.o0,fun j m b ej q=>?_,fun j m b ej q=>?_,fun j ks m ej=>?_⟩,at_⟩
 ·have hj:i≠j:=fun z=>by subst z;rw[zG hi] at ej;cases ej;cases yo
  rw[zC hj] at ej
  obtain⟨v,q1,q2⟩:=h.val j d ej
  exact⟨v,q1,Is.mono (Same.kp (Same.refl H) _) h.ol ow _ _ q2⟩
 ·rw[lss j] at ej
  obtain⟨b,ys,q1,q2,q3⟩:=h.own j m ej
  exact⟨b,ys,q1,q2,IsL.mono (Same.kp (Same.refl H) _) h.ol ow _ _ q3⟩
 ·rw[own j] at e4
  rw[own k] at e5
  exact h.apart j k b m n e4 e5
 ·by_cases hj:i=j
  ·subst hj
   rcases hy with⟨e,_⟩|⟨e,_⟩
   ·exact h.loc i l b (.inl e) q
   ·exact h.loc i l b (.inr (.inl e)) q
  ·rw[zC hj] at ej
   exact h.loc j m b ej q
 ·by_cases hj:i=j
  ·subst hj
   rw[zG hi] at ej
   rcases hy with⟨_,e⟩|⟨_,e⟩<;>rw[e] at ej<;>cases ej
  ·rw[zC hj] at ej
   exact h.par j m b ej q
 ·have hj:i≠j:=fun z=>by
   subst z
   rw[zG hi] at ej
   rcases hy with⟨_,e⟩|⟨_,e⟩<;>rw[e] at ej<;>cases ej
  rw[zC hj] at ej
  obtain⟨b,kvs,q1,q2,q4,q3⟩:=h.dct j ks m ej
  exact⟨b,kvs,q1,q2,q4,IsL.mono (Same.kp (Same.refl H) _) h.ol ow _ _ q3⟩
theorem p9{i:Nat}{r r1:En}(e:frZ i r=some r1):∃l,r[i]?=some (.o l)/\r1=r.set i (.z l):=by
 unfold frZ at e
 split at e
 ·rename_i l h;cases e;exact⟨l,h,rfl⟩
 ·cases e
theorem WY{i:Nat}{r r1:En}(e:unZ i r=some r1):∃l,r[i]?=some (.z l)/\r1=r.set i (.o l):=by
 unfold unZ at e
 split at e
 ·rename_i l h;cases e;exact⟨l,h,rfl⟩
 ·cases e
theorem Kp.froze{K:Fg}{O0:Addr->Prop}{H H':Hp}{r r1 r2 r3:En}{σ σ2:St}{i:Nat}(hR:R K O0 H r σ)(e:frZ i r=some r1)(k:Kp H r1 σ H' r2 σ2)(R2:R K O0 H' r2 σ2)(e':unZ i r2=some r3):R K O0 H' r3 σ2/\Kp H r σ H' r3 σ2:=by
 obtain⟨l,el,rfl⟩:=p9 e
 obtain⟨l2,el2,rfl⟩:=WY e'
 have hi:i<r.length:=(ak.mp el).1
 have hi2:i<r2.length:=(ak.mp el2).1
 obtain⟨R1,at1⟩:=hR.swap (y:=.z l) (.inl ⟨el,rfl⟩)
 obtain⟨R3,at3⟩:=R2.swap (y:=.o l2) (.inr ⟨el2,rfl⟩)
 obtain⟨q1,q2⟩:=k.fz i l (zG hi)
 have m1:∀b,MutAt (r.set i (.z l)) σ b->MutAt r σ b:=fun b ⟨j,m,ej,qj⟩=>by
  have hj:i≠j:=fun z=>by subst z;rw[zG hi] at ej;cases ej
  rw[zC hj] at ej;exact⟨j,m,ej,qj⟩
 refine⟨R3,⟨fun b o eb n=>k.keep b o eb fun z=>n (m1 b z),k.live,k.lst,fun b z=>(k.new b ((at3 b).mp z)).imp (at1 b).mp id,fun b z=>?_,fun j m ej=>?_,fun j m ej=>?_⟩⟩
 ·obtain⟨j,m,ej,qj⟩:=z
  by_cases hj:i=j
  ·subst hj
   exact .inl ⟨i,l,by rw[el];rfl,by rw[<-q2];exact qj⟩
  ·rw[zC hj] at ej
   exact(k.mnew b ⟨j,m,ej,qj⟩).imp (m1 b) id
 ·have hj:i≠j:=fun z=>by subst z;rw[el] at ej;cases ej
  obtain⟨⟨m',e1⟩,e2⟩:=k.par j m (by rw[zC hj];exact ej)
  exact⟨⟨m',by rw[zC hj];exact e1⟩,e2⟩
 ·have hj:i≠j:=fun z=>by subst z;rw[el] at ej;cases ej
  obtain⟨e1,e2⟩:=k.fz j m (by rw[zC hj];exact ej)
  exact⟨by rw[zC hj];exact e1,e2⟩
theorem zNL(i:Nat){X:Cx}{st:Stmt}{g:MS}(h:DS X st g):DS X st (sZ i g):=by
 refine PS.conseq h fun Dn σ H hq=>?_
 obtain⟨O0,r,fl,hR,e,q⟩:=hq
 obtain⟨r1,e1,e2⟩:=bind_some e
 obtain⟨f1,e3,e4⟩:=bind_some e2
 have R1:R X.K O0 H r1 σ:=by
  obtain⟨l,el,rfl⟩:=p9 e1
  exact(hR.swap (y:=.z l) (.inl ⟨el,rfl⟩)).1
 refine⟨O0,r1,f1,R1,e3,?_⟩
 cases f1 with
 |nx r2=>
  obtain⟨r3,e5,rfl⟩:=map_some e4
  exact fun σ' H' R' k'=>let ⟨R3,k3⟩:=Kp.froze hR e1 k' R' e5;q σ' H' R3 k3
 |bk r2=>
  obtain⟨r3,e5,rfl⟩:=map_some e4
  exact fun σ' H' R' k'=>let ⟨R3,k3⟩:=Kp.froze hR e1 k' R' e5;q σ' H' R3 k3
 |ct r2=>
  obtain⟨r3,e5,rfl⟩:=map_some e4
  exact fun σ' H' R' k'=>let ⟨R3,k3⟩:=Kp.froze hR e1 k' R' e5;q σ' H' R3 k3
 |rt d r2=>
  obtain⟨r3,e5,rfl⟩:=map_some e4
  exact fun v σ' H' R' k' iv=>let ⟨R3,k3⟩:=Kp.froze hR e1 k' R' e5;q v σ' H' R3 k3 iv
 |rf l r2=>cases e4
 |rg ks l r2=>cases e4
section
variable{X:Cx}{a b:Expr}{f g:ME}{p pos:Pos}{elts:List Expr}{k:Nat}{tp:Pos}
noncomputable def lK(K:Fg)(f:ML):TE:=fun σ H Q=>∃O0 r l,R K O0 H r σ/\f r=some l/\∀u xs H',Same H H'->(∀H1,vK (MutAt r σ) H' H1->SqL K H1 u xs)->IsL K (Ow O0 r σ) H' l xs->Q (.ref u) H'
noncomputable def DK(X:Cx)(e:Expr)(f:ML):Prop:=PE X e (lK X.K f)
noncomputable def mZs(i:Nat):ML:=fun r=>match r[i]? with
 |some (.z l)=>some l
 |_=>none
theorem zNM(i:Nat){x:Str}(h:PE X (.Name x pos) (j3 i)):DK X (.Name x pos) (mZs i):=by
 refine PE.conseq h fun σ H Q hq=>?_
 obtain⟨O0,r,l,hR,e,q⟩:=hq
 have e':r[i]?=some (.z l):=by
  unfold mZs at e
  split at e
  ·rename_i l' h;cases e;exact h
  ·cases e
 obtain⟨u,xs,e1,e2,e3⟩:=hR.own i l (by rw[e'];rfl)
 refine⟨.ref u,e1,q u xs H (Same.refl H) (fun H1 k1=>SqL.of (k1 _ _ e2 fun⟨j,m,ej,qj⟩=>?_)) e3⟩
 obtain⟨y,ey,ym⟩:=bind_some ej
 have:=hR.apart i j u l m (by rw[e'];rfl) (by rw[ey];exact kP ym) e1 qj
 subst this
 rw[e'] at ey;cases ey;cases ym
theorem noF{H:Hp}:qR (fun _=>False) H:=fun _ z=>z.elim
end
section
variable{w:World}{prog:Program}{E:Value->Shared->Prop}{A:Around}
theorem zJK{it l:Addr}{ys:Array Value}(hne:l≠it):∀(n i:Nat) (s:Shared) (Q:List Value->Shared->Prop),s.heap.IsListIter it l i->s.heap.IsList l ys->i+n<=ys.size ->
  (∀g,g.IsListIter it l (i+n)->Heap.SameBut it s.heap g->Q ((ys.toList.drop i).take n) { s with heap:=g })->wpAny (model prog w) A (draw (.ref it) n) Q E s
 |0,i,s,Q,h1,_,_,h=>by
  show wpAny _ _ (pure []) Q E s;exact ae (by simpa using h s.heap h1 (Heap.SameBut.refl ..))
 |n+1,i,s,Q,h1,h2,h3,h=>by
  have hl:i<ys.size:=by omega
  show wpAny _ _ (pyNext (.ref it) >>= _) Q E s;refine aa (wpAny_pyNext_list_item h1 h2 (x:=ys[i]) (by simp[hl]) fun g1 k1 t1=>?_)
  refine aa (wpAny_holding (zJK hne n (i+1) _ _ k1 (h2.extBut t1.extBut hne) (by omega) fun g2 k2 t2=>ae (?_)))
  have hd:ys.toList.drop i=ys[i]::ys.toList.drop (i+1):=by simp[List.drop_eq_getElem_cons,hl]
  have:=h g2 (by rw[show i+(n+1)=i+1+n by omega];exact k2) (t1.trans t2)
  rw[hd,List.take_succ_cons] at this;exact this
theorem zBC{l:Addr}{ys:Array Value}{s:Shared}{Q:List Value->Shared->Prop}(hh:A.handled=none)(h2:s.heap.IsList l ys)(h:∀g,Heap.ExtBut s.heap.objs.size s.heap g->Q ys.toList { s with heap:=g }):wpAny (model prog w) A (unpackItems (.ref l) ys.size none) Q E s:=by
 have hlt:l≠s.heap.objs.size:=by obtain⟨o,e,_⟩:=h2;exact ar (af e)
 unfold unpackItems;refine aa (?_);unfold notIterableAtAll
 refine aa (wpAny_specialOf h2.typeIs F.slot_list_iter.lookup (ae (?_)));simp only[Bool.false_eq_true,if_false];refine aa (wpAny_holding (wpAny_pyIter_list h2 (?_)))
 refine aa (wpAny_holding (zJK hlt ys.size 0 _ _ ⟨_,ah _ rfl,rfl,rfl⟩ (h2.push _) (by omega) fun g1 k1 t1=>?_))
 have ha:List.take ys.size (List.drop 0 ys.toList)=ys.toList:=by rw[List.drop_zero];exact List.take_of_length_le (by simp)
 rw[ha,if_neg (by simp)]
 refine aa (wpAny_holding (wpAny_pyNext_list_end hh k1 ((h2.push _).extBut t1.extBut hlt) (by simp) fun g2 t2=>?_));simp only[Option.isSome_none,Bool.false_eq_true,if_false]
 exact ae (h g2 fun b o hb e=>t2 b o hb (t1.extBut b o hb (ad _ e)))
end
section
variable{X:Cx}{pos:Pos}{es:List Expr}{k n:Nat}
theorem zGX{t:TGs}(hc:X.calm=true)(h:PGs X es t)(hn:(assignEach es X.env).length=n:=by rfl)(hst:(assignEach es X.env).findIdx? (·.1)=none:=by rfl):PG X (.Tuple es k pos) (fun v σ H Q=>∃a xs,v=.ref a/\(SqT X.K H a xs\/SqL X.K H a xs)/\xs.length=n/\t xs σ H Q):=by
 intro pins s σ H v u Q I r hw
 obtain⟨a,xs,e1,hq,hl,hw⟩:=hw
 subst e1
 cases r
 rcases hq with hq|hq
 ·exact zGW hc h hn hst pins s σ H (.ref a) (.ref a) Q I rfl ⟨a,xs,rfl,hq,hl,hw⟩
 ·obtain⟨its,rv,pl,hz⟩:=I.list hq
  rw[assign_Tuple]
  refine aa (wpAny_standAt ?_)
  unfold unpack
  rw[hst]
  have hsz:(assignEach es X.env).length=its.toArray.size:=by rw[hn,ag,<-rv.length];exact hl.symm
  rw[hsz]
  refine aa (wpAny_holding (zBC (I.ok.hd hc) pl.isList fun g hx=>?_))
  have I1:Inv X pins σ H { s with heap:=g }:=I.kept (t':=s.toks) fun b o e=>hx b o (ar (af e)) e
  exact h pins _ σ H xs _ Q I1 (by simpa using rv) hw
noncomputable def qZ(n:Nat)(bs:List D->En->Option En):D->En->Option En:=fun d r=>match d with
 |.tup l=>if l.length=n then bs l r else none
 |.lst l=>if l.length=n then bs l r else none
 |_=>none
theorem nY{bs:List D->En->Option En}(hc:X.calm=true)(h:DGs X es bs)(hn:(assignEach es X.env).length=n:=by rfl)(hst:(assignEach es X.env).findIdx? (·.1)=none:=by rfl):DG X (.Tuple es k pos) (qZ n bs):=by
 refine PG.conseq (zGX hc h hn hst) fun v σ H Q h=>?_
 obtain⟨O0,r,d,r',hR,iv,e,q⟩:=h
 cases d<;>first|(simp only[qZ,reduceCtorEq] at e;done)|skip
 ·rename_i l
  rw[Is.tup_iff] at iv
  obtain⟨a,xs,rfl,hs,il⟩:=iv
  simp only[qZ] at e
  split at e
  ·rename_i hl
   exact⟨a,xs,rfl,.inl hs,by rw[<-il.length];exact hl,O0,r,l,r',hR,il,e,q⟩
  ·cases e
 ·rename_i l
  rw[Is.lst_iff] at iv
  obtain⟨a,xs,rfl,hs,il⟩:=iv
  simp only[qZ] at e
  split at e
  ·rename_i hl
   exact⟨a,xs,rfl,.inr hs.sq,by rw[<-il.length];exact hl,O0,r,l,r',hR,il,e,q⟩
  ·cases e
end
set_option maxRecDepth 9000 in
theorem zNJ(l:Addr)(xs:Array Value)(n:Nat)(b:Addr)(cl:Value)(dd:Option Addr)(ys:Array Value)(n2:Nat)(sl:Array (Option Value))(hcl:cl=.type "tuple")(h0:¬(!xs.isEmpty && Builtin.List.listTooLong (xs.size+ys.size))=true)(h1:xs.size<=sizeLine)(h2:xs.size+ys.size<=sizeLine+1):Meets (Builtin.«list.extend» ⟨[.ref l,.ref b],[]⟩) (fun _ R s=>s.heap.get? l=some { cls:=.type "list",dict:=none,data:=.seq xs n,slots:=#[] }/\s.heap.get? b=some { cls:=cl,dict:=dd,data:=.seq ys n2,slots:=sl }/\R (.ok (.ret Value.none)) { s with heap:=s.heap.update l (Obj.mapSeq fun x=>x++ys),toks:=s.toks }):=
 .of_wp fun prog w A R s h=>by
  subst hcl
  obtain⟨hp,g,d,tk,os⟩:=s;obtain⟨hl,hb,h⟩:=h;have f1:=AutoSeq1.idx_int;have f2:=AutoSeq1.sub_tuple_tuple;have f3:=AutoSeq1.sub_list_list;have f4:=AutoSeq1.sub_tuple_list;have f5:=AutoSeq1.sub_list_tuple
  have hz:(xs++ys).size<=sizeLine+1:=by rw[Array.size_append];exact h2
  wp_walk using (wpAny_updateSeq hl rfl (hz:=h1) (_hz':=hz)),wpAny_loadPart' hl,wpAny_loadPart' hb;exact⟨_,rfl,h⟩
set_option maxRecDepth 9000 in
theorem zNK(l:Addr)(xs:Array Value)(n:Nat)(b:Addr)(cl:Value)(dd:Option Addr)(ys:Array Value)(n2:Nat)(sl:Array (Option Value))(hcl:cl=.type "list")(h0:¬(!xs.isEmpty && Builtin.List.listTooLong (xs.size+ys.size))=true)(h1:xs.size<=sizeLine)(h2:xs.size+ys.size<=sizeLine+1):Meets (Builtin.«list.extend» ⟨[.ref l,.ref b],[]⟩) (fun _ R s=>s.heap.get? l=some { cls:=.type "list",dict:=none,data:=.seq xs n,slots:=#[] }/\s.heap.get? b=some { cls:=cl,dict:=dd,data:=.seq ys n2,slots:=sl }/\R (.ok (.ret Value.none)) { s with heap:=s.heap.update l (Obj.mapSeq fun x=>x++ys),toks:=s.toks }):=
 .of_wp fun prog w A R s h=>by
  subst hcl
  obtain⟨hp,g,d,tk,os⟩:=s;obtain⟨hl,hb,h⟩:=h;have f1:=AutoSeq1.idx_int;have f2:=AutoSeq1.sub_tuple_tuple;have f3:=AutoSeq1.sub_list_list;have f4:=AutoSeq1.sub_tuple_list;have f5:=AutoSeq1.sub_list_tuple
  have hz:(xs++ys).size<=sizeLine+1:=by rw[Array.size_append];exact h2
  wp_walk using (wpAny_updateSeq hl rfl (hz:=h1) (_hz':=hz)),wpAny_loadPart' hl,wpAny_loadPart' hb;exact⟨_,rfl,h⟩
section
variable{X:Cx}
noncomputable def zKM(K:Fg):V->List V->Hp->VK->Prop:=fun x vs H Q=>∃l b xs zs,x=.ref l/\vs=[.ref b]/\H l=some (.lst xs)/\(SqL K H b zs\/SqT K H b zs)/\xs.length+zs.length<=sizeLine/\Q .non (upd H l (.lst (xs++zs)))
theorem zC8:MtR X "list.extend" (zKM X.K):=by
 intro pins s σ H x vs v us Q I rx rv h
 obtain⟨l,b,xs,zs,rfl,rfl,hH,hB,hz,q⟩:=h
 cases rx
 obtain⟨u,rfl,ru⟩:=rv.one
 cases ru
 obtain⟨z,its,n,r,hl,e⟩:=I.lstM hH
 have fin:∀(its2:List Value),Vals zs its2->¬(!its.toArray.isEmpty && Builtin.List.listTooLong (its.toArray.size+its2.toArray.size))=true/\its.toArray.size<=sizeLine/\its.toArray.size+its2.toArray.size<=sizeLine+1 /\
   EP X pins σ Q Value.none { s with heap:=s.heap.update l (Obj.mapSeq fun x=>x++its2.toArray),toks:=s.toks }:=fun its2 r2=>by
  have hl2:=r2.length
  have hsz:its.toArray.size+its2.toArray.size<=sizeLine:=by rw[ag,ag];omega
  refine⟨by rw[Q2 hsz,Bool.and_false];exact am,by rw[ag];omega,by omega,.non,_,I.lset (its':=its++its2) hH e (by simp) (r.append r2) ?_,rfl,q⟩
  rw[List.length_append];omega
 rcases hB with hB|hB
 ·obtain⟨its2,r2,⟨⟨c2,d2,dt2,sl2⟩,n2,g2,hc,hd,hs⟩,z2⟩:=I.list hB
  simp only at hc hd hs
  subst hs
  obtain⟨f1,f2,f3,f4⟩:=fin its2 r2
  exact call_meets F.slot_list_extend ⟨_,e,rfl⟩ F.entry_list_extend (F.args_list_extend_2 _ _) (zNK l its.toArray n b _ _ its2.toArray n2 _ hc f1 f2 f3) ⟨e,g2,f4⟩
 ·obtain⟨its2,r2,⟨⟨c2,d2,dt2,sl2⟩,g2,hc,n2,hs⟩,z2⟩:=I.tuple hB
  simp only at hc hs
  subst hs
  obtain⟨f1,f2,f3,f4⟩:=fin its2 r2
  exact call_meets F.slot_list_extend ⟨_,e,rfl⟩ F.entry_list_extend (F.args_list_extend_2 _ _) (zNJ l its.toArray n b _ _ its2.toArray n2 _ hc f1 f2 f3) ⟨e,g2,f4⟩
variable{apos cpos pn:Pos}{e:Expr}{f:ME}
theorem hC(i:Nat){x:Str}(h:PE X (.Name x pn) (j3 i))(he:DE X e f)(hline:(apos.endLine == cpos.line)=true:=by rfl)(hbase:attributeBase (.Name x pn) "extend" X.env (eval (.Name x pn) X.env)=eval (.Name x pn) X.env:=by rfl)(hfew:((backTo cpos (starEach [e] X.env)).all (fun x=>!x.1) && (backToKw cpos (keywordEach [] X.env)).all (fun x=>x.1.isSome) && decide ([e].length+([]:List Keyword).length+(if ([]:List Keyword).isEmpty then 0 else 1)<30))=true:=by rfl)(hs:starEach [e] X.env=(false,eval e X.env)::starEach [] X.env:=by rfl):DX X (.Call (.Attribute (.Name x pn) "extend" apos) [e] [] cpos) (zHO i f):=by
 refine PE.conseq (ZH PySem.F.plainAttrs_list PySem.F.slot_list_extend PySem.F.type_list_extend zC8 h (zX he y0 hs) hbase hfew hline hs) fun σ H Q hq=>?_
 obtain⟨O0,r,d',r',hR,e,q⟩:=hq
 obtain⟨d,e1,e⟩:=bind_some e
 obtain⟨m,em,e⟩:=bind_some e
 obtain⟨l,e2,e⟩:=bind_some e
 split at e
 ·rename_i hl
  obtain⟨r2,e3,e4⟩:=map_some e
  cases e4
  obtain⟨a,xs,q1,q2,q3⟩:=ZT hR e2
  refine⟨.ref a,q1,.inl ⟨rfl,xs,SqL.of q2⟩,O0,r,d,hR,e1,fun v H1 s1 i1=>?_⟩
  have R1:=hR.same s1
  have key:∃b zs,v=.ref b/\(SqL X.K H1 b zs\/SqT X.K H1 b zs)/\IsL X.K (Ow O0 r σ) H1 m zs:=by
   cases d<;>first|(cases em;done)|skip
   ·cases em;rw[Is.tup_iff] at i1;obtain⟨b,zs,rfl,h1,h2⟩:=i1;exact⟨b,zs,rfl,.inr h1,h2⟩
   ·cases em;rw[Is.lst_iff] at i1;obtain⟨b,zs,rfl,h1,h2⟩:=i1;exact⟨b,zs,rfl,.inl h1.sq,h2⟩
  obtain⟨b,zs,rfl,hb,il⟩:=key
  obtain⟨R2,k2⟩:=R1.upd (xs':=xs++zs) e3 q1 (s1 _ _ q2) ((q3.same s1 hR.ol).append il)
  exact⟨a,b,xs,zs,rfl,rfl,s1 _ _ q2,hb,by rw[<-q3.length,<-il.length];exact hl,q _ _ R2 ((Kp.of_same r σ s1).trans k2) (by rw[Is.non_iff])⟩
 ·cases e
end
noncomputable def zD7:List V->List V->Bool
 |[],[]=>true
 |x::xs,y::ys=>eqV x y && zD7 xs ys
 |_,_=>false
noncomputable def zJI:List D->List D->Bool
 |[],[]=>true
 |x::xs,y::ys=>eqF x y && zJI xs ys
 |_,_=>false
noncomputable def zD8(xs ys:List V)(j:Nat):Bool:=match xs[j]?,ys[j]? with
 |some x,some y=>eqV x y
 |_,_=>false
theorem uL:∀(xs ys:List V),xs.length=ys.length->(List.range xs.length).all (zD8 xs ys)=zD7 xs ys
 |[],[],_=>rfl
 |x::xs,y::ys,h=>by
  rw[av,List.range_succ_eq_map,List.all_cons,List.all_map,zD7,<-uL xs ys (by simpa using h)]
  rfl
 |[],y::ys,h=>by simp at h
 |x::xs,[],h=>by simp at h
theorem dJ:∀(xs ys:List V),xs.length≠ys.length->zD7 xs ys=false
 |[],[],h=>by simp at h
 |x::xs,y::ys,h=>by rw[zD7,dJ xs ys (by simpa using h),Bool.and_false]
 |[],y::ys,h=>rfl
 |x::xs,[],h=>rfl
theorem dI{K:Fg}{O:Addr->Prop}{H:Hp}:∀{l:List D} {xs:List V},IsL K O H l xs->l.all b7=true->xs.all b6=true
 |[],xs,h,_=>by unfold IsL at h;subst h;rfl
 |d::l,xs,h,f=>by
  rw[List.all_cons,Bool.and_eq_true] at f
  unfold IsL at h;obtain⟨v,r,rfl,h1,h2⟩:=h
  rw[List.all_cons,zD2 h1 f.1,dI h2 f.2];rfl
theorem XZ{K:Fg}{O:Addr->Prop}{H:Hp}:∀{l m:List D} {xs ys:List V},IsL K O H l xs->IsL K O H m ys->l.all b7=true->m.all b7=true->zD7 xs ys=zJI l m
 |[],m,xs,ys,h,h',_,_=>by
  unfold IsL at h;subst h
  cases m with
  |nil=>unfold IsL at h';subst h';rfl
  |cons e m=>unfold IsL at h';obtain⟨v,r,rfl,_,_⟩:=h';rfl
 |d::l,m,xs,ys,h,h',f,f'=>by
  unfold IsL at h;obtain⟨v,r,rfl,h1,h2⟩:=h
  cases m with
  |nil=>unfold IsL at h';subst h';rfl
  |cons e m=>
   rw[List.all_cons,Bool.and_eq_true] at f f'
   unfold IsL at h';obtain⟨v',r',rfl,h1',h2'⟩:=h'
   rw[zD7,zJI,XZ h2 h2' f.2 f'.2,zIB h1 f.1 h1' f'.1]
theorem XY{K:Fg}{O:Addr->Prop}{H:Hp}:∀{l m:List D} {xs ys:List V},IsL K O H l xs->IsL K O H m ys->l.all b7=true->m.all b7=true->xs.all b6=true/\ys.all b6=true/\zD7 xs ys=zJI l m:=fun h h' f f'=>⟨dI h f,dI h' f',XZ h h' f f'⟩
section
variable{X:Cx}
noncomputable def zKN(K:Fg)(neg:Bool):R2:=fun x y H Q=>∃p q xs ys,x=.ref p/\y=.ref q/\SqL K H p xs/\SqL K H q ys/\xs.all b6=true/\ys.all b6=true/\Q (.bl (if neg then !zD7 xs ys else zD7 xs ys)) H
theorem WN{xs:List V}{j:Nat}{x:V}(h:xs.all b6=true)(e:xs[j]?=some x):b6 x=true:=List.all_eq_true.mp h x (List.mem_of_getElem? e)
theorem Y0{xs:List V}{its:List Value}(r:Vals xs its){j:Nat}(h:j<its.toArray.size):∃x,xs[j]?=some x/\RelV x its.toArray[j]:=by
 have hj:j<xs.length:=by rw[r.length];simpa using h
 obtain⟨u,e,q⟩:=r.get (i:=j) (x:=xs[j]) (by simp[hj])
 refine⟨xs[j],by simp[hj],?_⟩
 have:its.toArray[j]=u:=by
  have h':j<its.length:=by simpa using h
  simp only[List.getElem_toArray]
  rw[bb h'] at e
  exact aq e
 rw[this];exact q
theorem pW{A:Around}{s:Shared}{xs ys:List V}{its its2:List Value}(r:Vals xs its)(r2:Vals ys its2)(fx:xs.all b6=true)(fy:ys.all b6=true):∀j (h1:j<its.toArray.size) (h2:j<its2.toArray.size),SeqAt.EqAt A s its.toArray[j] its2.toArray[j] (zD8 xs ys j):=by
 intro j h1 h2
 obtain⟨x,e1,q1⟩:=Y0 r h1
 obtain⟨y,e2,q2⟩:=Y0 r2 h2
 have:zD8 xs ys j=eqV x y:=by unfold zD8;rw[e1,e2]
 rw[this]
 exact zIC q1 q2 (WN fx e1) (WN fy e2)
theorem zHB(hu:X.A.units<cLine):OpR X (compareOp .Eq) (zKN X.K false):=by
 intro pins s σ H x y v u Q I rx ry h
 obtain⟨p,q',xs,ys,rfl,rfl,h1,h2,fx,fy,q⟩:=h
 cases rx;cases ry
 obtain⟨its,r,pl,hz⟩:=I.list h1
 obtain⟨its2,r2,pl2,hz2⟩:=I.list h2
 have n1:=r.length
 have n2:=r2.length
 by_cases hl:xs.length=ys.length
 ·refine SeqAt.eq_listAt pl.isList pl2.isList (by simp only[ag];omega) hu (pW r r2 fx fy) (yO I q ?_)
  rw[ag,<-n1,uL xs ys hl];rfl
 ·refine SeqAt.eq_list_lengthsAt pl.isList pl2.isList (by simp only[ag,bne_iff_ne];omega) hu (yO I q ?_)
  rw[dJ xs ys hl];rfl
theorem zG7(hu:X.A.units<cLine):OpR X (compareOp .NotEq) (zKN X.K true):=by
 intro pins s σ H x y v u Q I rx ry h
 obtain⟨p,q',xs,ys,rfl,rfl,h1,h2,fx,fy,q⟩:=h
 cases rx;cases ry
 obtain⟨its,r,pl,hz⟩:=I.list h1
 obtain⟨its2,r2,pl2,hz2⟩:=I.list h2
 have n1:=r.length
 have n2:=r2.length
 by_cases hl:xs.length=ys.length
 ·refine SeqAt.RcNeAt.lists pl.isList pl2.isList (by simp only[ag];omega) hu (pW r r2 fx fy) _ _ _ _ (yO I q ?_)
  rw[ag,<-n1,uL xs ys hl];rfl
 ·refine SeqAt.RcNeAt.lists_lengths pl.isList pl2.isList (by simp only[ag,bne_iff_ne];omega) hu _ _ _ _ (yO I q ?_)
  rw[dJ xs ys hl];rfl
noncomputable def eqA(x y:D):Option D:=match x,y with
 |.lst l,.lst m=>if l.all b7=true/\m.all b7=true then some (.bl (zJI l m)) else none
 |x,y=>eqD x y
noncomputable def neA(x y:D):Option D:=match x,y with
 |.lst l,.lst m=>if l.all b7=true/\m.all b7=true then some (.bl (!zJI l m)) else none
 |x,y=>neD x y
noncomputable def zML(K:Fg):R2:=fun x y H Q=>zKN K false x y H Q\/rEq x y H Q
noncomputable def zME(K:Fg):R2:=fun x y H Q=>zKN K true x y H Q\/rNe x y H Q
theorem qH(hu:X.A.units<cLine):OpR X (compareOp .Eq) (zML X.K):=(zHB hu).or zKW
theorem ZI(hu:X.A.units<cLine):OpR X (compareOp .NotEq) (zME X.K):=(zG7 hu).or zKU
theorem qI{K:Fg}:OpD K (zML K) eqA:=by
 intro O H dx dy d vx vy Q ol ix iy e q
 unfold eqA at e
 split at e
 ·rename_i l m
  split at e
  ·rename_i hf
   cases e
   rw[Is.lst_iff] at ix iy
   obtain⟨a,xs,rfl,hs,il⟩:=ix
   obtain⟨b,ys,rfl,hs',il'⟩:=iy
   obtain⟨f1,f2,f3⟩:=XY il il' hf.1 hf.2
   exact .inl ⟨a,b,xs,ys,rfl,rfl,hs.sq,hs'.sq,f1,f2,q _ H (Same.refl H) (by rw[Is.bl_iff,f3];rfl)⟩
  ·cases e
 ·exact .inr (zKZ O H dx dy d vx vy Q ol ix iy e q)
theorem ZP{K:Fg}:OpD K (zME K) neA:=by
 intro O H dx dy d vx vy Q ol ix iy e q
 unfold neA at e
 split at e
 ·rename_i l m
  split at e
  ·rename_i hf
   cases e
   rw[Is.lst_iff] at ix iy
   obtain⟨a,xs,rfl,hs,il⟩:=ix
   obtain⟨b,ys,rfl,hs',il'⟩:=iy
   obtain⟨f1,f2,f3⟩:=XY il il' hf.1 hf.2
   exact .inl ⟨a,b,xs,ys,rfl,rfl,hs.sq,hs'.sq,f1,f2,q _ H (Same.refl H) (by rw[Is.bl_iff,f3];rfl)⟩
  ·cases e
 ·exact .inr (zKY O H dx dy d vx vy Q ol ix iy e q)
end
section
variable{X:Cx}{a:Expr}{es:List Expr}{f:ME}{fs:ML}{i:Nat}{pos p pn:Pos}
theorem XE{r r':En}{σ:St}{l':List D}{b:Addr}(e:QG i l' r=some r')(h:wK r' σ b):wK r σ b:=by
 obtain⟨x,y,ex,rfl,yo,ym,⟨l0,xm⟩,_⟩:=uM e
 obtain⟨j,m,ej,qj⟩:=h
 by_cases hj:j=i
 ·subst hj;exact⟨j,l0,by rw[ex];exact kP xm,qj⟩
 ·rw[zC (fun z=>hj z.symm)] at ej;exact⟨j,m,ej,qj⟩
end
section
variable{es:List Expr}{env:Env}{p:Pos}
theorem zS{c k}:starEach (.Constant c k p::es) env=(false,eval (.Constant c k p) env)::starEach es env:=rfl
theorem zQ{x}:starEach (.Name x p::es) env=(false,eval (.Name x p) env)::starEach es env:=rfl
theorem y9{l k}:starEach (.Tuple l k p::es) env=(false,eval (.Tuple l k p) env)::starEach es env:=rfl
theorem vM{f l k}:starEach (.Call f l k p::es) env=(false,eval (.Call f l k p) env)::starEach es env:=rfl
theorem jE{a b}:starEach (.Subscript a b p::es) env=(false,eval (.Subscript a b p) env)::starEach es env:=rfl
theorem zIW{a o b}:starEach (.BinOp a o b p::es) env=(false,eval (.BinOp a o b p) env)::starEach es env:=rfl
end
section
variable{X:Cx}{pos:Pos}{a b tg:Expr}{f g:ME}
theorem zEX{x:Str}{i:Int}(h:∃t,X.mg x=some (.int i t))(hg:Gl X x)(hd:(x == ("__debug__" : Str))=false:=by decide):DE X (.Name x pos) (mC (.int i)):=by
 obtain⟨t,h⟩:=h
 exact h8 (XC (v:=.int i) hg h ⟨t,rfl⟩ hd) fun O H=>by rw[Is.int_iff]
theorem pX{K:Fg}{O:Addr->Prop}{H:Hp}:∀ss:List (List Nat),IsL K O H (ss.map D.str) (ss.map fun s=>V.str ⟨s.toArray⟩)
 |[]=>IsL.nil
 |s::ss=>.cons (by rw[Is.str_iff]) (pX ss)
theorem JM{Ps:Params}{x:Str}{tbl:List (List Nat×List Nat)}{pins:List (Addr×Obj)}{σ:St}{H:Hp}{s:Shared}{p:Addr}{es:Array DictEntry}{n:Nat}(I:Inv X pins σ H s)(hl:X.K.lookup p=some ⟨.type "dict",none,.dict es n,#[]⟩)(hk:PySem.W.KeysLit X.w.params es.toList):s.heap.MapOf (strKind X.prog X.w) p (fun k=>findBy Value.isStrOf es k):=PySem.W.mapOf_K (I.mod.kin.keeps I.bk) hl hk
theorem b8(es:Array DictEntry)(k:Str):findBy Value.isStrOf es k=(es.toList.find? fun d=>Value.isStrOf k d.key).map (·.val):=by
 obtain⟨l⟩:=es
 unfold findBy
 rw[List.find?_toArray]
theorem WE{x:Str}{p:Addr}(h:X.mg x=some (.ref p))(hg:Gl X x)(hd:(x == ("__debug__" : Str))=false:=by decide):DE X (.Name x pos) (mC (.ref p)):=
 h8 (XC (v:=.ref p) hg h rfl hd) fun O H=>by rw[Is.ref_iff]
end
open Builtin.Str
section
variable{X:Cx}{pos pn apos cpos:Pos}{a b e:Expr}{f g:ME}
noncomputable def pY:D->Option D
 |.bl b=>some (.int (if b then 1 else 0))
 |_=>none
theorem YU:CallR X (.type "int") (fun xs H Q=>∃b:Bool,xs=[.bl b]/\Q (.int (if b then 1 else 0)) H):=by
 intro pins s σ H xs us Q I r hq
 obtain⟨y,rfl,q⟩:=hq
 obtain⟨u,rfl,ru⟩:=Vals.one r
 obtain rfl:u=.bool y:=ru
 exact call_int_bool ⟨.int _,H,I.tok _,⟨_,rfl⟩,q⟩
theorem zEW{p':Pos}(hg:Gl X "int")(hm:X.mg "int" = none)(ha:DE X a f)(hs:starEach [a] X.env=(false,eval a X.env)::starEach [] X.env:=by rfl):DE X (.Call (.Name "int" p') [a] [] pos) (mUn pY f):=by
 refine PE.conseq (kJ YU hg hm PyProof.Rows.boot_int (zX ha y0 hs) (he:=hs)) fun σ H Q hq=>?_
 obtain⟨O0,r,d,hR,e,q⟩:=hq
 obtain⟨x,e1,e2⟩:=bind_some e
 refine⟨O0,r,x,hR,e1,fun v H1 s1 i1=>?_⟩
 cases x<;>first|(simp only[pY,reduceCtorEq] at e2;done)|skip
 cases e2
 rw[Is.bl_iff] at i1
 exact⟨_,by rw[i1],q _ H1 s1 (by rw[Is.int_iff])⟩
theorem zIO{x y:V}{us:List Value}(r:Vals [x,y] us):∃u v,us=[u,v]/\RelV x u/\RelV y v:=by
 cases r with
 |cons r1 r2=>
  obtain⟨v,rfl,rv⟩:=Vals.one r2
  exact⟨_,v,rfl,r1,rv⟩
end
theorem zC2{K:Fg}{fl:ML}{i:Nat}{σ:St}{H:Hp}{Dn:Ends}(h:lS K (wT i (uA fl)) Dn σ H):lF K fl σ H (fun v H1=>YA i v σ H1 Dn.nx):=by
 obtain⟨O0,r,fl',hR,e,q⟩:=h
 obtain⟨d,e1,e2⟩:=bind_some e
 obtain⟨r',e3,rfl⟩:=map_some e2
 obtain⟨l,e4,rfl⟩:=map_some e1
 obtain⟨hl,np,rfl⟩:=qB e3
 refine⟨O0,r,l,hR,e4,fun p xs H1 s1 n1 e5 i1=>?_⟩
 have ol:qR (fun b=>Ow O0 r σ b\/b=p) H1:=fun b z=>z.elim (fun z=>(hR.same s1).ol b z) fun z=>by subst z;exact⟨.lst xs,e5,trivial⟩
 have iv:Is K (Ow O0 r σ) H1 (.lst l) (.ref p):=by
  rw[Is.lst_iff]
  exact⟨p,xs,rfl,.inl ⟨hR.nofresh n1,.inl e5⟩,IsL.mono (Same.kp (Same.refl H1) _) ol (fun a z _=>.inl z) l xs i1⟩
 obtain⟨R1,k1⟩:=(hR.same s1).setv hl np iv
 exact q _ H1 R1 ((Kp.of_same r σ s1).trans k1)
section
variable{X:Cx}{pos spos py:Pos}{elt tg iter:Expr}{it:ML}{bd:D->En->Option En}{c:MB}{x:ME}{cap:List Nat}{N':List Str}{scope:Scope}
theorem zEK(i:Nat){y:Str}(hc:X.calm=true)(o:CmpOk X N' cap scope)(hi:DI X tg iter it)(hg:∀C fp s H,DG (cxC X N' scope C fp s H) tg bd)(he:∀C fp s H,DE (cxC X N' scope C fp s H) elt x)(n:Nat)(hN:X.N.Nodup)(hn:N'.length=n:=by rfl)(hy:X.N[i]?=some y:=by rfl)(hx:Loc X.env.scope y:=by first|exact Or.inl rfl|exact Or.inr rfl)(hf:X.fn y=true\/X.env.scope.names.lookup y=some .local:=by first|exact .inl rfl|exact .inr rfl)(hsw:swapsWith (.ListComp elt [⟨tg,iter,[],0⟩] scope pos) (some (.Name y py)) spos.line X.env=pure true:=by rfl)(hs:∀x,foldedSetIterable iter X.env x=pure x:=by intro _;rfl):DS X (.Assign [.Name y py] (.ListComp elt [⟨tg,iter,[],0⟩] scope pos) spos) (wT i (uA (vL cap n it bd x))):=by
 subst hn
 exact PS.conseq (QH (i:=i) (g:=lG X.K bd) (te:=lE X.K x) (tc:=none) hc o hi hg rfl he hN hy hx hf hsw hs) fun Dn σ H h=>bA (tc:=none) (fun {σ H K1 K0 te} z=>by
  obtain⟨O0,r,b,hR,e,q⟩:=z
  unfold cT at e;cases e
  have z1:(if true=true then te σ H K1 else K0 H):=q H (Same.refl H)
  rw[if_pos rfl] at z1
  exact z1) N'.length (zC2 h)
end
end DD
namespace TS
open PySem PyProof.Rows
open PySem PyProof.Rows
open PySem PyProof.Rows
open PySem PyProof.Rows
open PySem PyProof.Rows
open PySem PyProof.Rows
open PySem PyProof.Rows
open PySem PyProof.Rows
open PySem PyProof.Rows
open PySem PyProof.Rows PySem.W
end TS
namespace DD
open PySem PySem.Spec PyProof.Rows L2
noncomputable def ltA:D->D->Option D
 |.int i,.int j=>some (.bl (decide (i<j)))
 |.str s,.str t=>some (.bl (decide (s<t)))
 |_,_=>none
section
variable{X:Cx}
theorem zG8:OpR X (compareOp .Lt) (fun x y H Q=>∃i j,x=.str i/\y=.str j/\Q (.bl (decide (i.cps.toList<j.cps.toList))) H):=by
 intro pins s σ H x y v u Q I rx ry hq
 obtain⟨i,j,rfl,rfl,q⟩:=hq
 obtain⟨t,rfl⟩:=rx
 obtain⟨t',rfl⟩:=ry
 exact PySem.P.lt_str ⟨.bl _,H,I,rfl,q⟩
noncomputable def zMF:R2:=fun x y H Q=>rI0 (fun i j=>.bl (decide (i<j))) x y H Q\/∃i j,x=.str i/\y=.str j/\Q (.bl (decide (i.cps.toList<j.cps.toList))) H
theorem zCV:OpR X (compareOp .Lt) zMF:=op_lt.or zG8
theorem zC0{K:Fg}:OpD K zMF ltA:=by
 intro O H dx dy d vx vy Q ol ix iy e q
 cases dx<;>cases dy<;>first|(simp only[ltA,reduceCtorEq] at e;done)|skip
 ·simp only[ltA,Option.some.injEq] at e
  subst e
  rw[Is.int_iff] at ix iy
  exact .inl ⟨_,_,ix,iy,q _ H (Same.refl H) (by rw[Is.bl_iff])⟩
 ·simp only[ltA,Option.some.injEq] at e
  subst e
  rw[Is.str_iff] at ix iy
  exact .inr ⟨_,_,ix,iy,q _ H (Same.refl H) (by rw[Is.bl_iff])⟩
end
mutual
noncomputable def toP:D->PyData
 |.non=>.none
 |.bl b=>.bool b
 |.int i=>.int i
 |.str s=>.str ⟨s.toArray⟩
 |.tup l=>.tuple (zJ8 l)
 |.lst l=>.list (zJ8 l)
 |.ty _=>.none
 |.ref _=>.none
 |.dct _ _=>.none
noncomputable def zJ8:List D->List PyData
 |[]=>[]
 |d::l=>toP d::zJ8 l
end
mutual
noncomputable def okD:D->Bool
 |.tup l=>zJQ l
 |.lst l=>zJQ l
 |.ty _=>false
 |.ref _=>false
 |.dct _ _=>false
 |_=>true
noncomputable def zJQ:List D->Bool
 |[]=>true
 |d::l=>okD d && zJQ l
end
section
variable{X:Cx}{pins:List (Addr×Obj)}{σ:St}{H:Hp}{s:Shared}{O:Addr->Prop}
mutual
theorem dB(I:Inv X pins σ H s):∀(d:D) (v:V) (u:Value),okD d=true->Is X.K O H d v->RelV v u->∃as,Reads s.heap u (toP d) as
 |.non,v,u,_,h,r=>by rw[Is.non_iff] at h;subst h;cases r;exact⟨_,.none⟩
 |.bl b,v,u,_,h,r=>by rw[Is.bl_iff] at h;subst h;cases r;exact⟨_,.bool b⟩
 |.int i,v,u,_,h,r=>by rw[Is.int_iff] at h;subst h;obtain⟨t,rfl⟩:=r;exact⟨_,.int i t⟩
 |.str x,v,u,_,h,r=>by rw[Is.str_iff] at h;subst h;obtain⟨t,rfl⟩:=r;exact⟨_,.str _ t⟩
 |.ty n,v,u,o,_,_=>by simp[okD] at o
 |.ref a,v,u,o,_,_=>by simp[okD] at o
 |.dct ks l,v,u,o,_,_=>by simp[okD] at o
 |.tup l,v,u,o,h,r=>by
  rw[Is.tup_iff] at h
  obtain⟨a,xs,rfl,sq,il⟩:=h
  cases r
  obtain⟨its,rv,⟨ob,e,c,n,dt⟩,_⟩:=I.tuple sq
  obtain⟨as,q⟩:=uK I l xs its (by simpa [okD] using o) il rv
  exact⟨_,.tuple e c dt (by simpa using q)⟩
 |.lst l,v,u,o,h,r=>by
  rw[Is.lst_iff] at h
  obtain⟨a,xs,rfl,sq,il⟩:=h
  cases r
  obtain⟨its,rv,⟨ob,n,e,c,_,dt⟩,_⟩:=I.list sq.sq
  obtain⟨as,q⟩:=uK I l xs its (by simpa [okD] using o) il rv
  exact⟨_,.list e c dt (by simpa using q)⟩
theorem uK(I:Inv X pins σ H s):∀(l:List D) (vs:List V) (us:List Value),zJQ l=true->IsL X.K O H l vs->Vals vs us->∃as,ReadsAll s.heap us (zJ8 l) as
 |[],vs,us,_,h,r=>by unfold IsL at h;subst h;cases r;exact⟨_,.nil⟩
 |d::l,vs,us,o,h,r=>by
  unfold IsL at h
  obtain⟨v,vr,rfl,h1,h2⟩:=h
  simp only[zJQ,Bool.and_eq_true] at o
  cases r with
  |cons r1 r2=>
   obtain⟨as,q1⟩:=dB I d v _ o.1 h1 r1
   obtain⟨bs,q2⟩:=uK I l vr _ o.2 h2 r2
   exact⟨_,.cons q1 q2⟩
end
end
section
variable{X:Cx}
theorem un2{k:Nat}{A:Around}(r:Room k A):A.units+200<cLine:=by have:=r.un;omega
end
noncomputable def fre:Sl->Prop
 |.un=>True
 |.v _=>True
 |_=>False
theorem yC{i:Nat}{d:D}{r:En}{x:Sl}(e:r[i]?=some x)(h:fre x):yN i d r=some (r.set i (.v d)):=by
 unfold yN
 rw[e]
 cases x<;>first|rfl|cases h
theorem zCE{i:Nat}{r:En}{S:List D}{d:D}(e:r[i]?=some (.o (S++[d]))):gT i r=some (d,r.set i (.o S)):=by
 simp[gT,zC9,e,Sl.ml,QG]
theorem oE{i:Nat}{f:ME}{r:En}{S:List D}{d:D}(e:r[i]?=some (.o S))(e2:f r=some d)(h:S.length<sizeLine):rY i f r=some (.non,r.set i (.o (S++[d]))):=by
 simp[rY,zC9,e,Sl.ml,QG,e2,h]
theorem zBA{i:Nat}{r:En}{d:D}(e:r[i]?=some (.v d)):zE i r=some d:=by
 unfold zE;rw[e]
theorem yB{g h:MS}{r r':En}(e:g r=some (.nx r')):yT g h r=h r':=by
 unfold yT;rw[e];rfl
theorem zBV{g h:MS}{r r':En}{d:D}(e:g r=some (.rt d r')):yT g h r=some (.rt d r'):=by
 unfold yT;rw[e];rfl
theorem gC{f:En->Option (D×En)}{r r':En}{d:D}(e:f r=some (d,r')):sX f r=some (.nx r'):=by
 unfold sX;rw[e];rfl
theorem wL{i:Nat}{f:ME}{r r2:En}{d:D}(e:f r=some d)(e2:yN i d r=some r2):wT i f r=some (.nx r2):=by
 unfold wT;rw[e];show(yN i d r).map Fl.nx=_;rw[e2];rfl
theorem mL{c:MB}{g h:MS}{r:En}(e:c r=some true):sIf c g h r=g r:=by
 unfold sIf;rw[e];rfl
theorem mM{c:MB}{g h:MS}{r:En}(e:c r=some false):sIf c g h r=h r:=by
 unfold sIf;rw[e];rfl
theorem cX{n:Nat}{c:MB}{g:MS}{r r':En}(h:c r=some true)(e:g r=some (.nx r')):wS (n+1) c g r=wS n c g r':=by
 show(c r).bind _=_
 rw[h,ac,if_pos rfl,e,ac]
theorem dS{n:Nat}{c:MB}{g:MS}{r:En}(h:c r=some false):wS (n+1) c g r=some (.nx r):=by
 show(c r).bind _=_
 rw[h,ac,if_neg (by simp)]
theorem j8{bd:D->En->Option En}{g:MS}{d:D}{l:List D}{r r1 r':En}(h:bd d r=some r1)(e:g r1=some (.nx r')):YC bd g (d::l) r=YC bd g l r':=by
 show(bd d r).bind _=_
 rw[h,ac,e,ac]
section
variable{f g:ME}{fl gl:ML}{r:En}{x y d:D}{i j:Int}
theorem xG{m:D->D->Option D}(e1:f r=some x)(e2:g r=some y)(e:m x y=some d):zJ m f g r=some d:=by
 unfold zJ;rw[e1,ac,e2];exact e
theorem bH{m:D->Option D}(e1:f r=some x)(e:m x=some d):mUn m f r=some d:=by
 unfold mUn;rw[e1];exact e
theorem qK(e1:f r=some (.int i))(e2:g r=some (.int j)):zJ jT f g r=some (.int (i+j)):=xG e1 e2 rfl
theorem x5(e1:f r=some (.int i))(e2:g r=some (.int j))(h:0<j):zJ wY f g r=some (.int (i % j)):=xG e1 e2 (if_pos h)
theorem nL(e1:f r=some (.int i))(e2:g r=some (.int j))(h : -(2 ^ 64)<i/\i<2 ^ 64):zJ zC4 f g r=some (.int (i*j)):=xG e1 e2 (if_pos (.inl h))
theorem qG(e1:f r=some (.int i))(e2:g r=some (.int j))(h:0<j/\j<1073741824):zJ wJ f g r=some (.int (i / j)):=xG e1 e2 (if_pos h)
theorem zL:mC d r=some d:=rfl
theorem zN{l:List D}(e1:f r=some x)(e2:fl r=some l):zD f fl r=some (x::l):=by
 unfold zD;rw[e1,ac,e2];rfl
theorem yF:zU r=some []:=rfl
theorem qA{l:List D}(e:fl r=some l)(h:l.length<=100):xI fl r=some (.tup l):=by
 unfold xI;rw[e,ac,if_pos (Nat.le_trans h (by decide))]
theorem xE{n:Nat}{m:MF}{l:List D}{p:Rs}(e:fl r=some l)(hl:l.length=n)(h:∃as,m (l.map .v)=some (p,as)):yG n m fl r=some (rsD p):=by
 obtain⟨as,h⟩:=h
 unfold yG;rw[e,ac,if_pos hl,h];rfl
theorem mP{b:Bool}(e:f r=some (.bl b)):mBl f r=some b:=by
 unfold mBl;rw[e];rfl
theorem wE(e:f r=some d):kH f r=some (.rt d r):=by
 unfold kH;rw[e];rfl
theorem yP{k:Nat}{h:MS}{r2:En}{z:Option Fl}(d:D)(e:f r=some d)(e2:yN k d r=some r2)(q:h r2=z):yT (wT k f) h r=z:=by
 rw[yB (wL e e2)];exact q
theorem kF{c:MB}{a h:MS}{z:Option Fl}(e:c r=some false)(q:h r=z):yT (sIf c a xY) h r=z:=by
 rw[yB (r':=r) (by rw[mM e];rfl)];exact q
theorem vN{c:MB}{a h:MS}{r':En}(e:c r=some true)(q:a r=some (.rt d r')):yT (sIf c a xY) h r=some (.rt d r'):=zBV (by rw[mL e];exact q)
theorem jL{n N:Nat}{s:MS}{as:List Sl}{r':En}(e:s (as++List.replicate (N-n) .un)=some (.rt d r')):∃bs,mkF n N s as=some (.v d,bs):=by
 unfold mkF;rw[e];exact⟨_,rfl⟩
end
theorem oR{s t:List Nat}(h:s.length+t.length<=100):jT (.str s) (.str t)=some (.str (s++t)):=if_pos (Nat.le_trans h (by decide))
theorem zFK{f:ME}{lo hi:MO}{r:En}{x d:D}{a b:Option Int}(e1:f r=some x)(e2:lo r=some a)(e3:hi r=some b)(e:slD x a b=some d):mSl f lo hi r=some d:=by
 unfold mSl;rw[e1,ac,e2,ac,e3];exact e
theorem uP{g:ME}{r:En}{i:Int}(e:g r=some (.int i)):uT g r=some (some i):=by
 unfold uT;rw[e];rfl
theorem zFX{f g:ME}{r:En}{i j:Int}(e1:f r=some (.int i))(e2:g r=some (.int j)):mBl (zJ gtD f g) r=some (decide (j<i)):=mP (xG e1 e2 rfl)
theorem zE0{α:Type}(s:List α)(i k:Nat):rK s (some (i:Int)) (some (k:Int))=(s.take k).drop i:=by
 unfold rK
 rw[HT.sIx_nat,HT.sIx_nat,List.drop_take]
 by_cases h:i<=s.length
 ·rw[Nat.min_eq_left h,List.take_eq_take_iff,List.length_drop]
  rw[Nat.sub_min_sub_right,Nat.sub_min_sub_right,Nat.min_assoc,Nat.min_self]
 ·have e1:s.drop (min i s.length)=[]:=List.drop_of_length_le (by omega)
  have e2:s.drop i=[]:=List.drop_of_length_le (by omega)
  rw[e1,e2];simp
theorem zB2{f:ME}{r:En}{n:Nat}(e:f r=some (.int (n:Int)))(h:n<1000):XL f r=some ((List.range n).map fun k=>.int ((0:Int)+(k:Nat))):=by
 have h1 : -(2 ^ 62:Int)<=(n:Int)/\(n:Int)<2 ^ 62:=by constructor<;>omega
 have h2:DD.intD (.int (n:Int))=some (n:Int):=by unfold DD.intD;rfl
 unfold XL
 rw[e,ac,h2,ac,if_pos h1,Int.toNat_natCast]
 unfold zIX;rfl
theorem bdP{i j:Nat}{a b:D}{r r1 r2:En}(h1:yN i a r=some r1)(h2:yN j b r1=some r2):qZ 2 (yE (yN i) (yE (yN j) jG)) (.tup [a,b]) r=some r2:=by
 show((yN i a r).bind fun z=>(yN j b z).bind fun y=>some y)=_
 rw[h1,ac,h2];rfl
noncomputable def ItB(K:Fg)(a:Addr)(n:Nat):It:=
 ⟨fun i H=>∃xs x,SqL K H a xs/\xs.length=n/\i<n/\xs[n-1-i]?=some x,fun i H x H'=>H'=H/\∀xs,SqL K H a xs->xs[n-1-i]?=some x,fun i _=>i=n⟩
theorem tN{P:Program}{w:World}{K:Fg}{tg:Expr}(a it:Addr)(n:Nat):Turn P w K tg (ItB K a n) [it] it (fun i h=>h.IsRevIter it a ((n:Int)-1-(i:Int))) where
 mem:=by simp
 obj:=fun i h st b hb=>by
  have e:b=it:=by simpa using hb
  subst e
  obtain⟨o,e,c,d⟩:=st
  exact⟨o,e,fun v z=>by rw[d] at z;cases z⟩
 keep:=fun i h h' st k=>st.at fun o e=>k it (by simp) o e
 item:=by
  intro X hP hw hK hc i pins s σ H E I hf st hg
  subst hP hw hK
  obtain⟨xs,x,hq,hn,hi,hx⟩:=hg
  obtain⟨its,rv,p,hz⟩:=I.list hq
  obtain⟨u,hu,ru⟩:=rv.get hx
  obtain⟨f0,f1,f2,f3,f4,f5⟩:=hf it (by simp)
  have e1:(n:Int)-1-(i:Int)=((n-1-i:Nat):Int):=by clear st hu hx hq hn rv p;omega
  rw[e1] at st
  refine wpAny_pyNext_rev_item st p.isList (x:=u) (by simpa using hu) fun h' st' sb=>?_
  have e2:((n-1-i:Nat):Int)-1=(n:Int)-1-((i+1:Nat):Int):=by clear st st' hu hx hq hn rv p;omega
  rw[e2] at st'
  have I1:Inv X pins σ H { s with heap:=h' }:=I.turned (t':=s.toks) (fun b o hb e=>(sb.2 b hb).trans e) f0 f1 f3 f4 f5
  obtain⟨o,e,c,d⟩:=id st'
  exact⟨u,rfl,zAC (s:={ s with heap:=h' }) e c d (by decide) ⟨x,H,I1,ru,⟨rfl,fun ys hy=>by rw[I.list_inj hy hq];exact hx⟩,st',fun b hb=>(hf b hb).1⟩⟩
 done:=by
  intro X hP hw hK hc i pins s σ H E I hf st hg
  subst hP hw hK
  obtain rfl:i=n:=hg
  obtain⟨f0,f1,f2,f3,f4,f5⟩:=hf it (by simp)
  have e1:(i:Int)-1-(i:Int)=-1:=by clear st;omega
  rw[e1] at st
  exact wpAny_pyNext_rev_end (I.ok.hd hc) st fun h' eb=>⟨rfl,I.turned (t':=s.toks) (fun b o hb e=>eb b o hb e) f0 f1 f3 f4 f5⟩
 self:=fun _ _ _ _ _ st h=>wpAny_pyIter_revIter st h
section
variable{X:Cx}{a tg:Expr}{f:ME}{p pos:Pos}
theorem zA2{K:Fg}{O M:Addr->Prop}(mo:∀a,M a->O a){H:Hp}{a:Addr}{xs:List V}{ds:List D}(ol:qR O H)(rd:∀H1,vK M H H1->SqL K H1 a xs)(il:IsL K O H ds xs):zFF K O M H (ItB K a xs.length) ds.reverse:=by
 intro i H1 O' kp oo
 have kp':vK O H H1:=fun b o e n=>kp b o e fun z=>n (mo b z)
 have rd1:SqL K H1 a xs:=rd H1 kp
 have ll:=il.length
 have bk:∀d,ds.reverse[i]?=some d->i<xs.length/\ds[xs.length-1-i]?=some d:=fun d e=>by
  have hi:i<ds.length:=by
   obtain⟨h,_⟩:=ak.mp e
   rw[List.length_reverse] at h;exact h
  rw[List.getElem?_reverse hi,ll] at e
  exact⟨ll ▸ hi,e⟩
 refine⟨fun hi=>⟨?_,fun x H' y=>?_⟩,fun hi=>by rw[List.length_reverse,ll] at hi;exact hi⟩
 ·obtain⟨d,e⟩:=qD hi
  obtain⟨hi',e'⟩:=bk d e
  obtain⟨v,e1,_⟩:=il.get e'
  exact⟨xs,v,rd1,rfl,hi',e1⟩
 ·obtain⟨rfl,y⟩:=y
  refine⟨Same.refl _,fun d e=>?_⟩
  obtain⟨hi',e'⟩:=bk d e
  obtain⟨v,e1,q⟩:=il.get e'
  have:=y xs rd1
  rw[e1] at this;cases this
  exact Is.mono kp' ol oo _ _ q
theorem zCK{ta:TE}(hg:Gl X "reversed")(hm:X.mg "reversed" = none)(ha:PE X a ta)(hs:starEach [a] X.env=[(false,eval a X.env)]:=by rfl):PI X tg (.Call (.Name "reversed" p) [a] [] pos) (fun σ H R=>ta σ H fun x H1=>∃u xs,x=.ref u/\SqL X.K H1 u xs/\R (ItB X.K u xs.length) H1):=by
 intro pins s σ H R I h
 have hA:PA X [a] (cR ta zAP):=zX ha y0 (by rw[hs];rfl)
 refine Call_ (jN I hg hm PyProof.Rows.boot_reversed (PyProof.Rows.callWith_type1 (thn (hA pos pins s σ H (z1 fun x H1=>∃u xs,x=.ref u/\SqL X.K H1 u xs/\R (ItB X.K u xs.length) H1) I h) fun us s1 ⟨vs,H1,I1,r1,q1⟩=>?_) hs rfl))
 obtain⟨_,rfl,u,xs,rfl,hx,q⟩:=tE q1
 obtain⟨uu,rfl,ru⟩:=Vals.one r1
 cases ru
 obtain⟨its,rv,pl,_⟩:=I1.list hx
 have hl:its.toArray.size=xs.length:=by rw[ag];exact rv.length.symm
 have z1:(s1.heap.push (revObj u ((its.toArray.size:Int)-1))).IsRevIter s1.heap.objs.size u ((its.toArray.size:Int)-1):=⟨_,ah _ rfl,rfl,rfl⟩
 refine call_reversed_list pl.isList (wpAny_pyIter_revIter z1 ?_)
 refine⟨_,[s1.heap.objs.size],_,_,H1,rfl,I1.kept (t':=s1.toks) (fun b o e=>ad _ e),tN u _ xs.length,?_,fun b hb=>?_,q⟩
 ·rw[hl] at z1 ⊢
  rw[show((xs.length:Int)-1-((0:Nat):Int))=(xs.length:Int)-1 from Int.sub_zero _]
  exact z1
 ·have e:b=s1.heap.objs.size:=by simpa using hb
  subst e
  exact I1.fpOk (al _) (I1.hok.fresh (al _))
noncomputable def ZX(f:ML):ML:=fun r=>(f r).map List.reverse
theorem JT{fl:ML}(hg:Gl X "reversed")(hm:X.mg "reversed" = none)(ha:DK X a fl)(hs:starEach [a] X.env=[(false,eval a X.env)]:=by rfl):DI X tg (.Call (.Name "reversed" p) [a] [] pos) (ZX fl):=by
 refine PI.conseq (zCK hg hm ha hs) fun σ H Rr hq=>?_
 obtain⟨O0,r,ds,hR,e,q⟩:=hq
 obtain⟨l,e1,rfl⟩:=map_some e
 refine⟨O0,r,l,hR,e1,fun u xs H1 s1 kp il=>?_⟩
 exact⟨u,xs,rfl,kp H1 fun b o e _=>e,q _ H1 s1 (zA2 (fun a z=>.inr z.own) (hR.same s1).ol kp il)⟩
end
section
variable{X:Cx}{pos p2:Pos}{a b:Expr}{f g:ME}
theorem p7{K:Fg}{O:Addr->Prop}{H:Hp}{l:List D}{xs ys:List V}{p:Addr}(ol:qR O H)(hp:H p=none)(h:IsL K O H l xs):IsL K (fun b=>O b\/b=p) (upd H p (.lst ys)) l xs:=
 IsL.mono (Same.kp (zT hp) _) ol (fun a z n=>z.elim id fun z=>by subst z;exact absurd hp n) _ _ h
noncomputable def zL1(f g:ML):ML:=fun r=>(f r).bind fun l=>(g r).bind fun m=>if l.length+m.length<=sizeLine then some (l++m) else none
theorem zII{fl gl:ML}(ha:DB X a fl)(hb:DB X b gl):DF X (.BinOp a .Add b pos) (zL1 fl gl):=by
 refine PE.conseq (zI4 op_catR ha hb) fun σ H Q h=>?_
 obtain⟨O0,r,d,hR,e,q⟩:=h
 obtain⟨l,e1,e⟩:=bind_some e
 obtain⟨m,e2,e⟩:=bind_some e
 split at e
 ·rename_i hz
  cases e
  refine⟨O0,r,l,hR,e1,fun p xs H1 s1 sq il=>⟨O0,r,m,hR.same s1,e2,fun p' ys H2 s2 sq' il'=>?_⟩⟩
  refine⟨p,p',xs,ys,rfl,rfl,s2.seq sq,sq',by rw[<-il.length,<-il'.length];exact hz,fun t ht=>q t _ _ ((s1.trans s2).trans (zT ht)) ((s1.trans s2).free ht) zK ?_⟩
  exact p7 (hR.same (s1.trans s2)).ol ht ((il.same s2 (hR.same s1).ol).append il')
 ·cases e
end
noncomputable def mN(l:List (List Nat)):Prop:=l.Pairwise fun a b=>¬b<a
open Classical in
noncomputable def zAQ(l:List (List Nat)):List (List Nat):=if h:∃m,m.Perm l/\mN m then h.choose else l
theorem tY{l m:List (List Nat)}(h1:mN l)(h2:mN m)(p:l.Perm m):l=m:=
 List.Perm.eq_of_pairwise (le:=fun a b=>¬b<a) (fun a b _ _ x y=>List.le_antisymm (as:=a) (bs:=b) x y) h1 h2 p
theorem oY{l m:List (List Nat)}(p:m.Perm l)(h:mN m):m=zAQ l:=by
 have ex:∃m,m.Perm l/\mN m:=⟨m,p,h⟩
 unfold zAQ
 rw[dif_pos ex]
 exact tY h ex.choose_spec.2 (p.trans ex.choose_spec.1.symm)
theorem oX(l:List (List Nat)):(zAQ l).length=l.length:=by
 unfold zAQ
 split
 ·rename_i h;exact h.choose_spec.1.length_eq
 ·rfl
theorem bS:∀(p:Str) (l:List Str),risingS p l=true->((p::l).map fun s=>s.cps.toList).Pairwise fun a b=>¬b<a
 |p,[],_=>by simp
 |p,x::r,h=>by
  unfold risingS at h
  rw[Bool.and_eq_true] at h
  have ih:=bS x r h.2
  have hx:¬x.cps.toList<p.cps.toList:=by
   have:=h.1
   rw[ltCps_eq] at this
   simpa using this
  rw[ao,List.pairwise_cons]
  refine⟨fun b hb=>?_,ih⟩
  rw[ao,List.mem_cons] at hb
  rcases hb with rfl|hb
  ·exact hx
  ·rw[ao,List.pairwise_cons] at ih
   exact List.le_trans (l₁:=p.cps.toList) (l₂:=x.cps.toList) hx (ih.1 b hb)
theorem m7:∀(l:List Str),sortedS l=true->mN (l.map fun s=>s.cps.toList)
 |[],_=>by simp[mN]
 |x::r,h=>bS x r h
theorem kC:∀{ss:List (List Nat)} {its:List Value},Vals (ss.map fun s=>V.str ⟨s.toArray⟩) its->StrsAre its (ss.map fun s=>(⟨s.toArray⟩:Str))
 |[],_,.nil=>.nil
 |s::ss,_,.cons r t=>by
  obtain⟨u,rfl⟩:=r
  exact .cons _ _ (kC t)
theorem kB:∀{ss:List Str} {its:List Value},StrsAre its ss->Vals ((ss.map fun s=>s.cps.toList).map fun s=>V.str ⟨s.toArray⟩) its
 |_,_,.nil=>.nil
 |_,_,.cons x t h=>.cons ⟨t,by simp⟩ (kB h)
noncomputable def qJ(bd:D->En->Option En)(x:En->Option (D×En)):List D->En->Option (List D×En)
 |[],r=>some ([],r)
 |d::l,r=>(bd d r).bind fun r1=>(x r1).bind fun p=>(qJ bd x l p.2).map fun q=>(p.1::q.1,q.2)
noncomputable def uY(i n:Nat)(it:ML)(bd:D->En->Option En)(x:En->Option (D×En)):En->Option (D×En):=fun r=>(it r).bind fun l=>(zC9 r i).bind fun L=>if l.length<sizeLine then (qJ bd x l (Sl.p L::List.replicate (n-1) Sl.un)).bind fun(q:List D×En)=>match (q.2[0]?:Option Sl) with
 |some (.p L')=>(QG i L' r).map fun r'=>(.lst q.1,r')
 |_=>none
 else none
section
variable{X:Cx}{N':List Str}{scope:Scope}{elt tg iter:Expr}{pos:Pos}{it:ML}{bd:D->En->Option En}{x:En->Option (D×En)}{i:Nat}
theorem nF{q:Sl->Option (List D)}(hu:q .un=none){L m:List D}{k j:Nat}(e:((Sl.p L::List.replicate k Sl.un)[j]?).bind q=some m):j=0/\q (.p L)=some m:=by
 cases j with
 |zero=>exact⟨rfl,e⟩
 |succ j=>
  rw[List.getElem?_cons_succ,List.getElem?_replicate] at e
  split at e
  ·rw[ac,hu] at e;cases e
  ·cases e
theorem R.cap1{K:Fg}{O:Addr->Prop}{H:Hp}{L:List D}{xs:List V}{a:Addr}{k:Nat}(ol:qR O H)(ha:O a)(ea:H a=some (.lst xs))(il:IsL K O H L xs):R K O H (.p L::List.replicate k .un) (some (.ref a)::List.replicate k none):=by
 have ow:∀b,Ow O (.p L::List.replicate k .un) (some (.ref a)::List.replicate k none) b->H b≠none->O b:=fun b z _=>z.elim id fun⟨j,m,ej,qj⟩=>by
  obtain⟨rfl,_⟩:=nF rfl ej
  cases qj;exact ha
 have get:∀(j:Nat) (x:Sl),(Sl.p L::List.replicate k Sl.un)[j]?=some x->(j=0/\x=.p L)\/x=.un:=fun j x e=>by
  cases j with
  |zero=>cases e;exact .inl ⟨rfl,rfl⟩
  |succ j=>
   rw[List.getElem?_cons_succ,List.getElem?_replicate] at e
   split at e
   ·cases e;exact .inr rfl
   ·cases e
 refine⟨by simp,fun j d e=>?_,fun j m e=>?_,fun j j' b m m' e1 e2 _ _=>?_,ol,fun j m b e _=>?_,fun j m b e q=>?_,fun j ks m e=>?_⟩
 ·rcases get _ _ e with⟨_,z⟩|z<;>cases z
 ·obtain⟨rfl,e2⟩:=nF rfl e
  cases e2
  exact⟨a,xs,rfl,ea,IsL.mono (Same.kp (Same.refl H) _) ol ow _ _ il⟩
 ·rw[(nF rfl e1).1,(nF rfl e2).1]
 ·rcases e with e|e|⟨_,e⟩<;>rcases get _ _ e with⟨_,z⟩|z<;>cases z
 ·rcases get _ _ e with⟨rfl,z⟩|z
  ·cases q;exact ha
  ·cases z
 ·rcases get _ _ e with⟨_,z⟩|z<;>cases z
theorem oB(hx:∀r d r',x r=some (d,r')->∀σ b,wK r' σ b->wK r σ b){σ:St}{H:Hp}{Q:VK}(h:lX X.K (uY i N'.length it bd x) σ H Q):zBP [i] N'.length (lI X.K it) (lG X.K bd) none (lX X.K x) σ H Q:=by
 obtain⟨O0,r,dv,r',hR,e,q⟩:=h
 obtain⟨l,e1,e⟩:=bind_some e
 obtain⟨L,e2,e⟩:=bind_some e
 split at e
 ·rename_i hlen
  obtain⟨⟨out,rE⟩,e3,e⟩:=bind_some e
  simp only at e
  split at e
  ·rename_i L' eL
   obtain⟨r2',e4,e5⟩:=map_some e
   have hd1:D.lst out=dv:=congrArg Prod.fst e5
   have hr1:r2'=r':=congrArg Prod.snd e5
   subst hd1 hr1
   refine⟨O0,r,l,hR,e1,fun J H1 s1 yl p hp=>?_⟩
   have R1:=hR.same s1
   obtain⟨a,xs,ha,hxa,il⟩:=ZT R1 e2
   have mut_a:MutAt r σ a:=⟨i,L,zHN e2,ha⟩
   have own_a:Ow O0 r σ a:=.inr mut_a.own
   have hpa:a≠p:=fun z=>by subst z;rw[hp] at hxa;cases hxa
   have hnO:¬Ow O0 r σ p:=R1.nofresh hp
   let O':Addr->Prop:=fun b=>Ow O0 r σ b\/b=p
   have ol1:qR O' (upd H1 p (.lst [])):=fun b z=>by
    by_cases hb:b=p
    ·subst hb;exact⟨_,zK,trivial⟩
    ·rw[zI hb];exact z.elim (R1.ol b) fun z=>absurd z hb
   have hsig:zAR [i] N'.length σ=some (.ref a)::List.replicate (N'.length-1) none:=by
    unfold zAR
    rw[ao,List.map_nil,ha];rfl
   rw[hsig]
   refine⟨fun k m ys σ2 H2=>m=l.length-k/\k<=l.length/\ys.length<=k/\H2 p=some (.lst ys)/\σ2[0]?=some (some (.ref a))/\(∀b u,b≠a->H1 b=some u->H2 b=some u)/\(∀b,H2 b=none->H1 b=none) /\
     ∃r2 dn rest,R X.K O' H2 r2 σ2/\(∀b,wK r2 σ2 b->b=a)/\(∃L2,r2[0]?=some (.p L2))/\IsL X.K O' H2 dn ys/\qJ bd x (l.drop k) r2=some (rest,rE)/\dn++rest=out,
    ⟨l.length,by simp,Nat.zero_le _,al _,zK,?_,?_,?_,_,[],out,R.cap1 (k:=N'.length-1) ol1 (.inl own_a) (by rw[zI hpa];exact hxa) (p7 R1.ol hp il),?_,⟨L,rfl⟩,.nil,by simpa using e3,rfl⟩,?_⟩
   ·rfl
   ·intro b u hb eb
    rw[zI (fun z=>by subst z;rw[hp] at eb;cases eb)];exact eb
   ·intro b eb
    by_cases hb:b=p
    ·subst hb;exact hp
    ·rw[zI hb] at eb;exact eb
   ·rintro b ⟨j,m,ej,qj⟩
    obtain⟨rfl,_⟩:=nF rfl ej
    cases qj;rfl
   ·rintro k m ys σ2 H2 ⟨rfl,hkl,hyl,hp2,hs2,kp2,lv2,r2,dn,rest,R2,no2,⟨L2,eL2⟩,il2,e6,eo⟩
    refine⟨hp2,by omega,?_⟩
    have hO:∀b,Ow O' r2 σ2 b->O' b:=fun b z=>z.elim id fun z=>.inl (by rw[no2 b z];exact own_a)
    obtain⟨y1,y2⟩:=yl k H2 O' (fun b u eb nb=>kp2 b u (fun z=>nb (by rw[z];exact mut_a)) eb) fun b z nn=>z.elim id fun z=>by subst z;exact absurd hp nn
    by_cases hlt:k<l.length
    ·obtain⟨go,yd⟩:=y1 hlt
     have hd:l[k]?=some l[k]:=by simp[hlt]
     rw[kW hd] at e6
     obtain⟨r3,e7,e8⟩:=bind_some e6
     obtain⟨⟨y,r4⟩,e9,e10⟩:=bind_some e8
     obtain⟨⟨rest',rE'⟩,e11,e12⟩:=map_some e10
     have ha1:y::rest'=rest:=congrArg Prod.fst e12
     have ha2:rE'=rE:=congrArg Prod.snd e12
     subst ha1 ha2
     refine .inr ⟨go,fun v H3 yv=>?_⟩
     obtain⟨s3,iv⟩:=yd v H3 yv
     have R3:=R2.same s3
     refine⟨O',r2,l[k],r3,R3,?_,e7,fun σ4 R4 k4=>?_⟩
     ·exact Is.mono (Same.kp (Same.refl H3) _) R3.o0 (fun b z _=>hO b z) _ _ (iv _ hd)
     have hp3:=s3 _ _ hp2
     have no4:∀b,wK r3 σ4 b->b=a:=fun b z=>by
      rcases k4.new b z with z'|z'
      ·exact no2 b z'
      ·obtain⟨zs,ez,_⟩:=R4.ol b (.inr z)
       rw[z'] at ez;cases ez
     obtain⟨⟨L3,eL3⟩,hs4⟩:=k4.par 0 L2 eL2
     refine⟨O',r3,y,r4,R4,e9,fun u H6 R6 k6 iu=>?_⟩
     have nm:∀b,MutAt r3 σ4 b->b=a:=fun b z=>no4 b z.own
     have hp6:H6 p=some (.lst ys):=k6.keep p _ hp3 fun z=>hpa (nm p z).symm
     have no6:∀b,wK r4 σ4 b->b=a:=fun b z=>by
      exact no4 b (hx _ _ _ e9 σ4 b z)
     obtain⟨⟨L4,eL4⟩,_⟩:=k6.par 0 L3 eL3
     have kk:vK O' H6 (upd H6 p (.lst (ys++[u]))):=fun b' o' e' nn=>by rw[zI (fun z=>nn (.inr z))];exact e'
     have k36:vK O' H3 H6:=fun b' o' e' nn=>k6.keep b' o' e' fun z=>nn (.inl (by rw[nm b' z];exact own_a))
     refine⟨hp6,l.length-(k+1),by omega,rfl,hlt,by simp;omega,zK,by rw[hs4];exact hs2,?_,?_,r4,dn++[y],rest',?_,no6,⟨L4,eL4⟩,?_,e11,by rw[<-eo];simp⟩
     ·intro b u' hb eb
      have hbp:b≠p:=fun z=>by subst z;rw[hp] at eb;cases eb
      rw[zI hbp]
      exact k6.keep b _ (s3 _ _ (kp2 b u' hb eb)) fun z=>hb (nm b z)
     ·intro b eb
      by_cases hb:b=p
      ·subst hb;exact hp
      ·rw[zI hb] at eb
       exact lv2 b (s3.free (k6.live b eb))
     ·refine⟨R6.len,fun j d ej=>?_,fun j m ej=>?_,R6.apart,fun b' z=>?_,R6.loc,R6.par,fun j ks m ej=>?_⟩
      ·obtain⟨w,q1,q2⟩:=R6.val j d ej
       exact⟨w,q1,Is.mono (fun b' o' e' nn=>kk b' o' e' fun z=>nn (.inl z)) R6.ol (fun _ z _=>z) _ _ q2⟩
      ·obtain⟨a',xs',q1,q2,q3⟩:=R6.own j m ej
       have ha':=no6 a' ⟨j,m,qW ej,q1⟩
       exact⟨a',xs',q1,by rw[zI (by rw[ha'];exact hpa)];exact q2,IsL.mono (fun b' o' e' nn=>kk b' o' e' fun z=>nn (.inl z)) R6.ol (fun _ z _=>z) _ _ q3⟩
      ·rcases z with z|z
       ·by_cases hb:b'=p
        ·subst hb;exact⟨_,zK,trivial⟩
        ·rw[zI hb];exact R6.o0 b' (.inl z)
       ·subst z;exact⟨_,zK,trivial⟩
      ·obtain⟨a',kvs,q1,q2,q4,q3⟩:=R6.dct j ks m ej
       have ha':=no6 a' ⟨j,m,by rw[ej];rfl,q1⟩
       exact⟨a',kvs,q1,by rw[zI (by rw[ha'];exact hpa)];exact q2,q4,IsL.mono (fun b' o' e' nn=>kk b' o' e' fun z=>nn (.inl z)) R6.ol (fun _ z _=>z) _ _ q3⟩
     ·have i1:=IsL.mono k36 R3.o0 (fun _ z _=>z) _ _ (il2.same s3 R2.o0)
      have i2:Is X.K O' H6 y u:=Is.mono (Same.kp (Same.refl H6) _) R6.ol (fun a z _=>.inl z) _ _ iu
      exact IsL.mono kk R6.o0 (fun _ z _=>z) _ _ (i1.append (.cons i2 .nil))
    ·have hl:l.drop k=[]:=List.drop_eq_nil_of_le (by omega)
     rw[hl] at e6
     have e6':some ([],r2)=some (rest,rE):=e6
     cases e6'
     rw[List.append_nil] at eo
     subst eo
     obtain⟨c0,zs,q0,q1,q2⟩:=R2.own 0 L' (by rw[eL];rfl)
     rw[hs2] at q0;cases q0
     obtain⟨RE,kE⟩:=R1.put e4 ha kp2 (fun b _=>lv2 b) q1 (IsL.mono (Same.kp (Same.refl H2) _) R2.ol (fun b z _=>.inl (.inl z)) _ _ q2)
     refine .inl ⟨y2 (by omega),q _ H2 RE ((Kp.of_same r σ s1).trans kE) ?_⟩
     rw[Is.lst_iff]
     have np:∀b,Ow O0 r2' σ b->Ow O0 r σ b:=fun b z=>z.imp id fun z=>XE e4 z
     exact⟨p,ys,rfl,.inl ⟨fun z=>hnO (np p z),.inl hp2⟩,IsL.mono (Same.kp (Same.refl H2) _) R2.o0 (fun b z _=>.inl (np b z)) _ _ il2⟩
  ·cases e
 ·cases e
theorem JQ(hc:X.calm=true)(o:CmpOk X N' [i] scope)(hi:DI X tg iter it)(hg:∀C fp s H,DG (cxC X N' scope C fp s H) tg bd)(he:∀C fp s H,DX (cxC X N' scope C fp s H) elt x)(hx:∀r d r',x r=some (d,r')->∀σ b,wK r' σ b->wK r σ b)(n:Nat)(hn:N'.length=n:=by rfl)(hs:∀x,foldedSetIterable iter X.env x=pure x:=by intro _;rfl):DX X (.ListComp elt [⟨tg,iter,[],0⟩] scope pos) (uY i n it bd x):=by
 subst hn
 exact PE.conseq (uN (g:=lG X.K bd) (te:=lX X.K x) (tc:=none) hc o hi hg rfl he hs) fun σ H Q h=>oB hx h
theorem zCD{j:Nat}:∀r d r',gT j r=some (d,r')->∀σ b,wK r' σ b->wK r σ b:=fun r d r' e σ b h=>by
 obtain⟨l,_,e⟩:=bind_some e
 obtain⟨d',_,e⟩:=bind_some e
 obtain⟨r2,e3,e4⟩:=map_some e
 have:r2=r':=congrArg Prod.snd e4
 subst this
 exact XE e3 h
end
section
variable{X:Cx}{a:Expr}{es:List Expr}{f:ME}{pos p:Pos}
noncomputable abbrev MXA:=En->Option (List D×En)
noncomputable def lXA(K:Fg)(f:MXA):TA:=fun σ H Q=>∃O0 r l r',R K O0 H r σ/\f r=some (l,r')/\∀vs H',R K O0 H' r' σ->Kp H r σ H' r' σ->IsL K (Ow O0 r' σ) H' l vs->Q vs H'
noncomputable def DXA(X:Cx)(es:List Expr)(f:MXA):Prop:=PA X es (lXA X.K f)
noncomputable def kA(fx:En->Option (D×En)):MXA:=fun r=>(fx r).map fun p=>([p.1],p.2)
noncomputable def qS(f:ME)(z:MXA):MXA:=fun r=>(f r).bind fun d=>(z r).map fun q=>(d::q.1,q.2)
theorem rF{fx:En->Option (D×En)}(ha:DX X a fx)(hs:starEach [a] X.env=(false,eval a X.env)::starEach [] X.env:=by rfl):DXA X [a] (kA fx):=by
 refine PA.conseq (zX ha y0 hs) fun σ H Q hq=>?_
 obtain⟨O0,r,l,r',hR,e,q⟩:=hq
 obtain⟨⟨d,r1⟩,e1,e2⟩:=map_some e
 cases e2
 exact⟨O0,r,d,r1,hR,e1,fun v H1 R1 k1 i1=>q [v] H1 R1 k1 (.cons i1 .nil)⟩
theorem Is.kp{K:Fg}{O0:Addr->Prop}{H H':Hp}{r r':En}{σ σ':St}{d:D}{v:V}(hR:R K O0 H r σ)(k:Kp H r σ H' r' σ')(h:Is K (Ow O0 r σ) H d v):Is K (Ow O0 r' σ') H' d v:=
 Is.mono (fun b o e nn=>k.keep b o e fun z=>nn (.inr z.own)) hR.ol (fun b z n=>z.imp id fun z=>(k.new b z).elim id fun z=>absurd z n) _ _ h
theorem dL{z:MXA}(ha:DE X a f)(hr:DXA X es z)(hs:starEach (a::es) X.env=(false,eval a X.env)::starEach es X.env:=by rfl):DXA X (a::es) (qS f z):=by
 refine PA.conseq (zX ha hr hs) fun σ H Q hq=>?_
 obtain⟨O0,r,l,r',hR,e,q⟩:=hq
 obtain⟨d,e1,e⟩:=bind_some e
 obtain⟨⟨l',r1⟩,e2,e3⟩:=map_some e
 cases e3
 refine⟨O0,r,d,hR,e1,fun v H1 s1 i1=>⟨O0,r,l',r1,hR.same s1,e2,fun vs H2 R2 k2 i2=>q (v::vs) H2 R2 ((Kp.of_same r σ s1).trans k2) (.cons (Is.kp (hR.same s1) k2 i1) i2)⟩⟩
noncomputable def jF(n:Nat)(m:MF)(z:MXA):En->Option (D×En):=fun r=>(z r).bind fun q=>if q.1.length=n then (m (q.1.map .v)).map fun p=>(rsD p.1,q.2) else none
theorem rG{k n:Nat}{fa:Addr}{fd:FuncData}{ps:List Str}{m:MF}{x:Str}{z:MXA}(F:FnOk X.prog X.w X.K X.mg X.base CX0 k fa fd ps (spD X.K n m))(hr:Room k X.A)(hg:Gl X x)(hm:X.mg x=some (.ref fa))(hk:PySem.W.keepIn X.K (.ref fa)=true)(hb:Binds X.K fd ps [])(ha:DXA X (a::es) z)(hdb:(x == ("__debug__" : Str))=false:=by decide)(he:starEach (a::es) X.env=(false,eval a X.env)::starEach es X.env:=by rfl)(hpl:(backTo pos (starEach es X.env)).any (·.1)=false:=by rfl):DX X (.Call (.Name x p) (a::es) [] pos) (jF n m z):=by
 refine PE.conseq (vV (E:=fun _ _ _=>False) (dvs:=[]) F hr hg hm hk hb .nil cS ha hdb he hpl) fun σ H Q h=>?_
 obtain⟨O0,r,d,r',hR,e,q⟩:=h
 obtain⟨⟨ds,r1⟩,e1,e2⟩:=bind_some e
 split at e2
 ·rename_i hl
  obtain⟨⟨rs,as'⟩,e3,e4⟩:=map_some e2
  have h1:rsD rs=d:=congrArg Prod.fst e4
  have h2:r1=r':=congrArg Prod.snd e4
  subst h1 h2
  refine⟨O0,r,ds,r1,hR,e1,fun vs H1 R1 k1 il=>bP R1 (Same.refl H1) il hl e3 ?_⟩
  have go:∀{H2:Hp},Same H1 H2->R X.K O0 H2 r1 σ/\Kp H r σ H2 r1 σ:=fun s=>⟨R1.same s,k1.trans (Kp.of_same r1 σ s)⟩
  cases rs with
  |v d=>exact fun v H2 pf iv=>q v H2 (go pf.same).1 (go pf.same).2 iv
  |f l=>
   refine fun a xs H2 pf na ea il2=>q _ H2 (go pf.same).1 (go pf.same).2 ?_
   have olp:qR (fun b=>Ow O0 r1 σ b\/b=a) H2:=fun b z=>z.elim (fun z=>(R1.same pf.same).ol b z) fun z=>by subst z;exact⟨.lst xs,ea,trivial⟩
   show Is X.K (Ow O0 r1 σ) H2 (.lst l) (.ref a)
   rw[Is.lst_iff]
   exact⟨a,xs,rfl,.inl ⟨R1.nofresh na,.inl ea⟩,IsL.mono (Same.kp (Same.refl H2) _) olp (fun _ z _=>.inl z) _ _ il2⟩
  |g ks l=>
   refine fun a kvs H2 pf na ea ek il2=>q _ H2 (go pf.same).1 (go pf.same).2 ?_
   have olp:qR (fun b=>Ow O0 r1 σ b\/b=a) H2:=fun b z=>z.elim (fun z=>(R1.same pf.same).ol b z) fun z=>by subst z;exact⟨.dK kvs,ea,trivial⟩
   show Is X.K (Ow O0 r1 σ) H2 (.dct ks l) (.ref a)
   rw[Is.dct_iff]
   exact⟨a,kvs,rfl,R1.nofresh na,.inl ea,ek,IsL.mono (Same.kp (Same.refl H2) _) olp (fun _ z _=>.inl z) _ _ il2⟩
 ·cases e2
end
noncomputable def WL:List D->List D->Bool
 |[],[]=>false
 |.int _::_,.lst _::_=>true
 |_::m,_::l=>WL m l
 |[],_::_=>true
 |_::_,[]=>true
mutual
noncomputable def apD(l:List D):D->Bool
 |.tup m=>apL l m
 |.lst m=>WL m l && apL l m
 |.dct _ _=>false
 |_=>true
noncomputable def apL(l:List D):List D->Bool
 |[]=>true
 |d::m=>apD l d && apL l m
end
theorem rL{K:Fg}{O O':Addr->Prop}{H:Hp}:∀{m l:List D} {xs:List V},WL m l=true->IsL K O H m xs->IsL K O' H l xs->False
 |[],[],xs,c,_,_=>by simp[WL] at c
 |[],e::l,xs,_,h,h'=>by
  unfold IsL at h;subst h
  unfold IsL at h';obtain⟨v,r,e,_⟩:=h';cases e
 |d::m,[],xs,_,h,h'=>by
  unfold IsL at h';subst h'
  unfold IsL at h;obtain⟨v,r,e,_⟩:=h;cases e
 |d::m,e::l,xs,c,h,h'=>by
  unfold IsL at h;obtain⟨v,r,rfl,h1,h2⟩:=h
  unfold IsL at h';obtain⟨v',r',ee,h1',h2'⟩:=h'
  cases ee
  by_cases hc:WL m l=true
  ·exact rL hc h2 h2'
  ·unfold WL at c
   split at c
   ·rename_i e1 e2;cases e1
   ·rename_i i t l' t' e1 e2
    cases e1;cases e2
    rw[Is.int_iff] at h1
    rw[Is.lst_iff] at h1'
    obtain⟨a,ys,q,_⟩:=h1'
    rw[h1] at q;cases q
   ·rename_i e1 e2
    cases e1;cases e2
    exact hc c
   ·rename_i e1 e2;cases e1
   ·rename_i e1 e2;cases e2
mutual
theorem zJM{K:Fg}{O O':Addr->Prop}{H:Hp}{a:Addr}{xs:List V}{l:List D}(hO:∀b,O b->O' b\/b=a)(ha:H a=some (.lst xs))(il:IsL K O' H l xs):∀(d:D) (v:V),apD l d=true->Is K O' H d v->Is K O H d v
 |.non,v,_,h=>by unfold Is at h ⊢;exact h
 |.bl b,v,_,h=>by unfold Is at h ⊢;exact h
 |.int i,v,_,h=>by unfold Is at h ⊢;exact h
 |.str s,v,_,h=>by unfold Is at h ⊢;exact h
 |.ty n,v,_,h=>by unfold Is at h ⊢;exact h
 |.ref a,v,_,h=>by unfold Is at h ⊢;exact h
 |.dct ks m,v,p,h=>by unfold apD at p;cases p
 |.tup m,v,p,h=>by
  unfold apD at p
  unfold Is at h ⊢
  obtain⟨b,ys,e,q,r⟩:=h
  exact⟨b,ys,e,q,YV hO ha il m ys p r⟩
 |.lst m,v,p,h=>by
  unfold apD at p
  rw[Bool.and_eq_true] at p
  unfold Is at h ⊢
  obtain⟨b,ys,e,q,r⟩:=h
  refine⟨b,ys,e,?_,YV hO ha il m ys p.2 r⟩
  rcases q with⟨n,q⟩|q
  ·refine .inl ⟨fun z=>?_,q⟩
   rcases hO b z with z|z
   ·exact n z
   ·subst z
    rcases q with q|⟨o,q⟩
    ·rw[ha] at q;cases q
     exact rL p.1 r il
    ·rw[ha] at q;cases q
  ·exact .inr q
theorem YV{K:Fg}{O O':Addr->Prop}{H:Hp}{a:Addr}{xs:List V}{l:List D}(hO:∀b,O b->O' b\/b=a)(ha:H a=some (.lst xs))(il:IsL K O' H l xs):∀(m:List D) (vs:List V),apL l m=true->IsL K O' H m vs->IsL K O H m vs
 |[],vs,_,h=>by unfold IsL at h ⊢;exact h
 |d::m,vs,p,h=>by
  unfold apL at p
  rw[Bool.and_eq_true] at p
  unfold IsL at h ⊢
  obtain⟨v,r,e,h1,h2⟩:=h
  exact⟨v,r,e,zJM hO ha il d v p.1 h1,YV hO ha il m r p.2 h2⟩
end
section
variable{X:Cx}{es:List Expr}{fs:ML}{pos p pn:Pos}
noncomputable def nQ(n:Nat)(m:MF)(i:Nat)(fs:ML):ME:=fun r=>(dF i r).bind fun l=>(fs r).bind fun ds=>if ds.length+1=n then (m ((.lst l::ds).map .v)).bind fun p=>if apD l (rsD p.1)=true then some (rsD p.1) else none else none
theorem rH{k n i:Nat}{fa:Addr}{fd:FuncData}{ps:List Str}{m:MF}{x y:Str}(F:FnOk X.prog X.w X.K X.mg X.base CX0 k fa fd ps (spD X.K n m))(hr:Room k X.A)(hg:Gl X x)(hm:X.mg x=some (.ref fa))(hk:PySem.W.keepIn X.K (.ref fa)=true)(hb:Binds X.K fd ps [])(hy:PE X (.Name y pn) (j3 i))(ha:DA X es fs)(hdb:(x == ("__debug__" : Str))=false:=by decide)(he:starEach (.Name y pn::es) X.env=(false,eval (.Name y pn) X.env)::starEach es X.env:=by rfl)(hpl:(backTo pos (starEach es X.env)).any (·.1)=false:=by rfl):DE X (.Call (.Name x p) (.Name y pn::es) [] pos) (nQ n m i fs):=by
 refine PE.conseq (vV (E:=fun _ _ _=>False) (dvs:=[]) F hr hg hm hk hb .nil cS (zX hy ha he) hdb he hpl) fun σ H Q hq=>?_
 obtain⟨O0,r,d,hR,e,q⟩:=hq
 obtain⟨l,e1,e⟩:=bind_some e
 obtain⟨ds,e2,e⟩:=bind_some e
 split at e
 ·rename_i hn
  obtain⟨⟨rs,as'⟩,e3,e⟩:=bind_some e
  split at e
  ·rename_i hap
   have hd:=aq e
   subst hd
   obtain⟨a,xs,q1,q2,q3⟩:=hR.own i l e1
   refine⟨.ref a,q1,O0,r,ds,hR,e2,fun vs H1 s1 il=>?_⟩
   show spD X.K n m ((.ref a::vs)++[]) H1 Q _
   rw[List.append_nil]
   have R1:=hR.same s1
   let O':Addr->Prop:=fun b=>Ow O0 r σ b/\b≠a
   have ol':qR O' H1:=fun b z=>R1.ol b z.1
   have dn:∀{d:D} {v:V},Is X.K (Ow O0 r σ) H1 d v->Is X.K O' H1 d v:=fun h=>Is.mono (Same.kp (Same.refl H1) _) R1.ol (fun _ z _=>z.1) _ _ h
   have dnL:∀{d:List D} {v:List V},IsL X.K (Ow O0 r σ) H1 d v->IsL X.K O' H1 d v:=fun h=>IsL.mono (Same.kp (Same.refl H1) _) R1.ol (fun _ z _=>z.1) _ _ h
   have q2':=s1 _ _ q2
   have q3':=dnL (q3.same s1 hR.ol)
   have ia:IsL X.K O' H1 (.lst l::ds) (.ref a::vs):=.cons (by rw[Is.lst_iff];exact⟨a,xs,rfl,.inl ⟨fun z=>z.2 rfl,.inl q2'⟩,q3'⟩) (dnL il)
   have hO:∀b,Ow O0 r σ b->O' b\/b=a:=fun b z=>by
    by_cases hb:b=a
    ·exact .inr hb
    ·exact .inl ⟨z,hb⟩
   refine⟨O',(D.lst l::ds).map .v,rs,as',by simpa using hn,R.args ol' ia,fun j l'=>?_,e3,?_⟩
   ·rw[ba]
    cases e1:(D.lst l::ds)[j]? with
    |none=>exact⟨(fun z=>by cases z),(fun z=>by cases z),(fun _ z=>by cases z)⟩
    |some y=>exact⟨(fun z=>by cases z),(fun z=>by cases z),(fun _ z=>by cases z)⟩
   ·cases rs with
    |v d'=>
     exact fun v H2 pf iv=>q v H2 (s1.trans pf.same) (zJM hO (pf.same _ _ q2') (q3'.same pf.same ol') _ _ hap iv)
    |f l'=>
     refine fun b ys H2 pf nb eb il2=>q _ H2 (s1.trans pf.same) ?_
     have hap':apL l l'=true:=by
      have:apD l (.lst l')=true:=hap
      unfold apD at this
      rw[Bool.and_eq_true] at this
      exact this.2
     have hba:¬Ow O0 r σ b:=R1.nofresh nb
     have i3:IsL X.K O' H2 l' ys:=IsL.mono (Same.kp (Same.refl H2) _) (fun c z=>z.elim (fun z=>by
      obtain⟨zs,ez,mb⟩:=ol' c z;exact⟨zs,pf.same _ _ ez,mb⟩) fun z=>by subst z;exact⟨.lst ys,eb,trivial⟩) (fun _ z _=>.inl z) _ _ il2
     show Is X.K (Ow O0 r σ) H2 (.lst l') (.ref b)
     rw[Is.lst_iff]
     exact⟨b,ys,rfl,.inl ⟨hba,.inl eb⟩,YV hO (pf.same _ _ q2') (q3'.same pf.same ol') _ _ hap' i3⟩
    |g ks l'=>exact absurd (show apD l (.dct ks l')=true from hap) (by unfold apD;simp)
  ·cases e
 ·cases e
end
end DD
namespace ZZ
open PySem
noncomputable abbrev lI(t:Addr):Obj:={ cls:=.type "list_iterator",data:=.fields #[.ref t,.int 0 0] }
noncomputable abbrev zHM(h:Heap)(t u:Addr):Heap:=((((h.push (tI t)).push (lI u)).push (tP (.ref h.objs.size) (.ref (h.push (tI t)).objs.size))).push (tP .none .none)).push (tZ ((h.push (tI t)).push (lI u)).objs.size (((h.push (tI t)).push (lI u)).push (tP (.ref h.objs.size) (.ref (h.push (tI t)).objs.size))).objs.size)
theorem zJX(t u:Addr)(xs ys:Array Value):Meets (Builtin.«zip.__new__» ⟨[.type "zip",.ref t,.ref u],[]⟩) (fun _ R s=>s.heap.IsTuple t xs/\s.heap.IsList u ys/\R (.ok (.ret (.ref ((((s.heap.push (tI t)).push (lI u)).push (tP (.ref s.heap.objs.size) (.ref (s.heap.push (tI t)).objs.size))).push (tP .none .none)).objs.size))) { s with heap:=zHM s.heap t u }):=
 .of_wp fun prog w A R s h=>by
  obtain⟨hp,g,d,tk,os⟩:=s;obtain⟨h1,h2,h⟩:=h
  have hsub:=sub_zip
  have L1:Heap.IsTuple (Shared.heap ⟨hp,g,d,tk,os⟩) t xs:=h1
  have L2:Heap.IsList (Shared.heap ⟨hp.push (tI t),g,d,tk,os⟩) u ys:=h2.at fun o e=>ad _ e
  wp_walk using wpAny_pyIter_tuple L1,wpAny_pyIter_list L2
  exact⟨_,rfl,h⟩
section
variable{prog:Program}{w:World}{A:Around}{E:Value->Shared->Prop}{s:Shared}
theorem zcallM{t u:Addr}{xs ys:Array Value}{Q:Value->Shared->Prop}(h1:s.heap.IsTuple t xs)(h2:s.heap.IsList u ys)(h:∀g,IsZip g (s.heap.objs.size+4) (s.heap.objs.size+2) (s.heap.objs.size+3) .none->IsPair g (s.heap.objs.size+2) (.ref s.heap.objs.size) (.ref (s.heap.objs.size+1))->IsPair g (s.heap.objs.size+3) .none .none ->
   g.IsTupleIter s.heap.objs.size t 0->g.IsListIter (s.heap.objs.size+1) u 0->(∀c o,s.heap.get? c=some o->g.get? c=some o)->Q (.ref (s.heap.objs.size+4)) { s with heap:=g }):wpAny (model prog w) A (call (.type "zip") [.ref t,.ref u]) Q E s:=by
 refine callType_new F.called_zip (by decide) (F.typeCall_zip_2 _ _) (F.newCall_zip_2 _ _) (fun obj=>F.args_object_init_3 obj _ _) F.entry_zip_new (zJX t u xs ys) ⟨h1,h2,?_⟩
 have z1:(s.heap.push (tI t)).objs.size=s.heap.objs.size+1:=Heap.size_push ..
 have z2:((s.heap.push (tI t)).push (lI u)).objs.size=s.heap.objs.size+2:=by rw[Heap.size_push,z1]
 have z3:(((s.heap.push (tI t)).push (lI u)).push (tP (.ref s.heap.objs.size) (.ref (s.heap.push (tI t)).objs.size))).objs.size=s.heap.objs.size+3:=by rw[Heap.size_push,z2]
 have z4:((((s.heap.push (tI t)).push (lI u)).push (tP (.ref s.heap.objs.size) (.ref (s.heap.push (tI t)).objs.size))).push (tP .none .none)).objs.size=s.heap.objs.size+4:=by rw[Heap.size_push,z3]
 have kp:∀c o,s.heap.get? c=some o->(zHM s.heap t u).get? c=some o:=fun c o x=>ad _ (ad _ (ad _ (ad _ (ad _ x))))
 have g1:(zHM s.heap t u).get? s.heap.objs.size=some (tI t):=ad _ (ad _ (ad _ (ad _ (ah _ rfl))))
 have g2:(zHM s.heap t u).get? (s.heap.push (tI t)).objs.size=some (lI u):=ad _ (ad _ (ad _ (ah _ rfl)))
 have g3:(zHM s.heap t u).get? ((s.heap.push (tI t)).push (lI u)).objs.size=some (tP (.ref s.heap.objs.size) (.ref (s.heap.push (tI t)).objs.size)):=ad _ (ad _ (ah _ rfl))
 have g4:(zHM s.heap t u).get? (((s.heap.push (tI t)).push (lI u)).push (tP (.ref s.heap.objs.size) (.ref (s.heap.push (tI t)).objs.size))).objs.size=some (tP .none .none):=ad _ (ah _ rfl)
 have g5:(zHM s.heap t u).get? ((((s.heap.push (tI t)).push (lI u)).push (tP (.ref s.heap.objs.size) (.ref (s.heap.push (tI t)).objs.size))).push (tP .none .none)).objs.size=some (tZ ((s.heap.push (tI t)).push (lI u)).objs.size (((s.heap.push (tI t)).push (lI u)).push (tP (.ref s.heap.objs.size) (.ref (s.heap.push (tI t)).objs.size))).objs.size):=ah _ rfl
 rw[z4] at g5 ⊢
 rw[z3] at g4 g5
 rw[z2] at g3 g5
 rw[z1] at g2 g3
 exact⟨⟨_,g5,rfl⟩,h _ g5 g3 g4 ⟨_,g1,rfl,rfl⟩ ⟨_,g2,rfl,rfl⟩ kp⟩
end
end ZZ
namespace DD
open PySem PySem.Spec PyProof.Rows L2
noncomputable def zLN(sq sq':Hp->Addr->List V->Prop)(a b:Addr):It:=
 ⟨fun i H=>∃xs ys x y,sq H a xs/\sq' H b ys/\xs[i]?=some x/\ys[i]?=some y,fun i H x H'=>∃T u v,x=.ref T/\H T=none/\H'=upd H T (.tup [u,v])/\(∀xs,sq H a xs->xs[i]?=some u)/\∀ys,sq' H b ys->ys[i]?=some v,fun i H=>∃xs ys,sq H a xs/\sq' H b ys/\(xs.length=i\/(i<xs.length/\ys.length=i))⟩
theorem tK{P:Program}{w:World}{K:Fg}{elts:List Expr}{k:Nat}{tp:Pos}{sq:Hp->Addr->List V->Prop}{isI:Heap->Addr->Addr->Nat->Prop}{nm:String}(W:Dw K sq isI nm){sq':Hp->Addr->List V->Prop}{isI':Heap->Addr->Addr->Nat->Prop}{nm':String}(W':Dw K sq' isI' nm')(a b z p q i j:Addr)(ap:ZA z p q i j):Turn P w K (.Tuple elts k tp) (zLN sq sq' a b) [z,p,q,i,j] z (fun n h=>IsZip h z p q .none/\IsPair h p (.ref i) (.ref j)/\(∃u v,IsPair h q u v)/\isI h i a n/\isI' h j b n) where
 mem:=by simp
 obj:=fun n h st c hc=>by
  obtain⟨h1,h2,⟨u,v,h3⟩,h4,h5⟩:=st
  obtain⟨oi,ei,vi,di⟩:=W.it h4
  obtain⟨oj,ej,vj,dj⟩:=W'.it h5
  have hc':c=z\/c=p\/c=q\/c=i\/c=j:=by simpa using hc
  rcases hc' with rfl|rfl|rfl|rfl|rfl
  ·exact⟨_,h1,fun v z=>by cases z⟩
  ·exact⟨_,h2,fun v z=>by cases z⟩
  ·exact⟨_,h3,fun v z=>by cases z⟩
  ·exact⟨_,ei,fun v z=>by rw[di] at z;cases z⟩
  ·exact⟨_,ej,fun v z=>by rw[dj] at z;cases z⟩
 keep:=fun n h g st kp=>by
  obtain⟨h1,h2,⟨u,v,h3⟩,h4,h5⟩:=st
  exact⟨kp z (by simp) _ h1,kp p (by simp) _ h2,⟨u,v,kp q (by simp) _ h3⟩,W.at_ h4 fun o e=>kp i (by simp) o e,W'.at_ h5 fun o e=>kp j (by simp) o e⟩
 item:=by
  intro X hP hw hK hc n pins s σ H E I hf st hg
  subst hP hw
  obtain⟨xs,ys,x,y,hx,hy,ex,ey⟩:=hg
  obtain⟨its,rv,hzx,oa,ea,ca,na,da⟩:=W.get hK I hx
  obtain⟨its2,rv2,hzy,ob,eb,cb,nb,db⟩:=W'.get hK I hy
  obtain⟨u,hu,ru⟩:=rv.get ex
  obtain⟨v,hv,rw'⟩:=rv2.get ey
  obtain⟨h1,h2,⟨u0,v0,h3⟩,h4,h5⟩:=st
  have fa:∀c∈[z,p,q,i,j],a≠c:=fun c hc=>W.ne hK I hx (hf c hc)
  have fb:∀c∈[z,p,q,i,j],b≠c:=fun c hc=>W'.ne hK I hy (hf c hc)
  have hn:n<its.toArray.size:=by obtain⟨q',_⟩:=ak.mp hu;simpa using q'
  have hm:n<its2.toArray.size:=by obtain⟨q',_⟩:=ak.mp hv;simpa using q'
  have ap':ZZ.Ap z p q i j [i,a] [j,b]:=⟨ap.pz,ap.qz,ap.iz,ap.jz,ap.pq,ap.pi,ap.pj,ap.qi,ap.qj,ap.ij,
   by simp;exact⟨ap.iz.symm,(fa z (by simp)).symm⟩,by simp;exact⟨ap.qi,(fa q (by simp)).symm⟩,by simp;exact⟨ap.ij.symm,(fa j (by simp)).symm⟩,by simp;exact⟨ap.jz.symm,(fb z (by simp)).symm⟩,by simp;exact⟨ap.qj,(fb q (by simp)).symm⟩,by simp;exact⟨ap.ij,(fb i (by simp)).symm⟩⟩
  refine ZZ.znextI (W.dr (A:=X.A.in1) (I.ok.hd hc) i a (fa i (by simp)) its.toArray) (W'.dr (A:=X.A.in1) (I.ok.hd hc) j b (fb j (by simp)) its2.toArray) ap' h1 h2 h3 ⟨h4,oa,ea,ca,na,da⟩ ⟨h5,ob,eb,cb,nb,db⟩ hn hm fun x' y' g tk px py z1 q1 s1 u1 t1 sz kp=>⟨_,rfl,?_⟩
  refine wpAny_letOwnedTupleGo_zip z1 fun g2 z2 sb=>?_
  have hx':x'=u:=by
   have:its[n]?=some x':=by simpa using px
   rw[hu] at this;exact(aq this).symm
  have hy':y'=v:=by
   have:its2[n]?=some y':=by simpa using py
   rw[hv] at this;exact(aq this).symm
  subst hx' hy'
  have zl:z<s.heap.objs.size:=af h1
  have kp2:∀c o,c∉[z,q,i,j]->s.heap.get? c=some o->g2.get? c=some o:=fun c o hc e=>by
   simp at hc
   exact sb.extBut _ _ hc.1 (kp c o hc.1 hc.2.1 hc.2.2.1 hc.2.2.2 e)
  have isT:IsTup g2 s.heap.objs.size #[x',y']:=⟨_,sb.extBut _ _ (Nat.ne_of_gt zl) t1,rfl,_,rfl⟩
  have hf':∀c∈[z,q,i,j],dQ X pins H c:=fun c hc=>hf c (by simp at hc ⊢;rcases hc with h|h|h|h<;>simp[h])
  refine⟨.ref s.heap.objs.size,upd H s.heap.objs.size (.tup [x,y]),dG (s:=s) (t':=tk) I (its:=[x',y']) (ch:=[z,q,i,j]) hf' (al _) kp2 (by show 2<=sizeLine;decide) (.cons ru (.cons rw' .nil)) isT,rfl,⟨_,x,y,rfl,I.hok.fresh (al _),rfl,fun zs hzs=>by rw[W.inj hK I hzs hx];exact ex,fun zs hzs=>by rw[W'.inj hK I hzs hy];exact ey⟩,?_,fun c hc=>?_⟩
  ·refine⟨z2,sb.extBut _ _ ap.pz (kp p _ ap.pz ap.pq ap.pi ap.pj h2),⟨_,_,sb.extBut _ _ ap.qz q1⟩,W.at_ s1.1 fun o e=>sb.extBut _ _ ap.iz e,W'.at_ u1.1 fun o e=>sb.extBut _ _ ap.jz e⟩
  ·have hlt:c<s.heap.objs.size:=by
    obtain⟨oi,ei,_⟩:=W.it h4
    obtain⟨oj,ej,_⟩:=W'.it h5
    simp at hc
    rcases hc with rfl|rfl|rfl|rfl|rfl
    ·exact zl
    ·exact af h2
    ·exact af h3
    ·exact af ei
    ·exact af ej
   rw[zI (ar hlt)]
   exact(hf c hc).1
 done:=by
  intro X hP hw hK hc n pins s σ H E I hf st hg
  subst hP hw
  obtain⟨xs,ys,hx,hy,hl⟩:=hg
  obtain⟨its,rv,hzx,oa,ea,ca,na,da⟩:=W.get hK I hx
  obtain⟨its2,rv2,hzy,ob,eb,cb,nb,db⟩:=W'.get hK I hy
  obtain⟨h1,h2,⟨u0,v0,h3⟩,h4,h5⟩:=st
  have fa:∀c∈[z,p,q,i,j],a≠c:=fun c hc=>W.ne hK I hx (hf c hc)
  have fb:∀c∈[z,p,q,i,j],b≠c:=fun c hc=>W'.ne hK I hy (hf c hc)
  have e1:=rv.length
  have e2:=rv2.length
  have ap':ZZ.Ap z p q i j [i,a] [j,b]:=⟨ap.pz,ap.qz,ap.iz,ap.jz,ap.pq,ap.pi,ap.pj,ap.qi,ap.qj,ap.ij,
   by simp;exact⟨ap.iz.symm,(fa z (by simp)).symm⟩,by simp;exact⟨ap.qi,(fa q (by simp)).symm⟩,by simp;exact⟨ap.ij.symm,(fa j (by simp)).symm⟩,by simp;exact⟨ap.jz.symm,(fb z (by simp)).symm⟩,by simp;exact⟨ap.qj,(fb q (by simp)).symm⟩,by simp;exact⟨ap.ij,(fb i (by simp)).symm⟩⟩
  have hf':∀c∈[z,q,i,j],dQ X pins H c:=fun c hc=>hf c (by simp at hc ⊢;rcases hc with h|h|h|h<;>simp[h])
  refine ZZ.znextE (W.dr (A:=X.A.in1) (I.ok.hd hc) i a (fa i (by simp)) its.toArray) (W'.dr (A:=X.A.in1) (I.ok.hd hc) j b (fb j (by simp)) its2.toArray) ap' h1 h2 h3 ⟨h4,oa,ea,ca,na,da⟩ ⟨h5,ob,eb,cb,nb,db⟩ ?_ fun g tk kp=>⟨rfl,u4 I hf' fun c o hc e=>?_⟩
  ·simp only[ag]
   rcases hl with h|⟨h,h'⟩
   ·left;omega
   ·right;omega
  ·simp at hc
   exact kp c o hc.1 hc.2.1 hc.2.2.1 hc.2.2.2 e
 self:=fun _ _ _ _ _ st h=>wpAny_pyIter_zip st.1 h
theorem zAY{K:Fg}{O M:Addr->Prop}{sq sq':Hp->Addr->List V->Prop}(mo:∀a,M a->O a){H:Hp}{u v:Addr}{xs ys:List V}{l m:List D}(ol:qR O H)(kx:∀H1,vK M H H1->sq H1 u xs)(ky:∀H1,vK M H H1->sq' H1 v ys)(il:IsL K O H l xs)(im:IsL K O H m ys):zFF K O M H (zLN sq sq' u v) (mS l m):=by
 intro i H1 O' kp oo
 have kp':vK O H H1:=fun b o e n=>kp b o e fun z=>n (mo b z)
 have hlen:(mS l m).length=min l.length m.length:=by simp[mS]
 refine⟨fun hi=>⟨?_,fun x H' y=>?_⟩,fun hi=>⟨xs,ys,kx H1 kp,ky H1 kp,?_⟩⟩
 ·obtain⟨d,e⟩:=qD hi
  obtain⟨dx,dy,e1,e2,_⟩:=dR e
  obtain⟨vx,q1,_⟩:=il.get e1
  obtain⟨vy,q2,_⟩:=im.get e2
  exact⟨xs,ys,vx,vy,kx H1 kp,ky H1 kp,q1,q2⟩
 ·obtain⟨T,p,q,rfl,nT,rfl,h1,h2⟩:=y
  refine⟨zT nT,fun d e=>?_⟩
  obtain⟨dx,dy,e1,e2,rfl⟩:=dR e
  obtain⟨vx,q1,i1⟩:=il.get e1
  obtain⟨vy,q2,i2⟩:=im.get e2
  have p1:=h1 xs (kx H1 kp)
  have p2:=h2 ys (ky H1 kp)
  rw[q1] at p1;rw[q2] at p2
  cases p1;cases p2
  have kk:vK O H (upd H1 T (.tup [p,q])):=fun b o e' n=>by
   have:=kp' b o e' n
   rw[zI (y4 this nT)];exact this
  rw[Is.tup_iff]
  exact⟨T,_,rfl,SqT.of zK,.cons (Is.mono kk ol oo _ _ i1) (.cons (Is.mono kk ol oo _ _ i2) .nil)⟩
 ·have e1:=il.length
  have e2:=im.length
  rw[hlen] at hi
  omega
section
variable{X:Cx}{a b:Expr}{f g:ME}{p pos:Pos}{elts:List Expr}{k:Nat}{tp:Pos}
noncomputable def zKA(K:Fg)(ta tb:TE):TI:=fun σ H R=>ta σ H fun x H1=>tb σ H1 fun y H2=>∃u v,x=.ref u/\y=.ref v /\
 (((∃xs,SqL K H2 u xs)/\(∃ys,SqL K H2 v ys)/\R (ItZ (SqL K) u v) H2)\/((∃xs,SqT K H2 u xs)/\(∃ys,SqT K H2 v ys)/\R (ItZ (SqT K) u v) H2)\/((∃xs,SqT K H2 u xs)/\(∃ys,SqL K H2 v ys)/\R (zLN (SqT K) (SqL K) u v) H2))
theorem zCH{ta tb:TE}(hg:Gl X "zip")(hm:X.mg "zip" = none)(ha:PE X a ta)(hb:PE X b tb)(hs:starEach [a,b] X.env=[(false,eval a X.env),(false,eval b X.env)]:=by rfl)(hs2:starEach [b] X.env=[(false,eval b X.env)]:=by rfl):PI X (.Tuple elts k tp) (.Call (.Name "zip" p) [a,b] [] pos) (zKA X.K ta tb):=by
 intro pins s σ H R I h
 have hA:PA X [a,b] (cR ta (cR tb zAP)):=zX ha (zX hb y0 (by rw[hs2];rfl)) (by rw[hs,hs2])
 refine Call_ (jN I hg hm PyProof.Rows.boot_zip (PyProof.Rows.callWith_type1 (thn (hA pos pins s σ H (z2 fun x y H2=>∃u v,x=.ref u/\y=.ref v/\(((∃xs,SqL X.K H2 u xs)/\(∃ys,SqL X.K H2 v ys)/\R (ItZ (SqL X.K) u v) H2)\/((∃xs,SqT X.K H2 u xs)/\(∃ys,SqT X.K H2 v ys)/\R (ItZ (SqT X.K) u v) H2)\/((∃xs,SqT X.K H2 u xs)/\(∃ys,SqL X.K H2 v ys)/\R (zLN (SqT X.K) (SqL X.K) u v) H2))) I h) fun us s1 ⟨vs,H1,I1,r1,q1⟩=>?_) (by rw[hs,hs2]) (by rw[hs2];rfl)))
 obtain⟨_,_,rfl,u,v,rfl,rfl,q5⟩:=zAX q1
 obtain⟨uu,vv,rfl,ru,rv⟩:=Vals.two r1
 cases ru
 cases rv
 have fp5:∀b∈[s1.heap.objs.size+4,s1.heap.objs.size+2,s1.heap.objs.size+3,s1.heap.objs.size,s1.heap.objs.size+1],dQ X pins H1 b:=fun b hb=>by
  have hle:s1.heap.objs.size<=b:=by
   simp only[List.not_mem_nil,List.mem_cons,or_false] at hb
   rcases hb with h|h|h|h|h
   ·rw[h];exact Nat.le_add_right _ _
   ·rw[h];exact Nat.le_add_right _ _
   ·rw[h];exact Nat.le_add_right _ _
   ·rw[h];exact al _
   ·rw[h];exact Nat.le_add_right _ _
  exact I1.fpOk hle (I1.hok.fresh hle)
 rcases q5 with q2|q2|q2
 ·obtain⟨⟨xs,hx⟩,⟨ys,hy⟩,q⟩:=q2
  obtain⟨its,_,pl,_⟩:=I1.list hx
  obtain⟨its2,_,pl2,_⟩:=I1.list hy
  refine call_zip_2 pl.isList pl2.isList fun h' z1 z2 z3 z4 z5 _ kp=>wpAny_pyIter_zip z1 ?_
  exact⟨_,_,_,_,H1,rfl,I1.kept (t':=s1.toks) kp,oJ (dw_list X.K) u v _ _ _ _ _ (za5 _),⟨z1,z2,⟨_,_,z3⟩,z4,z5⟩,fp5,q⟩
 ·obtain⟨⟨xs,hx⟩,⟨ys,hy⟩,q⟩:=q2
  obtain⟨its,_,pl,_⟩:=I1.tuple hx
  obtain⟨its2,_,pl2,_⟩:=I1.tuple hy
  refine ZZ.zcall pl pl2 fun h' z1 z2 z3 z4 z5 kp=>wpAny_pyIter_zip z1 ?_
  exact⟨_,_,_,_,H1,rfl,I1.kept (t':=s1.toks) kp,oJ (zEB X.K) u v _ _ _ _ _ (za5 _),⟨z1,z2,⟨_,_,z3⟩,z4,z5⟩,fp5,q⟩
 ·obtain⟨⟨xs,hx⟩,⟨ys,hy⟩,q⟩:=q2
  obtain⟨its,_,pl,_⟩:=I1.tuple hx
  obtain⟨its2,_,pl2,_⟩:=I1.list hy
  refine ZZ.zcallM pl pl2.isList fun h' z1 z2 z3 z4 z5 kp=>wpAny_pyIter_zip z1 ?_
  exact⟨_,_,_,_,H1,rfl,I1.kept (t':=s1.toks) kp,tK (zEB X.K) (dw_list X.K) u v _ _ _ _ _ (za5 _),⟨z1,z2,⟨_,_,z3⟩,z4,z5⟩,fp5,q⟩
noncomputable def zDJ(f g:ME):ML:=fun r=>(f r).bind fun d=>(g r).bind fun e=>match d,e with
 |.lst l,.lst m=>some (mS l m)
 |.tup l,.tup m=>some (mS l m)
 |.tup l,.lst m=>some (mS l m)
 |_,_=>none
theorem zEO(hg:Gl X "zip")(hm:X.mg "zip" = none)(ha:DE X a f)(hb:DE X b g)(hs:starEach [a,b] X.env=[(false,eval a X.env),(false,eval b X.env)]:=by rfl)(hs2:starEach [b] X.env=[(false,eval b X.env)]:=by rfl):DI X (.Tuple elts k tp) (.Call (.Name "zip" p) [a,b] [] pos) (zDJ f g):=by
 refine PI.conseq (zCH hg hm ha hb hs hs2) fun σ H Rr hq=>?_
 obtain⟨O0,r,ds,hR,e,q⟩:=hq
 obtain⟨x,e1,e⟩:=bind_some e
 obtain⟨y,e2,e⟩:=bind_some e
 refine⟨O0,r,x,hR,e1,fun v1 H1 s1 i1=>⟨O0,r,y,hR.same s1,e2,fun v2 H2 s2 i2=>?_⟩⟩
 have R2:=hR.same (s1.trans s2)
 have i1':=i1.same s2 (hR.same s1).ol
 have mo:∀a,MutAt r σ a->Ow O0 r σ a:=fun a z=>.inr z.own
 cases x<;>first|(simp only[reduceCtorEq] at e;done)|skip
 all_goals cases y<;>first|(simp only[reduceCtorEq] at e;done)|skip
 ·simp only[Option.some.injEq] at e
  subst e
  rw[Is.tup_iff] at i1' i2
  obtain⟨u,xs,rfl,hx,il⟩:=i1'
  obtain⟨v,ys,rfl,hy,im⟩:=i2
  exact⟨u,v,rfl,rfl,.inr (.inl ⟨⟨xs,hx⟩,⟨ys,hy⟩,q _ H2 (s1.trans s2) (zAZ mo R2.ol (zFW mo R2.ol hx) (zFW mo R2.ol hy) il im)⟩)⟩
 ·simp only[Option.some.injEq] at e
  subst e
  rw[Is.tup_iff] at i1'
  rw[Is.lst_iff] at i2
  obtain⟨u,xs,rfl,hx,il⟩:=i1'
  obtain⟨v,ys,rfl,hy,im⟩:=i2
  exact⟨u,v,rfl,rfl,.inr (.inr ⟨⟨xs,hx⟩,⟨ys,hy.sq⟩,q _ H2 (s1.trans s2) (zAY mo R2.ol (zFW mo R2.ol hx) (zDR mo hy) il im)⟩)⟩
 ·simp only[Option.some.injEq] at e
  subst e
  rw[Is.lst_iff] at i1' i2
  obtain⟨u,xs,rfl,hx,il⟩:=i1'
  obtain⟨v,ys,rfl,hy,im⟩:=i2
  exact⟨u,v,rfl,rfl,.inl ⟨⟨xs,hx.sq⟩,⟨ys,hy.sq⟩,q _ H2 (s1.trans s2) (zAZ mo R2.ol (zDR mo hx) (zDR mo hy) il im)⟩⟩
end
open PySem PySem.Spec PyProof.Rows L2 PySem.W
open PySem PySem.Spec PyProof.Rows L2 PySem.W
noncomputable abbrev MX:=En->Option Str
open PySem PySem.Spec PyProof.Rows L2 PySem.W
open PySem PySem.Spec PyProof.Rows L2 PySem.W
open PySem PySem.Spec PyProof.Rows L2 PySem.W
open PySem PySem.Spec PyProof.Rows L2 PySem.W PySem.Calls Builtin Builtin.ObjectAttr Builtin.Getset_descriptor
open PySem PySem.Spec PyProof.Rows L2 PySem.W
open PySem PySem.Spec PyProof.Rows L2 PySem.W
open PySem PySem.Spec PyProof.Rows L2 PySem.W
open PySem PySem.Spec PyProof.Rows L2 PySem.W
open PySem PySem.Spec PyProof.Rows L2 PySem.W
open PySem PySem.Spec PyProof.Rows L2 PySem.W
section
variable{P:Program}{w:World}{K:Fg}{mg:Str->Option Value}{base:Heap}{N:List Str}{qual:Str}{scope:Scope}{f0:Addr}{cd:Value}{A:Around}{outer:List Env}{s:Shared}{H:Hp}{E:XK}
variable{k n:Nat}{fa:Addr}{fd:FuncData}{ps:List Str}{m:List Sl->Option Str}{x:Str}{p pos:Pos}{a:Expr}{es:List Expr}{fs:ML}
end
open PySem PySem.Spec PyProof.Rows L2 PySem.W
theorem ZY:typeLookup (.type "list_reverseiterator") "__len__" = pure none:=by rw[typeLookup_type,builtinLookup_eq_fast];kernel_rfl
theorem JE:typeLookup (.type "list_reverseiterator") "__length_hint__" = pure (some (.builtin "list_reverseiterator.__length_hint__")):=by rw[typeLookup_type,builtinLookup_eq_fast];kernel_rfl
section
variable{prog:Program}{w:World}{A:Around}{s:Shared}{Rr:Result->Shared->Prop}{I:Addr}{fp wr:List Addr}{G:Array GenState->Array GenState->Prop}{n:Nat}{P:Nat->Value->Prop}{St:Nat->Shared->Prop}
theorem zDM(W:WalksS prog w A.in1 I fp wr G n P St)(hT:∀i s,St i s->s.TypeIs (.ref I) "list_reverseiterator")(S:Addr)(res:Value)(c0:Nat)(st0:St 0 s)(nS:S∉fp)(iI:I∈fp)(oS:s.heap.get? S=some { cls:=.type "list",data:=.seq #[] c0 })(hn:n<=sizeLine)(fin:∀s' acc' c',Moved (S::wr) G s s'->s'.heap.get? S=some { cls:=.type "list",dict:=none,data:=.seq acc' c',slots:=#[] }->ItemsOf P acc' n->Rr (.ok (.ret res)) s'):wpAny (model prog w) A.in1 (Builtin.List.listExtendWith (.ref S) (.ref I) res) (fun fin s'=>match fin with | .done f=>Rr (.ok f) s' | .again c'=>c'.quiet=true/\codeAny (model prog w) A c' Rr s') (fun e s'=>Rr (.error e) s') s:=by
 have nI:S≠I:=fun e=>nS (e ▸ iI)
 have k1:Builtin.List.listSameRef (.ref S) (.ref I)=false:=by simp[Builtin.List.listSameRef,nI]
 rw[Builtin.List.listExtendWith]
 refine aa (wpAny_typeOf (hT 0 _ st0) ?_)
 rw[if_neg (by rw[k1];decide)]
 refine aa (W.self 0 _ _ _ st0 ?_)
 refine aa (wpAny_holding (?_))
 rw[Builtin.List.listLengthHint]
 refine aa (wpAny_specialOf (hT 0 _ st0) ZY ?_)
 show wpAny _ A.in1 ((specialOf (.ref I) (Str.ofString "__length_hint__")) >>= _) _ _ _
 refine aa (wpAny_specialOf (hT 0 _ st0) JE ?_)
 generalize hid:("list_reverseiterator.__length_hint__" : String)=id0
 wp_delta
 rw[show splitId id0=some ("list_reverseiterator", "__length_hint__") from by subst hid;decide +kernel]
 subst hid
 refine aa (wpAny_isInstance (b:=true) (hT 0 _ st0) (by rw[isSubtype_type];kernel_rfl) ?_)
 refine ae ?_
 rw[if_neg (by decide)]
 exact ae ⟨plainId_quiet F.plain_extend_loop _,codeAny_extend_loopS W hn S nS res n 0 _ _ _ rfl (Nat.zero_le _) st0 oS (ItemsOf.nil P) fin⟩
theorem JD(W:WalksS prog w A.in1 I fp wr G n P St)(hT:∀i s,St i s->s.TypeIs (.ref I) "list_reverseiterator")(S:Addr)(st0:St 0 s)(nS:S∉fp)(iI:I∈fp)(oS:s.heap.get? S=some { cls:=.type "list",data:=.seq #[] })(hn:n<=sizeLine)(fin:∀s' acc' c',Moved (S::wr) G s s'->s'.heap.get? S=some { cls:=.type "list",dict:=none,data:=.seq acc' c',slots:=#[] }->ItemsOf P acc' n->Rr (.ok (.ret .none)) s'):wpAny (model prog w) A.in1 (Builtin.«list.__init__» ⟨[.ref S,.ref I],[]⟩) (fun fin s'=>match fin with | .done f=>Rr (.ok f) s' | .again c'=>c'.quiet=true/\codeAny (model prog w) A c' Rr s') (fun e s'=>Rr (.error e) s') s:=by
 show wpAny _ A.in1 (Builtin.List.listItems (.ref S) >>= fun old=>Builtin.List.listUpdate (.ref S) (fun _=>#[]) >>= fun _=>letGo old.toList.reverse >>= fun _=>Builtin.List.listExtendWith (.ref S) (.ref I) .none) _ _ s
 refine aa ?_
 unfold Builtin.List.listItems
 refine aa (wpAny_seqItems oS rfl (ae ?_))
 refine aa (m:=updateSeq S (fun _=>#[])) (wpAny_updateSeq oS rfl ?_)
 have oS2:=Heap.get?_update_self (Obj.mapSeq (fun _=>(#[]:Array Value))) oS rfl
 have els:∀b o,b≠S->s.heap.get? b=some o->(s.heap.update S (Obj.mapSeq (fun _=>(#[]:Array Value)))).get? b=some o:=fun b o hb e=>(Heap.get?_update_other _ _ (Ne.symm hb)).trans e
 refine aa (wpAny_letGo ?_)
 refine zDM W hT S .none _ (W.frame 0 s _ s.toks st0 (al _) fun b hb o e=>els b o (fun h=>nS (h ▸ hb)) e) nS iI oS2 hn fun s' acc' c' hm hS' hacc=>?_
 exact fin s' acc' c' (Moved.trans W.gtrans ((Moved.refl W.grefl).then_heap (al _) fun b o hb e=>els b o (fun h=>hb (h ▸ List.mem_cons_self)) e) hm) hS' hacc
end
section
variable{prog:Program}{w:World}{A:Around}{E:Value->Shared->Prop}{s:Shared}
theorem vT{l it:Addr}{items:Array Value}{Q:Value->Shared->Prop}(hh:A.handled=none)(hit:s.heap.IsRevIter it l ((items.size:Int)-1))(hl:s.heap.IsList l items)(hne:l≠it)(hz:items.size<=sizeLine)(fin:∀s' c',(∀b o,b≠it->s.heap.get? b=some o->s'.heap.get? b=some o)->s'.gens=s.gens->s'.os=s.os->s'.drawn=s.drawn->s'.heap.get? s.heap.objs.size=some { cls:=.type "list",dict:=none,data:=.seq items.reverse c',slots:=#[] }->Q (.ref s.heap.objs.size) s'):wpAny (model prog w) A (call (.type "list") [Value.ref it]) Q E s:=by
 have lt1:it<s.heap.objs.size:=by obtain⟨o,ho,_⟩:=hit;exact af ho
 have lt2:l<s.heap.objs.size:=by obtain⟨o,ho,_⟩:=hl;exact af ho
 have W:=(Walks.listRev (prog:=prog) (w:=w) (A:=A.in1.in1) hh it l hne items).toS
 have nS:s.heap.objs.size∉[it,l]:=fun z=>by
  simp only[List.mem_cons,List.not_mem_nil,or_false] at z
  rcases z with z|z
  ·exact absurd lt1 (by rw[<-z];exact Nat.lt_irrefl _)
  ·exact absurd lt2 (by rw[<-z];exact Nat.lt_irrefl _)
 have st0:(fun(i:Nat) (s:Shared)=>i<=items.size/\s.heap.IsRevIter it l ((items.size:Int)-1-(i:Int))/\s.heap.IsList l items) 0 s:=⟨Nat.zero_le _,by rw[show((items.size:Int)-1-((0:Nat):Int))=(items.size:Int)-1 from Int.sub_zero _];exact hit,hl⟩
 refine callType_codes (Q₁:=fun obj s1=>obj=.ref s.heap.objs.size/\s1={ s with heap:=s.heap.push { cls:=.type "list",data:=.seq #[] } }) F.called_list (F.typeCall_list_1 _) F.entry_list_init (code_list_new _ ⟨rfl,rfl⟩) fun obj s1 h1=>?_
 obtain⟨rfl,rfl⟩:=h1
 have oS:(s.heap.push { cls:=.type "list",data:=.seq #[] }).get? s.heap.objs.size=some { cls:=.type "list",data:=.seq #[] }:=ah _ rfl
 refine⟨⟨_,oS,rfl⟩,F.args_list_init_2 _ _,JD W (fun i s st=>st.2.1.typeIs) _ (W.frame 0 s _ s.toks st0 (al _) fun b _ o e=>ad _ e) nS (by simp) oS hz fun s' acc' c' hm hS' hacc=>⟨rfl,?_⟩⟩
 have ea:acc'=items.reverse:=by
  apply Array.ext
  ·rw[hacc.1,Array.size_reverse]
  ·intro j h1 h2
   have q:items[items.size-1-j]?=some acc'[j]:=hacc.2 j acc'[j] (Array.getElem?_eq_getElem h1)
   rw[Array.getElem_reverse]
   rw[Array.getElem?_eq_getElem (by rw[hacc.1] at h1;omega)] at q
   exact(aq q).symm
 subst ea
 refine fin s' c' (fun b o hb e=>hm.heap b o (fun z=>?_) (ad _ e)) hm.gens hm.os hm.drawn hS'
 rcases List.mem_cons.mp z with z|z
 ·exact absurd (af e) (by rw[z];exact Nat.lt_irrefl _)
 ·exact hb (List.mem_singleton.mp z)
end
open PySem PySem.Spec PyProof.Rows L2 PySem.W
noncomputable def zJA(fl:ML):ML:=fun r=>(fl r).map List.reverse
section
variable{X:Cx}{a:Expr}{fl:ML}{p1 p2 pos pos2:Pos}
theorem nZ(hc:X.calm=true)(hg1:Gl X "list")(hm1:X.mg "list" = none)(hg2:Gl X "reversed")(hm2:X.mg "reversed" = none)(ha:DB X a fl)(hs:starEach [a] X.env=[(false,eval a X.env)]:=by rfl)(hs2:starEach [.Call (.Name "reversed" p2) [a] [] pos2] X.env=[(false,eval (.Call (.Name "reversed" p2) [a] [] pos2) X.env)]:=by rfl):DF X (.Call (.Name "list" p1) [.Call (.Name "reversed" p2) [a] [] pos2] [] pos) (zJA fl):=by
 intro pins s σ H Q I hq
 obtain⟨O0,r,l',hR,e,q⟩:=hq
 obtain⟨l,e1,rfl⟩:=map_some e
 have hA:PA X [a] (cR (lB X.K fl) zAP):=zX ha y0 (by rw[hs];rfl)
 have inner:wpAny (model X.prog X.w) X.A (eval (.Call (.Name "reversed" p2) [a] [] pos2) X.env) (fun v s1=>wpAny (model X.prog X.w) X.A (call (.type "list") [v]) (EP X pins σ Q) X.xe s1) X.xe s:=by
  refine Call_ (jN I hg2 hm2 PyProof.Rows.boot_reversed (PyProof.Rows.callWith_type1 (thn (hA pos2 pins s σ H (z1 fun x H1=>∃u xs,x=.ref u/\Same H H1/\SqL X.K H1 u xs/\IsL X.K (Ow O0 r σ) H1 l xs) I ⟨O0,r,l,hR,e1,fun u xs H1 s1 sq il=>⟨u,xs,rfl,s1,sq,il⟩⟩) fun us s1 ⟨vs,H1,I1,r1,q1⟩=>?_) hs rfl))
  obtain⟨_,rfl,u,xs,rfl,s1',hx,il⟩:=tE q1
  obtain⟨uu,rfl,ru⟩:=Vals.one r1
  cases ru
  obtain⟨its,rv,pl,hz⟩:=I1.list hx
  have hl:its.toArray.size=xs.length:=by rw[ag];exact rv.length.symm
  have it1:(s1.heap.push (revObj u ((its.toArray.size:Int)-1))).IsRevIter s1.heap.objs.size u ((its.toArray.size:Int)-1):=⟨_,ah _ rfl,rfl,rfl⟩
  have ltu:u<s1.heap.objs.size:=by obtain⟨o,ho,_⟩:=pl.isList;exact af ho
  refine call_reversed_list pl.isList ?_
  have pl2:(s1.heap.push (revObj u ((its.toArray.size:Int)-1))).IsList u its.toArray:=pl.isList.at fun o e=>ad _ e
  refine vT (s:={ s1 with heap:=s1.heap.push (revObj u ((its.toArray.size:Int)-1)) }) (I.ok.hd hc) it1 pl2 (ar ltu) (by rw[hl];exact hz) fun s' c' kp hg ho hd hS=>?_
  obtain⟨h',g',d',t',os'⟩:=s'
  dsimp only at kp hg ho hd hS
  subst hg ho hd
  have sz:(s1.heap.push (revObj u ((its.toArray.size:Int)-1))).objs.size=s1.heap.objs.size+1:=by simp[Heap.push]
  have ht:H1 (s1.heap.push (revObj u ((its.toArray.size:Int)-1))).objs.size=none:=I1.hok.fresh (by rw[sz];exact Nat.le_succ _)
  refine⟨.ref (s1.heap.push (revObj u ((its.toArray.size:Int)-1))).objs.size,upd H1 (s1.heap.push (revObj u ((its.toArray.size:Int)-1))).objs.size (.lst xs.reverse),I1.laid (t':=t') (fun b o e=>kp b o (ar (af e)) (ad _ e)) (by rw[sz];exact Nat.le_succ _) ⟨by rw[List.length_reverse];exact hz,its.reverse,c',rv.reverse,by rw[hS,List.reverse_toArray]⟩,rfl,?_⟩
  refine q _ _ _ (s1'.trans (zT ht)) (s1'.free ht) zK ?_
  refine IsL.mono (Same.kp (zT ht) _) (hR.same s1').ol (fun b z n=>?_) _ _ il.reverse
  rcases z with z|z
  ·exact z
  ·subst z;exact absurd ht n
 refine Call_ (jN I hg1 hm1 PyProof.Rows.boot_list (PyProof.Rows.callWith_type1 ?_ hs2 rfl))
 rw[hs2]
 show wpAny _ _ (spliced ((false,eval (.Call (.Name "reversed" p2) [a] [] pos2) X.env)::backTo pos [])) _ _ s
 exact Calls.spliced_cons (thn inner fun v s1 h1=>Calls.spliced_nil h1)
end
open PySem PySem.Spec PyProof.Rows L2 PySem.W
open PySem PySem.Spec PyProof.Rows L2 PySem.W
open PySem PySem.Spec PyProof.Rows L2 PySem.W
open PySem PySem.Spec PyProof.Rows L2 PySem.W
open PySem PySem.Spec PyProof.Rows L2 PySem.W
open PySem PySem.Spec PyProof.Rows L2 PySem.W
open PySem PySem.Spec PyProof.Rows L2 PySem.W
open PySem PySem.Spec PyProof.Rows L2 PySem.W
open PySem PySem.Spec PyProof.Rows L2 PySem.W
end DD
namespace L2
open PySem PySem.Spec PyProof.Rows
section
variable{κ:Type}[DecidableEq κ]
noncomputable def WX(kvs:List (κ×V))(k:κ):Option V:=(kvs.find? fun kv=>decide (kv.1=k)).map (·.2)
noncomputable def cI(kvs:List (κ×V))(k:κ)(v:V):List (κ×V):=
 if (kvs.any fun kv=>decide (kv.1=k))=true then kvs.map (fun kv=>if kv.1=k then (kv.1,v) else kv) else kvs++[(k,v)]
theorem uC{p:κ×V}{r:List (κ×V)}{k:κ}(e:p.1=k):WX (p::r) k=some p.2:=by simp[WX,List.find?_cons,e]
theorem uD{p:κ×V}{r:List (κ×V)}{k:κ}(e:¬p.1=k):WX (p::r) k=WX r k:=by simp[WX,List.find?_cons,e]
theorem oG(k:κ):∀kvs:List (κ×V),(kvs.any fun kv=>decide (kv.1=k))=(WX kvs k).isSome
 |[]=>rfl
 |p::r=>by
  rw[List.any_cons]
  by_cases e:p.1=k
  ·simp only[uC e,decide_eq_true e,Bool.true_or,Option.isSome_some]
  ·rw[uD e,decide_eq_false e,Bool.false_or];exact oG k r
theorem v4(kvs:List (κ×V))(k:κ)(v:V):(cI kvs k v).length<=kvs.length+1:=by
 unfold cI
 split
 ·rw[ay];omega
 ·rw[List.length_append,av,List.length_nil];omega
theorem RelO.isSome_eq{o:Option V}{u:Option Value}(r:RelO o u):o.isSome=u.isSome:=by
 cases o with
 |none=>cases u with
  |none=>rfl
  |some _=>exact(show False from r).elim
 |some _=>cases u with
  |none=>exact(show False from r).elim
  |some _=>rfl
theorem KV.val{kvs:List (κ×V)}{vs:List (κ×Value)}(r:KV kvs vs)(k:κ):RelO (WX kvs k) (valueAt vs k):=by
 unfold KV at r
 induction r with
 |nil=>exact True.intro
 |@cons p q ps qs h t ih=>
  obtain⟨h1,h2⟩:=h
  by_cases e:p.1=k
  ·have e':q.1=k:=h1.symm.trans e
   have b:valueAt (q::qs) k=some q.2:=by simp[valueAt,List.find?_cons,e']
   rw[uC e,b];exact h2
  ·have e':¬q.1=k:=fun z=>e (h1.trans z)
   have b:valueAt (q::qs) k=valueAt qs k:=by simp[valueAt,List.find?_cons,e']
   rw[uD e,b];exact ih
theorem KV.any{kvs:List (κ×V)}{vs:List (κ×Value)}(r:KV kvs vs)(k:κ):(kvs.any fun kv=>decide (kv.1=k))=vs.any fun kv=>decide (kv.1=k):=by
 unfold KV at r
 induction r with
 |nil=>rfl
 |cons h t ih=>rw[List.any_cons,List.any_cons,ih,h.1]
theorem KV.repl{kvs:List (κ×V)}{vs:List (κ×Value)}(r:KV kvs vs)(k:κ){y:V}{u:Value}(ry:RelV y u):KV (kvs.map fun kv=>if kv.1=k then (kv.1,y) else kv) (vs.map fun kv=>if kv.1=k then (kv.1,u) else kv):=by
 unfold KV at r ⊢
 induction r with
 |nil=>exact .nil
 |@cons p q ps qs h t ih=>
  rw[ao,ao]
  refine .cons ?_ ih
  obtain⟨h1,h2⟩:=h
  by_cases e:p.1=k
  ·rw[if_pos e,if_pos (h1.symm.trans e)];exact⟨h1,ry⟩
  ·rw[if_neg e,if_neg (fun z=>e (h1.trans z))];exact⟨h1,h2⟩
theorem KV.put{kvs:List (κ×V)}{vs:List (κ×Value)}(r:KV kvs vs)(k:κ){y:V}{u:Value}(ry:RelV y u):KV (cI kvs k y) (stored vs k u):=by
 unfold cI stored
 rw[r.any k]
 by_cases e:(vs.any fun kv=>decide (kv.1=k))=true
 ·rw[if_pos e,if_pos e];exact r.repl k ry
 ·rw[if_neg e,if_neg e];exact Paired.snoc r ⟨rfl,ry⟩
theorem KV.keys{kvs:List (κ×V)}{vs:List (κ×Value)}(r:KV kvs vs):kvs.map (·.1)=vs.map (·.1):=by
 unfold KV at r
 induction r with
 |nil=>rfl
 |cons h t ih=>rw[ao,ao,ih,h.1]
theorem KV.length{kvs:List (κ×V)}{vs:List (κ×Value)}(r:KV kvs vs):kvs.length=vs.length:=Paired.length r
end
theorem zAB{P:Program}{w:World}{k:Key}{u:Value}(r:RelV (kV k) u):(yI P w).is k u=true:=by
 cases k with
 |inl i=>obtain⟨t,e⟩:=(show ∃t,u=Value.int i t from r);subst e;exact gR P w i t
 |inr x=>obtain⟨t,e⟩:=(show ∃t,u=Value.str x t from r);subst e;exact gQ P w x t
theorem gZ{P:Program}{w:World}:∀{ks:List Key} {us:List Value},Vals (ks.map kV) us->ItemsAre (yI P w) ks us
 |[],_,r=>by rw[List.map_nil] at r;cases r;exact .nil
 |k::ks,_,r=>by
  rw[ao] at r
  cases r with
  |cons h t=>exact .cons (zAB h) (gZ t)
noncomputable abbrev KT(H:Hp):List (List Key×V)->List (List Key×Addr×Value)->Prop:=Paired fun p q=>p.1=q.1/\H q.2.1=some (.tup (p.1.map kV))/\RelV p.2 q.2.2
theorem KT.val{H:Hp}{kvs:List (List Key×V)}{xs:List (List Key×Addr×Value)}(r:KT H kvs xs)(k:List Key):RelO (WX kvs k) ((atKey xs k).map (·.2)):=by
 induction r with
 |nil=>exact True.intro
 |@cons p q ps qs h t ih=>
  obtain⟨h1,_,h2⟩:=h
  by_cases e:p.1=k
  ·have e':q.1=k:=h1.symm.trans e
   have b:atKey (q::qs) k=some q.2:=by simp[atKey,List.find?_cons,e']
   rw[uC e,b];exact h2
  ·have e':¬q.1=k:=fun z=>e (h1.trans z)
   have b:atKey (q::qs) k=atKey qs k:=by simp[atKey,List.find?_cons,e']
   rw[uD e,b];exact ih
theorem KT.repl{H:Hp}{kvs:List (List Key×V)}{xs:List (List Key×Addr×Value)}(r:KT H kvs xs)(k:List Key){y:V}{u:Value}(ry:RelV y u):KT H (kvs.map fun kv=>if kv.1=k then (kv.1,y) else kv) (xs.map (putAt k u)):=by
 induction r with
 |nil=>exact .nil
 |@cons p q ps qs h t ih=>
  rw[ao,ao]
  refine .cons ?_ ih
  obtain⟨h1,h2,h3⟩:=h
  unfold putAt
  by_cases e:p.1=k
  ·rw[if_pos e,if_pos (h1.symm.trans e)];exact⟨h1,h2,ry⟩
  ·rw[if_neg e,if_neg (fun z=>e (h1.trans z))];exact⟨h1,h2,h3⟩
theorem KT.put{H:Hp}{kvs:List (List Key×V)}{xs:List (List Key×Addr×Value)}(r:KT H kvs xs)(k:List Key){b:Addr}{y:V}{u:Value}(hb:H b=some (.tup (k.map kV)))(ry:RelV y u):KT H (cI kvs k y) (storedH xs k b u):=by
 have e:(kvs.any fun kv=>decide (kv.1=k))=(atKey xs k).isSome:=by
  rw[oG,(r.val k).isSome_eq,Option.isSome_map]
 unfold cI storedH
 rw[e]
 by_cases q:(atKey xs k).isSome=true
 ·rw[if_pos q,if_pos q];exact r.repl k ry
 ·rw[if_neg q,if_neg q];exact Paired.snoc r ⟨rfl,hb,ry⟩
theorem KT.keeps{H H':Hp}{kvs:List (List Key×V)}{xs:List (List Key×Addr×Value)}(r:KT H kvs xs)(ht:∀b ys,H b=some (.tup ys)->H' b=some (.tup ys)):KT H' kvs xs:=
 Paired.mapP r fun _ _ z=>⟨z.1,ht _ _ z.2.1,z.2.2⟩
section
variable{P:Program}{w:World}{H:Hp}{h:Heap}{a:Addr}
theorem zIY{u:HO}(ok:HOk P w H h)(e:Rd H a u):ObjOk P w H h a u:=e.ok ok
theorem YH{kvs:List (Key×V)}(ok:HOk P w H h)(e:Rd H a (.dK kvs)):kvs.length<=sizeLine/\(a == sysModules)=false/\∃vs,KV kvs vs/\h.DictOf (yI P w) a vs:=
 show ObjOk P w H h a (.dK kvs) from zIY ok e
theorem zLB{kvs:List (Key×V)}(ok:HOk P w H h)(e:H a=some (.dK kvs)):kvs.length<=sizeLine/\(a == sysModules)=false/\∃vs,KV kvs vs/\h.DictOf (yI P w) a vs:=YH ok (.inl e)
theorem JG{ks:List Key}(ok:HOk P w H h)(e:H a=some (.tup (ks.map kV))):(tupleKind (yI P w)).is h ks a:=by
 obtain⟨_,its,r,o,h1,h2,n,h3⟩:=(show ObjOk P w H h a (.tup (ks.map kV)) from ok a _ e)
 exact⟨o,its.toArray,n,h1,h2,h3,by simpa using gZ r⟩
theorem zFY{kvs:List (List Key×V)}(ok:HOk P w H h)(e:Rd H a (.dT kvs)):kvs.length<=sizeLine/\(a == sysModules)=false /\
  ∃xs,KT H kvs xs/\h.DictOfH (tupleKind (yI P w)) a xs:=by
 obtain⟨z,y,xs,r,o,es,ep,h1,h2,h3,h4,h5⟩:=(show ObjOk P w H h a (.dT kvs) from zIY ok e)
 refine⟨z,y,xs,r,o,es,ep,h1,h2,h3,h4,fun x hx=>?_,h5⟩
 have all:∀{l:List (List Key×V)} {m:List (List Key×Addr×Value)},KT H l m->∀x∈m,(tupleKind (yI P w)).is h x.1 x.2.1:=by
  intro l m q
  induction q with
  |nil=>intro x hx;exact nomatch hx
  |@cons p q ps qs hq t ih=>
   intro x hx
   rcases List.mem_cons.mp hx with e|hx
   ·subst e
    exact JG ok (by rw[<-hq.1];exact hq.2.1)
   ·exact ih x hx
 exact all r x hx
theorem zK9{kvs:List (List Key×V)}(ok:HOk P w H h)(e:H a=some (.dT kvs)):kvs.length<=sizeLine/\(a == sysModules)=false /\
  ∃xs,KT H kvs xs/\h.DictOfH (tupleKind (yI P w)) a xs:=zFY ok (.inl e)
end
noncomputable def zL7(H:Hp)(a:Addr)(y:V)(r:Option V):Prop:=
 (∃kvs k,Rd H a (.dK kvs)/\y=kV k/\r=WX kvs k)\/∃kvs k b,Rd H a (.dT kvs)/\y=.ref b/\H b=some (.tup (k.map kV))/\r=WX kvs k
noncomputable def DPut(H:Hp)(a:Addr)(y v:V)(H':Hp):Prop:=
 (∃kvs k,H a=some (.dK kvs)/\y=kV k/\kvs.length<sizeLine/\H'=upd H a (.dK (cI kvs k v))) \/
 ∃kvs k b,H a=some (.dT kvs)/\y=.ref b/\H b=some (.tup (k.map kV))/\kvs.length<sizeLine/\H'=upd H a (.dT (cI kvs k v))
theorem DPut.k{H:Hp}{a:Addr}{kvs:List (Key×V)}{k:Key}{v:V}(e:H a=some (.dK kvs))(hl:kvs.length<sizeLine):DPut H a (kV k) v (upd H a (.dK (cI kvs k v))):=.inl ⟨kvs,k,e,rfl,hl,rfl⟩
section
variable{X:Cx}{pins:List (Addr×Obj)}{σ:St}{H:Hp}{s:Shared}{a:Addr}{y v:V}{u r:Value}{o:Option V}{A:Around}{E:Value->Shared->Prop}
theorem Inv.big(I:Inv X pins σ H s):sysModules<s.heap.objs.size:=by
 have h:mainGlobals<s.heap.objs.size:=(I.mod.glob.keeps I.bk).lt
 exact Nat.lt_trans (by decide) h
theorem YN{Q:Value->Shared->Prop}(hu:A.units+1<cLine)(I:Inv X pins σ H s)(g:zL7 H a y (some v))(ry:RelV y u)(h:∀w' s',Inv X pins σ H s'->RelV v w'->Q w' s'):wpAny (model X.prog X.w) A (getItem (.ref a) u) Q E s:=by
 rcases g with⟨kvs,k,e,ey,l⟩|⟨kvs,k,b,e,ey,eb,l⟩
 ·subst ey
  obtain⟨z,hd,vs,rel,dd⟩:=YH I.hok e
  obtain⟨w',hw,rw'⟩:=RelO.some_of (v:=v) (o:=valueAt vs k) (by rw[l];exact rel.val k)
  exact wpAny_getItem_of (zAB ry) dd.mapOf hw (h w' _ (I.tok _) rw')
 ·subst ey
  cases (show u=Value.ref b from ry)
  obtain⟨z,hd,xs,rel,dd⟩:=zFY I.hok e
  obtain⟨w',hw,rw'⟩:=RelO.some_of (v:=v) (o:=(atKey xs k).map (·.2)) (by rw[l];exact rel.val k)
  obtain⟨p,hp,hp2⟩:=Option.map_eq_some_iff.mp hw
  refine wpAny_getItem_heap (tupleKind_room_in1 hu) (JG I.hok eb) dd hp ?_
  rw[hp2]
  exact h w' _ (I.tok _) rw'
theorem WI{h':Heap}{t':Nat}{ob:HO}(I:Inv X pins σ H s)(mu:Mut (H a))(hs:Heap.SameBut a s.heap h')(he:∃q,h'.get? a=some q)(new:ObjOk X.prog X.w (upd H a ob) h' a ob):Inv X pins σ (upd H a ob) { s with heap:=h',toks:=t' }:=
 I.write (x:=a) (e:=a) mu (.inl rfl) (fun b q hb z=>(hs.2 b hb).trans z) he new
theorem JR{P:Program}{w:World}{H':Hp}{h':Heap}{kvs:List (Key×V)}{vs:List (Key×Value)}(z:kvs.length<=sizeLine)(hd:(a == sysModules)=false)(rel:KV kvs vs)(dd:h'.DictOf (yI P w) a vs):ObjOk P w H' h' a (.dK kvs):=⟨z,hd,vs,rel,dd⟩
theorem YM{H':Hp}{Q:Unit->Shared->Prop}(hu:A.units+1<cLine)(I:Inv X pins σ H s)(g:DPut H a y v H')(ry:RelV y u)(rv:RelV v r)(h:∀s',Inv X pins σ H' s'->Q () s'):wpAny (model X.prog X.w) A (setItem (.ref a) u r) Q E s:=by
 rcases g with⟨kvs,k,e,ey,l,eH⟩|⟨kvs,k,b,e,ey,eb,l,eH⟩
 ·subst ey eH
  obtain⟨z,hd,vs,rel,dd⟩:=zLB I.hok e
  have hz:vs.length<=sizeLine:=by rw[<-rel.length];exact z
  have hl:(cI kvs k v).length<=sizeLine:=by have:=v4 kvs k v;omega
  refine wpAny_setItem_pairs (hsz:=hz) (zAB ry) dd fun h' dd' hs=>h _ ?_
  have he:∃q,h'.get? a=some q:=let ⟨q,_,_,hq,_⟩:=dd';⟨q,hq⟩
  exact WI I (by rw[e];exact True.intro) hs he (JR hl hd (rel.put k rv) dd')
 ·subst ey eH
  cases (show u=Value.ref b from ry)
  obtain⟨z,hd,xs,rel,dd⟩:=zK9 I.hok e
  have hz:xs.length<=sizeLine:=by rw[<-Paired.length rel];exact z
  have hl:(cI kvs k v).length<=sizeLine:=by have:=v4 kvs k v;omega
  refine wpAny_setItem_heap (hsz:=hz) (tupleKind_room_in1 hu) (JG I.hok eb) dd fun h' dd' hs=>h _ ?_
  obtain⟨q,es,ep,hq,h2,h3,h4,_,h5⟩:=dd'
  refine WI I (by rw[e];exact True.intro) hs ⟨q,hq⟩ ⟨hl,hd,_,(rel.put k eb rv).keeps fun c ys ec=>?_,q,es,ep,hq,h2,h3,h4,h5⟩
  rw[zI (zFQ ec e (fun z=>nomatch z))]
  exact ec
end
noncomputable def zLM(i:Expr):Prop:=∀ov iv,subscripted i false ov iv=operate [ov,iv] (getItem ov iv)
theorem zBR{prog:Program}{w:World}{A:Around}{E:Value->Shared->Prop}{s:Shared}{env:Env}{value slice:Expr}{pos:Pos}{T id:String}{Q:Value->Shared->Prop}(hl:typeLookup (.type T) "__getitem__" = pure (some (.builtin id)))(hs:zLM slice)(h:wpAny (model prog w) A (eval value env) (fun o s₁=>wpAny (model prog w) A (eval slice env) (fun i s₂=>s₂.TypeIs o T/\wpAny (model prog w) A (getItem o i) Q E s₂) E s₁) E s):wpAny (model prog w) A (eval (.Subscript value slice pos) env) Q E s:=by
 refine Subscript_ (wpAny_mono h (fun o s₁ h₁=>wpAny_mono h₁ (fun i s₂ h₂=>?_) fun _ _ x=>x) fun _ _ x=>x)
 obtain⟨hT,h₂⟩:=h₂
 unfold subscriptTail
 refine aa ?_
 rw[getitemInPython_of_ne hT.not_modules]
 refine aa (wpAny_specialOf hT hl ?_)
 have fin:wpAny (model prog w) A (subscripted slice false o i) (fun r s₃=>wpAny (model prog w) A (letTemporaryGo value o r >>= fun _=>pure r) Q E s₃) E s₂:=by
  rw[hs o i]
  exact wpAny_operating (wpAny_mono h₂ (fun r s₃ h₃=>aa (wpAny_letTemporaryGo (ae h₃))) fun _ _ x=>x)
 first
  |exact ae (aa fin)
  |exact aa (ae (aa fin))
  |exact aa fin
theorem hJ{X:Cx}{pins:List (Addr×Obj)}{σ:St}{H:Hp}{s:Shared}{a:Addr}{y:V}{o:Option V}(I:Inv X pins σ H s)(g:zL7 H a y o):s.TypeIs (.ref a) "dict" := by
 rcases g with⟨kvs,k,e,_,_⟩|⟨kvs,k,b,e,_,_,_⟩
 ·obtain⟨_,_,vs,_,dd⟩:=YH I.hok e
  exact dd.typeIs
 ·obtain⟨_,_,xs,_,dd⟩:=zFY I.hok e
  exact dd.typeIs
noncomputable def zKG(td ty:TE):TE:=fun σ H Q=>td σ H fun x H1=>ty σ H1 fun y H2=>∃a v,x=.ref a/\zL7 H2 a y (some v)/\Q v H2
noncomputable def zKK(td ty tv:TE):TS:=fun D σ H=>tv σ H fun v H1=>td σ H1 fun x H2=>ty σ H2 fun y H3=>∃a H4,x=.ref a/\DPut H3 a y v H4/\D.nx σ H4
section
variable{X:Cx}{o i e value:Expr}{pos pos' tpos:Pos}{td ty tv:TE}
theorem XD(hu:X.A.units+1<cLine)(ho:PE X o td)(hi:PE X i ty)(hs:zLM i):PE X (.Subscript o i pos) (zKG td ty):=by
 intro pins s σ H Q I h
 refine zBR PySem.F.slot_dict_getitem.lookup hs (thn (ho pins s σ H _ I h) fun u s1 ⟨x,H1,I1,rx,q1⟩=>thn (hi pins s1 σ H1 _ I1 q1) fun iv s2 ⟨y,H2,I2,ry,a,v,ex,g,q2⟩=>?_)
 subst ex
 obtain rfl:u=Value.ref a:=rx
 exact⟨hJ I2 g,YN hu I2 g ry fun w' s3 I3 rw'=>⟨v,H2,I3,rw',q2⟩⟩
theorem zCA(hu:X.A.units+1<cLine)(ho:PE X o td)(hi:PE X i ty)(hv:PE X value tv)(hs:swapsWith value (some (.Subscript o i pos')) pos.line X.env=pure false):PS X (.Assign [.Subscript o i pos'] value pos) (zKK td ty tv):=by
 intro pins s σ H D I h
 refine wpAny_Assign_Subscript (thn (hv pins s σ H _ I h) fun r s1 ⟨v,H1,I1,rv,q1⟩=>thn (ho pins s1 σ H1 _ I1 q1) fun u s2 ⟨x,H2,I2,rx,q2⟩=>thn (hi pins s2 σ H2 _ I2 q2) fun iv s3 ⟨y,H3,I3,ry,a,H4,ex,g,q3⟩=>?_) hs
 subst ex
 obtain rfl:u=Value.ref a:=rx
 exact YM hu I3 g ry rv fun s4 I4=>⟨σ,H4,I4,q3⟩
end
theorem JS{P:Program}{w:World}{H:Hp}(h:Heap)(hb:sysModules<h.objs.size):ObjOk P w H (h.push { cls:=.type "dict",data:=.dict #[] }) h.objs.size (.dK []):=
 ⟨Nat.zero_le _,beq_eq_false_iff_ne.mpr (Ne.symm (ar hb)),[],.nil,Heap.DictOf.new h⟩
noncomputable def zGH:TE:=fun _ H Q=>∀p,H p=none->Q (.ref p) (upd H p (.dK []))
section
variable{X:Cx}{pos:Pos}
theorem QR:PE X (.Dict [] [] pos) zGH:=fun pins s σ H Q I h=>
 wpAny_Dict_empty ⟨.ref s.heap.objs.size,_,I.laid (a:=s.heap.objs.size) (o:=.dK []) (t':=s.toks) (fun _ _ q=>ad _ q) (al _) (JS s.heap I.big),rfl,h _ (I.hok.fresh (al _))⟩
end
section
variable{X:Cx}{pins:List (Addr×Obj)}{σ:St}{H:Hp}{s:Shared}{a:Addr}{kvs:List (Key×V)}{A:Around}{E:Value->Shared->Prop}
theorem JU{Q:Value->Shared->Prop}(I:Inv X pins σ H s)(e:Rd H a (.dK kvs))(h:∀p s',H p=none->Inv X pins σ (upd H p (.dK kvs)) s'->Q (.ref p) s'):wpAny (model X.prog X.w) A (call (.type "dict") [.ref a]) Q E s:=by
 obtain⟨z,hd,vs,rel,dd⟩:=YH I.hok e
 refine kt_call_dict hd dd (by rw[<-rel.length];exact z) fun h' dd' hs=>?_
 refine h _ _ (I.hok.fresh (al _)) (I.laid (a:=s.heap.objs.size) (o:=.dK kvs) (t':=s.toks) (fun b q hq=>?_) (al _) (JR z (beq_eq_false_iff_ne.mpr (Ne.symm (ar I.big))) rel dd'))
 exact(hs.2 b (ar (af hq))).trans (ad _ hq)
end
end L2
namespace DD
open PySem PySem.Spec PyProof.Rows L2
noncomputable def zJR:D->Option Key
 |.int i=>some (.inl i)
 |.str s=>some (.inr ⟨s.toArray⟩)
 |_=>none
theorem pU{K:Fg}{O:Addr->Prop}{H:Hp}{d:D}{v:V}{k:Key}(e:zJR d=some k)(h:Is K O H d v):v=kV k:=by
 cases d<;>first|(cases e;done)|skip
 ·cases e;rw[Is.int_iff] at h;exact h
 ·cases e;rw[Is.str_iff] at h;exact h
noncomputable def j6(ks:List Key)(l:List D)(k:Key)(d:D):List Key×List D:=if (ks.any fun j=>decide (j=k))=true then (ks,List.zipWith (fun j e=>if j=k then d else e) ks l) else (ks++[k],l++[d])
section
variable{K:Fg}{O0:Addr->Prop}{H H1 H':Hp}{r:En}{σ:St}{i:Nat}{d:D}{v:V}{a:Addr}
theorem pB{O:Addr->Prop}{k:Key}(hd:Is K O H d v):∀{kvs:List (Key×V)} {l:List D},IsL K O H l (kvs.map (·.2))->IsL K O H (List.zipWith (fun j e=>if j=k then d else e) (kvs.map (·.1)) l) ((kvs.map fun kv=>if kv.1=k then (kv.1,v) else kv).map (·.2))
 |[],[],_=>.nil
 |[],d'::l,h=>by unfold IsL at h;obtain⟨_,_,e,_⟩:=h;cases e
 |p::kvs,[],h=>by unfold IsL at h;cases h
 |p::kvs,d'::l,h=>by
  unfold IsL at h
  obtain⟨x,y,e,h1,h2⟩:=h
  rw[ao] at e
  cases e
  rw[ao,ao,ao,List.zipWith_cons_cons]
  refine .cons ?_ (pB hd h2)
  by_cases q:p.1=k
  ·rw[if_pos q,if_pos q];exact hd
  ·rw[if_neg q,if_neg q];exact h1
theorem Y8{O:Addr->Prop}{k:Key}{kvs:List (Key×V)}{ks:List Key}{l:List D}(hk:kvs.map (·.1)=ks)(hl:IsL K O H l (kvs.map (·.2)))(hd:Is K O H d v):(cI kvs k v).map (·.1)=(j6 ks l k d).1/\IsL K O H (j6 ks l k d).2 ((cI kvs k v).map (·.2)):=by
 subst hk
 have ea:(kvs.any fun kv=>decide (kv.1=k))=((kvs.map (·.1)).any fun j=>decide (j=k)):=by rw[List.any_map];rfl
 unfold cI j6
 rw[ea]
 by_cases q:((kvs.map (·.1)).any fun j=>decide (j=k))=true
 ·rw[if_pos q,if_pos q]
  refine⟨?_,pB hd hl⟩
  rw[List.map_map]
  refine List.map_congr_left fun x _=>?_
  show(if x.1=k then (x.1,v) else x).1=x.1
  split<;>rfl
 ·rw[if_neg q,if_neg q,List.map_append,List.map_append]
  exact⟨rfl,hl.append (.cons hd .nil)⟩
theorem R.setd{ks:List Key}{l:List D}{kvs:List (Key×V)}{p:Addr}(h:R K O0 H r σ)(s:Same H H1)(n:H p=none)(e:H1 p=some (.dK kvs))(hk:kvs.map (·.1)=ks)(hl:IsL K (fun b=>Ow O0 r σ b\/b=p) H1 l (kvs.map (·.2)))(hi:i<r.length)(np:∀l,r[i]?≠some (.p l)/\r[i]?≠some (.z l)):R K O0 H1 (r.set i (.d ks l)) (σ.set i (some (.ref p)))/\Kp H r σ H1 (r.set i (.d ks l)) (σ.set i (some (.ref p))):=by
 have his:i<σ.length:=by rw[<-h.len];exact hi
 have ow:∀{q:Sl->Option (List D)} a,AtS q (r.set i (.d ks l)) (σ.set i (some (.ref p))) a->AtS q r σ a\/a=p:=fun {q} a z=>by
  obtain⟨j,m,e1,q1⟩:=z
  by_cases hj:i=j
  ·subst hj
   rw[zG his] at q1;cases q1;exact .inr rfl
  ·rw[zC hj] at e1 q1
   exact .inl ⟨j,m,e1,q1⟩
 have sub:∀a,Ow O0 (r.set i (.d ks l)) (σ.set i (some (.ref p))) a->H a≠none->Ow O0 r σ a:=fun a z nn=>z.elim .inl fun z=>(ow a z).elim .inr fun z=>by subst z;exact absurd n nn
 have olp:qR (fun b=>Ow O0 r σ b\/b=p) H1:=fun b z=>z.elim (fun z=>(h.same s).ol b z) fun z=>by subst z;exact⟨.dK kvs,e,trivial⟩
 refine⟨⟨by simp[h.len],fun j d' e1=>?_,fun j m e1=>?_,fun j k a l1 m e1 e2 q1 q2=>?_,(h.same s).o0,fun j m a e1 q=>?_,fun j m a e1 q=>?_,fun j ks' m e1=>?_⟩,⟨fun b o e1 _=>s b o e1,fun b e1=>s.free e1,fun b o e1 mb=>⟨o,s _ _ e1,mb⟩,fun b z=>(ow b z).imp id fun z=>by subst z;exact n,fun b z=>(ow b z).imp id fun z=>by subst z;exact n,fun j m e1=>?_,fun j m e1=>?_⟩⟩
 ·have hj:i≠j:=fun z=>by subst z;rw[zG hi] at e1;cases e1
  rw[zC hj] at e1
  obtain⟨u,e2,q⟩:=h.val j d' e1
  exact⟨u,by rw[zC hj];exact e2,Is.mono (Same.kp s _) h.ol sub _ _ q⟩
 ·have hj:i≠j:=fun z=>by subst z;rw[zG hi] at e1;cases e1
  rw[zC hj] at e1
  obtain⟨a,ys,e2,e3,q⟩:=h.own j m e1
  exact⟨a,ys,by rw[zC hj];exact e2,s _ _ e3,IsL.mono (Same.kp s _) h.ol sub _ _ q⟩
 ·have out:∀(j:Nat) (m:List D) (a:Addr),i≠j->((r.set i (.d ks l))[j]?).bind Sl.own=some m->(σ.set i (some (.ref p)))[j]?=some (some (.ref a))->a≠p:=fun j m a hj e1 q1 z=>by
   rw[zC hj] at e1 q1
   obtain⟨b,ys,e2,e3,_⟩:=h.obj e1
   rw[q1] at e2;cases e2
   subst z
   rw[n] at e3;cases e3
  by_cases hj:i=j
  ·by_cases hk:i=k
   ·exact hj.symm.trans hk
   ·subst hj
    rw[zG his] at q1;cases q1
    exact absurd rfl (out k m p hk e2 q2)
  ·by_cases hk:i=k
   ·subst hk
    rw[zG his] at q2;cases q2
    exact absurd rfl (out j l1 p hj e1 q1)
   ·rw[zC hj] at e1 q1
    rw[zC hk] at e2 q2
    exact h.apart j k a l1 m e1 e2 q1 q2
 ·by_cases hj:i=j
  ·subst hj
   rw[zG his] at q;cases q
   exact fun z=>by obtain⟨ys,e3,_⟩:=h.o0 p z;rw[n] at e3;cases e3
  ·rw[zC hj] at e1 q
   exact h.loc j m a e1 q
 ·have hj:i≠j:=fun z=>by subst z;rw[zG hi] at e1;cases e1
  rw[zC hj] at e1 q
  exact h.par j m a e1 q
 ·by_cases hj:i=j
  ·subst hj
   rw[zG hi] at e1;cases e1
   exact⟨p,kvs,zG his,e,hk,IsL.mono (Same.kp (Same.refl H1) _) olp (fun a z _=>z.elim (fun z=>.inl (.inl z)) fun z=>(ow a z).imp .inr id) _ _ hl⟩
  ·rw[zC hj] at e1
   obtain⟨a,kv2,e2,e3,e4,q⟩:=h.dct j ks' m e1
   exact⟨a,kv2,by rw[zC hj];exact e2,s _ _ e3,e4,IsL.mono (Same.kp s _) h.ol sub _ _ q⟩
 ·have hj:i≠j:=fun z=>by subst z;exact(np m).1 e1
  exact⟨⟨m,by rw[zC hj];exact e1⟩,zC hj⟩
 ·have hj:i≠j:=fun z=>by subst z;exact(np m).2 e1
  exact⟨by rw[zC hj];exact e1,zC hj⟩
theorem R.updd{ks ks':List Key}{l l':List D}{kvs kvs':List (Key×V)}(h:R K O0 H r σ)(ei:r[i]?=some (.d ks l))(ha:σ[i]?=some (some (.ref a)))(hx:H a=some (.dK kvs))(hk:kvs'.map (·.1)=ks')(il:IsL K (Ow O0 r σ) H l' (kvs'.map (·.2))):R K O0 (L2.upd H a (.dK kvs')) (r.set i (.d ks' l')) σ/\Kp H r σ (L2.upd H a (.dK kvs')) (r.set i (.d ks' l')) σ:=by
 have hi:i<r.length:=(ak.mp ei).1
 have own_i:wK r σ a:=⟨i,l,by rw[ei];rfl,ha⟩
 have mut_i:MutAt r σ a:=⟨i,l,by rw[ei];rfl,ha⟩
 have atO:∀b,wK (r.set i (.d ks' l')) σ b->wK r σ b:=fun b ⟨j,m,e1,q1⟩=>by
  by_cases hj:i=j
  ·subst hj;rw[ha] at q1;cases q1;exact own_i
  ·rw[zC hj] at e1;exact⟨j,m,e1,q1⟩
 have atM:∀b,MutAt (r.set i (.d ks' l')) σ b->MutAt r σ b:=fun b ⟨j,m,e1,q1⟩=>by
  by_cases hj:i=j
  ·subst hj;rw[ha] at q1;cases q1;exact mut_i
  ·rw[zC hj] at e1;exact⟨j,m,e1,q1⟩
 have sub:∀b,Ow O0 (r.set i (.d ks' l')) σ b->H b≠none->Ow O0 r σ b:=fun b z _=>z.imp id (atO b)
 have keep:vK (Ow O0 r σ) H (L2.upd H a (.dK kvs')):=fun b o e1 n=>by rw[zI (fun z=>n (by subst z;exact .inr own_i))];exact e1
 have lst:∀b o,H b=some o->Mb o->∃o',L2.upd H a (.dK kvs') b=some o'/\Mb o':=fun b o e1 mb=>by
  by_cases hb:b=a
  ·subst hb;exact⟨_,zK,trivial⟩
  ·exact⟨o,by rw[zI hb];exact e1,mb⟩
 have other:∀(j:Nat) (m:List D) (b:Addr),i≠j->(r[j]?).bind Sl.own=some m->σ[j]?=some (some (.ref b))->b≠a:=fun j m b hj e1 q1 z=>by
  subst z
  exact hj (h.apart i j b l m (by rw[ei];rfl) e1 ha q1)
 refine⟨⟨by simp[h.len],fun j d' e1=>?_,fun j m e1=>?_,fun j k b m n e1 e2 q1 q2=>?_,fun b z=>?_,fun j m b e1 q1=>?_,fun j m b e1 q1=>?_,fun j ks2 m e1=>?_⟩,⟨fun b o e1 n=>by rw[zI (fun z=>n (by subst z;exact mut_i))];exact e1,fun b e1=>?_,lst,fun b z=>.inl (atO b z),fun b z=>.inl (atM b z),fun j m e1=>?_,fun j m e1=>?_⟩⟩
 ·have hj:i≠j:=fun z=>by subst z;rw[zG hi] at e1;cases e1
  rw[zC hj] at e1
  obtain⟨v,q1,q2⟩:=h.val j d' e1
  exact⟨v,q1,Is.mono keep h.ol sub _ _ q2⟩
 ·have hj:i≠j:=fun z=>by subst z;rw[zG hi] at e1;cases e1
  rw[zC hj] at e1
  obtain⟨b,ys,q1,q2,q3⟩:=h.own j m e1
  exact⟨b,ys,q1,by rw[zI (other j m b hj (qW e1) q1)];exact q2,IsL.mono keep h.ol sub _ _ q3⟩
 ·have get:∀(j:Nat) (m:List D),((r.set i (.d ks' l'))[j]?).bind Sl.own=some m->∃m',(r[j]?).bind Sl.own=some m':=fun j m e1=>by
   by_cases hj:i=j
   ·subst hj;exact⟨l,by rw[ei];rfl⟩
   ·rw[zC hj] at e1;exact⟨m,e1⟩
  obtain⟨m',z1⟩:=get j m e1
  obtain⟨n',z2⟩:=get k n e2
  exact h.apart j k b m' n' z1 z2 q1 q2
 ·obtain⟨o,q,mb⟩:=h.o0 b z;exact lst b o q mb
 ·by_cases hj:i=j
  ·subst hj
   exact h.loc i l b (.inr (.inr ⟨ks,ei⟩)) q1
  ·rw[zC hj] at e1
   exact h.loc j m b e1 q1
 ·have hj:i≠j:=fun z=>by subst z;rw[zG hi] at e1;cases e1
  rw[zC hj] at e1
  exact h.par j m b e1 q1
 ·by_cases hj:i=j
  ·subst hj
   rw[zG hi] at e1;cases e1
   exact⟨a,kvs',ha,zK,hk,IsL.mono keep h.ol sub _ _ il⟩
  ·rw[zC hj] at e1
   obtain⟨b,kv2,q1,q2,q4,q3⟩:=h.dct j ks2 m e1
   exact⟨b,kv2,q1,by rw[zI (other j m b hj (by rw[e1];rfl) q1)];exact q2,q4,IsL.mono keep h.ol sub _ _ q3⟩
 ·by_cases hb:b=a
  ·subst hb;rw[zK] at e1;cases e1
  ·rw[zI hb] at e1;exact e1
 ·have hj:i≠j:=fun z=>by subst z;rw[ei] at e1;cases e1
  exact⟨⟨m,by rw[zC hj];exact e1⟩,rfl⟩
 ·have hj:i≠j:=fun z=>by subst z;rw[ei] at e1;cases e1
  exact⟨by rw[zC hj];exact e1,rfl⟩
end
noncomputable def zLX(i:Nat)(ks:List Key)(l:List D)(r:En):Option En:=match r[i]? with
 |some (.p _)=>none
 |some (.z _)=>none
 |some _=>some (r.set i (.d ks l))
 |none=>none
theorem tS{i:Nat}{r r':En}{ks:List Key}{l:List D}(e:zLX i ks l r=some r'):i<r.length/\(∀l,r[i]?≠some (.p l)/\r[i]?≠some (.z l))/\r'=r.set i (.d ks l):=by
 unfold zLX at e
 cases e1:r[i]? with
 |none=>rw[e1] at e;cases e
 |some x=>
  have hi:i<r.length:=(ak.mp e1).1
  rw[e1] at e
  cases x<;>first|(cases e;done)|(cases e;exact⟨hi,fun l=>⟨(fun z=>by cases z),(fun z=>by cases z)⟩,rfl⟩)
noncomputable def tX(i:Nat)(fk fe:ME):MS:=fun r=>(fe r).bind fun d=>(fk r).bind fun kd=>(zJR kd).bind fun k=>match r[i]? with
 |some (.d ks l)=>if ks.length<sizeLine then some (.nx (r.set i (.d (j6 ks l k d).1 (j6 ks l k d).2))) else none
 |_=>none
section
variable{X:Cx}{a k e:Expr}{f g:ME}{pos ps pn p:Pos}{x:Str}
theorem X3(i:Nat)(hu:X.A.units+1<cLine)(h:PE X (.Name x pn) (j3 i))(hk:DE X k g)(he:DE X a f)(hs:swapsWith a (some (.Subscript (.Name x pn) k ps)) pos.line X.env=pure false:=by rfl):DS X (.Assign [.Subscript (.Name x pn) k ps] a pos) (tX i g f):=by
 refine PS.conseq (zCA hu h hk he hs) fun Dn σ H hq=>?_
 obtain⟨O0,r,fl,hR,e,q⟩:=hq
 obtain⟨d,e1,e⟩:=bind_some e
 obtain⟨kd,e2,e⟩:=bind_some e
 obtain⟨key,e3,e⟩:=bind_some e
 cases er:r[i]? with
 |none=>rw[er] at e;cases e
 |some y=>
  rw[er] at e
  cases y<;>first|(cases e;done)|skip
  rename_i ks l
  simp only at e
  split at e
  ·rename_i hlen
   cases e
   obtain⟨b,kvs,q1,q2,q4,q3⟩:=hR.dct i ks l er
   refine⟨O0,r,d,hR,e1,fun v H1 s1 i1=>⟨.ref b,q1,O0,r,kd,hR.same s1,e2,fun u H2 s2 i2=>?_⟩⟩
   have hu2:=pU e3 i2
   subst hu2
   have R2:=(hR.same s1).same s2
   have q3':=(q3.same s1 hR.ol).same s2 (hR.same s1).ol
   have i1':Is X.K (Ow O0 r σ) H2 d v:=Is.mono (Same.kp s2 _) (hR.same s1).ol (fun _ z _=>z) _ _ i1
   obtain⟨p1,p2⟩:=Y8 (k:=key) q4 q3' i1'
   have q2':=s2 _ _ (s1 _ _ q2)
   obtain⟨R3,k3⟩:=R2.updd er q1 q2' p1 p2
   have hl:kvs.length<sizeLine:=by rw[<-q4,ay] at hlen;exact hlen
   exact⟨b,_,rfl,DPut.k q2' hl,q σ _ R3 ((Kp.of_same r σ (s1.trans s2)).trans k3)⟩
  ·cases e
theorem zH2{P:Program}{w:World}{k:Key}{u:Value}(h:(yI P w).is k u=true):RelV (kV k) u:=by
 rcases yJ h with⟨i,t,rfl,rfl⟩|⟨y,t,rfl,rfl⟩
 ·exact⟨t,rfl⟩
 ·exact⟨t,rfl⟩
theorem YZ:∀{xs:List V} {us:List Value},xs.length=us.length->(∀(j:Nat) (u:Value),us[j]?=some u->∃y,xs[j]?=some y/\RelV y u)->Vals xs us
 |[],[],_,_=>.nil
 |[],_::_,h,_=>by cases h
 |_::_,[],h,_=>by cases h
 |y::xs,u::us,hl,h=>by
  obtain⟨z,e,q⟩:=h 0 u rfl
  cases e
  exact .cons q (YZ (by simpa using hl) fun j w ew=>h (j+1) w (by simpa using ew))
end
section
variable{prog:Program}{w:World}{A:Around}{E:Value->Shared->Prop}{s:Shared}
theorem gF{Q:Int->Shared->Prop}(h:Q 4238894112 { s with toks:=s.toks+1 }):wpAny (model prog w) A (pyHash .none) Q E s:=by
 unfold pyHash pyHashByItsType
 have hv:[Value.none].any Value.onHeap=false:=rfl
 refine aa ?_
 rw[cRoomFor,if_neg (by rw[hv];exact am)];refine ae ?_
 refine aa (wpAny_specialOf (T:="NoneType") rfl PySem.F.slot_NoneType_hash.lookup ?_)
 show wpAny _ _ (if (some (Value.builtin "NoneType.__hash__") == some Value.none)=true then _ else _) Q E s
 rw[if_neg (by decide)]
 refine aa (wpAny_specialOf (T:="NoneType") rfl PySem.F.slot_NoneType_hash.lookup ?_)
 show wpAny _ _ (callSpecialIfBoundUnlessNone? .none "__hash__" _ >>= _) Q E s
 refine aa (wpAny_callSpecialIfBoundUnlessNone?_slot (T:="NoneType") rfl PySem.F.slot_NoneType_hash
  (wpAny_call_entry (T:="NoneType") PySem.F.slot_NoneType_hash rfl PySem.F.entry_NoneType_hash
   (show wpAny _ _ (do ret (<- mkInt 4238894112)) _ _ s from wpAny_ret_mkInt ?_) (PySem.F.args_NoneType_hash_1 _)))
 exact ae h
end
noncomputable def Z6:Option Key->Value->Bool
 |none,.none=>true
 |none,_=>false
 |some k,v=>cW k v
theorem yU{k:Option Key}{v:Value}(h:Z6 k v=true):(k=none/\v=.none)\/∃j,k=some j/\cW j v=true:=by
 cases k with
 |none=>cases v<;>first|exact .inl ⟨rfl,rfl⟩|cases h
 |some j=>exact .inr ⟨j,rfl,h⟩
theorem bV{k:Key}:cW k .none=false:=by cases k<;>rfl
theorem zD5{prog:Program}{w:World}{A:Around}{E:Value->Shared->Prop}{s:Shared}{Q:Bool->Shared->Prop}(h:Q true s):wpAny (model prog w) A (eqBool .none .none) Q E s:=by
 show wpAny (model prog w) A (do rule "eq-bool.same-object";pure true) Q E s
 exact aa (wpAny_rule (ae h))
noncomputable def XF(prog:Program)(w:World):PySem.KeyKind prog w (Option Key) where
 is:=Z6
 hash:=fun k=>match k with
  |none=>4238894112
  |some k=>zMQ w k
 inj:=fun v a b ha hb=>by
  rcases yU ha with⟨rfl,rfl⟩|⟨i,rfl,h1⟩
  ·rcases yU hb with⟨rfl,_⟩|⟨j,rfl,h2⟩
   ·rfl
   ·rw[bV] at h2;cases h2
  ·rcases yU hb with⟨rfl,rfl⟩|⟨j,rfl,h2⟩
   ·rw[bV] at h1;cases h1
   ·rw[(yI prog w).inj v i j h1 h2]
 byValue:=fun k v h=>by
  rcases yU h with⟨rfl,rfl⟩|⟨i,rfl,h1⟩
  ·rfl
  ·exact(yI prog w).byValue i v h1
 pyHash:=fun hv h=>by
  rcases yU hv with⟨rfl,rfl⟩|⟨i,rfl,h1⟩
  ·exact gF h
  ·exact(yI prog w).pyHash h1 h
 eqBool:=fun {A E s a b u v Q} hu hv h=>by
  rcases yU hu with⟨rfl,rfl⟩|⟨i,rfl,h1⟩
  ·rcases yU hv with⟨rfl,rfl⟩|⟨j,rfl,h2⟩
   ·exact zD5 (by simpa using h)
   ·have h':Q false s:=by rw[decide_eq_false (by intro z;cases z)] at h;exact h
    rcases yJ h2 with⟨n,t,rfl,rfl⟩|⟨y,t,rfl,rfl⟩
    ·exact SeqAt.EqAt.none_int n t _ _ _ _ h'
    ·exact SeqAt.EqAt.none_str y t _ _ _ _ h'
  ·rcases yU hv with⟨rfl,rfl⟩|⟨j,rfl,h2⟩
   ·have h':Q false s:=by rw[decide_eq_false (by intro z;cases z)] at h;exact h
    rcases yJ h1 with⟨n,t,rfl,rfl⟩|⟨y,t,rfl,rfl⟩
    ·exact SeqAt.EqAt.int_none n t _ _ _ _ h'
    ·exact SeqAt.EqAt.str_none y t _ _ _ _ h'
   ·refine(yI prog w).eqBool h1 h2 ?_
    have e:decide (some i=some j)=decide (i=j):=by
     by_cases q:i=j
     ·rw[decide_eq_true q,decide_eq_true (by rw[q])]
     ·rw[decide_eq_false q,decide_eq_false (fun z=>q (aq z))]
    rw[e] at h;exact h
 «strs»:=fun k x t v h=>by
  rcases yU h with⟨rfl,e⟩|⟨i,rfl,h1⟩
  ·cases e
  ·exact(yI prog w).strs i x t v h1
noncomputable def vO:Option Key->V
 |none=>.non
 |some k=>kV k
theorem zIP{P:Program}{w:World}{k:Option Key}{u:Value}(r:RelV (vO k) u):(XF P w).is k u=true:=by
 cases k with
 |none=>cases (show u=Value.none from r);rfl
 |some k=>exact zAB (P:=P) (w:=w) r
noncomputable def valO(kvs:List (Key×V)):Option Key->Option V
 |none=>none
 |some k=>WX kvs k
theorem zMO{P:Program}{w:World}{h:Heap}{a:Addr}{vs:List (Key×Value)}(d:h.DictOf (yI P w) a vs):h.MapOf (XF P w) a (fun k=>match k with|none=>none|some k=>valueAt vs k):=by
 obtain⟨o,es,ep,ho,hc,hdat,hk,hf⟩:=d.mapOf
 refine⟨o,es,ep,ho,hc,hdat,fun e he=>?_,fun k=>?_⟩
 ·obtain⟨j,h1,h2⟩:=hk e he
  exact⟨some j,h1,h2⟩
 ·cases k with
  |some k=>exact hf k
  |none=>
   have nof:∀e∈es,Z6 none e.key=false:=fun e he=>by
    obtain⟨j,h1,_⟩:=hk e he
    rcases yJ (show cW j e.key=true from h1) with⟨n,t,_,q⟩|⟨y,t,_,q⟩<;>rw[q]<;>rfl
   show findBy Z6 es none=none
   unfold findBy
   rw[Array.find?_eq_none.mpr (fun e he=>by rw[nof e he];exact am)]
   rfl
section
variable{X:Cx}{pins:List (Addr×Obj)}{σ:L2.St}{H:Hp}{s:Shared}{a:Addr}{kvs:List (Key×V)}{k:Option Key}{u r:Value}{d:V}{A:Around}{E:Value->Shared->Prop}
theorem pC{vs:List (Key×Value)}(rel:KV kvs vs)(k:Option Key):RelO (valO kvs k) (match k with|none=>none|some k=>valueAt vs k):=by
 cases k with
 |none=>exact trivial
 |some k=>exact rel.val k
theorem zNF{Q:Value->Shared->Prop}(I:Inv X pins σ H s)(e:Rd H a (.dK kvs))(ry:RelV (vO k) u)(h:∀s',Inv X pins σ H s'->Q (.bool (valO kvs k).isSome) s'):wpAny (model X.prog X.w) A (compareOp .In u (.ref a)) Q E s:=by
 obtain⟨z,hd,vs,rel,dd⟩:=YH I.hok e
 refine wpAny_in_of (zIP ry) hd (zMO dd) ?_
 rw[<-(pC rel k).isSome_eq]
 exact h _ (I.tok _)
theorem zC1{Q:Value->Shared->Prop}(I:Inv X pins σ H s)(e:Rd H a (.dK kvs))(ry:RelV (vO k) u)(h:∀s',Inv X pins σ H s'->Q (.bool (!(valO kvs k).isSome)) s'):wpAny (model X.prog X.w) A (compareOp .NotIn u (.ref a)) Q E s:=by
 obtain⟨z,hd,vs,rel,dd⟩:=YH I.hok e
 refine wpAny_notIn_of (zIP ry) hd (zMO dd) ?_
 rw[<-(pC rel k).isSome_eq]
 exact h _ (I.tok _)
end
noncomputable abbrev MD:=En->Option (List Key×List D)
noncomputable def lDc(K:Fg)(f:MD):TE:=fun σ H Q=>∃O0 r ks l,R K O0 H r σ/\f r=some (ks,l)/\∀a kvs H',Same H H'->Rd H' a (.dK kvs)->kvs.map (·.1)=ks->IsL K (Ow O0 r σ) H' l (kvs.map (·.2))->Q (.ref a) H'
noncomputable def lFd(K:Fg)(f:MD):TE:=fun σ H Q=>∃O0 r ks l,R K O0 H r σ/\f r=some (ks,l)/\∀a kvs H',Same H H'->H a=none->H' a=some (.dK kvs)->kvs.map (·.1)=ks->IsL K (fun b=>Ow O0 r σ b\/b=a) H' l (kvs.map (·.2))->Q (.ref a) H'
noncomputable def DDc(X:Cx)(e:Expr)(f:MD):Prop:=PE X e (lDc X.K f)
noncomputable def DFd(X:Cx)(e:Expr)(f:MD):Prop:=PE X e (lFd X.K f)
noncomputable def bG(f:ME):MD:=fun r=>(f r).bind fun d=>match d with
 |.dct ks l=>some (ks,l)
 |_=>none
noncomputable def mD0:MD:=fun _=>some ([],[])
noncomputable def JB(f:MD):ME:=fun r=>(f r).map fun q=>.dct q.1 q.2
noncomputable def J6(i:Nat)(f:MD):MS:=fun r=>(f r).bind fun q=>(zLX i q.1 q.2 r).map .nx
noncomputable def zFL(i:Nat):MS:=fun r=>match r[i]? with
 |some (.d ks l)=>some (.rg ks l r)
 |_=>none
noncomputable def zMP:D->Option (Option Key)
 |.non=>some none
 |.int i=>some (some (.inl i))
 |.str s=>some (some (.inr ⟨s.toArray⟩))
 |_=>none
noncomputable def xB:List Key->List D->Key->Option D
 |k'::ks,d::l,k=>if k'=k then some d else xB ks l k
 |_,_,_=>none
noncomputable def zDN(ks:List Key)(l:List D):Option Key->Option D
 |none=>none
 |some k=>xB ks l k
noncomputable def zDL(neg:Bool)(fk:ME)(fd:MD):MB:=fun r=>(fk r).bind fun kd=>(fd r).bind fun q=>(zMP kd).map fun k=>if neg then !(zDN q.1 q.2 k).isSome else (zDN q.1 q.2 k).isSome
noncomputable def zHP(fd:MD)(fk:ME):ME:=fun r=>(fd r).bind fun q=>(fk r).bind fun kd=>(zJR kd).bind fun k=>xB q.1 q.2 k
theorem XQ{K:Fg}{O:Addr->Prop}{H:Hp}{d:D}{v:V}{k:Option Key}(e:zMP d=some k)(h:Is K O H d v):v=vO k:=by
 cases d<;>first|(cases e;done)|skip
 ·cases e;rw[Is.non_iff] at h;exact h
 ·cases e;rw[Is.int_iff] at h;exact h
 ·cases e;rw[Is.str_iff] at h;exact h
theorem u2{K:Fg}{O:Addr->Prop}{H:Hp}(k:Key):∀{kvs:List (Key×V)} {l:List D},IsL K O H l (kvs.map (·.2))->(∃d v,xB (kvs.map (·.1)) l k=some d/\WX kvs k=some v/\Is K O H d v)\/(xB (kvs.map (·.1)) l k=none/\WX kvs k=none)
 |[],[],_=>.inr ⟨rfl,rfl⟩
 |[],d'::l,h=>by unfold IsL at h;obtain⟨_,_,e,_⟩:=h;cases e
 |p::kvs,[],h=>by unfold IsL at h;cases h
 |p::kvs,d'::l,h=>by
  unfold IsL at h
  obtain⟨x,y,e,h1,h2⟩:=h
  rw[ao] at e
  cases e
  by_cases q:p.1=k
  ·exact .inl ⟨d',p.2,by rw[ao];unfold xB;rw[if_pos q],uC q,h1⟩
  ·have e1:xB ((p::kvs).map (·.1)) (d'::l) k=xB (kvs.map (·.1)) l k:=by rw[ao];show(if p.1=k then _ else _)=_;rw[if_neg q]
   rw[e1,uD q]
   exact u2 k h2
theorem pR{K:Fg}{O:Addr->Prop}{H:Hp}(k:Option Key){kvs:List (Key×V)}{l:List D}(h:IsL K O H l (kvs.map (·.2))):(∃d v,zDN (kvs.map (·.1)) l k=some d/\valO kvs k=some v/\Is K O H d v)\/(zDN (kvs.map (·.1)) l k=none/\valO kvs k=none):=by
 cases k with
 |none=>exact .inr ⟨rfl,rfl⟩
 |some k=>exact u2 k h
theorem Rd.same{H H':Hp}{a:Addr}{u:HO}(s:Same H H')(h:Rd H a u):Rd H' a u:=by
 rcases h with h|⟨ob,h⟩
 ·exact .inl (s _ _ h)
 ·exact .inr ⟨ob,s _ _ h⟩
section
variable{X:Cx}{a k e b o:Expr}{f g x:ME}{fd:MD}{pos ps pn p apos cpos:Pos}{nm:Str}
theorem zF0(h:DE X a f):DDc X a (bG f):=by
 refine PE.conseq h fun σ H Q hq=>?_
 obtain⟨O0,r,ks,l,hR,e,q⟩:=hq
 obtain⟨d,e1,e⟩:=bind_some e
 refine⟨O0,r,d,hR,e1,fun v H1 s1 i1=>?_⟩
 cases d<;>first|(cases e;done)|skip
 cases e
 rw[Is.dct_iff] at i1
 obtain⟨c,kvs,rfl,_,rd,ek,il⟩:=i1
 exact q c kvs H1 s1 rd ek il
theorem JO:DFd X (.Dict [] [] pos) mD0:=by
 refine PE.conseq QR fun σ H Q hq=>?_
 obtain⟨O0,r,ks,l,hR,e,q⟩:=hq
 cases e
 exact fun p hp=>q p [] _ (zT hp) hp zK rfl .nil
theorem cP:CallR X (.type "dict") (fun xs H Q=>∃p kvs,xs=[.ref p]/\Rd H p (.dK kvs)/\∀l,H l=none->Q (.ref l) (upd H l (.dK kvs))):=by
 intro pins s σ H xs us Q I r h
 obtain⟨p,kvs,rfl,e,q⟩:=h
 obtain⟨u,rfl,rx⟩:=Y1 r
 cases rx
 exact JU I e fun l s' hl I'=>⟨.ref l,_,I',rfl,q l hl⟩
theorem XX{p':Pos}(hg:Gl X "dict")(hm:X.mg "dict" = none)(ha:DDc X a fd)(hs:starEach [a] X.env=(false,eval a X.env)::starEach [] X.env:=by rfl):DFd X (.Call (.Name "dict" p') [a] [] pos) fd:=by
 refine PE.conseq (kJ cP hg hm PyProof.Rows.boot_dict (zX ha y0 hs) (he:=hs)) fun σ H Q hq=>?_
 obtain⟨O0,r,ks,l,hR,e,q⟩:=hq
 refine⟨O0,r,ks,l,hR,e,fun c kvs H1 s1 rd ek il=>⟨c,kvs,rfl,rd,fun t ht=>?_⟩⟩
 refine q t kvs _ (s1.trans (zT ht)) (s1.free ht) zK ek ?_
 exact IsL.mono (Same.kp (zT ht) _) (hR.same s1).ol (fun b z nn=>z.elim id fun z=>by subst z;exact absurd ht nn) _ _ il
theorem zAH(h:DFd X a fd):DE X a (JB fd):=by
 refine PE.conseq h fun σ H Q hq=>?_
 obtain⟨O0,r,d,hR,e,q⟩:=hq
 obtain⟨⟨ks,l⟩,e1,rfl⟩:=map_some e
 refine⟨O0,r,ks,l,hR,e1,fun c kvs H1 s1 n1 e2 ek il=>q _ H1 s1 ?_⟩
 have ol:qR (fun b=>Ow O0 r σ b\/b=c) H1:=fun b z=>z.elim (fun z=>(hR.same s1).ol b z) fun z=>by subst z;exact⟨.dK kvs,e2,trivial⟩
 rw[Is.dct_iff]
 exact⟨c,kvs,rfl,hR.nofresh n1,.inl e2,ek,IsL.mono (Same.kp (Same.refl H1) _) ol (fun _ z _=>.inl z) _ _ il⟩
theorem X1(i:Nat){pos':Pos}(he:DFd X e fd)(hN:X.N.Nodup)(hi:X.N[i]?=some nm:=by rfl)(hx:Loc X.env.scope nm:=by first|exact Or.inl rfl|exact Or.inr rfl)(hs:swapsWith e (some (.Name nm pos')) pos.line X.env=pure false:=by rfl)(hf:X.fn nm=true\/X.env.scope.names.lookup nm=some .local:=by first|exact .inl rfl|exact .inr rfl):DS X (.Assign [.Name nm pos'] e pos) (J6 i fd):=by
 refine PS.conseq (gH hN hi hx he hs hf) fun Dn σ H hq=>?_
 obtain⟨O0,r,fl',hR,e,q⟩:=hq
 obtain⟨⟨ks,l⟩,e1,e2⟩:=bind_some e
 obtain⟨r',e4,rfl⟩:=map_some e2
 obtain⟨hl,np,rfl⟩:=tS e4
 refine⟨O0,r,ks,l,hR,e1,fun p kvs H1 s1 n1 e3 ek i1=>?_⟩
 obtain⟨R1,k1⟩:=hR.setd s1 n1 e3 ek i1 hl np
 exact q _ H1 R1 k1
theorem zEI(i:Nat){pos':Pos}(h:PE X (.Name nm pos') (j3 i)):DS X (.Return (some (.Name nm pos')) pos) (zFL i):=by
 refine PS.conseq (t9 h) fun Dn σ H hq=>?_
 obtain⟨O0,r,fl',hR,e,q⟩:=hq
 have⟨ks,l,e1,e2⟩:∃ks l,r[i]?=some (.d ks l)/\fl'=.rg ks l r:=by
  unfold zFL at e
  split at e
  ·rename_i ks l h;cases e;exact⟨ks,l,h,rfl⟩
  ·cases e
 subst e2
 obtain⟨c,kvs,q1,q2,q4,q3⟩:=hR.dct i ks l e1
 refine⟨.ref c,q1,q c kvs σ H hR (Kp.refl H r σ) (.inr ⟨i,l,.inr ⟨ks,e1⟩,q1⟩) (hR.loc i l c (.inr (.inr ⟨ks,e1⟩)) q1) q2 q4 ?_⟩
 exact IsL.mono (Same.kp (Same.refl H) _) hR.ol (fun b z _=>z.elim .inl fun z=>by subst z;exact .inr ⟨i,l,by rw[e1];rfl,q1⟩) _ _ q3
theorem zEG(hk:DE X k g)(ho:DDc X o fd)(hm:behindInMarks .In o=false:=by rfl):DT X (.Compare k [.In] [o] pos) (zDL false g fd):=by
 refine PT.conseq (zB8 (t:=fun σ H Q=>lE X.K g σ H fun y H1=>lDc X.K fd σ H1 fun x H2=>∃c kvs j,x=.ref c/\Rd H2 c (.dK kvs)/\y=vO j/\Q (.bl (valO kvs j).isSome) H2) ?_ hm) fun σ H Q hq=>?_
 ·intro pins s σ H Q I h
  refine thn (hk pins s σ H _ I h) fun iv s1 ⟨y,H1,I1,ry,q1⟩=>thn (ho pins s1 σ H1 _ I1 q1) fun u s2 ⟨x,H2,I2,rx,c,kvs,j,ex,rd,ey,q2⟩=>?_
  subst ex ey
  obtain rfl:u=Value.ref c:=rx
  exact zNF I2 rd ry fun s3 I3=>⟨.bl (valO kvs j).isSome,H2,I3,rfl,q2⟩
 ·obtain⟨O0,r,t,hR,e,q⟩:=hq
  obtain⟨kd,e1,e⟩:=bind_some e
  obtain⟨⟨ks,l⟩,e2,e⟩:=bind_some e
  obtain⟨j,e3,rfl⟩:=map_some e
  refine⟨O0,r,kd,hR,e1,fun y H1 s1 iy=>⟨O0,r,ks,l,hR.same s1,e2,fun c kvs H2 s2 rd ek il=>⟨c,kvs,j,rfl,rd,XQ e3 iy,_,rfl,?_⟩⟩⟩
  subst ek
  have q':=q H2 (s1.trans s2)
  rcases pR j il with⟨dd,v,p1,p2,p3⟩|⟨p1,p2⟩
  ·rw[p1] at q';rw[p2];exact q'
  ·rw[p1] at q';rw[p2];exact q'
theorem zEZ(hu:X.A.units+1<cLine)(ho:DDc X o fd)(hk:DE X k g)(hs:zLM k:=by intro _ _;rfl):DE X (.Subscript o k pos) (zHP fd g):=by
 refine PE.conseq (XD hu ho hk hs) fun σ H Q hq=>?_
 obtain⟨O0,r,d,hR,e,q⟩:=hq
 obtain⟨⟨ks,l⟩,e1,e⟩:=bind_some e
 obtain⟨kd,e2,e⟩:=bind_some e
 obtain⟨j,e3,e⟩:=bind_some e
 refine⟨O0,r,ks,l,hR,e1,fun c kvs H1 s1 rd ek il=>⟨O0,r,kd,hR.same s1,e2,fun y H2 s2 iy=>?_⟩⟩
 subst ek
 have il2:=il.same s2 (hR.same s1).ol
 rcases u2 j il2 with⟨dd,v,p1,p2,p3⟩|⟨p1,p2⟩
 ·rw[p1] at e;cases e
  exact⟨c,v,rfl,.inl ⟨kvs,j,Rd.same s2 rd,pU e3 iy,p2.symm⟩,q v H2 (s1.trans s2) p3⟩
 ·rw[p1] at e;cases e
end
open PySem PySem.Spec PyProof.Rows L2 PySem.W
open PySem PySem.Spec PyProof.Rows L2 PySem.W TS
open PySem PySem.Spec PyProof.Rows L2 PySem.W TS
open PySem PySem.Spec PyProof.Rows L2 PySem.W
theorem un1{k:Nat}{A:Around}(r:Room k A):A.units+1<cLine:=by have:=un2 r;omega
noncomputable def zJD(n:Nat)(d:D):Bool:=okD d && (toP d).canLay0 && decide ((toP d).depth<=n)
noncomputable def neN(n:Nat)(x y:D):Option D:=if zJD n x=true/\zJD n y=true then some (.bl (!PyData.eqv (toP x) (toP y))) else none
noncomputable def zMK(K:Fg)(n:Nat)(neg:Bool):R2:=fun x y H Q=>∃O dx dy,Is K O H dx x/\Is K O H dy y/\zJD n dx=true/\zJD n dy=true/\Q (.bl (if neg then !PyData.eqv (toP dx) (toP dy) else PyData.eqv (toP dx) (toP dy))) H
theorem zG6{X:Cx}{n:Nat}(hu:X.A.units+n<cLine):OpR X (compareOp .NotEq) (zMK X.K n true):=by
 intro pins s σ H x y v u Q I rx ry hq
 obtain⟨O,dx,dy,ix,iy,lx,ly,q⟩:=hq
 unfold zJD at lx ly
 simp only[Bool.and_eq_true,decide_eq_true_eq] at lx ly
 obtain⟨as,qa⟩:=dB I dx x v lx.1.1 ix rx
 obtain⟨bs,qb⟩:=dB I dy y u ly.1.1 iy ry
 exact PySem.SeqAt.compareNe_reads qa qb lx.1.2 ly.1.2 (by have:=Nat.min_le_left (toP dx).depth (toP dy).depth;omega) ⟨.bl _,H,I,rfl,q⟩
theorem zHE{K:Fg}{n:Nat}:OpD K (zMK K n true) (neN n):=by
 intro O H dx dy d vx vy Q ol ix iy e q
 unfold neN at e
 split at e
 ·rename_i h
  cases e
  exact⟨O,dx,dy,ix,iy,h.1,h.2,q _ H (Same.refl H) (by rw[Is.bl_iff];rfl)⟩
 ·cases e
theorem zJ5{k:Nat}{A:Around}(r:Room k A)(h:16<=k):A.units+400<cLine:=by have:=r.un;omega
noncomputable def ZW(n:Nat)(m:MF)(fs:ML):MD:=fun r=>(fs r).bind fun ds=>if ds.length=n then (m (ds.map .v)).bind fun p=>match p.1 with
 |.g ks l=>some (ks,l)
 |_=>none
 else none
section
variable{X:Cx}{k n:Nat}{f:Addr}{fd:FuncData}{ps:List Str}{m:MF}{x:Str}{p pos:Pos}{e:Expr}{es:List Expr}{fs:ML}
theorem zD3(F:FnOk X.prog X.w X.K X.mg X.base CX0 k f fd ps (spD X.K n m))(hr:Room k X.A)(hg:Gl X x)(hm:X.mg x=some (.ref f))(hk:PySem.W.keepIn X.K (.ref f)=true)(hb:Binds X.K fd ps [])(ha:DA X (e::es) fs)(hdb:(x == ("__debug__" : Str))=false:=by decide)(he:starEach (e::es) X.env=(false,eval e X.env)::starEach es X.env:=by rfl)(hpl:(backTo pos (starEach es X.env)).any (·.1)=false:=by rfl):DFd X (.Call (.Name x p) (e::es) [] pos) (ZW n m fs):=by
 refine PE.conseq (vV (E:=fun _ _ _=>False) (dvs:=[]) F hr hg hm hk hb .nil cS ha hdb he hpl) fun σ H Q h=>?_
 obtain⟨O0,r,ks,l,hR,e,q⟩:=h
 obtain⟨ds,e1,e2⟩:=bind_some e
 split at e2
 ·rename_i hl
  obtain⟨⟨rs,as'⟩,e3,e4⟩:=bind_some e2
  refine⟨O0,r,ds,hR,e1,fun vs H1 s1 il=>bP hR s1 il hl e3 ?_⟩
  cases rs with
  |v d=>cases e4
  |f l'=>cases e4
  |g ks' l'=>cases e4;exact fun a kvs H2 pf na ea ek il2=>q a kvs H2 (s1.trans pf.same) (s1.free na) ea ek il2
 ·cases e2
end
noncomputable def sFz(i:Nat)(g:MS):MS:=fun r=>match r[i]? with
 |some (.d ks l)=>g (r.set i (.v (.dct ks l)))
 |_=>none
theorem R.fz2{K:Fg}{O0:Addr->Prop}{H H2:Hp}{r:En}{σ:St}{i:Nat}{ks:List Key}{l:List D}{c:Addr}{kvs:List (Key×V)}(h:R K O0 H r σ)(er:r[i]?=some (.d ks l))(c1:σ[i]?=some (some (.ref c)))(c2:H c=some (.dK kvs))(c3:kvs.map (·.1)=ks)(c4:IsL K (Ow O0 r σ) H l (kvs.map (·.2)))(hne:∀b,b≠c->H2 b=H b)(h2:∃o,H2 c=some o/\Mb o)(rd:Rd H2 c (.dK kvs)):R K O0 H2 (r.set i (.v (.dct ks l))) σ/\Kp H r σ H2 (r.set i (.v (.dct ks l))) σ/\IsL K (Ow O0 (r.set i (.v (.dct ks l))) σ) H2 l (kvs.map (·.2))/\¬Ow O0 (r.set i (.v (.dct ks l))) σ c:=by
 have hi:i<r.length:=(ak.mp er).1
 have own:∀j m,((r.set i (.v (.dct ks l)))[j]?).bind Sl.own=some m->i≠j/\(r[j]?).bind Sl.own=some m:=fun j m e=>by
  by_cases hj:i=j
  ·subst hj;rw[zG hi] at e;cases e
  ·rw[zC hj] at e;exact⟨hj,e⟩
 have mtt:∀j m,((r.set i (.v (.dct ks l)))[j]?).bind Sl.mt=some m->(r[j]?).bind Sl.mt=some m:=fun j m e=>by
  by_cases hj:i=j
  ·subst hj;rw[zG hi] at e;cases e
  ·rw[zC hj] at e;exact e
 have at_:∀b,wK (r.set i (.v (.dct ks l))) σ b->wK r σ b:=fun b ⟨j,m,e,q⟩=>⟨j,m,(own j m e).2,q⟩
 have nc:¬Ow O0 (r.set i (.v (.dct ks l))) σ c:=fun z=>z.elim (fun z=>h.loc i l c (.inr (.inr ⟨ks,er⟩)) c1 z) fun⟨j,m,e,q⟩=>by
  obtain⟨hj,e'⟩:=own j m e
  exact hj (h.apart i j c l m (by rw[er];rfl) e' c1 q)
 have ow:∀b,Ow O0 (r.set i (.v (.dct ks l))) σ b->H b≠none->Ow O0 r σ b:=fun b z _=>z.imp id (at_ b)
 have mc:MutAt r σ c:=⟨i,l,by rw[er];rfl,c1⟩
 have kp:vK (Ow O0 r σ) H H2:=fun b o e n=>(hne b fun z=>n (by rw[z];exact .inr mc.own)).trans e
 have i4:=IsL.mono kp h.ol ow _ _ c4
 refine⟨⟨by simp[h.len],fun j d ej=>?_,fun j m ej=>?_,fun j k b m n e4 e5=>h.apart j k b m n (own j m e4).2 (own k n e5).2,fun b z=>?_,fun j m b ej q=>?_,fun j m b ej q=>?_,fun j ks' m ej=>?_⟩,⟨fun b o e n=>(hne b fun z=>n (by rw[z];exact mc)).trans e,fun b e=>?_,fun b o e mb=>?_,fun b z=>.inl (at_ b z),fun b ⟨j,m,e,q⟩=>.inl ⟨j,m,mtt j m e,q⟩,fun j m ej=>?_,fun j m ej=>?_⟩,i4,nc⟩
 ·by_cases hj:i=j
  ·subst hj
   rw[zG hi] at ej
   cases ej
   refine⟨.ref c,c1,?_⟩
   rw[Is.dct_iff]
   exact⟨c,kvs,rfl,nc,rd,c3,i4⟩
  ·rw[zC hj] at ej
   obtain⟨v,q1,q2⟩:=h.val j d ej
   exact⟨v,q1,Is.mono kp h.ol ow _ _ q2⟩
 ·have hj:i≠j:=fun z=>by subst z;rw[zG hi] at ej;cases ej
  rw[zC hj] at ej
  obtain⟨b,ys,q1,q2,q3⟩:=h.own j m ej
  exact⟨b,ys,q1,(hne b fun z=>by rw[z,c2] at q2;cases q2).trans q2,IsL.mono kp h.ol ow _ _ q3⟩
 ·obtain⟨o,e,mb⟩:=h.o0 b z
  exact⟨o,(hne b fun y=>h.loc i l c (.inr (.inr ⟨ks,er⟩)) c1 (by rw[<-y];exact z)).trans e,mb⟩
 ·have hj:i≠j:=fun z=>by subst z;rw[zG hi] at ej;rcases ej with ej|ej|⟨_,ej⟩<;>cases ej
  rw[zC hj] at ej
  exact h.loc j m b ej q
 ·have hj:i≠j:=fun z=>by subst z;rw[zG hi] at ej;cases ej
  rw[zC hj] at ej
  exact h.par j m b ej q
 ·have hj:i≠j:=fun z=>by subst z;rw[zG hi] at ej;cases ej
  rw[zC hj] at ej
  obtain⟨b,kvs',q1,q2,q4,q3⟩:=h.dct j ks' m ej
  have hb:b≠c:=fun z=>hj (h.apart i j c l m (by rw[er];rfl) (by rw[ej];rfl) c1 (by rw[q1,z]))
  exact⟨b,kvs',q1,(hne b hb).trans q2,q4,IsL.mono kp h.ol ow _ _ q3⟩
 ·by_cases hb:b=c
  ·subst hb;obtain⟨o,e',_⟩:=h2;rw[e] at e';cases e'
  ·rw[<-hne b hb];exact e
 ·by_cases hb:b=c
  ·subst hb;exact h2
  ·exact⟨o,(hne b hb).trans e,mb⟩
 ·have hj:i≠j:=fun z=>by subst z;rw[er] at ej;cases ej
  exact⟨⟨m,by rw[zC hj];exact ej⟩,rfl⟩
 ·have hj:i≠j:=fun z=>by subst z;rw[er] at ej;cases ej
  exact⟨by rw[zC hj];exact ej,rfl⟩
theorem R.fz{K:Fg}{O0:Addr->Prop}{H:Hp}{r:En}{σ:St}{i:Nat}{ks:List Key}{l:List D}(h:R K O0 H r σ)(er:r[i]?=some (.d ks l)):R K O0 H (r.set i (.v (.dct ks l))) σ/\Kp H r σ H (r.set i (.v (.dct ks l))) σ:=by
 obtain⟨c,kvs,c1,c2,c3,c4⟩:=h.dct i ks l er
 obtain⟨a,b,_⟩:=h.fz2 er c1 c2 c3 c4 (fun _ _=>rfl) ⟨_,c2,trivial⟩ (.inl c2)
 exact⟨a,b⟩
theorem zLA(i:Nat){X:Cx}{st:Stmt}{g:MS}(h:DS X st g):DS X st (sFz i g):=by
 refine PS.conseq h fun Dn σ H hq=>?_
 obtain⟨O0,r,fl,hR,e,q⟩:=hq
 unfold sFz at e
 split at e
 ·rename_i ks l er
  obtain⟨R1,k1⟩:=hR.fz er
  exact⟨O0,_,fl,R1,e,q.before R1 k1⟩
 ·cases e
open PySem PySem.Spec PyProof.Rows L2 PySem.W
structure Mst where
 most:Int
 steps:Int
 wait:List D
 come:List D
 ended:D
 defs:D
noncomputable def mfs(most steps:Int)(w c:Addr)(ve vd:V):List (Str×V):=[("most",.int most),("steps",.int steps),("waiting",.ref w),("come",.ref c),("ended",ve),("defs",vd)]
structure Mch(K:Fg)(O:Addr->Prop)(H:Hp)(C a w c:Addr)(st:Mst):Prop where
 ex:∃dx xs ys ve vd,H a=some (.ins C dx (mfs st.most st.steps w c ve vd))/\H w=some (.lst xs)/\H c=some (.lst ys)/\Is K O H st.ended ve/\Is K O H st.defs vd/\IsL K O H st.wait xs/\IsL K O H st.come ys
 wc:w≠c
 oa:O a
 ow:O w
 oc:O c
noncomputable def NoOwn(r:En):Prop:=∀i:Nat,(r[i]?).bind Sl.own=none
structure McR(K:Fg)(O:Addr->Prop)(H:Hp)(C:Addr)(z:Nat)(a w c:Addr)(st:Mst)(r:En)(σ:St):Prop where
 ms:Mch K O H C a w c st
 rr:R K O H r σ
 no:NoOwn r
 me:σ[z]?=some (some (.ref a))
noncomputable def KeepM(a w c:Addr)(H H':Hp):Prop:=∀b o,H b=some o->b≠a->b≠w->b≠c->H' b=some o
theorem KeepM.refl{a w c:Addr}(H:Hp):KeepM a w c H H:=fun _ _ e _ _ _=>e
theorem KeepM.trans{a w c:Addr}{H H1 H2:Hp}(x:KeepM a w c H H1)(y:KeepM a w c H1 H2):KeepM a w c H H2:=fun b o e h1 h2 h3=>y b o (x b o e h1 h2 h3) h1 h2 h3
theorem KeepM.same{a w c:Addr}{H H':Hp}(s:Same H H'):KeepM a w c H H':=fun b o e _ _ _=>s b o e
section
variable{K:Fg}{O:Addr->Prop}{H H':Hp}{z:Nat}{C a w c:Addr}{st:Mst}{r:En}{σ:St}
theorem NoOwn.at{q:Sl->Option (List D)}(hq:∀x l,q x=some l->x.own=some l)(h:NoOwn r){b:Addr}:¬AtS q r σ b:=fun⟨i,l,e,_⟩=>by
 obtain⟨x,e1,e2⟩:=Option.bind_eq_some_iff.mp e
 have:=h i
 rw[e1] at this
 rw[show(some x).bind Sl.own=x.own from rfl,hq x l e2] at this
 cases this
theorem NoOwn.ow(h:NoOwn r){b:Addr}:Ow O r σ b↔O b:=⟨fun z=>z.elim id fun z=>absurd z (h.at fun _ _ e=>e),.inl⟩
theorem McR.is(m:McR K O H C z a w c st r σ){d:D}{v:V}:Is K (Ow O r σ) H' d v↔Is K O H' d v:=by
 rw[show Ow O r σ=O from funext fun b=>propext m.no.ow]
theorem McR.ol(m:McR K O H C z a w c st r σ):qR O H:=m.rr.o0
theorem Mch.kp(m:Mch K O H C a w c st)(k:KeepM a w c H H'):vK O H H':=fun b o e n=>k b o e (fun z=>n (z ▸ m.oa)) (fun z=>n (z ▸ m.ow)) fun z=>n (z ▸ m.oc)
theorem McR.step{st':Mst}(m:McR K O H C z a w c st r σ)(k:KeepM a w c H H')(n:Mch K O H' C a w c st'):McR K O H' C z a w c st' r σ:=by
 have kp:=m.ms.kp k
 have ol:qR O H':=fun b z=>by
  obtain⟨dx,xs,ys,ve,vd,e1,e2,e3,_⟩:=n.ex
  by_cases h1:b=a
  ·rw[h1];exact⟨_,e1,trivial⟩
  ·by_cases h2:b=w
   ·rw[h2];exact⟨_,e2,trivial⟩
   ·by_cases h3:b=c
    ·rw[h3];exact⟨_,e3,trivial⟩
    ·obtain⟨o,e,mb⟩:=m.ol b z
     exact⟨o,k b o e h1 h2 h3,mb⟩
 refine⟨n,⟨m.rr.len,fun i d e=>?_,fun i l e=>?_,m.rr.apart,ol,m.rr.loc,m.rr.par,fun i ks l e=>?_⟩,m.no,m.me⟩
 ·obtain⟨v,e1,q⟩:=m.rr.val i d e
  rw[m.is] at q
  exact⟨v,e1,m.is.mpr (Is.mono kp m.ol (fun _ z _=>z) _ _ q)⟩
 ·have:=m.no i
  rw[qW e] at this;cases this
 ·have:=m.no i
  rw[e] at this;cases this
theorem Mch.mono(m:Mch K O H C a w c st)(ol:qR O H)(s:Same H H'):Mch K O H' C a w c st:=by
 obtain⟨dx,xs,ys,ve,vd,e1,e2,e3,e4,e5,e6,e7⟩:=m.ex
 exact⟨⟨dx,xs,ys,ve,vd,s _ _ e1,s _ _ e2,s _ _ e3,e4.same s ol,e5.same s ol,e6.same s ol,e7.same s ol⟩,m.wc,m.oa,m.ow,m.oc⟩
theorem McR.same(m:McR K O H C z a w c st r σ)(s:Same H H'):McR K O H' C z a w c st r σ:=m.step (KeepM.same s) (m.ms.mono m.ol s)
theorem McR.aw(m:Mch K O H C a w c st):a≠w/\a≠c:=by
 obtain⟨dx,xs,ys,ve,vd,e1,e2,e3,_⟩:=m.ex
 exact⟨zFQ e1 e2 (by intro z;cases z),zFQ e1 e3 (by intro z;cases z)⟩
theorem Mch.put{H2:Hp}{dx:Addr}{xs ys:List V}{ve vd:V}{most steps:Int}{wa co:List D}{en de:D}(m:Mch K O H C a w c st)(ol:qR O H)(k:KeepM a w c H H2)(e1:H2 a=some (.ins C dx (mfs most steps w c ve vd)))(e2:H2 w=some (.lst xs))(e3:H2 c=some (.lst ys))(h1:Is K O H en ve)(h2:Is K O H de vd)(h3:IsL K O H wa xs)(h4:IsL K O H co ys):Mch K O H2 C a w c ⟨most,steps,wa,co,en,de⟩:=by
 have kp:=m.kp k
 have f:∀(b:Addr),O b->H b≠none->O b:=fun _ z _=>z
 exact⟨⟨dx,xs,ys,ve,vd,e1,e2,e3,Is.mono kp ol f _ _ h1,Is.mono kp ol f _ _ h2,IsL.mono kp ol f _ _ h3,IsL.mono kp ol f _ _ h4⟩,m.wc,m.oa,m.ow,m.oc⟩
end
noncomputable abbrev MEf:=Mst->En->Option (D×Mst)
noncomputable def lM(K:Fg)(C:Addr)(z:Nat)(m:MEf):TE:=fun σ H Q=>∃O a w c st r d st',McR K O H C z a w c st r σ/\m st r=some (d,st')/\∀v H',McR K O H' C z a w c st' r σ->Is K O H' d v->KeepM a w c H H'->Q v H'
noncomputable def spM(K:Fg)(C:Addr)(n:Nat)(m:Mst->List D->Option (D×Mst)):Sp:=fun vs H Q _=>∃O a w c st ds us d st',vs=.ref a::us/\ds.length=n/\Mch K O H C a w c st/\qR O H/\IsL K O H ds us/\m st ds=some (d,st')/\∀v H',Mch K O H' C a w c st'->qR O H'->Is K O H' d v->KeepM a w c H H'->Q v H'
section
variable{X:Cx}{C:Addr}{z:Nat}{e o:Expr}{f:ME}{pos apos bpos cpos npos:Pos}{x:Str}
noncomputable abbrev DMe(X:Cx)(C:Addr)(z:Nat)(e:Expr)(m:MEf):Prop:=PE X e (lM X.K C z m)
theorem xA(h:DE X e f):DMe X C z e (fun st r=>(f r).map fun d=>(d,st)):=by
 refine PE.conseq h fun σ H Q hq=>?_
 obtain⟨O,a,w,c,st,r,d,st',m,e1,q⟩:=hq
 obtain⟨d',e2,e3⟩:=map_some e1
 cases e3
 exact⟨O,r,d,m.rr,e2,fun v H' s iv=>q v H' (m.same s) ((m.same s).is.mp iv) (KeepM.same s)⟩
theorem wU{O:Addr->Prop}{H:Hp}{a w c:Addr}{st:Mst}{r:En}{σ:St}(m:McR X.K O H C z a w c st r σ):σ[z]?=some (some (.ref a)):=m.me
noncomputable def zE9(f:Str)(sel:Mst->D):Prop:=∀(K:Fg) (O:Addr->Prop) (H:Hp) (st:Mst) (w c:Addr) (ve vd:V),Is K O H st.ended ve->Is K O H st.defs vd->∃v,(mfs st.most st.steps w c ve vd).lookup f=some v/\Is K O H (sel st) v
theorem zD0:zE9 "most" fun st=>.int st.most:=fun K O H st w c ve vd _ _=>⟨_,rfl,by rw[Is.int_iff]⟩
theorem dH:zE9 "steps" fun st=>.int st.steps:=fun K O H st w c ve vd _ _=>⟨_,rfl,by rw[Is.int_iff]⟩
theorem u7:zE9 "ended" fun st=>st.ended:=fun K O H st w c ve vd h _=>⟨_,rfl,h⟩
theorem uW{fn:Str}{sel:Mst->D}(hv:PE X (.Name x npos) (j3 z))(cl:Cls X.K C)(na:NoAttr X.K C fn)(hf:zE9 fn sel)(hb:attributeBase (.Name x npos) fn X.env (eval (.Name x npos) X.env)=eval (.Name x npos) X.env:=by rfl):DMe X C z (.Attribute (.Name x npos) fn pos) (fun st _=>some (sel st,st)):=by
 refine PE.conseq (uO hv hb) fun σ H Q hq=>?_
 obtain⟨O,a,w,c,st,r,d,st',m,e1,q⟩:=hq
 cases e1
 obtain⟨dx,xs,ys,ve,vd,g1,g2,g3,g4,g5,g6,g7⟩:=m.ms.ex
 obtain⟨v,l,iv⟩:=hf X.K O H st w c ve vd g4 g5
 exact⟨.ref a,wU m,a,C,dx,_,v,rfl,g1,cl,na,l,q v H m iv (KeepM.refl H)⟩
noncomputable def zB6(st:Mst)(d:D):Mst:={ st with wait:=st.wait++[d] }
noncomputable def zGR(st:Mst)(d:D):Mst:={ st with come:=st.come++[d] }
theorem XJ(hv:PE X (.Name x npos) (j3 z))(cl:Cls X.K C)(na:NoAttr X.K C "waiting")(h:DE X e f)(hs:starEach [e] X.env=(false,eval e X.env)::starEach [] X.env:=by rfl)(hb:attributeBase (.Name x npos) "waiting" X.env (eval (.Name x npos) X.env)=eval (.Name x npos) X.env:=by rfl)(hbase:attributeBase (.Attribute (.Name x npos) "waiting" bpos) "append" X.env (eval (.Attribute (.Name x npos) "waiting" bpos) X.env)=eval (.Attribute (.Name x npos) "waiting" bpos) X.env:=by rfl)(hfew:((backTo cpos (starEach [e] X.env)).all (fun x=>!x.1) && (backToKw cpos (keywordEach [] X.env)).all (fun x=>x.1.isSome)
   && decide (([e]:List Expr).length+([]:List Keyword).length+(if ([]:List Keyword).isEmpty then 0 else 1)<30))=true:=by rfl)(hline:(apos.endLine == cpos.line)=true:=by rfl)(hplain:(backTo cpos (starEach [] X.env)).any (·.1)=false:=by rfl):DMe X C z (.Call (.Attribute (.Attribute (.Name x npos) "waiting" bpos) "append" apos) [e] [] cpos) (fun st r=>(f r).bind fun d=>if st.wait.length<sizeLine then some (.non,zB6 st d) else none):=by
 refine PE.conseq (ZH PySem.F.plainAttrs_list PySem.F.slot_list_append PySem.F.type_list_append jK (uO hv hb) (zX h y0 hs) hbase hfew hline hs hplain) fun σ H Q hq=>?_
 obtain⟨O,a,w,c,st,r,d,st',m,e1,q⟩:=hq
 obtain⟨d',e2,e3⟩:=bind_some e1
 split at e3
 ·rename_i hl
  cases e3
  obtain⟨dx,xs,ys,ve,vd,g1,g2,g3,g4,g5,g6,g7⟩:=m.ms.ex
  refine⟨.ref a,wU m,a,C,dx,_,.ref w,rfl,g1,cl,na,rfl,.inl ⟨rfl,_,SqL.of g2⟩,O,r,d',m.rr,e2,fun v H1 s1 iv=>?_⟩
  have m1:=m.same s1
  have aw:=McR.aw m.ms
  refine⟨w,xs,v,rfl,rfl,s1 _ _ g2,by rw[<-g6.length];exact hl,?_⟩
  have k1:KeepM a w c H1 (upd H1 w (.lst (xs++[v]))):=fun b o e _ h2 _=>by rw[zI h2];exact e
  have n:=Mch.put (K:=X.K) (H2:=upd H1 w (.lst (xs++[v]))) (wa:=st.wait++[d']) m1.ms m1.ol k1 (by rw[zI aw.1];exact s1 _ _ g1) zK (by rw[zI m.ms.wc.symm];exact s1 _ _ g3) (g4.same s1 m.ol) (g5.same s1 m.ol) ((g6.same s1 m.ol).append (.cons (m1.is.mp iv) .nil)) (g7.same s1 m.ol)
  exact q .non _ (m1.step k1 n) (by rw[Is.non_iff]) ((KeepM.same s1).trans k1)
 ·cases e3
theorem zDH(hv:PE X (.Name x npos) (j3 z))(cl:Cls X.K C)(na:NoAttr X.K C "come")(h:DE X e f)(hs:starEach [e] X.env=(false,eval e X.env)::starEach [] X.env:=by rfl)(hb:attributeBase (.Name x npos) "come" X.env (eval (.Name x npos) X.env)=eval (.Name x npos) X.env:=by rfl)(hbase:attributeBase (.Attribute (.Name x npos) "come" bpos) "append" X.env (eval (.Attribute (.Name x npos) "come" bpos) X.env)=eval (.Attribute (.Name x npos) "come" bpos) X.env:=by rfl)(hfew:((backTo cpos (starEach [e] X.env)).all (fun x=>!x.1) && (backToKw cpos (keywordEach [] X.env)).all (fun x=>x.1.isSome)
   && decide (([e]:List Expr).length+([]:List Keyword).length+(if ([]:List Keyword).isEmpty then 0 else 1)<30))=true:=by rfl)(hline:(apos.endLine == cpos.line)=true:=by rfl)(hplain:(backTo cpos (starEach [] X.env)).any (·.1)=false:=by rfl):DMe X C z (.Call (.Attribute (.Attribute (.Name x npos) "come" bpos) "append" apos) [e] [] cpos) (fun st r=>(f r).bind fun d=>if st.come.length<sizeLine then some (.non,zGR st d) else none):=by
 refine PE.conseq (ZH PySem.F.plainAttrs_list PySem.F.slot_list_append PySem.F.type_list_append jK (uO hv hb) (zX h y0 hs) hbase hfew hline hs hplain) fun σ H Q hq=>?_
 obtain⟨O,a,w,c,st,r,d,st',m,e1,q⟩:=hq
 obtain⟨d',e2,e3⟩:=bind_some e1
 split at e3
 ·rename_i hl
  cases e3
  obtain⟨dx,xs,ys,ve,vd,g1,g2,g3,g4,g5,g6,g7⟩:=m.ms.ex
  refine⟨.ref a,wU m,a,C,dx,_,.ref c,rfl,g1,cl,na,rfl,.inl ⟨rfl,_,SqL.of g3⟩,O,r,d',m.rr,e2,fun v H1 s1 iv=>?_⟩
  have m1:=m.same s1
  have aw:=McR.aw m.ms
  refine⟨c,ys,v,rfl,rfl,s1 _ _ g3,by rw[<-g7.length];exact hl,?_⟩
  have k1:KeepM a w c H1 (upd H1 c (.lst (ys++[v]))):=fun b o e _ _ h2=>by rw[zI h2];exact e
  have n:=Mch.put (K:=X.K) (H2:=upd H1 c (.lst (ys++[v]))) (co:=st.come++[d']) m1.ms m1.ol k1 (by rw[zI aw.2];exact s1 _ _ g1) (by rw[zI m.ms.wc];exact s1 _ _ g2) zK (g4.same s1 m.ol) (g5.same s1 m.ol) (g6.same s1 m.ol) ((g7.same s1 m.ol).append (.cons (m1.is.mp iv) .nil))
  exact q .non _ (m1.step k1 n) (by rw[Is.non_iff]) ((KeepM.same s1).trans k1)
 ·cases e3
theorem nU{α:Type}{l:List α}{d:α}(h:l.getLast?=some d):l[l.length-1]?=some d/\l=l.dropLast++[d]:=by
 rw[List.getLast?_eq_getElem?] at h
 refine⟨h,?_⟩
 have hn:l≠[]:=by rintro rfl;simp at h
 rw[bb (by have:=List.length_pos_iff.mpr hn;omega)] at h
 have:=List.dropLast_concat_getLast hn
 rw[List.getLast_eq_getElem,aq h] at this
 exact this.symm
theorem IsL.last{K:Fg}{O:Addr->Prop}{H:Hp}{l:List D}{xs:List V}{d:D}(h:IsL K O H l xs)(e:l.getLast?=some d):∃y,xs[xs.length-1]?=some y/\Is K O H d y/\IsL K O H l.dropLast xs.dropLast:=by
 obtain⟨y,e1,iy⟩:=h.get (nU e).1
 rw[h.length] at e1
 refine⟨y,e1,iy,?_⟩
 rw[List.dropLast_eq_take,List.dropLast_eq_take,h.length]
 exact h.take _
theorem zDF(hv:PE X (.Name x npos) (j3 z))(cl:Cls X.K C)(na:NoAttr X.K C "waiting")(hb:attributeBase (.Name x npos) "waiting" X.env (eval (.Name x npos) X.env)=eval (.Name x npos) X.env:=by rfl)(hbase:attributeBase (.Attribute (.Name x npos) "waiting" bpos) "pop" X.env (eval (.Attribute (.Name x npos) "waiting" bpos) X.env)=eval (.Attribute (.Name x npos) "waiting" bpos) X.env:=by rfl)(hline:(apos.endLine == cpos.line)=true:=by rfl):DMe X C z (.Call (.Attribute (.Attribute (.Name x npos) "waiting" bpos) "pop" apos) [] [] cpos) (fun st _=>st.wait.getLast?.map fun d=>(d,{ st with wait:=st.wait.dropLast })):=by
 refine PE.conseq (ZG PySem.F.plainAttrs_list PySem.F.slot_list_pop PySem.F.type_list_pop ZR (uO hv hb) hbase hline) fun σ H Q hq=>?_
 obtain⟨O,a,w,c,st,r,d,st',m,e1,q⟩:=hq
 obtain⟨d',e2,e3⟩:=map_some e1
 cases e3
 obtain⟨dx,xs,ys,ve,vd,g1,g2,g3,g4,g5,g6,g7⟩:=m.ms.ex
 have aw:=McR.aw m.ms
 obtain⟨y,ey,iy,il⟩:=g6.last e2
 refine⟨.ref a,wU m,a,C,dx,_,.ref w,rfl,g1,cl,na,rfl,.inl ⟨rfl,_,SqL.of g2⟩,w,xs,y,rfl,rfl,g2,ey,?_⟩
 have k1:KeepM a w c H (upd H w (.lst xs.dropLast)):=fun b o e _ h2 _=>by rw[zI h2];exact e
 have n:=Mch.put (K:=X.K) (H2:=upd H w (.lst xs.dropLast)) (wa:=st.wait.dropLast) m.ms m.ol k1 (by rw[zI aw.1];exact g1) zK (by rw[zI m.ms.wc.symm];exact g3) g4 g5 il g7
 exact q y _ (m.step k1 n) (Is.mono (m.ms.kp k1) m.ol (fun _ z _=>z) _ _ iy) k1
theorem zDG(hv:PE X (.Name x npos) (j3 z))(cl:Cls X.K C)(na:NoAttr X.K C "come")(hb:attributeBase (.Name x npos) "come" X.env (eval (.Name x npos) X.env)=eval (.Name x npos) X.env:=by rfl)(hbase:attributeBase (.Attribute (.Name x npos) "come" bpos) "pop" X.env (eval (.Attribute (.Name x npos) "come" bpos) X.env)=eval (.Attribute (.Name x npos) "come" bpos) X.env:=by rfl)(hline:(apos.endLine == cpos.line)=true:=by rfl):DMe X C z (.Call (.Attribute (.Attribute (.Name x npos) "come" bpos) "pop" apos) [] [] cpos) (fun st _=>st.come.getLast?.map fun d=>(d,{ st with come:=st.come.dropLast })):=by
 refine PE.conseq (ZG PySem.F.plainAttrs_list PySem.F.slot_list_pop PySem.F.type_list_pop ZR (uO hv hb) hbase hline) fun σ H Q hq=>?_
 obtain⟨O,a,w,c,st,r,d,st',m,e1,q⟩:=hq
 obtain⟨d',e2,e3⟩:=map_some e1
 cases e3
 obtain⟨dx,xs,ys,ve,vd,g1,g2,g3,g4,g5,g6,g7⟩:=m.ms.ex
 have aw:=McR.aw m.ms
 obtain⟨y,ey,iy,il⟩:=g7.last e2
 refine⟨.ref a,wU m,a,C,dx,_,.ref c,rfl,g1,cl,na,rfl,.inl ⟨rfl,_,SqL.of g3⟩,c,ys,y,rfl,rfl,g3,ey,?_⟩
 have k1:KeepM a w c H (upd H c (.lst ys.dropLast)):=fun b o e _ _ h2=>by rw[zI h2];exact e
 have n:=Mch.put (K:=X.K) (H2:=upd H c (.lst ys.dropLast)) (co:=st.come.dropLast) m.ms m.ol k1 (by rw[zI aw.2];exact g1) (by rw[zI m.ms.wc];exact g2) zK g4 g5 g6 il
 exact q y _ (m.step k1 n) (Is.mono (m.ms.kp k1) m.ol (fun _ z _=>z) _ _ iy) k1
end
open PySem PySem.Spec PyProof.Rows L2 PySem.W
noncomputable abbrev MEa:=Mst->En->Option (List D×Mst)
noncomputable def lMa(K:Fg)(C:Addr)(z:Nat)(m:MEa):TA:=fun σ H Q=>∃O a w c st r l st',McR K O H C z a w c st r σ/\m st r=some (l,st')/\∀vs H',McR K O H' C z a w c st' r σ->IsL K O H' l vs->KeepM a w c H H'->Q vs H'
noncomputable abbrev DMa(X:Cx)(C:Addr)(z:Nat)(es:List Expr)(m:MEa):Prop:=PA X es (lMa X.K C z m)
noncomputable def xP:MEa:=fun st _=>some ([],st)
noncomputable def zV(m:MEf)(ms:MEa):MEa:=fun st r=>(m st r).bind fun p=>(ms p.2 r).map fun q=>(p.1::q.1,q.2)
section
variable{X:Cx}{C:Addr}{z:Nat}{e:Expr}{es:List Expr}{m:MEf}{ms:MEa}{x:Str}{pos apos npos p:Pos}
theorem qC:DMa X C z [] xP:=by
 refine PA.conseq y0 fun σ H Q hq=>?_
 obtain⟨O,a,w,c,st,r,l,st',mr,e1,q⟩:=hq
 cases e1
 exact q [] H mr .nil (KeepM.refl H)
theorem yM(h:DMe X C z e m)(hs:DMa X C z es ms)(hst:starEach (e::es) X.env=(false,eval e X.env)::starEach es X.env:=by rfl):DMa X C z (e::es) (zV m ms):=by
 refine PA.conseq (zX h hs hst) fun σ H Q hq=>?_
 obtain⟨O,a,w,c,st,r,l,st',mr,e1,q⟩:=hq
 obtain⟨⟨d,st1⟩,e2,e3⟩:=bind_some e1
 obtain⟨⟨l1,st2⟩,e4,e5⟩:=map_some e3
 cases e5
 refine⟨O,a,w,c,st,r,d,st1,mr,e2,fun v H1 m1 iv k1=>⟨O,a,w,c,st1,r,l1,st2,m1,e4,fun vs H2 m2 il k2=>?_⟩⟩
 exact q (v::vs) H2 m2 (.cons (Is.mono (m1.ms.kp k2) m1.ol (fun _ z _=>z) _ _ iv) il) (k1.trans k2)
theorem zDI{fs:ML}(h:DA X es fs):DMa X C z es (fun st r=>(fs r).map fun l=>(l,st)):=by
 refine PA.conseq h fun σ H Q hq=>?_
 obtain⟨O,a,w,c,st,r,l,st',mr,e1,q⟩:=hq
 obtain⟨l',e2,e3⟩:=map_some e1
 cases e3
 refine⟨O,r,l,mr.rr,e2,fun vs H' s il=>q vs H' (mr.same s) ?_ (KeepM.same s)⟩
 rw[show Ow O r σ=O from funext fun b=>propext mr.no.ow] at il
 exact il
noncomputable def x6(n:Nat)(mm:Mst->List D->Option (D×Mst))(ms:MEa):MEf:=fun st r=>(ms st r).bind fun p=>if p.1.length=n then mm p.2 p.1 else none
variable{k n:Nat}{f:Addr}{fd:FuncData}{ps:List Str}{mm:Mst->List D->Option (D×Mst)}{mn:Str}
theorem oZ{O:Addr->Prop}{H:Hp}{a w c:Addr}{st st':Mst}{r:En}{σ:St}{ds:List D}{us:List V}{d:D}{Q:VK}{E:XK}(mr:McR X.K O H C z a w c st r σ)(hl:ds.length=n)(il:IsL X.K O H ds us)(e:mm st ds=some (d,st'))(q:∀v H',McR X.K O H' C z a w c st' r σ->Is X.K O H' d v->KeepM a w c H H'->Q v H'):spM X.K C n mm (.ref a::us++[]) H Q E:=by
 rw[List.append_nil]
 exact⟨O,a,w,c,st,ds,us,d,st',rfl,hl,mr.ms,mr.ol,il,e,fun v H' m' ol' iv k=>q v H' (mr.step k m') iv k⟩
theorem wP{pl:Sem Bool}(hv:PE X (.Name x npos) (j3 z))(cl:Cls X.K C)(hm:Meth X.K C mn f)(hn:∀(i j:Int) (w c:Addr) (ve vd:V),(mfs i j w c ve vd).lookup mn=none)(F:FnOk X.prog X.w X.K X.mg X.base CX0 k f fd ps (spM X.K C n mm))(hr:Room k X.A)(hb:Binds X.K fd ps [])(ha:DMa X C z (e::es) ms)(hst:starEach (e::es) X.env=(false,eval e X.env)::starEach es X.env:=by rfl)(hpl:(backTo pos (starEach es X.env)).any (·.1)=false:=by rfl)(ht:eval (.Call (.Attribute (.Name x npos) mn apos) (e::es) [] pos) X.env=(do
   let ov <- eval (.Name x npos) X.env
   standAt apos.atName
   let (f,first) <- holding [ov] (getMethod ov mn pl)
   callWith pos f first (backTo pos (starEach (e::es) X.env)) (backToKw pos (keywordEach [] X.env))):=by rfl):DMe X C z (.Call (.Attribute (.Name x npos) mn apos) (e::es) [] pos) (x6 n mm ms):=by
 refine PE.conseq (zCP (E:=fun _ _ _=>False) (dvs:=[]) hv cl hm F hr hb .nil cS ha hst hpl ht) fun σ H Q hq=>?_
 obtain⟨O,a,w,c,st,r,d,st',mr,e1,q⟩:=hq
 obtain⟨⟨ds,st1⟩,e2,e3⟩:=bind_some e1
 split at e3
 ·rename_i hl
  obtain⟨dx,xs,ys,ve,vd,g1,_⟩:=mr.ms.ex
  refine⟨.ref a,wU mr,a,dx,_,rfl,g1,hn _ _ _ _ _ _,O,a,w,c,st,r,ds,st1,mr,e2,fun vs H1 m1 il k1=>?_⟩
  exact oZ m1 hl il e3 fun v H' m' iv k'=>q v H' m' iv (k1.trans k')
 ·cases e3
theorem dE{pl:Sem Bool}(hv:PE X (.Name x npos) (j3 z))(cl:Cls X.K C)(hm:Meth X.K C mn f)(hn:∀(i j:Int) (w c:Addr) (ve vd:V),(mfs i j w c ve vd).lookup mn=none)(F:FnOk X.prog X.w X.K X.mg X.base CX0 k f fd ps (spM X.K C 0 mm))(hr:Room k X.A)(hb:Binds X.K fd ps [])(ht:eval (.Call (.Attribute (.Name x npos) mn apos) [] [] pos) X.env=(do
   let ov <- eval (.Name x npos) X.env
   standAt apos.atName
   let (f,first) <- holding [ov] (getMethod ov mn pl)
   callWith pos f first (backTo pos (starEach [] X.env)) (backToKw pos (keywordEach [] X.env))):=by rfl):DMe X C z (.Call (.Attribute (.Name x npos) mn apos) [] [] pos) (fun st _=>mm st []):=by
 refine PE.conseq (QO (E:=fun _ _ _=>False) (dvs:=[]) hv cl hm F hr hb .nil cS ht) fun σ H Q hq=>?_
 obtain⟨O,a,w,c,st,r,d,st',mr,e1,q⟩:=hq
 obtain⟨dx,xs,ys,ve,vd,g1,_⟩:=mr.ms.ex
 refine⟨.ref a,wU mr,a,dx,_,rfl,g1,hn _ _ _ _ _ _,?_⟩
 exact oZ (us:=[]) (E:=fun _ _ _=>False) mr rfl .nil e1 q
end
noncomputable abbrev MEt:=Mst->En->Option (Bool×Mst)
noncomputable def lMt(K:Fg)(C:Addr)(z:Nat)(m:MEt):TT:=fun σ H Q=>∃O a w c st r b st',McR K O H C z a w c st r σ/\m st r=some (b,st')/\∀H',McR K O H' C z a w c st' r σ->KeepM a w c H H'->Q b H'
noncomputable abbrev DMt(X:Cx)(C:Addr)(z:Nat)(e:Expr)(m:MEt):Prop:=PT X e (lMt X.K C z m)
section
variable{X:Cx}{C:Addr}{z:Nat}{e:Expr}{m:MEf}
theorem gP{b:MB}(h:DT X e b):DMt X C z e (fun st r=>(b r).map fun z=>(z,st)):=by
 refine PT.conseq h fun σ H Q hq=>?_
 obtain⟨O,a,w,c,st,r,z,st',mr,e1,q⟩:=hq
 obtain⟨z',e2,e3⟩:=map_some e1
 cases e3
 exact⟨O,r,z,mr.rr,e2,fun H' s=>q H' (mr.same s) (KeepM.same s)⟩
end
inductive MFl where
 |nx (st:Mst) (r:En)|rt (d:D) (st:Mst) (r:En)
noncomputable abbrev MEs:=Mst->En->Option MFl
noncomputable def MFl.to(K:Fg)(O:Addr->Prop)(C:Addr)(z:Nat)(a w c:Addr)(H:Hp)(Dn:Ends):MFl->Prop
 |.nx st' r'=>∀σ' H',McR K O H' C z a w c st' r' σ'->KeepM a w c H H'->Dn.nx σ' H'
 |.rt d st' r'=>∀v σ' H',McR K O H' C z a w c st' r' σ'->Is K O H' d v->KeepM a w c H H'->Dn.rt v H'
noncomputable def lMs(K:Fg)(C:Addr)(z:Nat)(g:MEs):TS:=fun Dn σ H=>∃O a w c st r fl,McR K O H C z a w c st r σ/\g st r=some fl/\fl.to K O C z a w c H Dn
noncomputable abbrev DMs(X:Cx)(C:Addr)(z:Nat)(st:Stmt)(g:MEs):Prop:=PS X st (lMs X.K C z g)
noncomputable abbrev zAN(X:Cx)(C:Addr)(z:Nat)(sts:List Stmt)(g:MEs):Prop:=PSs X sts (lMs X.K C z g)
noncomputable def oH:MEs:=fun st r=>some (.nx st r)
noncomputable def rW(g h:MEs):MEs:=fun st r=>(g st r).bind fun fl=>match fl with
 |.nx st' r'=>h st' r'
 |.rt d st' r'=>some (.rt d st' r')
noncomputable def uDo(m:MEf):MEs:=fun st r=>(m st r).map fun p=>.nx p.2 r
noncomputable def zAO(m:MEf):MEs:=fun st r=>(m st r).map fun p=>.rt p.1 p.2 r
noncomputable def zJO(z i:Nat)(m:MEf):MEs:=fun st r=>(m st r).bind fun p=>if i=z then none else (yN i p.1 r).map fun r'=>.nx p.2 r'
noncomputable def uIf(t:MEt)(g h:MEs):MEs:=fun st r=>(t st r).bind fun p=>if p.1=true then g p.2 r else h p.2 r
theorem MFl.to_keep{K:Fg}{O:Addr->Prop}{z:Nat}{C a w c:Addr}{H H1:Hp}{Dn:Ends}{fl:MFl}(k:KeepM a w c H H1)(h:fl.to K O C z a w c H Dn):fl.to K O C z a w c H1 Dn:=by
 cases fl with
 |nx st r=>exact fun σ' H' m k'=>h σ' H' m (k.trans k')
 |rt d st r=>exact fun v σ' H' m iv k'=>h v σ' H' m iv (k.trans k')
section
variable{X:Cx}{C:Addr}{z:Nat}{e:Expr}{m:MEf}{st1:Stmt}{sts:List Stmt}{g h:MEs}{pos pos':Pos}{x:Str}{t:MEt}
theorem ZU:zAN X C z [] oH:=by
 refine PSs.conseq XA fun Dn σ H hq=>?_
 obtain⟨O,a,w,c,st,r,fl,mr,e1,q⟩:=hq
 cases e1
 exact q σ H mr (KeepM.refl H)
theorem jV(h1:DMs X C z st1 g)(h2:zAN X C z sts h):zAN X C z (st1::sts) (rW g h):=by
 refine PSs.conseq (qL h1 h2) fun Dn σ H hq=>?_
 obtain⟨O,a,w,c,st,r,fl,mr,e1,q⟩:=hq
 obtain⟨fl1,e2,e3⟩:=bind_some e1
 refine⟨O,a,w,c,st,r,fl1,mr,e2,?_⟩
 cases fl1 with
 |nx st' r'=>exact fun σ' H' m' k'=>⟨O,a,w,c,st',r',fl,m',e3,MFl.to_keep k' q⟩
 |rt d st' r'=>cases e3;exact q
theorem xF(h1:DMs X C z st1 g):zAN X C z [st1] g:=gG h1
theorem j9(he:DMe X C z e m)(hs:swapsWith e none pos.line X.env=pure false:=by rfl):DMs X C z (.Expr e pos) (uDo m):=by
 refine PS.conseq (pG he hs) fun Dn σ H hq=>?_
 obtain⟨O,a,w,c,st,r,fl,mr,e1,q⟩:=hq
 obtain⟨⟨d,st'⟩,e2,e3⟩:=map_some e1
 cases e3
 exact⟨O,a,w,c,st,r,d,st',mr,e2,fun v H' m' _ k'=>q σ H' m' k'⟩
theorem nM(he:DMe X C z e m):DMs X C z (.Return (some e) pos) (zAO m):=by
 refine PS.conseq (t9 he) fun Dn σ H hq=>?_
 obtain⟨O,a,w,c,st,r,fl,mr,e1,q⟩:=hq
 obtain⟨⟨d,st'⟩,e2,e3⟩:=map_some e1
 cases e3
 exact⟨O,a,w,c,st,r,d,st',mr,e2,fun v H' m' iv k'=>q v σ H' m' iv k'⟩
theorem pQ{c:Expr}{as bs:List Stmt}(hc:DMt X C z c t)(ha:zAN X C z as g)(hb:zAN X C z bs h):DMs X C z (.If c as bs pos) (uIf t g h):=by
 refine PS.conseq (zI2 hc ha hb) fun Dn σ H hq=>?_
 obtain⟨O,a,w,c,st,r,fl,mr,e1,q⟩:=hq
 obtain⟨⟨b,st'⟩,e2,e3⟩:=bind_some e1
 refine⟨O,a,w,c,st,r,b,st',mr,e2,fun H' m' k'=>?_⟩
 cases b with
 |true=>exact⟨O,a,w,c,st',r,fl,m',e3,MFl.to_keep k' q⟩
 |false=>exact⟨O,a,w,c,st',r,fl,m',e3,MFl.to_keep k' q⟩
end
open PySem PySem.Spec PyProof.Rows L2 PySem.W
section
variable{X:Cx}{C:Addr}{z:Nat}{e e':Expr}{m m':MEf}{f:ME}{pos pos' npos apos tpos:Pos}{x y:Str}
theorem NoOwn.set{r:En}{i:Nat}{d:D}(h:NoOwn r):NoOwn (r.set i (.v d)):=fun j=>by
 by_cases hj:i=j
 ·subst hj
  by_cases hi:i<r.length
  ·rw[zG hi];rfl
  ·rw[List.getElem?_eq_none (by rw[List.length_set];omega)];rfl
 ·rw[zC hj];exact h j
theorem zHJ(i:Nat)(he:DMe X C z e m)(hN:X.N.Nodup)(hi:X.N[i]?=some x:=by rfl)(hx:Loc X.env.scope x:=by first|exact Or.inl rfl|exact Or.inr rfl)(hs:swapsWith e (some (.Name x pos')) pos.line X.env=pure false:=by rfl)(hf:X.fn x=true\/X.env.kindOf x=some .local:=by first|exact Or.inl rfl|exact Or.inr rfl):DMs X C z (.Assign [.Name x pos'] e pos) (zJO z i m):=by
 refine PS.conseq (gH hN hi hx he hs hf) fun Dn σ H hq=>?_
 obtain⟨O,a,w,c,st,r,fl,mr,e1,q⟩:=hq
 obtain⟨⟨d,st'⟩,e2,e3⟩:=bind_some e1
 split at e3
 ·cases e3
 ·rename_i h0
  obtain⟨r',e4,rfl⟩:=map_some e3
  obtain⟨hl,np,rfl⟩:=qB e4
  refine⟨O,a,w,c,st,r,d,st',mr,e2,fun v H1 m1 iv k1=>?_⟩
  obtain⟨R1,_⟩:=m1.rr.setv hl np (m1.is.mpr iv)
  exact q _ H1 ⟨m1.ms,R1,m1.no.set,by rw[List.getElem?_set_ne h0];exact m1.me⟩ k1
noncomputable def zJ7(f:ME):MEs:=fun st r=>(f r).map fun d=>.nx { st with ended:=d } r
theorem zHL(hv:PE X (.Name x npos) (j3 z))(cl:Cls X.K C)(na:NoAttr X.K C "ended")(h:DE X e f)(hs:swapsWith e (some (.Attribute (.Name x npos) "ended" apos)) pos.line X.env=pure false:=by rfl):DMs X C z (.Assign [.Attribute (.Name x npos) "ended" apos] e pos) (zJ7 f):=by
 refine PS.conseq (cJ hv h hs) fun Dn σ H hq=>?_
 obtain⟨O,a,w,c,st,r,fl,mr,e1,q⟩:=hq
 obtain⟨d,e2,rfl⟩:=map_some e1
 refine⟨O,r,d,mr.rr,e2,fun v H1 s1 iv=>?_⟩
 have m1:=mr.same s1
 obtain⟨dx,xs,ys,ve,vd,g1,g2,g3,g4,g5,g6,g7⟩:=m1.ms.ex
 have aw:=McR.aw m1.ms
 refine⟨.ref a,wU m1,a,C,dx,_,rfl,g1,cl,na,by show 6<1000;decide,?_⟩
 have k1:KeepM a w c H1 (upd H1 a (.ins C dx (mfs st.most st.steps w c v vd))):=fun b o e h2 _ _=>by rw[zI h2];exact e
 have n:=Mch.put (K:=X.K) (H2:=upd H1 a (.ins C dx (mfs st.most st.steps w c v vd))) (en:=d) m1.ms m1.ol k1 zK (by rw[zI aw.1.symm];exact g2) (by rw[zI aw.2.symm];exact g3) (m1.is.mp iv) g5 g6 g7
 exact q σ _ (m1.step k1 n) ((KeepM.same s1).trans k1)
theorem zDA{j:Nat}(hv:PE X (.Name x npos) (j3 z))(cl:Cls X.K C)(na:NoAttr X.K C "steps"):DMs X C z (.AugAssign (.Attribute (.Name x npos) "steps" tpos) .Add (.Constant (.int 1) j pos') pos) (fun st r=>some (.nx { st with steps:=st.steps+1 } r)):=by
 refine PS.conseq (ZB hv nE zH4) fun Dn σ H hq=>?_
 obtain⟨O,a,w,c,st,r,fl,mr,e1,q⟩:=hq
 cases e1
 obtain⟨dx,xs,ys,ve,vd,g1,g2,g3,g4,g5,g6,g7⟩:=mr.ms.ex
 have aw:=McR.aw mr.ms
 refine⟨.ref a,wU mr,a,C,dx,_,.int st.steps,rfl,g1,cl,na,rfl,?_⟩
 refine⟨st.steps,1,rfl,rfl,dx,_,g1,by show 6<1000;decide,?_⟩
 have k1:KeepM a w c H (upd H a (.ins C dx (mfs st.most (st.steps+1) w c ve vd))):=fun b o e h2 _ _=>by rw[zI h2];exact e
 have n:=Mch.put (K:=X.K) (H2:=upd H a (.ins C dx (mfs st.most (st.steps+1) w c ve vd))) (steps:=st.steps+1) mr.ms mr.ol k1 zK (by rw[zI aw.1.symm];exact g2) (by rw[zI aw.2.symm];exact g3) g4 g5 g6 g7
 exact q σ _ (mr.step k1 n) k1
theorem zK1{i j:Mst->Int}(ha:DMe X C z e fun st _=>some (.int (i st),st))(hb:DMe X C z e' fun st _=>some (.int (j st),st))(hm:behindInMarks .GtE e'=false):DMt X C z (.Compare e [.GtE] [e'] pos) (fun st _=>some (decide (j st<=i st),st)):=by
 refine PT.conseq (Y9 zKV ha hb hm) fun σ H Q hq=>?_
 obtain⟨O,a,w,c,st,r,b,st',mr,e1,q⟩:=hq
 cases e1
 refine⟨O,a,w,c,st,r,_,st,mr,rfl,fun v H1 m1 iv k1=>⟨O,a,w,c,st,r,_,st,m1,rfl,fun u H2 m2 iu k2=>?_⟩⟩
 rw[Is.int_iff] at iv iu
 exact⟨i st,j st,iv,iu,_,rfl,q H2 m2 (k1.trans k2)⟩
theorem zI8(ha:DMe X C z e m)(he:∀whole,isTrue e X.env whole=(do let v <- whole;standAt e.pos;holding [v] (truthy v)):=by intro _;rfl):DMt X C z e (fun st r=>(m st r).bind fun p=>match p.1 with | .bl b=>some (b,p.2)|_=>none):=by
 refine PT.conseq (zGS ha he) fun σ H Q hq=>?_
 obtain⟨O,a,w,c,st,r,b,st',mr,e1,q⟩:=hq
 obtain⟨⟨d,st1⟩,e2,e3⟩:=bind_some e1
 refine⟨O,a,w,c,st,r,d,st1,mr,e2,fun v H1 m1 iv k1=>?_⟩
 cases d<;>first|(cases e3;done)|skip
 cases e3
 rw[Is.bl_iff] at iv
 exact⟨b,iv,q H1 m1 k1⟩
end
noncomputable def mkU(n N:Nat)(g:MEs):Mst->List D->Option (D×Mst):=fun st ds=>(g st (.un::ds.map .v++List.replicate (N-(n+1)) .un)).bind fun fl=>match fl with
 |.nx st' _=>some (.non,st')
 |.rt d st' _=>some (d,st')
section
variable{P:Program}{w:World}{K:Fg}{mg:Str->Option Value}{base:Heap}{C:Addr}
theorem R.un0{O:Addr->Prop}{H:Hp}{r:En}{σ:St}{y:Option V}(h:R K O H r σ)(no:NoOwn r):R K O H (.un::r) (y::σ):=by
 have ow:Ow O r σ=O:=funext fun b=>propext no.ow
 have no':NoOwn (.un::r):=fun i=>by
  cases i with
  |zero=>rfl
  |succ i=>exact no i
 have ow':Ow O (.un::r) (y::σ)=O:=funext fun b=>propext no'.ow
 refine⟨by simp[h.len],fun i d e=>?_,fun i l e=>?_,fun i j b l m e1 e2 _ _=>?_,h.o0,fun i l b e _=>?_,fun i l b e _=>?_,fun i ks l e=>?_⟩
 ·cases i with
  |zero=>cases e
  |succ i=>
   obtain⟨v,e1,q⟩:=h.val i d e
   rw[ow] at q
   rw[ow']
   exact⟨v,e1,q⟩
 ·have:=no' i;rw[qW e] at this;cases this
 ·have:=no' i;rw[e1] at this;cases this
 ·exfalso
  have:=no' i
  rcases e with e|e|⟨ks,e⟩<;>rw[e] at this<;>cases this
 ·have:=no' i;rw[e] at this;cases this
 ·have:=no' i;rw[e] at this;cases this
theorem bU(ds:List D)(k:Nat):NoOwn (ds.map .v++List.replicate k .un):=fun i=>by
 by_cases hi:i<ds.length
 ·rw[ax (by simpa using hi),ba,bb hi];rfl
 ·rw[List.getElem?_append_right (by simpa using hi),List.getElem?_replicate]
  split<;>rfl
theorem XW{x qual:Str}{st:Stmt}{f:Addr}{fd:FuncData}{N ps:List Str}{k:Nat}{g:MEs}(F:Fun K x qual st f fd)(S:FnScope N ps (zP st))(n:Nat)(nN:Nat)(hn:ps.length=n+1:=by rfl)(hN:N.length=nN:=by rfl)(hb:∀(cdv:Value) (A:Around) (outer:List Env) (s:Shared) (H:Hp) (E:XK),Room k (A.deeper (envOfC qual (zP st) s.heap.objs.size f cdv)) ->
   zAN (zFE CX0 P w K mg base N qual (zP st) f cdv A outer s H E).nox C 0 (wX st) g):FnOk P w K mg base CX0 (k+1) f fd ps (spM K C n (mkU n nN g)):=by
 subst hN
 refine F.ok S (fun vs H Q E h=>?_) (fun cdv A outer s H vs Q E hr h=>?_)
 ·obtain⟨O,a,w',c,st',ds,us,d,st2,rfl,hl,_,_,il,_⟩:=h
  have:=il.length
  rw[av,hn];omega
 ·obtain⟨O,a,w',c,st',ds,us,d,st2,rfl,hl,ms,ol,il,e,q⟩:=h
  refine⟨_,hb cdv A outer s H E hr,?_⟩
  obtain⟨fl,e1,e2⟩:=bind_some e
  have hlu:=il.length
  have hst:L2.start N (.ref a::us)=some (.ref a)::(us.map some++List.replicate (N.length-(n+1)) none):=by
   unfold L2.start
   rw[ao,av,<-hlu,hl];rfl
  rw[hst]
  have R0:R K O H (ds.map .v++List.replicate (N.length-(n+1)) .un) (us.map some++List.replicate (N.length-(n+1)) none):=R.start (R.args ol il)
  have mr:McR K O H C 0 a w' c st' (.un::(ds.map .v++List.replicate (N.length-(n+1)) .un)) (some (.ref a)::(us.map some++List.replicate (N.length-(n+1)) none)):=
   ⟨ms,R0.un0 (bU ds _),(fun i=>by cases i with|zero=>rfl|succ i=>exact bU ds _ i),rfl⟩
  refine⟨O,a,w',c,st',_,fl,mr,e1,?_⟩
  cases fl with
  |nx st3 r'=>cases e2;exact fun σ' H' m' k'=>q .non H' m'.ms m'.ol (by rw[Is.non_iff]) k'
  |rt d' st3 r'=>cases e2;exact fun v σ' H' m' iv k'=>q v H' m'.ms m'.ol iv k'
end
open PySem PySem.Spec PyProof.Rows L2 PySem.W
noncomputable def zNR(e:DictEntry)(q:List Nat×Addr):Prop:=∃t,e.key=.str ⟨q.1.toArray⟩ t/\e.val=.ref q.2
noncomputable def rV:List DictEntry->List (List Nat×Addr)->Prop
 |[],l=>l=[]
 |e::es,l=>∃q r,l=q::r/\zNR e q/\rV es r
noncomputable def YW(mg:Str->Option Value)(K:Fg)(Ps:Params)(x:Str)(tbl:List (List Nat×Addr)):Prop:=∃(p:Addr) (es:Array DictEntry) (n:Nat),mg x=some (.ref p)/\(p == sysModules)=false/\K.lookup p=some ⟨.type "dict",none,.dict es n,#[]⟩/\PySem.W.KeysLit Ps es.toList/\rV es.toList tbl
noncomputable def kQ(tbl:List (List Nat×Addr))(s:List Nat):Option Addr:=(tbl.find? fun q=>decide (q.1=s)).map (·.2)
theorem vH(s:List Nat):∀{es:List DictEntry} {tbl:List (List Nat×Addr)},rV es tbl->(es.find? fun d=>Value.isStrOf ⟨s.toArray⟩ d.key).map (·.val)=(kQ tbl s).map Value.ref
 |[],tbl,h=>by unfold rV at h;subst h;rfl
 |e::es,tbl,h=>by
  unfold rV at h
  obtain⟨q,r,rfl,⟨t,h1,h2⟩,h3⟩:=h
  have ih:=vH s h3
  have k:Value.isStrOf (⟨s.toArray⟩:Str) e.key=decide (q.1=s):=by
   rw[h1]
   show((⟨q.1.toArray⟩:Str) == ⟨s.toArray⟩)=_
   by_cases c:q.1=s
   ·rw[decide_eq_true c,c];simp
   ·rw[decide_eq_false c]
    refine beq_eq_false_iff_ne.mpr fun z=>c ?_
    have z2:=congrArg (fun x:Str=>x.cps.toList) z
    simpa using z2
  unfold kQ at ih ⊢
  rw[List.find?_cons,List.find?_cons,k]
  cases hc:decide (q.1=s)
  ·exact ih
  ·rw[Option.map_some,h2];rfl
section
variable{X:Cx}{C:Addr}{z:Nat}{b:Expr}{es:List Expr}{f:ME}{ms:MEa}{x wn:Str}{pos p' npos bp:Pos}{tbl:List (List Nat×Addr)}
noncomputable def zNB(p:Addr)(tbl:List (List Nat×Addr)):R2:=fun x y H Q=>∃(s:List Nat) (g:Addr),x=.ref p/\y=.str ⟨s.toArray⟩/\kQ tbl s=some g/\Q (.ref g) H
theorem zHZ{p:Addr}{es:Array DictEntry}{n:Nat}(hl:X.K.lookup p=some ⟨.type "dict",none,.dict es n,#[]⟩)(hk:PySem.W.KeysLit X.w.params es.toList)(he:rV es.toList tbl):IxR X (zNB p tbl):=by
 intro value slice pins s σ H x y v u Q I rx ry h hs
 obtain⟨z,g,rfl,rfl,e,q⟩:=h
 cases rx
 obtain⟨t,rfl⟩:=ry
 have hmap:=JM (tbl:=[]) (Ps:=X.w.params) (x:="") I hl hk
 have fnd:=vH z he
 rw[e,<-b8] at fnd
 exact subscriptTail_builtinR (x:=.ref g) hmap.typeIs slot_dict_getitem.lookup (wpAny_getItem_of (Q:=fun r s'=>r=Value.ref g/\EP X pins σ Q r s') (strKind_is _ _ _ t) hmap fnd ⟨rfl,.ref g,H,I.tok _,rfl,q⟩) hs
noncomputable def atR(tbl:List (List Nat×Addr)):D->Option D
 |.str s=>(kQ tbl s).map .ref
 |_=>none
theorem zEY(h:YW X.mg X.K X.w.params wn tbl)(hg:Gl X wn)(hb:DE X b f)(hs:v8 b:=by intro _ _;rfl)(hd:(wn == ("__debug__" : Str))=false:=by decide):DE X (.Subscript (.Name wn p') b pos) (mUn (atR tbl) f):=by
 obtain⟨p,es,n,h1,h2,h3,h4,h5⟩:=h
 refine PE.conseq (zCR (zHZ h3 h4 h5) (WE (p:=p) h1 hg hd) hb hs) fun σ H Q hq=>?_
 obtain⟨O0,r,d,hR,e,q⟩:=hq
 obtain⟨k,e1,e2⟩:=bind_some e
 cases k<;>first|(simp only[atR,reduceCtorEq] at e2;done)|skip
 simp only[atR] at e2
 obtain⟨v,e3,rfl⟩:=map_some e2
 refine⟨O0,r,_,hR,rfl,fun v1 H1 s1 i1=>⟨O0,r,_,hR.same s1,e1,fun v2 H2 s2 i2=>?_⟩⟩
 rw[Is.ref_iff] at i1
 rw[Is.str_iff] at i2
 exact⟨_,v,i1,i2,e3,q _ H2 (s1.trans s2) (by rw[Is.ref_iff])⟩
noncomputable def zFG(n:Nat)(ways:List Nat->Option (Mst->List D->Option (D×Mst)))(f:ME)(ms:MEa):MEf:=fun st r=>(f r).bind fun d=>match d with
 |.str key=>(ways key).bind fun mm=>(ms st r).bind fun p=>if p.1.length=n then mm p.2 p.1 else none
 |_=>none
theorem zDC{k n:Nat}{ways:List Nat->Option (Mst->List D->Option (D×Mst))}(hG:YW X.mg X.K X.w.params wn tbl)(hg:Gl X wn)(hk:DE X b f)(hv:PE X (.Name x npos) (j3 z))(ha:DMa X C z es ms)(hw:∀key mm,ways key=some mm->∃(g:Addr) (fd:FuncData) (ps:List Str),kQ tbl key=some g/\FnOk X.prog X.w X.K X.mg X.base CX0 k g fd ps (spM X.K C n mm)/\Binds X.K fd ps []/\PySem.W.keepIn X.K (.ref g)=true)(hr:Room k X.A)(hs:v8 b:=by intro _ _;rfl)(hd:(wn == ("__debug__" : Str))=false:=by decide)(he:starEach (.Name x npos::es) X.env=(false,eval (.Name x npos) X.env)::starEach es X.env:=by rfl)(hpl:(backTo pos (starEach es X.env)).any (·.1)=false:=by rfl):DMe X C z (.Call (.Subscript (.Name wn p') b bp) (.Name x npos::es) [] pos) (zFG n ways f ms):=by
 intro pins s σ H Q I hq
 obtain⟨O,a,w,c,st,r,d,st',mr,e1,q⟩:=hq
 obtain⟨kd,e2,e3⟩:=bind_some e1
 cases kd<;>first|(cases e3;done)|skip
 rename_i key
 obtain⟨mm,e4,e5⟩:=bind_some e3
 obtain⟨⟨ds,st1⟩,e6,e7⟩:=bind_some e5
 split at e7
 ·rename_i hl
  obtain⟨g,fd,ps,g1,F,hb,hkp⟩:=hw key mm e4
  show wpAny _ _ (do callWith pos (<- eval (.Subscript (.Name wn p') b bp) X.env) [] (backTo pos (starEach (.Name x npos::es) X.env)) (backToKw pos (keywordEach [] X.env))) _ _ s
  refine aa (thn ((zEY hG hg hk hs hd) pins s σ H (fun v H1=>v=.ref g/\Same H H1) I ⟨O,r,.ref g,mr.rr,by unfold mUn;rw[e2,ac];show(kQ tbl key).map D.ref=_;rw[g1];rfl,fun v H1 s1 iv=>⟨by rw[Is.ref_iff] at iv;exact iv,s1⟩⟩) fun u s1 ⟨v,H1,I1,rv,ev,sm⟩=>?_)
  subst ev
  obtain rfl:u=Value.ref g:=rv
  have m1:=mr.same sm
  refine PySem.W.callWith_K (first:=[]) (h₀:=X.base) I.ok.mod.kin hkp (thn ((zX hv ha he) pos pins s1 σ H1 (fun vs H2=>spM X.K C n mm (vs++[]) H2 Q fun _ _ _=>False) I1 ⟨.ref a,wU m1,O,a,w,c,st,r,ds,st1,m1,e6,fun vs H2 m2 il k2=>?_⟩) fun us s2 ⟨vs,H2,I2,rr,q2⟩=>⟨I2.kIn,?_⟩) he hpl
  ·exact oZ m2 hl il e7 fun v H' m' iv k'=>q v H' m' iv (((KeepM.same sm).trans k2).trans k')
  ·exact nC F hr hb .nil cS I2 rr q2
 ·cases e7
end
open PySem PySem.Spec PyProof.Rows L2 PySem.W
noncomputable def r6(K:Fg)(p:Addr)(ns:List Int):Prop:=∃(o:Obj) (its:Array Value) (n:Nat),K.lookup p=some o/\o.cls=.type "tuple" /\ o.data=.seq its n/\its.size<=sizeLine/\Vals (ns.map V.int) its.toList
noncomputable def zAM(K:Fg):List (List Nat×Addr)->List (List Nat×List Int)->Prop
 |[],l=>l=[]
 |q::r,l=>∃ns l',l=(q.1,ns)::l'/\r6 K q.2 ns/\zAM K r l'
noncomputable def vZ(tbl:List (List Nat×List Int))(s:List Nat):Option (List Int):=(tbl.find? fun q=>decide (q.1=s)).map (·.2)
theorem bW{K:Fg}(s:List Nat):∀{tr:List (List Nat×Addr)} {tbl:List (List Nat×List Int)},zAM K tr tbl->match kQ tr s,vZ tbl s with
  |some p,some ns=>r6 K p ns
  |none,none=>True
  |_,_=>False
 |[],tbl,h=>by unfold zAM at h;subst h;trivial
 |q::r,tbl,h=>by
  unfold zAM at h
  obtain⟨ns,l',rfl,h1,h2⟩:=h
  have ih:=bW s h2
  unfold kQ vZ at ih ⊢
  rw[List.find?_cons,List.find?_cons]
  cases hc:decide (q.1=s)
  ·exact ih
  ·exact h1
noncomputable def zE8(mg:Str->Option Value)(K:Fg)(Ps:Params)(x:Str)(tbl:List (List Nat×List Int)):Prop:=∃tr,YW mg K Ps x tr/\zAM K tr tbl
noncomputable def zJU(tbl:List (List Nat×List Int)):D->Option D
 |.str s=>some (.tup (((vZ tbl s).getD []).map .int))
 |_=>none
section
variable{X:Cx}{e b:Expr}{f:ME}{x:Str}{p' apos cpos tpos:Pos}{tbl:List (List Nat×List Int)}{kk:Nat}
theorem XT{K:Fg}{O:Addr->Prop}{H:Hp}:∀l:List Int,IsL K O H (l.map D.int) (l.map V.int)
 |[]=>IsL.nil
 |i::l=>.cons (by rw[Is.int_iff]) (XT l)
theorem WG(h:zE8 X.mg X.K X.w.params x tbl)(hg:Gl X x)(he:DE X e f)(hb:DE X b (mC (.tup [])))(hd:(x == ("__debug__" : Str))=false:=by decide)(hbase:attributeBase (.Name x p') "get" X.env (eval (.Name x p') X.env)=eval (.Name x p') X.env:=by rfl)(hfew:((backTo cpos (starEach [e,b] X.env)).all (fun x=>!x.1) && (backToKw cpos (keywordEach [] X.env)).all (fun x=>x.1.isSome) && decide (([e,b]:List Expr).length+([]:List Keyword).length+(if ([]:List Keyword).isEmpty then 0 else 1)<30))=true:=by rfl)(hline:(apos.endLine == cpos.line)=true:=by rfl)(htr:backTo cpos (starEach [e,b] X.env)=[(false,eval e X.env),(false,eval b X.env)]:=by rfl):DE X (.Call (.Attribute (.Name x p') "get" apos) [e,b] [] cpos) (mUn (zJU tbl) f):=by
 obtain⟨tr,⟨p,es,n,h1,h2,h3,h4,h5⟩,ht⟩:=h
 intro pins s σ H Q I hq
 obtain⟨O0,r,d,hR,e1,q⟩:=hq
 obtain⟨kd,e2,e3⟩:=bind_some e1
 cases kd<;>first|(cases e3;done)|skip
 rename_i key
 cases e3
 refine wpAny_Call_method hbase hfew hline PySem.F.plainAttrs_dict PySem.F.slot_dict_get PySem.F.type_dict_get (thn ((WE (p:=p) h1 hg hd) pins s σ H (fun v H1=>v=.ref p/\Same H H1) I ⟨O0,r,.ref p,hR,rfl,fun v H1 s1 iv=>⟨by rw[Is.ref_iff] at iv;exact iv,s1⟩⟩) fun u s1 ⟨v,H1,I1,rv,ev,sm⟩=>?_)
 subst ev
 obtain rfl:u=Value.ref p:=rv
 have mp:=JM (tbl:=[]) (Ps:=X.w.params) (x:="") I1 h3 h4
 refine⟨mp.typeIs,fun q hq=>by cases hq;exact⟨_,I1.kIn _ _ h3,rfl⟩,?_⟩
 rw[htr]
 have R1:=hR.same sm
 refine Calls.callWith_builtin rfl (Calls.evalArgs_plain (Calls.spliced_cons (thn (he pins s1 σ H1 (fun v H2=>v=.str ⟨key.toArray⟩/\Same H1 H2) I1 ⟨O0,r,.str key,R1,e2,fun v H2 s2 iv=>⟨by rw[Is.str_iff] at iv;exact iv,s2⟩⟩) fun iv s2 ⟨y,H2,I2,ry,ey,sm2⟩=>
  Calls.spliced_cons (thn (hb pins s2 σ H2 (fun v H3=>Same H2 H3/\Is X.K (Ow O0 r σ) H3 (.tup []) v) I2 ⟨O0,r,.tup [],R1.same sm2,rfl,fun v H3 s3 iv=>⟨s3,iv⟩⟩) fun fv s3 ⟨z,H3,I3,rz,sm3,iz⟩=>Calls.spliced_nil ?_))))
 subst ey
 obtain⟨t,rfl⟩:=ry
 have mp3:=JM (tbl:=[]) (Ps:=X.w.params) (x:="") I3 h3 h4
 have fnd:=vH key h5
 rw[<-b8] at fnd
 have sall:=(sm.trans sm2).trans sm3
 refine call_meetsIn PySem.F.slot_dict_get mp3.typeIs PySem.F.entry_dict_get (PySem.F.args_dict_get_3 _ _ _) (meets_dict_get_default (strKind X.prog X.w) p (strKind_is _ _ _ t) h2 fv) ⟨_,mp3,?_⟩
 rw[fnd]
 have lk:=bW key ht
 cases e5:kQ tr key with
 |none=>
  rw[e5] at lk
  cases e6:vZ tbl key with
  |none=>
   refine⟨z,H3,I3.tok _,rz,q z H3 sall ?_⟩
   rw[e6];exact iz
  |some ns=>rw[e6] at lk;exact lk.elim
 |some a=>
  rw[e5] at lk
  cases e6:vZ tbl key with
  |none=>rw[e6] at lk;exact lk.elim
  |some ns=>
   rw[e6] at lk
   refine⟨.ref a,H3,I3.tok _,rfl,q (.ref a) H3 sall ?_⟩
   rw[e6,Is.tup_iff]
   exact⟨a,ns.map V.int,rfl,.inr lk,XT ns⟩
end
open PySem PySem.Spec PyProof.Rows L2 PySem.W
namespace RV
theorem owner:Manifest.owners.lookup (String.ofList ['d','e','s','r','e','v','e','r'].reverse)=some Manifest.sig_reversed:=by kernel_rfl
theorem s_next:Slot "reversed" "__next__" "reversed.__next__" := Slot.of (owner:="reversed") (n:="__next__") (by(rw[typeLookup_type,builtinLookup_eq_fast]);kernel_rfl) (by decide +kernel) (by decide +kernel) (by decide +kernel) (by first|exact .inl (by decide +kernel)|exact .inr (by decide +kernel)) (by(rw[isSubtype_type]);kernel_rfl)
theorem e_next:entryFor table "reversed.__next__" = some Builtin.«reversed.__next__»:=entryFor_of_tree (by kernel_rfl)
theorem a_next(a:Value):argsOk "reversed.__next__" ⟨[a],[]⟩:=by
 unfold argsOk;rw[signature?_of (id:="reversed.__next__") (n:=['_','_','t','x','e','n','_','_']) (o:=['d','e','s','r','e','v','e','r']) (by kernel_rfl) owner];kernel_rfl
theorem s_iter:Slot "reversed" "__iter__" "reversed.__iter__" := Slot.of (owner:="reversed") (n:="__iter__") (by(rw[typeLookup_type,builtinLookup_eq_fast]);kernel_rfl) (by decide +kernel) (by decide +kernel) (by decide +kernel) (by first|exact .inl (by decide +kernel)|exact .inr (by decide +kernel)) (by(rw[isSubtype_type]);kernel_rfl)
theorem a_iter(a:Value):argsOk "reversed.__iter__" ⟨[a],[]⟩:=by
 unfold argsOk;rw[signature?_of (id:="reversed.__iter__") (n:=['_','_','r','e','t','i','_','_']) (o:=['d','e','s','r','e','v','e','r']) (by kernel_rfl) owner];kernel_rfl
theorem e_iter:entryFor table "reversed.__iter__" = some Builtin.«dict_keyiterator.__iter__»:=
 entryFor_alias (id':="dict_keyiterator.__iter__") (by kernel_rfl) (by first|rfl|decide +kernel|(unfold String.splitOn;simp +decide [String.splitOnAux])) (by decide +kernel) (by kernel_rfl)
theorem no_own:typeLookup (.type "tuple") "__reversed__" = pure none:=by(rw[typeLookup_type,builtinLookup_eq_fast]);kernel_rfl
theorem no_dict:isSubtype (.type "tuple") (.type "dict")=pure false:=by(rw[isSubtype_type]);kernel_rfl
theorem zGI:Slot "reversed" "__init__" "object.__init__" := Slot.of (owner:="object") (n:="__init__") (by(rw[typeLookup_type,builtinLookup_eq_fast]);kernel_rfl) (by decide +kernel) (by decide +kernel) (by decide +kernel) (by first|exact .inl (by decide +kernel)|exact .inr (by decide +kernel)) (by(rw[isSubtype_type]);kernel_rfl)
theorem called:TypeCalled "reversed" "reversed.__new__" "object.__init__" := ⟨by decide +kernel,by decide +kernel,⟨_,_,F.mro_reversed⟩,F.made_reversed,by decide +kernel,by(rw[isSubtype_type]);kernel_rfl,zGI⟩
end RV
noncomputable def J7(l:Addr)(i:Int):Obj:={ cls:=.type "reversed",data:=.fields #[.ref l,rawInt i] }
noncomputable def IsRv(h:Heap)(a l:Addr)(i:Int):Prop:=∃o,h.get? a=some o/\o.cls=.type "reversed" /\ o.data=.fields #[.ref l,rawInt i]
section
variable{prog:Program}{w:World}{A:Around}{E:Value->Shared->Prop}{s:Shared}
theorem IsRv.typeIs{a l:Addr}{i:Int}(x:IsRv s.heap a l i):s.TypeIs (.ref a) "reversed" := let ⟨o,ho,hc,_⟩:=x;⟨o,ho,hc⟩
theorem IsRv.at{h h':Heap}{a l:Addr}{i:Int}(x:IsRv h a l i)(e:∀o,h.get? a=some o->h'.get? a=some o):IsRv h' a l i:=let ⟨o,ho,r⟩:=x;⟨o,e _ ho,r⟩
theorem Y5{it l:Addr}{i:Int}{Q:Value->Shared->Prop}(hit:IsRv s.heap it l i)(h:Q (.ref it) s):wpAny (model prog w) A (pyIter (.ref it)) Q E s:=by
 refine wpAny_pyIter_slot hit.typeIs RV.s_iter (wpAny_call_entry RV.s_iter hit.typeIs RV.e_iter ?_ (RV.a_iter _))
 (show wpAny _ _ (ret (.ref it)) _ _ s)
 exact ae ⟨_,rfl, "reversed",_,hit.typeIs,RV.s_next.lookup,h⟩
theorem zGK{l:Addr}{items:Array Value}{Q₁:Value->Shared->Prop}(ht:IsTup s.heap l items)(hz:items.size<=sizeLine)(h:∀tk,Q₁ (.ref s.heap.objs.size) { s with heap:=s.heap.push (J7 l ((items.size:Int)-1)),toks:=tk }):codeAny (model prog w) A (.call (.builtin "reversed.__new__") ⟨[.type "reversed",.ref l],[]⟩) (wants Q₁ E) s:=by
 refine codeAny_of_tree ?_
 show wpAny _ A.in1 (do checkBuiltinCall "reversed.__new__" ⟨[.type "reversed",.ref l],[]⟩;again (.builtin "reversed.__new__" ⟨[.type "reversed",.ref l],[]⟩)) _ _ s
 refine aa (wpAny_of_eq (F.newCall_reversed_1 _) (ae ⟨plainId_quiet F.plain_reversed_new _,codeAny_builtin F.entry_reversed_new ?_⟩))
 rw[Around.under_plainId F.plain_reversed_new _]
 (unfold Builtin.«reversed.__new__»)
 refine aa (wpAny_of_eq (newClass_reversed _) ?_)
 try dsimp only
 refine aa (wpAny_of_eq (a:=()) (by first|rfl|kernel_rfl) ?_)
 refine aa (wpAny_of_eq (a:=()) (by first|rfl|kernel_rfl) ?_)
 try dsimp only
 refine aa (wpAny_specialOf ht.typeIs RV.no_own ?_)
 try dsimp only
 refine aa ?_
 show wpAny _ _ (isInstance (Value.ref l) (.type "dict") >>= _) _ _ _
 refine aa (wpAny_isInstance ht.typeIs RV.no_dict ?_)
 try dsimp only
 simp only[Bool.false_eq_true,if_false]
 refine aa (wpAny_specialOf ht.typeIs PySem.F.slot_tuple_getitem.lookup ?_)
 try dsimp only
 rw[if_pos (by decide +kernel)]
 refine ae ?_
 simp only[Bool.not_true,Bool.false_eq_true,if_false]
 refine aa (len_tuple ht (by have:=sizeLine_eq;omega) ?_)
 refine aa (wpAny_of_eq (a:=some (items.size:Int)) rfl ?_)
 try dsimp only
 unfold Builtin.SmallTypes.newRecord
 refine aa (wpAny_newObj_type ?_ (by size_fits))
 exact ae (h _)
theorem zB0{l:Addr}{items:Array Value}{Q:Value->Shared->Prop}(ht:IsTup s.heap l items)(hz:items.size<=sizeLine)(h:∀tk,Q (.ref s.heap.objs.size) { s with heap:=s.heap.push (J7 l ((items.size:Int)-1)),toks:=tk }):wpAny (model prog w) A (call (.type "reversed") [.ref l]) Q E s:=by
 refine callType_codes (Q₁:=fun obj s₁=>obj=.ref s.heap.objs.size/\∃tk,s₁={ s with heap:=s.heap.push (J7 l ((items.size:Int)-1)),toks:=tk }) RV.called (F.typeCall_reversed_1 _) F.entry_object_init (zGK ht hz fun tk=>⟨rfl,tk,rfl⟩) ?_
 rintro obj s₁ ⟨rfl,tk,rfl⟩
 have ty:Shared.TypeIs { s with heap:=s.heap.push (J7 l ((items.size:Int)-1)),toks:=tk } (.ref s.heap.objs.size) "reversed" := ⟨_,ah _ rfl,rfl⟩
 refine⟨ty,F.args_object_init_2 _ _,?_⟩
 exact object_init_meets RV.called.init.lookup RV.called.made (by decide) prog w A.in1 _ _ ⟨ty,rfl,h tk⟩
theorem zBZ{it l:Addr}{i:Nat}{items:Array Value}{x:Value}{Q:Option Value->Shared->Prop}(hit:IsRv s.heap it l (i:Int))(hl:IsTup s.heap l items)(hz:items.size<=sizeLine)(hx:items[i]?=some x)(hQ:∀h' tk,IsRv h' it l ((i:Int)-1)->Heap.SameBut it s.heap h'->Q (some x) { s with heap:=h',toks:=tk }):wpAny (model prog w) A (pyNext (.ref it)) Q E s:=by
 obtain⟨o,ho,hc,hd⟩:=id hit
 unfold pyNext
 refine aa (wpAny_attempt (wpAny_callSpecial?_slot (name:=Str.ofString "__next__") hit.typeIs RV.s_next
  (wpAny_call_entry RV.s_next hit.typeIs RV.e_next ?_ (RV.a_next _))))
 unfold Builtin.«reversed.__next__»
 refine aa (wpAny_of_eq (a:=(Value.ref it,[])) rfl ?_)
 try dsimp only
 refine aa (wpAny_field ho hd (x:=.ref l) rfl ?_)
 refine aa (wpAny_field ho hd (x:=rawInt (i:Int)) rfl ?_)
 show wpAny _ _ (if (i:Int)<0 then _ else _) _ _ s
 rw[if_neg (by omega)]
 refine aa (wpAny_specialOf hl.typeIs PySem.F.slot_tuple_getitem.lookup ?_)
 simp only[Option.isNone_some,Bool.false_eq_true,if_false]
 refine aa (wpAny_mkInt ?_)
 have hi:i<items.size:=by
  obtain⟨z,_⟩:=Array.getElem?_eq_some_iff.mp hx
  exact z
 refine aa (wpAny_attempt (getItem_tuple (j:=i) (s:={ s with toks:=s.toks+1 }) hl (by omega) (by have:=sizeLine_eq;omega) (by unfold seqIndex?;simp;omega) hx ?_))
 dsimp only
 refine aa (wpAny_field (s:={ s with toks:=s.toks+1 }) ho hd (x:=rawInt (i:Int)) rfl ?_)
 dsimp only[rawInt]
 refine aa (wpAny_setField (s:={ s with toks:=s.toks+1 }) ho hd (by simp) ?_)
 refine ae ⟨x,rfl,ae (hQ _ _ ?_ (Heap.SameBut.update ..))⟩
 exact⟨_,Heap.get?_update_self _ ho (Obj.isFreed_of_fields (Obj.data_mapFields hd _)),(Obj.cls_mapFields ..).trans hc,by
  rw[Obj.data_mapFields hd];simp[rawInt]⟩
theorem zGL{it l:Addr}{Q:Option Value->Shared->Prop}(hh:A.handled=none)(hit:IsRv s.heap it l (-1))(hQ:∀h',Heap.ExtBut it s.heap h'->Q none { s with heap:=h' }):wpAny (model prog w) A (pyNext (.ref it)) Q E s:=by
 obtain⟨o,ho,hc,hd⟩:=id hit
 unfold pyNext
 refine aa (wpAny_attempt (wpAny_callSpecial?_slot (name:=Str.ofString "__next__") hit.typeIs RV.s_next
  (wpAny_call_entry RV.s_next hit.typeIs RV.e_next ?_ (RV.a_next _))))
 unfold Builtin.«reversed.__next__»
 refine aa (wpAny_of_eq (a:=(Value.ref it,[])) rfl ?_)
 try dsimp only
 refine aa (wpAny_field ho hd (x:=.ref l) rfl ?_)
 refine aa (wpAny_field ho hd (x:=rawInt (-1)) rfl ?_)
 show wpAny _ _ (if (-1:Int)<0 then _ else _) _ _ s
 rw[if_pos (by decide)]
 refine aa (wpAny_rule ?_)
 show wpAny _ _ ((setField (.ref it) 1 (rawInt (-1)) >>= fun _=>setField (.ref it) 0 .none) >>= _) _ _ _
 refine aa (aa (wpAny_setField ho hd (by simp) ?_))
 refine wpAny_setField (Heap.get?_update_self _ ho (Obj.isFreed_of_fields (Obj.data_mapFields hd _))) (Obj.data_mapFields hd _) (by simp) ?_
 refine aa ?_
 (show wpAny _ _ (newExc (.type "StopIteration") [] >>= _) _ _ _)
 refine aa ?_
 simp only[newExc,newTuple]
 refine aa (wpAny_newObj_type ?_ (by size_fits))
 refine aa (m:=firstArgMember _ _) (wpAny_of_eq (a:=Value.none) (by first|rfl|(simp only[firstArgMember];rfl)) ?_)
 (refine wpAny_newObj_type ?_ (by size_fits))
 simp only[raiseNew]
 refine aa (wpAny_handled ?_)
 first|rw[show A.in1.handled=none from hh]|rw[hh]
 refine aa (ae (wpAny_throw ?_))
 refine aa (wpAny_isInstance (T:="StopIteration") (b:=true) ⟨_,ah _ rfl,rfl⟩ isSubtype_stop ?_)
 refine ae (hQ _ fun b o hb e=>?_)
 have e1:=(Heap.SameBut.update s.heap it (Obj.mapFields fun x=>x.setIfInBounds 1 (rawInt (-1)))).2 b hb
 have e2:=(Heap.SameBut.update (s.heap.update it (Obj.mapFields fun x=>x.setIfInBounds 1 (rawInt (-1)))) it (Obj.mapFields fun x=>x.setIfInBounds 0 .none)).2 b hb
 exact ad _ (ad _ (e2.trans (e1.trans e)))
end
noncomputable def zLO(K:Fg)(a:Addr)(n:Nat):It:=
 ⟨fun i H=>∃xs x,SqT K H a xs/\xs.length=n/\i<n/\xs[n-1-i]?=some x,fun i H x H'=>H'=H/\∀xs,SqT K H a xs->xs[n-1-i]?=some x,fun i _=>i=n⟩
theorem zBJ{P:Program}{w:World}{K:Fg}{tg:Expr}(a it:Addr)(n:Nat):Turn P w K tg (zLO K a n) [it] it (fun i h=>IsRv h it a ((n:Int)-1-(i:Int))) where
 mem:=by simp
 obj:=fun i h st b hb=>by
  have e:b=it:=by simpa using hb
  subst e
  obtain⟨o,e,c,d⟩:=st
  exact⟨o,e,fun v z=>by rw[d] at z;cases z⟩
 keep:=fun i h h' st k=>st.at fun o e=>k it (by simp) o e
 item:=by
  intro X hP hw hK hc i pins s σ H E I hf st hg
  subst hP hw hK
  obtain⟨xs,x,hq,hn,hi,hx⟩:=hg
  obtain⟨its,rv,p,hz⟩:=I.tuple hq
  obtain⟨u,hu,ru⟩:=rv.get hx
  obtain⟨f0,f1,f2,f3,f4,f5⟩:=hf it (by simp)
  have e1:(n:Int)-1-(i:Int)=((n-1-i:Nat):Int):=by clear st hu hx hq hn rv p;omega
  rw[e1] at st
  refine zBZ st p (by rw[ag,<-rv.length];exact hz) (x:=u) (by simpa using hu) fun h' tk st' sb=>?_
  have e2:((n-1-i:Nat):Int)-1=(n:Int)-1-((i+1:Nat):Int):=by clear st st' hu hx hq hn rv p;omega
  rw[e2] at st'
  have I1:Inv X pins σ H { s with heap:=h',toks:=tk }:=I.turned (t':=tk) (fun b o hb e=>(sb.2 b hb).trans e) f0 f1 f3 f4 f5
  obtain⟨o,e,c,d⟩:=id st'
  exact⟨u,rfl,zAC (s:={ s with heap:=h',toks:=tk }) e c d (by decide) ⟨x,H,I1,ru,⟨rfl,fun ys hy=>by rw[I.tuple_inj hy hq];exact hx⟩,st',fun b hb=>(hf b hb).1⟩⟩
 done:=by
  intro X hP hw hK hc i pins s σ H E I hf st hg
  subst hP hw hK
  obtain rfl:i=n:=hg
  obtain⟨f0,f1,f2,f3,f4,f5⟩:=hf it (by simp)
  have e1:(i:Int)-1-(i:Int)=-1:=by clear st;omega
  rw[e1] at st
  exact zGL (I.ok.hd hc) st fun h' eb=>⟨rfl,I.turned (t':=s.toks) (fun b o hb e=>eb b o hb e) f0 f1 f3 f4 f5⟩
 self:=fun _ _ _ _ _ st h=>Y5 st h
open PySem PySem.Spec PyProof.Rows L2 PySem.W
noncomputable def lIo(K:Fg)(it:ML):TI:=fun σ H Rr=>∃O0 r l,R K O0 H r σ/\it r=some l/\∀J H',Same H H'->zFF K (Ow O0 r σ) (Ow O0 r σ) H' J l->Rr J H'
noncomputable def DIo(X:Cx)(tg iter:Expr)(it:ML):Prop:=PI X tg iter (lIo X.K it)
noncomputable def mTp(f:ME):ML:=fun r=>(f r).bind fun d=>match d with
 |.tup l=>some l
 |_=>none
section
variable{X:Cx}{l a tg:Expr}{f:ME}{p pos:Pos}
theorem zEN(hl:DE X l f):DIo X tg l (mTp f):=by
 refine PI.conseq (zCI hl) fun σ H Rr h=>?_
 obtain⟨O0,r,ds,hR,e,q⟩:=h
 obtain⟨d,e1,e2⟩:=bind_some e
 refine⟨O0,r,d,hR,e1,fun v H1 s1 i1=>?_⟩
 have ol:=(hR.same s1).ol
 cases d<;>first|(cases e2;done)|skip
 cases e2
 rw[Is.tup_iff] at i1
 obtain⟨a,xs,rfl,rd,il⟩:=i1
 exact⟨a,rfl,.inr ⟨⟨xs,rd⟩,q _ H1 s1 (zA0 (fun a z=>z) ol rd il)⟩⟩
theorem zJ1{K:Fg}{O:Addr->Prop}{H:Hp}{a:Addr}{xs:List V}{ds:List D}(ol:qR O H)(rd:SqT K H a xs)(il:IsL K O H ds xs):zFF K O O H (zLO K a xs.length) ds.reverse:=by
 intro i H1 O' kp oo
 have rd1:SqT K H1 a xs:=SqT.keep kp ol rd
 have ll:=il.length
 have bk:∀d,ds.reverse[i]?=some d->i<xs.length/\ds[xs.length-1-i]?=some d:=fun d e=>by
  have hi:i<ds.length:=by
   obtain⟨h,_⟩:=ak.mp e
   rw[List.length_reverse] at h;exact h
  rw[List.getElem?_reverse hi,ll] at e
  exact⟨ll ▸ hi,e⟩
 refine⟨fun hi=>⟨?_,fun x H' y=>?_⟩,fun hi=>by rw[List.length_reverse,ll] at hi;exact hi⟩
 ·obtain⟨d,e⟩:=qD hi
  obtain⟨hi',e'⟩:=bk d e
  obtain⟨v,e1,_⟩:=il.get e'
  exact⟨xs,v,rd1,rfl,hi',e1⟩
 ·obtain⟨rfl,y⟩:=y
  refine⟨Same.refl _,fun d e=>?_⟩
  obtain⟨hi',e'⟩:=bk d e
  obtain⟨v,e1,q⟩:=il.get e'
  have:=y xs rd1
  rw[e1] at this;cases this
  exact Is.mono kp ol oo _ _ q
theorem zKQ{ta:TE}(hg:Gl X "reversed")(hm:X.mg "reversed" = none)(ha:PE X a ta)(hs:starEach [a] X.env=[(false,eval a X.env)]:=by rfl):PI X tg (.Call (.Name "reversed" p) [a] [] pos) (fun σ H R=>ta σ H fun x H1=>∃u xs,x=.ref u/\SqT X.K H1 u xs/\R (zLO X.K u xs.length) H1):=by
 intro pins s σ H R I h
 have hA:PA X [a] (cR ta zAP):=zX ha y0 (by rw[hs];rfl)
 refine Call_ (jN I hg hm PyProof.Rows.boot_reversed (PyProof.Rows.callWith_type1 (thn (hA pos pins s σ H (z1 fun x H1=>∃u xs,x=.ref u/\SqT X.K H1 u xs/\R (zLO X.K u xs.length) H1) I h) fun us s1 ⟨vs,H1,I1,r1,q1⟩=>?_) hs rfl))
 obtain⟨_,rfl,u,xs,rfl,hx,q⟩:=tE q1
 obtain⟨uu,rfl,ru⟩:=Vals.one r1
 cases ru
 obtain⟨its,rv,pl,hz⟩:=I1.tuple hx
 have hl:its.toArray.size=xs.length:=by rw[ag];exact rv.length.symm
 refine zB0 pl (by rw[hl];exact hz) fun tk=>?_
 have z1:IsRv (s1.heap.push (J7 u ((its.toArray.size:Int)-1))) s1.heap.objs.size u ((its.toArray.size:Int)-1):=⟨_,ah _ rfl,rfl,rfl⟩
 refine Y5 z1 ?_
 refine⟨_,[s1.heap.objs.size],_,_,H1,rfl,I1.kept (t':=tk) (fun b o e=>ad _ e),zBJ u _ xs.length,?_,fun b hb=>?_,q⟩
 ·rw[hl] at z1 ⊢
  rw[show((xs.length:Int)-1-((0:Nat):Int))=(xs.length:Int)-1 from Int.sub_zero _]
  exact z1
 ·have e:b=s1.heap.objs.size:=by simpa using hb
  subst e
  exact I1.fpOk (al _) (I1.hok.fresh (al _))
noncomputable def zK3(f:ME):ML:=fun r=>(mTp f r).map List.reverse
theorem zIH(hg:Gl X "reversed")(hm:X.mg "reversed" = none)(ha:DE X a f)(hs:starEach [a] X.env=[(false,eval a X.env)]:=by rfl):DIo X tg (.Call (.Name "reversed" p) [a] [] pos) (zK3 f):=by
 refine PI.conseq (zKQ hg hm ha hs) fun σ H Rr hq=>?_
 obtain⟨O0,r,ds,hR,e,q⟩:=hq
 obtain⟨l,e0,rfl⟩:=map_some e
 obtain⟨x,e1,e2⟩:=bind_some e0
 refine⟨O0,r,x,hR,e1,fun v1 H1 s1 i1=>?_⟩
 have ol:=(hR.same s1).ol
 cases x<;>first|(cases e2;done)|skip
 cases e2
 rw[Is.tup_iff] at i1
 obtain⟨u,xs,rfl,hx,il⟩:=i1
 exact⟨u,xs,rfl,hx,q _ H1 s1 (zJ1 ol hx il)⟩
end
noncomputable def oI(z i:Nat)(g:MEs):List D->MEs
 |[]=>oH
 |d::t=>fun st r=>if i=z then none else (yN i d r).bind fun r1=>(g st r1).bind fun fl=>match fl with
  |.nx st' r'=>oI z i g t st' r'
  |.rt d st' r'=>some (.rt d st' r')
noncomputable def zLQ(z i:Nat)(it:ML)(g:MEs):MEs:=fun st r=>(it r).bind fun l=>oI z i g l st r
noncomputable def uE:Nat->MEt->MEs->MEs
 |0,_,_=>fun _ _=>none
 |n+1,t,g=>fun st r=>(t st r).bind fun p=>if p.1=true then (g p.2 r).bind fun fl=>(match fl with
  |.nx st' r'=>uE n t g st' r'
  |.rt d st' r'=>some (.rt d st' r')) else some (.nx p.2 r)
section
variable{X:Cx}{C:Addr}{z:Nat}{iter c:Expr}{body:List Stmt}{it:ML}{g:MEs}{t:MEt}{pos tpos npos apos:Pos}{x y:Str}
theorem zHK(i:Nat)(hp:PassesOwn (model X.prog X.w) X.A X.env X.xe)(hc:X.calm=true)(hi:DIo X (.Name x tpos) iter it)(hN:X.N.Nodup)(hb:zAN X C z body g)(hxi:X.N[i]?=some x:=by rfl)(hx:Loc X.env.scope x:=by first|exact Or.inl rfl|exact Or.inr rfl)(hf:X.fn x=true\/X.env.scope.names.lookup x=some .local:=by first|exact .inl rfl|exact .inr rfl)(hs:∀x,foldedSetIterable iter X.env x=pure x:=by intro _;rfl):DMs X C z (.For (.Name x tpos) iter body [] pos) (zLQ z i it g):=by
 refine PS.conseq (zB9 hp hc hi (pJ hN hxi hx hf) hb hs) fun Dn σ H hq=>?_
 obtain⟨O,a,w,c,st,r,fl,mr,e,q⟩:=hq
 obtain⟨l,e1,e2⟩:=bind_some e
 refine⟨O,r,l,mr.rr,e1,fun J H0 s0 yl=>?_⟩
 have m0:=mr.same s0
 rw[show Ow O r σ=O from funext fun b=>propext mr.no.ow] at yl
 refine⟨fun i' m σ1 H1=>m=l.length-i'/\i'<=l.length/\∃st1 r1,McR X.K O H1 C z a w c st1 r1 σ1/\KeepM a w c H0 H1/\oI z i g (l.drop i') st1 r1=some fl,⟨l.length,by simp,Nat.zero_le _,st,r,m0,KeepM.refl H0,by simpa using e2⟩,?_⟩
 rintro i' m σ1 H1 ⟨rfl,hil,st1,r1,m1,k1,e3⟩
 have k0:=(KeepM.same (a:=a) (w:=w) (c:=c) s0).trans k1
 obtain⟨y1,y2⟩:=yl i' H1 O (m0.ms.kp k1) fun _ z _=>z
 by_cases hlt:i'<l.length
 ·obtain⟨go,yd⟩:=y1 hlt
  have hd:l[i']?=some l[i']:=by simp[hlt]
  rw[kW hd] at e3
  unfold oI at e3
  split at e3
  ·cases e3
  rename_i h0
  obtain⟨r2,e4,e5⟩:=bind_some e3
  obtain⟨f1,e6,e7⟩:=bind_some e5
  refine .inr ⟨go,fun σ3 H3=>∃st3 r3,McR X.K O H3 C z a w c st3 r3 σ3/\KeepM a w c H0 H3/\oI z i g (l.drop (i'+1)) st3 r3=some fl,fun σ3 H3 z=>⟨l.length-(i'+1),by omega,rfl,hlt,z⟩,fun x H2 yx=>?_⟩
  obtain⟨s2,ix⟩:=yd x H2 yx
  have m2:=m1.same s2
  obtain⟨hl,np,rfl⟩:=qB e4
  obtain⟨R1,_⟩:=m2.rr.setv hl np (m2.is.mpr (ix _ hd))
  have m3:McR X.K O H2 C z a w c st1 (r1.set i (.v l[i'])) (σ1.set i (some x)):=⟨m2.ms,R1,m2.no.set,by rw[List.getElem?_set_ne h0];exact m2.me⟩
  refine⟨O,a,w,c,st1,_,f1,m3,e6,?_⟩
  have k3:=k1.trans (KeepM.same (a:=a) (w:=w) (c:=c) s2)
  have k4:=k0.trans (KeepM.same (a:=a) (w:=w) (c:=c) s2)
  cases f1 with
  |nx st3 r3=>exact fun σ3 H3 M3 kk=>⟨st3,r3,M3,k3.trans kk,e7⟩
  |rt d st3 r3=>cases e7;exact MFl.to_keep k4 q
 ·have hl:l.drop i'=[]:=List.drop_eq_nil_of_le (by omega)
  rw[hl] at e3
  cases e3
  exact .inl ⟨y2 (by omega),q σ1 H1 m1 k0⟩
theorem Q7(n:Nat)(hp:PassesOwn (model X.prog X.w) X.A X.env X.xe)(hc:DMt X C z c t)(hb:zAN X C z body g):DMs X C z (.While c body [] pos) (uE n t g):=by
 refine PS.conseq (pF hp hc hb) fun Dn σ H hq=>?_
 obtain⟨O,a,w,c,st,r,fl,mr,e,q⟩:=hq
 refine⟨fun m σ1 H1=>∃st1 r1,McR X.K O H1 C z a w c st1 r1 σ1/\KeepM a w c H H1/\uE m t g st1 r1=some fl,⟨n,st,r,mr,KeepM.refl H,e⟩,?_⟩
 rintro m σ1 H1 ⟨st1,r1,m1,k1,e1⟩
 cases m with
 |zero=>cases e1
 |succ m=>
  obtain⟨⟨b,st2⟩,e2,e3⟩:=bind_some e1
  refine⟨O,a,w,c,st1,r1,b,st2,m1,e2,fun H2 m2 k2=>?_⟩
  have k3:=k1.trans k2
  cases b with
  |false=>
   cases e3
   exact zJT (q σ1 H2 m2 k3)
  |true=>
   obtain⟨f1,e4,e5⟩:=bind_some e3
   refine zJS ⟨fun σ3 H3=>∃st3 r3,McR X.K O H3 C z a w c st3 r3 σ3/\KeepM a w c H H3/\uE m t g st3 r3=some fl,fun σ3 H3 z=>⟨m,Nat.lt_succ_self m,z⟩,O,a,w,c,st2,r1,f1,m2,e4,?_⟩
   cases f1 with
   |nx st3 r3=>exact fun σ3 H3 M3 kk=>⟨st3,r3,M3,k3.trans kk,e5⟩
   |rt d st3 r3=>cases e5;exact MFl.to_keep k3 q
theorem zC5(hv:PE X (.Name x npos) (j3 z))(cl:Cls X.K C)(na:NoAttr X.K C "waiting")(hb:attributeBase (.Name x npos) "waiting" X.env (eval (.Name x npos) X.env)=eval (.Name x npos) X.env:=by rfl)(he:∀whole,isTrue (.Attribute (.Name x npos) "waiting" apos) X.env whole=(do let v <- whole;standAt (Expr.Attribute (.Name x npos) "waiting" apos).pos;holding [v] (truthy v)):=by intro _;rfl):DMt X C z (.Attribute (.Name x npos) "waiting" apos) (fun st _=>some (!st.wait.isEmpty,st)):=by
 refine PT.conseq (dC (uO hv hb) he) fun σ H Q hq=>?_
 obtain⟨O,a,w,c,st,r,b,st',mr,e,q⟩:=hq
 cases e
 obtain⟨dx,xs,ys,ve,vd,g1,g2,g3,g4,g5,g6,g7⟩:=mr.ms.ex
 refine⟨.ref a,wU mr,a,C,dx,_,.ref w,rfl,g1,cl,na,rfl,!xs.isEmpty,.inl ⟨xs,SqL.of g2,rfl⟩,?_⟩
 have:=g6.length
 rw[show xs.isEmpty=st.wait.isEmpty by cases h1:st.wait<;>cases h2:xs<;>simp[h1,h2] at this ⊢]
 exact q H mr (KeepM.refl H)
noncomputable def nonB:D->Bool
 |.non=>true
 |_=>false
theorem Is.nonB{K:Fg}{O:Addr->Prop}{H:Hp}{d:D}{v:V}(h:Is K O H d v):decide (v=.non)=nonB d:=by
 cases d with
 |non=>rw[Is.non_iff] at h;subst h;rfl
 |bl b=>rw[Is.bl_iff] at h;subst h;rfl
 |int i=>rw[Is.int_iff] at h;subst h;rfl
 |str s=>rw[Is.str_iff] at h;subst h;rfl
 |ref a=>rw[Is.ref_iff] at h;subst h;rfl
 |tup l=>rw[Is.tup_iff] at h;obtain⟨a,xs,rfl,_⟩:=h;rfl
 |lst l=>rw[Is.lst_iff] at h;obtain⟨a,xs,rfl,_⟩:=h;rfl
 |dct ks l=>rw[Is.dct_iff] at h;obtain⟨a,xs,rfl,_⟩:=h;rfl
 |ty n=>unfold Is at h;subst h;rfl
theorem zC7{m:MEf}{e:Expr}{j:Nat}{pos':Pos}(h:DMe X C z e m):DMt X C z (.Compare e [.Is] [.Constant .none j pos'] pos) (fun st r=>(m st r).map fun p=>(nonB p.1,p.2)):=by
 refine PT.conseq (zB8 (zG4 h)) fun σ H Q hq=>?_
 obtain⟨O,a,w,c,st,r,b,st',mr,e,q⟩:=hq
 obtain⟨⟨d,st1⟩,e1,e2⟩:=map_some e
 cases e2
 exact⟨O,a,w,c,st,r,d,st1,mr,e1,fun v H1 m1 iv k1=>⟨_,rfl,by rw[Is.nonB iv];exact q H1 m1 k1⟩⟩
theorem zHI{e e':Expr}{t':MEt}(h:DMt X C z e t)(h':DMt X C z e' t'):DMt X C z (.BoolOp .And [e,e'] pos) (fun st r=>(t st r).bind fun p=>if p.1=true then t' p.2 r else some (false,p.2)):=by
 refine PT.conseq (PW.pt (zB5 h (Y7 h'))) fun σ H Q hq=>?_
 obtain⟨O,a,w,c,st,r,b,st',mr,e,q⟩:=hq
 obtain⟨⟨b1,st1⟩,e1,e2⟩:=bind_some e
 refine⟨O,a,w,c,st,r,b1,st1,mr,e1,fun H1 m1 k1=>?_⟩
 cases b1 with
 |false=>cases e2;exact zJT (q H1 m1 k1)
 |true=>exact zJS ⟨O,a,w,c,st1,r,b,st',m1,e2,fun H2 m2 k2=>q H2 m2 (k1.trans k2)⟩
end
open PySem PySem.Spec PyProof.Rows L2 PySem.W
section
variable{X:Cx}{C:Addr}{iter:Expr}{f:ME}{scope:Scope}{N':List Str}{x y:Str}{j:Nat}{tpos npos npos' apos bpos cpos pos pl p2 p3 pn:Pos}
theorem uG{α:Type}{cs:List α}{i:Nat}(h:i<cs.length):∃v,(cs.take (cs.length-i))[(cs.take (cs.length-i)).length-1]?=some v/\(cs.take (cs.length-i)).dropLast=cs.take (cs.length-(i+1))/\cs.reverse.take i++[v]=cs.reverse.take (i+1):=by
 have hl:(cs.take (cs.length-i)).length=cs.length-i:=by rw[List.length_take];omega
 have h1:cs.length-i-1<cs.length:=by omega
 refine⟨cs[cs.length-i-1],?_,?_,?_⟩
 ·rw[hl,List.getElem?_take,if_pos (by omega),bb h1]
 ·rw[List.dropLast_eq_take,hl,List.take_take];congr 1;omega
 ·rw[List.take_succ,List.getElem?_reverse h,show cs.length-1-i=cs.length-i-1 by omega,bb h1];rfl
noncomputable def zFH(f:ME):MEf:=fun st r=>(f r).bind fun d=>match d with
 |.tup l=>if l.length<=st.come.length/\l.length<sizeLine then some (.lst (st.come.drop (st.come.length-l.length)),{ st with come:=st.come.take (st.come.length-l.length) }) else none
 |_=>none
theorem zDE(hc:X.calm=true)(o:CmpOk X N' [0] scope)(hi:DE X iter f)(hn:N'.length=2)(hg:∀C fp s H,PG (cxC X N' scope C fp s H) (.Name y tpos) (YA 1))(hv:∀C fp s H,PE (cxC X N' scope C fp s H) (.Name x npos) (j3 0))(cl:Cls X.K C)(na:NoAttr X.K C "come")(hb:∀C fp s H,attributeBase (.Name x npos) "come" (cxC X N' scope C fp s H).env (eval (.Name x npos) (cxC X N' scope C fp s H).env)=eval (.Name x npos) (cxC X N' scope C fp s H).env)(hbase:∀C fp s H,attributeBase (.Attribute (.Name x npos) "come" bpos) "pop" (cxC X N' scope C fp s H).env (eval (.Attribute (.Name x npos) "come" bpos) (cxC X N' scope C fp s H).env)=eval (.Attribute (.Name x npos) "come" bpos) (cxC X N' scope C fp s H).env)(hline:(apos.endLine == cpos.line)=true:=by rfl)(hs:∀x,foldedSetIterable iter X.env x=pure x:=by intro _;rfl):DMe X C 0 (.Subscript (.ListComp (.Call (.Attribute (.Attribute (.Name x npos) "come" bpos) "pop" apos) [] [] cpos) [⟨.Name y tpos,iter,[],0⟩] scope pl) (.Slice none none (some (.UnaryOp .USub (.Constant (.int 1) j p3) pos)) p2) pn) (zFH f):=by
 refine PE.conseq (zCN (uN (tc:=none) (g:=YA 1) (te:=zL9 X.K "list" zMD (zL8 X.K (j3 0) "come")) (cap:=[0]) hc o (zEN hi) hg rfl (fun C fp s H=>ZG PySem.F.plainAttrs_list PySem.F.slot_list_pop PySem.F.type_list_pop ZR (uO (hv C fp s H) (hb C fp s H)) (hbase C fp s H) hline) hs)) fun σ H Q hq=>?_
 obtain⟨O,a,w,c,st,r,d,st',mr,e1,q⟩:=hq
 obtain⟨d',e2,e3⟩:=bind_some e1
 cases d'<;>first|(cases e3;done)|skip
 rename_i l
 dsimp only at e3
 split at e3
 case isFalse=>cases e3
 rename_i hln
 obtain⟨hln,hsz⟩:=hln
 cases e3
 refine⟨O,r,l,mr.rr,by unfold mTp;rw[e2];rfl,fun J H1 s1 yl p hp=>?_⟩
 rw[show Ow O r σ=O from funext fun b=>propext mr.no.ow] at yl
 have m1:=mr.same s1
 obtain⟨dx,xs,cs,ve,vd,g1,g2,g3,g4,g5,g6,g7⟩:=m1.ms.ex
 have aw:=McR.aw m1.ms
 have hcs:=g7.length
 have pa:a≠p:=fun z=>by rw[z,hp] at g1;cases g1
 have pw:w≠p:=fun z=>by rw[z,hp] at g2;cases g2
 have pc:c≠p:=fun z=>by rw[z,hp] at g3;cases g3
 rw[hn]
 refine⟨fun i m ys σ2 H2=>m=l.length-i/\i<=l.length/\σ2.length=2/\σ2[0]?=some (some (.ref a))/\ys=cs.reverse.take i/\H2 p=some (.lst ys)/\H2 c=some (.lst (cs.take (cs.length-i)))/\∀b o,H1 b=some o->b≠c->H2 b=some o,
  ⟨l.length,rfl,Nat.zero_le _,rfl,by show some (σ[0]?.getD none)=_;rw[mr.me];rfl,rfl,zK,by rw[zI pc,g3];simp,fun b o e _=>by rw[zI (fun z=>by rw[z,hp] at e;cases e)];exact e⟩,?_⟩
 rintro i m ys σ2 H2 ⟨rfl,hi',hl2,hs2,rfl,ep,ec,eo⟩
 have kM:KeepM a w c H1 H2:=fun b o e h1 h2 h3=>eo b o e h3
 obtain⟨y1,y2⟩:=yl i H2 O (m1.ms.kp kM) fun _ z _=>z
 have hlt':(cs.reverse.take i).length=i:=by rw[List.length_take,List.length_reverse];omega
 refine⟨ep,by rw[hlt'];omega,?_⟩
 by_cases hlt:i<l.length
 ·obtain⟨go,yd⟩:=y1 hlt
  refine .inr ⟨go,fun xv H3 yx=>?_⟩
  obtain⟨s3,_⟩:=yd xv H3 yx
  obtain⟨v,v1,v2,v3⟩:=uG (cs:=cs) (i:=i) (by omega)
  have ea3:H3 a=some (.ins C dx (mfs st.most st.steps w c ve vd)):=s3 _ _ (eo a _ g1 aw.2)
  have ec3:=s3 _ _ ec
  refine⟨.ref a,by rw[List.getElem?_set_ne (by decide)];exact hs2,a,C,dx,_,.ref c,rfl,ea3,cl,na,rfl,.inl ⟨rfl,_,SqL.of ec3⟩,c,_,v,rfl,rfl,ec3,v1,?_⟩
  have ep3:=s3 _ _ ep
  refine⟨by rw[zI pc.symm];exact ep3,l.length-(i+1),by omega,rfl,hlt,by rw[List.length_set];exact hl2,by rw[List.getElem?_set_ne (by decide)];exact hs2,v3,zK,?_,fun b o e h1=>?_⟩
  ·rw[zI pc,zK,v2]
  ·rw[zI (fun z=>by rw[z,hp] at e;cases e),zI h1];exact s3 _ _ (eo b o e h1)
 ·have hil:i=l.length:=by omega
  subst hil
  refine .inl ⟨y2 rfl,.inl ⟨p,_,rfl,SqL.of ep,fun t ht=>?_⟩⟩
  have hne:∀b o,H2 b=some o->b≠t:=fun b o e z=>by rw[z,ht] at e;cases e
  have k2:KeepM a w c H1 (upd H2 t (.lst (cs.reverse.take l.length).reverse)):=fun b o e h1 h2 h3=>by rw[zI (hne b o (kM b o e h1 h2 h3))];exact kM b o e h1 h2 h3
  have n:=Mch.put (K:=X.K) (H2:=upd H2 t (.lst (cs.reverse.take l.length).reverse)) (co:=st.come.take (st.come.length-l.length)) m1.ms m1.ol k2 (by rw[zI (hne a _ (eo a _ g1 aw.2))];exact eo a _ g1 aw.2) (by rw[zI (hne w _ (eo w _ g2 m1.ms.wc))];exact eo w _ g2 m1.ms.wc) (by rw[zI (hne c _ ec)];exact ec) g4 g5 g6 (by rw[hcs];exact g7.take _)
  have m2:=m1.step k2 n
  have ot:¬O t:=fun z=>by
   obtain⟨o,e,_⟩:=m1.ol t z
   by_cases h1:t=c
   ·rw[h1] at ht;rw[ht] at ec;cases ec
   ·have:=eo t o e h1;rw[ht] at this;cases this
  refine q _ _ m2 ?_ ((KeepM.same s1).trans k2)
  rw[Is.lst_iff]
  have e9:(cs.reverse.take l.length).reverse=cs.drop (cs.length-l.length):=by
   rw[List.take_reverse,List.reverse_reverse]
  refine⟨t,cs.drop (cs.length-l.length),rfl,.inl ⟨ot,.inl (by rw[zK,e9])⟩,?_⟩
  rw[<-hcs]
  exact IsL.mono (m1.ms.kp k2) m1.ol (fun _ z _=>z) _ _ (g7.drop _)
end
open PySem PySem.Spec PyProof.Rows L2 PySem.W
namespace DU
theorem e_loop:entryFor table "dict.update.loop" = some Builtin.«dict.update.loop»:=entryFor_of_tree (by kernel_rfl)
theorem p_loop:plainId "dict.update.loop" = true:=by decide +kernel
theorem lk_keys:typeLookup (.type "list") "keys" = pure none:=by rw[typeLookup_type,builtinLookup_eq_fast];kernel_rfl
end DU
section
variable{prog:Program}{w:World}{A:Around}{E:Value->Shared->Prop}{s:Shared}
theorem Z3{a:Addr}{o:Obj}{xs:Array Value}{k:Nat}{Q:Option Value->Shared->Prop}(hx:s.heap.get? a=some o)(hc:o.cls=.type "list")(hdat:o.data=.seq xs k)(hd:o.dict=none)(hA:A.handled=none)(h:∀h' tk,(∀b ob,s.heap.get? b=some ob->h'.get? b=some ob)->Q none { s with heap:=h',toks:=tk }):wpAny (model prog w) A (getAttr? (.ref a) "keys") Q E s:=by
 obtain⟨c,dct,dat,sl⟩:=o
 simp only at hc hdat hd
 subst hc hdat hd
 obtain⟨hp,g,d,tk,os⟩:=s
 have hT:∀tk',(⟨hp,g,d,tk',os⟩:Shared).TypeIs (.ref a) "list" := fun _=>⟨_,hx,rfl⟩
 have f1:=sub_AttributeError
 have f3:=F.slot_list_getattribute.lookup
 have f4:=F.slot_list_getattribute.bind (.ref a)
 have f5:=am_list_getattr_none
 (unfold getAttr? getAttrBy? getAttrBy)
 repeat (any_goals (first|assumption|exact hT _|((with_reducible show wpAny _ _ (call (Value.builtin "list.__getattribute__") _ _) _ _ _);refine call_meets F.slot_list_getattribute (hT _) am_entry_list_getattribute (F.args_list_getattribute_2 _ _) (meets_getattribute_miss_list a xs k sl _ _ DU.lk_keys (by decide +kernel) (by size_fits)) ⟨hx,hA,fun h' tk' e hx'=>?_⟩)|wp_step))
 obtain⟨t',u',he⟩:=hx'.there
 (show wpAny _ _ (getattributeRaised _ _ _ _ _ _ _) _ _ _)
 unfold getattributeRaised
 repeat (any_goals (first|assumption|wp_step))
 exact h _ _ hx'.keeps
noncomputable def zLK(h:Heap)(v:Value)(k:Key)(u:Value):Prop:=∃t key,v=.ref t/\IsTup h t #[key,u]/\cW k key=true
theorem zEE{l it d:Addr}{its:Array Value}(hh:A.handled=none)(hld:l≠d)(hli:l≠it)(hid:it≠d):∀(n i:Nat) (s:Shared) (ps:List (Key×Value)) (kvs:List (Key×Value)) (R:Result->Shared->Prop),i+n=its.size->ps.length=n->kvs.length+n<=sizeLine->s.heap.IsListIter it l i->PlainL s.heap l its ->
  (∀j (p:Key×Value),ps[j]?=some p->∃v,its[i+j]?=some v/\(∃t,v=.ref t/\t≠d/\t≠it)/\zLK s.heap v p.1 p.2)->s.heap.DictOf (yI prog w) d kvs ->
  (∀h' tk,h'.DictOf (yI prog w) d (ps.foldl (fun z p=>stored z p.1 p.2) kvs)->(∀b o,b≠it->b≠d->s.heap.get? b=some o->h'.get? b=some o)->R (.ok (.ret .none)) { s with heap:=h',toks:=tk }) ->
  codeAny (model prog w) A (.builtin "dict.update.loop" ⟨[.ref d,.ref it,rawInt (i:Int),.none],[]⟩) R s:=by
 intro n
 induction n with
 |zero=>
  intro i s ps kvs R hi hl hz hit pl hp hd hR
  obtain rfl:ps=[]:=List.length_eq_zero_iff.mp hl
  refine codeAny_builtin DU.e_loop ?_
  rw[Around.under_plainId DU.p_loop _]
  show wpAny _ A.in1 (pyNext (.ref it) >>= _) _ _ s
  refine aa (wpAny_pyNext_list_end (show A.in1.handled=none from hh) hit pl.isList (Array.getElem?_eq_none (by omega)) fun h' eb=>?_)
  show wpAny _ A.in1 (Builtin.Dict.addKeywords d [] >>= fun _=>ret Value.none) _ _ _
  refine aa (ae (ae (hR h' s.toks (hd.extBut eb hid.symm) fun b o hb _ e=>eb b o hb e)))
 |succ n ih=>
  intro i s ps kvs R hi hl hz hit pl hp hd hR
  obtain⟨p,ps,rfl⟩:∃p q,ps=p::q:=by cases ps with
   |nil=>cases hl
   |cons p q=>exact⟨p,q,rfl⟩
  obtain⟨v,ev,⟨t0,rfl,ntd,nti⟩,t,key,e0,tu,kk⟩:=hp 0 p rfl
  cases e0
  refine codeAny_builtin DU.e_loop ?_
  rw[Around.under_plainId DU.p_loop _]
  show wpAny _ A.in1 (pyNext (.ref it) >>= _) _ _ s
  refine aa (wpAny_pyNext_list_item hit pl.isList ev fun h1 hit1 sb1=>?_)
  have k1:∀b o,b≠it->s.heap.get? b=some o->h1.get? b=some o:=fun b o hb e=>(sb1.2 b hb).trans e
  have tu1:IsTup h1 t0 #[key,p.2]:=by obtain⟨o,e,r⟩:=tu;exact⟨o,k1 _ _ nti e,r⟩
  have hd1:h1.DictOf (yI prog w) d kvs:=hd.sameBut sb1 hid.symm
  obtain⟨ot,hot,hct,nt,hdt⟩:=id tu1
  refine aa (wpAny_holding ?_)
  refine aa (wpAny_tryCatch ?_)
  unfold Builtin.Dict.pairItems
  refine aa (wpAny_typeOf (s:={ s with heap:=h1 }) tu1.typeIs ?_)
  rw[if_pos (by decide)]
  refine aa (wpAny_seqItems (s:={ s with heap:=h1 }) hot hdt (ae ?_))
  dsimp only[Option.getD_some]
  refine wpAny_holding ?_
  refine wpAny_dictSet_pairs (knd:=yI prog w) (s:={ s with heap:=h1 }) (k:=p.1) kk hd1 (fun h2 hd2 sb2=>?_) (by omega)
  have k2:∀b o,b≠it->b≠d->s.heap.get? b=some o->h2.get? b=some o:=fun b o hb hb' e=>(sb2.2 b hb').trans (k1 b o hb e)
  have e1:((i:Int)+1)=((i+1:Nat):Int):=by omega
  rw[e1]
  refine ae ⟨plainId_quiet DU.p_loop _,ih (i+1) _ ps (stored kvs p.1 p.2) R (by omega) (Nat.succ.inj hl) ?_ (hit1.at fun o e=>(sb2.2 it hid).trans e) (by obtain⟨o,n,e,r⟩:=pl;exact⟨o,n,k2 l o hli hld e,r⟩) (fun j q hq=>?_) hd2 fun h' tk hd' kp=>?_⟩
  ·have:(stored kvs p.1 p.2).length<=kvs.length+1:=by unfold stored;split<;>simp
   omega
  ·obtain⟨v,ev',⟨t1,rfl,n1,n2⟩,t2,key2,e2,tu2,kk2⟩:=hp (j+1) q hq
   cases e2
   refine⟨_,by rw[<-ev'];congr 1;omega,⟨t1,rfl,n1,n2⟩,t1,key2,rfl,?_,kk2⟩
   obtain⟨o,e,r⟩:=tu2
   exact⟨o,k2 t1 o n2 n1 e,r⟩
  ·exact hR h' tk hd' fun b o hb hb' e=>kp b o hb hb' (k2 b o hb hb' e)
end
open PySem PySem.Spec PyProof.Rows L2 PySem.W
section
variable{prog:Program}{w:World}{A:Around}{E:Value->Shared->Prop}{s:Shared}
theorem zEF{l:Addr}{its:Array Value}{ps:List (Key×Value)}{Q:Value->Shared->Prop}(hh:A.handled=none)(pl:PlainL s.heap l its)(hl:ps.length=its.size)(hz:its.size<=sizeLine)(hp:∀(j:Nat) (p:Key×Value),ps[j]?=some p->∃v,its[j]?=some v/\zLK s.heap v p.1 p.2)(h:∀h' tk,h'.DictOf (yI prog w) s.heap.objs.size (ps.foldl (fun z p=>stored z p.1 p.2) [])->(∀b o,s.heap.get? b=some o->h'.get? b=some o)->Q (.ref s.heap.objs.size) { s with heap:=h',toks:=tk }):wpAny (model prog w) A (call (.type "dict") [.ref l]) Q E s:=by
 refine callType_codes (Q₁:=fun obj s₁=>obj=.ref s.heap.objs.size/\s₁={ s with heap:=s.heap.push { cls:=.type "dict",data:=.dict #[] } }) F.kt_called_dict (F.kt_typeCall_dict_1 _) F.entry_dict_init (kt_code_dict_new _ ⟨rfl,rfl⟩) ?_
 rintro obj s₁ ⟨rfl,rfl⟩
 have hnew:(s.heap.push { cls:=.type "dict",data:=.dict #[] }).DictOf (yI prog w) s.heap.objs.size []:=Heap.DictOf.new s.heap
 obtain⟨ol,nl,hol,hcl,hdl,hsl⟩:=id pl
 have hlt:l<s.heap.objs.size:=af hol
 have k1:∀b o,s.heap.get? b=some o->(s.heap.push { cls:=.type "dict",data:=.dict #[] }).get? b=some o:=fun b o e=>ad _ e
 refine⟨hnew.typeIs,F.args_dict_init_2 _ _,?_⟩
 (unfold Builtin.«dict.__init__»)
 refine aa ?_
 (unfold Builtin.Dict.selfAndRest)
 refine aa (wpAny_notOrdered_dict hnew.typeIs ?_)
 show wpAny _ _ (pure (s.heap.objs.size,[Value.ref l])) _ _ _
 refine ae ?_
 show wpAny _ _ (Builtin.Dict.updateFrom "dict.__init__" s.heap.objs.size (.ref l) [] .none) _ _ _
 (unfold Builtin.Dict.updateFrom)
 refine aa (wpAny_typeOf (T:="list") ⟨_,k1 _ _ hol,hcl⟩ ?_)
 rw[if_pos (by decide)]
 refine aa (Z3 (k1 _ _ hol) hcl hsl hdl (show A.in1.handled=none from hh) fun h2 tk2 k2=>?_)
 rw[if_pos (by rfl)]
 refine aa (wpAny_rule ?_)
 have pl2:PlainL h2 l its:=⟨ol,nl,k2 _ _ (k1 _ _ hol),hcl,hdl,hsl⟩
 refine aa (wpAny_pyIter_list (s:={ s with heap:=h2,toks:=tk2 }) pl2.isList ?_)
 have hd2:h2.DictOf (yI prog w) s.heap.objs.size []:=by
  obtain⟨o,es,ep,ho,r⟩:=hnew
  exact⟨o,es,ep,k2 _ _ ho,r⟩
 have hds:s.heap.objs.size<h2.objs.size:=by
  obtain⟨o,es,ep,ho,r⟩:=hd2
  exact af ho
 have k3:∀b o,h2.get? b=some o->(h2.push { cls:=.type "list_iterator",data:=.fields #[.ref l,.int 0 0] }).get? b=some o:=fun b o e=>ad _ e
 have ka:∀b o,s.heap.get? b=some o->(h2.push { cls:=.type "list_iterator",data:=.fields #[.ref l,.int 0 0] }).get? b=some o:=fun b o e=>k3 _ _ (k2 _ _ (k1 _ _ e))
 refine ae ⟨plainId_quiet DU.p_loop _,zEE (A:=A.in1) (l:=l) (it:=h2.objs.size) (d:=s.heap.objs.size) (its:=its) hh (ar hlt) (ar (Nat.lt_trans hlt hds)) (Nat.ne_of_gt hds) its.size 0 _ ps [] _ (by omega) hl (by simpa using hz) ⟨_,ah _ rfl,rfl,rfl⟩ ⟨ol,nl,k3 _ _ (k2 _ _ (k1 _ _ hol)),hcl,hdl,hsl⟩ (fun j p e=>?_) ?_ fun h' tk hd' kp=>?_⟩
 ·obtain⟨v,ev,t,key,rfl,⟨o,e1,r⟩,kk⟩:=hp j p e
  have:=af e1
  exact⟨_,by rw[Nat.zero_add];exact ev,⟨t,rfl,ar this,ar (Nat.lt_trans this hds)⟩,t,key,rfl,⟨o,ka _ _ e1,r⟩,kk⟩
 ·obtain⟨o,es,ep,ho,r⟩:=hd2
  exact⟨o,es,ep,k3 _ _ ho,r⟩
 ·refine⟨rfl,h h' tk hd' fun b o e=>kp b o ?_ ?_ (ka _ _ e)⟩
  ·exact ar (Nat.lt_trans (af e) hds)
  ·exact ar (af e)
end
noncomputable def zI5:D->Option (Key×D)
 |.tup [k,d]=>(zJR k).map fun k=>(k,d)
 |_=>none
noncomputable def gK:List D->Option (List (Key×D))
 |[]=>some []
 |d::l=>(zI5 d).bind fun p=>(gK l).map (p::·)
noncomputable def zAF(ps:List (Key×D)):List Key×List D:=ps.foldl (fun z p=>j6 z.1 z.2 p.1 p.2) ([],[])
noncomputable def JC(fl:ML):MD:=fun r=>(fl r).bind fun l=>(gK l).map zAF
section
variable{X:Cx}{a:Expr}{fl:ML}{p' pos:Pos}
theorem kX(hc:X.calm=true):CallR X (.type "dict") (fun xs H Q=>∃(l:Addr) (ys:List V) (ps:List (Key×V)),xs=[.ref l]/\SqL X.K H l ys/\ps.length=ys.length/\(∀(j:Nat) (p:Key×V),ps[j]?=some p->∃t,ys[j]?=some (.ref t)/\SqT X.K H t [kV p.1,p.2])/\∀p,H p=none->Q (.ref p) (upd H p (.dK (ps.foldl (fun z p=>cI z p.1 p.2) [])))):=by
 intro pins s σ H xs us Q I r h
 obtain⟨l,ys,ps,rfl,hl,hn,hp,q⟩:=h
 obtain⟨u,rfl,rx⟩:=Y1 r
 cases rx
 obtain⟨its,rv,pl,hz⟩:=I.list hl
 have hlen:=rv.length
 have ex:∀(j:Nat) (p:Key×V),ps[j]?=some p->∃(v:Value) (u:Value),its[j]?=some v/\RelV p.2 u/\zLK s.heap v p.1 u:=fun j p e=>by
  obtain⟨t,e1,st⟩:=hp j p e
  obtain⟨v,ev,rv'⟩:=rv.get e1
  cases rv'
  obtain⟨its2,rv2,tu,_⟩:=I.tuple st
  obtain⟨key,u,rfl,rk,ru⟩:=Vals.two rv2
  exact⟨_,u,ev,ru,t,key,rfl,tu,zAB (P:=X.prog) (w:=X.w) rk⟩
 let us:List (Key×Value):=(List.range ps.length).pmap (fun j hj=>((ps[j]'hj).1,Classical.choose (Classical.choose_spec (ex j ps[j] (bb hj))))) fun j hj=>List.mem_range.mp hj
 have ul:us.length=ps.length:=by simp[us]
 have uj:∀(j:Nat) (hj:j<ps.length),us[j]?=some ((ps[j]).1,Classical.choose (Classical.choose_spec (ex j ps[j] (bb hj)))):=fun j hj=>by
  rw[bb (by rw[ul];exact hj)]
  simp[us]
 have hpr:∀(j:Nat) (p:Key×Value),us[j]?=some p->∃v,its.toArray[j]?=some v/\zLK s.heap v p.1 p.2:=fun j p e=>by
  have hj:j<ps.length:=by
   obtain⟨z,_⟩:=ak.mp e
   rw[ul] at z;exact z
  rw[uj j hj] at e
  cases e
  obtain⟨e1,e2,e3⟩:=Classical.choose_spec (Classical.choose_spec (ex j ps[j] (bb hj)))
  exact⟨_,by simpa using e1,e3⟩
 have kv:∀(z:List (Key×V)) (z':List (Key×Value)),KV z z'->KV (ps.foldl (fun z p=>cI z p.1 p.2) z) (us.foldl (fun z p=>stored z p.1 p.2) z'):=by
  have gen:∀(as:List (Key×V)) (bs:List (Key×Value)),as.length=bs.length->(∀(j:Nat) (x:Key×V) (y:Key×Value),as[j]?=some x->bs[j]?=some y->x.1=y.1/\RelV x.2 y.2)->∀(z:List (Key×V)) (z':List (Key×Value)),KV z z'->KV (as.foldl (fun z p=>cI z p.1 p.2) z) (bs.foldl (fun z p=>stored z p.1 p.2) z'):=by
   intro as
   induction as with
   |nil=>intro bs hl _ z z' hz;cases bs with
    |nil=>exact hz
    |cons _ _=>cases hl
   |cons x as ih=>intro bs hl hr z z' hz;cases bs with
    |nil=>cases hl
    |cons y bs=>
     obtain⟨e1,e2⟩:=hr 0 x y rfl rfl
     rw[List.foldl_cons,List.foldl_cons]
     refine ih bs (Nat.succ.inj hl) (fun j x y e e'=>hr (j+1) x y e e') _ _ ?_
     rw[e1];exact hz.put y.1 e2
  refine gen ps us ul.symm fun j x y e e'=>?_
  have hj:j<ps.length:=by
   obtain⟨z,_⟩:=ak.mp e
   exact z
  rw[uj j hj] at e'
  rw[bb hj] at e
  cases e;cases e'
  obtain⟨_,e2,_⟩:=Classical.choose_spec (Classical.choose_spec (ex j ps[j] (bb hj)))
  exact⟨rfl,e2⟩
 have lz:(ps.foldl (fun z p=>cI z p.1 p.2) []).length<=sizeLine:=by
  have gen:∀(as:List (Key×V)) (z:List (Key×V)),(as.foldl (fun z p=>cI z p.1 p.2) z).length<=z.length+as.length:=by
   intro as
   induction as with
   |nil=>intro z;simp
   |cons x as ih=>
    intro z
    rw[List.foldl_cons]
    have h1:=ih (cI z x.1 x.2)
    have h2:(cI z x.1 x.2).length<=z.length+1:=by unfold cI;split<;>simp
    simp only[av];omega
  have:=gen ps []
  simp only[List.length_nil] at this;omega
 refine zEF (I.ok.hd hc) pl (by rw[ul,ag];omega) (by rw[ag];omega) hpr fun h' tk dd kp=>?_
 exact⟨.ref s.heap.objs.size,_,I.laid (a:=s.heap.objs.size) (o:=.dK (ps.foldl (fun z p=>cI z p.1 p.2) [])) (t':=tk) kp (al _) (JR lz (beq_eq_false_iff_ne.mpr (Ne.symm (ar I.big))) (kv [] [] .nil) dd),rfl,q _ (I.hok.fresh (al _))⟩
theorem gJ{K:Fg}{O:Addr->Prop}{H:Hp}:∀{l:List D} {qs:List (Key×D)} {ys:List V},gK l=some qs->IsL K O H l ys->∃ps:List (Key×V),ps.length=ys.length/\(∀(j:Nat) (p:Key×V),ps[j]?=some p->∃t,ys[j]?=some (.ref t)/\SqT K H t [kV p.1,p.2]) /\
  ∀(kvs:List (Key×V)) (ks:List Key) (ds:List D),kvs.map (·.1)=ks->IsL K O H ds (kvs.map (·.2))->(ps.foldl (fun z p=>cI z p.1 p.2) kvs).map (·.1)=(qs.foldl (fun z p=>j6 z.1 z.2 p.1 p.2) (ks,ds)).1/\IsL K O H (qs.foldl (fun z p=>j6 z.1 z.2 p.1 p.2) (ks,ds)).2 ((ps.foldl (fun z p=>cI z p.1 p.2) kvs).map (·.2))
 |[],qs,ys,e,h=>by
  cases e
  unfold IsL at h
  subst h
  exact⟨[],rfl,fun j p e=>by simp at e,fun kvs ks ds e1 e2=>⟨e1,e2⟩⟩
 |d::l,qs,ys,e,h=>by
  obtain⟨⟨k,d'⟩,e1,e2⟩:=bind_some e
  obtain⟨qs',e3,rfl⟩:=map_some e2
  unfold IsL at h
  obtain⟨y,ys',rfl,iy,il⟩:=h
  obtain⟨ps,hl,hp,hf⟩:=gJ e3 il
  unfold zI5 at e1
  split at e1
  ·rename_i kd dd
   obtain⟨k',e4,e5⟩:=map_some e1
   cases e5
   rw[Is.tup_iff] at iy
   obtain⟨t,xs,rfl,st,i2⟩:=iy
   unfold IsL at i2
   obtain⟨v1,xs1,rfl,j1,i3⟩:=i2
   unfold IsL at i3
   obtain⟨v2,xs2,rfl,j2,i4⟩:=i3
   unfold IsL at i4
   subst i4
   have ek:v1=kV k:=by
    cases kd<;>first|(cases e4;done)|skip
    ·cases e4;rw[Is.int_iff] at j1;exact j1
    ·cases e4;rw[Is.str_iff] at j1;exact j1
   subst ek
   refine⟨(k,v2)::ps,by simp[hl],fun j p e=>?_,fun kvs ks ds g1 g2=>?_⟩
   ·cases j with
    |zero=>cases e;exact⟨t,rfl,st⟩
    |succ j=>exact hp j p e
   ·rw[List.foldl_cons,List.foldl_cons]
    obtain⟨q1,q2⟩:=Y8 (k:=k) g1 g2 j2
    exact hf _ _ _ q1 q2
  ·cases e1
theorem JN(hc:X.calm=true)(hg:Gl X "dict")(hm:X.mg "dict" = none)(ha:DB X a fl)(hs:starEach [a] X.env=(false,eval a X.env)::starEach [] X.env:=by rfl):DFd X (.Call (.Name "dict" p') [a] [] pos) (JC fl):=by
 refine PE.conseq (kJ (kX hc) hg hm PyProof.Rows.boot_dict (zX ha y0 hs) (he:=hs)) fun σ H Q hq=>?_
 obtain⟨O0,r,ks,l,hR,e,q⟩:=hq
 obtain⟨ds,e1,e2⟩:=bind_some e
 obtain⟨qs,e3,e4⟩:=map_some e2
 refine⟨O0,r,ds,hR,e1,fun c xs H1 s1 sq il=>?_⟩
 obtain⟨ps,hl,hp,hf⟩:=gJ e3 il
 refine⟨c,xs,ps,rfl,sq,hl,hp,fun t ht=>?_⟩
 obtain⟨q1,q2⟩:=hf [] [] [] rfl .nil
 unfold zAF at e4
 rw[e4] at q1 q2
 refine q t _ _ (s1.trans (zT ht)) (s1.free ht) zK q1 ?_
 exact IsL.mono (Same.kp (zT ht) _) (hR.same s1).ol (fun b z nn=>z.elim id fun z=>by subst z;exact absurd ht nn) _ _ q2
end
open PySem PySem.Spec PyProof.Rows L2 PySem.W
structure CMeth(K:Fg)(B:Addr)(m:Str)(f:Addr):Prop where
 ga:specialIn K (.ref B) "__getattribute__" = some (some (.builtin "type.__getattribute__"))
 rd:readsIn K B (.type "type")=true
 fc:findCls K (.ref B) (.type "type") m=some (.val (.ref f))
 hh:handedIn (.ref f)=true
 kp:keepIn K (.ref f)=true
section
variable{X:Cx}{CX:CXT}{k:Nat}{f B:Addr}{fd:FuncData}{ps:List Str}{sp:Sp}{dvs:List V}{ds:List Value}{E:XK}{x m:Str}{p pos apos:Pos}{e:Expr}{es:List Expr}{t:TA}
theorem QS{pl:Sem Bool}(M:CMeth X.K B m f)(F:FnOk X.prog X.w X.K X.mg X.base CX k f fd ps sp)(hr:Room k X.A)(hg:Gl X x)(hm:X.mg x=some (.ref B))(hb:Binds X.K fd ps ds)(hd:Vals dvs ds)(hx:bE CX X E)(ha:PA X (e::es) t)(hdb:(x == ("__debug__" : Str))=false:=by decide)(hst:starEach (e::es) X.env=(false,eval e X.env)::starEach es X.env:=by rfl)(hpl:(backTo pos (starEach es X.env)).any (·.1)=false:=by rfl)(ht:eval (.Call (.Attribute (.Name x p) m apos) (e::es) [] pos) X.env=(do
   let ov <- eval (.Name x p) X.env
   standAt apos.atName
   let (f,first) <- holding [ov] (getMethod ov m pl)
   callWith pos f first (backTo pos (starEach (e::es) X.env)) (backToKw pos (keywordEach [] X.env))):=by rfl):PE X (.Call (.Attribute (.Name x p) m apos) (e::es) [] pos) (zFI sp dvs E t):=by
 intro pins s σ H Q I h
 refine PySem.W.methodCall_KW (pl:=pl) ?_ ht
 refine gY I hg hm ?_ hdb
 refine method_cls I.kIn M.ga (cls_value I.kIn M.rd M.fc M.hh ?_)
 refine PySem.W.callWith_K (first:=[]) (h₀:=X.base) I.ok.mod.kin M.kp (thn (ha pos pins { s with toks:=s.toks+1 } σ H _ (I.tok _) h) fun us s2 ⟨vs,H2,I2,r,q2⟩=>⟨I2.kIn,?_⟩) hst hpl
 exact nC F hr hb hd hx I2 r q2
end
open PySem PySem.Spec PyProof.Rows L2 PySem.W
section
variable{K:Fg}{O O':Addr->Prop}{H:Hp}{r:En}{σ:St}{i:Nat}
theorem R.plain(no:NoOwn r)(len:r.length=σ.length)(ol:qR O H)(val:∀(i:Nat) (d:D),r[i]?=some (.v d)->∃v,σ[i]?=some (some v)/\Is K O H d v):R K O H r σ:=by
 have ow:Ow O r σ=O:=funext fun b=>propext no.ow
 refine⟨len,fun i d e=>by rw[ow];exact val i d e,fun i l e=>?_,fun i j b l m e1 e2 _ _=>?_,ol,fun i l b e _=>?_,fun i l b e _=>?_,fun i ks l e=>?_⟩
 ·have:=no i;rw[qW e] at this;cases this
 ·have:=no i;rw[e1] at this;cases this
 ·exfalso
  have:=no i
  rcases e with e|e|⟨ks,e⟩<;>rw[e] at this<;>cases this
 ·have:=no i;rw[e] at this;cases this
 ·have:=no i;rw[e] at this;cases this
theorem R.valO(h:R K O H r σ)(no:NoOwn r){d:D}(e:r[i]?=some (.v d)):∃v,σ[i]?=some (some v)/\Is K O H d v:=by
 obtain⟨v,e1,q⟩:=h.val i d e
 rw[show Ow O r σ=O from funext fun b=>propext no.ow] at q
 exact⟨v,e1,q⟩
theorem Kp.plain{H':Hp}{r':En}{σ':St}(s:Same H H')(no:NoOwn r)(no':NoOwn r'):Kp H r σ H' r' σ':=by
 have k:=Kp.of_same r σ s
 refine⟨k.keep,k.live,k.lst,fun b z=>absurd z (no'.at fun _ _ e=>e),fun b z=>absurd z (no'.at fun x l e=>by cases x<;>first|exact e|cases e),fun i l e=>?_,fun i l e=>?_⟩
 ·have:=no i;rw[e] at this;cases this
 ·have:=no i;rw[e] at this;cases this
noncomputable def Q5(r:En):Bool:=r.all fun s=>s.own.isNone
theorem uV(h:Q5 r=true):NoOwn r:=fun i=>by
 cases e:r[i]? with
 |none=>rfl
 |some x=>
  have:=List.all_eq_true.mp h x (List.mem_of_getElem? e)
  show x.own=none
  exact Option.isNone_iff_eq_none.mp this
end
noncomputable def Ox(O:Addr->Prop)(x w c:Addr):Addr->Prop:=fun b=>O b\/b=x\/b=w\/b=c
noncomputable def zLU(K:Fg)(C:Addr):Sp:=fun vs H Q _=>∃x dx m,vs=[.ref x,.int m]/\H x=some (.ins C dx []) /\
 ∀w c H',w≠c->H w=none->H c=none->H' x=some (.ins C dx [("most",.int m),("steps",.int 0),("waiting",.ref w),("come",.ref c),("ended",.non)])->H' w=some (.lst [])->H' c=some (.lst [])->(∀b o,H b=some o->b≠x->H' b=some o)->Q .non H'
noncomputable def zLV(K:Fg)(C:Addr)(dd:D->Option D):Sp:=fun vs H Q _=>∃O x dx pd pv m d,vs=[.ref x,pv,.int m]/\H x=some (.ins C dx [])/\qR O H/\¬O x/\Is K (Ox O x x x) H pd pv/\dd pd=some d /\
 ∀w c vd H',w≠c->H w=none->H c=none->H' x=some (.ins C dx (mfs m 0 w c .non vd))->H' w=some (.lst [])->H' c=some (.lst [])->(∀b o,H b=some o->b≠x->H' b=some o)->qR (Ox O x w c) H'->Is K (Ox O x w c) H' d vd->Q .non H'
section
variable{X:Cx}{K:Fg}{C:Addr}
theorem QD{N:List Str}{vs:List V}{H:Hp}{Q:VK}{E:XK}(hN:N.length=2)(cl:Cls K C)(n1:NoAttr K C "most")(n2:NoAttr K C "steps")(n3:NoAttr K C "waiting")(n4:NoAttr K C "come")(n5:NoAttr K C "ended")(h:zLU K C vs H Q E):zIT (zGJ K (j3 0) (j3 1) "most") (zIT (zGJ K (j3 0) (fun _ H Q=>Q (.int 0) H) "steps") (zIT (zGJ K (j3 0) (zLS zAP) "waiting") (zIT (zGJ K (j3 0) (zLS zAP) "come") (zGJ K (j3 0) (fun _ H Q=>Q .non H) "ended")))) { nx:=fun _ H'=>Q .non H',rt:=Q } (L2.start N vs) H:=by
 obtain⟨x,dx,m,rfl,hx,q⟩:=h
 have s0:(L2.start N [.ref x,.int m])[0]?=some (some (.ref x)):=rfl
 have s1:(L2.start N [.ref x,.int m])[1]?=some (some (.int m)):=rfl
 refine⟨.int m,s1,.ref x,s0,x,C,dx,[],rfl,hx,cl,n1,by decide,?_⟩
 refine⟨.ref x,s0,x,C,dx,_,rfl,zK,cl,n2,by show 1<1000;decide,?_⟩
 refine⟨Nat.zero_le _,fun w hw=>⟨.ref x,s0,x,C,dx,[("most",.int m),("steps",.int 0)],rfl,?_,cl,n3,by show 2<1000;decide,?_⟩⟩
 ·rw[zI (fun z=>by rw[<-z,zK] at hw;cases hw),zK];rfl
 have xw:x≠w:=fun z=>by rw[<-z,zK] at hw;cases hw
 refine⟨Nat.zero_le _,fun c hc=>⟨.ref x,s0,x,C,dx,[("most",.int m),("steps",.int 0),("waiting",.ref w)],rfl,?_,cl,n4,by show 3<1000;decide,?_⟩⟩
 ·rw[zI (fun z=>by rw[<-z,zK] at hc;cases hc),zK];rfl
 have xc:x≠c:=fun z=>by rw[<-z,zK] at hc;cases hc
 refine⟨.ref x,s0,x,C,dx,[("most",.int m),("steps",.int 0),("waiting",.ref w),("come",.ref c)],rfl,zK,cl,n5,by show 4<1000;decide,?_⟩
 rw[zI xw.symm,zI xw.symm] at hw
 rw[zI xc.symm] at hc
 have wc:w≠c:=fun z=>by rw[z,zK] at hc;cases hc
 rw[zI wc.symm,zI xc.symm,zI xc.symm] at hc
 refine q w c _ wc hw hc zK ?_ ?_ fun b o e hb=>?_
 ·rw[zI xw.symm,zI xw.symm,zI wc,zI xw.symm,zK]
 ·rw[zI xc.symm,zI xc.symm,zK]
 ·have h1:b≠w:=fun z=>by rw[z,hw] at e;cases e
  have h2:b≠c:=fun z=>by rw[z,hc] at e;cases e
  rw[zI hb,zI hb,zI h2,zI hb,zI h1,zI hb,zI hb];exact e
end
open PySem PySem.Spec PyProof.Rows L2 PySem.W
section
variable{K:Fg}{C:Addr}
theorem zFN{O:Addr->Prop}{H H1:Hp}{x w c:Addr}{o1 o2 o3:HO}(ol:qR O H)(nx:¬O x)(e1:H1 x=some o1)(e2:H1 w=some o2)(e3:H1 c=some o3)(m1:Mb o1)(m2:Mb o2)(m3:Mb o3)(k:∀b o,H b=some o->b≠x->H1 b=some o):qR (Ox O x w c) H1:=fun b z=>by
 rcases z with z|z|z|z
 ·obtain⟨o,e,mb⟩:=ol b z
  exact⟨o,k b o e (fun q=>nx (q ▸ z)),mb⟩
 ·subst z;exact⟨o1,e1,m1⟩
 ·subst z;exact⟨o2,e2,m2⟩
 ·subst z;exact⟨o3,e3,m3⟩
theorem QK{N:List Str}{vs:List V}{H:Hp}{Q:VK}{E:XK}{dd:D->Option D}{fd':ME}(hN:N.length=3)(cl:Cls K C)(n6:NoAttr K C "defs")(hdd:∀pd d,dd pd=some d->∀m,fd' [.un,.v pd,.v (.int m)]=some d)(h:zLV K C dd vs H Q E):zIT (zIV (zFI (zLU K C) [] E0 (cR (j3 0) (cR (j3 2) zAP)))) (zGJ K (j3 0) (lE K fd') "defs") { nx:=fun _ H'=>Q .non H',rt:=Q } (L2.start N vs) H:=by
 obtain⟨O,x,dx,pd,pv,m,d,rfl,hx,ol,nx,ip,ed,q⟩:=h
 have s0:(L2.start N [.ref x,pv,.int m])[0]?=some (some (.ref x)):=rfl
 have s2:(L2.start N [.ref x,pv,.int m])[2]?=some (some (.int m)):=rfl
 refine⟨.ref x,s0,.int m,s2,x,dx,m,rfl,hx,fun w c H1 wc hw hc e1 e2 e3 k=>?_⟩
 have ol0:qR (Ox O x x x) H:=zFN ol nx hx hx hx trivial trivial trivial fun b o e _=>e
 have ol1:qR (Ox O x w c) H1:=zFN ol nx e1 e2 e3 trivial trivial trivial k
 have ip1:Is K (Ox O x w c) H1 pd pv:=Is.mono (fun b o e n=>k b o e fun z=>n (.inr (.inl z))) ol0 (fun b z nn=>by
  rcases z with z|z|z|z
  ·exact .inl z
  ·exact .inr (.inl z)
  ·exact absurd (z ▸ hw) nn
  ·exact absurd (z ▸ hc) nn) _ _ ip
 have hs:L2.start N [.ref x,pv,.int m]=[some (.ref x),some pv,some (.int m)]:=by
  unfold L2.start;rw[hN];rfl
 have no:NoOwn [.un,.v pd,.v (.int m)]:=uV rfl
 have rr:R K (Ox O x w c) H1 [.un,.v pd,.v (.int m)] (L2.start N [.ref x,pv,.int m]):=by
  rw[hs]
  refine R.plain no rfl ol1 fun i d' e=>?_
  match i,e with
  |0,e=>cases e
  |1,e=>cases e;exact⟨pv,rfl,ip1⟩
  |2,e=>cases e;exact⟨.int m,rfl,by rw[Is.int_iff]⟩
  |i+3,e=>simp at e
 refine⟨_,_,d,rr,hdd pd d ed m,fun v H2 s iv=>?_⟩
 rw[show Ow (Ox O x w c) [.un,.v pd,.v (.int m)] (L2.start N [.ref x,pv,.int m])=Ox O x w c from funext fun b=>propext no.ow] at iv
 refine⟨.ref x,s0,x,C,dx,_,rfl,s _ _ e1,cl,n6,by show 5<1000;decide,?_⟩
 have xw:w≠x:=fun z=>by rw[z,hx] at hw;cases hw
 have xc:c≠x:=fun z=>by rw[z,hx] at hc;cases hc
 have kx:∀b o,H2 b=some o->b≠x->upd H2 x (.ins C dx (mfs m 0 w c .non v)) b=some o:=fun b o e hb=>by rw[zI hb];exact e
 refine q w c v _ wc hw hc zK (kx _ _ (s _ _ e2) xw) (kx _ _ (s _ _ e3) xc) (fun b o e hb=>kx _ _ (s _ _ (k b o e hb)) hb) ?_ ?_
 ·exact zFN ol nx zK (kx _ _ (s _ _ e2) xw) (kx _ _ (s _ _ e3) xc) trivial trivial trivial fun b o e hb=>kx _ _ (s _ _ (k b o e hb)) hb
 ·exact Is.mono (fun b o e n=>kx b o e fun z=>n (.inr (.inl z))) (fun b z=>by obtain⟨o,e,mb⟩:=ol1 b z;exact⟨o,s _ _ e,mb⟩) (fun _ z _=>z) _ _ iv
end
noncomputable def zL2:Option Sl->Bool
 |some .un=>true
 |_=>false
theorem zDW{s:Option Sl}(h:zL2 s=true):s=some .un:=by
 unfold zL2 at h;split at h<;>first|rfl|cases h
noncomputable def zKJ(i:Nat)(fp fm:ME)(dd:D->Option D)(g:MEs):MS:=fun r=>if Q5 r=true/\zL2 r[i]?=true then (fp r).bind fun pd=>(fm r).bind fun md=>match md with
 |.int m=>(dd pd).bind fun d=>(g ⟨m,0,[],[],.non,d⟩ r).bind fun fl=>(match fl with
  |.rt d _ r'=>if Q5 r'=true then some (.rt d r') else none
  |_=>none)
 |_=>none else none
section
variable{X:Cx}{C f:Addr}{k:Nat}{fd:FuncData}{ps:List Str}{x nm:Str}{a b:Expr}{fp fm:ME}{dd:D->Option D}{g:MEs}{rest:List Stmt}{p p' pos pos':Pos}
theorem zIF(i:Nat)(M:Mk X.K C f)(F:FnOk X.prog X.w X.K X.mg X.base CX0 k f fd ps (zLV X.K C dd))(hr:Room (k+1) X.A)(hg:Gl X x)(hm:X.mg x=some (.ref C))(hb:Binds X.K fd ps [])(ha:DE X a fp)(hb':DE X b fm)(hrest:zAN X C i rest g)(hN:X.N.Nodup)(hi:X.N[i]?=some nm:=by rfl)(hx:Loc X.env.scope nm:=by first|exact Or.inl rfl|exact Or.inr rfl)(hs:swapsWith (.Call (.Name x p) [a,b] [] p') (some (.Name nm pos')) pos.line X.env=pure false:=by rfl)(hf:X.fn nm=true\/X.env.scope.names.lookup nm=some .local:=by first|exact .inl rfl|exact .inr rfl)(hdb:(x == ("__debug__" : Str))=false:=by decide)(he:starEach [a,b] X.env=(false,eval a X.env)::starEach [b] X.env:=by rfl)(he2:starEach [b] X.env=(false,eval b X.env)::starEach [] X.env:=by rfl)(hpl:(backTo p' (starEach [b] X.env)).any (·.1)=false:=by rfl):DSs X (.Assign [.Name nm pos'] (.Call (.Name x p) [a,b] [] p') pos::rest) (zKJ i fp fm dd g):=by
 refine PSs.conseq (qL (gH hN hi hx (zCQ (dvs:=[]) (E:=E0) M F hr hg hm hb .nil cS (zX ha (zX hb' y0 he2) he) hdb he hpl) hs hf) hrest) fun Dn σ H hq=>?_
 obtain⟨O,r,fl,hR,e,q⟩:=hq
 unfold zKJ at e
 split at e
 case isFalse=>cases e
 rename_i hno
 obtain⟨hno,hun⟩:=hno
 have hun:=zDW hun
 have no:=uV hno
 have ow:Ow O r σ=O:=funext fun b=>propext no.ow
 obtain⟨pd,e1,e⟩:=bind_some e
 obtain⟨md,e2,e⟩:=bind_some e
 cases md<;>first|(cases e;done)|skip
 rename_i m
 obtain⟨d,e3,e⟩:=bind_some e
 obtain⟨fl1,e4,e⟩:=bind_some e
 cases fl1 with
 |nx st' r'=>cases e
 |rt d' st' r'=>
  dsimp only at e
  split at e
  case isFalse=>cases e
  rename_i hno'
  cases e
  have no':=uV hno'
  refine⟨O,r,pd,hR,e1,fun pv H1 s1 ip=>⟨O,r,.int m,hR.same s1,e2,fun mv H2 s2 im=>?_⟩⟩
  rw[ow] at ip im
  rw[Is.int_iff] at im
  subst im
  intro y dx ny ndx hne
  have R2:=(hR.same s1).same s2
  have s3:Same H2 (upd (upd H2 dx (.own y)) y (.ins C dx [])):=fun b o e=>by
   rw[zI (fun z=>by rw[z,ny] at e;cases e),zI (fun z=>by rw[z,ndx] at e;cases e)];exact e
  have nOy:¬O y:=fun z=>by obtain⟨o,e,_⟩:=R2.o0 y z;rw[ny] at e;cases e
  have ip3:Is X.K (Ox O y y y) (upd (upd H2 dx (.own y)) y (.ins C dx [])) pd pv:=Is.mono (O:=O) (H:=H2) (fun b o e _=>s3 _ _ e) R2.o0 (fun b z nn=>by
   rcases z with z|z|z|z
   ·exact z
   all_goals exact absurd (z ▸ ny) nn) _ _ (Is.mono (O:=O) (fun b o e _=>s2 _ _ e) (hR.same s1).o0 (fun _ z _=>z) _ _ ip)
  refine⟨O,y,dx,pd,pv,m,d,rfl,zK,fun b z=>by obtain⟨o,e,mb⟩:=R2.o0 b z;exact⟨o,s3 _ _ e,mb⟩,nOy,ip3,e3,fun w c vd H4 wc hw hc f1 f2 f3 k4 ol4 iv=>⟨rfl,?_⟩⟩
  have sA:Same H H4:=fun b o e=>k4 b o (s3 _ _ (s2 _ _ (s1 _ _ e))) fun z=>by have:=s2 _ _ (s1 _ _ e);rw[z,ny] at this;cases this
  have hyi:(σ.set i (some (.ref y)))[i]?=some (some (.ref y)):=by
   have hi':i<σ.length:=by
    rw[<-hR.len]
    obtain⟨z,_⟩:=ak.mp hun
    exact z
   exact zG hi'
  have R4:R X.K (Ox O y w c) H4 r (σ.set i (some (.ref y))):=by
   refine R.plain no (by rw[List.length_set];exact hR.len) ol4 fun j d' e=>?_
   have hj:i≠j:=fun z=>by rw[<-z,hun] at e;cases e
   obtain⟨v,e5,q5⟩:=hR.valO no e
   refine⟨v,by rw[List.getElem?_set_ne hj];exact e5,Is.mono (O:=O) (H:=H) (fun b o e _=>sA _ _ e) hR.o0 (fun b z nn=>?_) _ _ q5⟩
   rcases z with z|z|z|z
   ·exact z
   ·exact absurd (s1.free (s2.free (z ▸ ny))) nn
   ·exact absurd (s1.free (s2.free (s3.free (z ▸ hw)))) nn
   ·exact absurd (s1.free (s2.free (s3.free (z ▸ hc)))) nn
  have ms:Mch X.K (Ox O y w c) H4 C y w c ⟨m,0,[],[],.non,d⟩:=⟨⟨dx,[],[],.non,vd,f1,f2,f3,by rw[Is.non_iff],iv,.nil,.nil⟩,wc,.inr (.inl rfl),.inr (.inr (.inl rfl)),.inr (.inr (.inr rfl))⟩
  refine⟨Ox O y w c,y,w,c,_,r,_,⟨ms,R4,no,hyi⟩,e4,fun v σ' H' m' iv' k'=>?_⟩
  have sB:Same H H':=fun b o e=>by
   have hb:=s2 _ _ (s1 _ _ e)
   have hb3:=s3 _ _ hb
   refine k' b o (sA _ _ e) (fun z=>?_) (fun z=>?_) (fun z=>?_)
   ·rw[z,ny] at hb;cases hb
   ·rw[z,hw] at hb3;cases hb3
   ·rw[z,hc] at hb3;cases hb3
  have olB:qR O H':=fun b z=>by obtain⟨o,e,mb⟩:=hR.o0 b z;exact⟨o,sB _ _ e,mb⟩
  have dn:∀{d:D} {v:V},Is X.K (Ox O y w c) H' d v->Is X.K O H' d v:=fun iv=>Is.mono (fun b o e _=>e) m'.ol (fun _ z _=>.inl z) _ _ iv
  refine q v σ' H' (R.plain no' m'.rr.len olB fun j d' e=>?_) (Kp.plain sB no no') (dn iv')
  obtain⟨u,e5,q5⟩:=m'.rr.valO no' e
  exact⟨u,e5,dn q5⟩
end
open PySem PySem.Spec PyProof.Rows L2 PySem.W
section
variable{X:Cx}{C:Addr}{z:Nat}{a b e:Expr}{es:List Expr}{m:MEf}{ms:MEa}{f g:ME}{x y:Str}{p pos apos npos:Pos}{k n:Nat}{fa:Addr}{fd:FuncData}{ps:List Str}{sts:List Stmt}
theorem McR.ows{O:Addr->Prop}{H:Hp}{a w c:Addr}{st:Mst}{r:En}{σ:St}(mr:McR X.K O H C z a w c st r σ):Ow O r σ=O:=funext fun b=>propext mr.no.ow
theorem zDD{x1}(h:DMa X C z es ms):DMe X C z (.Tuple es x1 pos) (fun st r=>(ms st r).bind fun p=>if p.1.length<=sizeLine then some (.tup p.1,p.2) else none):=by
 refine PE.conseq (zCM h) fun σ H Q hq=>?_
 obtain⟨O,a,w,c,st,r,d,st',mr,e1,q⟩:=hq
 obtain⟨⟨l,st1⟩,e2,e3⟩:=bind_some e1
 dsimp only at e3
 split at e3
 case isFalse=>cases e3
 rename_i hl
 cases e3
 refine⟨O,a,w,c,st,r,l,_,mr,e2,fun vs H1 m1 il k1=>⟨by rw[<-il.length];exact hl,fun t ht=>?_⟩⟩
 have s2:=zT (o:=.tup vs) ht
 refine q _ _ (m1.same s2) ?_ (k1.trans (KeepM.same s2))
 rw[Is.tup_iff]
 exact⟨t,vs,rfl,SqT.of zK,il.same s2 m1.ol⟩
theorem zI9(ha:DMe X C z a m)(hb:DE X b g)(hs:v8 b:=by intro _ _;rfl):DMe X C z (.Subscript a b pos) (fun st r=>(m st r).bind fun p=>(g r).bind fun k=>(ixD p.1 k).map fun d=>(d,p.2)):=by
 refine PE.conseq (zCR zDS ha hb hs) fun σ H Q hq=>?_
 obtain⟨O,a,w,c,st,r,d,st',mr,e1,q⟩:=hq
 obtain⟨⟨d1,st1⟩,e2,e3⟩:=bind_some e1
 obtain⟨kd,e4,e5⟩:=bind_some e3
 obtain⟨d2,e6,e7⟩:=map_some e5
 cases e7
 refine⟨O,a,w,c,st,r,d1,st1,mr,e2,fun v H1 m1 iv k1=>⟨O,r,kd,m1.rr,e4,fun u H2 s2 iu=>?_⟩⟩
 have m2:=m1.same s2
 rw[m1.ows] at iu
 exact zI6 O H2 _ _ _ _ _ _ m2.ol (iv.same s2 m1.ol) iu e6 fun v' H3 s3 iv'=>q v' H3 (m2.same s3) iv' ((k1.trans (KeepM.same s2)).trans (KeepM.same s3))
theorem Q8{mf:MF}(F:FnOk X.prog X.w X.K X.mg X.base CX0 k fa fd ps (spD X.K n mf))(hr:Room k X.A)(hg:Gl X x)(hm:X.mg x=some (.ref fa))(hk:PySem.W.keepIn X.K (.ref fa)=true)(hb:Binds X.K fd ps [])(ha:DMa X C z (e::es) ms)(hdb:(x == ("__debug__" : Str))=false:=by decide)(he:starEach (e::es) X.env=(false,eval e X.env)::starEach es X.env:=by rfl)(hpl:(backTo pos (starEach es X.env)).any (·.1)=false:=by rfl):DMe X C z (.Call (.Name x p) (e::es) [] pos) (fun st r=>(ms st r).bind fun p=>if p.1.length=n then (mf (p.1.map .v)).bind fun q=>(match q.1 with | .v d=>some (d,p.2)|_=>none) else none):=by
 refine PE.conseq (vV (E:=fun _ _ _=>False) (dvs:=[]) F hr hg hm hk hb .nil cS ha hdb he hpl) fun σ H Q hq=>?_
 obtain⟨O,a,w,c,st,r,d,st',mr,e1,q⟩:=hq
 obtain⟨⟨ds,st1⟩,e2,e3⟩:=bind_some e1
 dsimp only at e3
 split at e3
 case isFalse=>cases e3
 rename_i hl
 obtain⟨⟨rs,as'⟩,e4,e5⟩:=bind_some e3
 cases rs<;>first|(cases e5;done)|skip
 cases e5
 refine⟨O,a,w,c,st,r,ds,_,mr,e2,fun vs H1 m1 il k1=>?_⟩
 refine bP m1.rr (Same.refl H1) (by rw[m1.ows];exact il) hl e4 ?_
 intro v H2 pf iv
 rw[m1.ows] at iv
 exact q v H2 (m1.same pf.same) iv (k1.trans (KeepM.same pf.same))
noncomputable def tJ(g:ME):MEf:=fun st r=>(g r).bind fun kd=>(zJR kd).bind fun k=>match st.defs with
 |.dct ks l=>(xB ks l k).map fun d=>(d,st)
 |_=>none
theorem XI(hu:X.A.units+1<cLine)(hv:PE X (.Name x npos) (j3 z))(cl:Cls X.K C)(na:NoAttr X.K C "defs")(hk:DE X b g)(hs:zLM b:=by intro _ _;rfl)(hb:attributeBase (.Name x npos) "defs" X.env (eval (.Name x npos) X.env)=eval (.Name x npos) X.env:=by rfl):DMe X C z (.Subscript (.Attribute (.Name x npos) "defs" apos) b pos) (tJ g):=by
 refine PE.conseq (XD hu (uO hv hb) hk hs) fun σ H Q hq=>?_
 obtain⟨O,a,w,c,st,r,d,st',mr,e1,q⟩:=hq
 obtain⟨kd,e2,e3⟩:=bind_some e1
 obtain⟨j,e4,e5⟩:=bind_some e3
 obtain⟨dx,xs,ys,ve,vd,g1,g2,g3,g4,g5,g6,g7⟩:=mr.ms.ex
 split at e5
 case h_2=>cases e5
 rename_i ks l ed
 obtain⟨d',e6,e7⟩:=map_some e5
 cases e7
 refine⟨.ref a,wU mr,a,C,dx,_,vd,rfl,g1,cl,na,rfl,O,r,kd,mr.rr,e2,fun y H2 s2 iy=>?_⟩
 have m2:=mr.same s2
 have g5':=g5.same s2 mr.ol
 rw[ed,Is.dct_iff] at g5'
 obtain⟨c',kvs,rfl,no,rd,rfl,il⟩:=g5'
 rw[mr.ows] at iy
 rcases u2 j il with⟨dd,v,p1,p2,p3⟩|⟨p1,p2⟩
 ·rw[p1] at e6;cases e6
  exact⟨c',v,rfl,.inl ⟨kvs,j,rd,pU e4 iy,p2.symm⟩,q v H2 m2 p3 (KeepM.same s2)⟩
 ·rw[p1] at e6;cases e6
theorem pP:zAN X C z sts (fun _ _=>none):=fun pins s σ H Dn I h=>by
 obtain⟨O,a,w,c,st,r,fl,mr,e,q⟩:=h
 cases e
end
section
variable{P:Program}{w:World}{K:Fg}{mg:Str->Option Value}{base:Heap}{C f:Addr}{fd:FuncData}{ps:List Str}{k n:Nat}
theorem xK{m m':Mst->List D->Option (D×Mst)}(F:FnOk P w K mg base CX0 k f fd ps (spM K C n m))(i:∀st ds p,ds.length=n->m' st ds=some p->m st ds=some p):FnOk P w K mg base CX0 k f fd ps (spM K C n m'):=F.imp fun vs H Q E h=>by
 obtain⟨O,a,w,c,st,ds,us,d,st',e1,e2,e3,e4,e5,e6,q⟩:=h
 exact⟨O,a,w,c,st,ds,us,d,st',e1,e2,e3,e4,e5,i _ _ _ e2 e6,q⟩
end
open PySem PySem.Spec PyProof.Rows L2 PySem.W
namespace RP
end RP
section
variable{X:Cx}{a e:Expr}{fl:ML}{f:ME}{p' pos pos':Pos}{k:Nat}{x:Str}
noncomputable def Y4(i:Nat)(f:ME):MS:=fun r=>match r[i]? with
 |some (.v (.int a))=>(f r).bind fun d=>match d with
  |.int b=>(yN i (.int (a+b)) r).map .nx
  |_=>none
 |_=>none
theorem zEL(i:Nat)(he:DE X e f)(hN:X.N.Nodup)(hi:X.N[i]?=some x:=by rfl)(hx:Loc X.env.scope x:=by first|exact Or.inl rfl|exact Or.inr rfl)(hf:X.fn x=true\/X.env.scope.names.lookup x=some .local:=by first|exact .inl rfl|exact .inr rfl):DS X (.AugAssign (.Name x pos') .Add e pos) (Y4 i f):=by
 refine PS.conseq (zGU hN hi hx he zH3 hf) fun Dn σ H hq=>?_
 obtain⟨O0,r,fl',hR,e,q⟩:=hq
 unfold Y4 at e
 split at e
 case h_2=>cases e
 rename_i a er
 obtain⟨d,e1,e2⟩:=bind_some e
 cases d<;>first|(cases e2;done)|skip
 rename_i b
 obtain⟨r',e4,rfl⟩:=map_some e2
 obtain⟨hl,np,rfl⟩:=qB e4
 obtain⟨v,es,iv⟩:=hR.val i _ er
 rw[Is.int_iff] at iv
 subst iv
 refine⟨.int a,es,O0,r,.int b,hR,e1,fun u H1 s1 iu=>?_⟩
 rw[Is.int_iff] at iu
 subst iu
 refine⟨a,b,rfl,rfl,?_⟩
 obtain⟨R1,k1⟩:=(hR.same s1).setv (d:=.int (a+b)) (v:=.int (a+b)) hl np (by rw[Is.int_iff])
 exact q _ H1 R1 ((Kp.of_same r σ s1).trans k1)
theorem sx0{n:Nat}(h:0<n):seqIndex? 0 n=some 0:=by
 have hb:(decide ((0:Int)<=(if (0:Int)<0 then (0:Int)+n else 0)) && decide ((if (0:Int)<0 then (0:Int)+n else 0)<(n:Int)))=true:=by
  rw[if_neg (by decide)]
  simp only[Bool.and_eq_true,decide_eq_true_eq];omega
 show(if (decide ((0:Int)<=(if (0:Int)<0 then (0:Int)+n else 0)) && decide ((if (0:Int)<0 then (0:Int)+n else 0)<(n:Int)))=true then some (if (0:Int)<0 then (0:Int)+n else 0).toNat else none)=some 0
 rw[if_pos hb,if_neg (by decide)];rfl
noncomputable def J8(i:Nat):En->Option (D×En):=fun r=>(zC9 r i).bind fun l=>(l[0]?).bind fun d=>(QG i l.tail r).map fun r'=>(d,r')
theorem zEA(i:Nat){x:Str}{j:Nat}{pn apos cpos kpos:Pos}(h:PE X (.Name x pn) (j3 i))(hbase:attributeBase (.Name x pn) "pop" X.env (eval (.Name x pn) X.env)=eval (.Name x pn) X.env:=by rfl)(hline:(apos.endLine == cpos.line)=true:=by rfl)(hfew:((backTo cpos (starEach [.Constant (.int 0) j kpos] X.env)).all (fun x=>!x.1) && (backToKw cpos (keywordEach [] X.env)).all (fun x=>x.1.isSome) && decide ([Expr.Constant (.int 0) j kpos].length+([]:List Keyword).length+(if ([]:List Keyword).isEmpty then 0 else 1)<30))=true:=by rfl)(hs:starEach [.Constant (.int 0) j kpos] X.env=(false,eval (.Constant (.int 0) j kpos) X.env)::starEach [] X.env:=by rfl):DX X (.Call (.Attribute (.Name x pn) "pop" apos) [.Constant (.int 0) j kpos] [] cpos) (J8 i):=by
 refine PE.conseq (ZH PySem.F.plainAttrs_list PySem.F.slot_list_pop PySem.F.type_list_pop Q6 h (zX nE y0 hs) hbase hfew hline hs) fun σ H Q hq=>?_
 obtain⟨O0,r,d',r',hR,e,q⟩:=hq
 obtain⟨l,e2,e⟩:=bind_some e
 obtain⟨d,e1,e⟩:=bind_some e
 obtain⟨r2,e3,e4⟩:=map_some e
 have e5:d=d':=congrArg Prod.fst e4
 have e6:r2=r':=congrArg Prod.snd e4
 subst e5 e6
 obtain⟨a,xs,q1,q2,q3⟩:=ZT hR e2
 obtain⟨v,ev,iv⟩:=q3.get e1
 have hlen:0<xs.length:=by
  obtain⟨z,_⟩:=ak.mp ev
  exact z
 have il:IsL X.K (Ow O0 r σ) H l.tail xs.tail:=by
  rw[<-List.drop_one,<-List.drop_one];exact q3.drop 1
 obtain⟨R2,k2⟩:=hR.upd (xs':=xs.tail) e3 q1 q2 il
 refine⟨.ref a,q1,.inl ⟨rfl,xs,SqL.of q2⟩,a,xs,0,0,v,rfl,rfl,q2,by decide,by decide,sx0 hlen,ev,?_⟩
 rw[List.eraseIdx_zero]
 refine q _ _ R2 k2 ?_
 have own_a:Ow O0 r σ a:=by
  obtain⟨y,z1,z2⟩:=bind_some e2
  exact .inr ⟨i,l,by rw[z1];exact kP (zDB z2).1,q1⟩
 have ow2:∀b,Ow O0 r2 σ b->H b≠none->Ow O0 r σ b:=fun b z n=>z.imp id fun z=>(k2.new b z).elim id fun z=>absurd z n
 exact Is.mono (fun b o e1 n=>by rw[zI (fun z=>n (by subst z;exact own_a))];exact e1) hR.ol ow2 _ _ iv
theorem WD{k:Nat}:DE X (.Tuple [] k pos) (mC (.tup [])):=by
 have h:DE X (.Tuple [] k pos) (xI zU):=zZ zO
 have e:xI zU=mC (.tup []):=by
  funext r
  show(some ([]:List D)).bind _=_
  rw[ac];exact if_pos (Nat.zero_le _)
 rw[<-e];exact h
end
section
variable{P:Program}{w:World}{K:Fg}{mg:Str->Option Value}{base:Heap}{f:Addr}{fd:FuncData}{ps:List Str}{k n:Nat}
theorem W3{m m':MF}(F:FnOk P w K mg base CX0 k f fd ps (spD K n m))(i:∀as p,as.length=n->m' as=some p->m as=some p):FnOk P w K mg base CX0 k f fd ps (spD K n m'):=F.imp fun vs H Q E h=>by
 obtain⟨O0,as,rs,as',e1,e2,e3,e4,e5⟩:=h
 exact⟨O0,as,rs,as',e1,e2,e3,i _ _ e1 e4,e5⟩
end
open PySem PySem.Spec PyProof.Rows L2 PySem.W
noncomputable abbrev yZ(f:ME):MEf:=fun st r=>(f r).map fun d=>(d,st)
noncomputable abbrev WZ(sel:Mst->D):MEf:=fun st _=>some (sel st,st)
noncomputable abbrev J3(f:ME):MEf:=fun st r=>(f r).bind fun d=>if st.wait.length<sizeLine then some (.non,zB6 st d) else none
noncomputable abbrev zIS(f:ME):MEf:=fun st r=>(f r).bind fun d=>if st.come.length<sizeLine then some (.non,zGR st d) else none
noncomputable abbrev zBF:MEf:=fun st _=>st.wait.getLast?.map fun d=>(d,{ st with wait:=st.wait.dropLast })
noncomputable abbrev zIQ:MEf:=fun st _=>st.come.getLast?.map fun d=>(d,{ st with come:=st.come.dropLast })
noncomputable abbrev cE(mm:Mst->List D->Option (D×Mst)):MEf:=fun st _=>mm st []
noncomputable abbrev zBE(fs:ML):MEa:=fun st r=>(fs r).map fun l=>(l,st)
noncomputable abbrev zJ6(ms:MEa):MEf:=fun st r=>(ms st r).bind fun p=>if p.1.length<=sizeLine then some (.tup p.1,p.2) else none
noncomputable abbrev uIx(m:MEf)(g:ME):MEf:=fun st r=>(m st r).bind fun p=>(g r).bind fun k=>(ixD p.1 k).map fun d=>(d,p.2)
noncomputable abbrev zBH(n:Nat)(mf:MF)(ms:MEa):MEf:=fun st r=>(ms st r).bind fun p=>if p.1.length=n then (mf (p.1.map .v)).bind fun q=>(match q.1 with | .v d=>some (d,p.2)|_=>none) else none
noncomputable abbrev cQ(b:MB):MEt:=fun st r=>(b r).map fun z=>(z,st)
noncomputable abbrev vGe:MEt:=fun st _=>some (decide (st.most<=st.steps),st)
noncomputable abbrev vBl(m:MEf):MEt:=fun st r=>(m st r).bind fun p=>match p.1 with | .bl b=>some (b,p.2)|_=>none
noncomputable abbrev zBB:MEt:=fun st _=>some (!st.wait.isEmpty,st)
noncomputable abbrev zGB(m:MEf):MEt:=fun st r=>(m st r).map fun p=>(nonB p.1,p.2)
noncomputable abbrev zJ4(t t':MEt):MEt:=fun st r=>(t st r).bind fun p=>if p.1=true then t' p.2 r else some (false,p.2)
noncomputable abbrev zIR:MEs:=fun st r=>some (.nx { st with steps:=st.steps+1 } r)
noncomputable abbrev zBG:MEs:=fun _ _=>none
open PySem PySem.Spec PyProof.Rows L2 PySem.W
section
variable{prog:Program}{w:World}{A:Around}{E:Value->Shared->Prop}{s:Shared}
theorem zBT{T:String}{r d:Addr}{n:Nat}{P:Nat->Value->Prop}{OK:Heap->Prop}{Q:Value->Shared->Prop}(S:KdlSrc prog w T r d n P OK)(hh:A.handled=none)(ok:OK s.heap)(hn:n<64)(h:∀(h':Heap) (tk:Nat) (acc:Array Value),(∀b o,s.heap.get? b=some o->h'.get? b=some o)->ItemsOf P acc n->∃ss:List Str,StrsAre acc.toList ss/\∀(out:Array Value) (ss':List Str),StrsAre out.toList ss'->ss'.Perm ss->sortedS ss'=true ->
   Q (.ref h'.objs.size) { s with heap:=sortedHeap (h'.push (seqObj "list" acc 0)) h'.objs.size acc.toList out,toks:=tk }):wpAny (model prog w) A (call (.builtin "sorted") [.ref r]) Q E s:=by
 refine Calls.call_function_entry (kind_sorted) plain_sorted entry_sorted (args_sorted1 _) ?_
 unfold Builtin.«sorted»
 refine aa (m:=checkCount "sorted" 1 1 _) (ae (aa (kdu_collect S hh ok (Nat.le_trans (Nat.le_of_lt hn) (by decide)) fun h' tk acc hk hacc=>?_)))
 obtain⟨ss,hS,q⟩:=h h' tk acc hk hacc
 have at1:(h'.push (seqObj "list" acc.toList.toArray 0)).get? h'.objs.size=some (seqObj "list" acc.toList.toArray 0):=ah _ rfl
 have hl:acc.toList.length<64:=by
  have:=hacc.1
  rw[Array.length_toList];omega
 refine aa (wpAny_newList ?_ (hsz:=Nat.le_trans (Nat.le_of_lt hl) (by decide)))
 refine aa (wpAny_holding (wpAny_call_entry slot_list_sort ⟨_,at1,rfl⟩ entry_list_sort (list_sort_treeK (κ:=PyProof.Rows.strKind) strKind_oneLt at1 hS.keysOf (fun v₁ v₂ rest e=>?kk) hl fun st' p1 p2=>⟨_,rfl,?_⟩) (args_list_sort _)))
 case kk=>
  rw[e] at hS
  exact keyKind_strs hS
 obtain⟨ss',o1,o2,o3⟩:=sorted_out_str hS p1 p2
 have:=q _ ss' o1 o2 o3
 exact ae ⟨_,rfl,by simpa using this⟩
end
noncomputable def mK:List Key->Option (List (List Nat))
 |[]=>some []
 |.inr s::ks=>(mK ks).map (s.cps.toList::·)
 |.inl _::_=>none
theorem oU:∀{kvs:List (Key×V)} {ss:List (List Nat)},mK (kvs.map (·.1))=some ss->(kvs.map fun kv=>kV kv.1)=ss.map fun s=>V.str ⟨s.toArray⟩
 |[],ss,e=>by cases e;rfl
 |(.inl i,v)::kvs,ss,e=>by cases e
 |(.inr s,v)::kvs,ss,e=>by
  obtain⟨t,e1,rfl⟩:=map_some (show(mK (kvs.map (·.1))).map (s.cps.toList::·)=some ss from e)
  have ih:=oU e1
  rw[ao,ao,ih]
  show V.str s::_=V.str ⟨s.cps.toList.toArray⟩::_
  rw[Array.toArray_toList]
section
variable{X:Cx}{a:Expr}{fd:MD}{p' pos:Pos}
theorem YR(hc:X.calm=true):CallR X (.builtin "sorted") (fun xs H Q=>∃p kvs ss,xs=[.ref p]/\Rd H p (.dK kvs)/\mK (kvs.map (·.1))=some ss/\ss.length<64/\∀l,H l=none->Q (.ref l) (upd H l (.lst ((zAQ ss).map fun s=>V.str ⟨s.toArray⟩)))):=by
 intro pins s σ H xs us Q I r h
 obtain⟨p,kvs,ss,rfl,e,ek,hl,q⟩:=h
 obtain⟨u,rfl,rx⟩:=Y1 r
 cases rx
 obtain⟨z,hd,vs,rel,dd⟩:=YH I.hok e
 obtain⟨ep,da⟩:=dd.dictAt
 have hlen:=KV.length rel
 have hkeys:=KV.keys rel
 have hk0:=oU ek
 have hlk:kvs.length=ss.length:=by have:=congrArg List.length hk0;simpa using this
 refine zBT (kdl_dict (knd:=yI X.prog X.w) (kvs:=vs) (ep:=ep) hd) (I.ok.hd hc) da (by rw[<-hlen,hlk];exact hl) fun h' tk acc hk hacc=>⟨ss.map fun s=>(⟨s.toArray⟩:Str),?_,fun out ss' h1 h2 h3=>?_⟩
 ·have vv:Vals (kvs.map fun kv=>kV kv.1) acc.toList:=by
   refine YZ (by rw[ay,hlen,<-hacc.1];simp) fun j u eu=>?_
   obtain⟨k,x,ev,is⟩:=hacc.2 j u (by rw[<-Array.getElem?_toList];exact eu)
   refine⟨kV k,?_,zH2 is⟩
   have e1:(kvs.map (·.1))[j]?=some k:=by rw[hkeys,ba,ev];rfl
   rw[ba] at e1 ⊢
   cases e2:kvs[j]? with
   |none=>rw[e2] at e1;cases e1
   |some kv=>rw[e2] at e1;cases e1;rfl
  rw[hk0] at vv
  exact kC vv
 ·have hp:(ss'.map fun s=>s.cps.toList).Perm ss:=by
   have:=h2.map fun s:Str=>s.cps.toList
   simpa [List.map_map,Function.comp_def] using this
  have he:=oY hp (m7 ss' h3)
  have v1:=kB h1
  rw[he] at v1
  have at1:(h'.push (seqObj "list" acc 0)).get? h'.objs.size=some (seqObj "list" acc 0):=ah _ rfl
  obtain⟨e2,hh⟩:=sortedHeap_at (vs:=acc.toList) (out:=out) at1
  have old:∀b o,h'.get? b=some o->(sortedHeap (h'.push (seqObj "list" acc 0)) h'.objs.size acc.toList out).get? b=some o:=fun b o e3=>by
   have lb:=af e3
   rw[sortedHeap_old (ar lb) (by rw[size_push'];exact Nat.lt_succ_of_lt lb)]
   exact ad _ e3
  have I1:Inv X pins σ H { s with heap:=h',toks:=tk }:=I.kept hk
  exact⟨.ref h'.objs.size,_,I1.laid (t':=tk) old (al _) (show ObjOk X.prog X.w _ _ _ (.lst ((zAQ ss).map fun s=>V.str ⟨s.toArray⟩)) from⟨by rw[ay,oX];exact Nat.le_trans (Nat.le_of_lt hl) (by decide),out.toList,e2,v1,by rw[Array.toArray_toList];exact hh⟩),rfl,q _ (I1.hok.fresh (al _))⟩
noncomputable def cU(fd:MD):ML:=fun r=>(fd r).bind fun q=>(mK q.1).bind fun ss=>if ss.length<64 then some ((zAQ ss).map .str) else none
theorem X8(hc:X.calm=true)(hg:Gl X "sorted")(hm:X.mg "sorted" = none)(ha:DDc X a fd)(hs:starEach [a] X.env=(false,eval a X.env)::starEach [] X.env:=by rfl):DF X (.Call (.Name "sorted" p') [a] [] pos) (cU fd):=by
 refine PE.conseq (jU (YR hc) hg hm PyProof.Rows.boot_sorted (zX ha y0 hs) (he:=hs)) fun σ H Q hq=>?_
 obtain⟨O0,r,d,hR,e,q⟩:=hq
 obtain⟨⟨ks,l⟩,e1,e⟩:=bind_some e
 obtain⟨ss,e2,e⟩:=bind_some e
 split at e
 ·rename_i hz
  cases e
  refine⟨O0,r,ks,l,hR,e1,fun c kvs H1 s1 rd ek il=>⟨c,kvs,ss,rfl,rd,by rw[ek];exact e2,hz,fun t ht=>q t _ _ (s1.trans (zT ht)) (s1.free ht) zK (pX _)⟩⟩
 ·cases e
end
end DD
namespace ZZ
open PySem
section
variable{prog:Program}{w:World}{A:Around}{E:Value->Shared->Prop}{s:Shared}
theorem J0{a:Addr}{o:Option Obj}{Q:Option Obj->Shared->Prop}(h:s.heap.get? a=o)(q:Q o s):wpAny (model prog w) A (loadIfAlive a) Q E s:=by
 unfold loadIfAlive
 unfold wpAny at *
 intros
 rw[Sem.wp_loadIfAlive,h]
 exact q
noncomputable abbrev kY(h:Heap)(z a b T:Addr)(f:Bool):Prop:=h.get? z=some { cls:=Value.type "zip",data:=Data.fields #[rawInt T,.bool f,.bool false,.ref a,.ref b] }
theorem pM{z a b T:Addr}{f:Bool}{Q:Bool->Shared->Prop}{o:Obj}(hz:kY s.heap z a b T f)(hT:s.heap.get? T=some o)(q:∀g,kY g z a b T true->Heap.SameBut z s.heap g->Q false { s with heap:=g }):wpAny (model prog w) A (Builtin.SmallTypes.ownedTupleIsFree (.ref z)) Q E s:=by
 (unfold Builtin.SmallTypes.ownedTupleIsFree)
 refine aa (wpAny_field hz rfl (x:=rawInt T) rfl ?_)
 show wpAny _ _ (loadIfAlive (T:Int).toNat >>= _) _ _ _
 rw[Int.toNat_natCast]
 refine aa (J0 hT ?_)
 simp only[Option.isNone_some,Bool.false_eq_true,if_false]
 refine aa (wpAny_field hz rfl (x:=.bool f) rfl ?_)
 cases f
 ·show wpAny _ _ (setField (.ref z) 1 (Value.bool true) >>= _) _ _ _
  refine aa (wpAny_setField_rec hz (by simp) fun g z1 t1=>?_)
  exact ae (q g z1 t1)
 ·show wpAny _ _ (pure false) _ _ _
  exact ae (q s.heap hz (Heap.SameBut.refl _ _))
section
variable{z a b i j T:Addr}{f g:List Addr}{n m k:Nat}{P R:Nat->Value->Prop}{S U:Nat->Heap->Prop}{p q:Value}{fl:Bool}{oT:Obj}
theorem zF6{Q:Value->Shared->Prop}(D:Draws prog w A i f n P S)(C:Draws prog w A j g m R U)(ap:Ap z a b i j f g)(hz:kY s.heap z a b T fl)(hT:s.heap.get? T=some oT)(ha:IsPair s.heap a (.ref i) (.ref j))(hS:S k s.heap)(hU:U k s.heap)(hn:k<n)(hm:k<m)(h:∀x y g' tk,P k x->R k y->kY g' z a b T true->S (k+1) g'->U (k+1) g'->IsPair g' s.heap.objs.size x y->g'.objs.size=s.heap.objs.size+1 ->
   (∀c o,c≠z->c≠i->c≠j->s.heap.get? c=some o->g'.get? c=some o)->Q (.ref s.heap.objs.size) { s with heap:=g',toks:=tk }):wpAny (model prog w) A (Builtin.«zip.__next__» ⟨[.ref z],[]⟩) (fun r s'=>∃y,r=.done (.ret y)/\Q y s') E s:=by
 show wpAny _ _ (field (.ref z) 2 >>= _) _ _ _;refine aa (wpAny_field hz rfl (x:=.bool false) rfl (?_))
 show wpAny _ _ (field (.ref z) 3 >>= _) _ _ _;refine aa (wpAny_field hz rfl (x:=.ref a) rfl (aa (wpAny_seqItems ha rfl (?_))))
 (show wpAny _ _ (Builtin.SmallTypes.ownedTupleIsFree (.ref z) >>= _) _ _ _)
 refine aa (pM hz hT fun g1 z1 t1=>?_)
 simp only[Bool.false_eq_true,if_false]
 have keep1:∀{c:Addr} {o:Obj},c≠z->s.heap.get? c=some o->g1.get? c=some o:=fun n e=>t1.extBut _ _ n e
 refine aa ?_
 simp only[<-Array.forIn_toList,List.forIn_cons,List.forIn_nil]
 refine aa (aa (wpAny_holding ?_))
 show wpAny _ _ (Builtin.SmallTypes.nextOf (.ref i) >>= _) _ _ _
 refine aa (D.item k _ _ _ hn (D.frame _ _ _ hS fun c hc o e=>keep1 (fun w'=>ap.fz (w' ▸ hc)) e) fun x g2 tk2 Px S2 t2=>ae (?_))
 refine ae ?_
 refine aa (aa (wpAny_holding ?_))
 show wpAny _ _ (Builtin.SmallTypes.nextOf (.ref j) >>= _) _ _ _
 have U2:U k g2:=C.frame _ _ _ hU fun c hc o e=>t2.extBut _ _ (fun w'=>ap.gi (w' ▸ hc)) (keep1 (fun w'=>ap.gz (w' ▸ hc)) e)
 refine aa (C.item k _ _ _ hm U2 fun y g3 tk3 Ry U3 t3=>ae (?_))
 refine ae (ae ?_)
 have sz:g3.objs.size=s.heap.objs.size:=by rw[t3.1,t2.1,t1.1]
 refine aa (wpAny_newTuple ?_ (hsz:=by show 2<=sizeLine;decide))
 refine ae ⟨_,rfl,?_⟩
 show Q (.ref g3.objs.size) _
 rw[sz]
 have z3:kY g3 z a b T true:=t3.extBut _ _ ap.jz.symm (t2.extBut _ _ ap.iz.symm z1)
 have S3:S (k+1) g3:=D.frame _ _ _ S2 fun c hc o e=>t3.extBut _ _ (fun w'=>ap.fj (w' ▸ hc)) e
 have up:∀c o,g3.get? c=some o->(g3.push (Obj.mk (.type "tuple") none (.seq #[x,y] 0) #[])).get? c=some o:=fun c o e=>ad _ e
 refine h x y _ _ Px Ry (up _ _ z3) (D.frame _ _ _ S3 fun c _ o e=>up c o e) (C.frame _ _ _ U3 fun c _ o e=>up c o e) ?_ ?_ fun c o c1 c2 c3 e=>up c o (t3.extBut _ _ c3 (t2.extBut _ _ c2 (keep1 c1 e)))
 ·rw[<-sz];exact ah _ rfl
 ·rw[Heap.size_push,sz]
theorem zJZ{Q:Fin->Shared->Prop}(D:Draws prog w A i f n P S)(C:Draws prog w A j g m R U)(ap:Ap z a b i j f g)(hz:kY s.heap z a b T fl)(hT:s.heap.get? T=some oT)(ha:IsPair s.heap a (.ref i) (.ref j))(hS:S k s.heap)(hU:U k s.heap)(hk:(k=n)\/(k<n/\k=m))(h:∀g' e,(∀c o,c≠z->c≠i->c≠j->s.heap.get? c=some o->g'.get? c=some o)->(∃o,g'.get? e=some o/\o.cls=.type "StopIteration")->∀tk,E (.ref e) { s with heap:=g',toks:=tk }):wpAny (model prog w) A (PySem.Builtin.«zip.__next__» ⟨[.ref z],[]⟩) Q E s:=by
 show wpAny _ _ (field (.ref z) 2 >>= _) _ _ _;refine aa (wpAny_field hz rfl (x:=.bool false) rfl (?_))
 show wpAny _ _ (field (.ref z) 3 >>= _) _ _ _;refine aa (wpAny_field hz rfl (x:=.ref a) rfl (aa (wpAny_seqItems ha rfl (?_))))
 (show wpAny _ _ (Builtin.SmallTypes.ownedTupleIsFree (.ref z) >>= _) _ _ _)
 refine aa (pM hz hT fun g1 z1 t1=>?_)
 simp only[Bool.false_eq_true,if_false]
 have keep1:∀{c:Addr} {o:Obj},c≠z->s.heap.get? c=some o->g1.get? c=some o:=fun n e=>t1.extBut _ _ n e
 refine aa ?_
 simp only[<-Array.forIn_toList,List.forIn_cons,List.forIn_nil]
 refine aa (aa (wpAny_holding ?_))
 show wpAny _ _ (Builtin.SmallTypes.nextOf (.ref i) >>= _) _ _ _
 have S1:S k g1:=D.frame _ _ _ hS fun c hc o e=>keep1 (fun w'=>ap.fz (w' ▸ hc)) e
 rcases hk with hk|⟨hn,hk⟩
 ·subst hk
  exact aa (D.done _ _ _ S1 fun g2 e t2 he=>h g2 e (fun c o c1 c2 c3 x=>t2 _ _ c2 (keep1 c1 x)) he _)
 ·subst hk
  refine aa (D.item k _ _ _ hn S1 fun x g2 tk2 Px S2 t2=>ae (?_))
  refine ae ?_
  refine aa (aa (wpAny_holding ?_))
  show wpAny _ _ (Builtin.SmallTypes.nextOf (.ref j) >>= _) _ _ _
  have U2:U k g2:=C.frame _ _ _ hU fun c hc o e=>t2.extBut _ _ (fun w'=>ap.gi (w' ▸ hc)) (keep1 (fun w'=>ap.gz (w' ▸ hc)) e)
  exact aa (C.done _ _ _ U2 fun g3 e t3 he=>h g3 e (fun c o c1 c2 c3 x=>t3 _ _ c3 (t2.extBut _ _ c2 (keep1 c1 x))) he _)
end
end
open PySem
section
variable{prog:Program}{w:World}{A:Around}{E:Value->Shared->Prop}{s:Shared}{z a b i j:Addr}{f g:List Addr}{n m k:Nat}{P R:Nat->Value->Prop}{S U:Nat->Heap->Prop}
theorem zAV{T:Addr}{fl:Bool}{oT:Obj}{Q:Option Value->Shared->Prop}(D:Draws prog w A.in1 i f n P S)(C:Draws prog w A.in1 j g m R U)(ap:Ap z a b i j f g)(hz:kY s.heap z a b T fl)(hT:s.heap.get? T=some oT)(ha:IsPair s.heap a (.ref i) (.ref j))(hS:S k s.heap)(hU:U k s.heap)(hn:k<n)(hm:k<m)(h:∀x y g' tk,P k x->R k y->kY g' z a b T true->S (k+1) g'->U (k+1) g'->IsPair g' s.heap.objs.size x y->g'.objs.size=s.heap.objs.size+1 ->
   (∀c o,c≠z->c≠i->c≠j->s.heap.get? c=some o->g'.get? c=some o)->Q (some (.ref s.heap.objs.size)) { s with heap:=g',toks:=tk }):wpAny (model prog w) A (pyNext (.ref z)) Q E s:=by
 have hty:s.TypeIs (.ref z) "zip" := ⟨_,hz,rfl⟩;unfold pyNext
 refine aa (wpAny_attempt (wpAny_callSpecial?_slot (name:=Str.ofString "__next__") hty F.slot_zip_next (wpAny_call_entry F.slot_zip_next hty F.entry_zip_next (?_) (F.args_zip_next_1 _))))
 refine wpAny_mono (zF6 (Q:=fun v s'=>Q (some v) s') D C ap hz hT ha hS hU hn hm h) (fun fin s' hq=>?_) fun _ _ x=>x
 obtain⟨v,e,hq⟩:=hq
 exact⟨v,e,ae hq⟩
theorem zAW{T:Addr}{fl:Bool}{oT:Obj}{Q:Option Value->Shared->Prop}(D:Draws prog w A.in1 i f n P S)(C:Draws prog w A.in1 j g m R U)(ap:Ap z a b i j f g)(hz:kY s.heap z a b T fl)(hT:s.heap.get? T=some oT)(ha:IsPair s.heap a (.ref i) (.ref j))(hS:S k s.heap)(hU:U k s.heap)(hk:(k=n)\/(k<n/\k=m))(h:∀g' tk,(∀c o,c≠z->c≠i->c≠j->s.heap.get? c=some o->g'.get? c=some o)->Q none { s with heap:=g',toks:=tk }):wpAny (model prog w) A (pyNext (.ref z)) Q E s:=by
 have hty:s.TypeIs (.ref z) "zip" := ⟨_,hz,rfl⟩;unfold pyNext
 refine aa (wpAny_attempt (wpAny_callSpecial?_slot (name:=Str.ofString "__next__") hty F.slot_zip_next (wpAny_call_entry F.slot_zip_next hty F.entry_zip_next (zJZ D C ap hz hT ha hS hU hk fun g' e kp he tk=>?_) (F.args_zip_next_1 _))))
 obtain⟨o,ho,hc⟩:=he
 refine aa (wpAny_isInstance (T:="StopIteration") (b:=true) ⟨o,ho,hc⟩ isSubtype_stop (?_))
 exact ae (h _ _ kp)
structure ZS(z a b i j L:Addr)(S U:Nat->Heap->Prop)(k:Nat)(h:Heap):Prop where
 pr:IsPair h a (.ref i) (.ref j)
 s:S k h
 u:U k h
 bl:∃o,h.get? b=some o
 st:(IsZip h z a b .none/\∃p q,IsPair h b p q)\/∃T f o,kY h z a b T f/\h.get? T=some o/\T≠z/\T≠i/\T≠j/\T≠L
theorem ZS.mono{L:Addr}{h h':Heap}(D:Draws prog w A i f n P S)(C:Draws prog w A j g m R U)(ap:Ap z a b i j f g)(x:ZS z a b i j L S U k h)(hf:L∉f)(hg:L∉g)(ha:a≠L)(hb:b≠L)(hz:z≠L)(kp:∀c o,c≠L->h.get? c=some o->h'.get? c=some o):ZS z a b i j L S U k h':=by
 refine⟨kp _ _ ha x.pr,D.frame _ _ _ x.s fun c hc o e=>kp c o (fun q=>hf (q ▸ hc)) e,C.frame _ _ _ x.u fun c hc o e=>kp c o (fun q=>hg (q ▸ hc)) e,by obtain⟨o,e⟩:=x.bl;exact⟨o,kp _ _ hb e⟩,?_⟩
 rcases x.st with⟨h1,p,q,h2⟩|⟨T,fl,o,h1,h2,h3,h4,h5,h6⟩
 ·exact .inl ⟨kp _ _ hz h1,p,q,kp _ _ hb h2⟩
 ·exact .inr ⟨T,fl,o,kp _ _ hz h1,kp _ _ h6 h2,h3,h4,h5,h6⟩
theorem zAU{L:Addr}{Q:Option Value->Shared->Prop}(D:Draws prog w A.in1 i f n P S)(C:Draws prog w A.in1 j g m R U)(ap:Ap z a b i j f g)(x:ZS z a b i j L S U k s.heap)(hL:L<s.heap.objs.size)(hn:k<n)(hm:k<m)(h:∀x y g' tk,P k x->R k y->ZS z a b i j L S U (k+1) g'->IsPair g' s.heap.objs.size x y->(∀c o,c≠z->c≠b->c≠i->c≠j->s.heap.get? c=some o->g'.get? c=some o)->Q (some (.ref s.heap.objs.size)) { s with heap:=g',toks:=tk }):wpAny (model prog w) A (pyNext (.ref z)) Q E s:=by
 have li:i<s.heap.objs.size:=by obtain⟨o,e⟩:=D.live _ _ x.s;exact af e
 have lj:j<s.heap.objs.size:=by obtain⟨o,e⟩:=C.live _ _ x.u;exact af e
 rcases x.st with⟨h1,p,q,h2⟩|⟨T,fl,o,h1,h2,h3,h4,h5,h6⟩
 ·have lz:z<s.heap.objs.size:=af h1
  refine znextI D C ap h1 x.pr h2 x.s x.u hn hm fun x' y' g' tk px ry z1 b1 s1 u1 p1 sz kp=>?_
  refine h x' y' g' tk px ry ⟨kp _ _ ap.az ap.ab ap.ai ap.aj x.pr,s1,u1,⟨_,b1⟩,.inr ⟨s.heap.objs.size,false,_,z1,p1,?_,?_,?_,?_⟩⟩ p1 kp
  ·exact Nat.ne_of_gt lz
  ·exact Nat.ne_of_gt li
  ·exact Nat.ne_of_gt lj
  ·exact Nat.ne_of_gt hL
 ·refine zAV D C ap h1 h2 x.pr x.s x.u hn hm fun x' y' g' tk px ry z1 s1 u1 p1 sz kp=>?_
  exact h x' y' g' tk px ry ⟨kp _ _ ap.az ap.ai ap.aj x.pr,s1,u1,by obtain⟨o,e⟩:=x.bl;exact⟨o,kp _ _ ap.bz ap.bi ap.bj e⟩,.inr ⟨T,true,o,z1,kp _ _ h3 h4 h5 h2,h3,h4,h5,h6⟩⟩ p1 fun c o c1 c2 c3 c4 e=>kp c o c1 c3 c4 e
theorem zF5{L:Addr}{Q:Option Value->Shared->Prop}(D:Draws prog w A.in1 i f n P S)(C:Draws prog w A.in1 j g m R U)(ap:Ap z a b i j f g)(x:ZS z a b i j L S U k s.heap)(hk:(k=n)\/(k<n/\k=m))(h:∀g' tk,(∀c o,c≠z->c≠b->c≠i->c≠j->s.heap.get? c=some o->g'.get? c=some o)->Q none { s with heap:=g',toks:=tk }):wpAny (model prog w) A (pyNext (.ref z)) Q E s:=by
 rcases x.st with⟨h1,p,q,h2⟩|⟨T,fl,o,h1,h2,h3,h4,h5,h6⟩
 ·exact znextE D C ap h1 x.pr h2 x.s x.u hk h
 ·exact zAW D C ap h1 h2 x.pr x.s x.u hk fun g' tk kp=>h g' tk fun c o c1 c2 c3 c4 e=>kp c o c1 c3 c4 e
noncomputable abbrev lO(acc:Array Value)(c:Nat):Obj:={ cls:=.type "list",data:=.seq acc c }
structure Got(h:Heap)(lo z b i j L:Addr)(P R:Nat->Value->Prop)(acc:Array Value)(k:Nat):Prop where
 sz:acc.size=k
 at_:∀t v,acc[t]?=some v->∃T x y,v=.ref T/\IsPair h T x y/\P t x/\R t y/\T≠z/\T≠b/\T≠i/\T≠j/\L<T
 inj:∀(t t':Nat) v,acc[t]?=some v->acc[t']?=some v->t=t'
theorem zIN{L:Addr}{res:Value}{Rr:Result->Shared->Prop}{s0:Shared}(D:Draws prog w A.in1.in1 i f n P S)(C:Draws prog w A.in1.in1 j g m R U)(ap:Ap z a b i j f g)(hf:L∉f)(hg:L∉g)(haL:a≠L)(hbL:b≠L)(hzL:z≠L)(hiL:i≠L)(hjL:j≠L)(hnm:n=m)(hsz:n<sizeLine)(fin:∀h' tk acc c,(∀d o,d≠z->d≠b->d≠i->d≠j->d≠L->s0.heap.get? d=some o->h'.get? d=some o)->h'.get? L=some (lO acc c)->Got h' 0 z b i j L P R acc n->Rr (.ok (.ret res)) { s0 with heap:=h',toks:=tk }):∀(r k:Nat) (h:Heap) (tk:Nat) (acc:Array Value) (c:Nat),k+r=n->ZS z a b i j L S U k h->h.get? L=some (lO acc c)->Got h 0 z b i j L P R acc k->(∀d o,d≠z->d≠b->d≠i->d≠j->d≠L->s0.heap.get? d=some o->h.get? d=some o) ->
   codeAny (model prog w) A (Code.builtin "list.extend.loop" { pos:=[.ref L,.ref z,res] }) Rr { s0 with heap:=h,toks:=tk }
 |0,k,h,tk,acc,c,hk,zs,hL,hg',kp=>by
  (refine codeAny_builtin F.entry_extend_loop ?_)
  rw[Around.under_plainId F.plain_extend_loop _]
  show wpAny _ A.in1 (pyNext (.ref z) >>= _) _ _ _
  refine aa (zF5 D C ap zs (.inl (by omega)) fun g' tk' kp'=>ae ?_)
  have kk:k=n:=by omega
  subst kk
  refine fin g' tk' acc c (fun d o d1 d2 d3 d4 d5 e=>kp' d o d1 d2 d3 d4 (kp d o d1 d2 d3 d4 d5 e)) (kp' _ _ hzL.symm hbL.symm hiL.symm hjL.symm hL) ⟨hg'.sz,fun t v e=>?_,hg'.inj⟩
  obtain⟨T,x,y,e1,e2,e3,e4,n1,n2,n3,n4,n5⟩:=hg'.at_ t v e
  exact⟨T,x,y,e1,kp' _ _ n1 n2 n3 n4 e2,e3,e4,n1,n2,n3,n4,n5⟩
 |r+1,k,h,tk,acc,c,hk,zs,hL,hg',kp=>by
  (refine codeAny_builtin F.entry_extend_loop ?_)
  rw[Around.under_plainId F.plain_extend_loop _]
  show wpAny _ A.in1 (pyNext (.ref z) >>= _) _ _ _
  have lL:L<h.objs.size:=af hL
  refine aa (zAU (s:={ s0 with heap:=h,toks:=tk }) D C ap zs lL (by omega) (by omega) fun x y g' tk' px ry zs' pp kp'=>?_)
  have hL':g'.get? L=some (lO acc c):=kp' _ _ hzL.symm hbL.symm hiL.symm hjL.symm hL
  show wpAny _ A.in1 (updateSeq L (fun xs=>xs.push (.ref h.objs.size)) >>= _) _ _ _
  refine aa (wpAny_updateSeq hL' rfl (hz:=by rw[hg'.sz];omega) (_hz':=by rw[Array.size_push,hg'.sz];omega) ?_)
  have hL2:=Heap.get?_update_self (Obj.mapSeq (fun xs=>xs.push (.ref h.objs.size))) hL' rfl
  have kp2:∀d o,d≠L->g'.get? d=some o->(g'.update L (Obj.mapSeq (fun xs=>xs.push (.ref h.objs.size)))).get? d=some o:=fun d o hd e=>(Heap.get?_update_other _ _ (Ne.symm hd)).trans e
  refine ae ⟨plainId_quiet F.plain_extend_loop _,?_⟩
  have lz:z<h.objs.size:=by
   rcases zs.st with⟨q,_⟩|⟨_,_,_,q,_⟩
   ·exact af q
   ·exact af q
  have li:i<h.objs.size:=by obtain⟨o,e⟩:=D.live _ _ zs.s;exact af e
  have lj:j<h.objs.size:=by obtain⟨o,e⟩:=C.live _ _ zs.u;exact af e
  refine zIN D C ap hf hg haL hbL hzL hiL hjL hnm hsz fin r (k+1) _ tk' (acc.push (.ref h.objs.size)) _ (by omega) (zs'.mono D C ap hf hg haL hbL hzL kp2) hL2 ⟨by rw[Array.size_push,hg'.sz],fun t v e=>?_,fun t t' v e e'=>?_⟩ (fun d o d1 d2 d3 d4 d5 e=>kp2 d o d5 (kp' d o d1 d2 d3 d4 (kp d o d1 d2 d3 d4 d5 e)))
  rotate_left
  ·have old:∀t,acc[t]?=some (Value.ref h.objs.size)->False:=fun t e=>by
    obtain⟨T,x,y,e1,e2,_⟩:=hg'.at_ t _ e
    cases e1
    exact Nat.lt_irrefl _ (af e2)
   rw[Array.getElem?_push] at e e'
   split at e
   ·cases e
    split at e'
    ·rename_i q1 q2;rw[q1,q2]
    ·exact(old _ e').elim
   ·split at e'
    ·cases e';exact(old _ e).elim
    ·exact hg'.inj t t' v e e'
  rw[Array.getElem?_push] at e
  split at e
  ·rename_i ht
   cases e
   subst ht
   rw[hg'.sz]
   have lb:b<h.objs.size:=by obtain⟨o,e⟩:=zs.bl;exact af e
   exact⟨h.objs.size,x,y,rfl,kp2 _ _ (Nat.ne_of_gt lL) pp,px,ry,Nat.ne_of_gt lz,Nat.ne_of_gt lb,Nat.ne_of_gt li,Nat.ne_of_gt lj,lL⟩
  ·obtain⟨T,x,y,e1,e2,e3,e4,n1,n2,n3,n4,n5⟩:=hg'.at_ t v e
   exact⟨T,x,y,e1,kp2 _ _ (Nat.ne_of_gt n5) (kp' _ _ n1 n2 n3 n4 e2),e3,e4,n1,n2,n3,n4,n5⟩
theorem tD:typeLookup (.type "zip") "__len__" = pure none:=by rw[typeLookup_type,builtinLookup_eq_fast];kernel_rfl
theorem mR:typeLookup (.type "zip") "__length_hint__" = pure none:=by rw[typeLookup_type,builtinLookup_eq_fast];kernel_rfl
theorem zMY{L:Addr}{res:Value}{Rr:Result->Shared->Prop}(D:Draws prog w A.in1.in1 i f n P S)(C:Draws prog w A.in1.in1 j g m R U)(ap:Ap z a b i j f g)(hf:L∉f)(hg:L∉g)(haL:a≠L)(hbL:b≠L)(hzL:z≠L)(hiL:i≠L)(hjL:j≠L)(hnm:n=m)(hsz:n<sizeLine)(zs:ZS z a b i j L S U 0 s.heap)(hz0:IsZip s.heap z a b .none)(hL:s.heap.get? L=some (lO #[] 0))(fin:∀h' tk acc c,(∀d o,d≠z->d≠b->d≠i->d≠j->d≠L->s.heap.get? d=some o->h'.get? d=some o)->h'.get? L=some (lO acc c)->Got h' 0 z b i j L P R acc n->Rr (.ok (.ret res)) { s with heap:=h',toks:=tk }):wpAny (model prog w) A.in1 (Builtin.List.listExtendWith (.ref L) (.ref z) res) (fun fin s'=>match fin with | .done f=>Rr (.ok f) s' | .again c'=>c'.quiet=true/\codeAny (model prog w) A c' Rr s') (fun e s'=>Rr (.error e) s') s:=by
 have hty:s.TypeIs (.ref z) "zip" := ⟨_,hz0,rfl⟩
 have k1:Builtin.List.listSameRef (.ref L) (.ref z)=false:=by simp[Builtin.List.listSameRef,hzL.symm]
 rw[Builtin.List.listExtendWith]
 refine aa (wpAny_typeOf hty ?_)
 rw[if_neg (by rw[k1];decide)]
 refine aa (wpAny_pyIter_zip hz0 ?_)
 refine aa (wpAny_holding (?_))
 rw[Builtin.List.listLengthHint]
 refine aa (wpAny_specialOf hty tD ?_)
 show wpAny _ A.in1 ((specialOf (.ref z) (Str.ofString "__length_hint__")) >>= _) _ _ _
 refine aa (wpAny_specialOf hty mR ?_)
 refine ae ?_
 rw[if_pos (by rfl)]
 refine aa (wpAny_rule ?_)
 refine aa ?_
 unfold Builtin.List.listTouch
 refine aa (m:=updateSeq L (fun x=>x.push Value.none)) (wpAny_updateSeq hL rfl ?_)
 have hL1:=Heap.get?_update_self (Obj.mapSeq (fun x=>x.push Value.none)) hL rfl
 refine wpAny_updateSeq (f:=fun x=>x.pop) hL1 rfl ?_
 have hL2:=Heap.get?_update_self (Obj.mapSeq (fun x=>x.pop)) hL1 rfl
 have els:∀b o,b≠L->s.heap.get? b=some o->((s.heap.update L (Obj.mapSeq (fun x=>x.push Value.none))).update L (Obj.mapSeq (fun x=>x.pop))).get? b=some o:=fun b o hb e=>(Heap.get?_update_other _ _ (Ne.symm hb)).trans ((Heap.get?_update_other _ _ (Ne.symm hb)).trans e)
 refine ae ⟨plainId_quiet F.plain_extend_loop _,?_⟩
 exact zIN D C ap hf hg haL hbL hzL hiL hjL hnm hsz fin n 0 _ s.toks #[] _ (Nat.zero_add _) (zs.mono D C ap hf hg haL hbL hzL els) hL2 ⟨rfl,(fun t v e=>by simp at e),fun t t' v e=>by simp at e⟩ fun d o _ _ _ _ d5 e=>els d o d5 e
end
open PySem
section
variable{prog:Program}{w:World}{A:Around}{E:Value->Shared->Prop}{s:Shared}{z a b i j:Addr}{f g:List Addr}{n m k:Nat}{P R:Nat->Value->Prop}{S U:Nat->Heap->Prop}
structure ZNew(z a b i j:Addr)(f g:List Addr)(S U:Nat->Heap->Prop)(h:Heap):Prop where
 zp:IsZip h z a b .none
 pr:IsPair h a (.ref i) (.ref j)
 bp:∃p q,IsPair h b p q
 s:S 0 h
 u:U 0 h
 ff:∀c∈f,c<h.objs.size
 gg:∀c∈g,c<h.objs.size
 li:i<h.objs.size
 lj:j<h.objs.size
theorem zJ0{Rr:Result->Shared->Prop}(D:Draws prog w A.in1.in1 i f n P S)(C:Draws prog w A.in1.in1 j g m R U)(ap:Ap z a b i j f g)(hnm:n=m)(hsz:n<sizeLine)(zn:ZNew z a b i j f g S U s.heap)(fin:∀h' tk acc L c,s.heap.objs.size<=L->(∀d o,d≠z->d≠b->d≠i->d≠j->s.heap.get? d=some o->h'.get? d=some o)->h'.get? L=some (lO acc c)->Got h' 0 z b i j L P R acc n->Rr (.ok (.ret (.ref L))) { s with heap:=h',toks:=tk }):codeAny (model prog w) A (Code.builtin "proto.collect" { pos:=[.ref z] }) Rr s:=by
 refine codeAny_builtin F.entry_proto_collect ?_
 rw[Around.under_plainId F.plain_proto_collect _]
 show wpAny _ A.in1 (newList [] >>= _) _ _ _
 refine aa (wpAny_newList ?_)
 refine ae ⟨plainId_quiet F.plain_list_iadd _,codeAny_builtin F.entry_list_iadd ?_⟩
 rw[Around.under_plainId F.plain_list_iadd _]
 show wpAny _ A.in1 (Builtin.List.listExtendWith (.ref s.heap.objs.size) (.ref z) (.ref s.heap.objs.size)) _ _ _
 have up:∀c o,s.heap.get? c=some o->(s.heap.push (lO #[] 0)).get? c=some o:=fun c o e=>ad _ e
 have lz:z<s.heap.objs.size:=af zn.zp
 have la:a<s.heap.objs.size:=af zn.pr
 obtain⟨p,q,bp⟩:=zn.bp
 have lb:b<s.heap.objs.size:=af bp
 have zs:ZS z a b i j s.heap.objs.size S U 0 (s.heap.push (lO #[] 0)):=⟨up _ _ zn.pr,D.frame _ _ _ zn.s fun c _ o e=>up c o e,C.frame _ _ _ zn.u fun c _ o e=>up c o e,⟨_,up _ _ bp⟩,.inl ⟨up _ _ zn.zp,p,q,up _ _ bp⟩⟩
 refine zMY (s:={ s with heap:=s.heap.push (lO #[] 0) }) D C ap (fun h=>Nat.lt_irrefl _ (zn.ff _ h)) (fun h=>Nat.lt_irrefl _ (zn.gg _ h)) (ar la) (ar lb) (ar lz) (ar zn.li) (ar zn.lj) hnm hsz zs (up _ _ zn.zp) (ah _ rfl) fun h' tk acc c kp hL got=>?_
 exact fin h' tk acc _ c (al _) (fun d o d1 d2 d3 d4 e=>kp d o d1 d2 d3 d4 (ar (af e)) (up d o e)) hL got
theorem WP{Q:List Value->Shared->Prop}(D:Draws prog w A.in1.in1 i f n P S)(C:Draws prog w A.in1.in1 j g m R U)(ap:Ap z a b i j f g)(hnm:n=m)(hsz:n<sizeLine)(zn:ZNew z a b i j f g S U s.heap)(fin:∀h' tk acc L,s.heap.objs.size<=L->L<h'.objs.size->(∀d o,d≠z->d≠b->d≠i->d≠j->s.heap.get? d=some o->h'.get? d=some o)->Got h' 0 z b i j L P R acc n->Q acc.toList { s with heap:=h',toks:=tk }):wpAny (model prog w) A (collect (.ref z)) Q E s:=by
 unfold collect
 refine aa (wpAny_runValue (zJ0 D C ap hnm hsz zn fun h' tk acc L c lo kp hL got=>?_))
 refine aa (wpAny_load hL ?_)
 exact ae (fin h' tk acc L lo (af hL) kp got)
end
section
variable{z a b i j l1 l2:Addr}{xs ys:Array Value}
noncomputable abbrev SL(i l:Addr)(ys:Array Value)(k:Nat)(h:Heap):Prop:=Heap.IsListIter h i l k/\∃o,h.get? l=some o/\o.cls=.type "list" /\ ∃n,o.data=.seq ys n
theorem WO(hsz:xs.size<sizeLine)(hnm:xs.size=ys.size)(hi:l1≠i)(hj:l2≠j)(ap:Ap z a b i j [i,l1] [j,l2]):Meets (Builtin.«tuple.__new__» ⟨[.type "tuple",.ref z],[]⟩) (fun A R s=>A.handled=none/\ZNew z a b i j [i,l1] [j,l2] (SL i l1 xs) (SL j l2 ys) s.heap /\
  ∀h' tk acc L,s.heap.objs.size<=L->L<h'.objs.size->(∀d o,d≠z->d≠b->d≠i->d≠j->s.heap.get? d=some o->h'.get? d=some o)->Got h' 0 z b i j L (fun k v=>xs[k]?=some v) (fun k v=>ys[k]?=some v) acc xs.size->R (.ok (.ret (.ref h'.objs.size))) { s with heap:=h'.push { cls:=.type "tuple",data:=.seq acc },toks:=tk }):=
 .of_wp fun prog w A R s h=>by
  obtain⟨hh,zn,fin⟩:=h
  have hty:s.TypeIs (.ref z) "zip" := ⟨_,zn.zp,rfl⟩
  have D:=(DD.dw_list []).dr (prog:=prog) (w:=w) (A:=A.in1.in1.in1) hh i l1 hi xs
  have C:=(DD.dw_list []).dr (prog:=prog) (w:=w) (A:=A.in1.in1.in1) hh j l2 hj ys
  have hsub:isSubtype (.type "tuple") (.type "tuple")=pure true:=by rw[isSubtype_type];kernel_rfl
  unfold Builtin.«tuple.__new__»
  dsimp only
  refine aa (wpAny_of_eq (a:=true) (by first|rfl|kernel_rfl) ?_)
  simp only[Bool.not_true,Bool.false_eq_true,if_false]
  refine aa (wpAny_of_eq hsub ?_)
  simp only[Bool.not_true,Bool.false_eq_true,if_false]
  rw[if_neg (by decide +kernel)]
  refine aa (wpAny_of_eq (a:=()) (by first|rfl|kernel_rfl) ?_)
  refine aa (wpAny_of_eq F.called_tuple.init.lookup ?_)
  rw[if_pos (by rfl)]
  refine aa (wpAny_of_eq (a:=()) (by first|rfl|kernel_rfl) ?_)
  refine aa (wpAny_of_eq (a:=()) (by first|rfl|kernel_rfl) ?_)
  rw[if_pos (by rfl)]
  refine aa ?_
  unfold Builtin.Tuple.tupleIsExact
  refine aa (wpAny_typeOf hty (ae ?_))
  rw[if_neg (by decide)]
  refine aa (WP D C ap hnm hsz zn fun h' tk acc L lo lo2 kp got=>?_)
  refine aa (ae ?_)
  (unfold Builtin.Tuple.tupleExact)
  rw[Array.toArray_toList]
  refine aa (wpAny_newObj_type ?_ ?_)
  ·exact ae ⟨_,rfl,fin h' tk acc L lo lo2 kp got⟩
  ·show acc.size<=sizeLine
   rw[got.sz];exact Nat.le_of_lt hsz
theorem r8{prog:Program}{w:World}{A:Around}{E:Value->Shared->Prop}{s:Shared}{Q:Value->Shared->Prop}(hh:A.handled=none)(hsz:xs.size<sizeLine)(hnm:xs.size=ys.size)(hi:l1≠i)(hj:l2≠j)(ap:Ap z a b i j [i,l1] [j,l2])(zn:ZNew z a b i j [i,l1] [j,l2] (SL i l1 xs) (SL j l2 ys) s.heap)(fin:∀h' tk acc L,s.heap.objs.size<=L->L<h'.objs.size->(∀d o,d≠z->d≠b->d≠i->d≠j->s.heap.get? d=some o->h'.get? d=some o)->Got h' 0 z b i j L (fun k v=>xs[k]?=some v) (fun k v=>ys[k]?=some v) acc xs.size->Q (.ref h'.objs.size) { s with heap:=h'.push { cls:=.type "tuple",data:=.seq acc },toks:=tk }):wpAny (model prog w) A (call (.type "tuple") [.ref z]) Q E s:=
 callType_new F.called_tuple (by decide) (F.typeCall_tuple_1 _) (F.newCall_tuple_1 _) (fun obj=>F.args_object_init_2 obj _) F.entry_tuple_new (WO hsz hnm hi hj ap) ⟨hh,zn,fun h' tk acc L lo lo2 kp got=>⟨⟨_,ah _ rfl,rfl⟩,fin h' tk acc L lo lo2 kp got⟩⟩
theorem nm2{x u v:Addr}(h1:x≠u)(h2:x≠v):x∉[u,v]:=fun q=>by
 rcases List.mem_cons.mp q with q|q
 ·exact h1 q
 ·exact h2 (List.mem_singleton.mp q)
theorem lt2{x u v:Nat}{l:List Nat}(hl:l=[u,v])(h1:u<x)(h2:v<x):∀c∈l,c<x:=fun c q=>by
 subst hl
 rcases List.mem_cons.mp q with q|q
 ·rw[q];exact h1
 ·rw[List.mem_singleton.mp q];exact h2
theorem zip_tuple{prog:Program}{w:World}{A:Around}{E:Value->Shared->Prop}{s:Shared}{Q:Value->Shared->Prop}(hh:A.handled=none)(h1:s.heap.IsList l1 xs)(h2:s.heap.IsList l2 ys)(hsz:xs.size<sizeLine)(hnm:xs.size=ys.size)(fin:∀(h':Heap) (tk:Nat) (acc:Array Value),s.heap.objs.size<=h'.objs.size->(∀d o,s.heap.get? d=some o->h'.get? d=some o)->acc.size=xs.size->(∀(t:Nat) v,acc[t]?=some v->∃T x y,v=.ref T/\s.heap.objs.size<=T/\IsPair h' T x y/\xs[t]?=some x/\ys[t]?=some y)->(∀(t t':Nat) v,acc[t]?=some v->acc[t']?=some v->t=t')->Q (.ref h'.objs.size) { s with heap:=h'.push { cls:=.type "tuple",data:=.seq acc },toks:=tk }):wpAny (model prog w) A (call (.type "zip") [.ref l1,.ref l2]) (fun v s1=>wpAny (model prog w) A (call (.type "tuple") [v]) Q E s1) E s:=by
 have lt1:l1<s.heap.objs.size:=by obtain⟨o,ho,_⟩:=id h1;exact af ho
 have lt2:l2<s.heap.objs.size:=by obtain⟨o,ho,_⟩:=id h2;exact af ho
 refine call_zip_2 h1 h2 fun h' z1 z2 z3 z4 z5 sz kp=>?_
 have e1:h'.IsList l1 xs:=h1.at fun o e=>kp _ _ e
 have e2:h'.IsList l2 ys:=h2.at fun o e=>kp _ _ e
 obtain⟨o1,p1,c1,n1,d1⟩:=id e1
 obtain⟨o2,p2,c2,n2,d2⟩:=id e2
 have L:∀(x y:Nat),x<y->(x:Addr)≠y:=fun x y h=>ar h
 have G:∀(x y:Nat),y<x->(x:Addr)≠y:=fun x y h=>Nat.ne_of_gt h
 generalize hN:s.heap.objs.size=N at *
 have N1:@LT.lt Nat _ l1 N:=lt1
 have N2:@LT.lt Nat _ l2 N:=lt2
 refine r8 (s:={ s with heap:=h' }) (i:=N) (j:=N+1) (a:=N+2) (b:=N+3) hh hsz hnm (L _ _ N1) (L _ _ (Nat.lt_succ_of_lt N2)) ⟨L _ _ (by omega),L _ _ (by omega),L _ _ (by omega),L _ _ (by omega),L _ _ (by omega),G _ _ (by omega),G _ _ (by omega),G _ _ (by omega),G _ _ (by omega),L _ _ (by omega),nm2 (G _ _ (by omega)) (G _ _ (by omega)),nm2 (G _ _ (by omega)) (G _ _ (by omega)),nm2 (G _ _ (by omega)) (G _ _ (by omega)),nm2 (G _ _ (by omega)) (G _ _ (by omega)),nm2 (G _ _ (by omega)) (G _ _ (by omega)),nm2 (L _ _ (by omega)) (G _ _ (by omega))⟩
  ⟨z1,z2,⟨_,_,z3⟩,⟨z4,o1,p1,c1,n1,d1⟩,⟨z5,o2,p2,c2,n2,d2⟩,ZZ.lt2 rfl (by show N<h'.objs.size;rw[sz];omega) (by show @LT.lt Nat _ l1 h'.objs.size;rw[sz];exact au N1 (Nat.le_add_right _ _)),ZZ.lt2 rfl (by show N+1<h'.objs.size;rw[sz];omega) (by show @LT.lt Nat _ l2 h'.objs.size;rw[sz];exact au N2 (Nat.le_add_right _ _)),by show N<h'.objs.size;rw[sz];omega,by show N+1<h'.objs.size;rw[sz];omega⟩ fun g' tk acc L' lo lo2 kp2 got=>?_
 have lo':@LE.le Nat _ (N+5) L':=sz ▸ lo
 have lo3:@LT.lt Nat _ L' g'.objs.size:=lo2
 refine fin g' tk acc (by show @LE.le Nat _ N g'.objs.size;omega) (fun d o e=>?_) got.sz (fun t v e=>?_) got.inj
 ·have ld:@LT.lt Nat _ d N:=hN ▸ af e
  exact kp2 d o (L _ _ (by omega)) (L _ _ (by omega)) (L _ _ (by omega)) (L _ _ (by omega)) (kp d o e)
 ·obtain⟨T,x,y,q1,q2,q3,q4,_,_,_,_,q5⟩:=got.at_ t v e
  have q5':@LT.lt Nat _ L' T:=q5
  exact⟨T,x,y,q1,by show @LE.le Nat _ N T;omega,q2,q3,q4⟩
end
end ZZ
namespace DD
open PySem PySem.Spec PyProof.Rows L2 PySem.W
noncomputable def XO(ps:List (Addr×HO))(H:Hp):Hp:=fun b=>match ps.find? fun p=>decide (p.1=b) with
 |some p=>some p.2
 |none=>H b
theorem zDP{ps:List (Addr×HO)}{H:Hp}{b:Addr}{o:HO}(h:XO ps H b=some o):(∃p∈ps,p.1=b/\p.2=o)\/((∀p∈ps,p.1≠b)/\H b=some o):=by
 unfold XO at h
 split at h
 ·rename_i p hp
  cases h
  exact .inl ⟨p,List.mem_of_find?_eq_some hp,by have:=List.find?_some hp;simpa using this,rfl⟩
 ·rename_i hp
  exact .inr ⟨fun p hm e=>by have:=List.find?_eq_none.mp hp p hm;simp[e] at this,h⟩
theorem pS{ps:List (Addr×HO)}{H:Hp}{b:Addr}(h:∀p∈ps,p.1≠b):XO ps H b=H b:=by
 unfold XO
 rw[List.find?_eq_none.mpr fun p hp=>by simp[h p hp]]
theorem pT{H:Hp}:∀{ps:List (Addr×HO)} {p:Addr×HO},p∈ps->(ps.map (·.1)).Nodup->XO ps H p.1=some p.2
 |q::ps,p,h,hn=>by
  rw[ao,List.nodup_cons] at hn
  unfold XO
  rw[List.find?_cons]
  rcases List.mem_cons.mp h with rfl|h
  ·simp
  ·have ne:q.1≠p.1:=fun z=>hn.1 (z ▸ List.mem_map.mpr ⟨p,h,rfl⟩)
   rw[decide_eq_false ne]
   exact pT h hn.2
section
variable{X:Cx}{pins:List (Addr×Obj)}{σ:St}{H:Hp}{s:Shared}{h':Heap}{t':Nat}{ps:List (Addr×HO)}
theorem JH(I:Inv X pins σ H s)(k:∀b u,s.heap.get? b=some u->h'.get? b=some u)(hn:∀p∈ps,s.heap.objs.size<=p.1)(new:∀p∈ps,ObjOk X.prog X.w (XO ps H) h' p.1 p.2):Inv X pins σ (XO ps H) { s with heap:=h',toks:=t' }:=by
 have old:∀b,b<s.heap.objs.size->XO ps H b=H b:=fun b hb=>pS fun p hp e=>absurd (hn p hp) (by rw[e];exact Nat.not_le_of_lt hb)
 have keepH:∀b o,H b=some o->XO ps H b=some o:=fun b o e=>by rw[old b (I.hok.lt e)];exact e
 refine I.un ⟨fun b u q _ _ _=>k b u q,fun b u q _ _ _=>⟨u.slots,k b u q⟩,fun b u q n _=>by rw[old b (af q)];exact n,fun b u q _=>⟨u,k b u q⟩,fun b xs q=>keepH _ _ q,fun b u xs q=>keepH _ _ q,fun b ps' q=>⟨#[],by rw[keepH _ _ q];simp⟩⟩ fun a o e=>?_
 rcases zDP e with⟨p,hp,rfl,rfl⟩|⟨_,e⟩
 ·exact new p hp
 ·exact(I.hok a o e).stay (fun c v _ q=>k c v q) (fun c q=>by rw[keepH _ _ q]) (fun c xs q=>keepH _ _ q) fun c o u q=>keepH _ _ q
theorem Z1(I:Inv X pins σ H s)(hn:∀p∈ps,s.heap.objs.size<=p.1):Same H (XO ps H):=fun b o e=>by
 rw[pS fun p hp z=>absurd (hn p hp) (by rw[z];exact Nat.not_le_of_lt (I.hok.lt e))];exact e
end
theorem YY{K:Fg}{O:Addr->Prop}{H:Hp}:∀{l m:List D} {xs ys:List V} {Ts:List Addr},Ts.length=l.length->l.length=m.length->IsL K O H l xs->IsL K O H m ys->(∀(t:Nat) T x y,Ts[t]?=some T->xs[t]?=some x->ys[t]?=some y->SqT K H T [x,y])->IsL K O H (mS l m) (Ts.map V.ref)
 |[],[],xs,ys,[],_,_,_,_,_=>IsL.nil
 |d::l,e::m,xs,ys,T::Ts,h1,h2,il,im,h=>by
  unfold IsL at il im
  obtain⟨x,xs,rfl,ix,il⟩:=il
  obtain⟨y,ys,rfl,iy,im⟩:=im
  refine IsL.cons ?_ (YY (by simpa using h1) (by simpa using h2) il im fun t T x y e1 e2 e3=>h (t+1) T x y (by simpa using e1) (by simpa using e2) (by simpa using e3))
  rw[Is.tup_iff]
  exact⟨T,[x,y],rfl,h 0 T x y rfl rfl rfl,.cons ix (.cons iy .nil)⟩
 |[],_::_,_,_,_,_,h,_,_,_=>by cases h
 |_::_,[],_,_,_,_,h,_,_,_=>by cases h
 |[],[],_,_,_::_,h,_,_,_,_=>by cases h
 |_::_,_::_,_,_,[],h,_,_,_,_=>by cases h
theorem Y6:∀(acc:List Value),(∀(t:Nat) v,acc[t]?=some v->∃T,v=.ref T)->∃Ts:List Addr,acc=Ts.map Value.ref
 |[],_=>⟨[],rfl⟩
 |v::acc,h=>by
  obtain⟨T,rfl⟩:=h 0 v rfl
  obtain⟨Ts,rfl⟩:=Y6 acc fun t v e=>h (t+1) v (by simpa using e)
  exact⟨T::Ts,rfl⟩
theorem dW:∀(Ts:List Addr),Vals (Ts.map V.ref) (Ts.map Value.ref)
 |[]=>.nil
 |T::Ts=>.cons rfl (dW Ts)
noncomputable def zDK(f g:ME):ME:=fun r=>(f r).bind fun x=>(g r).bind fun y=>match x,y with
 |.lst l,.lst m=>if l.length=m.length/\l.length<1000 then some (.tup (mS l m)) else none
 |_,_=>none
theorem kO{α:Type}:∀{l:List α},(∀(t t':Nat) v,l[t]?=some v->l[t']?=some v->t=t')->l.Nodup
 |[],_=>List.nodup_nil
 |a::l,h=>by
  rw[List.nodup_cons]
  refine⟨fun z=>?_,kO fun t t' v e e'=>by have:=h (t+1) (t'+1) v (by simpa using e) (by simpa using e');omega⟩
  obtain⟨t,ht⟩:=List.getElem?_of_mem z
  have:=h 0 (t+1) a rfl (by simpa using ht)
  omega
section
variable{X:Cx}{a b:Expr}{f g:ME}{p1 p2 pos pos2:Pos}
theorem YJ(hc:X.calm=true)(hg1:Gl X "tuple")(hm1:X.mg "tuple" = none)(hg2:Gl X "zip")(hm2:X.mg "zip" = none)(ha:DE X a f)(hb:DE X b g)(hs:starEach [a,b] X.env=[(false,eval a X.env),(false,eval b X.env)]:=by rfl)(hs2:starEach [b] X.env=[(false,eval b X.env)]:=by rfl)(hs3:starEach [.Call (.Name "zip" p2) [a,b] [] pos2] X.env=[(false,eval (.Call (.Name "zip" p2) [a,b] [] pos2) X.env)]:=by rfl):DE X (.Call (.Name "tuple" p1) [.Call (.Name "zip" p2) [a,b] [] pos2] [] pos) (zDK f g):=by
 intro pins s σ H Q I hq
 obtain⟨O0,r,d,hR,e,q⟩:=hq
 obtain⟨x,e1,e⟩:=bind_some e
 obtain⟨y,e2,e⟩:=bind_some e
 obtain⟨l,m,rfl,rfl,hlm,rfl⟩:∃l m,x=.lst l/\y=.lst m/\(l.length=m.length/\l.length<1000)/\d=.tup (mS l m):=by
  clear e1 e2
  revert e
  split
  ·rename_i l m
   intro e
   by_cases h:l.length=m.length/\l.length<1000
   ·rw[if_pos h] at e;cases e;exact⟨l,m,rfl,rfl,h,rfl⟩
   ·rw[if_neg h] at e;cases e
  ·intro e;cases e
 have hA:PA X [a,b] (cR (lE X.K f) (cR (lE X.K g) zAP)):=zX ha (zX hb y0 (by rw[hs2];rfl)) (by rw[hs,hs2])
 have inner:wpAny (model X.prog X.w) X.A (eval (.Call (.Name "zip" p2) [a,b] [] pos2) X.env) (fun v s1=>wpAny (model X.prog X.w) X.A (call (.type "tuple") [v]) (EP X pins σ Q) X.xe s1) X.xe s:=by
  refine Call_ (jN I hg2 hm2 PyProof.Rows.boot_zip (PyProof.Rows.callWith_type1 (thn (hA pos2 pins s σ H (z2 fun x y H1=>∃u v xs ys,x=.ref u/\y=.ref v/\Same H H1/\SqL X.K H1 u xs/\SqL X.K H1 v ys/\IsL X.K (Ow O0 r σ) H1 l xs/\IsL X.K (Ow O0 r σ) H1 m ys) I ⟨O0,r,.lst l,hR,e1,fun v1 H1 s1 i1=>⟨O0,r,.lst m,hR.same s1,e2,fun v2 H2 s2 i2=>?_⟩⟩) fun us s1 ⟨vs,H1,I1,r1,q1⟩=>?_) (by rw[hs,hs2]) (by rw[hs2];rfl)))
  ·have i1':=i1.same s2 (hR.same s1).ol
   rw[Is.lst_iff] at i1' i2
   obtain⟨u,xs,rfl,hx,il⟩:=i1'
   obtain⟨v,ys,rfl,hy,im⟩:=i2
   exact⟨u,v,xs,ys,rfl,rfl,s1.trans s2,hx.sq,hy.sq,il,im⟩
  ·obtain⟨_,_,rfl,u,v,xs,ys,rfl,rfl,s1',hx,hy,il,im⟩:=zAX q1
   cases r1 with
   |cons a1 r1=>cases r1 with
    |cons a2 r1=>
     cases r1
     cases a1
     cases a2
     obtain⟨its,rv,pl,hz⟩:=I1.list hx
     obtain⟨its2,rv2,pl2,hz2⟩:=I1.list hy
     have lx:=il.length
     have ly:=im.length
     have l1:=rv.length
     have l2:=rv2.length
     have big:1000<sizeLine:=by decide
     refine ZZ.zip_tuple (I.ok.hd hc) pl.isList pl2.isList (by rw[ag];omega) (by rw[ag,ag];omega) fun h' tk acc sF kp sz at_ inj=>?_
     obtain⟨Ts,hTs⟩:=Y6 acc.toList fun t w e=>by
      obtain⟨T,x,y,rfl,_⟩:=at_ t w (by rw[<-Array.getElem?_toList];exact e)
      exact⟨T,rfl⟩
     have tl:Ts.length=l.length:=by
      have:=congrArg List.length hTs
      rw[ay,Array.length_toList,sz,ag] at this
      omega
     have tat:∀(t:Nat) T,Ts[t]?=some T->s1.heap.objs.size<=T/\∃x y,IsPair h' T x y/\its[t]?=some x/\its2[t]?=some y:=fun t T e=>by
      obtain⟨T',x,y,e1,e2,e3,e4,e5⟩:=at_ t (.ref T) (by rw[<-Array.getElem?_toList,hTs,ba,e];rfl)
      cases e1
      exact⟨e2,x,y,e3,by simpa using e4,by simpa using e5⟩
     have tn:Ts.Nodup:=kO fun t t' T e e'=>inj t t' (.ref T) (by rw[<-Array.getElem?_toList,hTs,ba,e];rfl) (by rw[<-Array.getElem?_toList,hTs,ba,e'];rfl)
     let ps0:List (Addr×HO):=List.zip Ts (List.zipWith (fun x y=>HO.tup [x,y]) xs ys)
     let Fa:Addr:=h'.objs.size
     let ps:List (Addr×HO):=ps0++[(Fa,.tup (Ts.map V.ref))]
     have p0:∀p∈ps0,∃(t:Nat) (x y:V),Ts[t]?=some p.1/\xs[t]?=some x/\ys[t]?=some y/\p.2=.tup [x,y]:=fun p hp=>by
      obtain⟨t,ht⟩:=List.getElem?_of_mem hp
      have:=List.getElem?_zip_eq_some.mp ht
      have q2:=this.2
      rw[List.getElem?_zipWith] at q2
      cases ex:xs[t]? with
      |none=>rw[ex] at q2;cases q2
      |some x=>
       cases ey:ys[t]? with
       |none=>rw[ex,ey] at q2;cases q2
       |some y=>
        rw[ex,ey] at q2
        exact⟨t,x,y,this.1,ex,ey,(aq q2).symm⟩
     have m0:ps0.map (·.1)=Ts:=by
      show(List.zip Ts _).map Prod.fst=Ts
      rw[List.map_fst_zip]
      rw[List.length_zipWith];omega
     have lF:∀T∈Ts,T<h'.objs.size:=fun T hT=>by
      obtain⟨t,ht⟩:=List.getElem?_of_mem hT
      obtain⟨_,x,y,e3,_⟩:=tat t T ht
      exact af e3
     have nd:(ps.map (·.1)).Nodup:=by
      show((ps0++[(Fa,HO.tup (Ts.map V.ref))]).map (·.1)).Nodup
      rw[List.map_append,m0]
      refine List.nodup_append.mpr ⟨tn,List.nodup_cons.mpr ⟨(fun z=>by cases z),List.nodup_nil⟩,fun x hx y hy=>?_⟩
      rw[List.mem_singleton.mp hy]
      exact ar (lF x hx)
     have hn:∀p∈ps,s1.heap.objs.size<=p.1:=fun p hp=>by
      rcases List.mem_append.mp hp with z|z
      ·obtain⟨t,x,y,e1,_⟩:=p0 p z
       exact(tat t _ e1).1
      ·rw[List.mem_singleton.mp z];exact sF
     let h2:Heap:=h'.push { cls:=.type "tuple",data:=.seq acc }
     have up:∀b o,h'.get? b=some o->h2.get? b=some o:=fun b o e=>ad _ e
     have I2:Inv X pins σ (XO ps H1) { s1 with heap:=h2,toks:=tk }:=JH I1 (fun b o e=>up b o (kp b o e)) hn fun p hp=>by
      rcases List.mem_append.mp hp with z|z
      ·obtain⟨t,x,y,e1,e2,e3,e4⟩:=p0 p z
       obtain⟨_,vx,vy,i3,i4,i5⟩:=tat t _ e1
       rw[e4]
       obtain⟨wx,q1,q2⟩:=rv.get e2
       obtain⟨wy,q3,q4⟩:=rv2.get e3
       rw[i4] at q1;cases q1
       rw[i5] at q3;cases q3
       exact⟨by show 2<=sizeLine;decide,[vx,vy],.cons q2 (.cons q4 .nil),_,up _ _ i3,rfl,_,rfl⟩
      ·rw[List.mem_singleton.mp z]
       exact⟨by rw[ay];omega,Ts.map Value.ref,dW Ts,_,ah _ rfl,rfl,_,by show Data.seq acc _=_;rw[<-hTs]⟩
     have sm:Same H1 (XO ps H1):=Z1 I1 hn
     refine⟨.ref Fa,XO ps H1,I2,rfl,q _ _ (s1'.trans sm) ?_⟩
     have ol:=(hR.same s1').ol
     rw[Is.tup_iff]
     refine⟨Fa,Ts.map V.ref,rfl,SqT.of (pT (p:=(Fa,HO.tup (Ts.map V.ref))) (by simp[ps]) nd),YY tl hlm.1 (il.same sm ol) (im.same sm ol) fun t T x y e1 e2 e3=>SqT.of ?_⟩
     have hp:(T,HO.tup [x,y])∈ps:=by
      refine List.mem_append_left _ (List.mem_of_getElem? (i:=t) ?_)
      show(List.zip Ts _)[t]?=_
      exact List.getElem?_zip_eq_some.mpr ⟨e1,by rw[List.getElem?_zipWith,e2,e3]⟩
     exact pT hp nd
 refine Call_ (jN I hg1 hm1 PyProof.Rows.boot_tuple (PyProof.Rows.callWith_type1 ?_ hs3 rfl))
 rw[hs3]
 show wpAny _ _ (spliced ((false,eval (.Call (.Name "zip" p2) [a,b] [] pos2) X.env)::backTo pos [])) _ _ s
 exact Calls.spliced_cons (thn inner fun v s1 h1=>Calls.spliced_nil h1)
end
variable{X:Cx}{k o:Expr}{pos:Pos}{g:ME}{fd:MD}
noncomputable def zFV(neg:Bool)(fk:ME)(fd:MD):ME:=fun r=>(zDL neg fk fd r).map D.bl
theorem n9(hk:DE X k g)(ho:DDc X o fd)(hm:behindInMarks .NotIn o=false:=by rfl):DE X (.Compare k [.NotIn] [o] pos) (zFV true g fd):=by
 refine PE.conseq (zG2 (t:=fun σ H Q=>lE X.K g σ H fun y H1=>lDc X.K fd σ H1 fun x H2=>∃c kvs j,x=.ref c/\Rd H2 c (.dK kvs)/\y=vO j/\Q (.bl (!(valO kvs j).isSome)) H2) ?_ hm) fun σ H Q hq=>?_
 ·intro pins s σ H Q I h
  refine thn (hk pins s σ H _ I h) fun iv s1 ⟨y,H1,I1,ry,q1⟩=>thn (ho pins s1 σ H1 _ I1 q1) fun u s2 ⟨x,H2,I2,rx,c,kvs,j,ex,rd,ey,q2⟩=>?_
  subst ex ey
  obtain rfl:u=Value.ref c:=rx
  exact zC1 I2 rd ry fun s3 I3=>⟨.bl (!(valO kvs j).isSome),H2,I3,rfl,q2⟩
 ·obtain⟨O0,r,t,hR,e,q⟩:=hq
  obtain⟨b,e0,rfl⟩:=map_some e;clear e
  obtain⟨kd,e1,e⟩:=bind_some e0
  obtain⟨⟨ks,l⟩,e2,e⟩:=bind_some e
  obtain⟨j,e3,rfl⟩:=map_some e
  refine⟨O0,r,kd,hR,e1,fun y H1 s1 iy=>⟨O0,r,ks,l,hR.same s1,e2,fun c kvs H2 s2 rd ek il=>⟨c,kvs,j,rfl,rd,XQ e3 iy,?_⟩⟩⟩
  subst ek
  have q':=q (.bl (!(valO kvs j).isSome)) H2 (s1.trans s2)
  rcases pR j il with⟨dd,v,p1,p2,p3⟩|⟨p1,p2⟩
  ·rw[p1] at q';rw[p2];rw[p2] at q';exact q' rfl
  ·rw[p1] at q';rw[p2];rw[p2] at q';exact q' rfl
namespace MX
section
variable{prog:Program}{w:World}{A:Around}{E:Value->Shared->Prop}{s:Shared}
noncomputable def it2(a b:Str)(t u:Tok):Array Value:=#[.str a t,.str b u]
noncomputable def at2(a b:Str)(i:Nat):Str:=if i=0 then a else b
theorem zH1{a b:Str}{t u:Tok}{i:Nat}{v:Value}(h:(it2 a b t u)[i]?=some v):∃t',v=.str (at2 a b i) t':=by
 unfold it2 at h
 match i,h with
 |0,h=>cases h;exact⟨t,rfl⟩
 |1,h=>cases h;exact⟨u,rfl⟩
 |i+2,h=>simp at h
theorem c_lt{P:Nat->Value->Prop}(val:Nat->Str)(hval:∀i v,P i v->∃t,v=.str (val i) t):CmpOf prog w A .Lt P (fun i j=>decide ((val i).cps.toList<(val j).cps.toList)):=fun i j vi vj s Q E hi hj h=>by
 obtain⟨t,rfl⟩:=hval i vi hi
 obtain⟨u,rfl⟩:=hval j vj hj
 exact richCompare_gives (op:=.Lt) (typeIs_str s _ t) (typeIs_str s _ u) PySem.F.slot_str_lt PySem.F.entry_str_lt (PySem.F.args_str_lt_2 _ _) (gives_str_lt _ _ t u) (fun x=>nomatch x) h
theorem c_gt{P:Nat->Value->Prop}(val:Nat->Str)(hval:∀i v,P i v->∃t,v=.str (val i) t):CmpOf prog w A .Gt P (fun i j=>decide ((val j).cps.toList<(val i).cps.toList)):=fun i j vi vj s Q E hi hj h=>by
 obtain⟨t,rfl⟩:=hval i vi hi
 obtain⟨u,rfl⟩:=hval j vj hj
 exact richCompare_gives (op:=.Gt) (typeIs_str s _ t) (typeIs_str s _ u) PySem.F.slot_str_gt PySem.F.entry_str_gt (PySem.F.args_str_gt_2 _ _) (gives_str_gt _ _ t u) (fun x=>nomatch x) h
theorem two{nm:String}{op:CmpOp}{a b:Str}{t u:Tok}{Q:Value->Shared->Prop}{bt:Nat->Nat->Bool}(hh:A.handled=none)(hc:∀{P:Nat->Value->Prop},(∀i v,P i v->∃t,v=.str (at2 a b i) t)->CmpOf prog w A.in1 op P bt)(call:∀{Q:Value->Shared->Prop},wpAny (model prog w) A.in1 (pyIter (.ref s.heap.objs.size)) (fun it s₂=>∃I fp wr n P St bt,it=.ref I/\Walks prog w A.in1 I fp wr n P St/\St 0 s₂.heap/\(∀b∈fp,b<s₂.heap.objs.size)/\0<n/\CmpOf prog w A.in1 op P bt /\
   ∀v h' tk,P (argBest bt (n-1)) v->(∀b o,b∉wr->s₂.heap.get? b=some o->h'.get? b=some o)->Q v { s₂ with heap:=h',toks:=tk }) E
   { s with heap:=s.heap.push { cls:=.type "tuple",data:=.seq #[.str a t,.str b u] } }->wpAny (model prog w) A (call (.builtin nm) [.str a t,.str b u]) Q E s)(h:∀h' tk,(∀c o,s.heap.get? c=some o->h'.get? c=some o)->Q (if bt 1 0=true then .str b u else .str a t) { s with heap:=h',toks:=tk }):wpAny (model prog w) A (PySem.call (.builtin nm) [.str a t,.str b u]) Q E s:=by
 have hT:(s.heap.push { cls:=.type "tuple",data:=.seq #[.str a t,.str b u] }).IsTuple s.heap.objs.size (it2 a b t u):=⟨_,ah _ rfl,rfl,0,rfl⟩
 have hsz:(s.heap.push { cls:=.type "tuple",data:=.seq #[.str a t,.str b u] }).objs.size=s.heap.objs.size+1:=Heap.size_push ..
 refine call (wpAny_pyIter_tuple hT ⟨_,[_,s.heap.objs.size],[_],_,_,_,bt,rfl,Walks.tuple (A:=A.in1) hh _ s.heap.objs.size (by rw[hsz];exact ar (Nat.lt_succ_self _)) (it2 a b t u),⟨⟨_,ah _ rfl,rfl,rfl⟩,hT.push _⟩,fun c hm=>?_,by show 0<2;decide,hc (fun _ _ q=>zH1 q),fun v h' tk hP hk=>?_⟩)
 ·show c<((s.heap.push _).push _).objs.size
  rw[Heap.size_push,hsz]
  rcases List.mem_cons.mp hm with rfl|hm
  ·rw[hsz];exact Nat.lt_succ_self _
  ·rw[List.mem_singleton.mp hm];exact Nat.lt_succ_of_lt (Nat.lt_succ_self _)
 ·have key:v=if bt 1 0=true then Value.str b u else .str a t:=by
   have hP':(it2 a b t u)[argBest bt 1]?=some v:=hP
   unfold argBest argBest at hP'
   by_cases q:bt 1 0=true
   ·rw[if_pos q] at hP' ⊢
    exact(aq hP').symm
   ·rw[if_neg q] at hP' ⊢
    exact(aq hP').symm
  rw[key]
  refine h h' tk fun c o e=>hk c o (fun hm=>?_) (ad _ (ad _ e))
  have l:=af e
  rw[List.mem_singleton.mp hm,hsz] at l
  exact Nat.lt_irrefl _ (Nat.lt_of_succ_lt l)
end
end MX
section
variable{X:Cx}{a b:Expr}{pos:Pos}
theorem YS(hc:X.calm=true):CallR X (.builtin "min") (fun xs H Q=>∃i j,xs=[.str i,.str j]/\Q (.str (if j.cps.toList<i.cps.toList then j else i)) H):=by
 intro pins s σ H xs us Q I r h
 obtain⟨i,j,rfl,q⟩:=h
 obtain⟨u,w',rfl,⟨t,rfl⟩,⟨t',rfl⟩⟩:=zIO r
 refine MX.two (I.ok.hd hc) (fun {P} h=>MX.c_lt _ h) call_min_two fun h' tk k=>⟨_,H,I.kept k,?_,q⟩
 show L2.RelV _ (if decide (j.cps.toList<i.cps.toList)=true then Value.str j t' else Value.str i t)
 by_cases hj:j.cps.toList<i.cps.toList
 ·rw[if_pos hj,if_pos (decide_eq_true hj)];exact⟨_,rfl⟩
 ·rw[if_neg hj,if_neg (by intro z;exact hj (of_decide_eq_true z))];exact⟨_,rfl⟩
theorem YT(hc:X.calm=true):CallR X (.builtin "max") (fun xs H Q=>∃i j,xs=[.str i,.str j]/\Q (.str (if i.cps.toList<j.cps.toList then j else i)) H):=by
 intro pins s σ H xs us Q I r h
 obtain⟨i,j,rfl,q⟩:=h
 obtain⟨u,w',rfl,⟨t,rfl⟩,⟨t',rfl⟩⟩:=zIO r
 refine MX.two (I.ok.hd hc) (fun {P} h=>MX.c_gt _ h) call_max_two fun h' tk k=>⟨_,H,I.kept k,?_,q⟩
 show L2.RelV _ (if decide (i.cps.toList<j.cps.toList)=true then Value.str j t' else Value.str i t)
 by_cases hj:i.cps.toList<j.cps.toList
 ·rw[if_pos hj,if_pos (decide_eq_true hj)];exact⟨_,rfl⟩
 ·rw[if_neg hj,if_neg (by intro z;exact hj (of_decide_eq_true z))];exact⟨_,rfl⟩
noncomputable def zFS(fs:ML):ME:=fun r=>(fs r).bind fun l=>match l with
 |[.str i,.str j]=>some (.str (if j<i then j else i))
 |_=>none
noncomputable def zFT(fs:ML):ME:=fun r=>(fs r).bind fun l=>match l with
 |[.str i,.str j]=>some (.str (if i<j then j else i))
 |_=>none
theorem zER{p':Pos}{es:List Expr}{fs:ML}(hc:X.calm=true)(hg:Gl X "min")(hm:X.mg "min" = none)(ha:DA X (a::es) fs)(hs:starEach (a::es) X.env=(false,eval a X.env)::starEach es X.env:=by rfl)(hpl:(backTo pos (starEach es X.env)).any (·.1)=false:=by rfl):DE X (.Call (.Name "min" p') (a::es) [] pos) (zFS fs):=by
 refine PE.conseq (jU (YS hc) hg hm PyProof.Rows.boot_min ha (he:=hs) (hpl:=hpl)) fun σ H Q hq=>?_
 obtain⟨O0,r,d,hR,e,q⟩:=hq
 obtain⟨l,e1,e2⟩:=bind_some e
 refine⟨O0,r,l,hR,e1,fun vs H1 s1 il=>?_⟩
 split at e2
 ·rename_i i j
  cases e2
  obtain⟨v,u,rfl,i1,i2⟩:=il.inv2
  rw[Is.str_iff] at i1 i2
  refine⟨_,_,by rw[i1,i2],q _ H1 s1 ?_⟩
  rw[Is.str_iff]
  by_cases z:j<i
  ·rw[if_pos z,if_pos (by simpa using z)]
  ·rw[if_neg z,if_neg (by simpa using z)]
 ·cases e2
theorem zES{p':Pos}{es:List Expr}{fs:ML}(hc:X.calm=true)(hg:Gl X "max")(hm:X.mg "max" = none)(ha:DA X (a::es) fs)(hs:starEach (a::es) X.env=(false,eval a X.env)::starEach es X.env:=by rfl)(hpl:(backTo pos (starEach es X.env)).any (·.1)=false:=by rfl):DE X (.Call (.Name "max" p') (a::es) [] pos) (zFT fs):=by
 refine PE.conseq (jU (YT hc) hg hm PyProof.Rows.boot_max ha (he:=hs) (hpl:=hpl)) fun σ H Q hq=>?_
 obtain⟨O0,r,d,hR,e,q⟩:=hq
 obtain⟨l,e1,e2⟩:=bind_some e
 refine⟨O0,r,l,hR,e1,fun vs H1 s1 il=>?_⟩
 split at e2
 ·rename_i i j
  cases e2
  obtain⟨v,u,rfl,i1,i2⟩:=il.inv2
  rw[Is.str_iff] at i1 i2
  refine⟨_,_,by rw[i1,i2],q _ H1 s1 ?_⟩
  rw[Is.str_iff]
  by_cases z:i<j
  ·rw[if_pos z,if_pos (by simpa using z)]
  ·rw[if_neg z,if_neg (by simpa using z)]
 ·cases e2
end
end DD
namespace K47
open PySem PySem.Spec PyProof.Rows L2 DD
noncomputable def top(i:Nat):Stmt:=PySem.Challenge.pw_fieldrows_k47_values_told.main.body.getD i (.Pass ⟨0,0,0,0⟩)
noncomputable def RF:Nat:=40
noncomputable def WF:Nat:=100000
noncomputable def xV:Nat:=200
noncomputable def b0:MS:=(kH (uA (qV [] 1 (mIt (zE 0)) (yN 0) (uX (mUn (qX "tuple") (zE 0))) (zE 0))))
noncomputable def j0:MF:=mkF 1 1 b0
noncomputable def jW:MS:=(yT (QB 1 (vX zU))
 (yT (QB 2 (vX (zD (zE 0) zU)))
 (yT (wS WF (mO (dF 2))
 (yT (J5 3 (gT 2))
 (yT (sX (rY 1 (zE 3)))
 (sX (zHO 2 (mUn zFM (yG 1 j0 (zD (zE 3) zU))))))))
 (gD 1))))
noncomputable def jC:MF:=mkF 1 4 jW
noncomputable def yX:MS:=(yT (QB 2 (vX zU))
 (yT (wT 3 (zJ jT (zE 1) (mC (.int 1))))
 (yT (tW (yN 4) (mIt (yG 1 j0 (zD (zE 0) zU)))
 (yT (sX (rY 2 (zE 3)))
 (Y4 3 (mUn gX (uA (uZ 1 jC (zD (zE 4) zU)))))))
 (gD 2))))
noncomputable def yY:MF:=mkF 2 5 yX
noncomputable def u6:MS:=(kH (mIf (uX (mUn (qX "int") (zE 0))) (mC (.str [110,117,109])) (zJ ixD (zE 0) (mC (.int 0)))))
noncomputable def xW:MF:=mkF 1 1 u6
noncomputable def jP:MS:=(yT (J6 3 (bG (zE 0)))
 (yT (tX 3 (zE 1) (zE 2))
 (zFL 3)))
noncomputable def jS:MF:=mkF 3 4 jP
noncomputable def jO:MS:=(yT (sIf (mBl (zJ eqA (yG 1 xW (zD (zE 0) zU)) (mC (.str [114,101,99]))))
 (kH (uA (vL [0] 2 (mIt (uA (cU (bG (zJ ixD (zE 0) (mC (.int 1))))))) (yN 1) (zHP (bG (zJ ixD (zE 0) (mC (.int 1)))) (zE 1)))))
 xY)
 (yT (sIf (mBl (zJ eqA (yG 1 xW (zD (zE 0) zU)) (mC (.str [111,110,101]))))
 (kH (uA (vX (zD (zJ ixD (zE 0) (mC (.int 2))) zU))))
 xY)
 (kH (uA (vX zU)))))
noncomputable def y8:MF:=mkF 1 1 jO
noncomputable def xT:MS:=(yT (sIf (mBl (zJ eqA (yG 1 xW (zD (zE 0) zU)) (mC (.str [114,101,99]))))
 (kH (xI (zD (mC (.str [114,101,99])) (zD (zDK (uA (cU (bG (zJ ixD (zE 0) (mC (.int 1)))))) (zE 1)) zU))))
 xY)
 (yT (sIf (mBl (zJ eqA (yG 1 xW (zD (zE 0) zU)) (mC (.str [111,110,101]))))
 (kH (xI (zD (mC (.str [111,110,101])) (zD (zJ ixD (zE 0) (mC (.int 1))) (zD (zJ ixD (zE 1) (mC (.int 0))) zU)))))
 xY)
 (yT (sIf (mBl (zJ eqA (yG 1 xW (zD (zE 0) zU)) (mC (.str [102,110]))))
 (kH (xI (zD (mC (.str [102,110])) zU)))
 xY)
 (kH (zE 0)))))
noncomputable def wB:MF:=mkF 2 2 xT
noncomputable def cM:MS:=(yT (QB 1 (vX zU))
 (yT (QB 2 (vX (zD (zE 0) zU)))
 (yT (wS WF (mO (dF 2))
 (yT (sX (cV 1 (gT 2)))
 (yT (sIf (mBl (zJ gtD (J9 (dF 1)) (mC (.int 200))))
 (kH (xI (zD (mC (.str [100,101,101,112])) zU)))
 xY)
 (sX (zHO 2 (mUn zFM (yG 1 y8 (zD (zJB (dF 1) (mUn zHG (mC (.int 1)))) zU))))))))
 (yT (QB 3 (vX zU))
 (yT (sZ 1 (tW (yN 4) (ZX (mZs 1))
 (sX (cV 3 (jF 2 wB (qS (zE 4) (kA (uY 3 2 (mIt (yG 1 y8 (zD (zE 4) zU))) (yN 1) (gT 0)))))))))
 (kH (zJB (dF 3) (mC (.int 0)))))))))
noncomputable def YX:MF:=mkF 1 5 cM
noncomputable def vG(m:MF):MS:=(yT (QB 3 (uZ 2 yY (zD (zE 0) (zD (zE 2) zU))))
 (yT (QB 4 (vX zU))
 (yT (tW (yN 5) (mIt (zE 0))
 (sIf (uX (mUn (qX "tuple") (zE 5)))
 (sX (cV 4 (jF 3 m (qS (zE 5) (qS (zE 1) (kA (J8 3)))))))
 (sX (rY 4 (zE 5)))))
 (kH (JA (zL1 (dF 4) (vX (zD (xI (zD (zE 1) (zD (zE 2) zU))) zU))))))))
noncomputable def wR:Nat->MF
 |0=>fun _=>none
 |k+1=>mkF 3 6 (vG (wR k))
noncomputable def wZ:MS:=(kH (zFA (zJ eqA (yG 1 xW (zD (zE 0) zU)) (mC (.str [114,101,99]))) (zFV true (zE 1) (bG (zJ ixD (zE 0) (mC (.int 1)))))))
noncomputable def xR:MF:=mkF 2 2 wZ
noncomputable def wG:MS:=(yT (J6 3 (bG (zJ ixD (zE 0) (mC (.int 1)))))
 (yT (tX 3 (zE 1) (zE 2))
 (sFz 3 (kH (xI (zD (mC (.str [114,101,99])) (zD (zE 3) zU)))))))
noncomputable def wI:MF:=mkF 3 4 wG
noncomputable def wV:MS:=(yT (sIf (mBl (zJ ltA (zE 1) (mUn gX (zE 0))))
 (kH (zJ ixD (zE 0) (zE 1)))
 xY)
 (kH (mC (.int 0))))
noncomputable def wC:MF:=mkF 2 2 wV
noncomputable def wH:MS:=(yT (wT 2 (zJ wY (zJ jT (zJ jT (zJ wY (zE 0) (mC (.int 2147483647))) (zJ zC4 (mC (.int 16807)) (zE 1))) (mC (.int 7))) (mC (.int 2147483629))))
 (yT (wT 2 (zJ wY (zJ zC4 (zE 2) (zE 2)) (mC (.int 2147483587))))
 (kH (zJ wJ (zJ wY (zJ zC4 (zE 2) (zJ jT (zE 2) (mC (.int 48271)))) (mC (.int 2147483579))) (mC (.int 5))))))
noncomputable def yL:MF:=mkF 2 3 wH
noncomputable def yV(m:MF):MS:=(yT (sIf (zL0 (uX (mUn (qX "tuple") (zE 1))) (uX (mUn (qX "list") (zE 1))))
 (yT (sIf (zL0 (mBl (zJ neA (mUn (qX "tuple") (zE 0)) (mUn (qX "tuple") (zE 1)))) (mBl (zJ neA (mUn (qX "list") (zE 0)) (mUn (qX "list") (zE 1)))))
 (kH (mC (.bl false)))
 xY)
 (yT (sIf (mBl (zJ neA (mUn gX (zE 0)) (mUn gX (zE 1))))
 (kH (mC (.bl false)))
 xY)
 (yT (tW (qZ 2 (yE (yN 2) (yE (yN 3) jG))) (zDJ (zE 0) (zE 1))
 (sIf (XM (uX (yG 2 m (zD (zE 2) (zD (zE 3) zU)))))
 (kH (mC (.bl false)))
 xY))
 (kH (mC (.bl true))))))
 xY)
 (yT (sIf (uX (mUn (qX "int") (zE 1)))
 (kH (zFA (mUn (qX "int") (zE 0)) (zFA (mUn zMN (mUn (qX "bool") (zE 0))) (zJ eqA (zE 0) (zE 1)))))
 xY)
 (kH (zFA (mUn (qX "str") (zE 0)) (zJ eqA (zE 0) (zE 1))))))
noncomputable def yD:Nat->MF
 |0=>fun _=>none
 |k+1=>mkF 2 4 (yV (yD k))
noncomputable def x2:MS:=(yT (wT 1 (zFU (mC (.str [])) (vL [0] 2 (XL (zJ wY (zE 0) (mC (.int 8)))) (yN 1) (zJ ixD (mC (.str [113,120,122,106,118,107,97,101,105,109])) (zJ wY (yG 2 yL (zD (zE 0) (zD (zJ jT (mC (.int 30)) (zE 1)) zU))) (mC (.int 10)))))))
 (yT (wT 2 (zJ wY (zJ wJ (zE 0) (mC (.int 8))) (zJ jT (mUn gX (zE 1)) (mC (.int 1)))))
 (kH (uA (vL [1,2] 3 (XL (mC (.int 5))) (yN 2) (zJ jT (zJ jT (mSl (zE 0) XH (uT (zE 1))) (zJ ixD (mC (.str [119,114,121,115,117])) (zE 2))) (mSl (zE 0) (uT (zE 1)) XH)))))))
noncomputable def qP:MF:=mkF 1 3 x2
noncomputable def w6:MS:=(yT (QB 1 (vX zU))
 (yT (wS WF (mBl (zJ gtD (zE 0) (mC (.int 1))))
 (sIf (mBl (zJ eqA (zJ wY (zE 0) (mC (.int 2))) (mC (.int 1))))
 (yT (sX (rY 1 (mC (.int 2))))
 (wT 0 (zJ wJ (zJ zFJ (zE 0) (mC (.int 1))) (mC (.int 2)))))
 (yT (sX (rY 1 (zJ wY (zJ wJ (zE 0) (mC (.int 2))) (mC (.int 2)))))
 (wT 0 (zJ zFJ (zE 0) (mC (.int 1)))))))
 (kH (uA (zJA (dF 1))))))
noncomputable def yW:MF:=mkF 1 2 w6
noncomputable def xC:MS:=(yT (wT 5 (zJ ixD (zE 4) (zJ wY (zE 3) (mC (.int 5)))))
 (yT (wT 6 (zJ ixD (zE 4) (zJ wY (zJ jT (zJ jT (zE 3) (mC (.int 1))) (zJ wY (zJ wJ (zE 3) (mC (.int 5))) (mC (.int 4)))) (mC (.int 5)))))
 (yT (sIf (mBl (zJ eqA (zE 2) (mC (.int 0))))
 (kH (xI (zD (xI (zD (mC (.str [116,97,103])) (zD (zE 5) (zD (zE 0) zU)))) (zD (xI (zD (mC (.str [111,110,101])) (zD (zE 5) (zD (zE 1) zU)))) (zD (mC (.int 0)) zU)))))
 xY)
 (yT (sIf (mBl (zJ eqA (zE 2) (mC (.int 1))))
 (kH (xI (zD (xI (zD (mC (.str [119,105,116,104])) (zD (zE 5) (zD (zE 0) (zD (xI (zD (mC (.str [101,109,112,116,121])) zU)) zU))))) (zD (xI (zD (mC (.str [114,101,99])) (zD (xI (zD (xI (zD (zE 5) (zD (zE 1) zU))) zU)) zU))) (zD (mC (.int 0)) zU)))))
 xY)
 (yT (wT 7 (zJ ixD (zE 4) (zJ wY (zJ wJ (zE 3) (mC (.int 20))) (mC (.int 5)))))
 (yT (wT 8 (xI (zD (mC (.str [119,105,116,104])) (zD (zE 5) (zD (xI (zD (mC (.str [110,97,109,101])) (zD (zE 7) zU))) (zD (xI (zD (mC (.str [119,105,116,104])) (zD (zE 6) (zD (xI (zD (mC (.str [110,97,109,101])) (zD (zE 7) zU))) (zD (xI (zD (mC (.str [101,109,112,116,121])) zU)) zU))))) zU))))))
 (yT (wT 9 (xI (zD (xI (zD (zFS (zD (zE 5) (zD (zE 6) zU))) (zD (zE 1) zU))) (zD (xI (zD (zFT (zD (zE 5) (zD (zE 6) zU))) (zD (zE 1) zU))) zU))))
 (kH (xI (zD (xI (zD (mC (.str [100,111])) (zD (xI (zD (mC (.str [102,110])) (zD (zE 7) (zD (zE 8) zU)))) (zD (zE 0) zU)))) (zD (xI (zD (mC (.str [114,101,99])) (zD (zE 9) zU))) (zD (mC (.int 1)) zU))))))))))))
noncomputable def jA:MF:=mkF 5 10 xC
noncomputable def bF(i j:Nat):Stmt:=match top i with
 |.ClassDef _ _ _ body _ _ _ _ _ _ _=>body.getD j (.Pass ⟨0,0,0,0⟩)
 |s=>s
structure Dm(K:Fg)(n q:Str)(st:Stmt)(ps:List Str) where
 a:Addr
 d:FuncData
 F:Fun K n q st a d
 b:Binds K d ps []
noncomputable def AH:List (List Nat×List Int):=[([100,111],[1,2]),([103,101,116],[2]),([119,105,116,104],[2,3]),([112,117,116],[2,3]),([108,101,115,115],[2]),([116,97,103],[2]),([119,105,100,101],[2]),([99,97,115,101],[1]),([110,101,118,101,114],[1]),([105,102],[1]),([43],[1,2]),([45],[1,2]),([42],[1,2]),([60],[1,2])]
noncomputable def xD(st:Mst):List D->Option (D×Mst)
 |[e,b]=>if st.wait.length<sizeLine then some (.non,zB6 st (.tup [e,b,.bl false])) else none
 |_=>none
noncomputable def xQ(st:Mst):List D->Option (D×Mst)
 |[v]=>if st.come.length<sizeLine then some (.non,zGR st v) else none
 |_=>none
noncomputable def uF:D:=.tup [.str [116,105,114,101,100],.non]
noncomputable def qE(st:Mst):List D->Option (D×Mst)
 |[]=>if st.most<=st.steps then some (.bl false,{ st with ended:=uF }) else some (.bl true,{ st with steps:=st.steps+1 })
 |_=>none
noncomputable def pD(e b:D):List Int->Mst->Option Mst
 |[],st=>some st
 |i::t,st=>(ixD e (.int i)).bind fun p=>(xD st [p,b]).bind fun q=>pD e b t q.2
noncomputable def v7:D->Option (List Int)
 |.tup (.str s::_)=>some ((vZ AH s).getD [])
 |_=>none
noncomputable def yA(st:Mst):List D->Option (D×Mst)
 |[e,b]=>if st.wait.length<sizeLine then (v7 e).bind fun l=>(pD e b l.reverse (zB6 st (.tup [e,b,.bl true]))).map fun s=>(.non,s) else none
 |_=>none
noncomputable def yH(st:Mst):List D->Option (D×Mst)
 |[e]=>(v7 e).bind fun l=>if l.length<=st.come.length/\l.length<sizeLine then some (.lst (st.come.drop (st.come.length-l.length)),{ st with come:=st.come.take (st.come.length-l.length) }) else none
 |_=>none
noncomputable def qO(st:Mst):List D->Option (D×Mst)
 |[.tup [_,v,_],_,_]=>xQ st [v]
 |_=>none
noncomputable def yR(st:Mst):List D->Option (D×Mst)
 |[.tup [_,.str s,_],.dct ks l,_]=>match xB ks l (.inr ⟨s.toArray⟩) with
  |some v=>xQ st [v]
  |none=>(qE st []).bind fun p=>match p.1,p.2.defs with
   |.bl true,.dct ks l=>(xB ks l (.inr ⟨s.toArray⟩)).bind fun d=>xD p.2 [d,.dct [] []]
   |.bl false,_=>some (.non,p.2)
   |_,_=>none
 |_=>none
noncomputable def jX(st:Mst):List D->Option (D×Mst)
 |[.tup [_,x,e,_],b,_]=>xQ st [.tup [.str [102,110],x,e,b]]
 |_=>none
noncomputable def wW(st:Mst):List D->Option (D×Mst)
 |[_,_,.lst [.tup [.str w,.str x,e,.dct ks l],v]]=>if w=[102,110]/\ks.length<sizeLine then (qE st []).bind fun p=>match p.1 with
  |.bl true=>xD p.2 [e,.dct (j6 ks l (.inr ⟨x.toArray⟩) v).1 (j6 ks l (.inr ⟨x.toArray⟩) v).2]
  |.bl false=>some (.non,p.2)
  |_=>none
  else none
 |_=>none
noncomputable def x3(st:Mst):List D->Option (D×Mst)
 |[_,_,_]=>xQ st [.tup [.str [114,101,99],.dct [] []]]
 |_=>none
noncomputable def w8(st:Mst):List D->Option (D×Mst)
 |[.tup [_,s,_,_],_,.lst [v]]=>xQ st [.tup [.str [111,110,101],s,v]]
 |_=>none
noncomputable def x8(st:Mst):List D->Option (D×Mst)
 |[.tup [_,.str s,_,_,_],_,.lst [v,.tup [.str w,.dct ks l]]]=>if w=[114,101,99]/\xB ks l (.inr ⟨s.toArray⟩)=none/\ks.length<sizeLine then xQ st [.tup [.str [114,101,99],.dct (j6 ks l (.inr ⟨s.toArray⟩) v).1 (j6 ks l (.inr ⟨s.toArray⟩) v).2]] else none
 |_=>none
noncomputable def ways(w:List Nat):Option (Mst->List D->Option (D×Mst)):=if w=[110,117,109] then some qO else if w=[110,97,109,101] then some yR else if w=[102,110] then some jX else if w=[100,111] then some wW else if w=[101,109,112,116,121] then some x3 else if w=[119,105,116,104] then some x8 else if w=[116,97,103] then some w8 else none
noncomputable def wQ(st:Mst):List D->Option (D×Mst)
 |[.tup (.str w::r),b,ps]=>(ways w).bind fun mm=>(mm st [.tup (.str w::r),b,ps]).map fun q=>(.non,q.2)
 |_=>none
noncomputable def d7(st:Mst):Option Mst:=match st.wait.getLast? with
 |some (.tup [e,b,.bl true])=>(yH { st with wait:=st.wait.dropLast } [e]).bind fun p=>(wQ p.2 [e,b,p.1]).map (·.2)
 |some (.tup [e,b,.bl false])=>(yA { st with wait:=st.wait.dropLast } [e,b]).map (·.2)
 |_=>none
noncomputable def v9:Nat->Mst->Option Mst
 |0,_=>none
 |n+1,st=>if st.wait.isEmpty=false/\nonB st.ended=true then (d7 st).bind (v9 n) else some st
noncomputable def qN(st:Mst):List D->Option (D×Mst)
 |[]=>(v9 WF st).map fun s=>(.non,s)
 |_=>none
noncomputable def ddE:ME:=(JB (JC (vL [] 2 (mIt (zE 1)) (qZ 2 (yE (yN 0) (yE (yN 1) jG))) (xI (zD (zE 0) (zD (yG 3 (wR RF) (zD (zE 1) (zD (zE 0) (zD (mC (.int 0)) zU)))) zU))))))
noncomputable def dd(pd:D):Option D:=ddE [.un,.v pd,.v (.int 0)]
noncomputable def zJV(st:Mst):Option D:=match st.ended with
 |.non=>(st.come.getLast?).bind fun v=>(YX [.v v]).bind fun q=>match q.1 with
  |.v d=>some (.tup [.str [118,97,108,117,101],.int st.steps,d])
  |_=>none
 |.tup [a,b]=>some (.tup [a,.int st.steps,b])
 |_=>none
noncomputable def zLZ(m:Int)(d:D):Option D:=match d with
 |.dct ks l=>(xB ks l (.inr ⟨([109,97,105,110]:List Nat).toArray⟩)).bind fun e=>(v9 WF ⟨m,0,[.tup [e,.dct [] [],.bl false]],[],.non,d⟩).bind zJV
 |_=>none
noncomputable def rS:MF:=fun as=>match as with
 |[.v pd,.v (.int m)]=>(dd pd).bind fun d=>(zLZ m d).map fun x=>(.v x,[.v pd,.v (.int m)])
 |_=>none
noncomputable def zAE:MS:=(yT (wT 1 (yG 2 yL (zD (yG 2 wC (zD (zE 0) (zD (mC (.int 0)) zU))) (zD (mC (.int 900)) zU))))
 (yT (wT 2 (yG 1 qP (zD (yG 2 yL (zD (yG 2 wC (zD (zE 0) (zD (mC (.int 1)) zU))) (zD (mC (.int 901)) zU))) zU)))
 (yT (wT 3 (uA (vL [] 2 (ZV (mSl (zE 0) (uT (mC (.int 2))) (uT (mC (.int 62))))) (qZ 2 (yE (yN 0) (yE (yN 1) jG))) (zJ wY (yG 2 yL (zD (zE 1) (zD (zJ jT (mC (.int 300)) (zE 0)) zU))) (mC (.int 3))))))
 (yT (sIf (mBl (zJ eqA (zJ wY (zE 1) (mC (.int 2))) (mC (.int 0))))
 (wT 3 (yG 1 yW (zD (zJ jT (mC (.int 199)) (zJ wY (zJ wJ (zE 1) (mC (.int 2))) (mC (.int 3)))) zU)))
 xY)
 (yT (wT 4 (zJ wY (zJ wJ (zE 1) (mC (.int 6))) (zJ zKP (mC (.int 10)) (mC (.int 6)))))
 (yT (wT 5 (xI (zD (mC (.str [110,117,109])) (zD (zE 4) zU))))
 (yT (wT 6 (zE 4))
 (yT (sIf (mBl (zJ eqA (zJ wY (zJ wJ (zJ wJ (zE 1) (mC (.int 2))) (mC (.int 3))) (mC (.int 2))) (mC (.int 0))))
 (yT (wT 5 (xI (zD (mC (.str [102,110])) (zD (zJ ixD (zE 2) (zJ wY (zE 4) (mC (.int 5)))) (zD (xI (zD (mC (.str [110,97,109,101])) (zD (zJ ixD (zE 2) (zJ wY (zJ wJ (zE 4) (mC (.int 5))) (mC (.int 5)))) zU))) zU)))))
 (yT (sIf (mBl (zJ (neN 400) (zJ wY (zE 4) (mC (.int 5))) (zJ wY (zJ wJ (zE 4) (mC (.int 5))) (mC (.int 5)))))
 (wT 5 (xI (zD (mC (.str [102,110])) (zD (zJ ixD (zE 2) (zJ wY (zE 4) (mC (.int 5)))) (zD (xI (zD (mC (.str [110,117,109])) (zD (zE 4) zU))) zU)))))
 xY)
 (wT 6 (xI (zD (mC (.str [102,110])) zU)))))
 xY)
 (yT (wT 7 (mC (.int 1)))
 (yT (wT 8 (mC (.int 0)))
 (yT (QB 9 (vX zU))
 (yT (tW (qZ 2 (yE (yN 10) (yE (yN 11) jG))) (ZV (zE 3))
 (yT (zJP (yG 5 jA (zD (zE 5) (zD (zE 6) (zD (zE 11) (zD (yG 2 yL (zD (yG 2 wC (zD (zE 0) (zD (zJ jT (mC (.int 2)) (zE 10)) zU))) (zD (zE 10) zU))) (zD (zE 2) zU)))))) (qZ 3 (yE (yN 5) (yE (yN 12) (yE (yN 13) jG)))))
 (yT (wT 7 (zJ jT (zJ jT (zE 7) (mC (.int 1))) (zJ zC4 (mUn pY (zJ eqA (zE 11) (mC (.int 2)))) (zE 7))))
 (yT (wT 8 (zJ jT (zE 8) (zE 13)))
 (yT (sIf (mBl (zJ leA (zE 7) (mC (.int 400))))
 (wT 6 (zE 12))
 xY)
 (sIf (zAA (mBl (zJ eqA (zJ wY (zE 10) (mC (.int 6))) (mC (.int 5)))) (mBl (zJ ltA (zE 10) (zJ zFJ (mUn gX (zE 3)) (mC (.int 1))))))
 (yT (wT 14 (zJ jT (mC (.str [100])) (zJ ixD (mC (.str [97,98,99,100,101,102,103,104,105,106,107])) (zJ wJ (zE 10) (mC (.int 6))))))
 (yT (sX (rY 9 (xI (zD (zE 14) (zD (zE 5) zU)))))
 (yT (wT 5 (xI (zD (mC (.str [110,97,109,101])) (zD (zE 14) zU))))
 (wT 8 (zJ jT (zE 8) (mC (.int 1)))))))
 xY))))))
 (yT (sX (rY 9 (xI (zD (mC (.str [109,97,105,110])) (zD (zE 5) zU)))))
 (yT (wT 15 (nQ 2 rS 9 (zD (mC (.int 1000)) zU)))
 (yT (wT 16 (zE 6))
 (yT (sIf (mBl (zJ gtD (zE 7) (mC (.int 200))))
 (wT 16 (xI (zD (mC (.str [100,101,101,112])) zU)))
 xY)
 (kH (zFA (yG 2 (yD xV) (zD (zE 15) (zD (xI (zD (mC (.str [118,97,108,117,101])) (zD (zE 8) (zD (zE 16) zU)))) zU))) (yG 2 (yD xV) (zD (nQ 2 rS 9 (zD (zE 8) zU)) (zD (zE 15) zU)))))))))))))))))))))
noncomputable def rT:MF:=mkF 1 17 zAE
structure De(K:Fg)(mg:Str->Option Value)(n:Str)(i:Nat)(ps:List Str) where
 a:Addr
 d:FuncData
 F:Fun K n n (top i) a d
 m:mg n=some (.ref a)
 b:Binds K d ps []
noncomputable abbrev Ok(P:Program)(w:World){K:Fg}{mg:Str->Option Value}(base:Heap){n:Str}{i:Nat}{ps:List Str}(D:De K mg n i ps)(k m:Nat)(F:MF):Prop:=FnOk P w K mg base CX0 k D.a D.d ps (spD K m F)
set_option genInjectivity false in
set_option genSizeOf false in
structure Txt(K:Fg)(mg:Str->Option Value)(Ps:Params) where
 d_inner:De K mg "inner" 2 ["expression"]
 d_places:De K mg "places" 1 ["E"]
 d_inner_numbers:De K mg "inner_numbers" 4 ["expression", "number"]
 d_sort_of:De K mg "sort_of" 9 ["value"]
 d_binding:De K mg "binding" 10 ["bound", "name", "value"]
 d_held_in:De K mg "held_in" 38 ["value"]
 d_told_part:De K mg "told_part" 39 ["value", "held"]
 d_told:De K mg "told" 37 ["value"]
 d_marked:De K mg "marked" 15 ["expression", "name", "number"]
 d_has_no_field:De K mg "has_no_field" 18 ["value", "label"]
 d_with_field:De K mg "with_field" 19 ["record", "label", "value"]
 d__law_cell:De K mg "_law_cell" 41 ["_law_script", "_law_k"]
 d__law_mixed:De K mg "_law_mixed" 42 ["_law_cell_here", "_law_k"]
 d__law_alike:De K mg "_law_alike" 43 ["_law_found", "_law_due"]
 d__law_labels:De K mg "_law_labels" 44 ["_law_cell_here"]
 d__law_ways_to:De K mg "_law_ways_to" 45 ["_law_count"]
 d__law_done:De K mg "_law_done" 46 ["_law_told", "_law_worth", "_law_way", "_law_number", "_law_labels_here"]
 d_law:De K mg "law" 47 ["_law_script"]
 C:Addr
 B:Addr
 mC:mg "Plain" = some (.ref C)
 mB:mg "Reckoner" = some (.ref B)
 cl:Cls K C
 n_most:NoAttr K C "most"
 n_steps:NoAttr K C "steps"
 n_waiting:NoAttr K C "waiting"
 n_come:NoAttr K C "come"
 n_ended:NoAttr K C "ended"
 n_defs:NoAttr K C "defs"
 m_rinit:Dm K "__init__" "Reckoner.__init__" (bF 8 0) ["self", "most"]
 m_pinit:Dm K "__init__" "Plain.__init__" (bF 16 0) ["self", "program", "most"]
 m_begin:Dm K "begin" "Reckoner.begin" (bF 8 1) ["self", "expression", "around"]
 m_tell:Dm K "tell" "Reckoner.tell" (bF 8 2) ["self", "value"]
 m_step:Dm K "step" "Reckoner.step" (bF 8 3) ["self"]
 m_run_on:Dm K "run_on" "Reckoner.run_on" (bF 8 4) ["self"]
 m_begin_parts:Dm K "begin_parts" "Reckoner.begin_parts" (bF 8 5) ["self", "expression", "around"]
 m_parts_come:Dm K "parts_come" "Reckoner.parts_come" (bF 8 6) ["self", "expression"]
 m_go_on:Dm K "go_on" "Plain.go_on" (bF 16 1) ["self", "expression", "bound", "parts"]
 h_begin:Meth K C "begin" m_begin.a
 h_tell:Meth K C "tell" m_tell.a
 h_step:Meth K C "step" m_step.a
 h_run_on:Meth K C "run_on" m_run_on.a
 h_begin_parts:Meth K C "begin_parts" m_begin_parts.a
 h_parts_come:Meth K C "parts_come" m_parts_come.a
 h_go_on:Meth K C "go_on" m_go_on.a
 mkC:Mk K C m_pinit.a
 cm:CMeth K B "__init__" m_rinit.a
 d_run:De K mg "run" 14 ["program", "most"]
 d_of_num:De K mg "of_num" 21 ["plain", "expression", "bound", "parts"]
 d_of_name:De K mg "of_name" 22 ["plain", "expression", "bound", "parts"]
 d_of_fn:De K mg "of_fn" 23 ["plain", "expression", "bound", "parts"]
 d_of_do:De K mg "of_do" 24 ["plain", "expression", "bound", "parts"]
 d_of_empty:De K mg "of_empty" 25 ["plain", "expression", "bound", "parts"]
 d_of_with:De K mg "of_with" 27 ["plain", "expression", "bound", "parts"]
 d_of_tag:De K mg "of_tag" 30 ["plain", "expression", "bound", "parts"]
 wt:List (List Nat×Addr)
 ways:YW mg K Ps "WAYS" wt
 ahead:zE8 mg K Ps "AHEAD" AH
 w_num:kQ wt [110,117,109]=some d_of_num.a
 w_name:kQ wt [110,97,109,101]=some d_of_name.a
 w_fn:kQ wt [102,110]=some d_of_fn.a
 w_do:kQ wt [100,111]=some d_of_do.a
 w_empty:kQ wt [101,109,112,116,121]=some d_of_empty.a
 w_with:kQ wt [119,105,116,104]=some d_of_with.a
 w_tag:kQ wt [116,97,103]=some d_of_tag.a
 z_bool:mg "bool" = none
 z_dict:mg "dict" = none
 z_enumerate:mg "enumerate" = none
 z_int:mg "int" = none
 z_isinstance:mg "isinstance" = none
 z_len:mg "len" = none
 z_list:mg "list" = none
 z_max:mg "max" = none
 z_min:mg "min" = none
 z_range:mg "range" = none
 z_reversed:mg "reversed" = none
 z_sorted:mg "sorted" = none
 z_str:mg "str" = none
 z_tuple:mg "tuple" = none
 z_zip:mg "zip" = none
 c_MOST_PARTS:∃t,mg "MOST_PARTS" = some (.int 200 t)
section
variable{P:Program}{w:World}{K:Fg}{mg:Str->Option Value}{base:Heap}
theorem W8:FnScope ["expression"] ["expression"] (zP (top 2)):=⟨rfl,rfl,rfl,by decide +kernel,rfl,by decide +kernel,by decide +kernel⟩
theorem pL(T:Txt K mg w.params):Ok P w base T.d_inner 1 1 j0:=by
 refine nV T.d_inner.F W8 1 1 rfl rfl (g:=b0) (fun cdv A outer s H E hr=>?_)
 unfold b0
 exact(by refine zW ?_;exact(by refine y3 ?_;exact(by refine zFD ?_;exact(YI (N':=["part"]) (cap:=[]) rfl bB (hV (zB 0 (pv 0))) (fun _ _ _ _=>(xJ 0 (show(["part"]:List Str).Nodup by decide +kernel))) (fun _ _ _ _=>by exact(vS (y6 (by rfl) (by exact T.z_isinstance) (zB 0 (pv 0)) (wM (by rfl) (by exact T.z_tuple) boot_tuple rfl)))) (fun _ _ _ _=>by exact(zB 0 (pv 0))) 1))))
theorem sc_places:FnScope ["E", "found", "waiting", "place"] ["E"] (zP (top 1)):=⟨rfl,rfl,rfl,by decide +kernel,rfl,by decide +kernel,by decide +kernel⟩
theorem ZL(T:Txt K mg w.params):Ok P w base T.d_places 2 1 jC:=by
 refine nV T.d_places.F sc_places 1 4 rfl rfl (g:=jW) (fun cdv A outer s H E hr=>?_)
 unfold jW
 exact(by refine zM ?_ ?_;exact(kU 1 (by refine jQ ?_;exact zO) sc_places.nd);exact(by refine zM ?_ ?_;exact(kU 2 (by refine jQ ?_;exact(zA (zB 0 (pv 0)) zO (hs:=zQ))) sc_places.nd);exact(by refine zM ?_ ?_;exact(dM WF PassesOwn.never (X0 (cN 2 (pv 2))) (by refine zM ?_ ?_;exact(zEH 3 (JP 2 (pv 2)) sc_places.nd);exact(by refine zM ?_ ?_;exact(zAG (qF 1 (pv 1) (zB 3 (pv 3))));exact(by refine zW ?_;exact(zAG (hC 2 (pv 2) (zEQ (yK (pL T) (hr.mono (by decide)) (by rfl) T.d_inner.m T.d_inner.F.kp T.d_inner.b (zA (zB 3 (pv 3)) zO (hs:=zQ))))))))));exact(by refine zW ?_;exact(hE 1 (pv 1))))))
theorem sc_inner_numbers:FnScope ["expression", "number", "found", "behind", "part"] ["expression", "number"] (zP (top 4)):=⟨rfl,rfl,rfl,by decide +kernel,rfl,by decide +kernel,by decide +kernel⟩
theorem j7(T:Txt K mg w.params):Ok P w base T.d_inner_numbers 3 2 yY:=by
 refine nV T.d_inner_numbers.F sc_inner_numbers 2 5 rfl rfl (g:=yX) (fun cdv A outer s H E hr=>?_)
 unfold yX
 exact(by refine zM ?_ ?_;exact(kU 2 (by refine jQ ?_;exact zO) sc_inner_numbers.nd);exact(by refine zM ?_ ?_;exact(yS 3 (zR xL xM (zB 1 (pv 1)) zF) sc_inner_numbers.nd);exact(by refine zM ?_ ?_;exact(nX PassesOwn.never rfl (hV (yK (pL T) (hr.mono (by decide)) (by rfl) T.d_inner.m T.d_inner.F.kp T.d_inner.b (zA (zB 0 (pv 0)) zO (hs:=zQ)))) (xJ 4 sc_inner_numbers.nd) (by refine zM ?_ ?_;exact(zAG (qF 2 (pv 2) (zB 3 (pv 3))));exact(by refine zW ?_;exact(zEL 3 (hZ (by rfl) T.z_len (by refine zFD ?_;exact(X9 (ZL T) (hr.mono (by decide)) (by rfl) T.d_places.m T.d_places.F.kp T.d_places.b (zA (zB 4 (pv 4)) zO (hs:=zQ))))) sc_inner_numbers.nd))));exact(by refine zW ?_;exact(hE 2 (pv 2))))))
theorem m8:FnScope ["value"] ["value"] (zP (top 9)):=⟨rfl,rfl,rfl,by decide +kernel,rfl,by decide +kernel,by decide +kernel⟩
theorem wF(T:Txt K mg w.params):Ok P w base T.d_sort_of 1 1 xW:=by
 refine nV T.d_sort_of.F m8 1 1 rfl rfl (g:=u6) (fun cdv A outer s H E hr=>?_)
 unfold u6
 exact(by refine zW ?_;exact(by refine y3 ?_;exact(zLD (vS (y6 (by rfl) T.z_isinstance (zB 0 (pv 0)) (wM (by rfl) T.z_int boot_int rfl))) (zY (s:=[110,117,109]) (by rfl)) (yQ (zB 0 (pv 0)) zF))))
theorem sc_binding:FnScope ["bound", "name", "value", "more"] ["bound", "name", "value"] (zP (top 10)):=⟨rfl,rfl,rfl,by decide +kernel,rfl,by decide +kernel,by decide +kernel⟩
theorem nJ(T:Txt K mg w.params):Ok P w base T.d_binding 1 3 jS:=by
 refine nV T.d_binding.F sc_binding 3 4 rfl rfl (g:=jP) (fun cdv A outer s H E hr=>?_)
 unfold jP
 exact(by refine zM ?_ ?_;exact(X1 3 (XX (by rfl) T.z_dict (zF0 (zB 0 (pv 0)))) sc_binding.nd);exact(by refine zM ?_ ?_;exact(by refine X3 3 (un1 hr) (pv 3) ?_ ?_;exact(zB 1 (pv 1));exact(zB 2 (pv 2)));exact(by refine zW ?_;exact(zEI 3 (pv 3)))))
theorem nB:FnScope ["value"] ["value"] (zP (top 38)):=⟨rfl,rfl,rfl,by decide +kernel,rfl,by decide +kernel,by decide +kernel⟩
theorem bT(T:Txt K mg w.params):Ok P w base T.d_held_in 2 1 y8:=by
 refine nV T.d_held_in.F nB 1 1 rfl rfl (g:=jO) (fun cdv A outer s H E hr=>?_)
 unfold jO
 exact(by refine zM ?_ ?_;exact(qY (xU (qH hr.units0) qI (yK (wF T) (hr.mono (by decide)) (by rfl) T.d_sort_of.m T.d_sort_of.F.kp T.d_sort_of.b (zA (zB 0 (pv 0)) zO (hs:=zQ))) (zY (s:=[114,101,99]) (by rfl)) (xH _)) (by refine zW ?_;exact(by refine y3 ?_;exact(by refine zFD ?_;exact(hX (N':=["value", "label"]) (cap:=[0]) rfl bB (hV (by refine zFD ?_;exact(X8 rfl (by rfl) T.z_sorted (zF0 (yQ (zB 0 (pv 0)) zF))))) (fun _ _ _ _=>(xJ 1 (show(["value", "label"]:List Str).Nodup by decide +kernel))) (fun _ _ _ _=>by exact(zEZ (un1 hr) (zF0 (by refine yQ ?_ ?_;exact(zB 0 (pv 0));exact zF)) (zB 1 (pv 1)))) 2)))) x9);exact(by refine zM ?_ ?_;exact(qY (xU (qH hr.units0) qI (yK (wF T) (hr.mono (by decide)) (by rfl) T.d_sort_of.m T.d_sort_of.F.kp T.d_sort_of.b (zA (zB 0 (pv 0)) zO (hs:=zQ))) (zY (s:=[111,110,101]) (by rfl)) (xH _)) (by refine zW ?_;exact(by refine y3 ?_;exact(by refine zFD ?_;exact(by refine jQ ?_;exact(zA (yQ (zB 0 (pv 0)) zF) zO (hs:=jE)))))) x9);exact(by refine zW ?_;exact(by refine y3 ?_;exact(by refine zFD ?_;exact(by refine jQ ?_;exact zO))))))
theorem cG:FnScope ["value", "held"] ["value", "held"] (zP (top 39)):=⟨rfl,rfl,rfl,by decide +kernel,rfl,by decide +kernel,by decide +kernel⟩
theorem cK(T:Txt K mg w.params):Ok P w base T.d_told_part 2 2 wB:=by
 refine nV T.d_told_part.F cG 2 2 rfl rfl (g:=xT) (fun cdv A outer s H E hr=>?_)
 unfold xT
 exact(by refine zM ?_ ?_;exact(qY (xU (qH hr.units0) qI (yK (wF T) (hr.mono (by decide)) (by rfl) T.d_sort_of.m T.d_sort_of.F.kp T.d_sort_of.b (zA (zB 0 (pv 0)) zO (hs:=zQ))) (zY (s:=[114,101,99]) (by rfl)) (xH _)) (by refine zW ?_;exact(by refine y3 ?_;exact(by refine zZ ?_;exact(by refine zA (zY (s:=[114,101,99]) (by rfl)) ?_ (hs:=zS);refine zA (by refine YJ rfl (by rfl) T.z_tuple (by rfl) T.z_zip ?_ ?_;exact(by refine zFD ?_;exact(X8 rfl (by rfl) T.z_sorted (zF0 (yQ (zB 0 (pv 0)) zF))));exact(zB 1 (pv 1))) ?_ (hs:=vM);exact zO)))) x9);exact(by refine zM ?_ ?_;exact(qY (xU (qH hr.units0) qI (yK (wF T) (hr.mono (by decide)) (by rfl) T.d_sort_of.m T.d_sort_of.F.kp T.d_sort_of.b (zA (zB 0 (pv 0)) zO (hs:=zQ))) (zY (s:=[111,110,101]) (by rfl)) (xH _)) (by refine zW ?_;exact(by refine y3 ?_;exact(by refine zZ ?_;exact(by refine zA (zY (s:=[111,110,101]) (by rfl)) ?_ (hs:=zS);refine zA (yQ (zB 0 (pv 0)) zF) ?_ (hs:=jE);refine zA (yQ (zB 1 (pv 1)) zF) ?_ (hs:=jE);exact zO)))) x9);exact(by refine zM ?_ ?_;exact(qY (xU (qH hr.units0) qI (yK (wF T) (hr.mono (by decide)) (by rfl) T.d_sort_of.m T.d_sort_of.F.kp T.d_sort_of.b (zA (zB 0 (pv 0)) zO (hs:=zQ))) (zY (s:=[102,110]) (by rfl)) (xH _)) (by refine zW ?_;exact(by refine y3 ?_;exact(by refine zZ ?_;exact(zA (zY (s:=[102,110]) (by rfl)) zO (hs:=zS))))) x9);exact(by refine zW ?_;exact(by refine y3 ?_;exact(zB 0 (pv 0)))))))
theorem sc_told:FnScope ["value", "found", "waiting", "done", "part"] ["value"] (zP (top 37)):=⟨rfl,rfl,rfl,by decide +kernel,rfl,by decide +kernel,by decide +kernel⟩
theorem zCX(T:Txt K mg w.params):Ok P w base T.d_told 3 1 YX:=by
 refine nV T.d_told.F sc_told 1 5 rfl rfl (g:=cM) (fun cdv A outer s H E hr=>?_)
 unfold cM
 exact(by refine zM ?_ ?_;exact(kU 1 (by refine jQ ?_;exact zO) sc_told.nd);exact(by refine zM ?_ ?_;exact(kU 2 (by refine jQ ?_;exact(zA (zB 0 (pv 0)) zO (hs:=zQ))) sc_told.nd);exact(by refine zM ?_ ?_;exact(dM WF PassesOwn.never (X0 (cN 2 (pv 2))) (by refine zM ?_ ?_;exact(zAG (vI 1 (pv 1) (JP 2 (pv 2))));exact(by refine zM ?_ ?_;exact(qY (xU zFO zFP (zET (by rfl) T.z_len (cN 1 (pv 1))) (zEX T.c_MOST_PARTS (by rfl)) (xH _)) (by refine zW ?_;exact(by refine y3 ?_;exact(by refine zZ ?_;exact(zA (zY (s:=[100,101,101,112]) (by rfl)) zO (hs:=zS))))) x9);exact(by refine zW ?_;exact(zAG (hC 2 (pv 2) (zEQ (yK (bT T) (hr.mono (by decide)) (by rfl) T.d_held_in.m T.d_held_in.F.kp T.d_held_in.b (zA (zEV (cN 1 (pv 1)) (zIL zF)) zO (hs:=jE))))))))));exact(by refine zM ?_ ?_;exact(kU 3 (by refine jQ ?_;exact zO) sc_told.nd);exact(by refine zM ?_ ?_;exact(zNL 1 (nX PassesOwn.never rfl (JT (by rfl) T.z_reversed (zNM 1 (pv 1))) (xJ 4 sc_told.nd) (by refine zW ?_;exact(zAG (vI 3 (pv 3) (rG (cK T) (hr.mono (by decide)) (by rfl) T.d_told_part.m T.d_told_part.F.kp T.d_told_part.b (dL (zB 4 (pv 4)) (rF (by refine JQ (N':=["done", "held"]) (i:=3) rfl bB ?_ ?_ ?_ zCD 2;exact(hV (yK (bT T) (hr.mono (by decide)) (by rfl) T.d_held_in.m T.d_held_in.F.kp T.d_held_in.b (zA (zB 4 (pv 4)) zO (hs:=zQ))));exact(fun _ _ _ _=>(xJ 1 (show(["done", "held"]:List Str).Nodup by decide +kernel)));exact(fun _ _ _ _=>by exact(JP 0 (pv 0))))))))))));exact(by refine zW ?_;exact(by refine y3 ?_;exact(zEV (cN 3 (pv 3)) zF))))))))
theorem sc_marked:FnScope ["expression", "name", "number", "below", "parts", "part"] ["expression", "name", "number"] (zP (top 15)):=⟨rfl,rfl,rfl,by decide +kernel,rfl,by decide +kernel,by decide +kernel⟩
theorem gN:∀(k:Nat) (T:Txt K mg w.params),Ok P w base T.d_marked (k+3) 3 (wR k)
 |0,T=>zMR 3
 |k+1,T=>by
  have G:=gN k T
  rw[show k+1+3=(k+3)+1 by omega]
  refine nV T.d_marked.F sc_marked 3 6 rfl rfl (g:=vG (wR k)) (fun cdv A outer s H E hr=>?_)
  unfold vG
  exact(by refine zM ?_ ?_;exact(kU 3 (X9 (j7 T) (hr.mono (by omega)) (by rfl) T.d_inner_numbers.m T.d_inner_numbers.F.kp T.d_inner_numbers.b (by refine zA (zB 0 (pv 0)) ?_ (hs:=zQ);refine zA (zB 2 (pv 2)) ?_ (hs:=zQ);exact zO)) sc_marked.nd);exact(by refine zM ?_ ?_;exact(kU 4 (by refine jQ ?_;exact zO) sc_marked.nd);exact(by refine zM ?_ ?_;exact(nX PassesOwn.never rfl (hV (zB 0 (pv 0))) (xJ 5 sc_marked.nd) (by refine zW ?_;exact(qY (vS (y6 (by rfl) T.z_isinstance (zB 5 (pv 5)) (wM (by rfl) T.z_tuple boot_tuple rfl))) (by refine zW ?_;exact(zAG (vI 4 (pv 4) (rG G (hr.mono (by omega)) (by rfl) T.d_marked.m T.d_marked.F.kp T.d_marked.b (dL (zB 5 (pv 5)) (dL (zB 1 (pv 1)) (rF (zEA 3 (pv 3))))))))) (by refine zW ?_;exact(zAG (qF 4 (pv 4) (zB 5 (pv 5))))))));exact(by refine zW ?_;exact(by refine y3 ?_;exact(n8 (by rfl) T.z_tuple (by refine zLF ?_;exact(zII (cN 4 (pv 4)) (by refine zLF ?_;exact(by refine jQ ?_;exact(zA (by refine zZ ?_;exact(by refine zA (zB 1 (pv 1)) ?_ (hs:=zQ);refine zA (zB 2 (pv 2)) ?_ (hs:=zQ);exact zO)) zO (hs:=y9))))))))))))
theorem kG:FnScope ["value", "label"] ["value", "label"] (zP (top 18)):=⟨rfl,rfl,rfl,by decide +kernel,rfl,by decide +kernel,by decide +kernel⟩
theorem kK(T:Txt K mg w.params):Ok P w base T.d_has_no_field 2 2 xR:=by
 refine nV T.d_has_no_field.F kG 2 2 rfl rfl (g:=wZ) (fun cdv A outer s H E hr=>?_)
 unfold wZ
 exact(by refine zW ?_;exact(by refine y3 ?_;exact(oA (YL (qH hr.units0) qI (yK (wF T) (hr.mono (by decide)) (by rfl) T.d_sort_of.m T.d_sort_of.F.kp T.d_sort_of.b (zA (zB 0 (pv 0)) zO (hs:=zQ))) (zY (s:=[114,101,99]) (by rfl)) (xH _)) (YK (n9 (zB 1 (pv 1)) (zF0 (yQ (zB 0 (pv 0)) zF)))))))
theorem sc_with_field:FnScope ["record", "label", "value", "fields"] ["record", "label", "value"] (zP (top 19)):=⟨rfl,rfl,rfl,by decide +kernel,rfl,by decide +kernel,by decide +kernel⟩
theorem uQ(T:Txt K mg w.params):Ok P w base T.d_with_field 1 3 wI:=by
 refine nV T.d_with_field.F sc_with_field 3 4 rfl rfl (g:=wG) (fun cdv A outer s H E hr=>?_)
 unfold wG
 exact(by refine zM ?_ ?_;exact(X1 3 (XX (by rfl) T.z_dict (zF0 (yQ (zB 0 (pv 0)) zF))) sc_with_field.nd);exact(by refine zM ?_ ?_;exact(by refine X3 3 (un1 hr) (pv 3) ?_ ?_;exact(zB 1 (pv 1));exact(zB 2 (pv 2)));exact(by refine zW ?_;exact(zLA 3 (by refine y3 ?_;exact(by refine zZ ?_;exact(by refine zA (zY (s:=[114,101,99]) (by rfl)) ?_ (hs:=zS);refine zA (zB 3 (pv 3)) ?_ (hs:=zQ);exact zO)))))))
theorem cH:FnScope ["_law_script", "_law_k"] ["_law_script", "_law_k"] (zP (top 41)):=⟨rfl,rfl,rfl,by decide +kernel,rfl,by decide +kernel,by decide +kernel⟩
theorem jB(T:Txt K mg w.params):Ok P w base T.d__law_cell 1 2 wC:=by
 refine nV T.d__law_cell.F cH 2 2 rfl rfl (g:=wV) (fun cdv A outer s H E hr=>?_)
 unfold wV
 exact(by refine zM ?_ ?_;exact(qY (xU zCV zC0 (zB 1 (pv 1)) (hZ (by rfl) T.z_len (zB 0 (pv 0))) (xH _)) (by refine zW ?_;exact(by refine y3 ?_;exact(yQ (zB 0 (pv 0)) (zB 1 (pv 1))))) x9);exact(by refine zW ?_;exact(by refine y3 ?_;exact zF)))
theorem sc__law_mixed:FnScope ["_law_cell_here", "_law_k", "_law_number"] ["_law_cell_here", "_law_k"] (zP (top 42)):=⟨rfl,rfl,rfl,by decide +kernel,rfl,by decide +kernel,by decide +kernel⟩
theorem xZ(T:Txt K mg w.params):Ok P w base T.d__law_mixed 1 2 yL:=by
 refine nV T.d__law_mixed.F sc__law_mixed 2 3 rfl rfl (g:=wH) (fun cdv A outer s H E hr=>?_)
 unfold wH
 exact(by refine zM ?_ ?_;exact(yS 2 (zR xN xO (zR xL xM (zR xL xM (zR xN xO (zB 0 (pv 0)) zF) (zR ZJ ZQ zF (zB 1 (pv 1)))) zF) zF) sc__law_mixed.nd);exact(by refine zM ?_ ?_;exact(yS 2 (zR xN xO (zR ZJ ZQ (zB 2 (pv 2)) (zB 2 (pv 2))) zF) sc__law_mixed.nd);exact(by refine zW ?_;exact(by refine y3 ?_;exact(zR wN wO (zR xN xO (zR ZJ ZQ (zB 2 (pv 2)) (zR xL xM (zB 2 (pv 2)) zF)) zF) zF)))))
theorem sc__law_alike:FnScope ["_law_found", "_law_due", "_law_one", "_law_other"] ["_law_found", "_law_due"] (zP (top 43)):=⟨rfl,rfl,rfl,by decide +kernel,rfl,by decide +kernel,by decide +kernel⟩
theorem qM:∀(k:Nat) (T:Txt K mg w.params),Ok P w base T.d__law_alike (k+0) 2 (yD k)
 |0,T=>zMR 2
 |k+1,T=>by
  have G:=qM k T
  rw[show k+1+0=(k+0)+1 by omega]
  refine nV T.d__law_alike.F sc__law_alike 2 4 rfl rfl (g:=yV (yD k)) (fun cdv A outer s H E hr=>?_)
  unfold yV
  exact(by refine zM ?_ ?_;exact(qY (zL3 (zJJ (vS (y6 (by rfl) T.z_isinstance (zB 1 (pv 1)) (wM (by rfl) T.z_tuple boot_tuple rfl))) (zEC (vS (y6 (by rfl) T.z_isinstance (zB 1 (pv 1)) (wM (by rfl) T.z_list boot_list rfl)))))) (by refine zM ?_ ?_;exact(qY (zL3 (zJJ (xU (ZI hr.units0) ZP (y6 (by rfl) T.z_isinstance (zB 0 (pv 0)) (wM (by rfl) T.z_tuple boot_tuple rfl)) (y6 (by rfl) T.z_isinstance (zB 1 (pv 1)) (wM (by rfl) T.z_tuple boot_tuple rfl)) (xH _)) (zEC (xU (ZI hr.units0) ZP (y6 (by rfl) T.z_isinstance (zB 0 (pv 0)) (wM (by rfl) T.z_list boot_list rfl)) (y6 (by rfl) T.z_isinstance (zB 1 (pv 1)) (wM (by rfl) T.z_list boot_list rfl)) (xH _))))) (by refine zW ?_;exact(by refine y3 ?_;exact rJ)) x9);exact(by refine zM ?_ ?_;exact(qY (xU (ZI hr.units0) ZP (hZ (by rfl) T.z_len (zB 0 (pv 0))) (hZ (by rfl) T.z_len (zB 1 (pv 1))) (xH _)) (by refine zW ?_;exact(by refine y3 ?_;exact rJ)) x9);exact(by refine zM ?_ ?_;exact(nX PassesOwn.never rfl (zEO (by rfl) T.z_zip (zB 0 (pv 0)) (zB 1 (pv 1))) (nY rfl (wA (xJ 2 sc__law_alike.nd) (wA (xJ 3 sc__law_alike.nd) b9))) (by refine zW ?_;exact(qY (zIE (vS (yK G (hr.mono (by omega)) (by rfl) T.d__law_alike.m T.d__law_alike.F.kp T.d__law_alike.b (by refine zA (zB 2 (pv 2)) ?_ (hs:=zQ);refine zA (zB 3 (pv 3)) ?_ (hs:=zQ);exact zO)))) (by refine zW ?_;exact(by refine y3 ?_;exact rJ)) x9)));exact(by refine zW ?_;exact(by refine y3 ?_;exact rJ))))) x9);exact(by refine zM ?_ ?_;exact(qY (vS (y6 (by rfl) T.z_isinstance (zB 1 (pv 1)) (wM (by rfl) T.z_int boot_int rfl))) (by refine zW ?_;exact(by refine y3 ?_;exact(oA (y6 (by rfl) T.z_isinstance (zB 0 (pv 0)) (wM (by rfl) T.z_int boot_int rfl)) (oA (zIJ (y6 (by rfl) T.z_isinstance (zB 0 (pv 0)) (wM (by rfl) T.z_bool boot_bool rfl))) (YK (YL (qH hr.units0) qI (zB 0 (pv 0)) (zB 1 (pv 1)) (xH _))))))) x9);exact(by refine zW ?_;exact(by refine y3 ?_;exact(oA (y6 (by rfl) T.z_isinstance (zB 0 (pv 0)) (wM (by rfl) T.z_str boot_str rfl)) (YK (YL (qH hr.units0) qI (zB 0 (pv 0)) (zB 1 (pv 1)) (xH _))))))))
theorem sc__law_labels:FnScope ["_law_cell_here", "_law_base", "_law_at"] ["_law_cell_here"] (zP (top 44)):=⟨rfl,rfl,rfl,by decide +kernel,rfl,by decide +kernel,by decide +kernel⟩
theorem vQ(T:Txt K mg w.params):Ok P w base T.d__law_labels 2 1 qP:=by
 refine nV T.d__law_labels.F sc__law_labels 1 3 rfl rfl (g:=x2) (fun cdv A outer s H E hr=>?_)
 unfold x2
 exact(by refine zM ?_ ?_;exact(yS 1 (zEU (zY (s:=[]) (by rfl)) (by refine zLF ?_;exact(hX (N':=["_law_cell_here", "_law_k"]) (cap:=[0]) rfl bB (X6 (by rfl) T.z_range (zR xN xO (zB 0 (pv 0)) zF)) (fun _ _ _ _=>(xJ 1 (show(["_law_cell_here", "_law_k"]:List Str).Nodup by decide +kernel))) (fun _ _ _ _=>by exact(by refine yQ ?_ ?_;exact(zY (s:=[113,120,122,106,118,107,97,101,105,109]) (by rfl));exact(zR xN xO (yK (xZ T) (hr.mono (by decide)) (by rfl) T.d__law_mixed.m T.d__law_mixed.F.kp T.d__law_mixed.b (by refine zA ?_ ?_;exact(zB 0 (pv 0));refine zA ?_ ?_;exact(zR xL xM zF (zB 1 (pv 1)));exact zO)) zF))) 2))) sc__law_labels.nd);exact(by refine zM ?_ ?_;exact(yS 2 (zR xN xO (zR wN wO (zB 0 (pv 0)) zF) (zR xL xM (hZ (by rfl) T.z_len (zB 1 (pv 1))) zF)) sc__law_labels.nd);exact(by refine zW ?_;exact(by refine y3 ?_;exact(by refine zFD ?_;exact(hX (N':=["_law_base", "_law_at", "_law_k"]) (cap:=[1,2]) rfl bB (X6 (by rfl) T.z_range zF) (fun _ _ _ _=>(xJ 2 (show(["_law_base", "_law_at", "_law_k"]:List Str).Nodup by decide +kernel))) (fun _ _ _ _=>by exact(zR xL xM (zR xL xM (zFZ (zB 0 (pv 0)) X5 (hI (zB 1 (pv 1)))) (by refine yQ ?_ ?_;exact(zY (s:=[119,114,121,115,117]) (by rfl));exact(zB 2 (pv 2)))) (zFZ (zB 0 (pv 0)) (hI (zB 1 (pv 1))) X5))) 3))))))
theorem sc__law_ways_to:FnScope ["_law_count", "_law_ways"] ["_law_count"] (zP (top 45)):=⟨rfl,rfl,rfl,by decide +kernel,rfl,by decide +kernel,by decide +kernel⟩
theorem kL(T:Txt K mg w.params):Ok P w base T.d__law_ways_to 1 1 yW:=by
 refine nV T.d__law_ways_to.F sc__law_ways_to 1 2 rfl rfl (g:=w6) (fun cdv A outer s H E hr=>?_)
 unfold w6
 exact(by refine zM ?_ ?_;exact(kU 1 (by refine jQ ?_;exact zO) sc__law_ways_to.nd);exact(by refine zM ?_ ?_;exact(dM WF PassesOwn.never (xU zFO zFP (zB 0 (pv 0)) zF (xH _)) (by refine zW ?_;exact(qY (xU (qH hr.units0) qI (zR xN xO (zB 0 (pv 0)) zF) zF (xH _)) (by refine zM ?_ ?_;exact(zAG (qF 1 (pv 1) zF));exact(by refine zW ?_;exact(yS 0 (zR wN wO (zR QU Q1 (zB 0 (pv 0)) zF) zF) sc__law_ways_to.nd))) (by refine zM ?_ ?_;exact(zAG (qF 1 (pv 1) (zR xN xO (zR wN wO (zB 0 (pv 0)) zF) zF)));exact(by refine zW ?_;exact(yS 0 (zR QU Q1 (zB 0 (pv 0)) zF) sc__law_ways_to.nd))))));exact(by refine zW ?_;exact(by refine y3 ?_;exact(by refine zFD ?_;exact(nZ rfl (by rfl) T.z_list (by rfl) T.z_reversed (cN 1 (pv 1))))))))
theorem sc__law_done:FnScope ["_law_told", "_law_worth", "_law_way", "_law_number", "_law_labels_here", "_law_one", "_law_other", "_law_x", "_law_both", "_law_fields"] ["_law_told", "_law_worth", "_law_way", "_law_number", "_law_labels_here"] (zP (top 46)):=⟨rfl,rfl,rfl,by decide +kernel,rfl,by decide +kernel,by decide +kernel⟩
theorem cL(T:Txt K mg w.params):Ok P w base T.d__law_done 1 5 jA:=by
 refine nV T.d__law_done.F sc__law_done 5 10 rfl rfl (g:=xC) (fun cdv A outer s H E hr=>?_)
 unfold xC
 exact(by refine zM ?_ ?_;exact(yS 5 (yQ (zB 4 (pv 4)) (zR xN xO (zB 3 (pv 3)) zF)) sc__law_done.nd);exact(by refine zM ?_ ?_;exact(yS 6 (yQ (zB 4 (pv 4)) (zR xN xO (zR xL xM (zR xL xM (zB 3 (pv 3)) zF) (zR xN xO (zR wN wO (zB 3 (pv 3)) zF) zF)) zF)) sc__law_done.nd);exact(by refine zM ?_ ?_;exact(qY (xU (qH hr.units0) qI (zB 2 (pv 2)) zF (xH _)) (by refine zW ?_;exact(by refine y3 ?_;exact(by refine zZ ?_;exact(by refine zA (by refine zZ ?_;exact(by refine zA (zY (s:=[116,97,103]) (by rfl)) ?_ (hs:=zS);refine zA (zB 5 (pv 5)) ?_ (hs:=zQ);refine zA (zB 0 (pv 0)) ?_ (hs:=zQ);exact zO)) ?_ (hs:=y9);refine zA (by refine zZ ?_;exact(by refine zA (zY (s:=[111,110,101]) (by rfl)) ?_ (hs:=zS);refine zA (zB 5 (pv 5)) ?_ (hs:=zQ);refine zA (zB 1 (pv 1)) ?_ (hs:=zQ);exact zO)) ?_ (hs:=y9);refine zA zF ?_ (hs:=zS);exact zO)))) x9);exact(by refine zM ?_ ?_;exact(qY (xU (qH hr.units0) qI (zB 2 (pv 2)) zF (xH _)) (by refine zW ?_;exact(by refine y3 ?_;exact(by refine zZ ?_;exact(by refine zA (by refine zZ ?_;exact(by refine zA (zY (s:=[119,105,116,104]) (by rfl)) ?_ (hs:=zS);refine zA (zB 5 (pv 5)) ?_ (hs:=zQ);refine zA (zB 0 (pv 0)) ?_ (hs:=zQ);refine zA (by refine zZ ?_;exact(zA (zY (s:=[101,109,112,116,121]) (by rfl)) zO (hs:=zS))) ?_ (hs:=y9);exact zO)) ?_ (hs:=y9);refine zA (by refine zZ ?_;exact(by refine zA (zY (s:=[114,101,99]) (by rfl)) ?_ (hs:=zS);refine zA (by refine zZ ?_;exact(zA (by refine zZ ?_;exact(by refine zA (zB 5 (pv 5)) ?_ (hs:=zQ);refine zA (zB 1 (pv 1)) ?_ (hs:=zQ);exact zO)) zO (hs:=y9))) ?_ (hs:=y9);exact zO)) ?_ (hs:=y9);refine zA zF ?_ (hs:=zS);exact zO)))) x9);exact(by refine zM ?_ ?_;exact(yS 7 (yQ (zB 4 (pv 4)) (zR xN xO (zR wN wO (zB 3 (pv 3)) zF) zF)) sc__law_done.nd);exact(by refine zM ?_ ?_;exact(yS 8 (by refine zZ ?_;exact(by refine zA (zY (s:=[119,105,116,104]) (by rfl)) ?_ (hs:=zS);refine zA (zB 5 (pv 5)) ?_ (hs:=zQ);refine zA (by refine zZ ?_;exact(by refine zA (zY (s:=[110,97,109,101]) (by rfl)) ?_ (hs:=zS);refine zA (zB 7 (pv 7)) ?_ (hs:=zQ);exact zO)) ?_ (hs:=y9);refine zA (by refine zZ ?_;exact(by refine zA (zY (s:=[119,105,116,104]) (by rfl)) ?_ (hs:=zS);refine zA (zB 6 (pv 6)) ?_ (hs:=zQ);refine zA (by refine zZ ?_;exact(by refine zA (zY (s:=[110,97,109,101]) (by rfl)) ?_ (hs:=zS);refine zA (zB 7 (pv 7)) ?_ (hs:=zQ);exact zO)) ?_ (hs:=y9);refine zA (by refine zZ ?_;exact(zA (zY (s:=[101,109,112,116,121]) (by rfl)) zO (hs:=zS))) ?_ (hs:=y9);exact zO)) ?_ (hs:=y9);exact zO)) sc__law_done.nd);exact(by refine zM ?_ ?_;exact(yS 9 (by refine zZ ?_;exact(by refine zA (by refine zZ ?_;exact(by refine zA (zER (by rfl) (by rfl) T.z_min (by refine zA (zB 5 (pv 5)) ?_ (hs:=zQ);refine zA (zB 6 (pv 6)) ?_ (hs:=zQ);exact zO)) ?_ (hs:=vM);refine zA (zB 1 (pv 1)) ?_ (hs:=zQ);exact zO)) ?_ (hs:=y9);refine zA (by refine zZ ?_;exact(by refine zA (zES (by rfl) (by rfl) T.z_max (by refine zA (zB 5 (pv 5)) ?_ (hs:=zQ);refine zA (zB 6 (pv 6)) ?_ (hs:=zQ);exact zO)) ?_ (hs:=vM);refine zA (zB 1 (pv 1)) ?_ (hs:=zQ);exact zO)) ?_ (hs:=y9);exact zO)) sc__law_done.nd);exact(by refine zW ?_;exact(by refine y3 ?_;exact(by refine zZ ?_;exact(by refine zA (by refine zZ ?_;exact(by refine zA (zY (s:=[100,111]) (by rfl)) ?_ (hs:=zS);refine zA (by refine zZ ?_;exact(by refine zA (zY (s:=[102,110]) (by rfl)) ?_ (hs:=zS);refine zA (zB 7 (pv 7)) ?_ (hs:=zQ);refine zA (zB 8 (pv 8)) ?_ (hs:=zQ);exact zO)) ?_ (hs:=y9);refine zA (zB 0 (pv 0)) ?_ (hs:=zQ);exact zO)) ?_ (hs:=y9);refine zA (by refine zZ ?_;exact(by refine zA (zY (s:=[114,101,99]) (by rfl)) ?_ (hs:=zS);refine zA (zB 9 (pv 9)) ?_ (hs:=zQ);exact zO)) ?_ (hs:=y9);refine zA zF ?_ (hs:=zS);exact zO)))))))))))
theorem QA:FnScope ["self", "expression", "around"] ["self", "expression", "around"] (zP (bF 8 1)):=⟨rfl,rfl,rfl,by decide +kernel,rfl,by decide +kernel,by decide +kernel⟩
noncomputable def bL:MEs:=(uDo (J3 (xI (zD (zE 1) (zD (zE 2) (zD (mC (.bl false)) zU))))))
theorem sz2:(2:Nat)<=sizeLine:=by decide
theorem sz3:(3:Nat)<=sizeLine:=by decide
theorem zA9(st:Mst)(ds:List D)(p:D×Mst)(hl:ds.length=2)(h:xD st ds=some p):mkU 2 3 bL st ds=some p:=by
 match ds,hl with
 |[e,b],_=>
  have h:(if st.wait.length<sizeLine then some (D.non,zB6 st (.tup [e,b,.bl false])) else none)=some p:=h
  by_cases hs:st.wait.length<sizeLine
  ·rw[if_pos hs] at h
   cases h
   show(bL st [.un,.v e,.v b]).bind _=_
   unfold bL uDo
   simp[J3,xI,zD,zU,zE,mC,hs,sz3]
  ·rw[if_neg hs] at h;cases h
theorem uS(T:Txt K mg w.params):FnOk P w K mg base CX0 1 T.m_begin.a T.m_begin.d ["self", "expression", "around"] (spM K T.C 2 xD):=by
 refine xK (XW (k:=0) T.m_begin.F QA 2 3 rfl rfl (g:=bL) (fun cdv A outer s H E hr=>?_)) zA9
 unfold bL
 exact(by refine xF ?_;exact(j9 (XJ (pv 0) T.cl T.n_waiting (by refine zZ ?_;exact(by refine zA (zB 1 (pv 1)) ?_ (hs:=zQ);refine zA (zB 2 (pv 2)) ?_ (hs:=zQ);refine zA rJ ?_ (hs:=zS);exact zO)))))
theorem zBW:FnScope ["self", "value"] ["self", "value"] (zP (bF 8 2)):=⟨rfl,rfl,rfl,by decide +kernel,rfl,by decide +kernel,by decide +kernel⟩
noncomputable def mU:MEs:=(uDo (zIS (zE 1)))
theorem zF9(st:Mst)(ds:List D)(p:D×Mst)(hl:ds.length=1)(h:xQ st ds=some p):mkU 1 2 mU st ds=some p:=by
 match ds,hl with
 |[e],_=>
  have h:(if st.come.length<sizeLine then some (D.non,zGR st e) else none)=some p:=h
  by_cases hs:st.come.length<sizeLine
  ·rw[if_pos hs] at h
   cases h
   show(mU st [.un,.v e]).bind _=_
   unfold mU uDo
   simp[zIS,zE,hs]
  ·rw[if_neg hs] at h;cases h
theorem vW(T:Txt K mg w.params):FnOk P w K mg base CX0 1 T.m_tell.a T.m_tell.d ["self", "value"] (spM K T.C 1 xQ):=by
 refine xK (XW (k:=0) T.m_tell.F zBW 1 2 rfl rfl (g:=mU) (fun cdv A outer s H E hr=>?_)) zF9
 unfold mU
 exact(by refine xF ?_;exact(j9 (zDH (pv 0) T.cl T.n_come (zB 1 (pv 1)))))
theorem zBX:FnScope ["self"] ["self"] (zP (bF 8 3)):=⟨rfl,rfl,rfl,by decide +kernel,rfl,by decide +kernel,by decide +kernel⟩
noncomputable def mV:MEs:=(rW (uIf vGe (rW (zJ7 (xI (zD (mC (.str [116,105,114,101,100])) (zD (mC .non) zU)))) (zAO (yZ (mC (.bl false))))) oH) (rW zIR (zAO (yZ (mC (.bl true))))))
theorem zGA(st:Mst)(ds:List D)(p:D×Mst)(hl:ds.length=0)(h:qE st ds=some p):mkU 0 1 mV st ds=some p:=by
 match ds,hl with
 |[],_=>
  have h:(if st.most<=st.steps then some (D.bl false,{ st with ended:=uF }) else some (.bl true,{ st with steps:=st.steps+1 }))=some p:=h
  show(mV st [.un]).bind _=_
  unfold mV rW uIf
  by_cases hs:st.most<=st.steps
  ·rw[if_pos hs] at h
   cases h
   simp[hs,vGe,zJ7,zAO,yZ,xI,zD,zU,mC,rW,uF,sz2]
  ·rw[if_neg hs] at h
   cases h
   simp[hs,vGe,zJ7,zAO,yZ,xI,zD,zU,mC,rW,uF,oH,zIR]
theorem XG(T:Txt K mg w.params):FnOk P w K mg base CX0 1 T.m_step.a T.m_step.d ["self"] (spM K T.C 0 qE):=by
 refine xK (XW (k:=0) T.m_step.F zBX 0 1 rfl rfl (g:=mV) (fun cdv A outer s H E hr=>?_)) zGA
 unfold mV
 exact(by refine jV ?_ ?_;exact(pQ (zK1 (uW (pv 0) T.cl T.n_steps dH) (uW (pv 0) T.cl T.n_most zD0) rfl) (by refine jV ?_ ?_;exact(zHL (pv 0) T.cl T.n_ended (by refine zZ ?_;exact(by refine zA (zY (s:=[116,105,114,101,100]) (by rfl)) ?_ (hs:=zS);refine zA zIK ?_ (hs:=zS);exact zO)));exact(by refine xF ?_;exact(nM (xA rJ)))) ZU);exact(by refine jV ?_ ?_;exact(zDA (pv 0) T.cl T.n_steps);exact(by refine xF ?_;exact(nM (xA rJ)))))
theorem sc_begin_parts:FnScope ["self", "expression", "around", "at"] ["self", "expression", "around"] (zP (bF 8 5)):=⟨rfl,rfl,rfl,by decide +kernel,rfl,by decide +kernel,by decide +kernel⟩
noncomputable def xX:MEs:=(rW (uDo (J3 (xI (zD (zE 1) (zD (zE 2) (zD (mC (.bl true)) zU)))))) (zLQ 0 3 (zK3 (mUn (zJU AH) (zJ ixD (zE 1) (mC (.int 0))))) (uDo (x6 2 xD (zV (yZ (zJ ixD (zE 1) (zE 3))) (zV (yZ (zE 2)) xP))))))
theorem cA{st:Mst}{e b:D}{q:D×Mst}(h:xD st [e,b]=some q):q=(.non,zB6 st (.tup [e,b,.bl false])):=by
 have h:(if st.wait.length<sizeLine then some (D.non,zB6 st (.tup [e,b,.bl false])) else none)=some q:=h
 by_cases hs:st.wait.length<sizeLine
 ·rw[if_pos hs] at h;cases h;rfl
 ·rw[if_neg hs] at h;cases h
theorem zMS{α:Type}{x:α}{l:List α}:atI (x::l) 0=some x:=by
 unfold atI ixN
 simp
theorem zE5{e:D}{l:List Int}(h:v7 e=some l){r:En}{i:Nat}(hr:r[i]?=some (.v e)):mUn (zJU AH) (zJ ixD (zE i) (mC (.int 0))) r=some (.tup (l.map .int)):=by
 unfold v7 at h
 split at h
 ·rename_i s' r'
  cases h
  have e3:zJ ixD (zE i) (mC (.int 0)) r=some (.str s'):=by
   unfold zJ zE
   rw[hr]
   exact zMS
  unfold mUn
  rw[e3];rfl
 ·cases h
theorem uB(st:Mst)(ds:List D)(p:D×Mst)(hl:ds.length=2)(h:yA st ds=some p):mkU 2 4 xX st ds=some p:=by
 match ds,hl with
 |[e,b],_=>
  have h:(if st.wait.length<sizeLine then (v7 e).bind fun l=>(pD e b l.reverse (zB6 st (.tup [e,b,.bl true]))).map fun s=>(D.non,s) else none)=some p:=h
  by_cases hs:st.wait.length<sizeLine
  ·rw[if_pos hs] at h
   obtain⟨l,e1,h⟩:=bind_some h
   obtain⟨s,e2,rfl⟩:=map_some h
   show(xX st [.un,.v e,.v b,.un]).bind _=_
   have loop:∀(l:List Int) (st s:Mst) (x:Sl),(x=.un\/∃i,x=.v (.int i))->pD e b l st=some s->∃x',oI 0 3 (uDo (x6 2 xD (zV (yZ (zJ ixD (zE 1) (zE 3))) (zV (yZ (zE 2)) xP)))) (l.map D.int) st [.un,.v e,.v b,x]=some (.nx s [.un,.v e,.v b,x']):=by
    intro l
    induction l with
    |nil=>intro st s x _ h;cases h;exact⟨x,rfl⟩
    |cons i l ih=>
     intro st s x hx h
     obtain⟨q,h1,h2⟩:=bind_some (show(ixD e (.int i)).bind (fun p=>(xD st [p,b]).bind fun q=>pD e b l q.2)=some s from h)
     obtain⟨q2,h3,h4⟩:=bind_some h2
     obtain⟨x',hx'⟩:=ih q2.2 s (.v (.int i)) (.inr ⟨i,rfl⟩) h4
     refine⟨x',?_⟩
     have hset:yN 3 (.int i) [.un,.v e,.v b,x]=some [.un,.v e,.v b,.v (.int i)]:=by
      rcases hx with rfl|⟨j,rfl⟩<;>rfl
     have hm:x6 2 xD (zV (yZ (zJ ixD (zE 1) (zE 3))) (zV (yZ (zE 2)) xP)) st [.un,.v e,.v b,.v (.int i)]=some q2:=by
      have e1:zJ ixD (zE 1) (zE 3) [.un,.v e,.v b,.v (.int i)]=some q:=h1
      have e2:zE 2 [.un,.v e,.v b,.v (.int i)]=some b:=rfl
      unfold x6
      simp only[zV,yZ,xP,e1,e2,Option.map_some,ac,av,List.length_nil,if_true]
      exact h3
     rw[ao]
     unfold oI
     rw[if_neg (by decide),hset,ac]
     unfold uDo
     rw[hm]
     exact hx'
   obtain⟨x',hx'⟩:=loop l.reverse _ s .un (.inl rfl) e2
   have ea:zK3 (mUn (zJU AH) (zJ ixD (zE 1) (mC (.int 0)))) [.un,.v e,.v b,.un]=some (l.reverse.map D.int):=by
    unfold zK3 mTp
    rw[zE5 e1 rfl]
    show some ((l.map D.int).reverse)=_
    rw[List.map_reverse]
   unfold xX rW
   have e4:uDo (J3 (xI (zD (zE 1) (zD (zE 2) (zD (mC (.bl true)) zU))))) st [.un,.v e,.v b,.un]=some (.nx (zB6 st (.tup [e,b,.bl true])) [.un,.v e,.v b,.un]):=by
    unfold uDo
    simp[J3,xI,zD,zU,zE,mC,hs,sz3]
   rw[e4,ac]
   unfold zLQ
   dsimp only
   rw[ea,ac]
   show(oI _ _ _ _ _ _).bind _=_
   rw[hx']
   rfl
  ·rw[if_neg hs] at h;cases h
theorem vP(T:Txt K mg w.params):FnOk P w K mg base CX0 2 T.m_begin_parts.a T.m_begin_parts.d ["self", "expression", "around"] (spM K T.C 2 yA):=by
 refine xK (XW (k:=1) T.m_begin_parts.F sc_begin_parts 2 4 rfl rfl (g:=xX) (fun cdv A outer s H E hr=>?_)) uB
 unfold xX
 exact(by refine jV ?_ ?_;exact(j9 (XJ (pv 0) T.cl T.n_waiting (by refine zZ ?_;exact(by refine zA (zB 1 (pv 1)) ?_ (hs:=zQ);refine zA (zB 2 (pv 2)) ?_ (hs:=zQ);refine zA rJ ?_ (hs:=zS);exact zO))));exact(by refine xF ?_;exact(zHK 3 PassesOwn.never rfl (zIH (by rfl) T.z_reversed (WG T.ahead (by rfl) (yQ (zB 1 (pv 1)) zF) WD)) sc_begin_parts.nd (by refine xF ?_;exact(j9 (wP (pv 0) T.cl T.h_begin (fun _ _ _ _ _ _=>rfl) (uS T) (hr.mono (by omega)) T.m_begin.b (yM (xA (yQ (zB 1 (pv 1)) (zB 3 (pv 3)))) (yM (xA (zB 2 (pv 2))) qC))))))))
theorem uJ:FnScope ["self", "expression"] ["self", "expression"] (zP (bF 8 6)):=⟨rfl,rfl,rfl,by decide +kernel,rfl,by decide +kernel,by decide +kernel⟩
noncomputable def wD:MEs:=(zAO (zFH (mUn (zJU AH) (zJ ixD (zE 1) (mC (.int 0))))))
theorem cD(st:Mst)(ds:List D)(p:D×Mst)(hl:ds.length=1)(h:yH st ds=some p):mkU 1 2 wD st ds=some p:=by
 match ds,hl with
 |[e],_=>
  obtain⟨l,e1,h⟩:=bind_some (show(v7 e).bind _=some p from h)
  show(wD st [.un,.v e]).bind _=_
  unfold wD zAO zFH
  rw[zE5 e1 rfl,ac]
  dsimp only
  rw[ay,h]
  rfl
theorem uR(T:Txt K mg w.params):FnOk P w K mg base CX0 1 T.m_parts_come.a T.m_parts_come.d ["self", "expression"] (spM K T.C 1 yH):=by
 refine xK (XW (k:=0) T.m_parts_come.F uJ 1 2 rfl rfl (g:=wD) (fun cdv A outer s H E hr=>?_)) cD
 unfold wD
 exact(by refine xF ?_;exact(nM (zDE (N':=["self", "at"]) rfl bB (WG T.ahead (by rfl) (yQ (zB 1 (pv 1)) zF) WD) rfl (fun _ _ _ _=>pJ (show(["self", "at"]:List Str).Nodup by decide +kernel) rfl (Or.inl rfl)) (fun _ _ _ _=>pv 0) T.cl T.n_come (fun _ _ _ _=>rfl) (fun _ _ _ _=>rfl))))
theorem tV:FnScope ["plain", "expression", "bound", "parts"] ["plain", "expression", "bound", "parts"] (zP (top 21)):=⟨rfl,rfl,rfl,by decide +kernel,rfl,by decide +kernel,by decide +kernel⟩
noncomputable def vB:MEs:=(uDo (x6 1 xQ (zV (yZ (zJ ixD (zE 1) (mC (.int 1)))) xP)))
theorem WW(st:Mst)(ds:List D)(p:D×Mst)(hl:ds.length=3)(h:qO st ds=some p):mkU 3 4 vB st ds=some p:=by
 unfold qO at h
 split at h
 ·rename_i a v c b ps
  show(vB st [.un,.v (.tup [a,v,c]),.v b,.v ps]).bind _=_
  have e1:zJ ixD (zE 1) (mC (.int 1)) [.un,.v (.tup [a,v,c]),.v b,.v ps]=some v:=rfl
  unfold vB uDo x6
  simp only[zV,yZ,xP,e1,Option.map_some,ac,av,List.length_nil,if_true]
  rw[h]
  have h:(if st.come.length<sizeLine then some (D.non,zGR st v) else none)=some p:=h
  by_cases hs:st.come.length<sizeLine
  ·rw[if_pos hs] at h;cases h;rfl
  ·rw[if_neg hs] at h;cases h
 ·cases h
theorem ZN(T:Txt K mg w.params):FnOk P w K mg base CX0 3 T.d_of_num.a T.d_of_num.d ["plain", "expression", "bound", "parts"] (spM K T.C 3 qO):=by
 refine xK (XW (k:=2) T.d_of_num.F tV 3 4 rfl rfl (g:=vB) (fun cdv A outer s H E hr=>?_)) WW
 unfold vB
 exact(by refine xF ?_;exact(j9 (wP (pv 0) T.cl T.h_tell (fun _ _ _ _ _ _=>rfl) (vW T) (hr.mono (by omega)) T.m_tell.b (yM (xA (yQ (zB 1 (pv 1)) zF)) qC))))
theorem nA:FnScope ["plain", "expression", "bound", "parts"] ["plain", "expression", "bound", "parts"] (zP (top 22)):=⟨rfl,rfl,rfl,by decide +kernel,rfl,by decide +kernel,by decide +kernel⟩
noncomputable def qT:MEs:=(uIf (cQ (zDL false (zJ ixD (zE 1) (mC (.int 1))) (bG (zE 2)))) (uDo (x6 1 xQ (zV (yZ (zHP (bG (zE 2)) (zJ ixD (zE 1) (mC (.int 1))))) xP))) (uIf (vBl (cE qE)) (uDo (x6 2 xD (zV (tJ (zJ ixD (zE 1) (mC (.int 1)))) (zV (yZ (JB mD0)) xP)))) oH))
theorem Y3(st:Mst):qE st []=if st.most<=st.steps then some (D.bl false,{ st with ended:=uF }) else some (.bl true,{ st with steps:=st.steps+1 }):=rfl
theorem jI{st:Mst}{v:D}{q:D×Mst}(h:xQ st [v]=some q):q=(.non,zGR st v):=by
 have h:(if st.come.length<sizeLine then some (D.non,zGR st v) else none)=some q:=h
 by_cases hs:st.come.length<sizeLine
 ·rw[if_pos hs] at h;cases h;rfl
 ·rw[if_neg hs] at h;cases h
theorem tH(st:Mst)(ds:List D)(p:D×Mst)(hl:ds.length=3)(h:yR st ds=some p):mkU 3 4 qT st ds=some p:=by
 unfold yR at h
 split at h
 ·rename_i a s c ks0 l0 ps
  show(qT st [.un,.v (.tup [a,.str s,c]),.v (.dct ks0 l0),.v ps]).bind _=_
  have e2:zJ ixD (zE 1) (mC (.int 1)) [.un,.v (.tup [a,.str s,c]),.v (.dct ks0 l0),.v ps]=some (.str s):=rfl
  have e3:zDL false (zJ ixD (zE 1) (mC (.int 1))) (bG (zE 2)) [.un,.v (.tup [a,.str s,c]),.v (.dct ks0 l0),.v ps]=some (xB ks0 l0 (.inr ⟨s.toArray⟩)).isSome:=rfl
  have e6:zHP (bG (zE 2)) (zJ ixD (zE 1) (mC (.int 1))) [.un,.v (.tup [a,.str s,c]),.v (.dct ks0 l0),.v ps]=xB ks0 l0 (.inr ⟨s.toArray⟩):=rfl
  split at h
  ·rename_i v hv
   have hb:=jI h
   rw[hv] at e3 e6
   unfold qT uIf
   simp only[cQ,e3,e6,Option.isSome_some,Option.map_some,ac,if_true,uDo,x6,zV,xP,yZ,av,List.length_nil]
   rw[h];subst hb;rfl
  rename_i hv
  obtain⟨q,e1,h⟩:=bind_some h
  rw[hv] at e3
  unfold qT uIf
  simp only[cQ,e3,Option.isSome_none,Option.map_some,ac,Bool.false_eq_true,if_false,vBl,cE,e1]
  rw[Y3] at e1
  by_cases hs:st.most<=st.steps
  ·rw[if_pos hs] at e1
   cases e1
   cases h
   rfl
  ·rw[if_neg hs] at e1
   cases e1
   dsimp only at h
   split at h
   ·rename_i ks l _ hd
    obtain⟨d,e4,h⟩:=bind_some h
    have hb:=cA h
    subst hb
    have e5:tJ (zJ ixD (zE 1) (mC (.int 1))) { st with steps:=st.steps+1 } [.un,.v (.tup [a,.str s,c]),.v (.dct ks0 l0),.v ps]=some (d,{ st with steps:=st.steps+1 }):=by
     unfold tJ
     rw[e2,ac]
     show(match st.defs with | .dct ks l=>(xB ks l (.inr ⟨s.toArray⟩)).map fun d=>(d,{ st with steps:=st.steps+1 })|_=>none)=_
     rw[hd]
     dsimp only
     rw[e4];rfl
    dsimp only[ac]
    simp only[if_true,uDo,x6,zV,xP,e5,ac,Option.map_some,yZ,JB,mD0,av,List.length_nil]
    rw[h];rfl
   ·rename_i z;cases z
   ·cases h
 ·cases h
theorem nH(T:Txt K mg w.params):FnOk P w K mg base CX0 3 T.d_of_name.a T.d_of_name.d ["plain", "expression", "bound", "parts"] (spM K T.C 3 yR):=by
 refine xK (XW (k:=2) T.d_of_name.F nA 3 4 rfl rfl (g:=qT) (fun cdv A outer s H E hr=>?_)) tH
 unfold qT
 exact(by refine xF ?_;exact(pQ (gP (zEG (yQ (zB 1 (pv 1)) zF) (zF0 (zB 2 (pv 2))))) (by refine xF ?_;exact(j9 (wP (pv 0) T.cl T.h_tell (fun _ _ _ _ _ _=>rfl) (vW T) (hr.mono (by omega)) T.m_tell.b (yM (xA (zEZ (un1 hr) (zF0 (zB 2 (pv 2))) (yQ (zB 1 (pv 1)) zF))) qC)))) (by refine xF ?_;exact(pQ (zI8 (dE (pv 0) T.cl T.h_step (fun _ _ _ _ _ _=>rfl) (XG T) (hr.mono (by omega)) T.m_step.b)) (by refine xF ?_;exact(j9 (wP (pv 0) T.cl T.h_begin (fun _ _ _ _ _ _=>rfl) (uS T) (hr.mono (by omega)) T.m_begin.b (yM (XI (un1 hr) (pv 0) T.cl T.n_defs (yQ (zB 1 (pv 1)) zF)) (yM (xA (zAH JO)) qC))))) ZU))))
theorem oC(ks:List Key)(l:List D)(x:List Nat)(v:D)(h:ks.length<sizeLine):∃as,jS [.v (.dct ks l),.v (.str x),.v v]=some (.g (j6 ks l (.inr ⟨x.toArray⟩) v).1 (j6 ks l (.inr ⟨x.toArray⟩) v).2,as):=by
 refine⟨[.v (.dct ks l),.v (.str x),.v v],?_⟩
 have e1:tX 3 (zE 1) (zE 2) [.v (.dct ks l),.v (.str x),.v v,.d ks l]=some (.nx [.v (.dct ks l),.v (.str x),.v v,.d (j6 ks l (.inr ⟨x.toArray⟩) v).1 (j6 ks l (.inr ⟨x.toArray⟩) v).2]):=if_pos h
 have e0:J6 3 (bG (zE 0)) [.v (.dct ks l),.v (.str x),.v v,.un]=some (.nx [.v (.dct ks l),.v (.str x),.v v,.d ks l]):=rfl
 show(jP [.v (.dct ks l),.v (.str x),.v v,.un]).bind _=_
 unfold jP yT
 rw[e0,ac]
 show(((tX 3 (zE 1) (zE 2) [.v (.dct ks l),.v (.str x),.v v,.d ks l]).bind _)).bind _=_
 rw[e1];rfl
theorem W6:FnScope ["plain", "expression", "bound", "parts"] ["plain", "expression", "bound", "parts"] (zP (top 23)):=⟨rfl,rfl,rfl,by decide +kernel,rfl,by decide +kernel,by decide +kernel⟩
noncomputable def bI:MEs:=(uDo (x6 1 xQ (zV (yZ (xI (zD (mC (.str [102,110])) (zD (zJ ixD (zE 1) (mC (.int 1))) (zD (zJ ixD (zE 1) (mC (.int 2))) (zD (zE 2) zU)))))) xP)))
theorem zA6(st:Mst)(ds:List D)(p:D×Mst)(hl:ds.length=3)(h:jX st ds=some p):mkU 3 4 bI st ds=some p:=by
 unfold jX at h
 split at h
 ·rename_i a x e c b ps
  show(bI st [.un,.v (.tup [a,x,e,c]),.v b,.v ps]).bind _=_
  have e1:xI (zD (mC (.str [102,110])) (zD (zJ ixD (zE 1) (mC (.int 1))) (zD (zJ ixD (zE 1) (mC (.int 2))) (zD (zE 2) zU)))) [.un,.v (.tup [a,x,e,c]),.v b,.v ps]=some (.tup [.str [102,110],x,e,b]):=rfl
  have hb:=jI h
  unfold bI uDo x6
  simp only[zV,yZ,xP,e1,Option.map_some,ac,av,List.length_nil,if_true]
  rw[h];subst hb;rfl
 ·cases h
theorem QY(T:Txt K mg w.params):FnOk P w K mg base CX0 3 T.d_of_fn.a T.d_of_fn.d ["plain", "expression", "bound", "parts"] (spM K T.C 3 jX):=by
 refine xK (XW (k:=2) T.d_of_fn.F W6 3 4 rfl rfl (g:=bI) (fun cdv A outer s H E hr=>?_)) zA6
 unfold bI
 exact(by refine xF ?_;exact(j9 (wP (pv 0) T.cl T.h_tell (fun _ _ _ _ _ _=>rfl) (vW T) (hr.mono (by omega)) T.m_tell.b (yM (xA (by refine zZ ?_;exact(by refine zA (zY (s:=[102,110]) (by rfl)) ?_ (hs:=zS);refine zA (yQ (zB 1 (pv 1)) zF) ?_ (hs:=jE);refine zA (yQ (zB 1 (pv 1)) zF) ?_ (hs:=jE);refine zA (zB 2 (pv 2)) ?_ (hs:=zQ);exact zO))) qC))))
theorem W7:FnScope ["plain", "expression", "bound", "parts"] ["plain", "expression", "bound", "parts"] (zP (top 24)):=⟨rfl,rfl,rfl,by decide +kernel,rfl,by decide +kernel,by decide +kernel⟩
noncomputable def bJ:MEs:=(uIf (cQ (mBl (zJ neA (yG 1 xW (zD (zJ ixD (zE 3) (mC (.int 0))) zU)) (mC (.str [102,110]))))) zBG (uIf (vBl (cE qE)) (uDo (x6 2 xD (zV (yZ (zJ ixD (zJ ixD (zE 3) (mC (.int 0))) (mC (.int 2)))) (zV (yZ (JB (ZW 3 jS (zD (zJ ixD (zJ ixD (zE 3) (mC (.int 0))) (mC (.int 3))) (zD (zJ ixD (zJ ixD (zE 3) (mC (.int 0))) (mC (.int 1))) (zD (zJ ixD (zE 3) (mC (.int 1))) zU)))))) xP)))) oH))
theorem zA7(st:Mst)(ds:List D)(p:D×Mst)(hl:ds.length=3)(h:wW st ds=some p):mkU 3 4 bJ st ds=some p:=by
 unfold wW at h
 split at h
 ·rename_i ex b w x e ks l v
  split at h
  case isFalse=>cases h
  rename_i hw
  obtain⟨rfl,hk⟩:=hw
  obtain⟨q,e1,h⟩:=bind_some h
  show(bJ st [.un,.v ex,.v b,.v (.lst [.tup [.str [102,110],.str x,e,.dct ks l],v])]).bind _=_
  have e2:mBl (zJ neA (yG 1 xW (zD (zJ ixD (zE 3) (mC (.int 0))) zU)) (mC (.str [102,110]))) [.un,.v ex,.v b,.v (.lst [.tup [.str [102,110],.str x,e,.dct ks l],v])]=some false:=rfl
  have e3:zJ ixD (zJ ixD (zE 3) (mC (.int 0))) (mC (.int 2)) [.un,.v ex,.v b,.v (.lst [.tup [.str [102,110],.str x,e,.dct ks l],v])]=some e:=rfl
  have e4:JB (ZW 3 jS (zD (zJ ixD (zJ ixD (zE 3) (mC (.int 0))) (mC (.int 3))) (zD (zJ ixD (zJ ixD (zE 3) (mC (.int 0))) (mC (.int 1))) (zD (zJ ixD (zE 3) (mC (.int 1))) zU)))) [.un,.v ex,.v b,.v (.lst [.tup [.str [102,110],.str x,e,.dct ks l],v])]=some (.dct (j6 ks l (.inr ⟨x.toArray⟩) v).1 (j6 ks l (.inr ⟨x.toArray⟩) v).2):=by
   obtain⟨as,hb⟩:=oC ks l x v hk
   have ea:zD (zJ ixD (zJ ixD (zE 3) (mC (.int 0))) (mC (.int 3))) (zD (zJ ixD (zJ ixD (zE 3) (mC (.int 0))) (mC (.int 1))) (zD (zJ ixD (zE 3) (mC (.int 1))) zU)) [.un,.v ex,.v b,.v (.lst [.tup [.str [102,110],.str x,e,.dct ks l],v])]=some [.dct ks l,.str x,v]:=rfl
   unfold JB ZW
   rw[ea]
   show((jS [.v (.dct ks l),.v (.str x),.v v]).bind _).map _=_
   rw[hb];rfl
  unfold bJ uIf
  simp only[cQ,e2,Option.map_some,ac,Bool.false_eq_true,if_false,vBl,cE,e1]
  rw[Y3] at e1
  by_cases hs:st.most<=st.steps
  ·rw[if_pos hs] at e1
   cases e1
   cases h
   rfl
  ·rw[if_neg hs] at e1
   cases e1
   dsimp only at h
   have hb:=cA h
   subst hb
   dsimp only[ac]
   simp only[if_true,uDo,x6,zV,xP,e3,e4,ac,Option.map_some,yZ,av,List.length_nil]
   rw[h];rfl
 ·cases h
theorem QZ(T:Txt K mg w.params):FnOk P w K mg base CX0 3 T.d_of_do.a T.d_of_do.d ["plain", "expression", "bound", "parts"] (spM K T.C 3 wW):=by
 refine xK (XW (k:=2) T.d_of_do.F W7 3 4 rfl rfl (g:=bJ) (fun cdv A outer s H E hr=>?_)) zA7
 unfold bJ
 exact(by refine xF ?_;exact(pQ (gP (xU (ZI hr.units0) ZP (yK (wF T) (hr.mono (by decide)) (by rfl) T.d_sort_of.m T.d_sort_of.F.kp T.d_sort_of.b (zA (yQ (zB 3 (pv 3)) zF) zO (hs:=jE))) (zY (s:=[102,110]) (by rfl)) (xH _))) pP (by refine xF ?_;exact(pQ (zI8 (dE (pv 0) T.cl T.h_step (fun _ _ _ _ _ _=>rfl) (XG T) (hr.mono (by omega)) T.m_step.b)) (by refine xF ?_;exact(j9 (wP (pv 0) T.cl T.h_begin (fun _ _ _ _ _ _=>rfl) (uS T) (hr.mono (by omega)) T.m_begin.b (yM (xA (yQ (yQ (zB 3 (pv 3)) zF) zF)) (yM (xA (zAH (zD3 (nJ T) (hr.mono (by decide)) (by rfl) T.d_binding.m T.d_binding.F.kp T.d_binding.b (by refine zA (yQ (yQ (zB 3 (pv 3)) zF) zF) ?_ (hs:=jE);refine zA (yQ (yQ (zB 3 (pv 3)) zF) zF) ?_ (hs:=jE);refine zA (yQ (zB 3 (pv 3)) zF) ?_ (hs:=jE);exact zO)))) qC))))) ZU))))
theorem gB:FnScope ["plain", "expression", "bound", "parts"] ["plain", "expression", "bound", "parts"] (zP (top 25)):=⟨rfl,rfl,rfl,by decide +kernel,rfl,by decide +kernel,by decide +kernel⟩
noncomputable def qQ:MEs:=(uDo (x6 1 xQ (zV (yZ (xI (zD (mC (.str [114,101,99])) (zD (JB mD0) zU)))) xP)))
theorem mT(st:Mst)(ds:List D)(p:D×Mst)(hl:ds.length=3)(h:x3 st ds=some p):mkU 3 4 qQ st ds=some p:=by
 unfold x3 at h
 split at h
 ·rename_i x b ps
  show(qQ st [.un,.v x,.v b,.v ps]).bind _=_
  have e1:xI (zD (mC (.str [114,101,99])) (zD (JB mD0) zU)) [.un,.v x,.v b,.v ps]=some (.tup [.str [114,101,99],.dct [] []]):=rfl
  have hb:=jI h
  unfold qQ uDo x6
  simp only[zV,yZ,xP,e1,Option.map_some,ac,av,List.length_nil,if_true]
  rw[h];subst hb;rfl
 ·cases h
theorem gM(T:Txt K mg w.params):FnOk P w K mg base CX0 3 T.d_of_empty.a T.d_of_empty.d ["plain", "expression", "bound", "parts"] (spM K T.C 3 x3):=by
 refine xK (XW (k:=2) T.d_of_empty.F gB 3 4 rfl rfl (g:=qQ) (fun cdv A outer s H E hr=>?_)) mT
 unfold qQ
 exact(by refine xF ?_;exact(j9 (wP (pv 0) T.cl T.h_tell (fun _ _ _ _ _ _=>rfl) (vW T) (hr.mono (by omega)) T.m_tell.b (yM (xA (by refine zZ ?_;exact(by refine zA (zY (s:=[114,101,99]) (by rfl)) ?_ (hs:=zS);refine zA (zAH JO) ?_;exact zO))) qC))))
theorem tU:FnScope ["plain", "expression", "bound", "parts"] ["plain", "expression", "bound", "parts"] (zP (top 30)):=⟨rfl,rfl,rfl,by decide +kernel,rfl,by decide +kernel,by decide +kernel⟩
noncomputable def vA:MEs:=(uDo (x6 1 xQ (zV (yZ (xI (zD (mC (.str [111,110,101])) (zD (zJ ixD (zE 1) (mC (.int 1))) (zD (zJ ixD (zE 3) (mC (.int 0))) zU))))) xP)))
theorem WV(st:Mst)(ds:List D)(p:D×Mst)(hl:ds.length=3)(h:w8 st ds=some p):mkU 3 4 vA st ds=some p:=by
 unfold w8 at h
 split at h
 ·rename_i a s c d b v
  show(vA st [.un,.v (.tup [a,s,c,d]),.v b,.v (.lst [v])]).bind _=_
  have e1:xI (zD (mC (.str [111,110,101])) (zD (zJ ixD (zE 1) (mC (.int 1))) (zD (zJ ixD (zE 3) (mC (.int 0))) zU))) [.un,.v (.tup [a,s,c,d]),.v b,.v (.lst [v])]=some (.tup [.str [111,110,101],s,v]):=rfl
  have hb:=jI h
  unfold vA uDo x6
  simp only[zV,yZ,xP,e1,Option.map_some,ac,av,List.length_nil,if_true]
  rw[h];subst hb;rfl
 ·cases h
theorem ZM(T:Txt K mg w.params):FnOk P w K mg base CX0 3 T.d_of_tag.a T.d_of_tag.d ["plain", "expression", "bound", "parts"] (spM K T.C 3 w8):=by
 refine xK (XW (k:=2) T.d_of_tag.F tU 3 4 rfl rfl (g:=vA) (fun cdv A outer s H E hr=>?_)) WV
 unfold vA
 exact(by refine xF ?_;exact(j9 (wP (pv 0) T.cl T.h_tell (fun _ _ _ _ _ _=>rfl) (vW T) (hr.mono (by omega)) T.m_tell.b (yM (xA (by refine zZ ?_;exact(by refine zA (zY (s:=[111,110,101]) (by rfl)) ?_ (hs:=zS);refine zA (yQ (zB 1 (pv 1)) zF) ?_ (hs:=jE);refine zA (yQ (zB 3 (pv 3)) zF) ?_ (hs:=jE);exact zO))) qC))))
theorem m9:FnScope ["plain", "expression", "bound", "parts"] ["plain", "expression", "bound", "parts"] (zP (top 27)):=⟨rfl,rfl,rfl,by decide +kernel,rfl,by decide +kernel,by decide +kernel⟩
noncomputable def jH:MEs:=(uIf (cQ (uX (yG 2 xR (zD (zJ ixD (zE 3) (mC (.int 1))) (zD (zJ ixD (zE 1) (mC (.int 1))) zU))))) (uDo (x6 1 xQ (zV (yZ (yG 3 wI (zD (zJ ixD (zE 3) (mC (.int 1))) (zD (zJ ixD (zE 1) (mC (.int 1))) (zD (zJ ixD (zE 3) (mC (.int 0))) zU))))) xP))) zBG)
theorem zA3(w:D)(ks:List Key)(l:List D)(x:List Nat)(v:D)(h:ks.length<sizeLine):∃as,wI [.v (.tup [w,.dct ks l]),.v (.str x),.v v]=some (.v (.tup [.str [114,101,99],.dct (j6 ks l (.inr ⟨x.toArray⟩) v).1 (j6 ks l (.inr ⟨x.toArray⟩) v).2]),as):=by
 refine⟨[.v (.tup [w,.dct ks l]),.v (.str x),.v v],?_⟩
 have e1:tX 3 (zE 1) (zE 2) [.v (.tup [w,.dct ks l]),.v (.str x),.v v,.d ks l]=some (.nx [.v (.tup [w,.dct ks l]),.v (.str x),.v v,.d (j6 ks l (.inr ⟨x.toArray⟩) v).1 (j6 ks l (.inr ⟨x.toArray⟩) v).2]):=if_pos h
 have e0:J6 3 (bG (zJ ixD (zE 0) (mC (.int 1)))) [.v (.tup [w,.dct ks l]),.v (.str x),.v v,.un]=some (.nx [.v (.tup [w,.dct ks l]),.v (.str x),.v v,.d ks l]):=rfl
 show(wG [.v (.tup [w,.dct ks l]),.v (.str x),.v v,.un]).bind _=_
 unfold wG yT
 rw[e0,ac]
 show(((tX 3 (zE 1) (zE 2) [.v (.tup [w,.dct ks l]),.v (.str x),.v v,.d ks l]).bind _)).bind _=_
 rw[e1];rfl
theorem JK(ks:List Key)(l:List D)(x:List Nat)(h:xB ks l (.inr ⟨x.toArray⟩)=none):∃as,xR [.v (.tup [.str [114,101,99],.dct ks l]),.v (.str x)]=some (.v (.bl true),as):=by
 have e1:zFV true (zE 1) (bG (zJ ixD (zE 0) (mC (.int 1)))) [.v (.tup [.str [114,101,99],.dct ks l]),.v (.str x)]=some (.bl true):=by
  show some (D.bl (!(xB ks l (.inr ⟨x.toArray⟩)).isSome))=_
  rw[h];rfl
 have e2:zJ eqA (yG 1 xW (zD (zE 0) zU)) (mC (.str [114,101,99])) [.v (.tup [.str [114,101,99],.dct ks l]),.v (.str x)]=some (.bl true):=rfl
 refine jL (r':=[.v (.tup [.str [114,101,99],.dct ks l]),.v (.str x)]) (wE ?_)
 show zFA _ _ [.v (.tup [.str [114,101,99],.dct ks l]),.v (.str x)]=_
 unfold zFA
 rw[e2,ac]
 exact e1
theorem tG(st:Mst)(ds:List D)(p:D×Mst)(hl:ds.length=3)(h:x8 st ds=some p):mkU 3 4 jH st ds=some p:=by
 unfold x8 at h
 split at h
 ·rename_i a s c d f b v w ks l
  split at h
  case isFalse=>cases h
  rename_i hw
  obtain⟨rfl,hn,hk⟩:=hw
  show(jH st [.un,.v (.tup [a,.str s,c,d,f]),.v b,.v (.lst [v,.tup [.str [114,101,99],.dct ks l]])]).bind _=_
  have e1:uX (yG 2 xR (zD (zJ ixD (zE 3) (mC (.int 1))) (zD (zJ ixD (zE 1) (mC (.int 1))) zU))) [.un,.v (.tup [a,.str s,c,d,f]),.v b,.v (.lst [v,.tup [.str [114,101,99],.dct ks l]])]=some true:=by
   have hq:yG 2 xR (zD (zJ ixD (zE 3) (mC (.int 1))) (zD (zJ ixD (zE 1) (mC (.int 1))) zU)) [.un,.v (.tup [a,.str s,c,d,f]),.v b,.v (.lst [v,.tup [.str [114,101,99],.dct ks l]])]=some (.bl true):=xE (p:=.v (.bl true)) (zN (x:=.tup [.str [114,101,99],.dct ks l]) rfl (zN (x:=.str s) rfl yF)) rfl (JK ks l s hn)
   unfold uX
   rw[hq];rfl
  have e2:yG 3 wI (zD (zJ ixD (zE 3) (mC (.int 1))) (zD (zJ ixD (zE 1) (mC (.int 1))) (zD (zJ ixD (zE 3) (mC (.int 0))) zU))) [.un,.v (.tup [a,.str s,c,d,f]),.v b,.v (.lst [v,.tup [.str [114,101,99],.dct ks l]])]=some (.tup [.str [114,101,99],.dct (j6 ks l (.inr ⟨s.toArray⟩) v).1 (j6 ks l (.inr ⟨s.toArray⟩) v).2]):=by
   obtain⟨as,hq⟩:=zA3 (.str [114,101,99]) ks l s v hk
   show(wI [.v (.tup [.str [114,101,99],.dct ks l]),.v (.str s),.v v]).map _=_
   rw[hq];rfl
  have hb:=jI h
  unfold jH uIf
  simp only[cQ,e1,e2,Option.map_some,ac,uDo,x6,zV,xP,yZ,av,List.length_nil,if_true]
  rw[h];subst hb;rfl
 ·cases h
theorem nG(T:Txt K mg w.params):FnOk P w K mg base CX0 3 T.d_of_with.a T.d_of_with.d ["plain", "expression", "bound", "parts"] (spM K T.C 3 x8):=by
 refine xK (XW (k:=2) T.d_of_with.F m9 3 4 rfl rfl (g:=jH) (fun cdv A outer s H E hr=>?_)) tG
 unfold jH
 exact(by refine xF ?_;exact(pQ (gP (vS (yK (kK T) (hr.mono (by decide)) (by rfl) T.d_has_no_field.m T.d_has_no_field.F.kp T.d_has_no_field.b (by refine zA (yQ (zB 3 (pv 3)) zF) ?_ (hs:=jE);refine zA (yQ (zB 1 (pv 1)) zF) ?_ (hs:=jE);exact zO)))) (by refine xF ?_;exact(j9 (wP (pv 0) T.cl T.h_tell (fun _ _ _ _ _ _=>rfl) (vW T) (hr.mono (by omega)) T.m_tell.b (yM (xA (yK (uQ T) (hr.mono (by decide)) (by rfl) T.d_with_field.m T.d_with_field.F.kp T.d_with_field.b (by refine zA (yQ (zB 3 (pv 3)) zF) ?_ (hs:=jE);refine zA (yQ (zB 1 (pv 1)) zF) ?_ (hs:=jE);refine zA (yQ (zB 3 (pv 3)) zF) ?_ (hs:=jE);exact zO))) qC)))) pP))
theorem W9:FnScope ["self", "expression", "bound", "parts"] ["self", "expression", "bound", "parts"] (zP (bF 16 1)):=⟨rfl,rfl,rfl,by decide +kernel,rfl,by decide +kernel,by decide +kernel⟩
noncomputable def bK:MEs:=(uDo (zFG 3 ways (zJ ixD (zE 1) (mC (.int 0))) (zBE (zD (zE 1) (zD (zE 2) (zD (zE 3) zU))))))
theorem zA8(st:Mst)(ds:List D)(p:D×Mst)(hl:ds.length=3)(h:wQ st ds=some p):mkU 3 4 bK st ds=some p:=by
 unfold wQ at h
 split at h
 ·rename_i w r b ps
  obtain⟨mm,e1,h⟩:=bind_some h
  have e2:zJ ixD (zE 1) (mC (.int 0)) [.un,.v (.tup (.str w::r)),.v b,.v ps]=some (.str w):=by
   show atI (.str w::r) 0=_
   exact zMS
  have e3:zD (zE 1) (zD (zE 2) (zD (zE 3) zU)) [.un,.v (.tup (.str w::r)),.v b,.v ps]=some [.tup (.str w::r),b,ps]:=rfl
  show(bK st [.un,.v (.tup (.str w::r)),.v b,.v ps]).bind _=_
  unfold bK uDo zFG
  rw[e2,ac]
  dsimp only
  rw[e1,ac]
  simp only[zBE,e3,Option.map_some,ac,av,List.length_nil,if_true]
  obtain⟨q,h1,rfl⟩:=map_some h
  rw[h1];rfl
 ·cases h
theorem Q0(T:Txt K mg w.params):FnOk P w K mg base CX0 4 T.m_go_on.a T.m_go_on.d ["self", "expression", "bound", "parts"] (spM K T.C 3 wQ):=by
 refine xK (XW (k:=3) T.m_go_on.F W9 3 4 rfl rfl (g:=bK) (fun cdv A outer s H E hr=>?_)) zA8
 unfold bK
 exact(by refine xF ?_;exact(j9 (zDC (k:=3) (n:=3) (ways:=ways) T.ways (by rfl) (yQ (zB 1 (pv 1)) zF) (pv 0) (zDI (zA (zB 1 (pv 1)) (zA (zB 2 (pv 2)) (zA (zB 3 (pv 3)) zO)))) (fun key mm e=>by
  unfold ways at e
  split at e
  ·rename_i hk;subst hk;cases e;exact⟨_,_,_,T.w_num,ZN T,T.d_of_num.b,T.d_of_num.F.kp⟩
  split at e
  ·rename_i hk;subst hk;cases e;exact⟨_,_,_,T.w_name,nH T,T.d_of_name.b,T.d_of_name.F.kp⟩
  split at e
  ·rename_i hk;subst hk;cases e;exact⟨_,_,_,T.w_fn,QY T,T.d_of_fn.b,T.d_of_fn.F.kp⟩
  split at e
  ·rename_i hk;subst hk;cases e;exact⟨_,_,_,T.w_do,QZ T,T.d_of_do.b,T.d_of_do.F.kp⟩
  split at e
  ·rename_i hk;subst hk;cases e;exact⟨_,_,_,T.w_empty,gM T,T.d_of_empty.b,T.d_of_empty.F.kp⟩
  split at e
  ·rename_i hk;subst hk;cases e;exact⟨_,_,_,T.w_with,nG T,T.d_of_with.b,T.d_of_with.F.kp⟩
  split at e
  ·rename_i hk;subst hk;cases e;exact⟨_,_,_,T.w_tag,ZM T,T.d_of_tag.b,T.d_of_tag.F.kp⟩
  ·cases e) hr)))
theorem sc_run_on:FnScope ["self", "task"] ["self"] (zP (bF 8 4)):=⟨rfl,rfl,rfl,by decide +kernel,rfl,by decide +kernel,by decide +kernel⟩
noncomputable def kZ:MEs:=(uE WF (zJ4 zBB (zGB (WZ fun st=>st.ended))) (rW (zJO 0 1 zBF) (uIf (cQ (uX (zJ ixD (zE 1) (mC (.int 2))))) (uDo (x6 3 wQ (zV (yZ (zJ ixD (zE 1) (mC (.int 0)))) (zV (yZ (zJ ixD (zE 1) (mC (.int 1)))) (zV (x6 1 yH (zV (yZ (zJ ixD (zE 1) (mC (.int 0)))) xP)) xP))))) (uDo (x6 2 yA (zV (yZ (zJ ixD (zE 1) (mC (.int 0)))) (zV (yZ (zJ ixD (zE 1) (mC (.int 1)))) xP)))))))
noncomputable def zAK:MEs:=(rW (zJO 0 1 zBF) (uIf (cQ (uX (zJ ixD (zE 1) (mC (.int 2))))) (uDo (x6 3 wQ (zV (yZ (zJ ixD (zE 1) (mC (.int 0)))) (zV (yZ (zJ ixD (zE 1) (mC (.int 1)))) (zV (x6 1 yH (zV (yZ (zJ ixD (zE 1) (mC (.int 0)))) xP)) xP))))) (uDo (x6 2 yA (zV (yZ (zJ ixD (zE 1) (mC (.int 0)))) (zV (yZ (zJ ixD (zE 1) (mC (.int 1)))) xP))))))
theorem JY{st s:Mst}{x:Sl}(hx:x=.un\/∃d,x=.v d)(h:d7 st=some s):∃d,zAK st [.un,x]=some (.nx s [.un,.v d]):=by
 unfold d7 at h
 have hset:∀d,yN 1 d [.un,x]=some [.un,.v d]:=fun d=>by rcases hx with rfl|⟨d',rfl⟩<;>rfl
 have pop:∀d,st.wait.getLast?=some d->zJO 0 1 zBF st [.un,x]=some (.nx { st with wait:=st.wait.dropLast } [.un,.v d]):=fun d e=>by
  unfold zJO zBF
  rw[e]
  show(if 1=0 then none else (yN 1 d [.un,x]).map fun r'=>MFl.nx { st with wait:=st.wait.dropLast } r')=_
  rw[if_neg (by decide),hset];rfl
 split at h
 ·rename_i e b hl
  refine⟨.tup [e,b,.bl true],?_⟩
  obtain⟨p,h1,h⟩:=bind_some h
  obtain⟨q,h2,rfl⟩:=map_some h
  have e0:zJ ixD (zE 1) (mC (.int 0)) [.un,.v (.tup [e,b,.bl true])]=some e:=rfl
  have e1:zJ ixD (zE 1) (mC (.int 1)) [.un,.v (.tup [e,b,.bl true])]=some b:=rfl
  have e2:uX (zJ ixD (zE 1) (mC (.int 2))) [.un,.v (.tup [e,b,.bl true])]=some true:=rfl
  unfold zAK rW
  rw[pop _ hl,ac]
  dsimp only
  unfold uIf
  simp only[cQ,e2,Option.map_some,ac,if_true]
  unfold uDo x6
  simp only[zV,xP,yZ,e0,e1,Option.map_some,ac,av,List.length_nil,if_true]
  rw[h1]
  simp only[Option.map_some,ac,av,List.length_nil,if_true]
  rw[h2];rfl
 ·rename_i e b hl
  refine⟨.tup [e,b,.bl false],?_⟩
  obtain⟨q,h2,rfl⟩:=map_some h
  have e0:zJ ixD (zE 1) (mC (.int 0)) [.un,.v (.tup [e,b,.bl false])]=some e:=rfl
  have e1:zJ ixD (zE 1) (mC (.int 1)) [.un,.v (.tup [e,b,.bl false])]=some b:=rfl
  have e2:uX (zJ ixD (zE 1) (mC (.int 2))) [.un,.v (.tup [e,b,.bl false])]=some false:=rfl
  unfold zAK rW
  rw[pop _ hl,ac]
  dsimp only
  unfold uIf
  simp only[cQ,e2,Option.map_some,ac,if_false,Bool.false_eq_true]
  unfold uDo x6
  simp only[zV,xP,yZ,e0,e1,Option.map_some,ac,av,List.length_nil,if_true]
  rw[h2];rfl
 ·cases h
theorem tF:∀(n:Nat) (st s:Mst) (x:Sl),(x=.un\/∃d,x=.v d)->v9 n st=some s->∃x',uE n (zJ4 zBB (zGB (WZ fun st=>st.ended))) zAK st [.un,x]=some (.nx s [.un,x']):=by
 intro n
 induction n with
 |zero=>intro st s x _ h;cases h
 |succ n ih=>
  intro st s x hx h
  have h:(if st.wait.isEmpty=false/\nonB st.ended=true then (d7 st).bind (v9 n) else some st)=some s:=h
  have ht:zJ4 zBB (zGB (WZ fun st=>st.ended)) st [.un,x]=some (!st.wait.isEmpty && nonB st.ended,st):=by
   show(if (!st.wait.isEmpty)=true then some (nonB st.ended,st) else some (false,st))=_
   cases st.wait.isEmpty<;>simp
  unfold uE
  rw[ht,ac]
  by_cases hc:st.wait.isEmpty=false/\nonB st.ended=true
  ·rw[if_pos hc] at h
   obtain⟨st1,h1,h2⟩:=bind_some h
   obtain⟨d,hb⟩:=JY hx h1
   obtain⟨x',hx'⟩:=ih st1 s (.v d) (.inr ⟨d,rfl⟩) h2
   refine⟨x',?_⟩
   rw[if_pos (by simp[hc.1,hc.2]),hb,ac]
   exact hx'
  ·rw[if_neg hc] at h
   cases h
   refine⟨x,?_⟩
   rw[if_neg (by simpa using hc)]
theorem WU(st:Mst)(ds:List D)(p:D×Mst)(hl:ds.length=0)(h:qN st ds=some p):mkU 0 2 kZ st ds=some p:=by
 match ds,hl with
 |[],_=>
  obtain⟨s,h1,rfl⟩:=map_some (show(v9 WF st).map (fun s=>(D.non,s))=some p from h)
  obtain⟨x',hx'⟩:=tF WF st s .un (.inl rfl) h1
  show(kZ st [.un,.un]).bind _=_
  have e:kZ=uE WF (zJ4 zBB (zGB (WZ fun st=>st.ended))) zAK:=rfl
  rw[e,hx'];rfl
theorem ZK(T:Txt K mg w.params):FnOk P w K mg base CX0 5 T.m_run_on.a T.m_run_on.d ["self"] (spM K T.C 0 qN):=by
 refine xK (XW (k:=4) T.m_run_on.F sc_run_on 0 2 rfl rfl (g:=kZ) (fun cdv A outer s H E hr=>?_)) WU
 unfold kZ
 exact(by refine xF ?_;exact(Q7 WF PassesOwn.never (zHI (zC5 (pv 0) T.cl T.n_waiting) (zC7 (uW (pv 0) T.cl T.n_ended u7))) (by refine jV ?_ ?_;exact(zHJ 1 (zDF (pv 0) T.cl T.n_waiting) sc_run_on.nd);exact(by refine xF ?_;exact(pQ (gP (vS (yQ (zB 1 (pv 1)) zF))) (by refine xF ?_;exact(j9 (wP (pv 0) T.cl T.h_go_on (fun _ _ _ _ _ _=>rfl) (Q0 T) (hr.mono (by omega)) T.m_go_on.b (yM (xA (yQ (zB 1 (pv 1)) zF)) (yM (xA (yQ (zB 1 (pv 1)) zF)) (yM (wP (pv 0) T.cl T.h_parts_come (fun _ _ _ _ _ _=>rfl) (uR T) (hr.mono (by omega)) T.m_parts_come.b (yM (xA (yQ (zB 1 (pv 1)) zF)) qC)) qC)))))) (by refine xF ?_;exact(j9 (wP (pv 0) T.cl T.h_begin_parts (fun _ _ _ _ _ _=>rfl) (vP T) (hr.mono (by omega)) T.m_begin_parts.b (yM (xA (yQ (zB 1 (pv 1)) zF)) (yM (xA (yQ (zB 1 (pv 1)) zF)) qC))))))))))
theorem W4:FnScope ["self", "most"] ["self", "most"] (zP (bF 8 0)):=⟨rfl,rfl,rfl,by decide +kernel,rfl,by decide +kernel,by decide +kernel⟩
theorem QW(T:Txt K mg w.params):FnOk P w K mg base CX0 1 T.m_rinit.a T.m_rinit.d ["self", "most"] (zLU K T.C):=by
 refine Fun.ok (k:=0) T.m_rinit.F W4 (fun vs H Q E h=>?_) (fun cdv A outer s H vs Q E hr h=>⟨_,qL (cJ (pv 0) (pv 1) rfl) (qL (cJ (pv 0) nE rfl) (qL (cJ (pv 0) (QP y0) rfl) (qL (cJ (pv 0) (QP y0) rfl) (gG (cJ (pv 0) zCO rfl))))),QD rfl T.cl T.n_most T.n_steps T.n_waiting T.n_come T.n_ended h⟩)
 obtain⟨x,dx,m,rfl,_⟩:=h;rfl
theorem W5:FnScope ["self", "program", "most"] ["self", "program", "most"] (zP (bF 16 0)):=⟨rfl,rfl,rfl,by decide +kernel,rfl,by decide +kernel,by decide +kernel⟩
theorem QX(T:Txt K mg w.params):FnOk P w K mg base CX0 44 T.m_pinit.a T.m_pinit.d ["self", "program", "most"] (zLV K T.C dd):=by
 refine Fun.ok (k:=43) T.m_pinit.F W5 (fun vs H Q E h=>?_) (fun cdv A outer s H vs Q E hr h=>⟨_,qL (pG (QS (dvs:=[]) (E:=E0) T.cm (QW T) (hr.mono (by omega)) (by rfl) T.mB T.m_rinit.b .nil cS (zX (pv 0) (zX (pv 2) y0)))) (gG (cJ (tv:=lE K ddE) (pv 0) (show DE _ _ ddE by unfold ddE;exact(zAH (JN rfl (by rfl) T.z_dict (by refine zLF ?_;exact(hX (N':=["name", "E"]) (cap:=[]) rfl bB (hV (zB 1 (pv 1))) (fun _ _ _ _=>(nY rfl (wA (xJ 0 (show(["name", "E"]:List Str).Nodup by decide +kernel)) (wA (xJ 1 (show(["name", "E"]:List Str).Nodup by decide +kernel)) b9)))) (fun _ _ _ _=>by exact(by refine zZ ?_;exact(by refine zA ?_ ?_;exact(zB 0 (pv 0));refine zA ?_ ?_;exact(yK (gN RF T) (hr.mono (by decide)) (by rfl) T.d_marked.m T.d_marked.F.kp T.d_marked.b (by refine zA ?_ ?_;exact(zB 1 (pv 1));refine zA ?_ ?_;exact(zB 0 (pv 0));refine zA ?_ ?_;exact zF;exact zO));exact zO))) 2))))) rfl)),QK rfl T.cl T.n_defs (fun pd d e m=>e) h⟩)
 obtain⟨O,x,dx,pd,pv,m,d,rfl,_⟩:=h;rfl
theorem sc_run:FnScope ["program", "most", "plain"] ["program", "most"] (zP (top 14)):=⟨rfl,rfl,rfl,by decide +kernel,rfl,by decide +kernel,by decide +kernel⟩
noncomputable def J2:MEs:=(rW (uDo (x6 2 xD (zV (tJ (mC (.str [109,97,105,110]))) (zV (yZ (JB mD0)) xP)))) (rW (uDo (cE qN)) (rW (uIf (zGB (WZ fun st=>st.ended)) (zAO (zJ6 (zV (yZ (mC (.str [118,97,108,117,101]))) (zV (WZ fun st=>.int st.steps) (zV (zBH 1 YX (zV zIQ xP)) xP))))) oH) (zAO (zJ6 (zV (uIx (WZ fun st=>st.ended) (mC (.int 0))) (zV (WZ fun st=>.int st.steps) (zV (uIx (WZ fun st=>st.ended) (mC (.int 1))) xP))))))))
noncomputable def zAD:MS:=zKJ 2 (zE 0) (zE 1) dd J2
theorem Q3{l:List D}:nonB (.tup l)=false:=rfl
theorem zJ3(as:List Sl)(p:Rs×List Sl)(hl:as.length=2)(h:rS as=some p):mkF 2 3 zAD as=some p:=by
 unfold rS at h
 split at h
 ·rename_i pd m
  obtain⟨d,e1,h⟩:=bind_some h
  obtain⟨x,e2,rfl⟩:=map_some h
  unfold zLZ at e2
  split at e2
  case h_2=>cases e2
  rename_i ks l
  obtain⟨e,e3,h⟩:=bind_some e2
  obtain⟨s,e4,e5⟩:=bind_some h
  show(zAD [.v pd,.v (.int m),.un]).bind _=_
  obtain⟨s',key⟩:∃s',J2 ⟨m,0,[],[],.non,.dct ks l⟩ [.v pd,.v (.int m),.un]=some (.rt x s' [.v pd,.v (.int m),.un]):=by
   have b1:uDo (x6 2 xD (zV (tJ (mC (.str [109,97,105,110]))) (zV (yZ (JB mD0)) xP))) ⟨m,0,[],[],.non,.dct ks l⟩ [.v pd,.v (.int m),.un]=some (.nx ⟨m,0,[.tup [e,.dct [] [],.bl false]],[],.non,.dct ks l⟩ [.v pd,.v (.int m),.un]):=by
    have d1:tJ (mC (.str [109,97,105,110])) ⟨m,0,[],[],.non,.dct ks l⟩ [.v pd,.v (.int m),.un]=some (e,⟨m,0,[],[],.non,.dct ks l⟩):=by
     show(xB ks l (.inr ⟨([109,97,105,110]:List Nat).toArray⟩)).map _=_
     rw[e3];rfl
    unfold uDo x6
    simp only[zV,xP,d1,yZ,JB,mD0,Option.map_some,ac,av,List.length_nil,if_true]
    rfl
   have b2:uDo (cE qN) ⟨m,0,[.tup [e,.dct [] [],.bl false]],[],.non,.dct ks l⟩ [.v pd,.v (.int m),.un]=some (.nx s [.v pd,.v (.int m),.un]):=by
    unfold uDo cE
    show((v9 WF _).map _).map _=_
    rw[e4];rfl
   unfold J2 rW
   rw[b1,ac]
   dsimp only
   rw[b2,ac]
   dsimp only
   unfold zJV at e5
   split at e5
   ·rename_i he
    obtain⟨v,f1,e5⟩:=bind_some e5
    obtain⟨⟨q,as'⟩,f2,e5⟩:=bind_some e5
    cases q<;>first|(cases e5;done)|skip
    cases e5
    unfold uIf
    simp only[zGB,WZ,he,nonB,Option.map_some,ac,if_true]
    unfold zAO
    simp only[zJ6,zV,xP,yZ,mC,WZ,zBH,zIQ,f1,Option.map_some,ac,av,List.length_nil,ao,List.map_nil,f2,if_true]
    rw[if_pos sz3]
    exact⟨_,rfl⟩
   ·rename_i a b he
    cases e5
    unfold uIf
    simp only[zGB,WZ,he,Q3,Option.map_some,ac,Bool.false_eq_true,if_false,oH]
    unfold zAO
    have i0:ixD (.tup [a,b]) (.int 0)=some a:=rfl
    have i1:ixD (.tup [a,b]) (.int 1)=some b:=rfl
    simp only[zJ6,zV,xP,uIx,mC,WZ,he,i0,i1,Option.map_some,ac,av,List.length_nil]
    rw[if_pos sz3]
    exact⟨_,rfl⟩
   ·cases e5
  unfold zAD zKJ
  rw[if_pos ⟨rfl,rfl⟩]
  have v0:zE 0 [.v pd,.v (.int m),.un]=some pd:=rfl
  have v1:zE 1 [.v pd,.v (.int m),.un]=some (.int m):=rfl
  simp only[v0,v1,ac,e1,key]
  rfl
 ·cases h
theorem zCY(T:Txt K mg w.params):Ok P w base T.d_run 46 2 rS:=by
 refine W3 (nV (k:=45) T.d_run.F sc_run 2 3 rfl rfl (g:=zAD) (fun cdv A outer s H E hr=>?_)) zJ3
 unfold zAD
 exact(zIF 2 T.mkC (QX T) (hr.mono (by omega)) (by rfl) T.mC T.m_pinit.b (zB 0 (pv 0)) (zB 1 (pv 1)) (show zAN _ _ 2 _ J2 by unfold J2;exact(by refine jV ?_ ?_;exact(j9 (wP (pv 2) T.cl T.h_begin (fun _ _ _ _ _ _=>rfl) (uS T) (hr.mono (by omega)) T.m_begin.b (yM (XI (un1 hr) (pv 2) T.cl T.n_defs zY) (yM (xA (zAH JO)) qC))));exact(by refine jV ?_ ?_;exact(j9 (dE (pv 2) T.cl T.h_run_on (fun _ _ _ _ _ _=>rfl) (ZK T) (hr.mono (by omega)) T.m_run_on.b));exact(by refine jV ?_ ?_;exact(pQ (zC7 (uW (pv 2) T.cl T.n_ended u7)) (by refine xF ?_;exact(nM (zDD (yM (xA zY) (yM (uW (pv 2) T.cl T.n_steps dH) (yM (Q8 (zCX T) (hr.mono (by omega)) (by rfl) T.d_told.m T.d_told.F.kp T.d_told.b (yM (zDG (pv 2) T.cl T.n_come) qC)) qC)))))) ZU);exact(by refine xF ?_;exact(nM (zDD (yM (zI9 (uW (pv 2) T.cl T.n_ended u7) zF) (yM (uW (pv 2) T.cl T.n_steps dH) (yM (zI9 (uW (pv 2) T.cl T.n_ended u7) zF) qC)))))))))) sc_run.nd)
theorem sc_law:FnScope ["_law_script", "_law_first", "_law_labels_here", "_law_ways", "_law_drawn", "_law_told", "_law_worth", "_law_count", "_law_steps", "_law_program", "_law_k", "_law_way", "_law_made_of", "_law_more", "_law_name", "_law_found", "_law_due"] ["_law_script"] (zP (top 47)):=⟨rfl,rfl,rfl,by decide +kernel,rfl,by decide +kernel,by decide +kernel⟩
theorem zHC(T:Txt K mg w.params):Ok P w base T.d_law 201 1 rT:=by
 refine nV T.d_law.F sc_law 1 17 rfl rfl (g:=zAE) (fun cdv A outer s H E hr=>?_)
 unfold zAE
 exact(by refine zM ?_ ?_;exact(yS 1 (yK (xZ T) (hr.mono (by decide)) (by rfl) T.d__law_mixed.m T.d__law_mixed.F.kp T.d__law_mixed.b (by refine zA (yK (jB T) (hr.mono (by decide)) (by rfl) T.d__law_cell.m T.d__law_cell.F.kp T.d__law_cell.b (by refine zA (zB 0 (pv 0)) ?_ (hs:=zQ);refine zA zF ?_ (hs:=zS);exact zO)) ?_ (hs:=vM);refine zA zF ?_ (hs:=zS);exact zO)) sc_law.nd);exact(by refine zM ?_ ?_;exact(yS 2 (yK (vQ T) (hr.mono (by decide)) (by rfl) T.d__law_labels.m T.d__law_labels.F.kp T.d__law_labels.b (zA (yK (xZ T) (hr.mono (by decide)) (by rfl) T.d__law_mixed.m T.d__law_mixed.F.kp T.d__law_mixed.b (by refine zA (yK (jB T) (hr.mono (by decide)) (by rfl) T.d__law_cell.m T.d__law_cell.F.kp T.d__law_cell.b (by refine zA (zB 0 (pv 0)) ?_ (hs:=zQ);refine zA zF ?_ (hs:=zS);exact zO)) ?_ (hs:=vM);refine zA zF ?_ (hs:=zS);exact zO)) zO (hs:=vM))) sc_law.nd);exact(by refine zM ?_ ?_;exact(zEK 3 (N':=["_law_k", "_law_cell_here"]) (cap:=[]) rfl bB (X7 (by rfl) T.z_enumerate (zFZ (zB 0 (pv 0)) (hI zF) (hI zF))) (fun _ _ _ _=>(nY rfl (wA (xJ 0 (show(["_law_k", "_law_cell_here"]:List Str).Nodup by decide +kernel)) (wA (xJ 1 (show(["_law_k", "_law_cell_here"]:List Str).Nodup by decide +kernel)) b9)))) (fun _ _ _ _=>by exact(zR xN xO (yK (xZ T) (hr.mono (by decide)) (by rfl) T.d__law_mixed.m T.d__law_mixed.F.kp T.d__law_mixed.b (by refine zA ?_ ?_;exact(zB 1 (pv 1));refine zA ?_ ?_;exact(zR xL xM zF (zB 0 (pv 0)));exact zO)) zF)) 2 sc_law.nd);exact(by refine zM ?_ ?_;exact(qY (xU (qH hr.units0) qI (zR xN xO (zB 1 (pv 1)) zF) zF (xH _)) (by refine zW ?_;exact(yS 3 (yK (kL T) (hr.mono (by decide)) (by rfl) T.d__law_ways_to.m T.d__law_ways_to.F.kp T.d__law_ways_to.b (zA (zR xL xM zF (zR xN xO (zR wN wO (zB 1 (pv 1)) zF) zF)) zO (hs:=zIW))) sc_law.nd)) x9);exact(by refine zM ?_ ?_;exact(yS 4 (zR xN xO (zR wN wO (zB 1 (pv 1)) zF) (zR zG5 zHD zF zF)) sc_law.nd);exact(by refine zM ?_ ?_;exact(yS 5 (by refine zZ ?_;exact(by refine zA (zY (s:=[110,117,109]) (by rfl)) ?_ (hs:=zS);refine zA (zB 4 (pv 4)) ?_ (hs:=zQ);exact zO)) sc_law.nd);exact(by refine zM ?_ ?_;exact(yS 6 (zB 4 (pv 4)) sc_law.nd);exact(by refine zM ?_ ?_;exact(qY (xU (qH hr.units0) qI (zR xN xO (zR wN wO (zR wN wO (zB 1 (pv 1)) zF) zF) zF) zF (xH _)) (by refine zM ?_ ?_;exact(yS 5 (by refine zZ ?_;exact(by refine zA (zY (s:=[102,110]) (by rfl)) ?_ (hs:=zS);refine zA (yQ (zB 2 (pv 2)) (zR xN xO (zB 4 (pv 4)) zF)) ?_ (hs:=jE);refine zA (by refine zZ ?_;exact(by refine zA (zY (s:=[110,97,109,101]) (by rfl)) ?_ (hs:=zS);refine zA (yQ (zB 2 (pv 2)) (zR xN xO (zR wN wO (zB 4 (pv 4)) zF) zF)) ?_ (hs:=jE);exact zO)) ?_ (hs:=y9);exact zO)) sc_law.nd);exact(by refine zM ?_ ?_;exact(qY (xU (zG6 (n:=400) (zJ5 hr (by decide))) zHE (zR xN xO (zB 4 (pv 4)) zF) (zR xN xO (zR wN wO (zB 4 (pv 4)) zF) zF) (xH _)) (by refine zW ?_;exact(yS 5 (by refine zZ ?_;exact(by refine zA (zY (s:=[102,110]) (by rfl)) ?_ (hs:=zS);refine zA (yQ (zB 2 (pv 2)) (zR xN xO (zB 4 (pv 4)) zF)) ?_ (hs:=jE);refine zA (by refine zZ ?_;exact(by refine zA (zY (s:=[110,117,109]) (by rfl)) ?_ (hs:=zS);refine zA (zB 4 (pv 4)) ?_ (hs:=zQ);exact zO)) ?_ (hs:=y9);exact zO)) sc_law.nd)) x9);exact(by refine zW ?_;exact(yS 6 (by refine zZ ?_;exact(zA (zY (s:=[102,110]) (by rfl)) zO (hs:=zS))) sc_law.nd)))) x9);exact(by refine zM ?_ ?_;exact(yS 7 zF sc_law.nd);exact(by refine zM ?_ ?_;exact(yS 8 zF sc_law.nd);exact(by refine zM ?_ ?_;exact(kU 9 (by refine jQ ?_;exact zO) sc_law.nd);exact(by refine zM ?_ ?_;exact(nX PassesOwn.never rfl (X7 (by rfl) T.z_enumerate (zB 3 (pv 3))) (nY rfl (wA (xJ 10 sc_law.nd) (wA (xJ 11 sc_law.nd) b9))) (by refine zM ?_ ?_;exact(zIG (yK (cL T) (hr.mono (by decide)) (by rfl) T.d__law_done.m T.d__law_done.F.kp T.d__law_done.b (by refine zA (zB 5 (pv 5)) ?_ (hs:=zQ);refine zA (zB 6 (pv 6)) ?_ (hs:=zQ);refine zA (zB 11 (pv 11)) ?_ (hs:=zQ);refine zA (yK (xZ T) (hr.mono (by decide)) (by rfl) T.d__law_mixed.m T.d__law_mixed.F.kp T.d__law_mixed.b (by refine zA (yK (jB T) (hr.mono (by decide)) (by rfl) T.d__law_cell.m T.d__law_cell.F.kp T.d__law_cell.b (by refine zA (zB 0 (pv 0)) ?_ (hs:=zQ);refine zA (zR xL xM zF (zB 10 (pv 10))) ?_ (hs:=zIW);exact zO)) ?_ (hs:=vM);refine zA (zB 10 (pv 10)) ?_ (hs:=zQ);exact zO)) ?_ (hs:=vM);refine zA (zB 2 (pv 2)) ?_ (hs:=zQ);exact zO)) (nY rfl (wA (xJ 5 sc_law.nd) (wA (xJ 12 sc_law.nd) (wA (xJ 13 sc_law.nd) b9)))));exact(by refine zM ?_ ?_;exact(yS 7 (zR xL xM (zR xL xM (zB 7 (pv 7)) zF) (zR ZJ ZQ (zEW (by rfl) T.z_int (YL (qH hr.units0) qI (zB 11 (pv 11)) zF (xH _))) (zB 7 (pv 7)))) sc_law.nd);exact(by refine zM ?_ ?_;exact(yS 8 (zR xL xM (zB 8 (pv 8)) (zB 13 (pv 13))) sc_law.nd);exact(by refine zM ?_ ?_;exact(qY (xU zHA zHF (zB 7 (pv 7)) zF (xH _)) (by refine zW ?_;exact(yS 6 (zB 12 (pv 12)) sc_law.nd)) x9);exact(by refine zW ?_;exact(qY (zL3 (zID (xU (qH hr.units0) qI (zR xN xO (zB 10 (pv 10)) zF) zF (xH _)) (zED (xU zCV zC0 (zB 10 (pv 10)) (zR QU Q1 (hZ (by rfl) T.z_len (zB 3 (pv 3))) zF) (xH _))))) (by refine zM ?_ ?_;exact(yS 14 (zR xL xM (zY (s:=[100]) (by rfl)) (yQ (zY (s:=[97,98,99,100,101,102,103,104,105,106,107]) (by rfl)) (zR wN wO (zB 10 (pv 10)) zF))) sc_law.nd);exact(by refine zM ?_ ?_;exact(zAG (qF 9 (pv 9) (by refine zZ ?_;exact(by refine zA (zB 14 (pv 14)) ?_ (hs:=zQ);refine zA (zB 5 (pv 5)) ?_ (hs:=zQ);exact zO))));exact(by refine zM ?_ ?_;exact(yS 5 (by refine zZ ?_;exact(by refine zA (zY (s:=[110,97,109,101]) (by rfl)) ?_ (hs:=zS);refine zA (zB 14 (pv 14)) ?_ (hs:=zQ);exact zO)) sc_law.nd);exact(by refine zW ?_;exact(yS 8 (zR xL xM (zB 8 (pv 8)) zF) sc_law.nd))))) x9)))))));exact(by refine zM ?_ ?_;exact(zAG (qF 9 (pv 9) (by refine zZ ?_;exact(by refine zA (zY (s:=[109,97,105,110]) (by rfl)) ?_ (hs:=zS);refine zA (zB 5 (pv 5)) ?_ (hs:=zQ);exact zO))));exact(by refine zM ?_ ?_;exact(yS 15 (rH (zCY T) (hr.mono (by decide)) (by rfl) T.d_run.m T.d_run.F.kp T.d_run.b (pv 9) (zA zF zO (hs:=zS))) sc_law.nd);exact(by refine zM ?_ ?_;exact(yS 16 (zB 6 (pv 6)) sc_law.nd);exact(by refine zM ?_ ?_;exact(qY (xU zFO zFP (zB 7 (pv 7)) zF (xH _)) (by refine zW ?_;exact(yS 16 (by refine zZ ?_;exact(zA (zY (s:=[100,101,101,112]) (by rfl)) zO (hs:=zS))) sc_law.nd)) x9);exact(by refine zW ?_;exact(by refine y3 ?_;exact(oA (yK (qM xV T) (hr.mono (by decide)) (by rfl) T.d__law_alike.m T.d__law_alike.F.kp T.d__law_alike.b (by refine zA (zB 15 (pv 15)) ?_ (hs:=zQ);refine zA (by refine zZ ?_;exact(by refine zA (zY (s:=[118,97,108,117,101]) (by rfl)) ?_ (hs:=zS);refine zA (zB 8 (pv 8)) ?_ (hs:=zQ);refine zA (zB 16 (pv 16)) ?_ (hs:=zQ);exact zO)) ?_ (hs:=y9);exact zO)) (YK (yK (qM xV T) (hr.mono (by decide)) (by rfl) T.d__law_alike.m T.d__law_alike.F.kp T.d__law_alike.b (by refine zA (rH (zCY T) (hr.mono (by decide)) (by rfl) T.d_run.m T.d_run.F.kp T.d_run.b (pv 9) (zA (zB 8 (pv 8)) zO (hs:=zQ))) ?_ (hs:=vM);refine zA (zB 15 (pv 15)) ?_ (hs:=zQ);exact zO))))))))))))))))))))))
end
theorem vE(c k:Int):∃n:Int,0<=n/\∃as,yL [.v (.int c),.v (.int k)]=some (.v (.int n),as):=by
 let n1:Int:=(c % 2147483647+16807*k+7) % 2147483629
 let n2:Int:=n1*n1 % 2147483587
 have h1:0<=n1/\n1<2147483629:=⟨Int.emod_nonneg _ (by decide),Int.emod_lt_of_pos _ (by decide)⟩
 have h2:0<=n2/\n2<2147483587:=⟨Int.emod_nonneg _ (by decide),Int.emod_lt_of_pos _ (by decide)⟩
 refine⟨n2*(n2+48271) % 2147483579 / 5,?_,?_⟩
 ·exact Int.ediv_nonneg (Int.emod_nonneg _ (by decide)) (by decide)
 ·refine jL (r':=[.v (.int c),.v (.int k),.v (.int n2)]) ?_
  show wH [.v (.int c),.v (.int k),.un]=_
  unfold wH
  rw[yB (wL (d:=.int n1) (r2:=[.v (.int c),.v (.int k),.v (.int n1)]) (x5 (qK (qK (x5 rfl zL (by decide)) (nL zL rfl (by decide))) zL) zL (by decide)) (by rfl))]
  rw[yB (wL (d:=.int n2) (r2:=[.v (.int c),.v (.int k),.v (.int n2)]) (x5 (nL rfl rfl (by lia)) zL (by decide)) (by rfl))]
  exact wE (qG (x5 (nL rfl (qK rfl zL) (by lia)) zL (by decide)) zL (by decide))
theorem rN(ns:List Int)(k:Nat):∃c:Int,∃as,wC [.v (.lst (ns.map .int)),.v (.int (k:Int))]=some (.v (.int c),as):=by
 let R:En:=[.v (.lst (ns.map .int)),.v (.int (k:Int))]
 have t:mBl (zJ ltA (zE 1) (mUn gX (zE 0))) R=some (decide ((k:Int)<(ns.length:Int))):=mP (xG (x:=.int (k:Int)) (y:=.int (ns.length:Int)) rfl (bH (x:=.lst (ns.map .int)) rfl (by show some (D.int ((ns.map D.int).length:Int))=_;rw[ay])) rfl)
 by_cases h:k<ns.length
 ·rw[decide_eq_true (by lia)] at t
  refine⟨ns[k],jL (r':=R) ?_⟩
  show wV R=_
  unfold wV
  refine vN t (wE (xG (x:=.lst (ns.map .int)) (y:=.int (k:Int)) rfl rfl (cB ?_)))
  rw[ba,bb h];rfl
 ·rw[decide_eq_false (by lia)] at t
  exact⟨0,jL (r':=R) (kF t (wE zL))⟩
theorem WJ{x:ME}{j:Nat}{mk:Sl->En}{p:Nat->Prop}(hj:∀s d,fre s->yN j d (mk s)=some (mk (.v d))):∀(L:List D) (s:Sl),fre s->(∀a∈L,∃c,p c/\x (mk (.v a))=some (.str [c]))->∃cs:List Nat,cs.length=L.length/\(∀c∈cs,p c)/\jR (yN j) cT x L (mk s)=some (cs.map fun c=>D.str [c])
 |[],s,hs,h=>⟨[],rfl,(fun _ h=>by cases h),rfl⟩
 |a::L,s,hs,h=>by
  obtain⟨c,hc,e⟩:=h a (by simp)
  obtain⟨cs,h1,h2,h3⟩:=WJ hj L (.v a) trivial fun b hb=>h b (by simp[hb])
  refine⟨c::cs,by simp[h1],fun d hd=>?_,?_⟩
  ·rcases List.mem_cons.mp hd with rfl|hd
   ·exact hc
   ·exact h2 d hd
  ·unfold jR
   rw[hj s a hs,ac,show cT (mk (.v a))=some true from rfl,ac,if_pos rfl,e,ac,h3];rfl
theorem dN{α:Type}{x:ME}{j:Nat}{mk:Sl->En}{g y:α->D}(hj:∀s d,fre s->yN j d (mk s)=some (mk (.v d))):∀(L:List α) (s:Sl),fre s->(∀a∈L,x (mk (.v (g a)))=some (y a))->jR (yN j) cT x (L.map g) (mk s)=some (L.map y)
 |[],s,hs,h=>rfl
 |a::L,s,hs,h=>by
  have ih:=dN (y:=y) hj L (.v (g a)) trivial fun b hb=>h b (by simp[hb])
  rw[ao]
  unfold jR
  rw[hj s _ hs,ac,show cT (mk (.v (g a)))=some true from rfl,ac,if_pos rfl,h a (by simp),ac,ih];rfl
theorem oO:∀cs:List Nat,tO (cs.map fun c=>D.str [c])=some (cs.map fun c=>[c])
 |[]=>rfl
 |c::cs=>by simp[tO,oO cs]
theorem pV:∀cs:List Nat,XS [] (cs.map fun c=>[c])=cs
 |[]=>rfl
 |[c]=>rfl
 |c::d::cs=>by
  have ih:=pV (d::cs)
  rw[ao,ao] at *
  unfold XS
  rw[ih];rfl
theorem zLH{l:List Nat}(hl:l.length<=100){i:Int}(h0:0<=i)(h:i<l.length):∃c,c∈l/\ixD (.str l) (.int i)=some (.str [c]):=by
 obtain⟨j,rfl⟩:=Int.eq_ofNat_of_zero_le h0
 have hj:j<l.length:=by lia
 refine⟨l[j],List.getElem_mem hj,?_⟩
 show(if l.length<=sizeLine then (atI l (j:Int)).map fun c=>D.str [c] else none)=_
 rw[if_pos (Nat.le_trans hl (by decide)),cB (bb hj)];rfl
theorem JV{α:Type}(s:List α)(k:Nat):rK s (some (k:Int)) none=s.drop k:=by
 unfold rK
 rw[HT.sIx_nat,HT.sIx_none]
 by_cases h:k<=s.length
 ·rw[Nat.min_eq_left h,List.take_of_length_le (by rw[List.length_drop];lia)]
 ·have e1:s.drop (min k s.length)=[]:=List.drop_of_length_le (by lia)
  have e2:s.drop k=[]:=List.drop_of_length_le (by lia)
  rw[e1,e2];simp
theorem tQ{s:List Nat}{lo hi:Option Int}(h:s.length<=100):slD (.str s) lo hi=some (.str (rK s lo hi)):=if_pos (Nat.le_trans h (by decide))
inductive Ex where
 |num (n:Int)
 |nm (s:List Nat)
 |emp
 |tag (l:List Nat) (e:Ex)
 |wth (l:List Nat) (a b:Ex)
 |fn (x:List Nat) (e:Ex)
 |doo (f a:Ex)
noncomputable def toD:Ex->D
 |.num n=>.tup [.str [110,117,109],.int n]
 |.nm s=>.tup [.str [110,97,109,101],.str s]
 |.emp=>.tup [.str [101,109,112,116,121]]
 |.tag l e=>.tup [.str [116,97,103],.str l,toD e]
 |.wth l a b=>.tup [.str [119,105,116,104],.str l,toD a,toD b]
 |.fn x e=>.tup [.str [102,110],.str x,toD e]
 |.doo f a=>.tup [.str [100,111],toD f,toD a]
noncomputable def dp:Ex->Nat
 |.num _=>0
 |.nm _=>0
 |.emp=>0
 |.tag _ e=>dp e+1
 |.wth _ a b=>max (dp a) (dp b)+1
 |.fn _ e=>dp e+1
 |.doo f a=>max (dp f) (dp a)+1
noncomputable def nd:Ex->Nat
 |.num _=>1
 |.nm _=>1
 |.emp=>1
 |.tag _ e=>1+nd e
 |.wth _ a b=>1+nd a+nd b
 |.fn _ e=>1+nd e
 |.doo f a=>1+nd f+nd a
inductive Pt where
 |pl (d:D)
 |ex (e:Ex)
noncomputable def ptD:Pt->D
 |.pl d=>d
 |.ex e=>toD e
noncomputable def ptE:Pt->Option Ex
 |.pl _=>none
 |.ex e=>some e
noncomputable def pts:Ex->List Pt
 |.num n=>[.pl (.str [110,117,109]),.pl (.int n)]
 |.nm s=>[.pl (.str [110,97,109,101]),.pl (.str s)]
 |.emp=>[.pl (.str [101,109,112,116,121])]
 |.tag l e=>[.pl (.str [116,97,103]),.pl (.str l),.ex e]
 |.wth l a b=>[.pl (.str [119,105,116,104]),.pl (.str l),.ex a,.ex b]
 |.fn x e=>[.pl (.str [102,110]),.pl (.str x),.ex e]
 |.doo f a=>[.pl (.str [100,111]),.ex f,.ex a]
noncomputable def plain(d:D):Prop:=qX "tuple" d=some (.bl false)
noncomputable def PtOk(l:List Pt):Prop:=∀d,Pt.pl d∈l->plain d
theorem oM(e:Ex):toD e=.tup ((pts e).map ptD):=by cases e<;>rfl
theorem zB7(e:Ex):PtOk (pts e):=by
 intro d h
 cases e<;>simp[pts] at h
 ·rcases h with rfl|rfl<;>rfl
 ·rcases h with rfl|rfl<;>rfl
 ·subst h;rfl
 ·rcases h with rfl|rfl<;>rfl
 ·rcases h with rfl|rfl<;>rfl
 ·rcases h with rfl|rfl<;>rfl
 ·subst h;rfl
theorem XU(e:Ex):qX "tuple" (toD e)=some (.bl true):=by rw[oM];rfl
noncomputable def ch(e:Ex):List Ex:=(pts e).filterMap ptE
theorem PtOk.tail{p:Pt}{l:List Pt}(h:PtOk (p::l)):PtOk l:=fun d hd=>h d (List.mem_cons_of_mem _ hd)
theorem vF:∀(l:List Pt) (s:Sl),fre s->PtOk l->jR (yN 0) (uX (mUn (qX "tuple") (zE 0))) (zE 0) (l.map ptD) [s]=some ((l.filterMap ptE).map toD)
 |[],s,hs,h=>rfl
 |.pl d::l,s,hs,h=>by
  have ih:=vF l (.v d) trivial h.tail
  have e1:yN 0 d [s]=some [.v d]:=yC (r:=[s]) rfl hs
  have e2:uX (mUn (qX "tuple") (zE 0)) [.v d]=some false:=by
   unfold uX
   rw[bH (f:=zE 0) (r:=[.v d]) (x:=d) rfl (h d (by simp))];rfl
  show jR _ _ _ (d::l.map ptD) [s]=_
  unfold jR
  rw[e1,ac,e2,ac,if_neg (by decide),ih];rfl
 |.ex e::l,s,hs,h=>by
  have ih:=vF l (.v (toD e)) trivial h.tail
  have e1:yN 0 (toD e) [s]=some [.v (toD e)]:=yC (r:=[s]) rfl hs
  have e2:uX (mUn (qX "tuple") (zE 0)) [.v (toD e)]=some true:=by
   unfold uX
   rw[bH (f:=zE 0) (r:=[.v (toD e)]) (x:=toD e) rfl (XU e)];rfl
  have e3:zE 0 [.v (toD e)]=some (toD e):=rfl
  show jR _ _ _ (toD e::l.map ptD) [s]=_
  unfold jR
  rw[e1,ac,e2,ac,if_pos rfl,e3,ac,ih];rfl
theorem pE(e:Ex):(pts e).length<=7:=by cases e<;>simp[pts]
theorem pZ(e:Ex):∃as,j0 [.v (toD e)]=some (.v (.lst ((ch e).map toD)),as):=by
 refine jL (r':=[.v (toD e)]) ?_
 show b0 [.v (toD e)]=_
 unfold b0
 refine wE ?_
 unfold uA qV
 have it:mIt (zE 0) [.v (toD e)]=some ((pts e).map ptD):=by
  unfold mIt
  rw[show zE 0 [.v (toD e)]=some (toD e) from rfl,oM];rfl
 have:=pE e
 rw[it,ac,if_pos (by rw[ay];exact au (show _<100 by lia) (by decide)),show rZ [] 1 [.v (toD e)]=[.un] from rfl,vF _ .un trivial (zB7 e)];rfl
noncomputable def tn(es:List Ex):Nat:=(es.map nd).sum
theorem zBN(a b:List Ex):tn (a++b)=tn a+tn b:=by simp[tn]
theorem zC3(e:Ex):nd e=1+tn (ch e):=by cases e<;>simp[nd,tn,ch,pts,ptE,List.filterMap]<;>lia
theorem zBM(l:List Ex):l.length<=tn l:=by
 induction l with
 |nil=>exact al 0
 |cons a l ih=>have:=zC3 a;show l.length+1<=nd a+(l.map nd).sum;unfold tn at ih;lia
noncomputable def zF3:MS:=(yT (J5 3 (gT 2)) (yT (sX (rY 1 (zE 3))) (sX (zHO 2 (mUn zFM (yG 1 j0 (zD (zE 3) zU)))))))
theorem vU(x:Sl):∀(n:Nat) (es:List Ex) (F:List D) (s:Sl),fre s->tn es<=n->F.length+n<=10000->∃F' s',F'.length<=F.length+n/\∀m,wS (n+1+m) (mO (dF 2)) zF3 [x,.o F,.o (es.map toD),s]=some (.nx [x,.o F',.o [],s'])
 |n,[],F,s,hs,h1,h2=>⟨F,s,Nat.le_add_right ..,fun m=>by rw[show n+1+m=(n+m)+1 by lia];exact dS rfl⟩
 |0,e::es,F,s,hs,h1,h2=>by
  have:=zC3 e
  have:tn (e::es)=nd e+tn es:=by simp[tn]
  lia
 |n+1,e0::es0,F,s,hs,h1,h2=>by
  obtain⟨es,e,he⟩:∃es e,e0::es0=es++[e]:=⟨(e0::es0).dropLast,(e0::es0).getLast (by simp),(List.dropLast_concat_getLast (by simp)).symm⟩
  rw[he] at h1 ⊢
  rw[zBN] at h1
  have hn:=zC3 e
  have h1':tn es+nd e<=n+1:=by simpa [tn] using h1
  have hc:tn ((ch e).reverse)=tn (ch e):=by simp[tn,List.sum_reverse]
  have cl:=zBM (ch e)
  have le:=zBM es
  obtain⟨F',s',q1,q2⟩:=vU x n (es++(ch e).reverse) (F++[toD e]) (.v (toD e)) trivial (by rw[zBN,hc];lia) (by simp;lia)
  refine⟨F',s',by simp at q1;lia,fun m=>?_⟩
  rw[show n+1+1+m=(n+1+m)+1 by lia]
  have em:(es++[e]).map toD=es.map toD++[toD e]:=by simp
  have cd:mO (dF 2) [x,.o F,.o ((es++[e]).map toD),s]=some true:=by rw[em];show some (!(es.map toD++[toD e]).isEmpty)=_;simp
  rw[cX (r':=[x,.o (F++[toD e]),.o ((es++(ch e).reverse).map toD),.v (toD e)]) cd ?_,q2 m]
  unfold zF3
  rw[em]
  have p1:J5 3 (gT 2) [x,.o F,.o (es.map toD++[toD e]),s]=some (.nx [x,.o F,.o (es.map toD),.v (toD e)]):=by
   unfold J5
   rw[zCE (S:=es.map toD) (d:=toD e) rfl,ac]
   show(yN 3 (toD e) [x,.o F,.o (es.map toD),s]).map Fl.nx=_
   rw[yC (r:=[x,.o F,.o (es.map toD),s]) (x:=s) rfl hs];rfl
  rw[yB p1]
  have p2:sX (rY 1 (zE 3)) [x,.o F,.o (es.map toD),.v (toD e)]=some (.nx [x,.o (F++[toD e]),.o (es.map toD),.v (toD e)]):=gC (oE (S:=F) rfl rfl (au (show F.length<20000 by lia) (by decide)))
  rw[yB p2]
  refine gC (d:=.non) ?_
  unfold zHO
  have ci:yG 1 j0 (zD (zE 3) zU) [x,.o (F++[toD e]),.o (es.map toD),.v (toD e)]=some (.lst ((ch e).map toD)):=xE (p:=.v (.lst ((ch e).map toD))) (zN (x:=toD e) rfl yF) rfl (pZ e)
  rw[bH (d:=.lst ((ch e).map toD).reverse) ci rfl,ac]
  show(some ((ch e).map toD).reverse).bind _=_
  rw[ac]
  show(some (es.map toD)).bind _=_
  rw[ac,if_pos (by simp;exact Nat.le_trans (show _<=20000 by lia) (by decide))]
  show some (D.non,[x,Sl.o (F++[toD e]),.o (es.map toD++((ch e).map toD).reverse),.v (toD e)])=_
  simp
theorem ZE{e:Ex}(h:nd e<=5000):∃F:List D,F.length<=5000/\∃as,jC [.v (toD e)]=some (.f F,as):=by
 have t1:tn [e]=nd e:=by simp[tn]
 obtain⟨F',s',q1,q2⟩:=vU (.v (toD e)) (nd e) [e] [] .un trivial (by lia) (by simp;lia)
 refine⟨F',by simp at q1;lia,?_⟩
 have w:=q2 (WF-(nd e+1))
 rw[show nd e+1+(WF-(nd e+1))=WF by unfold WF;lia] at w
 unfold zF3 at w
 refine⟨([.v (toD e),.o F',.o [],s']:En).take 1,?_⟩
 unfold jC mkF
 have b:jW [.v (toD e),.un,.un,.un]=some (.rf F' [.v (toD e),.o F',.o [],s']):=by
  unfold jW
  rw[yB (r':=[.v (toD e),.o [],.un,.un]) (by rfl),yB (r':=[.v (toD e),.o [],.o ([e].map toD),.un]) (by rfl),yB w];rfl
 show(jW [.v (toD e),.un,.un,.un]).bind _=_
 rw[b];rfl
noncomputable def zF4:MS:=(yT (sX (rY 2 (zE 3))) (Y4 3 (mUn gX (uA (uZ 1 jC (zD (zE 4) zU))))))
theorem kN(x y:Sl):∀(es:List Ex) (F:List Int) (i:Int) (s:Sl),fre s->(∀e∈es,nd e<=5000)->F.length+es.length<=1000->∃(F':List Int) (i':Int) (s':Sl),F'.length=F.length+es.length/\YC (yN 4) zF4 (es.map toD) [x,y,.o (F.map D.int),.v (.int i),s]=some (.nx [x,y,.o (F'.map D.int),.v (.int i'),s'])
 |[],F,i,s,hs,h,hl=>⟨F,i,s,rfl,rfl⟩
 |e::es,F,i,s,hs,h,hl=>by
  obtain⟨P,p1,as,p2⟩:=ZE (h e (by simp))
  obtain⟨F',i',s',q1,q2⟩:=kN x y es (F++[i]) (i+(P.length:Int)) (.v (toD e)) trivial (fun a ha=>h a (by simp[ha])) (by simp at hl ⊢;lia)
  refine⟨F',i',s',by simp at q1 ⊢;lia,?_⟩
  rw[ao,j8 (r1:=[x,y,.o (F.map D.int),.v (.int i),.v (toD e)]) (yC (i:=4) (x:=s) rfl hs) (r':=[x,y,.o ((F++[i]).map D.int),.v (.int (i+(P.length:Int))),.v (toD e)]) ?_,q2]
  unfold zF4
  rw[yB (gC (oE (i:=2) (S:=F.map D.int) (d:=.int i) rfl rfl (by rw[ay];exact au (show F.length<2000 by simp at hl;lia) (by decide))))]
  have l1:mUn gX (uA (uZ 1 jC (zD (zE 4) zU))) [x,y,.o (F.map D.int++[D.int i]),.v (.int i),.v (toD e)]=some (.int (P.length:Int)):=by
   refine bH (x:=.lst P) ?_ rfl
   have p2':jC (([toD e]:List D).map Sl.v)=some (.f P,as):=p2
   unfold uA uZ
   rw[zN (x:=toD e) (l:=[]) rfl yF,ac,if_pos (show([toD e]:List D).length=1 from rfl),p2'];rfl
  show Y4 3 _ [x,y,.o (F.map D.int++[D.int i]),.v (.int i),.v (toD e)]=_
  unfold Y4
  show(mUn gX _ _).bind _=_
  rw[l1,List.map_append];rfl
theorem nK(e:Ex)(i:Int)(h:nd e<=5000):∃F:List Int,F.length=(ch e).length/\∃as,yY [.v (toD e),.v (.int i)]=some (.f (F.map D.int),as):=by
 have hn:=zC3 e
 have cm:∀(l:List Ex),∀a∈l,nd a<=tn l:=fun l=>by
  induction l with
  |nil=>intro a ha;cases ha
  |cons b l ih=>
   intro a ha
   have e0:tn (b::l)=nd b+tn l:=by simp[tn]
   rcases List.mem_cons.mp ha with rfl|ha
   ·lia
   ·have:=ih a ha;lia
 have cl:(ch e).length<=7:=Nat.le_trans (List.length_filterMap_le ..) (pE e)
 obtain⟨F',i',s',q1,q2⟩:=kN (.v (toD e)) (.v (.int i)) (ch e) [] (i+1) .un trivial (fun a ha=>by have:=cm _ a ha;lia) (by simp;lia)
 refine⟨F',by simpa using q1,([.v (toD e),.v (.int i),.o (F'.map D.int),.v (.int i'),s']:En).take 2,?_⟩
 unfold yY mkF
 have b:yX [.v (toD e),.v (.int i),.un,.un,.un]=some (.rf (F'.map D.int) [.v (toD e),.v (.int i),.o (F'.map D.int),.v (.int i'),s']):=by
  unfold yX
  rw[yB (r':=[.v (toD e),.v (.int i),.o [],.un,.un]) (by rfl)]
  refine yP (.int (i+1)) (r2:=[.v (toD e),.v (.int i),.o [],.v (.int (i+1)),.un]) (qK rfl zL) (by rfl) ?_
  rw[yB (r':=[.v (toD e),.v (.int i),.o (F'.map D.int),.v (.int i'),s']) ?_]
  ·rfl
  ·unfold tW
   have it:mIt (yG 1 j0 (zD (zE 0) zU)) [.v (toD e),.v (.int i),.o [],.v (.int (i+1)),.un]=some ((ch e).map toD):=by
    have ci:yG 1 j0 (zD (zE 0) zU) [.v (toD e),.v (.int i),.o [],.v (.int (i+1)),.un]=some (.lst ((ch e).map toD)):=xE (p:=.v (.lst ((ch e).map toD))) (zN (x:=toD e) rfl yF) rfl (pZ e)
    unfold mIt
    rw[ci];rfl
   rw[it]
   unfold zF4 at q2
   exact q2
 show(yX [.v (toD e),.v (.int i),.un,.un,.un]).bind _=_
 rw[b];rfl
inductive Mk:Ex->D->Prop
 |num (n:Int) (m:D):Mk (.num n) (.tup [.str [110,117,109],.int n,m])
 |nm (s:List Nat) (m:D):Mk (.nm s) (.tup [.str [110,97,109,101],.str s,m])
 |emp (m:D):Mk .emp (.tup [.str [101,109,112,116,121],m])
 |tag (s:List Nat) {e:Ex} {x:D} (m:D):Mk e x->Mk (.tag s e) (.tup [.str [116,97,103],.str s,x,m])
 |wth (s:List Nat) {a b:Ex} {x y:D} (m:D):Mk a x->Mk b y->Mk (.wth s a b) (.tup [.str [119,105,116,104],.str s,x,y,m])
 |fn (s:List Nat) {e:Ex} {x:D} (m:D):Mk e x->Mk (.fn s e) (.tup [.str [102,110],.str s,x,m])
 |doo {a b:Ex} {x y:D} (m:D):Mk a x->Mk b y->Mk (.doo a b) (.tup [.str [100,111],x,y,m])
noncomputable def PR:List Pt->List D->Prop
 |[],ys=>ys=[]
 |.pl d::l,ys=>∃t,ys=d::t/\PR l t
 |.ex e::l,ys=>∃y t,ys=y::t/\Mk e y/\PR l t
theorem zK2{e:Ex}{ys:List D}{m:D}(h:PR (pts e) ys):Mk e (.tup (ys++[m])):=by
 cases e with
 |num n=>
  obtain⟨t,rfl,u,rfl,h⟩:=h
  cases (show u=[] from h)
  exact .num n m
 |nm s=>
  obtain⟨t,rfl,u,rfl,h⟩:=h
  cases (show u=[] from h)
  exact .nm s m
 |emp=>
  obtain⟨t,rfl,h⟩:=h
  cases (show t=[] from h)
  exact .emp m
 |tag s e=>
  obtain⟨t,rfl,u,rfl,y,v,rfl,hy,h⟩:=h
  cases (show v=[] from h)
  exact .tag s m hy
 |wth s a b=>
  obtain⟨t,rfl,u,rfl,x,w,rfl,hx,y,v,rfl,hy,h⟩:=h
  cases (show v=[] from h)
  exact .wth s m hx hy
 |fn s e=>
  obtain⟨t,rfl,u,rfl,y,v,rfl,hy,h⟩:=h
  cases (show v=[] from h)
  exact .fn s m hy
 |doo a b=>
  obtain⟨t,rfl,x,u,rfl,hx,y,v,rfl,hy,h⟩:=h
  cases (show v=[] from h)
  exact .doo m hx hy
theorem QJ:∀{l:List Pt} {ys:List D},PR l ys->ys.length=l.length
 |[],ys,h=>by cases (show ys=[] from h);rfl
 |.pl d::l,ys,h=>by obtain⟨t,rfl,h⟩:=h;simp[QJ h]
 |.ex e::l,ys,h=>by obtain⟨y,t,rfl,_,h⟩:=h;simp[QJ h]
noncomputable def zAL(m:MF):MS:=(sIf (uX (mUn (qX "tuple") (zE 5))) (sX (cV 4 (jF 3 m (qS (zE 5) (qS (zE 1) (kA (J8 3))))))) (sX (rY 4 (zE 5))))
theorem zFR{m:MF}{E I:Sl}{N:D}:∀(l:List Pt) (B:List Int) (P:List D) (s:Sl),fre s->PtOk l->(l.filterMap ptE).length<=B.length->P.length+l.length<=1000->(∀e,Pt.ex e∈l->∀i:Int,∃y,Mk e y/\∃as,m [.v (toD e),.v N,.v (.int i)]=some (.v y,as)) ->
  ∃(ys:List D) (B':List Int) (s':Sl),PR l ys/\YC (yN 5) (zAL m) (l.map ptD) [E,.v N,I,.o (B.map D.int),.o P,s]=some (.nx [E,.v N,I,.o (B'.map D.int),.o (P++ys),s'])
 |[],B,P,s,hs,h1,h2,h3,h4=>⟨[],B,s,rfl,by rw[List.append_nil];rfl⟩
 |.pl d::l,B,P,s,hs,h1,h2,h3,h4=>by
  obtain⟨ys,B',s',q1,q2⟩:=zFR (E:=E) (I:=I) l B (P++[d]) (.v d) trivial h1.tail h2 (by simp at h3 ⊢;lia) (fun e he=>h4 e (by simp[he]))
  refine⟨d::ys,B',s',⟨ys,rfl,q1⟩,?_⟩
  show YC _ _ (d::l.map ptD) _=_
  rw[j8 (r1:=[E,.v N,I,.o (B.map D.int),.o P,.v d]) (yC (i:=5) (x:=s) rfl hs) (r':=[E,.v N,I,.o (B.map D.int),.o (P++[d]),.v d]) ?_,q2,List.append_assoc];rfl
  have e2:uX (mUn (qX "tuple") (zE 5)) [E,.v N,I,.o (B.map D.int),.o P,.v d]=some false:=by
   unfold uX
   rw[bH (f:=zE 5) (r:=[E,.v N,I,.o (B.map D.int),.o P,.v d]) (x:=d) rfl (h1 d (by simp))];rfl
  unfold zAL
  rw[mM e2]
  exact gC (oE (i:=4) (S:=P) rfl rfl (au (show P.length<2000 by simp at h3;lia) (by decide)))
 |.ex e::l,B,P,s,hs,h1,h2,h3,h4=>by
  match B,h2 with
  |[],h2=>simp[ptE] at h2
  |b::B,h2=>
   obtain⟨y,hy,as,ey⟩:=h4 e (by simp) b
   obtain⟨ys,B',s',q1,q2⟩:=zFR (E:=E) (I:=I) l B (P++[y]) (.v (toD e)) trivial h1.tail (by simpa [ptE] using h2) (by simp at h3 ⊢;lia) (fun e he=>h4 e (by simp[he]))
   refine⟨y::ys,B',s',⟨y,ys,rfl,hy,q1⟩,?_⟩
   show YC _ _ (toD e::l.map ptD) _=_
   let R:En:=[E,.v N,I,.o ((b::B).map D.int),.o P,.v (toD e)]
   rw[j8 (r1:=R) (yC (i:=5) (x:=s) rfl hs) (r':=[E,.v N,I,.o (B.map D.int),.o (P++[y]),.v (toD e)]) ?_,q2,List.append_assoc];rfl
   have e2:uX (mUn (qX "tuple") (zE 5)) R=some true:=by
    unfold uX
    rw[bH (f:=zE 5) (r:=R) (x:=toD e) rfl (XU e)];rfl
   unfold zAL
   rw[mL e2]
   have cx:jF 3 m (qS (zE 5) (qS (zE 1) (kA (J8 3)))) R=some (y,[E,.v N,I,.o (B.map D.int),.o P,.v (toD e)]):=by
    have xa:qS (zE 5) (qS (zE 1) (kA (J8 3))) R=some ([toD e,N,.int b],[E,.v N,I,.o (B.map D.int),.o P,.v (toD e)]):=rfl
    have ey':m (([toD e,N,.int b]:List D).map Sl.v)=some (.v y,as):=ey
    unfold jF
    rw[xa,ac,if_pos (show([toD e,N,.int b]:List D).length=3 from rfl),ey'];rfl
   refine gC (d:=.non) ?_
   unfold cV
   rw[cx,ac]
   show(some P).bind _=_
   rw[ac]
   show(some P).bind _=_
   rw[ac,if_pos (au (show P.length<2000 by simp at h3;lia) (by decide))];rfl
theorem zLG{e a:Ex}(h:Pt.ex a∈pts e):dp a<dp e/\nd a<nd e:=by
 cases e<;>simp[pts] at h
 ·subst h;exact⟨by show dp a<dp a+1;lia,by show nd a<1+nd a;lia⟩
 ·rcases h with rfl|rfl
  ·exact⟨by show dp a<max (dp a) _+1;lia,by show nd a<1+nd a+_;lia⟩
  ·exact⟨by show dp a<max _ (dp a)+1;lia,by show nd a<1+_+nd a;lia⟩
 ·subst h;exact⟨by show dp a<dp a+1;lia,by show nd a<1+nd a;lia⟩
 ·rcases h with rfl|rfl
  ·exact⟨by show dp a<max (dp a) _+1;lia,by show nd a<1+nd a+_;lia⟩
  ·exact⟨by show dp a<max _ (dp a)+1;lia,by show nd a<1+_+nd a;lia⟩
theorem gS(N:D):∀(k:Nat) (e:Ex) (i:Int),dp e<k->nd e<=5000->∃d,Mk e d/\∃as,wR k [.v (toD e),.v N,.v (.int i)]=some (.v d,as)
 |0,e,i,h,_=>by lia
 |k+1,e,i,h,hn=>by
  obtain⟨F,f1,fs,f2⟩:=nK e i hn
  have pl:=pE e
  obtain⟨ys,B',s',q1,q2⟩:=zFR (m:=wR k) (E:=.v (toD e)) (I:=.v (.int i)) (N:=N) (pts e) F [] .un trivial (zB7 e) (Nat.le_of_eq f1.symm) (by simp;lia) (fun a ha j=>by
   have:=zLG ha
   exact gS N k a j (by lia) (by lia))
  have yl:=QJ q1
  let M:D:=.tup [N,.int i]
  refine⟨.tup (ys++[M]),zK2 q1,jL (r':=[.v (toD e),.v N,.v (.int i),.o (B'.map D.int),.o ys,s']) ?_⟩
  show vG (wR k) [.v (toD e),.v N,.v (.int i),.un,.un,.un]=_
  unfold vG
  have f2':yY (([toD e,.int i]:List D).map Sl.v)=some (.f (F.map D.int),fs):=f2
  have s1:QB 3 (uZ 2 yY (zD (zE 0) (zD (zE 2) zU))) [.v (toD e),.v N,.v (.int i),.un,.un,.un]=some (.nx [.v (toD e),.v N,.v (.int i),.o (F.map D.int),.un,.un]):=by
   unfold QB uZ
   rw[zN (x:=toD e) (l:=[.int i]) rfl (zN rfl yF),ac,if_pos (show([toD e,.int i]:List D).length=2 from rfl),f2'];rfl
  rw[yB s1,yB (r':=[.v (toD e),.v N,.v (.int i),.o (F.map D.int),.o [],.un]) (by rfl)]
  have s2:tW (yN 5) (mIt (zE 0)) (zAL (wR k)) [.v (toD e),.v N,.v (.int i),.o (F.map D.int),.o [],.un]=some (.nx [.v (toD e),.v N,.v (.int i),.o (B'.map D.int),.o ys,s']):=by
   unfold tW
   have it:mIt (zE 0) [.v (toD e),.v N,.v (.int i),.o (F.map D.int),.o [],.un]=some ((pts e).map ptD):=by
    unfold mIt
    rw[show zE 0 [.v (toD e),.v N,.v (.int i),.o (F.map D.int),.o [],.un]=some (toD e) from rfl,oM];rfl
   rw[it];exact q2
  unfold zAL at s2
  rw[yB s2]
  refine wE ?_
  unfold JA zL1
  have o4:dF 4 [.v (toD e),.v N,.v (.int i),.o (B'.map D.int),.o ys,s']=some ys:=rfl
  have l1:vX (zD (xI (zD (zE 1) (zD (zE 2) zU))) zU) [.v (toD e),.v N,.v (.int i),.o (B'.map D.int),.o ys,s']=some [M]:=rfl
  rw[o4,ac,l1,ac,if_pos (Nat.le_trans (show ys.length+([M]:List D).length<=100 by show ys.length+1<=100;lia) (by decide))];rfl
noncomputable abbrev tsk(d e:D)(b:Bool):D:=.tup [d,e,.bl b]
noncomputable def ky(s:List Nat):Key:=.inr ⟨s.toArray⟩
theorem zDQ{s t:List Nat}(h:ky s=ky t):s=t:=by
 have h1:(⟨s.toArray⟩:Str)=⟨t.toArray⟩:=Sum.inr.inj h
 have h2:=congrArg (fun x:Str=>x.cps.toList) h1
 simpa using h2
section
variable{mo:Int}{df env:D}
theorem pA{n:Nat}{s:Int}{w c:List D}{t:D}{st:Mst}(h:d7 ⟨mo,s,w++[t],c,.non,df⟩=some st):v9 (n+1) ⟨mo,s,w++[t],c,.non,df⟩=v9 n st:=by
 show(if (w++[t]).isEmpty=false/\nonB .non=true then (d7 _).bind (v9 n) else _)=_
 rw[if_pos ⟨by simp,rfl⟩,h];rfl
theorem zGF{s:Int}{w c:List D}{e:D}:d7 ⟨mo,s,w++[tsk e env false],c,.non,df⟩=(yA ⟨mo,s,w,c,.non,df⟩ [e,env]).map (·.2):=by
 unfold d7
 rw[show(w++[tsk e env false]).getLast?=some (tsk e env false) by simp]
 show(yA ⟨mo,s,(w++[tsk e env false]).dropLast,c,.non,df⟩ _).map _=_
 rw[List.dropLast_concat]
theorem zGE{s:Int}{w c:List D}{e:D}:d7 ⟨mo,s,w++[tsk e env true],c,.non,df⟩=(yH ⟨mo,s,w,c,.non,df⟩ [e]).bind fun p=>(wQ p.2 [e,env,p.1]).map (·.2):=by
 unfold d7
 rw[show(w++[tsk e env true]).getLast?=some (tsk e env true) by simp]
 show(yH ⟨mo,s,(w++[tsk e env true]).dropLast,c,.non,df⟩ _).bind _=_
 rw[List.dropLast_concat]
theorem xS{n:Nat}(h:n<=100000):n<sizeLine:=Nat.lt_of_le_of_lt h (by decide)
theorem beg{s:Int}{w c:List D}{e:D}(h:w.length<=100000):xD ⟨mo,s,w,c,.non,df⟩ [e,env]=some (.non,⟨mo,s,w++[tsk e env false],c,.non,df⟩):=if_pos (xS h)
theorem zH6{s:Int}{w c:List D}{W:List Nat}{r:List D}{n:Nat}{l:List Int}{ps:List D}(hl:(vZ AH W).getD []=l)(hp:l.reverse.map (fun i=>ixD (.tup (.str W::r)) (.int i))=ps.map some)(hw:w.length+l.length<=90000):v9 (n+1) ⟨mo,s,w++[tsk (.tup (.str W::r)) env false],c,.non,df⟩=v9 n ⟨mo,s,w++tsk (.tup (.str W::r)) env true::ps.map (tsk · env false),c,.non,df⟩:=by
 refine pA ?_
 rw[zGF]
 unfold yA
 show Option.map _ (if w.length<sizeLine then _ else none)=_
 rw[if_pos (show w.length<sizeLine from xS (by lia))]
 show((some ((vZ AH W).getD [])).bind _).map _=_
 rw[hl,ac]
 have hll:l.reverse.length=l.length:=List.length_reverse
 have push:∀(is:List Int) (ps w:List D),is.map (fun i=>ixD (.tup (.str W::r)) (.int i))=ps.map some->w.length+is.length<=95000->pD (.tup (.str W::r)) env is ⟨mo,s,w,c,.non,df⟩=some ⟨mo,s,w++ps.map (tsk · env false),c,.non,df⟩:=by
  intro is
  induction is with
  |nil=>intro ps w h _;cases ps with
   |nil=>simp[pD]
   |cons=>cases h
  |cons i is ih=>
   intro ps w h hw
   cases ps with
   |nil=>cases h
   |cons p ps=>
    rw[ao,ao] at h
    obtain⟨h1,h2⟩:=List.cons.inj h
    rw[av] at hw
    unfold pD
    rw[h1,ac,beg (by lia),ac,ih ps _ h2 (by simp;lia)]
    simp
 rw[show zB6 ⟨mo,s,w,c,.non,df⟩ (.tup [.tup (.str W::r),env,.bl true])=⟨mo,s,w++[tsk (.tup (.str W::r)) env true],c,.non,df⟩ from rfl,push _ ps _ hp (by simp;lia)]
 simp
theorem zH5{s:Int}{w c q:List D}{W:List Nat}{r:List D}{n:Nat}{l:List Int}{st:Mst}{mm:Mst->List D->Option (D×Mst)}{x:D}(hl:(vZ AH W).getD []=l)(hq:q.length=l.length)(h4:l.length<=4)(hm:ways W=some mm)(h:mm ⟨mo,s,w,c,.non,df⟩ [.tup (.str W::r),env,.lst q]=some (x,st)):v9 (n+1) ⟨mo,s,w++[tsk (.tup (.str W::r)) env true],c++q,.non,df⟩=v9 n st:=by
 refine pA ?_
 rw[zGE]
 unfold yH
 show((some ((vZ AH W).getD [])).bind _).bind _=_
 rw[hl,ac,if_pos ⟨by show l.length<=(c++q).length;rw[List.length_append];lia,xS (by lia)⟩,ac]
 have e1:(c++q).length-l.length=c.length:=by rw[List.length_append];lia
 show(wQ ⟨mo,s,w,(c++q).take ((c++q).length-l.length),.non,df⟩ [_,_,.lst ((c++q).drop ((c++q).length-l.length))]).map _=_
 rw[e1,List.take_left,List.drop_left]
 unfold wQ
 show(((ways W).bind fun mm=>(mm _ _).map _)).map _=_
 rw[hm,ac,h];rfl
theorem tel{s:Int}{w c:List D}{v:D}(h:c.length<=100000):xQ ⟨mo,s,w,c,.non,df⟩ [v]=some (.non,⟨mo,s,w,c++[v],.non,df⟩):=if_pos (xS h)
theorem gE{n:Nat}{s:Int}{w c:List D}:v9 (n+1) ⟨mo,s,w,c,uF,df⟩=some ⟨mo,s,w,c,uF,df⟩:=by
 show(if _/\nonB uF=true then _ else _)=_
 rw[if_neg (fun z=>by have:=z.2;revert this;decide)]
end
structure Ev(df env d:D)(c:Nat)(v:D)(t h:Nat):Prop where
 run:∀(mo s0:Int) (w cm:List D) (n:Nat),w.length+h<=80000->cm.length+h<=80000->s0+c<=mo->v9 (t+n) ⟨mo,s0,w++[tsk d env false],cm,.non,df⟩=v9 n ⟨mo,s0+c,w,cm++[v],.non,df⟩
 tire:∀(mo s0:Int) (w cm:List D) (n:Nat),w.length+h<=80000->cm.length+h<=80000->s0<=mo->mo<s0+c->∃w' c',v9 (t+1+n) ⟨mo,s0,w++[tsk d env false],cm,.non,df⟩=some ⟨mo,mo,w',c',uF,df⟩
section
variable{df env:D}
theorem Ev.mono{d:D}{c:Nat}{v:D}{t h h':Nat}(r:Ev df env d c v t h)(hh:h<=h'):Ev df env d c v t h':=⟨fun mo s0 w cm n h1 h2=>r.run mo s0 w cm n (by lia) (by lia),fun mo s0 w cm n h1 h2=>r.tire mo s0 w cm n (by lia) (by lia)⟩
theorem g9{W:List Nat}{r:List D}{v:D}{mm:Mst->List D->Option (D×Mst)}(hl:(vZ AH W).getD []=[])(hm:ways W=some mm)(h:∀(st:Mst),mm st [.tup (.str W::r),env,.lst []]=xQ st [v]):Ev df env (.tup (.str W::r)) 0 v 2 2:=by
 refine⟨fun mo s0 w cm n h1 h2 _=>?_,fun mo s0 w cm n h1 h2 h3 h4=>by simp at h4;lia⟩
 rw[show 2+n=(n+1)+1 by lia,zH6 (l:=[]) (ps:=[]) hl rfl (by simp;lia)]
 have:=zH5 (mo:=mo) (df:=df) (env:=env) (s:=s0) (w:=w) (c:=cm) (q:=[]) (W:=W) (r:=r) (n:=n) (l:=[]) (x:=.non) hl rfl (by decide) hm ((h _).trans (tel (by lia)))
 rw[List.append_nil] at this
 rw[show s0+((0:Nat):Int)=s0 by simp]
 exact this
theorem zH9(i:Int)(m:D):Ev df env (.tup [.str [110,117,109],.int i,m]) 0 (.int i) 2 2:=g9 rfl rfl fun _=>rfl
theorem zD4(m:D):Ev df env (.tup [.str [101,109,112,116,121],m]) 0 (.tup [.str [114,101,99],.dct [] []]) 2 2:=g9 rfl rfl fun _=>rfl
theorem rC{ks:List Key}{l:List D}{s:List Nat}{v:D}(m:D)(h:xB ks l (ky s)=some v):Ev df (.dct ks l) (.tup [.str [110,97,109,101],.str s,m]) 0 v 2 2:=g9 (mm:=yR) rfl rfl fun st=>by
 unfold yR
 show(match xB ks l (ky s) with|some v=>xQ st [v]|none=>_)=_
 rw[h]
theorem zIA{ks kd:List Key}{l ld:List D}{s:List Nat}{d v:D}{c t h:Nat}(m:D)(h0:xB ks l (ky s)=none)(h1:xB kd ld (ky s)=some d)(r:Ev (.dct kd ld) (.dct [] []) d c v t h):Ev (.dct kd ld) (.dct ks l) (.tup [.str [110,97,109,101],.str s,m]) (c+1) v (t+2) (h+3):=by
 have st:∀(mo s0:Int) (w cm:List D) (n:Nat) (st:Mst),w.length+3<=80000->yR ⟨mo,s0,w,cm,.non,.dct kd ld⟩ [.tup [.str [110,97,109,101],.str s,m],.dct ks l,.lst []]=some (.non,st)->v9 ((n+1)+1) ⟨mo,s0,w++[tsk (.tup [.str [110,97,109,101],.str s,m]) (.dct ks l) false],cm,.non,.dct kd ld⟩=v9 n st:=fun mo s0 w cm n st hw q=>by
  rw[zH6 (l:=[]) (ps:=[]) rfl rfl (by simp;lia)]
  have:=zH5 (mo:=mo) (df:=.dct kd ld) (env:=.dct ks l) (s:=s0) (w:=w) (c:=cm) (q:=[]) (W:=[110,97,109,101]) (r:=[.str s,m]) (n:=n) (l:=[]) (x:=.non) (mm:=yR) rfl rfl (by decide) rfl q
  rw[List.append_nil] at this
  exact this
 have fe:∀(mo s0:Int) (w cm:List D),yR ⟨mo,s0,w,cm,.non,.dct kd ld⟩ [.tup [.str [110,97,109,101],.str s,m],.dct ks l,.lst []]=(qE ⟨mo,s0,w,cm,.non,.dct kd ld⟩ []).bind fun p=>match p.1,p.2.defs with
   |.bl true,.dct ks l=>(xB ks l (ky s)).bind fun d=>xD p.2 [d,.dct [] []]
   |.bl false,_=>some (.non,p.2)
   |_,_=>none:=fun mo s0 w cm=>by
  unfold yR
  show(match xB ks l (ky s) with|some v=>xQ _ [v]|none=>_)=_
  rw[h0];rfl
 have go:∀(mo s0:Int) (w cm:List D),w.length<=80000->s0<mo->yR ⟨mo,s0,w,cm,.non,.dct kd ld⟩ [.tup [.str [110,97,109,101],.str s,m],.dct ks l,.lst []]=some (.non,⟨mo,s0+1,w++[tsk d (.dct [] []) false],cm,.non,.dct kd ld⟩):=fun mo s0 w cm hw hs=>by
  rw[fe]
  unfold qE
  show Option.bind (if mo<=s0 then _ else _) _=_
  rw[if_neg (show ¬mo<=s0 by lia),ac]
  show(xB kd ld (ky s)).bind _=_
  rw[h1,ac];exact beg (by lia)
 refine⟨fun mo s0 w cm n q1 q2 q3=>?_,fun mo s0 w cm n q1 q2 q3 q4=>?_⟩
 ·rw[show t+2+n=((t+n)+1)+1 by lia,st mo s0 w cm (t+n) _ (by lia) (go mo s0 w cm (by lia) (by lia)),r.run mo (s0+1) w cm n (by lia) (by lia) (by lia)]
  rw[show s0+1+(c:Int)=s0+((c+1:Nat):Int) by lia]
 ·by_cases z:s0<mo
  ·obtain⟨w',c',e⟩:=r.tire mo (s0+1) w cm n (by lia) (by lia) (by lia) (by lia)
   refine⟨w',c',?_⟩
   rw[show t+2+1+n=((t+1+n)+1)+1 by lia,st mo s0 w cm (t+1+n) _ (by lia) (go mo s0 w cm (by lia) z)]
   exact e
  ·obtain rfl:mo=s0:=by lia
   refine⟨w,cm,?_⟩
   rw[show t+2+1+n=((t+n+1)+1)+1 by lia,st mo mo w cm (t+n+1) ⟨mo,mo,w,cm,uF,.dct kd ld⟩ (by lia) (by
    rw[fe]
    unfold qE
    show Option.bind (if mo<=mo then _ else _) _=_
    rw[if_pos (Int.le_refl _)];rfl)]
   exact gE
theorem QV{W:List Nat}{r:List D}{x:D}{i:Int}{c:Nat}{v:D}{t h:Nat}(hl:(vZ AH W).getD []=[i])(hx:ixD (.tup (.str W::r)) (.int i)=some x)(rx:Ev df env x c v t h):(∀(mo s0:Int) (w cm:List D) (n:Nat),w.length+(h+3)<=80000->cm.length+(h+3)<=80000->s0+c<=mo->v9 (1+t+n) ⟨mo,s0,w++[tsk (.tup (.str W::r)) env false],cm,.non,df⟩=v9 n ⟨mo,s0+c,w++[tsk (.tup (.str W::r)) env true],cm++[v],.non,df⟩) /\
  ∀(mo s0:Int) (w cm:List D) (n:Nat),w.length+(h+3)<=80000->cm.length+(h+3)<=80000->s0<=mo->mo<s0+c->∃w' c',v9 (1+t+1+n) ⟨mo,s0,w++[tsk (.tup (.str W::r)) env false],cm,.non,df⟩=some ⟨mo,mo,w',c',uF,df⟩:=by
 have hp:([i]:List Int).reverse.map (fun i=>ixD (.tup (.str W::r)) (.int i))=[x].map some:=by
  show[ixD (.tup (.str W::r)) (.int i)]=[some x]
  rw[hx]
 refine⟨fun mo s0 w cm n h1 h2 h3=>?_,fun mo s0 w cm n h1 h2 h3 h4=>?_⟩
 ·rw[show 1+t+n=(t+n)+1 by lia,zH6 (l:=[i]) (ps:=[x]) hl hp (by simp;lia)]
  have e1:=rx.run mo s0 (w++[tsk (.tup (.str W::r)) env true]) cm n (by simp;lia) (by lia) (by lia)
  rw[List.append_assoc] at e1
  exact e1
 ·obtain⟨w',c',e1⟩:=rx.tire mo s0 (w++[tsk (.tup (.str W::r)) env true]) cm n (by simp;lia) (by lia) h3 h4
  refine⟨w',c',?_⟩
  rw[show 1+t+1+n=(t+1+n)+1 by lia,zH6 (l:=[i]) (ps:=[x]) hl hp (by simp;lia)]
  rw[List.append_assoc] at e1
  exact e1
theorem zH8{W:List Nat}{r:List D}{x:D}{i:Int}{c:Nat}{v v':D}{t h:Nat}{mm:Mst->List D->Option (D×Mst)}(hl:(vZ AH W).getD []=[i])(hx:ixD (.tup (.str W::r)) (.int i)=some x)(hm:ways W=some mm)(hv:∀st:Mst,mm st [.tup (.str W::r),env,.lst [v]]=xQ st [v'])(rx:Ev df env x c v t h):Ev df env (.tup (.str W::r)) c v' (t+2) (h+3):=by
 obtain⟨p1,p2⟩:=QV hl hx rx
 refine⟨fun mo s0 w cm n h1 h2 h3=>?_,fun mo s0 w cm n h1 h2 h3 h4=>?_⟩
 ·rw[show t+2+n=1+t+(n+1) by lia,p1 mo s0 w cm (n+1) h1 h2 h3]
  rw[zH5 (q:=[v]) (l:=[i]) (x:=.non) hl rfl (by show 1<=4;decide) hm (st:=⟨mo,s0+c,w,cm++[v'],.non,df⟩) ((hv _).trans (tel (by lia)))]
 ·obtain⟨w',c',e⟩:=p2 mo s0 w cm (n+1) h1 h2 h3 h4
  refine⟨w',c',?_⟩
  rw[show t+2+1+n=1+t+1+(n+1) by lia]
  exact e
theorem zH7{s:List Nat}{x m v:D}{c t h:Nat}(r:Ev df env x c v t h):Ev df env (.tup [.str [116,97,103],.str s,x,m]) c (.tup [.str [111,110,101],.str s,v]) (t+2) (h+3):=zH8 (i:=2) (mm:=w8) rfl rfl rfl (fun _=>rfl) r
theorem zJH(s:List Nat)(x m:D):Ev df env (.tup [.str [102,110],.str s,x,m]) 0 (.tup [.str [102,110],.str s,x,env]) 2 2:=g9 rfl rfl fun _=>rfl
theorem dY{W:List Nat}{r:List D}{i j:Int}{x y:D}{c1 c2:Nat}{v1 v2:D}{t1 t2 h:Nat}(hl:(vZ AH W).getD []=[i,j])(hx:ixD (.tup (.str W::r)) (.int i)=some x)(hy:ixD (.tup (.str W::r)) (.int j)=some y)(rx:Ev df env x c1 v1 t1 h)(ry:Ev df env y c2 v2 t2 h):(∀(mo s0:Int) (w cm:List D) (n:Nat),w.length+(h+3)<=80000->cm.length+(h+3)<=80000->s0+c1+c2<=mo->v9 (1+t1+t2+n) ⟨mo,s0,w++[tsk (.tup (.str W::r)) env false],cm,.non,df⟩=v9 n ⟨mo,s0+c1+c2,w++[tsk (.tup (.str W::r)) env true],cm++[v1,v2],.non,df⟩) /\
  ∀(mo s0:Int) (w cm:List D) (n:Nat),w.length+(h+3)<=80000->cm.length+(h+3)<=80000->s0<=mo->mo<s0+c1+c2->∃w' c',v9 (1+t1+t2+1+n) ⟨mo,s0,w++[tsk (.tup (.str W::r)) env false],cm,.non,df⟩=some ⟨mo,mo,w',c',uF,df⟩:=by
 have hp:([i,j]:List Int).reverse.map (fun i=>ixD (.tup (.str W::r)) (.int i))=[y,x].map some:=by
  show[ixD (.tup (.str W::r)) (.int j),ixD (.tup (.str W::r)) (.int i)]=[some y,some x]
  rw[hx,hy]
 refine⟨fun mo s0 w cm n h1 h2 h3=>?_,fun mo s0 w cm n h1 h2 h3 h4=>?_⟩
 ·rw[show 1+t1+t2+n=(t1+(t2+n))+1 by lia,zH6 (l:=[i,j]) (ps:=[y,x]) hl hp (by simp;lia)]
  have e1:=rx.run mo s0 (w++[tsk (.tup (.str W::r)) env true,tsk y env false]) cm (t2+n) (by simp;lia) (by lia) (by lia)
  rw[List.append_assoc] at e1
  refine e1.trans ?_
  have e2:=ry.run mo (s0+c1) (w++[tsk (.tup (.str W::r)) env true]) (cm++[v1]) n (by simp;lia) (by simp;lia) (by lia)
  rw[List.append_assoc,List.append_assoc] at e2
  exact e2
 ·by_cases z:mo<s0+c1
  ·obtain⟨w',c',e1⟩:=rx.tire mo s0 (w++[tsk (.tup (.str W::r)) env true,tsk y env false]) cm (t2+n) (by simp;lia) (by lia) h3 z
   refine⟨w',c',?_⟩
   rw[show 1+t1+t2+1+n=(t1+1+(t2+n))+1 by lia,zH6 (l:=[i,j]) (ps:=[y,x]) hl hp (by simp;lia)]
   rw[List.append_assoc] at e1
   exact e1
  ·obtain⟨w',c',e2⟩:=ry.tire mo (s0+c1) (w++[tsk (.tup (.str W::r)) env true]) (cm++[v1]) n (by simp;lia) (by simp;lia) (by lia) (by lia)
   refine⟨w',c',?_⟩
   rw[show 1+t1+t2+1+n=(t1+(t2+1+n))+1 by lia,zH6 (l:=[i,j]) (ps:=[y,x]) hl hp (by simp;lia)]
   have e1:=rx.run mo s0 (w++[tsk (.tup (.str W::r)) env true,tsk y env false]) cm (t2+1+n) (by simp;lia) (by lia) (by lia)
   rw[List.append_assoc] at e1
   refine e1.trans ?_
   rw[List.append_assoc] at e2
   exact e2
theorem zK7{f a m body va v:D}{s:List Nat}{ks:List Key}{l:List D}{c1 c2 c3 t1 t2 t3 h:Nat}(hk:ks.length<=100000)(rf:Ev df env f c1 (.tup [.str [102,110],.str s,body,.dct ks l]) t1 h)(ra:Ev df env a c2 va t2 h)(rb:Ev df (.dct (j6 ks l (ky s) va).1 (j6 ks l (ky s) va).2) body c3 v t3 h):Ev df env (.tup [.str [100,111],f,a,m]) (c1+c2+1+c3) v (t1+t2+t3+2) (h+3):=by
 obtain⟨p1,p2⟩:=dY (W:=[100,111]) (r:=[f,a,m]) (i:=1) (j:=2) rfl rfl rfl rf ra
 have go:∀(mo s0:Int) (w cm:List D),w.length<=80000->s0<mo->wW ⟨mo,s0,w,cm,.non,df⟩ [.tup [.str [100,111],f,a,m],env,.lst [.tup [.str [102,110],.str s,body,.dct ks l],va]]=some (.non,⟨mo,s0+1,w++[tsk body (.dct (j6 ks l (ky s) va).1 (j6 ks l (ky s) va).2) false],cm,.non,df⟩):=fun mo s0 w cm hw hs=>by
  unfold wW
  show(if ([102,110]:List Nat)=[102,110]/\ks.length<sizeLine then _ else none)=_
  rw[if_pos ⟨rfl,xS hk⟩]
  unfold qE
  show Option.bind (if mo<=s0 then _ else _) _=_
  rw[if_neg (show ¬mo<=s0 by lia),ac]
  exact beg (by lia)
 refine⟨fun mo s0 w cm n h1 h2 h3=>?_,fun mo s0 w cm n h1 h2 h3 h4=>?_⟩
 ·rw[show t1+t2+t3+2+n=1+t1+t2+((t3+n)+1) by lia,p1 mo s0 w cm ((t3+n)+1) h1 h2 (by lia)]
  rw[zH5 (q:=[.tup [.str [102,110],.str s,body,.dct ks l],va]) (l:=[1,2]) (x:=.non) rfl rfl (by show 2<=4;decide) rfl (go mo (s0+c1+c2) w cm (by lia) (by lia))]
  rw[rb.run mo (s0+c1+c2+1) w cm n (by lia) (by lia) (by lia),show s0+(c1:Int)+(c2:Int)+1+(c3:Int)=s0+((c1+c2+1+c3:Nat):Int) by lia]
 ·by_cases z:mo<s0+c1+c2
  ·obtain⟨w',c',e⟩:=p2 mo s0 w cm (t3+1+n) h1 h2 h3 (by lia)
   refine⟨w',c',?_⟩
   rw[show t1+t2+t3+2+1+n=1+t1+t2+1+(t3+1+n) by lia]
   exact e
  ·by_cases z2:s0+c1+c2<mo
   ·obtain⟨w',c',e⟩:=rb.tire mo (s0+c1+c2+1) w cm n (by lia) (by lia) (by lia) (by lia)
    refine⟨w',c',?_⟩
    rw[show t1+t2+t3+2+1+n=1+t1+t2+((t3+1+n)+1) by lia,p1 mo s0 w cm ((t3+1+n)+1) h1 h2 (by lia)]
    rw[zH5 (q:=[.tup [.str [102,110],.str s,body,.dct ks l],va]) (l:=[1,2]) (x:=.non) rfl rfl (by show 2<=4;decide) rfl (go mo (s0+c1+c2) w cm (by lia) z2)]
    exact e
   ·have em:s0+(c1:Int)+(c2:Int)=mo:=by lia
    refine⟨w,cm,?_⟩
    rw[show t1+t2+t3+2+1+n=1+t1+t2+((t3+n+1)+1) by lia,p1 mo s0 w cm ((t3+n+1)+1) h1 h2 (by lia),em]
    rw[zH5 (q:=[.tup [.str [102,110],.str s,body,.dct ks l],va]) (l:=[1,2]) (x:=.non) rfl rfl (by show 2<=4;decide) (mm:=wW) rfl (st:=⟨mo,mo,w,cm,uF,df⟩) (by
     unfold wW
     show(if ([102,110]:List Nat)=[102,110]/\ks.length<sizeLine then _ else none)=_
     rw[if_pos ⟨rfl,xS hk⟩]
     unfold qE
     show Option.bind (if mo<=mo then _ else _) _=_
     rw[if_pos (Int.le_refl _)];rfl)]
    exact gE
theorem rB{f:List Nat}{a b m va:D}{ks:List Key}{l:List D}{c1 c2 t1 t2 h:Nat}(hk:ks.length<=100000)(hn:xB ks l (ky f)=none)(ra:Ev df env a c1 va t1 h)(rb:Ev df env b c2 (.tup [.str [114,101,99],.dct ks l]) t2 h):Ev df env (.tup [.str [119,105,116,104],.str f,a,b,m]) (c1+c2) (.tup [.str [114,101,99],.dct (j6 ks l (ky f) va).1 (j6 ks l (ky f) va).2]) (t1+t2+2) (h+3):=by
 obtain⟨p1,p2⟩:=dY (W:=[119,105,116,104]) (r:=[.str f,a,b,m]) (i:=2) (j:=3) rfl rfl rfl ra rb
 refine⟨fun mo s0 w cm n h1 h2 h3=>?_,fun mo s0 w cm n h1 h2 h3 h4=>?_⟩
 ·rw[show t1+t2+2+n=1+t1+t2+(n+1) by lia,p1 mo s0 w cm (n+1) h1 h2 (by lia)]
  rw[zH5 (q:=[va,.tup [.str [114,101,99],.dct ks l]]) (l:=[2,3]) (x:=.non) rfl rfl (by show 2<=4;decide) rfl (st:=⟨mo,s0+c1+c2,w,cm++[.tup [.str [114,101,99],.dct (j6 ks l (ky f) va).1 (j6 ks l (ky f) va).2]],.non,df⟩) (by
   unfold x8
   dsimp only
   rw[if_pos ⟨rfl,hn,xS hk⟩]
   exact tel (by lia))]
  rw[show s0+(c1:Int)+(c2:Int)=s0+((c1+c2:Nat):Int) by lia]
 ·obtain⟨w',c',e⟩:=p2 mo s0 w cm (n+1) h1 h2 h3 (by lia)
  refine⟨w',c',?_⟩
  rw[show t1+t2+2+1+n=1+t1+t2+1+(n+1) by lia]
  exact e
end
inductive Wo where
 |int (n:Int)
 |fnv (x:List Nat) (e:D)
 |one (l:List Nat) (w:Wo)
 |rc1 (f:List Nat) (w:Wo)
 |rc2 (a b:List Nat) (w:Wo)
noncomputable def mn(a b:List Nat):List Nat:=if b<a then b else a
noncomputable def mx(a b:List Nat):List Nat:=if a<b then b else a
noncomputable def mv:Wo->D
 |.int n=>.int n
 |.fnv x e=>.tup [.str [102,110],.str x,e,.dct [] []]
 |.one l w=>.tup [.str [111,110,101],.str l,mv w]
 |.rc1 f w=>.tup [.str [114,101,99],.dct [ky f] [mv w]]
 |.rc2 a b w=>.tup [.str [114,101,99],.dct [ky b,ky a] [mv w,mv w]]
noncomputable def du:Wo->D
 |.int n=>.int n
 |.fnv _ _=>.tup [.str [102,110]]
 |.one l w=>.tup [.str [111,110,101],.str l,du w]
 |.rc1 f w=>.tup [.str [114,101,99],.tup [.tup [.str f,du w]]]
 |.rc2 a b w=>.tup [.str [114,101,99],.tup [.tup [.str (mn a b),du w],.tup [.str (mx a b),du w]]]
noncomputable def dq:Wo->Nat
 |.int _=>0
 |.fnv _ _=>0
 |.one _ w=>dq w+1
 |.rc1 _ w=>dq w+1
 |.rc2 _ _ w=>dq w+1
noncomputable def sz:Wo->Nat
 |.int _=>1
 |.fnv _ _=>1
 |.one _ w=>sz w+1
 |.rc1 _ w=>sz w+1
 |.rc2 _ _ w=>sz w+sz w+1
noncomputable def inn:Wo->List Wo
 |.int _=>[]
 |.fnv _ _=>[]
 |.one _ w=>[w]
 |.rc1 _ w=>[w]
 |.rc2 _ _ w=>[w,w]
noncomputable def gw:Wo->Prop
 |.int _=>True
 |.fnv _ _=>True
 |.one _ w=>gw w
 |.rc1 _ w=>gw w
 |.rc2 a b w=>a≠b/\gw w
theorem oW(s:List Nat):zAQ [s]=[s]:=(oY (List.Perm.refl _) (by unfold mN;simp)).symm
theorem dA(a b:List Nat):zAQ [b,a]=[mn a b,mx a b]:=by
 refine(oY ?_ ?_).symm
 ·unfold mn mx
  by_cases h:b<a
  ·have h2:¬a<b:=fun q=>List.lt_irrefl a (List.lt_trans q h)
   rw[if_pos h,if_neg h2]
  ·rw[if_neg h]
   by_cases h2:a<b
   ·rw[if_pos h2];exact List.Perm.swap ..
   ·have e:a=b:=List.le_antisymm h h2
    rw[if_neg h2,e]
 ·unfold mN mn mx
  by_cases h:b<a
  ·have h2:¬a<b:=fun q=>List.lt_irrefl a (List.lt_trans q h)
   rw[if_pos h,if_neg h2]
   exact List.pairwise_pair.mpr h2
  ·rw[if_neg h]
   by_cases h2:a<b
   ·rw[if_pos h2];exact List.pairwise_pair.mpr h
   ·rw[if_neg h2];exact List.pairwise_pair.mpr (List.lt_irrefl a)
theorem d9{f:MD}{r:En}{ss:List (List Nat)}{l:List D}(h:f r=some (ss.map ky,l))(hs:mK (ss.map ky)=some ss)(hl:ss.length<64):uA (cU f) r=some (.lst ((zAQ ss).map .str)):=by
 unfold uA cU
 rw[h,ac]
 show Option.map D.lst ((mK (ss.map ky)).bind _)=_
 rw[hs,ac,if_pos hl];rfl
theorem p6{l:List (List Nat)}{ks:List Key}{vs:List D}{v:D}(h:∀r:En,r[0]?=some (.v (.tup [.str [114,101,99],.dct ks vs]))->uA (cU (bG (zJ ixD (zE 0) (mC (.int 1))))) r=some (.lst (l.map .str)))(hl:l.length<=10)(hv:∀s∈l,xB ks vs (ky s)=some v):∃as,y8 [.v (.tup [.str [114,101,99],.dct ks vs])]=some (.v (.lst (l.map fun _=>v)),as):=by
 let W:D:=.tup [.str [114,101,99],.dct ks vs]
 refine jL (r':=[.v W]) ?_
 show jO [.v W]=_
 unfold jO
 refine vN (by rfl) (wE ?_)
 have it:mIt (uA (cU (bG (zJ ixD (zE 0) (mC (.int 1)))))) [.v W]=some (l.map .str):=by
  unfold mIt
  rw[h _ rfl];rfl
 have e:uA (vL [0] 2 (mIt (uA (cU (bG (zJ ixD (zE 0) (mC (.int 1))))))) (yN 1) (zHP (bG (zJ ixD (zE 0) (mC (.int 1)))) (zE 1))) [.v W]=Option.map D.lst (vL [0] 2 (mIt (uA (cU (bG (zJ ixD (zE 0) (mC (.int 1))))))) (yN 1) (zHP (bG (zJ ixD (zE 0) (mC (.int 1)))) (zE 1)) [.v W]):=rfl
 rw[e]
 unfold vL qV
 rw[it,ac,if_pos (by rw[ay];exact xS (by lia)),show rZ [0] 2 [.v W]=[.v W,.un] from rfl]
 have:=dN (x:=zHP (bG (zJ ixD (zE 0) (mC (.int 1)))) (zE 1)) (j:=1) (mk:=fun s=>[.v W,s]) (g:=D.str) (y:=fun _=>v) (fun s d hs=>yC (i:=1) (x:=s) rfl hs) l .un trivial (fun s hs=>by
  show xB ks vs (ky s)=_
  exact hv s hs)
 rw[this];rfl
theorem vD:∀ss:List (List Nat),mK (ss.map ky)=some ss
 |[]=>rfl
 |s::ss=>by
  show(mK (ss.map ky)).map _=_
  rw[vD ss];simp
theorem XV:∀w:Wo,gw w->∃as,y8 [.v (mv w)]=some (.v (.lst ((inn w).map mv)),as)
 |.int n,_=>⟨_,rfl⟩
 |.fnv x e,_=>⟨_,rfl⟩
 |.one l w,_=>⟨_,rfl⟩
 |.rc1 f w,_=>by
  refine p6 (l:=[f]) (ks:=[ky f]) (vs:=[mv w]) (v:=mv w) (fun r h=>?_) (by show 1<=10;decide) (fun s hs=>?_)
  ·rw[<-oW f]
   exact d9 (ss:=[f]) (l:=[mv w]) (by unfold bG zJ;rw[zBA h];rfl) (vD [f]) (by show 1<64;decide)
  ·rw[List.mem_singleton.mp hs]
   unfold xB
   rw[if_pos rfl]
 |.rc2 a b w,hw=>by
  have q:=p6 (l:=zAQ [b,a]) (ks:=[ky b,ky a]) (vs:=[mv w,mv w]) (v:=mv w) (fun r h=>d9 (ss:=[b,a]) (l:=[mv w,mv w]) (by unfold bG zJ;rw[zBA h];rfl) (vD [b,a]) (by show 2<64;decide)) (by rw[oX];show 2<=10;decide) (fun s hs=>by
   have hm:s=mn a b\/s=mx a b:=by rw[dA] at hs;simpa using hs
   have hab:s=b\/s=a:=by
    unfold mn mx at hm
    rcases hm with h|h<;>(split at h<;>simp[h])
   unfold xB
   by_cases z:ky b=ky s
   ·rw[if_pos z]
   ·rw[if_neg z]
    rcases hab with rfl|rfl
    ·exact absurd rfl z
    ·unfold xB;rw[if_pos rfl])
  rw[dA] at q
  exact q
theorem zCT:∀w:Wo,∃as,wB [.v (mv w),.v (.lst ((inn w).map du))]=some (.v (du w),as)
 |.int n=>⟨_,rfl⟩
 |.fnv x e=>⟨_,rfl⟩
 |.one l w=>⟨_,rfl⟩
 |.rc1 f w=>by
  refine jL (r':=[.v (mv (.rc1 f w)),.v (.lst [du w])]) ?_
  show xT [.v (mv (.rc1 f w)),.v (.lst [du w])]=_
  unfold xT
  refine vN (by rfl) (wE (qA (zN zL (zN ?_ yF)) (by show 2<=100;decide)))
  have hd:uA (cU (bG (zJ ixD (zE 0) (mC (.int 1))))) [.v (mv (.rc1 f w)),.v (.lst [du w])]=some (.lst [.str f]):=by
   have:=d9 (f:=bG (zJ ixD (zE 0) (mC (.int 1)))) (r:=[.v (mv (.rc1 f w)),.v (.lst [du w])]) (ss:=[f]) (l:=[mv w]) rfl (vD [f]) (by show 1<64;decide)
   rw[oW] at this
   exact this
  unfold zDK
  rw[hd,ac]
  show(if ([D.str f]:List D).length=([du w]:List D).length/\([D.str f]:List D).length<1000 then some (D.tup (mS [.str f] [du w])) else none)=_
  rw[if_pos ⟨rfl,by show 1<1000;decide⟩];rfl
 |.rc2 a b w=>by
  refine jL (r':=[.v (mv (.rc2 a b w)),.v (.lst [du w,du w])]) ?_
  show xT [.v (mv (.rc2 a b w)),.v (.lst [du w,du w])]=_
  unfold xT
  refine vN (by rfl) (wE (qA (zN zL (zN ?_ yF)) (by show 2<=100;decide)))
  have hd:uA (cU (bG (zJ ixD (zE 0) (mC (.int 1))))) [.v (mv (.rc2 a b w)),.v (.lst [du w,du w])]=some (.lst [.str (mn a b),.str (mx a b)]):=by
   have:=d9 (f:=bG (zJ ixD (zE 0) (mC (.int 1)))) (r:=[.v (mv (.rc2 a b w)),.v (.lst [du w,du w])]) (ss:=[b,a]) (l:=[mv w,mv w]) rfl (vD [b,a]) (by show 2<64;decide)
   rw[dA] at this
   exact this
  unfold zDK
  rw[hd,ac]
  show(if ([D.str (mn a b),.str (mx a b)]:List D).length=([du w,du w]:List D).length/\([D.str (mn a b),.str (mx a b)]:List D).length<1000 then some (D.tup (mS [.str (mn a b),.str (mx a b)] [du w,du w])) else none)=_
  rw[if_pos ⟨rfl,by show 2<1000;decide⟩];rfl
noncomputable def pre:Wo->List Wo
 |.int n=>[.int n]
 |.fnv x e=>[.fnv x e]
 |.one l w=>.one l w::pre w
 |.rc1 l w=>.rc1 l w::pre w
 |.rc2 a b w=>.rc2 a b w::(pre w++pre w)
noncomputable def szs(l:List Wo):Nat:=(l.map sz).sum
noncomputable def XB(l:List Wo):List Wo:=l.flatMap pre
theorem oN(a b:List Wo):szs (a++b)=szs a+szs b:=by simp[szs]
theorem uH(a:Wo)(b:List Wo):szs (a::b)=sz a+szs b:=by simp[szs]
theorem QI(a b:List Wo):XB (a++b)=XB a++XB b:=by simp[XB]
theorem ZC(a:Wo)(b:List Wo):XB (a::b)=pre a++XB b:=by simp[XB]
theorem W2(w:Wo):sz w=1+szs (inn w):=by cases w<;>simp[sz,inn,szs]<;>lia
theorem zCB(w:Wo):pre w=w::XB (inn w):=by cases w<;>simp[pre,inn,XB]
theorem W1(w:Wo):0<sz w:=by have:=W2 w;lia
theorem p5(w:Wo):(inn w).length<=2:=by cases w<;>simp[inn]
theorem zDY(w:Wo)(h:gw w):∀v∈inn w,gw v:=by
 intro v hv
 cases w<;>simp[inn] at hv
 ·subst hv;exact h
 ·subst hv;exact h
 ·subst hv;exact h.2
theorem Y2:∀l:List Wo,l.length<=szs l
 |[]=>al _
 |a::l=>by have:=Y2 l;have:=W1 a;rw[uH,av];lia
noncomputable def rP:MS:=(yT (sX (cV 1 (gT 2))) (yT (sIf (mBl (zJ gtD (J9 (dF 1)) (mC (.int 200)))) (kH (xI (zD (mC (.str [100,101,101,112])) zU))) xY) (sX (zHO 2 (mUn zFM (yG 1 y8 (zD (zJB (dF 1) (mUn zHG (mC (.int 1)))) zU)))))))
noncomputable def stk(ts:List Wo):List D:=(ts.map mv).reverse
theorem oV(w:Wo)(ts:List Wo):stk (w::ts)=stk ts++[mv w]:=by simp[stk]
theorem zBS(a b:List Wo):stk (a++b)=stk b++stk a:=by simp[stk]
theorem bN{v0:Sl}(w:Wo)(ts:List Wo)(F:List D)(hF:F.length<=200):sX (cV 1 (gT 2)) [v0,.o F,.o (stk (w::ts)),.un,.un]=some (.nx [v0,.o (F++[mv w]),.o (stk ts),.un,.un]):=by
 refine gC (d:=.non) ?_
 unfold cV
 rw[oV,zCE (i:=2) (S:=stk ts) (d:=mv w) rfl,ac]
 show(if F.length<sizeLine then some (D.non,[v0,Sl.o (F++[mv w]),.o (stk ts),.un,.un]) else none)=_
 rw[if_pos (xS (by lia))]
theorem dZ{v0:Sl}(w:Wo)(hg:gw w)(ts:List Wo)(hts:ts.length<=1000)(F:List D)(hF:F.length<200):rP [v0,.o F,.o (stk (w::ts)),.un,.un]=some (.nx [v0,.o (F++[mv w]),.o (stk (inn w++ts)),.un,.un]):=by
 unfold rP
 rw[yB (bN w ts F (by lia))]
 have c1:mBl (zJ gtD (J9 (dF 1)) (mC (.int 200))) [v0,.o (F++[mv w]),.o (stk ts),.un,.un]=some (decide ((200:Int)<((F++[mv w]).length:Int))):=zFX rfl zL
 rw[decide_eq_false (by rw[List.length_append];show ¬(200:Int)<((F.length+1:Nat):Int);lia)] at c1
 refine kF c1 (gC (d:=.non) ?_)
 have ix:zJB (dF 1) (mUn zHG (mC (.int 1))) [v0,.o (F++[mv w]),.o (stk ts),.un,.un]=some (mv w):=by
  show atI (F++[mv w]) (-1)=_
  exact JZ ..
 have ci:yG 1 y8 (zD (zJB (dF 1) (mUn zHG (mC (.int 1)))) zU) [v0,.o (F++[mv w]),.o (stk ts),.un,.un]=some (.lst ((inn w).map mv)):=xE (p:=.v (.lst ((inn w).map mv))) (zN ix yF) rfl (XV w hg)
 unfold zHO
 rw[bH (d:=.lst ((inn w).map mv).reverse) ci rfl,ac]
 show(some ((inn w).map mv).reverse).bind _=_
 rw[ac]
 show(some (stk ts)).bind _=_
 have il:=p5 w
 have sl:(stk ts).length=ts.length:=by simp[stk]
 rw[ac,if_pos (by rw[List.length_reverse,ay,sl];exact Nat.le_trans (show _<=20000 by lia) (by decide)),zBS]
 rfl
theorem mY{v0:Sl}(w:Wo)(ts:List Wo)(F:List D)(hF:F.length=200):∃r',rP [v0,.o F,.o (stk (w::ts)),.un,.un]=some (.rt (.tup [.str [100,101,101,112]]) r'):=by
 refine⟨[v0,.o (F++[mv w]),.o (stk ts),.un,.un],?_⟩
 unfold rP
 rw[yB (bN w ts F (by lia))]
 have c1:mBl (zJ gtD (J9 (dF 1)) (mC (.int 200))) [v0,.o (F++[mv w]),.o (stk ts),.un,.un]=some (decide ((200:Int)<((F++[mv w]).length:Int))):=zFX rfl zL
 rw[decide_eq_true (by rw[List.length_append];show(200:Int)<((F.length+1:Nat):Int);lia)] at c1
 exact vN c1 (wE (qA (zN zL yF) (by show 1<=100;decide)))
theorem oK{v0 a b c:Sl}{w:Wo}{ts:List Wo}:mO (dF 2) [v0,a,.o (stk (w::ts)),b,c]=some true:=by
 rw[oV]
 show some (!(stk ts++[mv w]).isEmpty)=_
 simp
theorem bM{v0:Sl}:∀(n:Nat) (ts:List Wo) (F:List D),(∀w∈ts,gw w)->szs ts<=n->F.length+szs ts<=200->∀m,wS (n+1+m) (mO (dF 2)) rP [v0,.o F,.o (stk ts),.un,.un]=some (.nx [v0,.o (F++(XB ts).map mv),.o [],.un,.un])
 |n,[],F,hg,hn,h,m=>by
  rw[show n+1+m=(n+m)+1 by lia]
  have e:F++(XB []).map mv=F:=by simp[XB]
  rw[e]
  exact dS rfl
 |0,w::ts,F,hg,hn,h,m=>by rw[uH] at hn;have:=W1 w;lia
 |n+1,w::ts,F,hg,hn,h,m=>by
  rw[uH] at hn h
  have hs:=W2 w
  have hl:=Y2 ts
  have ih:=bM (v0:=v0) n (inn w++ts) (F++[mv w]) (fun v hv=>by
   rcases List.mem_append.mp hv with q|q
   ·exact zDY w (hg w (by simp)) v q
   ·exact hg v (by simp[q])) (by rw[oN];lia) (by rw[oN,List.length_append];show F.length+1+_<=200;lia) m
  rw[show n+1+1+m=(n+1+m)+1 by lia,cX oK (dZ w (hg w (by simp)) ts (by lia) F (by lia)),ih,QI,ZC,zCB w]
  simp
theorem WQ{n:Nat}{c:MB}{g:MS}{r r':En}{d:D}(h:c r=some true)(e:g r=some (.rt d r')):wS (n+1) c g r=some (.rt d r'):=by
 unfold wS
 rw[h,ac,if_pos rfl,e];rfl
theorem d6{v0:Sl}:∀(k:Nat) (ts:List Wo) (F:List D),(∀w∈ts,gw w)->F.length+k=200->ts.length<=400+F.length->k<szs ts->∀m,∃r',wS (k+1+m) (mO (dF 2)) rP [v0,.o F,.o (stk ts),.un,.un]=some (.rt (.tup [.str [100,101,101,112]]) r')
 |k,[],F,hg,hk,hl,h,m=>by simp[szs] at h
 |0,w::ts,F,hg,hk,hl,h,m=>by
  obtain⟨r',q⟩:=mY (v0:=v0) w ts F (by lia)
  exact⟨r',by rw[show 0+1+m=m+1 by lia];exact WQ oK q⟩
 |k+1,w::ts,F,hg,hk,hl,h,m=>by
  rw[uH] at h
  rw[av] at hl
  have hs:=W2 w
  have il:=p5 w
  obtain⟨r',ih⟩:=d6 (v0:=v0) k (inn w++ts) (F++[mv w]) (fun v hv=>by
   rcases List.mem_append.mp hv with q|q
   ·exact zDY w (hg w (by simp)) v q
   ·exact hg v (by simp[q])) (by rw[List.length_append];show F.length+1+k=200;lia) (by rw[List.length_append,List.length_append];show _<=400+(F.length+1);lia) (by rw[oN];lia) m
  refine⟨r',?_⟩
  rw[show k+1+1+m=(k+1+m)+1 by lia,cX oK (dZ w (hg w (by simp)) ts (by lia) F (by lia))]
  exact ih
noncomputable def WM:MS:=(sX (cV 3 (jF 2 wB (qS (zE 4) (kA (uY 3 2 (mIt (yG 1 y8 (zD (zE 4) zU))) (yN 1) (gT 0)))))))
theorem zCC{S:List D}{d:D}{x:Sl}:gT 0 [.p (S++[d]),x]=some (d,[.p S,x]):=by
 show(((S++[d])[(S++[d]).length-1]?).bind fun e=>some (e,[Sl.p (S++[d]).dropLast,x]))=_
 simp
theorem JX:∀w:Wo,∀S:List D,∃x,qJ (yN 1) (gT 0) ((inn w).map mv) [.p (S++(inn w).map du),.un]=some ((inn w).map du,[.p S,x])
 |.int _,S=>⟨.un,by simp[inn,qJ]⟩
 |.fnv _ _,S=>⟨.un,by simp[inn,qJ]⟩
 |.one _ w,S=>by
  refine⟨.v (mv w),?_⟩
  show qJ (yN 1) (gT 0) [mv w] [.p (S++[du w]),.un]=_
  unfold qJ
  rw[show yN 1 (mv w) [.p (S++[du w]),.un]=some [.p (S++[du w]),.v (mv w)] from rfl,ac,zCC];rfl
 |.rc1 _ w,S=>by
  refine⟨.v (mv w),?_⟩
  show qJ (yN 1) (gT 0) [mv w] [.p (S++[du w]),.un]=_
  unfold qJ
  rw[show yN 1 (mv w) [.p (S++[du w]),.un]=some [.p (S++[du w]),.v (mv w)] from rfl,ac,zCC];rfl
 |.rc2 _ _ w,S=>by
  refine⟨.v (mv w),?_⟩
  show qJ (yN 1) (gT 0) [mv w,mv w] [.p (S++[du w,du w]),.un]=_
  rw[show S++[du w,du w]=(S++[du w])++[du w] by simp]
  unfold qJ
  rw[show yN 1 (mv w) [.p ((S++[du w])++[du w]),.un]=some [.p ((S++[du w])++[du w]),.v (mv w)] from rfl,ac,zCC,ac]
  show((qJ (yN 1) (gT 0) [mv w] [.p (S++[du w]),.v (mv w)]).map _)=_
  unfold qJ
  rw[show yN 1 (mv w) [.p (S++[du w]),.v (mv w)]=some [.p (S++[du w]),.v (mv w)] from rfl,ac,zCC];rfl
theorem jJ{v0 z1 z2:Sl}(w:Wo)(hg:gw w)(S:List D)(hS:S.length<=1000):WM [v0,z1,z2,.o (S++(inn w).map du),.v (mv w)]=some (.nx [v0,z1,z2,.o (S++[du w]),.v (mv w)]):=by
 unfold WM
 refine gC (d:=.non) ?_
 let R:En:=[v0,z1,z2,.o (S++(inn w).map du),.v (mv w)]
 have ci:yG 1 y8 (zD (zE 4) zU) R=some (.lst ((inn w).map mv)):=xE (p:=.v (.lst ((inn w).map mv))) (zN (x:=mv w) rfl yF) rfl (XV w hg)
 have it:mIt (yG 1 y8 (zD (zE 4) zU)) R=some ((inn w).map mv):=by
  unfold mIt
  rw[ci];rfl
 have il:=p5 w
 obtain⟨x,cp⟩:=JX w S
 have cx:uY 3 2 (mIt (yG 1 y8 (zD (zE 4) zU))) (yN 1) (gT 0) R=some (.lst ((inn w).map du),[v0,z1,z2,.o S,.v (mv w)]):=by
  unfold uY
  rw[it,ac]
  show(some (S++(inn w).map du)).bind _=_
  rw[ac,if_pos (by rw[ay];exact xS (by lia))]
  show(qJ (yN 1) (gT 0) ((inn w).map mv) [.p (S++(inn w).map du),.un]).bind _=_
  rw[cp];rfl
 have xa:qS (zE 4) (kA (uY 3 2 (mIt (yG 1 y8 (zD (zE 4) zU))) (yN 1) (gT 0))) R=some ([mv w,.lst ((inn w).map du)],[v0,z1,z2,.o S,.v (mv w)]):=by
  unfold qS kA
  rw[cx];rfl
 obtain⟨as,hp⟩:=zCT w
 have hp':wB (([mv w,.lst ((inn w).map du)]:List D).map Sl.v)=some (.v (du w),as):=hp
 have cc:jF 2 wB (qS (zE 4) (kA (uY 3 2 (mIt (yG 1 y8 (zD (zE 4) zU))) (yN 1) (gT 0)))) R=some (du w,[v0,z1,z2,.o S,.v (mv w)]):=by
  unfold jF
  rw[xa,ac,if_pos (show([mv w,.lst ((inn w).map du)]:List D).length=2 from rfl),hp'];rfl
 unfold cV
 rw[cc,ac]
 show(some (S++(inn w).map du)).bind _=_
 rw[ac]
 show(some S).bind _=_
 rw[ac,if_pos (xS (by lia))];rfl
theorem vC{v0 z1 z2:Sl}:∀(w:Wo),gw w->∀(rest:List D) (S:List D) (s:Sl),S.length+sz w<=900->fre s->YC (yN 4) WM ((pre w).reverse.map mv++rest) [v0,z1,z2,.o S,s]=YC (yN 4) WM rest [v0,z1,z2,.o (S++[du w]),.v (mv w)]
 |.int n,hg,rest,S,s,hb,hs=>by
  have:=jJ (v0:=v0) (z1:=z1) (z2:=z2) (.int n) hg S (by lia)
  rw[show S++(inn (.int n)).map du=S by simp[inn]] at this
  exact j8 (yC (i:=4) (x:=s) rfl hs) this
 |.fnv x e,hg,rest,S,s,hb,hs=>by
  have:=jJ (v0:=v0) (z1:=z1) (z2:=z2) (.fnv x e) hg S (by lia)
  rw[show S++(inn (.fnv x e)).map du=S by simp[inn]] at this
  exact j8 (yC (i:=4) (x:=s) rfl hs) this
 |.one l w,hg,rest,S,s,hb,hs=>by
  have hb':S.length+(sz w+1)<=900:=hb
  rw[show(pre (.one l w)).reverse.map mv++rest=(pre w).reverse.map mv++(mv (.one l w)::rest) by simp[pre]]
  rw[vC w hg _ S s (by lia) hs]
  exact j8 (yC (i:=4) (x:=.v (mv w)) rfl trivial) (jJ (.one l w) hg S (by lia))
 |.rc1 l w,hg,rest,S,s,hb,hs=>by
  have hb':S.length+(sz w+1)<=900:=hb
  rw[show(pre (.rc1 l w)).reverse.map mv++rest=(pre w).reverse.map mv++(mv (.rc1 l w)::rest) by simp[pre]]
  rw[vC w hg _ S s (by lia) hs]
  exact j8 (yC (i:=4) (x:=.v (mv w)) rfl trivial) (jJ (.rc1 l w) hg S (by lia))
 |.rc2 a b w,hg,rest,S,s,hb,hs=>by
  have hb':S.length+(sz w+sz w+1)<=900:=hb
  rw[show(pre (.rc2 a b w)).reverse.map mv++rest=(pre w).reverse.map mv++((pre w).reverse.map mv++(mv (.rc2 a b w)::rest)) by simp[pre]]
  rw[vC w hg.2 _ S s (by lia) hs,vC w hg.2 _ (S++[du w]) (.v (mv w)) (by rw[List.length_append];show S.length+1+sz w<=900;have:=W1 w;lia) trivial]
  have:=jJ (v0:=v0) (z1:=z1) (z2:=z2) (.rc2 a b w) hg S (by lia)
  rw[show S++(inn (.rc2 a b w)).map du=S++[du w]++[du w] by simp[inn]] at this
  exact j8 (yC (i:=4) (x:=.v (mv w)) rfl trivial) this
noncomputable def zLP:D:=.tup [.str [100,101,101,112]]
theorem zBL(w:Wo)(hg:gw w):∃as,YX [.v (mv w)]=some (.v (if 200<sz w then zLP else du w),as):=by
 by_cases h:200<sz w
 ·rw[if_pos h]
  obtain⟨r',q⟩:=d6 (v0:=.v (mv w)) 200 [w] [] (fun v hv=>by rw[List.mem_singleton.mp hv];exact hg) rfl (by show 1<=400;decide) (by simpa [szs] using h) (WF-201)
  rw[show 200+1+(WF-201)=WF by unfold WF;lia] at q
  refine jL (r':=r') ?_
  show cM [.v (mv w),.un,.un,.un,.un]=_
  unfold cM
  rw[yB (r':=[.v (mv w),.o [],.un,.un,.un]) (by rfl),yB (r':=[.v (mv w),.o [],.o [mv w],.un,.un]) (by rfl)]
  unfold rP at q
  exact zBV q
 ·rw[if_neg h]
  let F:List D:=(pre w).map mv
  have s1:=bM (v0:=.v (mv w)) (sz w) [w] [] (fun v hv=>by rw[List.mem_singleton.mp hv];exact hg) (by simp[szs]) (by simp[szs];lia) (WF-(sz w+1))
  rw[show sz w+1+(WF-(sz w+1))=WF by unfold WF;lia,List.nil_append,show XB [w]=pre w by simp[XB]] at s1
  refine jL (r':=[.v (mv w),.o F,.o [],.o [du w],.v (mv w)]) ?_
  show cM [.v (mv w),.un,.un,.un,.un]=_
  unfold cM
  rw[yB (r':=[.v (mv w),.o [],.un,.un,.un]) (by rfl),yB (r':=[.v (mv w),.o [],.o [mv w],.un,.un]) (by rfl)]
  unfold rP at s1
  have s1':wS WF _ _ [.v (mv w),.o [],.o [mv w],.un,.un]=some (.nx [.v (mv w),.o F,.o [],.un,.un]):=s1
  rw[yB s1',yB (r':=[.v (mv w),.o F,.o [],.o [],.un]) (by rfl)]
  have s2:sZ 1 (tW (yN 4) (ZX (mZs 1)) WM) [.v (mv w),.o F,.o [],.o [],.un]=some (.nx [.v (mv w),.o F,.o [],.o [du w],.v (mv w)]):=by
   unfold sZ
   show((tW _ _ _ [.v (mv w),.z F,.o [],.o [],.un])).bind _=_
   unfold tW
   rw[show ZX (mZs 1) [.v (mv w),.z F,.o [],.o [],.un]=some F.reverse from rfl,ac]
   have:=vC (v0:=.v (mv w)) (z1:=.z F) (z2:=.o []) w hg [] [] .un (by show 0+sz w<=900;lia) trivial
   rw[List.append_nil,List.map_reverse] at this
   rw[this];rfl
  unfold WM at s2
  rw[yB s2]
  exact wE rfl
inductive Al:Nat->D->Prop
 |int {n:Nat} (i:Int):Al n (.int i)
 |str {n:Nat} (s:List Nat):Al n (.str s)
 |tup {n:Nat} {l:List D}:(∀d∈l,Al n d)->Al (n+1) (.tup l)
noncomputable def zE1(m:MF):MS:=(sIf (XM (uX (yG 2 m (zD (zE 2) (zD (zE 3) zU))))) (kH (mC (.bl false))) xY)
theorem cC{m:MF}{a b:Sl}:∀(l:List D) (x y:Sl),fre x->fre y->(∀d∈l,∃as,m [.v d,.v d]=some (.v (.bl true),as))->∃x' y',YC (qZ 2 (yE (yN 2) (yE (yN 3) jG))) (zE1 m) (mS l l) [a,b,x,y]=some (.nx [a,b,x',y'])
 |[],x,y,_,_,_=>⟨x,y,rfl⟩
 |d::l,x,y,hx,hy,h=>by
  obtain⟨x',y',q⟩:=cC (a:=a) (b:=b) l (.v d) (.v d) trivial trivial fun e he=>h e (by simp[he])
  refine⟨x',y',?_⟩
  show YC _ _ (.tup [d,d]::mS l l) _=_
  rw[j8 (d:=.tup [d,d]) (r1:=[a,b,.v d,.v d]) (bdP (r1:=[a,b,.v d,y]) (yC (i:=2) (x:=x) rfl hx) (yC (i:=3) (x:=y) rfl hy)) (r':=[a,b,.v d,.v d]) ?_]
  ·exact q
  ·unfold zE1
   have hc:yG 2 m (zD (zE 2) (zD (zE 3) zU)) [a,b,.v d,.v d]=some (.bl true):=xE (p:=.v (.bl true)) (zN (x:=d) rfl (zN (x:=d) rfl yF)) rfl (h d (by simp))
   have hn:XM (uX (yG 2 m (zD (zE 2) (zD (zE 3) zU)))) [a,b,.v d,.v d]=some false:=by
    unfold XM uX
    rw[hc];rfl
   rw[mM hn];rfl
theorem J1{n:Nat}{d:D}(h:Al n d):∀k,n<k->∃as,yD k [.v d,.v d]=some (.v (.bl true),as):=by
 induction h with
 |int i=>
  intro k hk
  cases k with
  |zero=>lia
  |succ k=>
   refine jL (r':=[.v (.int i),.v (.int i),.un,.un]) ?_
   show yV (yD k) [.v (.int i),.v (.int i),.un,.un]=_
   unfold yV
   refine kF (by rfl) (vN (by rfl) (wE ?_))
   show some (D.bl (decide (i=i)))=_
   rw[decide_eq_true rfl]
 |str s=>
  intro k hk
  cases k with
  |zero=>lia
  |succ k=>
   refine jL (r':=[.v (.str s),.v (.str s),.un,.un]) ?_
   show yV (yD k) [.v (.str s),.v (.str s),.un,.un]=_
   unfold yV
   refine kF (by rfl) (kF (by rfl) (wE ?_))
   show some (D.bl (decide (s=s)))=_
   rw[decide_eq_true rfl]
 |tup hl ih=>
  rename_i n l
  intro k hk
  cases k with
  |zero=>lia
  |succ k=>
   obtain⟨x',y',q⟩:=cC (m:=yD k) (a:=.v (.tup l)) (b:=.v (.tup l)) l .un .un trivial trivial fun d hd=>ih d hd k (by lia)
   refine jL (r':=[.v (.tup l),.v (.tup l),x',y']) ?_
   show yV (yD k) [.v (.tup l),.v (.tup l),.un,.un]=_
   unfold yV
   refine vN (by rfl) ?_
   refine kF (by rfl) ?_
   have ln:mBl (zJ neA (mUn gX (zE 0)) (mUn gX (zE 1))) [.v (.tup l),.v (.tup l),.un,.un]=some false:=by
    show some (!decide ((l.length:Int)=(l.length:Int)))=_
    rw[decide_eq_true rfl];rfl
   refine kF ln ?_
   have s1:tW (qZ 2 (yE (yN 2) (yE (yN 3) jG))) (zDJ (zE 0) (zE 1)) (zE1 (yD k)) [.v (.tup l),.v (.tup l),.un,.un]=some (.nx [.v (.tup l),.v (.tup l),x',y']):=by
    unfold tW
    rw[show zDJ (zE 0) (zE 1) [.v (.tup l),.v (.tup l),.un,.un]=some (mS l l) from rfl]
    exact q
   unfold zE1 at s1
   rw[yB s1]
   exact wE zL
theorem Al.mono{n m:Nat}{d:D}(h:Al n d):n<=m->Al m d:=by
 induction h generalizing m with
 |int i=>intro _;exact .int i
 |str s=>intro _;exact .str s
 |tup hl ih=>
  rename_i n l
  intro hm
  cases m with
  |zero=>lia
  |succ m=>exact .tup fun d hd=>ih d hd (by lia)
theorem zE4:∀w:Wo,Al (3*dq w+1) (du w)
 |.int n=>.int n
 |.fnv x e=>.tup fun d hd=>by rw[List.mem_singleton.mp hd];exact .str _
 |.one l w=>by
  have ih:=zE4 w
  show Al (3*(dq w+1)+1) _
  rw[show 3*(dq w+1)+1=(3*dq w+3)+1 by lia]
  refine .tup fun d hd=>?_
  simp only[List.mem_cons,List.not_mem_nil,or_false] at hd
  rcases hd with rfl|rfl|rfl
  ·exact .str _
  ·exact .str _
  ·exact ih.mono (by lia)
 |.rc1 f w=>by
  have ih:=zE4 w
  show Al (3*(dq w+1)+1) _
  rw[show 3*(dq w+1)+1=((3*dq w+1+1)+1)+1 by lia]
  refine .tup fun d hd=>?_
  simp only[List.mem_cons,List.not_mem_nil,or_false] at hd
  rcases hd with rfl|rfl
  ·exact .str _
  ·refine .tup fun d hd=>?_
   rw[List.mem_singleton.mp hd]
   refine .tup fun d hd=>?_
   simp only[List.mem_cons,List.not_mem_nil,or_false] at hd
   rcases hd with rfl|rfl
   ·exact .str _
   ·exact ih
 |.rc2 a b w=>by
  have ih:=zE4 w
  show Al (3*(dq w+1)+1) _
  rw[show 3*(dq w+1)+1=((3*dq w+1+1)+1)+1 by lia]
  refine .tup fun d hd=>?_
  simp only[List.mem_cons,List.not_mem_nil,or_false] at hd
  rcases hd with rfl|rfl
  ·exact .str _
  ·refine .tup fun d hd=>?_
   simp only[List.mem_cons,List.not_mem_nil,or_false] at hd
   rcases hd with rfl|rfl <;>
   ·refine .tup fun d hd=>?_
    simp only[List.mem_cons,List.not_mem_nil,or_false] at hd
    rcases hd with rfl|rfl
    ·exact .str _
    ·exact ih
theorem zE3(P:List D):∀w:Wo,apD P (du w)=true
 |.int n=>rfl
 |.fnv _ _=>rfl
 |.one l w=>by
  have ih:=zE3 P w
  show(true && (true && (apD P (du w) && true)))=true
  rw[ih];rfl
 |.rc1 f w=>by
  have ih:=zE3 P w
  show(true && (((true && (apD P (du w) && true)) && true) && true))=true
  rw[ih];rfl
 |.rc2 a b w=>by
  have ih:=zE3 P w
  show(true && (((true && (apD P (du w) && true)) && ((true && (apD P (du w) && true)) && true)) && true))=true
  rw[ih];rfl
structure Lbs(ls:List (List Nat)):Prop where
 len:ls.length=5
 nd:ls.Nodup
theorem mZ{ls:List (List Nat)}{i:Int}(h0:0<=i)(h1:i<ls.length):∃j:Nat,∃h:j<ls.length,(j:Int)=i/\ixD (.lst (ls.map .str)) (.int i)=some (.str ls[j]):=by
 obtain⟨j,rfl⟩:=Int.eq_ofNat_of_zero_le h0
 have hj:j<ls.length:=by lia
 refine⟨j,hj,rfl,?_⟩
 show atI (ls.map D.str) (j:Int)=_
 refine cB ?_
 rw[ba,bb hj];rfl
noncomputable def zL4:List Nat:=[113,120,122,106,118,107,97,101,105,109]
noncomputable def wr5:List Nat:=[119,114,121,115,117]
theorem zJ2:∀i:Nat,i<5->wr5[i]?=some (wr5.getD i 0):=by unfold wr5;decide
theorem zF8:∀a:Nat,a<5->∀b:Nat,b<5->wr5.getD a 0=wr5.getD b 0->a=b:=by unfold wr5;decide
theorem zIM{α:Type}(s:List α)(k:Nat):rK s none (some (k:Int))=s.take k:=by
 unfold rK
 rw[HT.sIx_nat,HT.sIx_none,List.drop_zero,Nat.sub_zero]
 by_cases h:k<=s.length
 ·rw[Nat.min_eq_left h]
 ·rw[Nat.min_eq_right (by lia),List.take_length,List.take_of_length_le (by lia)]
theorem uU{f:Nat->List Nat}:∀{l:List Nat},l.Nodup->(∀a∈l,∀b∈l,f a=f b->a=b)->(l.map f).Nodup
 |[],_,_=>List.nodup_nil
 |a::l,h,hi=>by
  rw[List.nodup_cons] at h
  rw[ao,List.nodup_cons]
  refine⟨fun z=>?_,uU h.2 fun x hx y hy=>hi x (by simp[hx]) y (by simp[hy])⟩
  obtain⟨b,hb,e⟩:=List.mem_map.mp z
  have:=hi b (by simp[hb]) a (by simp) e
  exact h.1 (this ▸ hb)
theorem Z2{c:Int}(hc:0<=c):∃ls:List (List Nat),Lbs ls/\∃as,qP [.v (.int c)]=some (.v (.lst (ls.map .str)),as):=by
 have z0:0<=c % 8:=Int.emod_nonneg _ (by decide)
 have z7:c % 8<8:=Int.emod_lt_of_pos _ (by decide)
 obtain⟨n,hn⟩:∃n:Nat,c % 8=(n:Int):=⟨(c % 8).toNat,by lia⟩
 let C:Sl:=.v (.int c)
 obtain⟨cs,c1,c2,c3⟩:=WJ (x:=zJ ixD (mC (.str [113,120,122,106,118,107,97,101,105,109])) (zJ wY (yG 2 yL (zD (zE 0) (zD (zJ jT (mC (.int 30)) (zE 1)) zU))) (mC (.int 10)))) (j:=1) (mk:=fun s=>[C,s]) (p:=(·∈zL4)) (fun s d hs=>yC (x:=s) rfl hs) ((List.range n).map fun i=>D.int ((0:Int)+(i:Nat))) .un trivial (fun d hd=>by
  obtain⟨i,_,rfl⟩:=List.mem_map.mp hd
  obtain⟨m,m0,hm⟩:=vE c (30+((0:Int)+(i:Nat)))
  obtain⟨ch,h1,h2⟩:=zLH (l:=zL4) (by decide) (i:=m % 10) (Int.emod_nonneg _ (by decide)) (Int.emod_lt_of_pos _ (by decide))
  exact⟨ch,h1,xG (x:=.str zL4) zL (x5 (xE (p:=.v (.int m)) (zN rfl (zN (qK zL rfl) yF)) rfl hm) zL (by decide)) h2⟩)
 rw[ay,List.length_range] at c1
 have len:cs.length<=8:=by lia
 have a0:0<=c / 8 % ((cs.length:Int)+1):=Int.emod_nonneg _ (by lia)
 have a1:c / 8 % ((cs.length:Int)+1)<(cs.length:Int)+1:=Int.emod_lt_of_pos _ (by lia)
 obtain⟨a,ha⟩:∃a:Nat,c / 8 % ((cs.length:Int)+1)=(a:Int):=⟨(c / 8 % ((cs.length:Int)+1)).toNat,by lia⟩
 let B:Sl:=.v (.str cs)
 let A:Sl:=.v (.int (a:Int))
 let f:Nat->List Nat:=fun i=>cs.take a++[wr5.getD i 0]++cs.drop a
 have l3:=dN (x:=zJ jT (zJ jT (mSl (zE 0) XH (uT (zE 1))) (zJ ixD (mC (.str [119,114,121,115,117])) (zE 2))) (mSl (zE 0) (uT (zE 1)) XH)) (j:=2) (mk:=fun s=>[B,A,s]) (g:=fun i:Nat=>D.int ((0:Int)+(i:Nat))) (y:=fun i=>.str (f i)) (fun s d hs=>yC (i:=2) (x:=s) rfl hs) (List.range 5) .un trivial (fun i hi=>by
  have hi:=List.mem_range.mp hi
  have h2:ixD (.str wr5) (.int ((0:Int)+(i:Nat)))=some (.str [wr5.getD i 0]):=by
   rw[Int.zero_add]
   show(if wr5.length<=sizeLine then (atI wr5 (i:Int)).map fun c=>D.str [c] else none)=_
   rw[if_pos (by decide),cB (zJ2 i hi)];rfl
  have lt:(cs.take a).length<=8:=by rw[List.length_take];lia
  have ld:(cs.drop a).length<=8:=by rw[List.length_drop];lia
  exact xG (x:=.str (cs.take a++[wr5.getD i 0])) (y:=.str (cs.drop a)) (xG (x:=.str (cs.take a)) (y:=.str [wr5.getD i 0]) (zFK (x:=.str cs) (a:=none) (b:=some (a:Int)) rfl (by rfl) (uP rfl) (by rw[tQ (by lia),zIM])) (xG (x:=.str wr5) zL rfl h2) (oR (by show _+1<=100;lia))) (zFK (x:=.str cs) (a:=some (a:Int)) (b:=none) rfl (uP rfl) (by rfl) (by rw[tQ (by lia),JV])) (oR (by rw[List.length_append];show _+1+_<=100;lia)))
 refine⟨(List.range 5).map f,⟨by rw[ay,List.length_range],uU List.nodup_range fun x hx y hy e=>?_⟩,jL (r':=[C,B,A]) ?_⟩
 ·have hx:=List.mem_range.mp hx
  have hy:=List.mem_range.mp hy
  have e':cs.take a++([wr5.getD x 0]++cs.drop a)=cs.take a++([wr5.getD y 0]++cs.drop a):=by
   rw[<-List.append_assoc,<-List.append_assoc];exact e
  have e2:=List.append_cancel_left e'
  exact zF8 x hx y hy (List.cons.inj e2).1
 ·show x2 [C,.un,.un]=_
  unfold x2
  refine yP (.str cs) (r2:=[C,B,.un]) ?_ (by rfl) ?_
  ·unfold zFU
   rw[zL,ac]
   show(vL _ _ _ _ _ _).bind _=_
   unfold vL qV
   rw[zB2 (n:=n) (hn ▸ x5 rfl zL (by decide)) (by lia),ac,if_pos (by rw[ay,List.length_range];exact xS (by lia))]
   rw[show rZ [0] 2 [C,.un,.un]=[C,.un] from rfl,c3,ac,oO,ac,if_pos,pV]
   have e:((cs.map fun c=>[c]).map List.length).sum=cs.length:=by
    rw[List.map_map]
    clear l3 f A B ha a0 a1 c2 c3 c1 len
    induction cs with
    |nil=>rfl
    |cons x t ih=>simp at ih ⊢;lia
   rw[e];simp;lia
  ·refine yP (.int (a:Int)) (r2:=[C,B,A]) (ha ▸ x5 (qG rfl zL (by decide)) (qK (bH (x:=.str cs) rfl (if_pos (Nat.le_trans (show cs.length<=100 by lia) (by decide)))) zL) (by lia)) (by rfl) (wE ?_)
   unfold uA vL qV
   have r5:XL (mC (.int 5)) [C,B,A]=some ((List.range 5).map fun k=>.int ((0:Int)+(k:Nat))):=zB2 (n:=5) zL (by decide)
   rw[r5,ac,if_pos (by rw[ay,List.length_range];exact xS (by decide)),show rZ [1,2] 3 [C,B,A]=[B,A,.un] from rfl,l3,List.map_map];rfl
noncomputable def ok3(x:Int):Prop:=x=0\/x=1\/x=2
theorem WT:∃as,yW [.v (.int 199)]=some (.v (.lst (([1,2,2,2,0,2,2,2]:List Int).map .int)),as):=⟨_,rfl⟩
theorem WS:∃as,yW [.v (.int 200)]=some (.v (.lst (([1,2,2,2,0,2,2,2,0]:List Int).map .int)),as):=⟨_,rfl⟩
theorem WR:∃as,yW [.v (.int 201)]=some (.v (.lst (([1,2,2,2,0,2,2,0,2]:List Int).map .int)),as):=⟨_,rfl⟩
theorem zA4{m:Int}(h0:0<=m)(h3:m<3):∃ws:List Int,ws.length<=60/\(∀x∈ws,ok3 x)/\∃as,yW [.v (.int (199+m))]=some (.v (.lst (ws.map .int)),as):=by
 have hm:m=0\/m=1\/m=2:=by lia
 rcases hm with rfl|rfl|rfl
 ·exact⟨_,by decide,by unfold ok3;decide,WT⟩
 ·exact⟨_,by decide,by unfold ok3;decide,WS⟩
 ·exact⟨_,by decide,by unfold ok3;decide,WR⟩
noncomputable def vw(x:Int)(a b:List Nat)(w:Wo):Wo:=if x=0 then .one a w else if x=1 then .rc1 a w else .rc2 a b w
noncomputable def made(x:Int)(a b:List Nat)(d:D):D:=if x=0 then .tup [.str [111,110,101],.str a,d] else if x=1 then .tup [.str [114,101,99],.tup [.tup [.str a,d]]] else .tup [.str [114,101,99],.tup [.tup [.str (mn a b),d],.tup [.str (mx a b),d]]]
noncomputable def tw(x:Int)(a b s:List Nat)(e:Ex):Ex:=if x=0 then .tag a e else if x=1 then .wth a e .emp else .doo (.fn s (.wth a (.nm s) (.wth b (.nm s) .emp))) e
noncomputable def st(x:Int):Nat:=if x=2 then 1 else 0
theorem zK8{x:Int}(h:ok3 x)(a b:List Nat)(w:Wo):du (vw x a b w)=made x a b (du w):=by
 rcases h with rfl|rfl|rfl<;>rfl
theorem zEM{n:Int}(hn:0<=n){ls:List (List Nat)}(hL:Lbs ls){x:Int}(hx:ok3 x)(told:Ex)(wd:D):∃a b s,a≠b/\∃as,jA [.v (toD told),.v wd,.v (.int x),.v (.int n),.v (.lst (ls.map .str))]=some (.v (.tup [toD (tw x a b s told),made x a b wd,.int (st x:Int)]),as):=by
 have five:∀m:Int,0<=m % 5/\m % 5<(ls.length:Int):=fun m=>⟨Int.emod_nonneg _ (by decide),by rw[hL.len];exact Int.emod_lt_of_pos _ (by decide)⟩
 obtain⟨i,hi,ei,e5⟩:=mZ (five n).1 (five n).2
 obtain⟨j,hj,ej,e6⟩:=mZ (five (n+1+n / 5 % 4)).1 (five (n+1+n / 5 % 4)).2
 obtain⟨k,hk,ek,e7⟩:=mZ (five (n / 20)).1 (five (n / 20)).2
 have hne:ls[i]≠ls[j]:=fun q=>by
  have pw:=List.pairwise_iff_getElem.mp hL.nd
  have:i=j:=by
   by_cases l1:i<j
   ·exact absurd q (pw i j hi hj l1)
   ·by_cases l2:j<i
    ·exact absurd q.symm (pw j i hj hi l2)
    ·lia
  have z0:0<=n / 5 % 4:=Int.emod_nonneg _ (by decide)
  have z4:n / 5 % 4<4:=Int.emod_lt_of_pos _ (by decide)
  lia
 generalize hA:ls[i]=a at *
 generalize hB:ls[j]=b at *
 generalize hS:ls[k]=s at *
 refine⟨a,b,s,hne,?_⟩
 let A0:Sl:=.v (toD told)
 let A1:Sl:=.v wd
 let A2:Sl:=.v (.int x)
 let A3:Sl:=.v (.int n)
 let A4:Sl:=.v (.lst (ls.map .str))
 let R:Sl->Sl->Sl->Sl->Sl->En:=fun p q r t u=>[A0,A1,A2,A3,A4,p,q,r,t,u]
 let P:Sl:=.v (.str a)
 let Q:Sl:=.v (.str b)
 let S:Sl:=.v (.str s)
 have f5:zJ ixD (zE 4) (zJ wY (zE 3) (mC (.int 5))) (R .un .un .un .un .un)=some (.str a):=xG rfl (x5 rfl zL (by decide)) e5
 have f6:zJ ixD (zE 4) (zJ wY (zJ jT (zJ jT (zE 3) (mC (.int 1))) (zJ wY (zJ wJ (zE 3) (mC (.int 5))) (mC (.int 4)))) (mC (.int 5))) (R P .un .un .un .un)=some (.str b):=xG rfl (x5 (qK (qK rfl zL) (x5 (qG rfl zL (by decide)) zL (by decide))) zL (by decide)) e6
 have f7:zJ ixD (zE 4) (zJ wY (zJ wJ (zE 3) (mC (.int 20))) (mC (.int 5))) (R P Q .un .un .un)=some (.str s):=xG rfl (x5 (qG rfl zL (by decide)) zL (by decide)) e7
 have cx:∀(v:Int) (p q r t u:Sl),mBl (zJ eqA (zE 2) (mC (.int v))) (R p q r t u)=some (decide (x=v)):=fun v p q r t u=>mP (xG (x:=.int x) (y:=.int v) rfl zL rfl)
 have t3:∀(z:En) (f g h:ME) (a b c:D),f z=some a->g z=some b->h z=some c->xI (zD f (zD g (zD h zU))) z=some (.tup [a,b,c]):=fun z f g h a b c e1 e2 e3=>qA (zN e1 (zN e2 (zN e3 yF))) (by show 3<=100;decide)
 have t2:∀(z:En) (f g:ME) (a b:D),f z=some a->g z=some b->xI (zD f (zD g zU)) z=some (.tup [a,b]):=fun z f g a b e1 e2=>qA (zN e1 (zN e2 yF)) (by show 2<=100;decide)
 have t1:∀(z:En) (f:ME) (a:D),f z=some a->xI (zD f zU) z=some (.tup [a]):=fun z f a e1=>qA (zN e1 yF) (by show 1<=100;decide)
 have t4:∀(z:En) (f g h k:ME) (a b c d:D),f z=some a->g z=some b->h z=some c->k z=some d->xI (zD f (zD g (zD h (zD k zU)))) z=some (.tup [a,b,c,d]):=fun z f g h k a b c d e1 e2 e3 e4=>qA (zN e1 (zN e2 (zN e3 (zN e4 yF)))) (by show 4<=100;decide)
 rcases hx with rfl|rfl|rfl
 ·refine jL (r':=R P Q .un .un .un) ?_
  show xC (R .un .un .un .un .un)=_
  unfold xC
  refine yP (.str a) (r2:=R P .un .un .un .un) f5 (by rfl) ?_
  refine yP (.str b) (r2:=R P Q .un .un .un) f6 (by rfl) ?_
  exact vN (cx 0 _ _ _ _ _) (wE (t3 _ _ _ _ _ _ _ (t3 _ _ _ _ _ _ _ zL rfl rfl) (t3 _ _ _ _ _ _ _ zL rfl rfl) zL))
 ·refine jL (r':=R P Q .un .un .un) ?_
  show xC (R .un .un .un .un .un)=_
  unfold xC
  refine yP (.str a) (r2:=R P .un .un .un .un) f5 (by rfl) ?_
  refine yP (.str b) (r2:=R P Q .un .un .un) f6 (by rfl) ?_
  refine kF (cx 0 _ _ _ _ _) (vN (cx 1 _ _ _ _ _) (wE ?_))
  exact t3 _ _ _ _ _ _ _ (t4 _ _ _ _ _ _ _ _ _ zL rfl rfl (t1 _ _ _ zL)) (t2 _ _ _ _ _ zL (t1 _ _ _ (t2 _ _ _ _ _ rfl rfl))) zL
 ·let B8:D:=toD (.wth a (.nm s) (.wth b (.nm s) .emp))
  let B9:D:=.tup [.tup [.str (mn a b),wd],.tup [.str (mx a b),wd]]
  refine jL (r':=R P Q S (.v B8) (.v B9)) ?_
  show xC (R .un .un .un .un .un)=_
  unfold xC
  refine yP (.str a) (r2:=R P .un .un .un .un) f5 (by rfl) ?_
  refine yP (.str b) (r2:=R P Q .un .un .un) f6 (by rfl) ?_
  refine kF (cx 0 _ _ _ _ _) (kF (cx 1 _ _ _ _ _) ?_)
  refine yP (.str s) (r2:=R P Q S .un .un) f7 (by rfl) ?_
  refine yP B8 (r2:=R P Q S (.v B8) .un) (t4 _ _ _ _ _ _ _ _ _ zL rfl (t2 _ _ _ _ _ zL rfl) (t4 _ _ _ _ _ _ _ _ _ zL rfl (t2 _ _ _ _ _ zL rfl) (t1 _ _ _ zL))) (by rfl) ?_
  have gm:zFS (zD (zE 5) (zD (zE 6) zU)) (R P Q S (.v B8) .un)=some (.str (mn a b)):=rfl
  have gx:zFT (zD (zE 5) (zD (zE 6) zU)) (R P Q S (.v B8) .un)=some (.str (mx a b)):=rfl
  refine yP B9 (r2:=R P Q S (.v B8) (.v B9)) (t2 _ _ _ _ _ (t2 _ _ _ _ _ gm rfl) (t2 _ _ _ _ _ gx rfl)) (by rfl) (wE ?_)
  exact t3 _ _ _ _ _ _ _ (t3 _ _ _ _ _ _ _ zL (t3 _ _ _ _ _ _ _ zL rfl rfl) rfl) (t2 _ _ _ _ _ zL rfl) zL
noncomputable def fil(e:D):Wo->Wo
 |.int n=>.int n
 |.fnv x _=>.fnv x e
 |.one l w=>.one l (fil e w)
 |.rc1 l w=>.rc1 l (fil e w)
 |.rc2 a b w=>.rc2 a b (fil e w)
theorem YF(e:D):∀w,du (fil e w)=du w
 |.int _=>rfl
 |.fnv _ _=>rfl
 |.one l w=>by show D.tup [_,_,du (fil e w)]=_;rw[YF e w];rfl
 |.rc1 l w=>by show D.tup [_,.tup [.tup [_,du (fil e w)]]]=_;rw[YF e w];rfl
 |.rc2 a b w=>by show D.tup [_,.tup [.tup [_,du (fil e w)],.tup [_,du (fil e w)]]]=_;rw[YF e w];rfl
theorem YD(e:D):∀w,sz (fil e w)=sz w
 |.int _=>rfl
 |.fnv _ _=>rfl
 |.one l w=>by show sz (fil e w)+1=_;rw[YD e w];rfl
 |.rc1 l w=>by show sz (fil e w)+1=_;rw[YD e w];rfl
 |.rc2 a b w=>by show sz (fil e w)+sz (fil e w)+1=_;rw[YD e w];rfl
theorem YE(e:D):∀w,gw w->gw (fil e w)
 |.int _,h=>h
 |.fnv _ _,h=>h
 |.one l w,h=>YE e w h
 |.rc1 l w,h=>YE e w h
 |.rc2 a b w,h=>⟨h.1,YE e w h.2⟩
noncomputable abbrev Hd:=Option (List Nat×Wo×Nat)
noncomputable def zE7(df:D)(T H:Nat):Hd->Prop
 |none=>True
 |some (nm,w,c)=>∃kd ld d t e,df=.dct kd ld/\xB kd ld (ky nm)=some d/\t<=T/\Ev df (.dct [] []) d c (mv (fil e w)) t H
structure Iv(hd:Hd)(j c:Nat)(told:Ex)(w:Wo):Prop where
 g:gw w
 d:dp told<=j+4
 n:nd told<=10*j+3
 ev:∀df T H,zE7 df T H hd->∀d,Mk told d->∃e t,t<=T+30*(j+1)/\Ev df (.dct [] []) d c (mv (fil e w)) t (H+30*(j+1))
theorem zJC(s:List Nat)(v:D):xB [ky s] [v] (ky s)=some v:=by
 unfold xB
 rw[if_pos rfl]
theorem zND{a b:List Nat}(h:a≠b)(v w:D):j6 [ky b] [v] (ky a) w=([ky b,ky a],[v,w])/\xB [ky b] [v] (ky a)=none:=by
 have hk:¬ky b=ky a:=fun q=>h (zDQ q).symm
 constructor
 ·unfold j6
  rw[if_neg (by simp[hk])];rfl
 ·unfold xB
  rw[if_neg hk];rfl
theorem zH0{hd:Hd}{j c:Nat}{told:Ex}{w:Wo}(h:Iv hd j c told w){x:Int}(hx:ok3 x){a b:List Nat}(hne:a≠b)(s:List Nat):Iv hd (j+1) (c+st x) (tw x a b s told) (vw x a b w):=by
 have hd':=h.d
 have hn':=h.n
 rcases hx with rfl|rfl|rfl
 ·refine⟨h.g,by show dp told+1<=_;lia,by show 1+nd told<=_;lia,fun df T H hh d hm=>?_⟩
  have hm':Mk (.tag a told) d:=hm
  cases hm' with
  |tag _ m hq=>
   obtain⟨e,t,t1,t2⟩:=h.ev df T H hh _ hq
   exact⟨e,t+2,by lia,(zH7 t2).mono (by lia)⟩
 ·refine⟨h.g,by show max (dp told) 0+1<=_;lia,by show 1+nd told+1<=_;lia,fun df T H hh d hm=>?_⟩
  have hm':Mk (.wth a told .emp) d:=hm
  cases hm' with
  |wth _ m hq hb=>cases hb with
   |emp m2=>
    obtain⟨e,t,t1,t2⟩:=h.ev df T H hh _ hq
    exact⟨e,t+2+2,by lia,(rB (ks:=[]) (l:=[]) (by show 0<=100000;decide) rfl t2 ((zD4 (df:=df) (env:=.dct [] []) m2).mono (by lia))).mono (by lia)⟩
 ·refine⟨⟨hne,h.g⟩,by show max (max 0 (max 0 0+1)+1+1) (dp told)+1<=_;lia,by show 1+(1+(1+1+(1+1+1)))+nd told<=_;lia,fun df T H hh d hm=>?_⟩
  have hm':Mk (.doo (.fn s (.wth a (.nm s) (.wth b (.nm s) .emp))) told) d:=hm
  cases hm' with
  |doo m hf hq=>cases hf with
   |fn _ m1 hb=>cases hb with
    |wth _ m2 ha hb=>cases ha with
     |nm _ m3=>cases hb with
      |wth _ m4 ha2 he=>cases ha2 with
       |nm _ m5=>cases he with
        |emp m6=>
         obtain⟨e,t,t1,t2⟩:=h.ev df T H hh _ hq
         let v:D:=mv (fil e w)
         obtain⟨p1,p2⟩:=zND hne v v
         have b1:Ev df (.dct [ky s] [v]) _ 0 v 2 2:=rC (df:=df) m3 (zJC s v)
         have b2:Ev df (.dct [ky s] [v]) _ 0 v 2 2:=rC (df:=df) m5 (zJC s v)
         have b3:Ev df (.dct [ky s] [v]) _ (0+0) (.tup [.str [114,101,99],.dct [ky b] [v]]) (2+2+2) (2+3):=rB (m:=m4) (f:=b) (ks:=[]) (l:=[]) (by show 0<=100000;decide) rfl b2 (zD4 (df:=df) (env:=.dct [ky s] [v]) m6)
         have b4:=rB (m:=m2) (f:=a) (ks:=[ky b]) (l:=[v]) (by show 1<=100000;decide) p2 (b1.mono (show 2<=2+3 by decide)) b3
         rw[p1] at b4
         have q:=zK7 (m:=m) (h:=H+30*(j+1)) (s:=s) (ks:=[]) (l:=[]) (by show 0<=100000;decide) ((zJH (df:=df) (env:=.dct [] []) s _ m1).mono (by lia)) t2 (b4.mono (by lia))
         rw[show 0+c+1+(0+(0+0))=c+1 by lia] at q
         exact⟨e,_,by lia,q.mono (by lia)⟩
noncomputable abbrev Pr:=List (List Nat×Ex)
noncomputable def prog(ps:Pr):List D:=ps.map fun p=>.tup [.str p.1,toD p.2]
noncomputable def MkP:Pr->List D->Prop
 |[],l=>l=[]
 |p::ps,l=>∃d t,l=d::t/\Mk p.2 d/\MkP ps t
noncomputable def zMT(ps:Pr):Prop:=∀p∈ps,dp p.2<40/\nd p.2<=200
theorem WH:∀(ps:Pr) (x y:Sl),fre x->fre y->zMT ps->∃l:List D,MkP ps l/\jR (qZ 2 (yE (yN 0) (yE (yN 1) jG))) cT (xI (zD (zE 0) (zD (yG 3 (wR RF) (zD (zE 1) (zD (zE 0) (zD (mC (.int 0)) zU)))) zU))) (prog ps) [x,y]=some (List.zipWith (fun p d=>.tup [.str p.1,d]) ps l)
 |[],x,y,hx,hy,h=>⟨[],rfl,rfl⟩
 |p::ps,x,y,hx,hy,h=>by
  obtain⟨d,hd,e⟩:=gS (.str p.1) RF p.2 0 (h p (by simp)).1 (Nat.le_trans (h p (by simp)).2 (by decide))
  obtain⟨l,h1,h2⟩:=WH ps (.v (.str p.1)) (.v (toD p.2)) trivial trivial fun q hq=>h q (by simp[hq])
  refine⟨d::l,⟨d,l,rfl,hd,h1⟩,?_⟩
  have e1:qZ 2 (yE (yN 0) (yE (yN 1) jG)) (.tup [.str p.1,toD p.2]) [x,y]=some [.v (.str p.1),.v (toD p.2)]:=bdP (r1:=[.v (.str p.1),y]) (yC (i:=0) (x:=x) rfl hx) (yC (i:=1) (x:=y) rfl hy)
  have e2:xI (zD (zE 0) (zD (yG 3 (wR RF) (zD (zE 1) (zD (zE 0) (zD (mC (.int 0)) zU)))) zU)) [.v (.str p.1),.v (toD p.2)]=some (.tup [.str p.1,d]):=qA (zN rfl (zN (xE (p:=.v d) (zN rfl (zN rfl (zN zL yF))) rfl e) yF)) (by show 2<=100;decide)
  show jR _ _ _ (D.tup [.str p.1,toD p.2]::prog ps) [x,y]=_
  unfold jR
  rw[e1,ac,show cT [.v (.str p.1),.v (toD p.2)]=some true from rfl,ac,if_pos rfl,e2,ac,h2];rfl
noncomputable def Ds(ps:Pr)(l:List D):List (Key×D):=List.zipWith (fun p d=>(ky p.1,d)) ps l
theorem pK:∀(ps:Pr) (l:List D),gK (List.zipWith (fun p d=>.tup [.str p.1,d]) ps l)=some (Ds ps l)
 |[],l=>rfl
 |p::ps,[]=>rfl
 |p::ps,d::l=>by
  have ih:=pK ps l
  show(gK (D.tup [.str p.1,d]::List.zipWith _ ps l))=_
  unfold gK
  rw[ih];rfl
theorem rA:∀(q:List (Key×D)) (ks:List Key) (l:List D),(∀p∈q,p.1∉ks)->(q.map (·.1)).Nodup->q.foldl (fun z p=>j6 z.1 z.2 p.1 p.2) (ks,l)=(ks++q.map (·.1),l++q.map (·.2))
 |[],ks,l,h,hn=>by simp
 |p::q,ks,l,h,hn=>by
  have e:j6 ks l p.1 p.2=(ks++[p.1],l++[p.2]):=by
   unfold j6
   rw[if_neg]
   intro z
   obtain⟨j,h1,h2⟩:=List.any_eq_true.mp z
   exact h p (by simp) (of_decide_eq_true h2 ▸ h1)
  rw[ao,List.nodup_cons] at hn
  rw[List.foldl_cons,e,rA q _ _ (fun p' hp hm=>by
   rcases List.mem_append.mp hm with z|z
   ·exact h p' (by simp[hp]) z
   ·have z':p'.1=p.1:=by simpa using z
    exact hn.1 (z' ▸ List.mem_map.mpr ⟨p',hp,rfl⟩)) hn.2]
  simp
theorem XN:∀(q:List (Key×D)) (p:Key×D),p∈q->(q.map (·.1)).Nodup->xB (q.map (·.1)) (q.map (·.2)) p.1=some p.2
 |a::q,p,h,hn=>by
  rw[ao,List.nodup_cons] at hn
  rw[ao,ao]
  unfold xB
  rcases List.mem_cons.mp h with rfl|h
  ·rw[if_pos rfl]
  ·have ne:¬a.1=p.1:=fun z=>hn.1 (z ▸ List.mem_map.mpr ⟨p,h,rfl⟩)
   rw[if_neg ne]
   exact XN q p h hn.2
theorem X2:∀{ps:Pr} {l:List D},MkP ps l->(Ds ps l).map (·.1)=ps.map fun p=>ky p.1
 |[],l,h=>by cases (show l=[] from h);rfl
 |p::ps,l,h=>by obtain⟨d,t,rfl,_,h⟩:=h;show ky p.1::(Ds ps t).map _=_;rw[X2 h];rfl
theorem zEJ:∀{ps:Pr} {l:List D},MkP ps l->∀p∈ps,∃d,Mk p.2 d/\(ky p.1,d)∈Ds ps l
 |[],l,h,p,hp=>by cases hp
 |q::ps,l,h,p,hp=>by
  obtain⟨d,t,rfl,hd,h⟩:=h
  rcases List.mem_cons.mp hp with rfl|hp
  ·exact⟨d,hd,by show _∈(ky p.1,d)::Ds ps t;simp⟩
  ·obtain⟨d',h1,h2⟩:=zEJ h p hp
   exact⟨d',h1,by show _∈(ky q.1,d)::Ds ps t;simp[h2]⟩
theorem Q4{ps:Pr}(h:(ps.map (·.1)).Nodup):(ps.map fun p=>ky p.1).Nodup:=by
 rw[show(ps.map fun p=>ky p.1)=(ps.map (·.1)).map ky by rw[List.map_map];rfl]
 generalize ps.map (·.1)=l at h
 induction l with
 |nil=>exact List.nodup_nil
 |cons a l ih=>
  rw[List.nodup_cons] at h
  rw[ao,List.nodup_cons]
  refine⟨fun z=>?_,ih h.2⟩
  obtain⟨b,h1,h2⟩:=List.mem_map.mp z
  exact h.1 (zDQ h2 ▸ h1)
theorem zLE{ps:Pr}(hp:zMT ps)(hl:ps.length<=1000)(hn:(ps.map (·.1)).Nodup):∃(ks:List Key) (l:List D),dd (.lst (prog ps))=some (.dct ks l)/\∀p∈ps,∃d,Mk p.2 d/\xB ks l (ky p.1)=some d:=by
 obtain⟨l,h1,h2⟩:=WH ps .un .un trivial trivial hp
 have nk:((Ds ps l).map (·.1)).Nodup:=by rw[X2 h1];exact Q4 hn
 refine⟨(Ds ps l).map (·.1),(Ds ps l).map (·.2),?_,fun p hp=>?_⟩
 ·unfold dd ddE JB JC vL qV
  have it:mIt (zE 1) [.un,.v (.lst (prog ps)),.v (.int 0)]=some (prog ps):=rfl
  rw[it,ac,if_pos (show(prog ps).length<sizeLine by unfold prog;rw[ay];exact Nat.lt_of_le_of_lt hl (by decide)),show rZ [] 2 [.un,.v (.lst (prog ps)),.v (.int 0)]=[.un,.un] from rfl,h2,ac,pK]
  show some (D.dct (zAF (Ds ps l)).1 (zAF (Ds ps l)).2)=_
  unfold zAF
  rw[rA _ _ _ (fun _ _ z=>by cases z) nk];rfl
 ·obtain⟨d,q1,q2⟩:=zEJ h1 p hp
  exact⟨d,q1,XN _ _ q2 nk⟩
noncomputable def due(w:Wo):D:=if 200<sz w then zLP else du w
theorem zD9{mo s:Int}{e:D}{w:Wo}{df:D}(h:gw w):zJV ⟨mo,s,[],[mv (fil e w)],.non,df⟩=some (.tup [.str [118,97,108,117,101],.int s,due w]):=by
 obtain⟨as,ht⟩:=zBL (fil e w) (YE e w h)
 rw[YD,YF] at ht
 have q:([mv (fil e w)]:List D).getLast?=some (mv (fil e w)):=rfl
 unfold zJV
 show(([mv (fil e w)]:List D).getLast?.bind _)=_
 rw[q,ac,ht];rfl
theorem rO{n i:Nat}{m:MF}{fs:ML}{r:En}{l ds:List D}{d:D}(h1:dF i r=some l)(h2:fs r=some ds)(h3:ds.length+1=n)(h4:∃as,m ((.lst l::ds).map .v)=some (.v d,as))(h5:apD l d=true):nQ n m i fs r=some d:=by
 obtain⟨as,h4⟩:=h4
 unfold nQ
 rw[h1,ac,h2,ac,if_pos h3,h4,ac];exact if_pos h5
inductive Pg:Pr->Hd->Prop
 |nil:Pg [] none
 |snoc {ps:Pr} {hd:Hd} {E:Ex} {w:Wo} {j c:Nat} {nm:List Nat}:Pg ps hd->Iv hd j c E w->j<=6->Pg (ps++[(nm,E)]) (some (nm,w,c))
theorem zKR{ps:Pr}{hd:Hd}(h:Pg ps hd):∀p∈ps,dp p.2<40/\nd p.2<=200:=by
 induction h with
 |nil=>intro p hp;cases hp
 |snoc _ hl hj ih=>
  intro p hp
  rcases List.mem_append.mp hp with z|z
  ·exact ih p z
  ·rw[List.mem_singleton.mp z];exact⟨by have:=hl.d;show _<40;lia,by have:=hl.n;show _<=200;lia⟩
theorem zNE{ps:Pr}{hd:Hd}(h:Pg ps hd):∀nm w c,hd=some (nm,w,c)->gw w:=by
 cases h with
 |nil=>intro nm v c h;cases h
 |snoc _ hl _=>intro nm v c h;cases h;exact hl.g
theorem zKS{ps:Pr}{hd:Hd}(h:Pg ps hd){kd:List Key}{ld:List D}:(∀p∈ps,∃d,Mk p.2 d/\xB kd ld (ky p.1)=some d)->zE7 (.dct kd ld) (300*ps.length) (300*ps.length) hd:=by
 induction h with
 |nil=>intro _;trivial
 |snoc hp hl hj ih=>
  intro hm
  rename_i ps hd E v j c nm
  have i1:=ih fun p hp=>hm p (by simp[hp])
  obtain⟨d,md,ld'⟩:=hm (nm,E) (by simp)
  obtain⟨e,t,t1,t2⟩:=hl.ev _ _ _ i1 d md
  rw[List.length_append]
  exact⟨kd,ld,d,t,e,rfl,ld',by show _<=300*(ps.length+1);lia,t2.mono (by show _<=300*(ps.length+1);lia)⟩
noncomputable def zE6:List Nat:=[109,97,105,110]
theorem zB1{ps:Pr}{w:Wo}{c:Nat}(hp:Pg ps (some (zE6,w,c)))(hl:ps.length<=20)(hn:(ps.map (·.1)).Nodup){mo:Int}(h0:(c:Int)<=mo):∃as,rS [.v (.lst (prog ps)),.v (.int mo)]=some (.v (.tup [.str [118,97,108,117,101],.int (c:Int),due w]),as):=by
 have ok:=zKR hp
 obtain⟨ks,l,q1,q2⟩:=zLE (ps:=ps) (fun p z=>ok p z) (by lia) hn
 obtain⟨kd,ld,d,t,e,e0,e1,e2,e3⟩:=zKS hp (kd:=ks) (ld:=l) q2
 cases e0
 have start:∀(z:Option Mst) (y:Option D),v9 WF ⟨mo,0,[tsk d (.dct [] []) false],[],.non,.dct ks l⟩=z->z.bind zJV=y->rS [.v (.lst (prog ps)),.v (.int mo)]=y.map fun x=>(.v x,[.v (.lst (prog ps)),.v (.int mo)]):=fun z y h1 h2=>by
  unfold rS
  show(dd _).bind _=_
  rw[q1,ac]
  unfold zLZ
  show((xB ks l (ky zE6)).bind _).map _=_
  rw[e1,ac]
  show((v9 WF ⟨mo,0,[tsk d (.dct [] []) false],[],.non,.dct ks l⟩).bind _).map _=_
  rw[h1,h2]
 refine⟨[.v (.lst (prog ps)),.v (.int mo)],?_⟩
 have e4:=e3.run mo 0 [] [] (WF-t) (by simp;lia) (by simp;lia) (by lia)
 rw[show t+(WF-t)=WF by unfold WF;lia,show WF-t=(WF-t-1)+1 by unfold WF;lia] at e4
 rw[show v9 ((WF-t-1)+1) ⟨mo,0+(c:Int),[],[]++[mv (fil e w)],.non,.dct ks l⟩=some ⟨mo,0+(c:Int),[],[mv (fil e w)],.non,.dct ks l⟩ from if_neg (fun z=>by cases z.1)] at e4
 rw[start _ _ e4 (ac ..),zD9 (zNE hp _ _ _ rfl),Int.zero_add];rfl
noncomputable def dn(q:Nat):List Nat:=[100,97+q]
noncomputable abbrev El(S:D)(F:Int)(ls:List (List Nat))(ws:List Int)(x4:Sl)(told:Ex)(wd:D)(n c:Nat)(P:List D)(x10 x11 x12 x13 x14 x15 x16:Sl):En:=
 [.v S,.v (.int F),.v (.lst (ls.map .str)),.v (.lst (ws.map .int)),x4,.v (toD told),.v wd,.v (.int (n:Int)),.v (.int (c:Int)),.o P,x10,x11,x12,x13,x14,x15,x16]
noncomputable def zF2:MS:=(yT (wT 14 (zJ jT (mC (.str [100])) (zJ ixD (mC (.str [97,98,99,100,101,102,103,104,105,106,107])) (zJ wJ (zE 10) (mC (.int 6)))))) (yT (sX (rY 9 (xI (zD (zE 14) (zD (zE 5) zU))))) (yT (wT 5 (xI (zD (mC (.str [110,97,109,101])) (zD (zE 14) zU)))) (wT 8 (zJ jT (zE 8) (mC (.int 1)))))))
noncomputable def zAI:ME:=(yG 5 jA (zD (zE 5) (zD (zE 6) (zD (zE 11) (zD (yG 2 yL (zD (yG 2 wC (zD (zE 0) (zD (zJ jT (mC (.int 2)) (zE 10)) zU))) (zD (zE 10) zU))) (zD (zE 2) zU))))))
noncomputable def zAJ:MS:=(yT (zJP zAI (qZ 3 (yE (yN 5) (yE (yN 12) (yE (yN 13) jG))))) (yT (wT 7 (zJ jT (zJ jT (zE 7) (mC (.int 1))) (zJ zC4 (mUn pY (zJ eqA (zE 11) (mC (.int 2)))) (zE 7)))) (yT (wT 8 (zJ jT (zE 8) (zE 13))) (yT (sIf (mBl (zJ leA (zE 7) (mC (.int 400)))) (wT 6 (zE 12)) xY) (sIf (zAA (mBl (zJ eqA (zJ wY (zE 10) (mC (.int 6))) (mC (.int 5)))) (mBl (zJ ltA (zE 10) (zJ zFJ (mUn gX (zE 3)) (mC (.int 1)))))) zF2 xY)))))
theorem bdT{i j k:Nat}{a b c:D}{r r1 r2 r3:En}(h1:yN i a r=some r1)(h2:yN j b r1=some r2)(h3:yN k c r2=some r3):qZ 3 (yE (yN i) (yE (yN j) (yE (yN k) jG))) (.tup [a,b,c]) r=some r3:=by
 show((yN i a r).bind fun z=>(yN j b z).bind fun z=>(yN k c z).bind fun z=>some z)=_
 rw[h1,ac,h2,ac,h3];rfl
theorem pI(a b:Pr):prog (a++b)=prog a++prog b:=by unfold prog;rw[List.map_append]
theorem pH(a:Pr):(prog a).length=a.length:=by unfold prog;rw[ay]
theorem zDU{hd:Hd}{j c:Nat}{told:Ex}{w:Wo}(h:Iv hd j c told w)(nm:List Nat):Iv (some (nm,w,c)) 0 (c+1) (.nm nm) w:=by
 refine⟨h.g,by show 0<=_;lia,by show 1<=_;lia,fun df T H hh d hm=>?_⟩
 obtain⟨kd,ld,d0,t,e,rfl,e1,e2,e3⟩:=hh
 cases hm with
 |nm _ m=>exact⟨e,t+2,by lia,(zIA m (ks:=[]) (l:=[]) rfl e1 e3).mono (by lia)⟩
theorem zKI{x:Int}(h:ok3 x)(a b:List Nat)(w:Wo):sz (vw x a b w)=sz w+1+(if x=2 then sz w else 0)/\dq (vw x a b w)=dq w+1:=by
 rcases h with rfl|rfl|rfl
 ·exact⟨rfl,rfl⟩
 ·exact⟨rfl,rfl⟩
 ·exact⟨by show sz w+sz w+1=sz w+1+sz w;lia,rfl⟩
theorem cY{ns:List Int}{F:Int}{ls:List (List Nat)}(hL:Lbs ls){ws:List Int}(hn:ws.length<=60){x4 x15 x16:Sl}:∀(r:List Int) (q j:Nat) (ps:Pr) (hd:Hd) (c:Nat) (told:Ex) (w:Wo) (wd:D) (x10 x11 x12 x13 x14:Sl),fre x10->fre x11->fre x12->fre x13->fre x14->(∀x∈r,ok3 x)->6*q+j+r.length=ws.length->(r≠[]->j<=5)->j<=6->Pg ps hd->ps.map (·.1)=(List.range q).map dn->Iv hd j c told w->c<=2*(6*q+j)->(sz w<=400->wd=du w/\dq w<=6*q+j) ->
  ∃(q' j':Nat) (ps':Pr) (hd':Hd) (c':Nat) (told':Ex) (w':Wo) (wd':D) (y10 y11 y12 y13 y14:Sl),q'<=10/\j'<=6/\Pg ps' hd'/\ps'.map (·.1)=(List.range q').map dn/\Iv hd' j' c' told' w'/\c'<=120/\(sz w'<=400->wd'=du w'/\dq w'<=60) /\
   YC (qZ 2 (yE (yN 10) (yE (yN 11) jG))) zAJ (((r.map D.int).zipIdx (6*q+j)).map fun p=>.tup [.int (p.2:Nat),p.1]) (El (.lst (ns.map .int)) F ls ws x4 told wd (sz w) c (prog ps) x10 x11 x12 x13 x14 x15 x16)=some (.nx (El (.lst (ns.map .int)) F ls ws x4 told' wd' (sz w') c' (prog ps') y10 y11 y12 y13 y14 x15 x16))
 |[],q,j,ps,hd,c,told,w,wd,x10,x11,x12,x13,x14,h10,h11,h12,h13,h14,hr,hk,hj5,hj,hp,hm,hv,hc,hw=>by
  have hk':6*q+j=ws.length:=by simpa using hk
  exact⟨q,j,ps,hd,c,told,w,wd,x10,x11,x12,x13,x14,by lia,hj,hp,hm,hv,by lia,(fun h=>⟨(hw h).1,by have:=(hw h).2;lia⟩),rfl⟩
 |x::r,q,j,ps,hd,c,told,w,wd,x10,x11,x12,x13,x14,h10,h11,h12,h13,h14,hr,hk,hj5,hj,hp,hm,hv,hc,hw=>by
  have j5:j<=5:=hj5 (by simp)
  have hx:ok3 x:=hr x (by simp)
  rw[av] at hk
  have pl:ps.length=q:=by have:=congrArg List.length hm;simpa using this
  generalize hK:6*q+j=k at *
  obtain⟨cc,hcc⟩:=rN ns (2+k)
  obtain⟨n,n0,hmx⟩:=vE cc (k:Int)
  obtain⟨a,b,s,hne,hdn⟩:=zEM n0 hL hx told wd
  have hv1:=zH0 hv hx hne s
  obtain⟨sz1,dq1⟩:=zKI hx a b w
  let S:D:=.lst (ns.map .int)
  let w1:Wo:=vw x a b w
  let t1:Ex:=tw x a b s told
  let m1:D:=made x a b wd
  let c1:Nat:=c+st x
  have st1:st x<=1:=by unfold st;split<;>lia
  let K:Sl:=.v (.int (k:Int))
  let X:Sl:=.v (.int x)
  let M:Sl:=.v m1
  let T:Sl:=.v (.int (st x:Int))
  let P:List D:=prog ps
  let R0:En:=El S F ls ws x4 told wd (sz w) c P K X x12 x13 x14 x15 x16
  have e0:zAI R0=some (.tup [toD t1,m1,.int (st x:Int)]):=by
   unfold zAI
   refine xE (p:=.v (.tup [toD t1,m1,.int (st x:Int)])) (l:=[toD told,wd,.int x,.int n,.lst (ls.map .str)]) (zN rfl (zN rfl (zN rfl (zN (xE (p:=.v (.int n)) (zN (xE (p:=.v (.int cc)) (l:=[S,.int ((2+k:Nat):Int)]) (zN rfl (zN ?_ yF)) rfl hcc) (zN rfl yF)) rfl hmx) (zN rfl yF))))) rfl hdn
   rw[show((2+k:Nat):Int)=2+(k:Int) by lia]
   exact qK zL rfl
  have s1:zJP zAI (qZ 3 (yE (yN 5) (yE (yN 12) (yE (yN 13) jG)))) R0=some (.nx (El S F ls ws x4 t1 wd (sz w) c P K X M T x14 x15 x16)):=by
   unfold zJP
   rw[e0,ac]
   have a1:yN 5 (toD t1) R0=some (El S F ls ws x4 t1 wd (sz w) c P K X x12 x13 x14 x15 x16):=rfl
   have a2:yN 12 m1 (El S F ls ws x4 t1 wd (sz w) c P K X x12 x13 x14 x15 x16)=some (El S F ls ws x4 t1 wd (sz w) c P K X M x13 x14 x15 x16):=yC (i:=12) (x:=x12) rfl h12
   have a3:yN 13 (.int (st x:Int)) (El S F ls ws x4 t1 wd (sz w) c P K X M x13 x14 x15 x16)=some (El S F ls ws x4 t1 wd (sz w) c P K X M T x14 x15 x16):=yC (i:=13) (x:=x13) rfl h13
   rw[bdT a1 a2 a3];rfl
  have s2:wT 7 (zJ jT (zJ jT (zE 7) (mC (.int 1))) (zJ zC4 (mUn pY (zJ eqA (zE 11) (mC (.int 2)))) (zE 7))) (El S F ls ws x4 t1 wd (sz w) c P K X M T x14 x15 x16)=some (.nx (El S F ls ws x4 t1 wd (sz w1) c P K X M T x14 x15 x16)):=by
   have eq:zJ eqA (zE 11) (mC (.int 2)) (El S F ls ws x4 t1 wd (sz w) c P K X M T x14 x15 x16)=some (.bl (decide (x=2))):=xG (x:=.int x) (y:=.int 2) rfl zL rfl
   have mu:zJ zC4 (mUn pY (zJ eqA (zE 11) (mC (.int 2)))) (zE 7) (El S F ls ws x4 t1 wd (sz w) c P K X M T x14 x15 x16)=some (.int (((if x=2 then sz w else 0:Nat)):Int)):=by
    by_cases z:x=2
    ·rw[decide_eq_true z] at eq
     rw[if_pos z]
     have:=nL (i:=1) (j:=(sz w:Int)) (bH (m:=pY) (d:=.int 1) eq rfl) (show zE 7 (El S F ls ws x4 t1 wd (sz w) c P K X M T x14 x15 x16)=some (.int (sz w:Int)) from rfl) (by decide)
     rw[Int.one_mul] at this
     exact this
    ·rw[decide_eq_false z] at eq
     rw[if_neg z]
     have:=nL (i:=0) (j:=(sz w:Int)) (bH (m:=pY) (d:=.int 0) eq rfl) (show zE 7 (El S F ls ws x4 t1 wd (sz w) c P K X M T x14 x15 x16)=some (.int (sz w:Int)) from rfl) (by decide)
     rw[Int.zero_mul] at this
     exact this
   refine wL (d:=.int (sz w1:Int)) ?_ (by rfl)
   rw[show(sz w1:Int)=(sz w:Int)+1+(((if x=2 then sz w else 0:Nat)):Int) by show((sz (vw x a b w):Nat):Int)=_;rw[sz1];lia]
   exact qK (qK rfl zL) mu
  have s3:wT 8 (zJ jT (zE 8) (zE 13)) (El S F ls ws x4 t1 wd (sz w1) c P K X M T x14 x15 x16)=some (.nx (El S F ls ws x4 t1 wd (sz w1) c1 P K X M T x14 x15 x16)):=by
   refine wL (d:=.int (c1:Int)) ?_ (by rfl)
   rw[show(c1:Int)=(c:Int)+(st x:Int) by show((c+st x:Nat):Int)=_;lia]
   exact qK rfl rfl
  let wd1:D:=if sz w1<=400 then m1 else wd
  have s4:sIf (mBl (zJ leA (zE 7) (mC (.int 400)))) (wT 6 (zE 12)) xY (El S F ls ws x4 t1 wd (sz w1) c1 P K X M T x14 x15 x16)=some (.nx (El S F ls ws x4 t1 wd1 (sz w1) c1 P K X M T x14 x15 x16)):=by
   have ct:mBl (zJ leA (zE 7) (mC (.int 400))) (El S F ls ws x4 t1 wd (sz w1) c1 P K X M T x14 x15 x16)=some (decide ((sz w1:Int)<=400)):=mP (xG (x:=.int (sz w1:Int)) (y:=.int 400) rfl zL rfl)
   by_cases z:sz w1<=400
   ·rw[decide_eq_true (by lia)] at ct
    rw[mL ct,show wd1=m1 from if_pos z]
    exact wL (d:=m1) rfl (by rfl)
   ·rw[decide_eq_false (by lia)] at ct
    rw[mM ct,show wd1=wd from if_neg z];rfl
  have hw1:sz w1<=400->wd1=du w1/\dq w1<=k+1:=fun z=>by
   have z0:sz w<=400:=by have:sz w1=_:=sz1;lia
   obtain⟨g1,g2⟩:=hw z0
   refine⟨?_,by show dq (vw x a b w)<=_;rw[dq1];lia⟩
   rw[show wd1=m1 from if_pos z]
   show made x a b wd=du (vw x a b w)
   rw[zK8 hx,g1]
  let R4:En:=El S F ls ws x4 t1 wd1 (sz w1) c1 P K X M T x14 x15 x16
  have ln:mUn gX (zE 3) R4=some (.int (ws.length:Int)):=bH (x:=.lst (ws.map .int)) rfl (by show some (D.int ((ws.map D.int).length:Int))=_;rw[ay])
  have cn:zAA (mBl (zJ eqA (zJ wY (zE 10) (mC (.int 6))) (mC (.int 5)))) (mBl (zJ ltA (zE 10) (zJ zFJ (mUn gX (zE 3)) (mC (.int 1))))) R4=some (decide ((k:Int) % 6=5) && decide ((k:Int)<(ws.length:Int)-1)):=by
   unfold zAA
   have q1:mBl (zJ eqA (zJ wY (zE 10) (mC (.int 6))) (mC (.int 5))) R4=some (decide ((k:Int) % 6=5)):=mP (xG (x:=.int ((k:Int) % 6)) (y:=.int 5) (x5 rfl zL (by decide)) zL rfl)
   have q2:mBl (zJ ltA (zE 10) (zJ zFJ (mUn gX (zE 3)) (mC (.int 1)))) R4=some (decide ((k:Int)<(ws.length:Int)-1)):=mP (xG (x:=.int (k:Int)) (y:=.int ((ws.length:Int)-1)) rfl (xG ln zL rfl) rfl)
   rw[q1,ac,q2]
   cases decide ((k:Int) % 6=5)<;>rfl
  have u:qZ 2 (yE (yN 10) (yE (yN 11) jG)) (.tup [.int (k:Nat),.int x]) (El S F ls ws x4 told wd (sz w) c P x10 x11 x12 x13 x14 x15 x16)=some R0:=bdP (r1:=El S F ls ws x4 told wd (sz w) c P K x11 x12 x13 x14 x15 x16) (yC (i:=10) (x:=x10) rfl h10) (yC (i:=11) (x:=x11) rfl h11)
  rw[ao,List.zipIdx_cons,ao]
  by_cases z:j=5/\r≠[]
  ·have hr0:0<r.length:=List.length_pos_iff.mpr z.2
   let N:Sl:=.v (.str (dn q))
   have hp':Pg (ps++[(dn q,t1)]) (some (dn q,w1,c1)):=.snoc hp hv1 (by lia)
   obtain⟨q',j',ps',hd',c',t',w',wd',y10,y11,y12,y13,y14,o1,o2,o3,o4,o5,o6,o7,o8⟩:=cY (ns:=ns) (F:=F) hL hn (x4:=x4) (x15:=x15) (x16:=x16) r (q+1) 0 (ps++[(dn q,t1)]) (some (dn q,w1,c1)) (c1+1) (.nm (dn q)) w1 wd1 K X M T N trivial trivial trivial trivial trivial (fun y hy=>hr y (by simp[hy])) (by lia) (fun _=>by lia) (by lia) hp' (by rw[List.map_append,hm,List.range_succ,List.map_append];rfl) (zDU hv1 (dn q)) (by lia) (fun y=>by have:=hw1 y;exact⟨this.1,by lia⟩)
   refine⟨q',j',ps',hd',c',t',w',wd',y10,y11,y12,y13,y14,o1,o2,o3,o4,o5,o6,o7,?_⟩
   rw[j8 u (r':=El S F ls ws x4 (.nm (dn q)) wd1 (sz w1) (c1+1) (prog (ps++[(dn q,t1)])) K X M T N x15 x16) ?_]
   ·rw[show k+1=6*(q+1)+0 by lia]
    exact o8
   ·unfold zAJ
    rw[yB s1,yB s2,yB s3,yB s4]
    rw[decide_eq_true (show(k:Int) % 6=5 by lia),decide_eq_true (show(k:Int)<(ws.length:Int)-1 by lia)] at cn
    rw[mL cn]
    unfold zF2
    have a11:∀i:Nat,i<11->([97,98,99,100,101,102,103,104,105,106,107]:List Nat)[i]?=some (97+i):=by decide
    refine yP (.str (dn q)) (r2:=El S F ls ws x4 t1 wd1 (sz w1) c1 P K X M T N x15 x16) ?_ (yC (i:=14) (x:=x14) rfl h14) ?_
    ·refine xG (x:=.str [100]) (y:=.str [97+q]) zL (xG (x:=.str [97,98,99,100,101,102,103,104,105,106,107]) (y:=.int ((q:Nat):Int)) zL ?_ ?_) (oR (by show 1+1<=100;decide))
     ·rw[show((q:Nat):Int)=(k:Int) / 6 by lia]
      exact qG rfl zL (by decide)
     ·show(if ([97,98,99,100,101,102,103,104,105,106,107]:List Nat).length<=sizeLine then (atI ([97,98,99,100,101,102,103,104,105,106,107]:List Nat) (q:Int)).map fun c=>D.str [c] else none)=_
      rw[if_pos (by decide),cB (a11 q (by lia))];rfl
    ·have s5:sX (rY 9 (xI (zD (zE 14) (zD (zE 5) zU)))) (El S F ls ws x4 t1 wd1 (sz w1) c1 P K X M T N x15 x16)=some (.nx (El S F ls ws x4 t1 wd1 (sz w1) c1 (prog (ps++[(dn q,t1)])) K X M T N x15 x16)):=by
      rw[pI]
      exact gC (oE (i:=9) (S:=prog ps) (d:=.tup [.str (dn q),toD t1]) rfl (qA (zN rfl (zN rfl yF)) (by show 2<=100;decide)) (by rw[pH];exact xS (by lia)))
     rw[yB s5]
     refine yP (toD (.nm (dn q))) (r2:=El S F ls ws x4 (.nm (dn q)) wd1 (sz w1) c1 (prog (ps++[(dn q,t1)])) K X M T N x15 x16) (qA (zN zL (zN rfl yF)) (by show 2<=100;decide)) (by rfl) ?_
     refine wL (d:=.int ((c1+1:Nat):Int)) ?_ (by rfl)
     rw[show((c1+1:Nat):Int)=(c1:Int)+1 by lia]
     exact qK rfl zL
  ·have jr:r≠[]->j+1<=5:=fun y=>by
    by_cases jj:j=5
    ·exact absurd ⟨jj,y⟩ z
    ·lia
   have cf:(decide ((k:Int) % 6=5) && decide ((k:Int)<(ws.length:Int)-1))=false:=by
    by_cases jj:j=5
    ·have r0:r=[]:=by
      by_cases y:r=[]
      ·exact y
      ·exact absurd ⟨jj,y⟩ z
     have rl:r.length=0:=by rw[r0];rfl
     rw[decide_eq_false (show ¬(k:Int)<(ws.length:Int)-1 by lia),Bool.and_false]
    ·rw[decide_eq_false (show ¬(k:Int) % 6=5 by lia),Bool.false_and]
   obtain⟨q',j',ps',hd',c',t',w',wd',y10,y11,y12,y13,y14,o1,o2,o3,o4,o5,o6,o7,o8⟩:=cY (ns:=ns) (F:=F) hL hn (x4:=x4) (x15:=x15) (x16:=x16) r q (j+1) ps hd c1 t1 w1 wd1 K X M T x14 trivial trivial trivial trivial h14 (fun y hy=>hr y (by simp[hy])) (by lia) jr (by lia) hp hm hv1 (by lia) (fun y=>by have:=hw1 y;exact⟨this.1,by lia⟩)
   refine⟨q',j',ps',hd',c',t',w',wd',y10,y11,y12,y13,y14,o1,o2,o3,o4,o5,o6,o7,?_⟩
   rw[j8 u (r':=R4) ?_]
   ·rw[show k+1=6*q+(j+1) by lia]
    exact o8
   ·unfold zAJ
    rw[yB s1,yB s2,yB s3,yB s4]
    rw[cf] at cn
    rw[mM cn];rfl
theorem gO(k:Nat):((List.range k).map dn++[zE6]).Nodup:=by
 refine List.nodup_append.mpr ⟨uU List.nodup_range fun a ha b hb e=>?_,by simp,fun x hx y hy=>?_⟩
 ·have:=(List.cons.inj (List.cons.inj e).2).1
  lia
 ·obtain⟨a,_,rfl⟩:=List.mem_map.mp hx
  rw[List.mem_singleton.mp hy]
  intro q
  exact absurd (List.cons.inj q).1 (by decide)
theorem pw6{r:En}:zJ zKP (mC (.int 10)) (mC (.int 6)) r=some (.int 1000000):=rfl
theorem zHH(a b:Int):neN 400 (.int a) (.int b)=some (.bl (!decide (a=b))):=by
 have la:∀i:Int,zJD 400 (.int i)=true:=fun i=>rfl
 unfold neN
 rw[if_pos ⟨la a,la b⟩]
 show some (D.bl (!(a == b)))=_
 rfl
theorem dU:∀(cs:List Int) (k:Nat) (x y:Sl),fre x->fre y->∃ws:List Int,ws.length=cs.length/\(∀z∈ws,ok3 z)/\jR (qZ 2 (yE (yN 0) (yE (yN 1) jG))) cT (zJ wY (yG 2 yL (zD (zE 1) (zD (zJ jT (mC (.int 300)) (zE 0)) zU))) (mC (.int 3))) (((cs.map D.int).zipIdx k).map fun p=>.tup [.int (p.2:Nat),p.1]) [x,y]=some (ws.map .int)
 |[],k,x,y,hx,hy=>⟨[],rfl,(fun _ h=>by cases h),rfl⟩
 |c::cs,k,x,y,hx,hy=>by
  obtain⟨n,n0,hm⟩:=vE c (300+(k:Int))
  obtain⟨ws,h1,h2,h3⟩:=dU cs (k+1) (.v (.int (k:Int))) (.v (.int c)) trivial trivial
  have z0:0<=n % 3:=Int.emod_nonneg _ (by decide)
  have z3:n % 3<3:=Int.emod_lt_of_pos _ (by decide)
  refine⟨n % 3::ws,by simp[h1],fun z hz=>?_,?_⟩
  ·rcases List.mem_cons.mp hz with rfl|hz
   ·unfold ok3;lia
   ·exact h2 z hz
  ·have e1:qZ 2 (yE (yN 0) (yE (yN 1) jG)) (.tup [.int (k:Nat),.int c]) [x,y]=some [.v (.int (k:Int)),.v (.int c)]:=bdP (r1:=[.v (.int (k:Int)),y]) (yC (i:=0) (x:=x) rfl hx) (yC (i:=1) (x:=y) rfl hy)
   have e2:zJ wY (yG 2 yL (zD (zE 1) (zD (zJ jT (mC (.int 300)) (zE 0)) zU))) (mC (.int 3)) [.v (.int (k:Int)),.v (.int c)]=some (.int (n % 3)):=x5 (xE (p:=.v (.int n)) (zN rfl (zN (qK zL rfl) yF)) rfl hm) zL (by decide)
   rw[ao,List.zipIdx_cons,ao]
   unfold jR
   rw[e1,ac,show cT [.v (.int (k:Int)),.v (.int c)]=some true from rfl,ac,if_pos rfl,e2,ac,h3];rfl
theorem law_math:∀ns:List Int,ns.length<=63->∃as,rT [.v (.lst (ns.map .int))]=some (.v (.bl true),as):=by
 intro ns hns
 obtain⟨c0,hc0⟩:=rN ns 0
 obtain⟨F,F0,hF⟩:=vE c0 900
 obtain⟨c1,hc1⟩:=rN ns 1
 obtain⟨G,G0,hG⟩:=vE c1 901
 obtain⟨ls,hL,hL2⟩:=Z2 G0
 let S:D:=.lst (ns.map .int)
 let cs:List Int:=(ns.take 62).drop 2
 have cl:cs.length<=60:=by simp only[cs,List.length_drop,List.length_take];lia
 obtain⟨ws0,w01,w02,w03⟩:=dU cs 0 .un .un trivial trivial
 let Fs:Sl:=.v (.int F)
 let L:Sl:=.v (.lst (ls.map .str))
 let U:Sl->Sl->Sl->Sl->En:=fun a b c d=>[.v S,Fs,L,a,b,c,d,.un,.un,.un,.un,.un,.un,.un,.un,.un,.un]
 have wy:∃ws:List Int,ws.length<=60/\(∀z∈ws,ok3 z)/\sIf (mBl (zJ eqA (zJ wY (zE 1) (mC (.int 2))) (mC (.int 0)))) (wT 3 (yG 1 yW (zD (zJ jT (mC (.int 199)) (zJ wY (zJ wJ (zE 1) (mC (.int 2))) (mC (.int 3)))) zU))) xY (U (.v (.lst (ws0.map .int))) .un .un .un)=some (.nx (U (.v (.lst (ws.map .int))) .un .un .un)):=by
  have ct:mBl (zJ eqA (zJ wY (zE 1) (mC (.int 2))) (mC (.int 0))) (U (.v (.lst (ws0.map .int))) .un .un .un)=some (decide (F % 2=0)):=mP (xG (x:=.int (F % 2)) (y:=.int 0) (x5 rfl zL (by decide)) zL rfl)
  by_cases z:F % 2=0
  ·rw[decide_eq_true z] at ct
   obtain⟨ws,e1,e2,e3⟩:=zA4 (m:=F / 2 % 3) (Int.emod_nonneg _ (by decide)) (Int.emod_lt_of_pos _ (by decide))
   refine⟨ws,e1,e2,?_⟩
   rw[mL ct]
   exact wL (d:=.lst (ws.map .int)) (xE (p:=.v (.lst (ws.map .int))) (zN (qK zL (x5 (qG rfl zL (by decide)) zL (by decide))) yF) rfl e3) (by rfl)
  ·rw[decide_eq_false z] at ct
   exact⟨ws0,by lia,w02,by rw[mM ct];rfl⟩
 obtain⟨ws,ws1,ws2,ws3⟩:=wy
 let Ws:Sl:=.v (.lst (ws.map .int))
 let x:Int:=F / 6 % 1000000
 have x0:0<=x:=Int.emod_nonneg _ (by decide)
 let X4:Sl:=.v (.int x)
 have five:∀m:Int,0<=m % 5/\m % 5<(ls.length:Int):=fun m=>⟨Int.emod_nonneg _ (by decide),by rw[hL.len];exact Int.emod_lt_of_pos _ (by decide)⟩
 obtain⟨i1,hi1,_,ei1⟩:=mZ (five x).1 (five x).2
 obtain⟨i2,hi2,_,ei2⟩:=mZ (five (x / 5)).1 (five (x / 5)).2
 have gx1:∀c d:Sl,zJ ixD (zE 2) (zJ wY (zE 4) (mC (.int 5))) (U Ws X4 c d)=some (.str ls[i1]):=fun c d=>xG rfl (x5 rfl zL (by decide)) ei1
 have gx2:∀c d:Sl,zJ ixD (zE 2) (zJ wY (zJ wJ (zE 4) (mC (.int 5))) (mC (.int 5))) (U Ws X4 c d)=some (.str ls[i2]):=fun c d=>xG rfl (x5 (qG rfl zL (by decide)) zL (by decide)) ei2
 have t2:∀(z:En) (f g:ME) (a b:D),f z=some a->g z=some b->xI (zD f (zD g zU)) z=some (.tup [a,b]):=fun z f g a b e1 e2=>qA (zN e1 (zN e2 yF)) (by show 2<=100;decide)
 have t3:∀(z:En) (f g h:ME) (a b c:D),f z=some a->g z=some b->h z=some c->xI (zD f (zD g (zD h zU))) z=some (.tup [a,b,c]):=fun z f g h a b c e1 e2 e3=>qA (zN e1 (zN e2 (zN e3 yF))) (by show 3<=100;decide)
 have ft:∃(t0:Ex) (w0:Wo),Iv none 0 0 t0 w0/\sz w0=1/\dq w0=0/\sIf (mBl (zJ eqA (zJ wY (zJ wJ (zJ wJ (zE 1) (mC (.int 2))) (mC (.int 3))) (mC (.int 2))) (mC (.int 0)))) (yT (wT 5 (xI (zD (mC (.str [102,110])) (zD (zJ ixD (zE 2) (zJ wY (zE 4) (mC (.int 5)))) (zD (xI (zD (mC (.str [110,97,109,101])) (zD (zJ ixD (zE 2) (zJ wY (zJ wJ (zE 4) (mC (.int 5))) (mC (.int 5)))) zU))) zU))))) (yT (sIf (mBl (zJ (neN 400) (zJ wY (zE 4) (mC (.int 5))) (zJ wY (zJ wJ (zE 4) (mC (.int 5))) (mC (.int 5))))) (wT 5 (xI (zD (mC (.str [102,110])) (zD (zJ ixD (zE 2) (zJ wY (zE 4) (mC (.int 5)))) (zD (xI (zD (mC (.str [110,117,109])) (zD (zE 4) zU))) zU))))) xY) (wT 6 (xI (zD (mC (.str [102,110])) zU))))) xY (U Ws X4 (.v (toD (.num x))) X4)=some (.nx (U Ws X4 (.v (toD t0)) (.v (du w0)))):=by
  have ct:mBl (zJ eqA (zJ wY (zJ wJ (zJ wJ (zE 1) (mC (.int 2))) (mC (.int 3))) (mC (.int 2))) (mC (.int 0))) (U Ws X4 (.v (toD (.num x))) X4)=some (decide (F / 2 / 3 % 2=0)):=mP (xG (x:=.int (F / 2 / 3 % 2)) (y:=.int 0) (x5 (qG (qG rfl zL (by decide)) zL (by decide)) zL (by decide)) zL rfl)
  have ivf:∀(s:List Nat) (e:Ex),dp e=0->nd e=1->Iv none 0 0 (.fn s e) (.fnv s .non):=fun s e h1 h2=>⟨trivial,by show dp e+1<=_;lia,by show 1+nd e<=_;lia,fun df T H _ d hm=>by
   cases hm with
   |fn _ m hq=>exact⟨_,2,by lia,(zJH (df:=df) (env:=.dct [] []) s _ m).mono (by lia)⟩⟩
  by_cases z:F / 2 / 3 % 2=0
  ·rw[decide_eq_true z] at ct
   have cd:∀c d:Sl,mBl (zJ (neN 400) (zJ wY (zE 4) (mC (.int 5))) (zJ wY (zJ wJ (zE 4) (mC (.int 5))) (mC (.int 5)))) (U Ws X4 c d)=some (!decide (x % 5=x / 5 % 5)):=fun c d=>mP (xG (x:=.int (x % 5)) (y:=.int (x / 5 % 5)) (x5 rfl zL (by decide)) (x5 (qG rfl zL (by decide)) zL (by decide)) (zHH _ _))
   have first:wT 5 (xI (zD (mC (.str [102,110])) (zD (zJ ixD (zE 2) (zJ wY (zE 4) (mC (.int 5)))) (zD (xI (zD (mC (.str [110,97,109,101])) (zD (zJ ixD (zE 2) (zJ wY (zJ wJ (zE 4) (mC (.int 5))) (mC (.int 5)))) zU))) zU)))) (U Ws X4 (.v (toD (.num x))) X4)=some (.nx (U Ws X4 (.v (toD (.fn ls[i1] (.nm ls[i2])))) X4)):=wL (d:=toD (.fn ls[i1] (.nm ls[i2]))) (t3 _ _ _ _ _ _ _ zL (gx1 _ _) (t2 _ _ _ _ _ zL (gx2 _ _))) (by rfl)
   by_cases y:x % 5=x / 5 % 5
   ·refine⟨.fn ls[i1] (.nm ls[i2]),.fnv ls[i1] .non,ivf _ _ rfl rfl,rfl,rfl,?_⟩
    rw[mL ct,yB first]
    have cy:=cd (.v (toD (.fn ls[i1] (.nm ls[i2])))) X4
    rw[decide_eq_true y] at cy
    rw[yB (r':=U Ws X4 (.v (toD (.fn ls[i1] (.nm ls[i2])))) X4) (by rw[mM cy];rfl)]
    exact wL (d:=.tup [.str [102,110]]) (qA (zN zL yF) (by show 1<=100;decide)) (by rfl)
   ·refine⟨.fn ls[i1] (.num x),.fnv ls[i1] .non,ivf _ _ rfl rfl,rfl,rfl,?_⟩
    rw[mL ct,yB first]
    have cy:=cd (.v (toD (.fn ls[i1] (.nm ls[i2])))) X4
    rw[decide_eq_false y] at cy
    rw[yB (r':=U Ws X4 (.v (toD (.fn ls[i1] (.num x)))) X4) (by
     rw[mL cy]
     exact wL (d:=toD (.fn ls[i1] (.num x))) (t3 _ _ _ _ _ _ _ zL (gx1 _ _) (t2 _ _ _ _ _ zL rfl)) (by rfl))]
    exact wL (d:=.tup [.str [102,110]]) (qA (zN zL yF) (by show 1<=100;decide)) (by rfl)
  ·rw[decide_eq_false z] at ct
   refine⟨.num x,.int x,⟨trivial,by show 0<=_;lia,by show 1<=_;lia,fun df T H _ d hm=>?_⟩,rfl,rfl,by rw[mM ct];rfl⟩
   cases hm with
   |num _ m=>exact⟨.non,2,by lia,(zH9 (df:=df) (env:=.dct [] []) x m).mono (by lia)⟩
 obtain⟨t0,w0,iv0,sz0,dq0,ft⟩:=ft
 obtain⟨q,j,ps0,hd0,c,told,w,wd,y10,y11,y12,y13,y14,o1,o2,o3,o4,o5,o6,o7,o8⟩:=cY (ns:=ns) (F:=F) hL ws1 (x4:=X4) (x15:=.un) (x16:=.un) ws 0 0 [] none 0 t0 w0 (du w0) .un .un .un .un .un trivial trivial trivial trivial trivial ws2 (by lia) (fun _=>by lia) (by lia) .nil rfl iv0 (by lia) (fun _=>⟨rfl,by lia⟩)
 let ps:Pr:=ps0++[(zE6,told)]
 have pg:Pg ps (some (zE6,w,c)):=.snoc o3 o5 o2
 have pl0:ps0.length=q:=by have:=congrArg List.length o4;simpa using this
 have pl:ps.length=q+1:=by show(ps0++[(zE6,told)]).length=_;rw[List.length_append,pl0];rfl
 have pn:(ps.map (·.1)).Nodup:=by
  show((ps0++[(zE6,told)]).map (·.1)).Nodup
  rw[List.map_append,o4]
  exact gO q
 have rb:=fun(mo:Int) (h:(c:Int)<=mo)=>zB1 pg (by lia) pn (mo:=mo) h
 let P:List D:=prog ps
 let V:D:=.tup [.str [118,97,108,117,101],.int (c:Int),due w]
 have alV:∃as,yD xV [.v V,.v V]=some (.v (.bl true),as):=by
  refine J1 (n:=182) (.tup fun d hd=>?_) _ (by unfold xV;lia)
  simp only[List.mem_cons,List.not_mem_nil,or_false] at hd
  rcases hd with rfl|rfl|rfl
  ·exact .str _
  ·exact .int _
  ·unfold due
   by_cases h:200<sz w
   ·rw[if_pos h]
    exact Al.mono (n:=1) (.tup fun d hd=>by rw[List.mem_singleton.mp hd];exact .str _) (by decide)
   ·rw[if_neg h]
    have:=(o7 (by lia)).2
    exact(zE4 w).mono (by lia)
 have apV:apD P V=true:=by
  show(true && (true && (apD P (due w) && true)))=true
  have:apD P (due w)=true:=by
   unfold due
   by_cases h:200<sz w
   ·rw[if_pos h];rfl
   ·rw[if_neg h,zE3]
  rw[this];rfl
 let B:Sl->Sl->En:=fun a b=>El S F ls ws X4 told wd (sz w) c P y10 y11 y12 y13 y14 a b
 refine jL (r':=B (.v V) (.v (due w))) ?_
 show zAE [.v S,.un,.un,.un,.un,.un,.un,.un,.un,.un,.un,.un,.un,.un,.un,.un,.un]=_
 unfold zAE
 refine yP (.int F) (r2:=[.v S,Fs,.un,.un,.un,.un,.un,.un,.un,.un,.un,.un,.un,.un,.un,.un,.un]) (xE (p:=.v (.int F)) (zN (xE (p:=.v (.int c0)) (zN (x:=S) rfl (zN zL yF)) rfl hc0) (zN zL yF)) rfl hF) (by rfl) ?_
 refine yP (.lst (ls.map .str)) (r2:=U .un .un .un .un) (xE (p:=.v (.lst (ls.map .str))) (zN (xE (p:=.v (.int G)) (zN (xE (p:=.v (.int c1)) (zN (x:=S) rfl (zN zL yF)) rfl hc1) (zN zL yF)) rfl hG) yF) rfl hL2) (by rfl) ?_
 refine yP (.lst (ws0.map .int)) (r2:=U (.v (.lst (ws0.map .int))) .un .un .un) ?_ (by rfl) ?_
 ·have cu:mSl (zE 0) (uT (mC (.int 2))) (uT (mC (.int 62))) (U .un .un .un .un)=some (.lst (cs.map .int)):=by
   refine zFK (x:=S) rfl (uP zL) (uP zL) ?_
   show some (D.lst (rK (ns.map D.int) (some ((2:Nat):Int)) (some ((62:Nat):Int))))=_
   rw[zE0,<-List.map_take,<-List.map_drop]
  have en:ZV (mSl (zE 0) (uT (mC (.int 2))) (uT (mC (.int 62)))) (U .un .un .un .un)=some (YG (cs.map .int)):=by
   unfold ZV
   rw[cu];rfl
  unfold uA vL qV
  rw[en,ac,if_pos (by show(((cs.map D.int).zipIdx 0).map _).length<_;rw[ay,List.length_zipIdx,ay];exact xS (by lia)),show rZ [] 2 (U .un .un .un .un)=[.un,.un] from rfl]
  show Option.map D.lst (jR _ _ _ (((cs.map D.int).zipIdx 0).map fun p=>.tup [.int (p.2:Nat),p.1]) [.un,.un])=_
  rw[w03];rfl
 rw[yB ws3]
 refine yP (.int x) (r2:=U Ws X4 .un .un) (x5 (qG rfl zL (by decide)) pw6 (by decide)) (by rfl) ?_
 refine yP (toD (.num x)) (r2:=U Ws X4 (.v (toD (.num x))) .un) (t2 _ _ _ _ _ zL rfl) (by rfl) ?_
 refine yP (.int x) (r2:=U Ws X4 (.v (toD (.num x))) X4) rfl (by rfl) ?_
 rw[yB ft]
 let V6:En:=[.v S,Fs,L,Ws,X4,.v (toD t0),.v (du w0),.v (.int 1),.un,.un,.un,.un,.un,.un,.un,.un,.un]
 refine yP (.int 1) (r2:=V6) zL (by rfl) ?_
 refine yP (.int 0) (r2:=[.v S,Fs,L,Ws,X4,.v (toD t0),.v (du w0),.v (.int 1),.v (.int 0),.un,.un,.un,.un,.un,.un,.un,.un]) zL (by rfl) ?_
 rw[sz0] at o8
 rw[yB (r':=El S F ls ws X4 t0 (du w0) 1 0 (prog []) .un .un .un .un .un .un .un) (by rfl)]
 have s7:tW (qZ 2 (yE (yN 10) (yE (yN 11) jG))) (ZV (zE 3)) zAJ (El S F ls ws X4 t0 (du w0) 1 0 (prog []) .un .un .un .un .un .un .un)=some (.nx (El S F ls ws X4 told wd (sz w) c (prog ps0) y10 y11 y12 y13 y14 .un .un)):=by
  unfold tW
  rw[show ZV (zE 3) (El S F ls ws X4 t0 (du w0) 1 0 (prog []) .un .un .un .un .un .un .un)=some (YG (ws.map .int)) from rfl]
  exact o8
 unfold zAJ zF2 zAI at s7
 rw[yB s7]
 have s8:sX (rY 9 (xI (zD (mC (.str [109,97,105,110])) (zD (zE 5) zU)))) (El S F ls ws X4 told wd (sz w) c (prog ps0) y10 y11 y12 y13 y14 .un .un)=some (.nx (B .un .un)):=by
  have:=oE (i:=9) (r:=El S F ls ws X4 told wd (sz w) c (prog ps0) y10 y11 y12 y13 y14 .un .un) (S:=prog ps0) (d:=.tup [.str zE6,toD told]) (f:=xI (zD (mC (.str [109,97,105,110])) (zD (zE 5) zU))) rfl (qA (zN zL (zN rfl yF)) (by show 2<=100;decide)) (by rw[pH];exact xS (by lia))
  refine gC (d:=.non) ?_
  rw[this]
  show some (D.non,El S F ls ws X4 told wd (sz w) c (prog ps0++[.tup [.str zE6,toD told]]) y10 y11 y12 y13 y14 .un .un)=some (D.non,El S F ls ws X4 told wd (sz w) c (prog (ps0++[(zE6,told)])) y10 y11 y12 y13 y14 .un .un)
  rw[pI];rfl
 rw[yB s8]
 have own:∀a b:Sl,dF 9 (B a b)=some P:=fun _ _=>rfl
 refine yP V (r2:=B (.v V) .un) (rO (own _ _) (zN zL yF) rfl (rb 1000 (by lia)) apV) (by rfl) ?_
 refine yP wd (r2:=B (.v V) (.v wd)) rfl (by rfl) ?_
 have s9:sIf (mBl (zJ gtD (zE 7) (mC (.int 200)))) (wT 16 (xI (zD (mC (.str [100,101,101,112])) zU))) xY (B (.v V) (.v wd))=some (.nx (B (.v V) (.v (due w)))):=by
  have ct:mBl (zJ gtD (zE 7) (mC (.int 200))) (B (.v V) (.v wd))=some (decide ((200:Int)<(sz w:Int))):=zFX rfl zL
  by_cases h:200<sz w
  ·rw[decide_eq_true (by lia)] at ct
   rw[mL ct,show due w=zLP from if_pos h]
   exact wL (d:=zLP) (qA (zN zL yF) (by show 1<=100;decide)) (by rfl)
  ·rw[decide_eq_false (by lia)] at ct
   rw[mM ct,show due w=du w from if_neg h,(o7 (by lia)).1];rfl
 rw[yB s9]
 refine wE ?_
 let R9:En:=B (.v V) (.v (due w))
 have a1:yG 2 (yD xV) (zD (zE 15) (zD (xI (zD (mC (.str [118,97,108,117,101])) (zD (zE 8) (zD (zE 16) zU)))) zU)) R9=some (.bl true):=xE (p:=.v (.bl true)) (l:=[V,V]) (zN rfl (zN (t3 _ _ _ _ _ _ _ zL rfl rfl) yF)) rfl alV
 unfold zFA
 rw[a1,ac]
 exact xE (p:=.v (.bl true)) (l:=[V,V]) (zN (rO (own _ _) (zN rfl yF) rfl (rb (c:Int) (Int.le_refl _)) apV) (zN rfl yF)) rfl alV
theorem zAT{α:Type}{l:List α}(h:l.length=1):∃a0,l=[a0]:=List.length_eq_one_iff.mp h
theorem zAS{α:Type}{l:List α}(h:l.length=2):∃a0 a1,l=[a0,a1]:=by
 cases l with
 |nil=>cases h
 |cons a0 l=>obtain⟨a1,rfl⟩:=zAT (Nat.succ.inj h);exact⟨a0,a1,rfl⟩
theorem zHR{α:Type}{l:List α}(h:l.length=3):∃a0 a1 a2,l=[a0,a1,a2]:=by
 cases l with
 |nil=>cases h
 |cons a0 l=>obtain⟨a1,a2,rfl⟩:=zAS (Nat.succ.inj h);exact⟨a0,a1,a2,rfl⟩
theorem zFB{α:Type}{l:List α}(h:l.length=4):∃a0 a1 a2 a3,l=[a0,a1,a2,a3]:=by
 cases l with
 |nil=>cases h
 |cons a0 l=>obtain⟨a1,a2,a3,rfl⟩:=zHR (Nat.succ.inj h);exact⟨a0,a1,a2,a3,rfl⟩
theorem zNG{α:Type}{l:List α}(h:l.length=5):∃a0 a1 a2 a3 a4,l=[a0,a1,a2,a3,a4]:=by
 cases l with
 |nil=>cases h
 |cons a0 l=>obtain⟨a1,a2,a3,a4,rfl⟩:=zFB (Nat.succ.inj h);exact⟨a0,a1,a2,a3,a4,rfl⟩
noncomputable def mQ(K:Fg)(n:Str)(st:Stmt):Prop:=∃(f:Addr) (od an:Option Addr) (sl:Array (Option Value)) (oc kV dc pm cd ct:Value),PySem.W.nsIn K mainGlobals n=some (some (.ref f))/\K.lookup f=some ⟨oc,od,.func (PySem.W.fnOf n n (jY st) (wX st) (zP st) .none kV dc pm an cd ct),sl⟩/\PySem.W.codeIn K cd n=true/\PySem.W.keepIn K (.ref f)=true
theorem dfo{K:Fg}{n:Str}{st:Stmt}{f:Addr}{od an:Option Addr}{sl:Array (Option Value)}{oc kV dc pm cd ct:Value}(a:PySem.W.nsIn K mainGlobals n=some (some (.ref f)))(l:K.lookup f=some ⟨oc,od,.func (PySem.W.fnOf n n (jY st) (wX st) (zP st) .none kV dc pm an cd ct),sl⟩)(c:PySem.W.codeIn K cd n=true)(k:PySem.W.keepIn K (.ref f)=true):mQ K n st:=⟨f,od,an,sl,oc,kV,dc,pm,cd,ct,a,l,c,k⟩
theorem deo{K:Fg}{h:Heap}{mg:Str->Option Value}{n:Str}{i:Nat}{ps:List Str}(X:K.In h)(G:h.Ns mainGlobals mg)(D:mQ K n (top i))(hb:∀{f:Addr} {d:FuncData},Fun K n n (top i) f d->Binds K d ps []):Nonempty (De K mg n i ps):=by
 obtain⟨f,_,_,_,_,_,_,_,_,_,a,l,c,k⟩:=D
 have F:=YB (st:=top i) l c k
 exact⟨⟨f,_,F,PySem.W.mg_of X G a,hb F⟩⟩
noncomputable def FnK(K:Fg)(n q:Str)(st:Stmt)(f:Addr):Prop:=∃(od an:Option Addr) (sl:Array (Option Value)) (oc kV dc pm cd ct:Value),K.lookup f=some ⟨oc,od,.func (PySem.W.fnOf n q (jY st) (wX st) (zP st) .none kV dc pm an cd ct),sl⟩/\PySem.W.codeIn K cd q=true/\PySem.W.keepIn K (.ref f)=true
theorem fnk{K:Fg}{n q:Str}{st:Stmt}{f:Addr}{od an:Option Addr}{sl:Array (Option Value)}{oc kV dc pm cd ct:Value}(l:K.lookup f=some ⟨oc,od,.func (PySem.W.fnOf n q (jY st) (wX st) (zP st) .none kV dc pm an cd ct),sl⟩)(c:PySem.W.codeIn K cd q=true)(k:PySem.W.keepIn K (.ref f)=true):FnK K n q st f:=⟨od,an,sl,oc,kV,dc,pm,cd,ct,l,c,k⟩
theorem vR{K:Fg}{n q:Str}{st:Stmt}{f:Addr}{ps:List Str}(D:FnK K n q st f)(hb:∀{f:Addr} {d:FuncData},Fun K n q st f d->Binds K d ps []):∃m:Dm K n q st ps,m.a=f/\PySem.W.keepIn K (.ref f)=true:=by
 obtain⟨_,_,_,_,_,_,_,_,_,l,c,k⟩:=D
 have F:=YB (st:=st) l c k
 exact⟨⟨f,_,F,hb F⟩,rfl,k⟩
theorem u8{K:Fg}{h:Heap}{mg:Str->Option Value}{n:Str}{i:Nat}{f:Addr}{ps:List Str}(X:K.In h)(G:h.Ns mainGlobals mg)(a:PySem.W.nsIn K mainGlobals n=some (some (.ref f)))(D:FnK K n n (top i) f)(hb:∀{f:Addr} {d:FuncData},Fun K n n (top i) f d->Binds K d ps []):∃m:De K mg n i ps,m.a=f:=by
 obtain⟨_,_,_,_,_,_,_,_,_,l,c,k⟩:=D
 have F:=YB (st:=top i) l c k
 exact⟨⟨f,_,F,PySem.W.mg_of X G a,hb F⟩,rfl⟩
theorem itup_mk{K:Fg}{p:Addr}{ns:List Int}{od:Option Addr}{its:Array Value}{n:Nat}{sl:Array (Option Value)}(l:K.lookup p=some ⟨.type "tuple",od,.seq its n,sl⟩)(s:its.size<=sizeLine)(v:Vals (ns.map V.int) its.toList):r6 K p ns:=⟨_,_,_,l,rfl,rfl,s,v⟩
theorem zHS{K:Fg}(hm:∀ns:List Int,ns.length<=63->∃as,rT [.v (.lst (ns.map .int))]=some (.v (.bl true),as))(H:Hp)(a:Addr)(ns:List Int)(hl:ns.length<=63)(hS:SqL K H a (ns.map V.int)):spD K 1 rT [.ref a] H (fun v _=>v=.bl true) (fun _ _ _=>False):=by
 have il:∀l:List Int,IsL K (fun _=>False) H (l.map D.int) (l.map V.int):=fun l=>by
  induction l with
  |nil=>exact IsL.nil
  |cons x l ih=>exact .cons (by rw[Is.int_iff]) ih
 obtain⟨as,e⟩:=hm ns hl
 refine⟨fun _=>False,[.v (.lst (ns.map .int))],_,as,rfl,R.args (ds:=[.lst (ns.map .int)]) noF (.cons (by rw[Is.lst_iff];exact⟨a,_,rfl,hS.imp (fun z=>⟨id,z⟩) id,il ns⟩) .nil),fun i l=>?_,e,fun v H' _ iv=>by rw[Is.bl_iff] at iv;exact iv⟩
 cases i with
 |zero=>exact⟨(fun z=>by cases z),(fun z=>by cases z),(fun _ z=>by cases z)⟩
 |succ i=>exact⟨(fun z=>by cases z),(fun z=>by cases z),(fun _ z=>by cases z)⟩
theorem all_mk{l:PySem.W.OpenLaw}{w:World}{K:Fg}{h:Heap}{mg:Str->Option Value}{fa:Addr}(X:K.In h)(G:h.Ns mainGlobals mg)(hfa:mg "law" = some (.ref fa))(D0:mQ K "inner" (top 2))(D1:mQ K "places" (top 1))(D2:mQ K "inner_numbers" (top 4))(D3:mQ K "sort_of" (top 9))(D4:mQ K "binding" (top 10))(D5:mQ K "held_in" (top 38))(D6:mQ K "told_part" (top 39))(D7:mQ K "told" (top 37))(D8:mQ K "marked" (top 15))(D9:mQ K "has_no_field" (top 18))(D10:mQ K "with_field" (top 19))(D11:mQ K "_law_cell" (top 41))(D12:mQ K "_law_mixed" (top 42))(D13:mQ K "_law_alike" (top 43))(D14:mQ K "_law_labels" (top 44))(D15:mQ K "_law_ways_to" (top 45))(D16:mQ K "_law_done" (top 46))(D17:mQ K "law" (top 47)){C B:Addr}(aC:PySem.W.nsIn K mainGlobals "Plain" = some (some (.ref C)))(aB:PySem.W.nsIn K mainGlobals "Reckoner" = some (some (.ref B)))(pg:PySem.W.plainGet K C Str.empty=true)(hd:PySem.W.hasDictIn K C=true)(po:PySem.W.plainOver K C=true)(sa:PySem.W.findIn K (.ref C) "__setattr__" = some (some (.builtin "object.__setattr__")))(mk:PySem.W.makesIn K C=true)(kc:PySem.W.keepIn K (.ref C)=true)(n_most:PySem.W.findIn K (.ref C) "most" = some none)(n_steps:PySem.W.findIn K (.ref C) "steps" = some none)(n_waiting:PySem.W.findIn K (.ref C) "waiting" = some none)(n_come:PySem.W.findIn K (.ref C) "come" = some none)(n_ended:PySem.W.findIn K (.ref C) "ended" = some none)(n_defs:PySem.W.findIn K (.ref C) "defs" = some none){f_rinit:Addr}(fc:PySem.W.findCls K (.ref B) (.type "type") "__init__" = some (.val (.ref f_rinit)))(cga:PySem.W.specialIn K (.ref B) "__getattribute__" = some (some (.builtin "type.__getattribute__")))(crd:PySem.W.readsIn K B (.type "type")=true)(chh:PySem.W.handedIn (.ref f_rinit)=true)(q_rinit:FnK K "__init__" "Reckoner.__init__" (bF 8 0) f_rinit){f_pinit:Addr}(a_pinit:PySem.W.findIn K (.ref C) "__init__" = some (some (.ref f_pinit)))(i_pinit:PySem.W.isFn K (.ref f_pinit)=true)(q_pinit:FnK K "__init__" "Plain.__init__" (bF 16 0) f_pinit){xD:Addr}(a_begin:PySem.W.findIn K (.ref C) "begin" = some (some (.ref xD)))(i_begin:PySem.W.isFn K (.ref xD)=true)(q_begin:FnK K "begin" "Reckoner.begin" (bF 8 1) xD){xQ:Addr}(a_tell:PySem.W.findIn K (.ref C) "tell" = some (some (.ref xQ)))(i_tell:PySem.W.isFn K (.ref xQ)=true)(q_tell:FnK K "tell" "Reckoner.tell" (bF 8 2) xQ){qE:Addr}(a_step:PySem.W.findIn K (.ref C) "step" = some (some (.ref qE)))(i_step:PySem.W.isFn K (.ref qE)=true)(q_step:FnK K "step" "Reckoner.step" (bF 8 3) qE){qN:Addr}(a_run_on:PySem.W.findIn K (.ref C) "run_on" = some (some (.ref qN)))(i_run_on:PySem.W.isFn K (.ref qN)=true)(q_run_on:FnK K "run_on" "Reckoner.run_on" (bF 8 4) qN){yA:Addr}(a_begin_parts:PySem.W.findIn K (.ref C) "begin_parts" = some (some (.ref yA)))(i_begin_parts:PySem.W.isFn K (.ref yA)=true)(q_begin_parts:FnK K "begin_parts" "Reckoner.begin_parts" (bF 8 5) yA){yH:Addr}(a_parts_come:PySem.W.findIn K (.ref C) "parts_come" = some (some (.ref yH)))(i_parts_come:PySem.W.isFn K (.ref yH)=true)(q_parts_come:FnK K "parts_come" "Reckoner.parts_come" (bF 8 6) yH){wQ:Addr}(a_go_on:PySem.W.findIn K (.ref C) "go_on" = some (some (.ref wQ)))(i_go_on:PySem.W.isFn K (.ref wQ)=true)(q_go_on:FnK K "go_on" "Plain.go_on" (bF 16 1) wQ){f_run:Addr}(a_run:PySem.W.nsIn K mainGlobals "run" = some (some (.ref f_run)))(q_run:FnK K "run" "run" (top 14) f_run){qO:Addr}(a_of_num:PySem.W.nsIn K mainGlobals "of_num" = some (some (.ref qO)))(q_of_num:FnK K "of_num" "of_num" (top 21) qO){yR:Addr}(a_of_name:PySem.W.nsIn K mainGlobals "of_name" = some (some (.ref yR)))(q_of_name:FnK K "of_name" "of_name" (top 22) yR){jX:Addr}(a_of_fn:PySem.W.nsIn K mainGlobals "of_fn" = some (some (.ref jX)))(q_of_fn:FnK K "of_fn" "of_fn" (top 23) jX){wW:Addr}(a_of_do:PySem.W.nsIn K mainGlobals "of_do" = some (some (.ref wW)))(q_of_do:FnK K "of_do" "of_do" (top 24) wW){x3:Addr}(a_of_empty:PySem.W.nsIn K mainGlobals "of_empty" = some (some (.ref x3)))(q_of_empty:FnK K "of_empty" "of_empty" (top 25) x3){x8:Addr}(a_of_with:PySem.W.nsIn K mainGlobals "of_with" = some (some (.ref x8)))(q_of_with:FnK K "of_with" "of_with" (top 27) x8){w8:Addr}(a_of_tag:PySem.W.nsIn K mainGlobals "of_tag" = some (some (.ref w8)))(q_of_tag:FnK K "of_tag" "of_tag" (top 30) w8){g_of_get g_of_put g_of_less g_of_wide g_of_case g_of_never g_of_if g_of_working:Addr}{p_WAYS:Addr}{es_WAYS:Array DictEntry}{n_WAYS:Nat}(c_WAYS:PySem.W.nsIn K mainGlobals "WAYS" = some (some (.ref p_WAYS)))(l_WAYS:K.lookup p_WAYS=some ⟨.type "dict",none,.dict es_WAYS n_WAYS,#[]⟩)(y_WAYS:(p_WAYS == sysModules)=false)(k_WAYS:PySem.W.KeysLit w.params es_WAYS.toList)(e_WAYS:rV es_WAYS.toList [([110,117,109],qO),([110,97,109,101],yR),([102,110],jX),([100,111],wW),([101,109,112,116,121],x3),([103,101,116],g_of_get),([119,105,116,104],x8),([112,117,116],g_of_put),([108,101,115,115],g_of_less),([116,97,103],w8),([119,105,100,101],g_of_wide),([99,97,115,101],g_of_case),([110,101,118,101,114],g_of_never),([105,102],g_of_if),([43],g_of_working),([45],g_of_working),([42],g_of_working),([60],g_of_working)]){t_0 t_1 t_2 t_3 t_4 t_5 t_6 t_7 t_8 t_9 t_10 t_11 t_12 t_13:Addr}{p_AHEAD:Addr}{es_AHEAD:Array DictEntry}{n_AHEAD:Nat}(c_AHEAD:PySem.W.nsIn K mainGlobals "AHEAD" = some (some (.ref p_AHEAD)))(l_AHEAD:K.lookup p_AHEAD=some ⟨.type "dict",none,.dict es_AHEAD n_AHEAD,#[]⟩)(y_AHEAD:(p_AHEAD == sysModules)=false)(k_AHEAD:PySem.W.KeysLit w.params es_AHEAD.toList)(e_AHEAD:rV es_AHEAD.toList [([100,111],t_0),([103,101,116],t_1),([119,105,116,104],t_2),([112,117,116],t_3),([108,101,115,115],t_4),([116,97,103],t_5),([119,105,100,101],t_6),([99,97,115,101],t_7),([110,101,118,101,114],t_8),([105,102],t_9),([43],t_10),([45],t_11),([42],t_12),([60],t_13)])(j_0:r6 K t_0 [1,2])(j_1:r6 K t_1 [2])(j_2:r6 K t_2 [2,3])(j_3:r6 K t_3 [2,3])(j_4:r6 K t_4 [2])(j_5:r6 K t_5 [2])(j_6:r6 K t_6 [2])(j_7:r6 K t_7 [1])(j_8:r6 K t_8 [1])(j_9:r6 K t_9 [1])(j_10:r6 K t_10 [1,2])(j_11:r6 K t_11 [1,2])(j_12:r6 K t_12 [1,2])(j_13:r6 K t_13 [1,2])(z_bool:PySem.W.nsIn K mainGlobals "bool" = some none)(z_dict:PySem.W.nsIn K mainGlobals "dict" = some none)(z_enumerate:PySem.W.nsIn K mainGlobals "enumerate" = some none)(z_int:PySem.W.nsIn K mainGlobals "int" = some none)(z_isinstance:PySem.W.nsIn K mainGlobals "isinstance" = some none)(z_len:PySem.W.nsIn K mainGlobals "len" = some none)(z_list:PySem.W.nsIn K mainGlobals "list" = some none)(z_max:PySem.W.nsIn K mainGlobals "max" = some none)(z_min:PySem.W.nsIn K mainGlobals "min" = some none)(z_range:PySem.W.nsIn K mainGlobals "range" = some none)(z_reversed:PySem.W.nsIn K mainGlobals "reversed" = some none)(z_sorted:PySem.W.nsIn K mainGlobals "sorted" = some none)(z_str:PySem.W.nsIn K mainGlobals "str" = some none)(z_tuple:PySem.W.nsIn K mainGlobals "tuple" = some none)(z_zip:PySem.W.nsIn K mainGlobals "zip" = some none){t_MOST_PARTS:Tok}(c_MOST_PARTS:PySem.W.nsIn K mainGlobals "MOST_PARTS" = some (some (.int 200 t_MOST_PARTS))):∃fd:FuncData,(∀(s:Shared) (v:Value),BindsTo s fd ⟨[v],[]⟩ [("_law_script",v)])/\∀base:Heap,K.In base->base.Ns mainGlobals mg->FnOk l.prog w K mg base CX0 201 fa fd ["_law_script"] (spD K 1 rT):=by
 obtain⟨f17,_,_,_,_,_,_,_,_,_,a17,l17,c17,k17⟩:=D17
 have e:=hfa.symm.trans (PySem.W.mg_of X G a17)
 cases e
 have F17:=YB (st:=top 47) l17 c17 k17
 have b17:=F17.binds (ps:=["_law_script"]) fun _ _ _ _ _ _ us hl=>by obtain⟨_,rfl⟩:=zAT hl;rfl
 obtain⟨m_rinit,rfl,k_rinit⟩:=vR (ps:=["self", "most"]) q_rinit fun F=>F.binds (ps:=["self", "most"]) fun _ _ _ _ _ _ us hl=>by obtain⟨_,_,rfl⟩:=zAS hl;rfl
 obtain⟨m_pinit,rfl,k_pinit⟩:=vR (ps:=["self", "program", "most"]) q_pinit fun F=>F.binds (ps:=["self", "program", "most"]) fun _ _ _ _ _ _ us hl=>by obtain⟨_,_,_,rfl⟩:=zHR hl;rfl
 obtain⟨m_begin,rfl,k_begin⟩:=vR (ps:=["self", "expression", "around"]) q_begin fun F=>F.binds (ps:=["self", "expression", "around"]) fun _ _ _ _ _ _ us hl=>by obtain⟨_,_,_,rfl⟩:=zHR hl;rfl
 obtain⟨m_tell,rfl,k_tell⟩:=vR (ps:=["self", "value"]) q_tell fun F=>F.binds (ps:=["self", "value"]) fun _ _ _ _ _ _ us hl=>by obtain⟨_,_,rfl⟩:=zAS hl;rfl
 obtain⟨m_step,rfl,k_step⟩:=vR (ps:=["self"]) q_step fun F=>F.binds (ps:=["self"]) fun _ _ _ _ _ _ us hl=>by obtain⟨_,rfl⟩:=zAT hl;rfl
 obtain⟨m_run_on,rfl,k_run_on⟩:=vR (ps:=["self"]) q_run_on fun F=>F.binds (ps:=["self"]) fun _ _ _ _ _ _ us hl=>by obtain⟨_,rfl⟩:=zAT hl;rfl
 obtain⟨m_begin_parts,rfl,k_begin_parts⟩:=vR (ps:=["self", "expression", "around"]) q_begin_parts fun F=>F.binds (ps:=["self", "expression", "around"]) fun _ _ _ _ _ _ us hl=>by obtain⟨_,_,_,rfl⟩:=zHR hl;rfl
 obtain⟨m_parts_come,rfl,k_parts_come⟩:=vR (ps:=["self", "expression"]) q_parts_come fun F=>F.binds (ps:=["self", "expression"]) fun _ _ _ _ _ _ us hl=>by obtain⟨_,_,rfl⟩:=zAS hl;rfl
 obtain⟨m_go_on,rfl,k_go_on⟩:=vR (ps:=["self", "expression", "bound", "parts"]) q_go_on fun F=>F.binds (ps:=["self", "expression", "bound", "parts"]) fun _ _ _ _ _ _ us hl=>by obtain⟨_,_,_,_,rfl⟩:=zFB hl;rfl
 obtain⟨d_run,rfl⟩:=u8 (ps:=["program", "most"]) X G a_run q_run fun F=>F.binds (ps:=["program", "most"]) fun _ _ _ _ _ _ us hl=>by obtain⟨_,_,rfl⟩:=zAS hl;rfl
 obtain⟨d_of_num,rfl⟩:=u8 (ps:=["plain", "expression", "bound", "parts"]) X G a_of_num q_of_num fun F=>F.binds (ps:=["plain", "expression", "bound", "parts"]) fun _ _ _ _ _ _ us hl=>by obtain⟨_,_,_,_,rfl⟩:=zFB hl;rfl
 obtain⟨d_of_name,rfl⟩:=u8 (ps:=["plain", "expression", "bound", "parts"]) X G a_of_name q_of_name fun F=>F.binds (ps:=["plain", "expression", "bound", "parts"]) fun _ _ _ _ _ _ us hl=>by obtain⟨_,_,_,_,rfl⟩:=zFB hl;rfl
 obtain⟨d_of_fn,rfl⟩:=u8 (ps:=["plain", "expression", "bound", "parts"]) X G a_of_fn q_of_fn fun F=>F.binds (ps:=["plain", "expression", "bound", "parts"]) fun _ _ _ _ _ _ us hl=>by obtain⟨_,_,_,_,rfl⟩:=zFB hl;rfl
 obtain⟨d_of_do,rfl⟩:=u8 (ps:=["plain", "expression", "bound", "parts"]) X G a_of_do q_of_do fun F=>F.binds (ps:=["plain", "expression", "bound", "parts"]) fun _ _ _ _ _ _ us hl=>by obtain⟨_,_,_,_,rfl⟩:=zFB hl;rfl
 obtain⟨d_of_empty,rfl⟩:=u8 (ps:=["plain", "expression", "bound", "parts"]) X G a_of_empty q_of_empty fun F=>F.binds (ps:=["plain", "expression", "bound", "parts"]) fun _ _ _ _ _ _ us hl=>by obtain⟨_,_,_,_,rfl⟩:=zFB hl;rfl
 obtain⟨d_of_with,rfl⟩:=u8 (ps:=["plain", "expression", "bound", "parts"]) X G a_of_with q_of_with fun F=>F.binds (ps:=["plain", "expression", "bound", "parts"]) fun _ _ _ _ _ _ us hl=>by obtain⟨_,_,_,_,rfl⟩:=zFB hl;rfl
 obtain⟨d_of_tag,rfl⟩:=u8 (ps:=["plain", "expression", "bound", "parts"]) X G a_of_tag q_of_tag fun F=>F.binds (ps:=["plain", "expression", "bound", "parts"]) fun _ _ _ _ _ _ us hl=>by obtain⟨_,_,_,_,rfl⟩:=zFB hl;rfl
 exact⟨_,fun s v=>.of_eq rfl,fun base _ _=>zHC ⟨Classical.choice (deo (ps:=["expression"]) X G D0 fun F=>F.binds (ps:=["expression"]) fun _ _ _ _ _ _ us hl=>by obtain⟨_,rfl⟩:=zAT hl;rfl),
  Classical.choice (deo (ps:=["E"]) X G D1 fun F=>F.binds (ps:=["E"]) fun _ _ _ _ _ _ us hl=>by obtain⟨_,rfl⟩:=zAT hl;rfl),
  Classical.choice (deo (ps:=["expression", "number"]) X G D2 fun F=>F.binds (ps:=["expression", "number"]) fun _ _ _ _ _ _ us hl=>by obtain⟨_,_,rfl⟩:=zAS hl;rfl),
  Classical.choice (deo (ps:=["value"]) X G D3 fun F=>F.binds (ps:=["value"]) fun _ _ _ _ _ _ us hl=>by obtain⟨_,rfl⟩:=zAT hl;rfl),
  Classical.choice (deo (ps:=["bound", "name", "value"]) X G D4 fun F=>F.binds (ps:=["bound", "name", "value"]) fun _ _ _ _ _ _ us hl=>by obtain⟨_,_,_,rfl⟩:=zHR hl;rfl),
  Classical.choice (deo (ps:=["value"]) X G D5 fun F=>F.binds (ps:=["value"]) fun _ _ _ _ _ _ us hl=>by obtain⟨_,rfl⟩:=zAT hl;rfl),
  Classical.choice (deo (ps:=["value", "held"]) X G D6 fun F=>F.binds (ps:=["value", "held"]) fun _ _ _ _ _ _ us hl=>by obtain⟨_,_,rfl⟩:=zAS hl;rfl),
  Classical.choice (deo (ps:=["value"]) X G D7 fun F=>F.binds (ps:=["value"]) fun _ _ _ _ _ _ us hl=>by obtain⟨_,rfl⟩:=zAT hl;rfl),
  Classical.choice (deo (ps:=["expression", "name", "number"]) X G D8 fun F=>F.binds (ps:=["expression", "name", "number"]) fun _ _ _ _ _ _ us hl=>by obtain⟨_,_,_,rfl⟩:=zHR hl;rfl),
  Classical.choice (deo (ps:=["value", "label"]) X G D9 fun F=>F.binds (ps:=["value", "label"]) fun _ _ _ _ _ _ us hl=>by obtain⟨_,_,rfl⟩:=zAS hl;rfl),
  Classical.choice (deo (ps:=["record", "label", "value"]) X G D10 fun F=>F.binds (ps:=["record", "label", "value"]) fun _ _ _ _ _ _ us hl=>by obtain⟨_,_,_,rfl⟩:=zHR hl;rfl),
  Classical.choice (deo (ps:=["_law_script", "_law_k"]) X G D11 fun F=>F.binds (ps:=["_law_script", "_law_k"]) fun _ _ _ _ _ _ us hl=>by obtain⟨_,_,rfl⟩:=zAS hl;rfl),
  Classical.choice (deo (ps:=["_law_cell_here", "_law_k"]) X G D12 fun F=>F.binds (ps:=["_law_cell_here", "_law_k"]) fun _ _ _ _ _ _ us hl=>by obtain⟨_,_,rfl⟩:=zAS hl;rfl),
  Classical.choice (deo (ps:=["_law_found", "_law_due"]) X G D13 fun F=>F.binds (ps:=["_law_found", "_law_due"]) fun _ _ _ _ _ _ us hl=>by obtain⟨_,_,rfl⟩:=zAS hl;rfl),
  Classical.choice (deo (ps:=["_law_cell_here"]) X G D14 fun F=>F.binds (ps:=["_law_cell_here"]) fun _ _ _ _ _ _ us hl=>by obtain⟨_,rfl⟩:=zAT hl;rfl),
  Classical.choice (deo (ps:=["_law_count"]) X G D15 fun F=>F.binds (ps:=["_law_count"]) fun _ _ _ _ _ _ us hl=>by obtain⟨_,rfl⟩:=zAT hl;rfl),
  Classical.choice (deo (ps:=["_law_told", "_law_worth", "_law_way", "_law_number", "_law_labels_here"]) X G D16 fun F=>F.binds (ps:=["_law_told", "_law_worth", "_law_way", "_law_number", "_law_labels_here"]) fun _ _ _ _ _ _ us hl=>by obtain⟨_,_,_,_,_,rfl⟩:=zNG hl;rfl),
  ⟨_,_,F17,PySem.W.mg_of X G a17,b17⟩,
  C,
  B,
  PySem.W.mg_of X G aC,
  PySem.W.mg_of X G aB,
  ⟨pg,hd,po,sa⟩,
  n_most,
  n_steps,
  n_waiting,
  n_come,
  n_ended,
  n_defs,
  m_rinit,
  m_pinit,
  m_begin,
  m_tell,
  m_step,
  m_run_on,
  m_begin_parts,
  m_parts_come,
  m_go_on,
  ⟨a_begin,i_begin,k_begin⟩,
  ⟨a_tell,i_tell,k_tell⟩,
  ⟨a_step,i_step,k_step⟩,
  ⟨a_run_on,i_run_on,k_run_on⟩,
  ⟨a_begin_parts,i_begin_parts,k_begin_parts⟩,
  ⟨a_parts_come,i_parts_come,k_parts_come⟩,
  ⟨a_go_on,i_go_on,k_go_on⟩,
  ⟨mk,a_pinit,i_pinit,kc⟩,
  ⟨cga,crd,fc,chh,k_rinit⟩,
  d_run,
  d_of_num,
  d_of_name,
  d_of_fn,
  d_of_do,
  d_of_empty,
  d_of_with,
  d_of_tag,
  _,
  ⟨_,_,_,PySem.W.mg_of X G c_WAYS,y_WAYS,l_WAYS,k_WAYS,e_WAYS⟩,
  ⟨_,⟨_,_,_,PySem.W.mg_of X G c_AHEAD,y_AHEAD,l_AHEAD,k_AHEAD,e_AHEAD⟩,⟨_,_,rfl,j_0,⟨_,_,rfl,j_1,⟨_,_,rfl,j_2,⟨_,_,rfl,j_3,⟨_,_,rfl,j_4,⟨_,_,rfl,j_5,⟨_,_,rfl,j_6,⟨_,_,rfl,j_7,⟨_,_,rfl,j_8,⟨_,_,rfl,j_9,⟨_,_,rfl,j_10,⟨_,_,rfl,j_11,⟨_,_,rfl,j_12,⟨_,_,rfl,j_13,rfl⟩⟩⟩⟩⟩⟩⟩⟩⟩⟩⟩⟩⟩⟩⟩,
  rfl,
  rfl,
  rfl,
  rfl,
  rfl,
  rfl,
  rfl,PySem.W.mg_none_of X G z_bool,PySem.W.mg_none_of X G z_dict,PySem.W.mg_none_of X G z_enumerate,PySem.W.mg_none_of X G z_int,PySem.W.mg_none_of X G z_isinstance,PySem.W.mg_none_of X G z_len,PySem.W.mg_none_of X G z_list,PySem.W.mg_none_of X G z_max,PySem.W.mg_none_of X G z_min,PySem.W.mg_none_of X G z_range,PySem.W.mg_none_of X G z_reversed,PySem.W.mg_none_of X G z_sorted,PySem.W.mg_none_of X G z_str,PySem.W.mg_none_of X G z_tuple,PySem.W.mg_none_of X G z_zip,⟨_,PySem.W.mg_of X G c_MOST_PARTS⟩⟩⟩
theorem walk{l:PySem.W.OpenLaw}{q:Program}{loose:List Str}{XP:(Str->Option Value)->Heap->Prop}{YP:World->Heap->Prop}{d:DefRec}{K:Params->Fg}(hm:∀ns:List Int,ns.length<=63->∃as,rT [.v (.lst (ns.map .int))]=some (.v (.bl true),as))(hn:l.most=some 63)(hdf:d.params.defaults=[])(hY:∀(w:World) (h:Heap),YP w h->(K w.params).In h)(F:∀(w:World) (mg:Str->Option Value) (fa:Addr) (h:Heap),(K w.params).In h->h.Ns mainGlobals mg->mg d.name=some (.ref fa) ->
   ∃fd:FuncData,(∀(s:Shared) (u:Value),BindsTo s fd ⟨[u],[]⟩ [("_law_script",u)])/\∀base:Heap,(K w.params).In base->base.Ns mainGlobals mg->FnOk l.prog w (K w.params) mg base CX0 201 fa fd ["_law_script"] (spD (K w.params) 1 rT)):PySem.W.WalkO q loose XP YP l.row.toRowW d [] (fun f vs=>PySem.call f vs):=
 L2.walk_ofK (n:=63) (k:=201) (x:="_law_script") (CX:=CX0) (sp:=fun K=>spD K 1 rT) hn (by decide) hdf ⟨rfl,by decide,by decide,rfl⟩ hY F (fun K H a ns hl _ hS=>zHS hm H a ns hl hS) fun _ _ _ _ z=>z
end K47
/-! twins that no proof needs: where a constant of such a name stands, the head lays none -/
namespace PySem.W.Fast
noncomputable def tw16547903769094324376 : Nat := 0
noncomputable def tw13625424410703829126 : Nat := 0
noncomputable def tw4450818746500173986 : Nat := 0
noncomputable def tw9731598459617784986 : Nat := 0
noncomputable def tw4652868604320950909 : Nat := 0
noncomputable def tw10939501904283327435 : Nat := 0
noncomputable def tw13016887104183767710 : Nat := 0
noncomputable def tw12449967748320207310 : PySem.Program := PySem.Challenge.pw_fieldrows_k47_values_told
theorem te12449967748320207310 : PySem.Challenge.pw_fieldrows_k47_values_told = tw12449967748320207310 := rfl
noncomputable def tw9251222067988691905 : Nat := 0
noncomputable def tw2256858738919400633 : Nat := 0
noncomputable def tw9947526293007310784 : Nat := 0
noncomputable def tw13589524219174493832 : Nat := 0
noncomputable def tw6902717542574578254 : Nat := 0
noncomputable def tw4754492865399424536 : Nat := 0
noncomputable def tw17903061508882501141 : Nat := 0
noncomputable def tw15794520513425928289 : Nat := 0
noncomputable def tw7476931398473231559 : Nat := 0
noncomputable def tw1371777302609857441 : Nat := 0
end PySem.W.Fast
open PyProof.Rows PySem PySem.W
set_option maxRecDepth 100000 in
set_option maxHeartbeats 0 in
theorem PySem.Challenge.cw_fieldrows_k47_values_told_holds : PySem.Challenge.rw_fieldrows_k47_values_told.Holds := by
  w_on; o_law; k_head; (case hw => w_witness2)
  k_fill
  refine K47.walk (l := PySem.Challenge.rw_fieldrows_k47_values_told) K47.law_math rfl rfl (fun w h Y => PySem.W.kIn_of Y) ?F
  case F =>
    intro w mg fa h KX G hmg
    refine' K47.all_mk KX G hmg (K47.dfo ?a0 ?l0 ?c0 ?k0) (K47.dfo ?a1 ?l1 ?c1 ?k1) (K47.dfo ?a2 ?l2 ?c2 ?k2) (K47.dfo ?a3 ?l3 ?c3 ?k3) (K47.dfo ?a4 ?l4 ?c4 ?k4) (K47.dfo ?a5 ?l5 ?c5 ?k5) (K47.dfo ?a6 ?l6 ?c6 ?k6) (K47.dfo ?a7 ?l7 ?c7 ?k7) (K47.dfo ?a8 ?l8 ?c8 ?k8) (K47.dfo ?a9 ?l9 ?c9 ?k9) (K47.dfo ?a10 ?l10 ?c10 ?k10) (K47.dfo ?a11 ?l11 ?c11 ?k11) (K47.dfo ?a12 ?l12 ?c12 ?k12) (K47.dfo ?a13 ?l13 ?c13 ?k13) (K47.dfo ?a14 ?l14 ?c14 ?k14) (K47.dfo ?a15 ?l15 ?c15 ?k15) (K47.dfo ?a16 ?l16 ?c16 ?k16) (K47.dfo ?a17 ?l17 ?c17 ?k17) ?aC ?aB ?pg ?hd ?po ?sa ?mk ?kc ?n_most ?n_steps ?n_waiting ?n_come ?n_ended ?n_defs ?fc ?cga ?crd ?chh (K47.fnk ?l_rinit ?c_rinit ?k_rinit) ?a_pinit ?i_pinit (K47.fnk ?l_pinit ?c_pinit ?k_pinit) ?a_begin ?i_begin (K47.fnk ?l_begin ?c_begin ?k_begin) ?a_tell ?i_tell (K47.fnk ?l_tell ?c_tell ?k_tell) ?a_step ?i_step (K47.fnk ?l_step ?c_step ?k_step) ?a_run_on ?i_run_on (K47.fnk ?l_run_on ?c_run_on ?k_run_on) ?a_begin_parts ?i_begin_parts (K47.fnk ?l_begin_parts ?c_begin_parts ?k_begin_parts) ?a_parts_come ?i_parts_come (K47.fnk ?l_parts_come ?c_parts_come ?k_parts_come) ?a_go_on ?i_go_on (K47.fnk ?l_go_on ?c_go_on ?k_go_on) ?a_run (K47.fnk ?l_run ?c_run ?k_run) ?a_of_num (K47.fnk ?l_of_num ?c_of_num ?k_of_num) ?a_of_name (K47.fnk ?l_of_name ?c_of_name ?k_of_name) ?a_of_fn (K47.fnk ?l_of_fn ?c_of_fn ?k_of_fn) ?a_of_do (K47.fnk ?l_of_do ?c_of_do ?k_of_do) ?a_of_empty (K47.fnk ?l_of_empty ?c_of_empty ?k_of_empty) ?a_of_with (K47.fnk ?l_of_with ?c_of_with ?k_of_with) ?a_of_tag (K47.fnk ?l_of_tag ?c_of_tag ?k_of_tag) ?c_WAYS ?l_WAYS ?y_WAYS ?k_WAYS ?e_WAYS ?c_AHEAD ?l_AHEAD ?y_AHEAD ?k_AHEAD ?e_AHEAD (K47.itup_mk ?jl_0 ?js_0 ?jv_0) (K47.itup_mk ?jl_1 ?js_1 ?jv_1) (K47.itup_mk ?jl_2 ?js_2 ?jv_2) (K47.itup_mk ?jl_3 ?js_3 ?jv_3) (K47.itup_mk ?jl_4 ?js_4 ?jv_4) (K47.itup_mk ?jl_5 ?js_5 ?jv_5) (K47.itup_mk ?jl_6 ?js_6 ?jv_6) (K47.itup_mk ?jl_7 ?js_7 ?jv_7) (K47.itup_mk ?jl_8 ?js_8 ?jv_8) (K47.itup_mk ?jl_9 ?js_9 ?jv_9) (K47.itup_mk ?jl_10 ?js_10 ?jv_10) (K47.itup_mk ?jl_11 ?js_11 ?jv_11) (K47.itup_mk ?jl_12 ?js_12 ?jv_12) (K47.itup_mk ?jl_13 ?js_13 ?jv_13) ?z_bool ?z_dict ?z_enumerate ?z_int ?z_isinstance ?z_len ?z_list ?z_max ?z_min ?z_range ?z_reversed ?z_sorted ?z_str ?z_tuple ?z_zip ?c_MOST_PARTS
    (case a0 => k_is)
    (case l0 => k_is)
    (case c0 => k_is)
    (case k0 => k_is)
    (case a1 => k_is)
    (case l1 => k_is)
    (case c1 => k_is)
    (case k1 => k_is)
    (case a2 => k_is)
    (case l2 => k_is)
    (case c2 => k_is)
    (case k2 => k_is)
    (case a3 => k_is)
    (case l3 => k_is)
    (case c3 => k_is)
    (case k3 => k_is)
    (case a4 => k_is)
    (case l4 => k_is)
    (case c4 => k_is)
    (case k4 => k_is)
    (case a5 => k_is)
    (case l5 => k_is)
    (case c5 => k_is)
    (case k5 => k_is)
    (case a6 => k_is)
    (case l6 => k_is)
    (case c6 => k_is)
    (case k6 => k_is)
    (case a7 => k_is)
    (case l7 => k_is)
    (case c7 => k_is)
    (case k7 => k_is)
    (case a8 => k_is)
    (case l8 => k_is)
    (case c8 => k_is)
    (case k8 => k_is)
    (case a9 => k_is)
    (case l9 => k_is)
    (case c9 => k_is)
    (case k9 => k_is)
    (case a10 => k_is)
    (case l10 => k_is)
    (case c10 => k_is)
    (case k10 => k_is)
    (case a11 => k_is)
    (case l11 => k_is)
    (case c11 => k_is)
    (case k11 => k_is)
    (case a12 => k_is)
    (case l12 => k_is)
    (case c12 => k_is)
    (case k12 => k_is)
    (case a13 => k_is)
    (case l13 => k_is)
    (case c13 => k_is)
    (case k13 => k_is)
    (case a14 => k_is)
    (case l14 => k_is)
    (case c14 => k_is)
    (case k14 => k_is)
    (case a15 => k_is)
    (case l15 => k_is)
    (case c15 => k_is)
    (case k15 => k_is)
    (case a16 => k_is)
    (case l16 => k_is)
    (case c16 => k_is)
    (case k16 => k_is)
    (case a17 => k_is)
    (case l17 => k_is)
    (case c17 => k_is)
    (case k17 => k_is)
    (case aC => k_is)
    (case aB => k_is)
    (case pg => k_is)
    (case hd => k_is)
    (case po => k_is)
    (case sa => k_is)
    (case mk => k_is)
    (case kc => k_is)
    (case n_most => k_is)
    (case n_steps => k_is)
    (case n_waiting => k_is)
    (case n_come => k_is)
    (case n_ended => k_is)
    (case n_defs => k_is)
    (case fc => k_is)
    (case cga => k_is)
    (case crd => k_is)
    (case chh => rfl)
    (case l_rinit => k_is)
    (case c_rinit => k_is)
    (case k_rinit => k_is)
    (case a_pinit => k_is)
    (case i_pinit => k_is)
    (case l_pinit => k_is)
    (case c_pinit => k_is)
    (case k_pinit => k_is)
    (case a_begin => k_is)
    (case i_begin => k_is)
    (case l_begin => k_is)
    (case c_begin => k_is)
    (case k_begin => k_is)
    (case a_tell => k_is)
    (case i_tell => k_is)
    (case l_tell => k_is)
    (case c_tell => k_is)
    (case k_tell => k_is)
    (case a_step => k_is)
    (case i_step => k_is)
    (case l_step => k_is)
    (case c_step => k_is)
    (case k_step => k_is)
    (case a_run_on => k_is)
    (case i_run_on => k_is)
    (case l_run_on => k_is)
    (case c_run_on => k_is)
    (case k_run_on => k_is)
    (case a_begin_parts => k_is)
    (case i_begin_parts => k_is)
    (case l_begin_parts => k_is)
    (case c_begin_parts => k_is)
    (case k_begin_parts => k_is)
    (case a_parts_come => k_is)
    (case i_parts_come => k_is)
    (case l_parts_come => k_is)
    (case c_parts_come => k_is)
    (case k_parts_come => k_is)
    (case a_go_on => k_is)
    (case i_go_on => k_is)
    (case l_go_on => k_is)
    (case c_go_on => k_is)
    (case k_go_on => k_is)
    (case a_run => k_is)
    (case l_run => k_is)
    (case c_run => k_is)
    (case k_run => k_is)
    (case a_of_num => k_is)
    (case l_of_num => k_is)
    (case c_of_num => k_is)
    (case k_of_num => k_is)
    (case a_of_name => k_is)
    (case l_of_name => k_is)
    (case c_of_name => k_is)
    (case k_of_name => k_is)
    (case a_of_fn => k_is)
    (case l_of_fn => k_is)
    (case c_of_fn => k_is)
    (case k_of_fn => k_is)
    (case a_of_do => k_is)
    (case l_of_do => k_is)
    (case c_of_do => k_is)
    (case k_of_do => k_is)
    (case a_of_empty => k_is)
    (case l_of_empty => k_is)
    (case c_of_empty => k_is)
    (case k_of_empty => k_is)
    (case a_of_with => k_is)
    (case l_of_with => k_is)
    (case c_of_with => k_is)
    (case k_of_with => k_is)
    (case a_of_tag => k_is)
    (case l_of_tag => k_is)
    (case c_of_tag => k_is)
    (case k_of_tag => k_is)
    (case c_WAYS => k_is)
    (case l_WAYS => k_is)
    (case y_WAYS => decide)
    (case k_WAYS => repeat (first | exact trivial | refine ⟨⟨_, _, rfl, rfl⟩, ?_⟩))
    (case e_WAYS => repeat (first | exact rfl | refine ⟨_, _, rfl, ⟨_, rfl, rfl⟩, ?_⟩))
    (case c_AHEAD => k_is)
    (case l_AHEAD => k_is)
    (case y_AHEAD => decide)
    (case k_AHEAD => repeat (first | exact trivial | refine ⟨⟨_, _, rfl, rfl⟩, ?_⟩))
    (case e_AHEAD => repeat (first | exact rfl | refine ⟨_, _, rfl, ⟨_, rfl, rfl⟩, ?_⟩))
    (case jl_0 => k_is)
    (case js_0 => decide)
    (case jv_0 => repeat (first | exact .nil | refine .cons ⟨_, rfl⟩ ?_))
    (case jl_1 => k_is)
    (case js_1 => decide)
    (case jv_1 => repeat (first | exact .nil | refine .cons ⟨_, rfl⟩ ?_))
    (case jl_2 => k_is)
    (case js_2 => decide)
    (case jv_2 => repeat (first | exact .nil | refine .cons ⟨_, rfl⟩ ?_))
    (case jl_3 => k_is)
    (case js_3 => decide)
    (case jv_3 => repeat (first | exact .nil | refine .cons ⟨_, rfl⟩ ?_))
    (case jl_4 => k_is)
    (case js_4 => decide)
    (case jv_4 => repeat (first | exact .nil | refine .cons ⟨_, rfl⟩ ?_))
    (case jl_5 => k_is)
    (case js_5 => decide)
    (case jv_5 => repeat (first | exact .nil | refine .cons ⟨_, rfl⟩ ?_))
    (case jl_6 => k_is)
    (case js_6 => decide)
    (case jv_6 => repeat (first | exact .nil | refine .cons ⟨_, rfl⟩ ?_))
    (case jl_7 => k_is)
    (case js_7 => decide)
    (case jv_7 => repeat (first | exact .nil | refine .cons ⟨_, rfl⟩ ?_))
    (case jl_8 => k_is)
    (case js_8 => decide)
    (case jv_8 => repeat (first | exact .nil | refine .cons ⟨_, rfl⟩ ?_))
    (case jl_9 => k_is)
    (case js_9 => decide)
    (case jv_9 => repeat (first | exact .nil | refine .cons ⟨_, rfl⟩ ?_))
    (case jl_10 => k_is)
    (case js_10 => decide)
    (case jv_10 => repeat (first | exact .nil | refine .cons ⟨_, rfl⟩ ?_))
    (case jl_11 => k_is)
    (case js_11 => decide)
    (case jv_11 => repeat (first | exact .nil | refine .cons ⟨_, rfl⟩ ?_))
    (case jl_12 => k_is)
    (case js_12 => decide)
    (case jv_12 => repeat (first | exact .nil | refine .cons ⟨_, rfl⟩ ?_))
    (case jl_13 => k_is)
    (case js_13 => decide)
    (case jv_13 => repeat (first | exact .nil | refine .cons ⟨_, rfl⟩ ?_))
    (case z_bool => k_is)
    (case z_dict => k_is)
    (case z_enumerate => k_is)
    (case z_int => k_is)
    (case z_isinstance => k_is)
    (case z_len => k_is)
    (case z_list => k_is)
    (case z_max => k_is)
    (case z_min => k_is)
    (case z_range => k_is)
    (case z_reversed => k_is)
    (case z_sorted => k_is)
    (case z_str => k_is)
    (case z_tuple => k_is)
    (case z_zip => k_is)
    (case c_MOST_PARTS => k_is)
